/- Lemmas for the last text. Conditions: those that each names. -/
import Derived.WalkKit
import Derived.Test.YtgmcjddjdidpjaaGreatDoorProg
import Derived.WalkLawsBesides
import Derived.Deep.QuietTactic
import Derived.BigQuiet
import Derived.BigRegion
set_option linter.unusedVariables false
set_option maxRecDepth 100000
set_option maxHeartbeats 1000000
namespace Go.Proofs.YtgmcjddjdidpjaaGreatDoor
open Go.Proofs.Tryz
theorem B0q{B:Nat}{w:World}:Go.RowKit.Below B w w:=Go.RowKit.Below.refl B w
theorem L0q{n:Nat}:n<=n:=Nat.le_refl n
variable {w:World} {C acc b g k n x:Nat} {S:ByteArray}
def pc:Nat->Nat->Nat
 |0,_=>0
 |k+1,C=>pc k C+(C.testBit k).toNat
theorem z0N:∀(k C:Nat),pc k C<=k
 |0,_=>Nat.le_refl _
 |k+1,C=>by have:=z0N k C;have:=Bool.toNat_le (C.testBit k);simp only[pc];omega
def wd(C i:Nat):Nat:=C/2^(64*i)%18446744073709551616
theorem Zp(C i:Nat):wd C i<18446744073709551616:=Nat.mod_lt _ (by decide)
theorem Vq(C i j:Nat):(wd C i).testBit j=(decide (j<64)&&C.testBit (64*i+j)):=by
 unfold wd;rw[show(18446744073709551616:Nat)=2^64 from rfl,Nat.testBit_mod_two_pow,Nat.testBit_div_two_pow,Nat.add_comm j]
theorem Em(C D i:Nat):wd (C&&&D) i=wd C i&&&wd D i:=by
 apply Nat.eq_of_testBit_eq;intro j;rw[Nat.testBit_and,Vq,Vq,Vq,Nat.testBit_and];cases decide (j<64)<;>simp
theorem Ep(C D i:Nat):wd (C|||D) i=wd C i|||wd D i:=by
 apply Nat.eq_of_testBit_eq;intro j;rw[Nat.testBit_or,Vq,Vq,Vq,Nat.testBit_or];cases decide (j<64)<;>simp
def Qj:Nat:=2^256-1
def Zj(C:Nat):Nat:=Qj-C
theorem z6L(C:Nat):Zj C<2^256:=by unfold Zj Qj;omega
theorem Ag(C:Nat)(h:C<2^256)(j:Nat):(Zj C).testBit j=(decide (j<256)&& !C.testBit j):=by
 unfold Zj Qj;rw[Nat.sub_sub,Nat.add_comm 1 C,Nat.testBit_two_pow_sub_succ h]
theorem z6M(C:Nat)(h:C<2^256)(i:Nat)(hi:i<4):wd (Zj C) i=18446744073709551615-wd C i:=by
 apply Nat.eq_of_testBit_eq;intro j;rw[Vq,Ag C h,show 18446744073709551615-wd C i=2^64-(wd C i+1) by have:=Zp C i;omega,Nat.testBit_two_pow_sub_succ (by have:=Zp C i;omega),Vq];by_cases hj:j<64
 ·simp[hj,show 64*i+j<256 by omega]
 ·simp[hj]
theorem Pj(C D:Nat)(hC:C<2^256)(hD:D<2^256)(h0:wd C 0=wd D 0)(h1:wd C 1=wd D 1)(h2:wd C 2=wd D 2)(h3:wd C 3=wd D 3):C=D:=by
 apply Nat.eq_of_testBit_eq;intro j;by_cases hj:j<256
 ·have hw:wd C (j/64)=wd D (j/64):=by
   have:j/64=0∨j/64=1∨j/64=2∨j/64=3:=by omega
   rcases this with e|e|e|e<;>rw[e]<;>assumption
  have a:=Vq C (j/64) (j%64);have b:=Vq D (j/64) (j%64);rw[hw]at a;rw[a]at b;have e:64*(j/64)+j%64=j:=by omega
  simpa [show j%64<64 by omega,e]using b
 ·rw[Nat.testBit_lt_two_pow (Nat.lt_of_lt_of_le hC (Nat.pow_le_pow_right (by decide) (by omega))),Nat.testBit_lt_two_pow (Nat.lt_of_lt_of_le hD (Nat.pow_le_pow_right (by decide) (by omega)))]
def cls(a b c d:Nat):Nat:=a+18446744073709551616*(b+18446744073709551616*(c+18446744073709551616*d))
theorem Pk(a b c d:Nat)(ha:a<18446744073709551616)(hb:b<18446744073709551616)(hc:c<18446744073709551616)(hd:d<18446744073709551616):cls a b c d<2^256:=by
 unfold cls;rw[show(2:Nat)^256=18446744073709551616*(18446744073709551616*(18446744073709551616*18446744073709551616))from by decide+kernel];omega
theorem Pv(a b c d:Nat)(ha:a<18446744073709551616)(hb:b<18446744073709551616)(hc:c<18446744073709551616)(hd:d<18446744073709551616):
  wd (cls a b c d) 0=a/\wd (cls a b c d) 1=b/\wd (cls a b c d) 2=c/\wd (cls a b c d) 3=d:=by
 have e1:(2:Nat)^(64*1)=18446744073709551616:=by decide+kernel
 have e2:(2:Nat)^(64*2)=18446744073709551616*18446744073709551616:=by decide+kernel
 have e3:(2:Nat)^(64*3)=18446744073709551616*18446744073709551616*18446744073709551616:=by decide+kernel
 unfold wd cls;rw[e1,e2,e3,<-Nat.div_div_eq_div_mul,<-Nat.div_div_eq_div_mul,<-Nat.div_div_eq_div_mul,Nat.mul_zero,Nat.pow_zero,Nat.div_one];refine⟨by omega,by omega,by omega,by omega⟩
def spn(lo n:Nat):Nat:=2^lo*(2^n-1)
theorem z6N(lo n j:Nat):(spn lo n).testBit j=(decide (lo<=j)&&decide (j<lo+n)):=by
 unfold spn;rw[Nat.testBit_two_pow_mul,Nat.testBit_two_pow_sub_one];by_cases h:lo<=j
 ·simp[h,show j-lo<n↔j<lo+n by omega]
 ·simp[h]
theorem z6O(lo n:Nat)(h:lo+n<=256):spn lo n<2^256:=by
 unfold spn;have h1:2^lo*2^n<=2^256:=by rw[<-Nat.pow_add];exact Nat.pow_le_pow_right (by decide) h
 have h2:0<2^lo:=Nat.pow_pos (by decide);have h3:2^lo*(2^n-1)<2^lo*2^n:=Nat.mul_lt_mul_of_pos_left (by have:0<2^n:=Nat.pow_pos (by decide);omega) h2;omega
open Go.RowKit
@[reducible] def cv (C:Nat):Value:=.agg #[.int .u64 (wd C 0),.int .u64 (wd C 1),.int .u64 (wd C 2),.int .u64 (wd C 3)]
theorem Py(C D:Nat)(w:World):
  Calls prog 145 #[cv C,cv D] w fun e w'=>e=.returned (cv (C|||D))/\Below w.heap.size w w':=by
 have b0:bits BinOp.or IntKind.u64 (wd C 0:Nat) (wd D 0:Nat)=(wd (C|||D) 0:Nat):=by rw[Ep];exact Go.bits_or_u64_nat _ _ (Zp _ _) (Zp _ _)
 have b1:bits BinOp.or IntKind.u64 (wd C 1:Nat) (wd D 1:Nat)=(wd (C|||D) 1:Nat):=by rw[Ep];exact Go.bits_or_u64_nat _ _ (Zp _ _) (Zp _ _)
 have b2:bits BinOp.or IntKind.u64 (wd C 2:Nat) (wd D 2:Nat)=(wd (C|||D) 2:Nat):=by rw[Ep];exact Go.bits_or_u64_nat _ _ (Zp _ _) (Zp _ _)
 have b3:bits BinOp.or IntKind.u64 (wd C 3:Nat) (wd D 3:Nat)=(wd (C|||D) 3:Nat):=by rw[Ep];exact Go.bits_or_u64_nat _ _ (Zp _ _) (Zp _ _)
 unfold cv;go_enter func145,ntmps145
 go_wp2
 refine wp_loop_rounds 5 ?_;rw[rounds_succ]
 go_wp2
 go_region
 go_wp2
 rw[rounds_succ]
 go_wp2
 go_region
 go_wp2
 rw[rounds_succ]
 go_wp2
 go_region
 go_wp2
 rw[rounds_succ]
 go_wp2
 go_region
 go_wp2
 rw[rounds_succ]
 go_wp2
 refine bodyPost_ret (v:=.agg #[.int .u64 (wd (C|||D) 0:Nat),.int .u64 (wd (C|||D) 1:Nat),.int .u64 (wd (C|||D) 2:Nat),.int .u64 (wd (C|||D) 3:Nat)]) (by simp[results,Tryz.results145,go_sem]) rfl ⟨rfl,?_⟩;exact(((B0q.alloc L0q _).alloc (by simp) _).alloc (by simp;omega) _).drew.drew.drew.drew
theorem z6P(x:Nat)(h:x<18446744073709551616):18446744073709551615^^^x=18446744073709551615-x:=by
 apply Nat.eq_of_testBit_eq;intro j;rw[show 18446744073709551615-x=2^64-(x+1) by omega,Nat.testBit_two_pow_sub_succ (by omega),Nat.testBit_xor,show(18446744073709551615:Nat)=2^64-1 from rfl,Nat.testBit_two_pow_sub_one];by_cases hj:j<64
 ·simp[hj]
 ·rw[Nat.testBit_lt_two_pow (Nat.lt_of_lt_of_le h (show 2^64<=2^j from Nat.pow_le_pow_right (by decide) (by omega)))]
  simp[hj]
theorem Ec(C:Nat)(hC:C<2^256)(i:Nat)(hi:i<4):bits BinOp.xor IntKind.u64 IntKind.u64.max (wd C i:Nat)=(wd (Zj C) i:Nat):=by
 rw[z6M C hC i hi,<-z6P _ (Zp C i)];exact Go.bits_xor_u64_nat 18446744073709551615 _ (by omega) (Zp C i)
theorem Df(C:Nat)(hC:C<2^256)(w:World):
  Calls prog 122 #[cv C] w fun e w'=>e=.returned (cv (Zj C))/\Below w.heap.size w w':=by
 have b0:bits BinOp.xor IntKind.u64 IntKind.u64.max (wd C 0:Nat)=(wd (Zj C) 0:Nat):=Ec C hC 0 (by omega);have b1:bits BinOp.xor IntKind.u64 IntKind.u64.max (wd C 1:Nat)=(wd (Zj C) 1:Nat):=Ec C hC 1 (by omega);have b2:bits BinOp.xor IntKind.u64 IntKind.u64.max (wd C 2:Nat)=(wd (Zj C) 2:Nat):=Ec C hC 2 (by omega);have b3:bits BinOp.xor IntKind.u64 IntKind.u64.max (wd C 3:Nat)=(wd (Zj C) 3:Nat):=Ec C hC 3 (by omega);unfold cv;go_enter func122,ntmps122
 go_wp2
 refine wp_loop_rounds 5 ?_;rw[rounds_succ]
 go_wp2
 rw[rounds_succ]
 go_wp2
 rw[rounds_succ]
 go_wp2
 rw[rounds_succ]
 go_wp2
 rw[rounds_succ]
 go_wp2
 refine bodyPost_ret (v:=.agg #[.int .u64 (wd (Zj C) 0:Nat),.int .u64 (wd (Zj C) 1:Nat),.int .u64 (wd (Zj C) 2:Nat),.int .u64 (wd (Zj C) 3:Nat)]) (by simp[results,Tryz.results122,go_sem]) rfl ⟨rfl,?_⟩;exact((B0q.alloc L0q _).alloc (by simp) _)
def seg(lo b:Nat):Nat:=spn lo (b-lo)
theorem Kv(lo b j:Nat):(seg lo b).testBit j=(decide (lo<=j)&&decide (j<b)):=by
 unfold seg;rw[z6N];by_cases h1:lo<=j
 ·by_cases h2:j<b
  ·simp[h1,h2,show j<lo+(b-lo) by omega]
  ·simp[h1,h2,show ¬j<lo+(b-lo) by omega]
 ·simp[h1]
theorem Pf(lo:Nat):seg lo lo=0:=by simp[seg,spn]
theorem Kw(lo b:Nat)(h:lo<=b):seg lo (b+1)=seg lo b|||2^b:=by
 apply Nat.eq_of_testBit_eq;intro j;rw[Nat.testBit_or,Kv,Kv,Nat.testBit_two_pow];by_cases h1:lo<=j<;>by_cases h2:j<b<;>by_cases h3:b=j<;>simp[h1,h2,h3]<;>omega
theorem Ab(lo b:Nat)(h:b<=256):seg lo b<2^256:=by
 by_cases h1:lo<=b
 ·exact z6O _ _ (by omega)
 ·simp[seg,show b-lo=0 by omega,spn]
theorem El(C b i:Nat)(hb:b<256)(hi:i<4):wd (C|||2^b) i=if b/64=i then wd C i|||2^(b%64)else wd C i:=by
 apply Nat.eq_of_testBit_eq;intro j;rw[Vq,Nat.testBit_or,Nat.testBit_two_pow];split
 ·rename_i h
  rw[Nat.testBit_or,Vq,Nat.testBit_two_pow];by_cases hj:j<64
  ·have:(b=64*i+j)↔(b%64=j):=by omega
   simp[hj,this]
  ·simp[hj];omega
 ·rename_i h
  rw[Vq];by_cases hj:j<64
  ·have:¬(b=64*i+j):=by omega
   simp[hj,this]
  ·simp[hj]
theorem z6Q(C b k:Nat)(hb:b<256)(hk:b/64=k):
  (#[.int .u64 (wd C 0),.int .u64 (wd C 1),.int .u64 (wd C 2),.int .u64 (wd C 3)]:Array Value).setIfInBounds k (.int .u64 (bits BinOp.or IntKind.u64 (wd C k:Nat) (IntKind.u64.wrap (2^(b%64)))))=
  #[.int .u64 (wd (C|||2^b) 0:Nat),.int .u64 (wd (C|||2^b) 1:Nat),.int .u64 (wd (C|||2^b) 2:Nat),.int .u64 (wd (C|||2^b) 3:Nat)]:=by
 have hp:2^(b%64)<2^64:=Nat.pow_lt_pow_right (by decide) (by omega);have hw:IntKind.u64.wrap (2^(b%64))=((2^(b%64):Nat):Int):=by
  rw[IntKind.wrap_u64];have:((2:Int)^(b%64))=((2^(b%64):Nat):Int):=(Int.natCast_pow 2 (b%64)).symm;rw[this];exact Int.emod_eq_of_lt (Int.natCast_nonneg _) (Int.ofNat_lt.2 hp)
 have h:=Go.bits_or_u64_nat (wd C k) (2^(b%64)) (Zp _ _) hp;rw[hw,h,El C b 0 hb (by omega),El C b 1 hb (by omega),El C b 2 hb (by omega),El C b 3 hb (by omega)];subst hk;have:b/64=0∨b/64=1∨b/64=2∨b/64=3:=by omega
 rcases this with e|e|e|e<;>rw[e]<;>rfl
theorem Hz(W:World)(C b k q n:Nat)(hb:b<256)(hk:b/64=k)(hn:n=W.heap.size):
  ((W.alloc (.cells #[.int .u64 (wd C 0),.int .u64 (wd C 1),.int .u64 (wd C 2),.int .u64 (wd C 3)] 51)).drewN q).setCell ⟨n,k,none⟩ (.int .u64 (bits BinOp.or IntKind.u64 (wd C k:Nat) (IntKind.u64.wrap (2^(b%64)))))=
  (W.alloc (.cells #[.int .u64 (wd (C|||2^b) 0:Nat),.int .u64 (wd (C|||2^b) 1:Nat),.int .u64 (wd (C|||2^b) 2:Nat),.int .u64 (wd (C|||2^b) 3:Nat)] 51)).drewN q:=by
 rw[<-z6Q C b k hb hk];exact congrArg (World.drewN · q) (World.setCell_alloc_at _ _ _ _ _ hn)
theorem Ad(lo hi:Nat)(w:World)(h1:lo<=hi)(h2:hi<256):
  Calls prog 184 #[.int .i64 lo,.int .i64 hi] w fun e w'=>e=.returned (cv (spn lo (hi+1-lo)))/\Below w.heap.size w w':=by
 go_enter func184,ntmps184
 go_wp2_with fail
 go_loopw [6] (fun i wr=>∃b q:Nat,lo<=b/\b<=hi+1/\i=.int .i64 b/\wr=((w.alloc (.cells #[.int .u64 0,.int .u64 0,.int .u64 0,.int .u64 0] 51)).alloc (.cells #[.int .u64 (wd (seg lo b) 0:Nat),.int .u64 (wd (seg lo b) 1:Nat),.int .u64 (wd (seg lo b) 2:Nat),.int .u64 (wd (seg lo b) 3:Nat)] 51)).drewN q) (fun i _=>hi+1-(intOf i).toNat)
 case atStart=>exact⟨lo,0,Nat.le_refl _,by omega,rfl,by rw[Pf];rfl⟩
 case round=>
  obtain⟨b,q,hb1,hb2,rfl,rfl⟩:=hrel;by_cases hbh:b<=hi
  ·have hd:b/64=0∨b/64=1∨b/64=2∨b/64=3:=by omega
   rcases hd with hd|hd|hd|hd
   ·have hdI:(b:Int)/64=0:=by omega
    go_wp2_with fail
    go_region
    go_wp2_with fail
    exact⟨⟨b+1,q+1,by omega,by omega,by push_cast;rfl,by rw[Kw lo b hb1];exact Hz _ _ b 0 _ _ (by omega) hd (by simp)⟩,by simp[intOf];omega⟩
   ·have hdI:(b:Int)/64=1:=by omega
    go_wp2_with fail
    go_region
    go_wp2_with fail
    exact⟨⟨b+1,q+1,by omega,by omega,by push_cast;rfl,by rw[Kw lo b hb1];exact Hz _ _ b 1 _ _ (by omega) hd (by simp)⟩,by simp[intOf];omega⟩
   ·have hdI:(b:Int)/64=2:=by omega
    go_wp2_with fail
    go_region
    go_wp2_with fail
    exact⟨⟨b+1,q+1,by omega,by omega,by push_cast;rfl,by rw[Kw lo b hb1];exact Hz _ _ b 2 _ _ (by omega) hd (by simp)⟩,by simp[intOf];omega⟩
   ·have hdI:(b:Int)/64=3:=by omega
    go_wp2_with fail
    go_region
    go_wp2_with fail
    exact⟨⟨b+1,q+1,by omega,by omega,by push_cast;rfl,by rw[Kw lo b hb1];exact Hz _ _ b 3 _ _ (by omega) hd (by simp)⟩,by simp[intOf];omega⟩
  ·have hbe:b=hi+1:=by omega
   subst hbe;have hdec:decide (((hi+1:Nat):Int)<=(hi:Int))=false:=by simp;omega
   have sd:∀(w:World) (q:Nat) (a:Addr) (v:Value),(w.drewN q).setCell a v=(w.setCell a v).drewN q:=fun _ _ _ _=>rfl
   go_wp2_with fail
   refine bodyPost_ret (v:=.agg #[.int .u64 (wd (seg lo (hi+1)) 0:Nat),.int .u64 (wd (seg lo (hi+1)) 1:Nat),.int .u64 (wd (seg lo (hi+1)) 2:Nat),.int .u64 (wd (seg lo (hi+1)) 3:Nat)]) (by simp[results,Tryz.results184,go_sem]) rfl ⟨rfl,?_⟩;exact below_drewN ((B0q.alloc L0q _).alloc (by simp) _) _
def Blk(w:World)(g C:Nat):Prop:=w.heap[g]? =some (.cells #[.int .u64 (wd C 0),.int .u64 (wd C 1),.int .u64 (wd C 2),.int .u64 (wd C 3)] 51)
def st4(w:World)(g D:Nat):World:=(((w.setCell ⟨g,0,none⟩ (.int .u64 (wd D 0))).setCell ⟨g,1,none⟩ (.int .u64 (wd D 1))).setCell ⟨g,2,none⟩ (.int .u64 (wd D 2))).setCell ⟨g,3,none⟩ (.int .u64 (wd D 3))
theorem Blk.cells(h:Blk w g C):w.cell? ⟨g,0,none⟩=some (.int .u64 (wd C 0))/\w.cell? ⟨g,1,none⟩=some (.int .u64 (wd C 1))/\w.cell? ⟨g,2,none⟩=some (.int .u64 (wd C 2))/\w.cell? ⟨g,3,none⟩=some (.int .u64 (wd C 3)):=by
 unfold Blk at h;simp[World.cell?,h]
theorem Blk.thaw(h:Blk w g C):w.frozen? ⟨g,0,none⟩=false/\w.frozen? ⟨g,1,none⟩=false/\w.frozen? ⟨g,2,none⟩=false/\w.frozen? ⟨g,3,none⟩=false:=by
 unfold Blk at h;simp[World.frozen?,h]
theorem Blk.lt(h:Blk w g C):g<w.heap.size:=by
 unfold Blk at h;rcases Nat.lt_or_ge g w.heap.size with h2|h2
 ·exact h2
 ·rw[Array.getElem?_eq_none h2]at h;cases h
theorem Blk.below{w':World}{B:Nat}(h:Blk w g C)(hb:Below B w w')(hg:g<B):Blk w' g C:=(hb.block g hg).trans h
theorem Blk.alloc{w:World}{g C:Nat}(h:Blk w g C)(o:Obj):Blk (w.alloc o) g C:=(Below.heap_alloc w o g h.lt).trans h
theorem Blk.new(w:World)(C:Nat):Blk (w.alloc (.cells #[.int .u64 (wd C 0),.int .u64 (wd C 1),.int .u64 (wd C 2),.int .u64 (wd C 3)] 51)) w.heap.size C:=by
 show(w.heap.push _)[w.heap.size]? =_;simp
theorem Vx(i:Nat):wd 0 i=0:=by simp[wd]
theorem Pg:cv 0=.agg #[.int .u64 0,.int .u64 0,.int .u64 0,.int .u64 0]:=by simp[cv,Vx]
theorem Blk.new0(w:World):Blk (w.alloc (.cells #[.int .u64 0,.int .u64 0,.int .u64 0,.int .u64 0] 51)) w.heap.size 0:=by
 show(w.heap.push _)[w.heap.size]? =_;simp[Vx]
theorem Blk.other{g' D:Nat}(h:Blk w g C)(hne:g≠g'):Blk (st4 w g' D) g C:=by
 unfold Blk st4 at*;rw[Below.heap_setCell _ _ _ _ hne,Below.heap_setCell _ _ _ _ hne,Below.heap_setCell _ _ _ _ hne,Below.heap_setCell _ _ _ _ hne];exact h
theorem Blk.st4{w:World}{g C:Nat}(h:Blk w g C)(D:Nat):Blk (st4 w g D) g D:=by
 unfold Blk at*;unfold Proofs.YtgmcjddjdidpjaaGreatDoor.st4;simp only[World.setCell,Array.getElem?_modify,if_true,Option.map_map];rw[h];simp
theorem Pb(w:World)(g D:Nat):(st4 w g D).heap.size=w.heap.size:=by simp[st4,World.setCell]
theorem Below.st4{B:Nat}{a w:World}(h:Below B a w){g:Nat}(hg:B<=g)(D:Nat):Below B a (st4 w g D):=
 ((((h.setCell (p:=⟨g,0,none⟩) hg _).setCell (p:=⟨g,1,none⟩) hg _).setCell (p:=⟨g,2,none⟩) hg _).setCell (p:=⟨g,3,none⟩) hg _)
theorem below_drewN{B:Nat}{a:World}(h:Below B a w)(q:Nat):Below B a (w.drewN q):=⟨h.os,h.tape,h.output,h.size,h.block⟩
theorem hid{p:Prop}(h:p):Hid p:=h
def mark(b:Nat):Bool:=b == 91||b == 93||b == 92||b == 45||b == 94
def Xf(n:Nat):Nat:=if n<10 then 48+n else 87+n
theorem z0P(b:Nat)(w:World)(hb:b<256):
  Calls prog 246 #[.int .u8 b] w fun e w'=>e=.returned (.bool (mark b))/\w'=w:=by
 have h:∀n:Nat,((b:Int) == (n:Int))=(b == n):=fun n=>by
  by_cases e:b=n
  ·subst e;simp
  ·rw[beq_false_of_ne e];simp;omega
 have h1:((b:Int) == 91)=(b == 91):=h 91;have h2:((b:Int) == 93)=(b == 93):=h 93;have h3:((b:Int) == 92)=(b == 92):=h 92;have h4:((b:Int) == 45)=(b == 45):=h 45;have h5:((b:Int) == 94)=(b == 94):=h 94;clear h;unfold mark;cases k1:b == 91<;>rw[k1]at h1<;>cases k2:b == 93<;>rw[k2]at h2<;>cases k3:b == 92<;>rw[k3]at h3<;>cases k4:b == 45<;>rw[k4]at h4<;>cases k5:b == 94<;>rw[k5]at h5
 all_goals
  go_enter func246,ntmps246
  go_wp2_with fail
  go_ret;exact⟨rfl,rfl⟩
theorem z0Q(b:Nat)(w:World)(hb:b<256):
  Calls prog 247 #[.int .u8 b] w fun e w'=>e=.returned (.bool (decide (32<=b)&&decide (b<=126)))/\w'=w:=by
 by_cases h1:32<=b
 ·have a1:decide (32<=(b:Int))=true:=by simp;omega
  by_cases h2:b<=126
  ·have a2:decide ((b:Int)<=126)=true:=by simp;omega
   rw[decide_eq_true h1,decide_eq_true h2];clear h1 h2;go_enter func247,ntmps247
   go_wp2_with fail
   go_ret;exact⟨rfl,rfl⟩
  ·have a2:decide ((b:Int)<=126)=false:=by simp;omega
   rw[decide_eq_true h1,decide_eq_false h2];clear h1 h2;go_enter func247,ntmps247
   go_wp2_with fail
   go_ret;exact⟨rfl,rfl⟩
 ·have a1:decide (32<=(b:Int))=false:=by simp;omega
  rw[decide_eq_false h1];clear h1;go_enter func247,ntmps247
  go_wp2_with fail
  go_ret;exact⟨rfl,rfl⟩
def At(S:ByteArray)(k x:Nat):Prop:=∃h:k<S.size,(S[k]).toNat=x
theorem At.lt(h:At S k x):k<S.size:=h.1
theorem At.u8(h:At S k x):x<256:=by
 obtain⟨h1,rfl⟩:=h;exact(S[k]).toNat_lt
theorem z6R(x b:Nat):((x:Int) == (b:Int))=(x == b):=by
 by_cases e:x=b
 ·subst e;simp
 ·rw[beq_false_of_ne e];simp;omega
theorem z0R(S:ByteArray)(k x b:Nat)(v:Bool)(w:World)(hb:b<256)(h:At S k x)(hv:(x == b)=v)(hS:S.size<=9007199254740992):
  Calls prog 189 #[.string S,.int .i64 k,.int .u8 b] w fun e w'=>e=.returned (.bool v)/\Below w.heap.size w w':=by
 obtain⟨hk,hx⟩:=h;have hkI:(k:Int)<(S.size:Int):=by omega
 have hq:=z6R x b;rw[hv]at hq;go_enter func189,ntmps189
 go_wp2_with fail
 go_ret;exact⟨rfl,Below.refl _ _⟩
theorem z6S:∀q:Nat,q<16->∀r:Nat,r<16->bits BinOp.or IntKind.u8 ((q:Int)*16) (r:Int)=((16*q+r:Nat):Int):=by decide+kernel
theorem Ph(S:ByteArray)(k d:Nat)(w:World)(hd:d<16)(h:At S k (Xf d))(hS:S.size<=9007199254740992):
  Calls prog 274 #[.string S,.int .i64 k] w fun e w'=>e=.returned (.tuple #[.int .u8 d,.bool true])/\Below w.heap.size w w':=by
 obtain⟨x,hxd⟩:∃x,x=Xf d:=⟨_,rfl⟩;rw[<-hxd]at h;obtain⟨hk,hx⟩:=h;have hkI:(k:Int)<(S.size:Int):=by omega
 have a0:decide ((S.size:Int)<=(k:Int))=false:=by simp;omega
 by_cases h10:d<10
 ·have hx2:x=48+d:=by rw[hxd,Xf,if_pos h10]
  have a1:decide (48<=(x:Int))=true:=by simp;omega
  have a2:decide ((x:Int)<=57)=true:=by simp;omega
  have a3:IntKind.u8.wrap ((x:Int)-48)=(d:Int):=by rw[IntKind.wrap_u8];omega
  clear hxd hx2;go_enter func274,ntmps274
  go_wp2_with fail
  go_ret2
  exact⟨rfl,Below.refl _ _⟩
 ·have hx2:x=87+d:=by rw[hxd,Xf,if_neg h10]
  have a1:decide (48<=(x:Int))=true:=by simp;omega
  have a2:decide ((x:Int)<=57)=false:=by simp;omega
  have a4:decide (97<=(x:Int))=true:=by simp;omega
  have a5:decide ((x:Int)<=102)=true:=by simp;omega
  have a3:IntKind.u8.wrap ((x:Int)-97)=((d-10:Nat):Int):=by rw[IntKind.wrap_u8];omega
  have a6:IntKind.u8.wrap (((d-10:Nat):Int)+10)=(d:Int):=by rw[IntKind.wrap_u8];omega
  clear hxd hx2;go_enter func274,ntmps274
  go_wp2_with fail
  go_ret2
  exact⟨rfl,Below.refl _ _⟩
theorem z6T(S:ByteArray)(k q r c:Nat)(w:World)(hc:16*q+r=c)(hq:q<16)(hr:r<16)(h:At S k (Xf q))(h2:At S (k+1) (Xf r))(hS:S.size<=9007199254740992):
  Calls prog 263 #[.string S,.int .i64 k] w fun e w'=>e=.returned (.tuple #[.int .u8 c,.int .i64 ((k:Int)+2),.nilIface])/\Below w.heap.size w w':=by
 have H1:Hid (∀w:World,Calls prog 274 #[.string S,.int .i64 k] w fun e w'=>e=.returned (.tuple #[.int .u8 q,.bool true])/\Below w.heap.size w w'):=fun w=>Ph S k q w hq h hS
 have H2:Hid (∀w:World,Calls prog 274 #[.string S,.int .i64 ((k:Int)+1)] w fun e w'=>e=.returned (.tuple #[.int .u8 r,.bool true])/\Below w.heap.size w w'):=fun w=>by
  have h:=Ph S (k+1) r w hr h2 hS;rw[show((k+1:Nat):Int)=(k:Int)+1 by omega]at h;exact h
 have hk:=h.lt;have ho:=z6S q hq r hr;rw[hc]at ho;clear hc;have hks:(k:Int)+2<=9007199254740994:=by omega
 clear h h2;go_enter func263,ntmps263
 go_wp2_with fail
 refine(H1.out _).mono ?_;rintro e w1 ⟨rfl,hb1⟩;have HB1:Hid (Below w.heap.size w w1):=hb1;clear hb1
 go_wp2_with fail
 refine(H2.out _).mono ?_;rintro e w2 ⟨rfl,hb2⟩;have HB2:Hid (Below w.heap.size w w2):=HB1.out.trans (hb2.mono HB1.out.size);clear hb2
 go_wp2_with fail
 go_ret3
 exact⟨rfl,HB2.out⟩
def bt(S:ByteArray)(k:Nat):Option Nat:=if h:k<S.size then some (S[k]).toNat else none
theorem Zd(h:bt S k=some x):At S k x:=by
 unfold bt at h;split at h
 ·rename_i hk;exact⟨hk,by simpa using h⟩
 ·cases h
theorem Yd(h:At S k x):bt S k=some x:=by
 obtain⟨hk,hx⟩:=h;unfold bt;rw[dif_pos hk,hx]
theorem Xj(h:bt S k=none):S.size<=k:=by
 unfold bt at h;split at h
 ·cases h
 ·omega
theorem Jj(h:S.size<=k):bt S k=none:=by
 unfold bt;rw[dif_neg (by omega)]
theorem Qb(h:bt S k=some x):k<S.size/\x<256:=⟨(Zd h).lt,(Zd h).u8⟩
def flt(S:ByteArray)(k:Nat):Nat×Nat:=if S.size<=k then(3,S.size)else(4,k)
def dgv(x:Nat):Option Nat:=if 48<=x/\x<=57 then some (x-48)else if 97<=x/\x<=102 then some (x-87)else none
theorem z6U{d:Nat}(h:dgv x=some d):d<16/\x=Xf d:=by
 unfold dgv at h;unfold Xf;split at h
 ·simp at h;subst h;refine⟨by omega,?_⟩;rw[if_pos (by omega)];omega
 ·split at h
  ·simp at h;subst h;refine⟨by omega,?_⟩;rw[if_neg (by omega)];omega
  ·cases h
def dg(S:ByteArray)(k:Nat):Option Nat:=(bt S k).bind dgv
abbrev Rs:=(Nat×Nat) ⊕ (Nat×Nat)
def digs(S:ByteArray)(k:Nat):Rs:=
 match dg S k with
 |none=>.inl (flt S k)
 |some q=>match dg S (k+1)with
  |none=>.inl (flt S (k+1))
  |some r=>.inr (16*q+r,k+2)
def Uf(x:Nat):Option Nat:=if x=110 then some 10 else if x=114 then some 13 else if x=116 then some 9 else if mark x then some x else none
def esc(S:ByteArray)(k:Nat):Rs:=
 match bt S k with
 |none=>.inl (flt S k)
 |some x=>match Uf x with
  |some b=>.inr (b,k+1)
  |none=>if x=120 then digs S (k+1)else .inl (flt S k)
def Np(x:Nat):Bool:= !mark x&&(decide (32<=x)&&decide (x<=126))
def sg(S:ByteArray)(k:Nat):Rs:=
 match bt S k with
 |none=>.inl (flt S k)
 |some x=>if x=92 then esc S (k+1)else if Np x=true then .inr (x,k+1)else .inl (flt S k)
def mbr(S:ByteArray)(k:Nat):Rs:=
 match sg S k with
 | .inl e=>.inl e
 | .inr (lo,n)=>
   if bt S n=some 45 then
    match sg S (n+1)with
    | .inl e=>.inl e
    | .inr (hi,m)=>if hi<lo then .inl (flt S k)else .inr (seg lo (hi+1),m)
   else .inr (seg lo (lo+1),n)
def mems(S:ByteArray):Nat->Nat->Nat->Rs
 |0,k,_=>.inl (flt S k)
 |f+1,k,acc=>
  if bt S k=some 93 then .inr (acc,k+1)else
  match mbr S k with
  | .inl e=>.inl e
  | .inr (X,n)=>mems S f n (acc|||X)
def mm(S:ByteArray)(k acc:Nat):Rs:=mems S (S.size+1-k) k acc
def Vy(S:ByteArray):Rs:=
 if bt S 0=some 91 then
  if bt S 1=some 94 then
   match mm S 2 0 with
   | .inl e=>.inl e
   | .inr (C,n)=>.inr (Zj C,n)
  else mm S 1 0
 else .inl (flt S 0)
theorem Am(h:digs S k=.inr (b,n)):∃q r,dg S k=some q/\dg S (k+1)=some r/\b=16*q+r/\n=k+2:=by
 unfold digs at h;split at h
 ·cases h
 ·rename_i q hq
  split at h
  ·cases h
  ·rename_i r hr
   simp at h;exact⟨q,r,hq,hr,h.1.symm,h.2.symm⟩
theorem Jk{d:Nat}(h:dg S k=some d):d<16/\At S k (Xf d):=by
 unfold dg at h;cases hb:bt S k with
 |none=>rw[hb]at h;cases h
 |some x=>
  rw[hb]at h;obtain⟨h1,h2⟩:=z6U (show dgv x=some d from h);exact⟨h1,h2▸Zd hb⟩
theorem z6V(h:Uf x=some b)(hx:x<256):b<256:=by
 unfold Uf at h
 repeat(split at h;(simp at h;omega))
 cases h
theorem z0S(h:esc S k=.inr (b,n)):b<256/\k<n/\n<=S.size:=by
 unfold esc at h;split at h
 ·cases h
 ·rename_i x hx
  have h1:=Qb hx;split at h
  ·rename_i b' hb'
   simp at h;have:=z6V hb' h1.2;omega
  ·split at h
   ·obtain⟨q,r,hq,hr,rfl,rfl⟩:=Am h
    have a1:=Jk hq;have a2:=Jk hr;have:=a2.2.lt;omega
   ·cases h
theorem Fh(h:sg S k=.inr (b,n)):b<256/\k<n/\n<=S.size:=by
 unfold sg at h;split at h
 ·cases h
 ·rename_i x hx
  have h1:=Qb hx;split at h
  ·have:=z0S h;omega
  ·split at h
   ·simp at h;omega
   ·cases h
theorem Ky{X:Nat}(h:mbr S k=.inr (X,n)):X<2^256/\k<n/\n<=S.size:=by
 unfold mbr at h;split at h
 ·cases h
 ·rename_i lo m hs
  have h1:=Fh hs;split at h
  ·split at h
   ·cases h
   ·rename_i hi m2 hs2
    have h2:=Fh hs2;split at h
    ·cases h
    ·simp at h
     exact⟨h.1▸Ab _ _ (by omega),by omega,by omega⟩
  ·simp at h
   exact⟨h.1▸Ab _ _ (by omega),by omega,by omega⟩
theorem Pd(S:ByteArray):∀(f g k acc:Nat),S.size+1-k<=f->S.size+1-k<=g->mems S f k acc=mems S g k acc
 |0,0,_,_,_,_=>rfl
 |0,g+1,k,acc,hf,_=>by
  have hb:=Jj (S:=S) (k:=k) (by omega);have hm:mbr S k=.inl (flt S k):=by unfold mbr sg;rw[hb]
  rw[mems,mems,hb,hm];simp
 |f+1,0,k,acc,_,hg=>by
  have hb:=Jj (S:=S) (k:=k) (by omega);have hm:mbr S k=.inl (flt S k):=by unfold mbr sg;rw[hb]
  rw[mems,mems,hb,hm];simp
 |f+1,g+1,k,acc,hf,hg=>by
  rw[mems,mems];split
  ·rfl
  ·cases hm:mbr S k with
   |inl e=>rfl
   |inr p=>
    obtain⟨X,n⟩:=p;have:=Ky hm;exact Pd S f g n _ (by omega) (by omega)
theorem Ap(S:ByteArray)(k acc:Nat):mm S k acc=(if bt S k=some 93 then .inr (acc,k+1)else
  match mbr S k with
  | .inl e=>.inl e
  | .inr (X,n)=>mm S n (acc|||X)):=by
 unfold mm;rw[Pd S (S.size+1-k) (S.size+1-k+1) k acc (by omega) (by omega),mems];split
 ·rfl
 ·cases hm:mbr S k with
  |inl e=>rfl
  |inr p=>
   obtain⟨X,n⟩:=p;have:=Ky hm;exact Pd S _ _ n _ (by omega) (by omega)
theorem Pp(h:bt S k=some 93):mm S k acc=.inr (acc,k+1):=by rw[Ap,if_pos h]
theorem z0T{e:Nat×Nat}(h:¬bt S k=some 93)(hm:mbr S k=.inl e):mm S k acc=.inl e:=by rw[Ap,if_neg h,hm]
theorem Pc{X:Nat}(h:¬bt S k=some 93)(hm:mbr S k=.inr (X,n)):mm S k acc=mm S n (acc|||X):=by rw[Ap,if_neg h,hm]
theorem z0U(S:ByteArray):∀(f k acc C n:Nat),acc<2^256->mems S f k acc=.inr (C,n)->C<2^256/\k<n/\n<=S.size
 |0,k,acc,C,n,_,h=>by cases h
 |f+1,k,acc,C,n,ha,h=>by
  rw[mems]at h;split at h
  ·rename_i hb
   have:=(Qb hb).1;simp at h;omega
  ·cases hm:mbr S k with
   |inl e=>rw[hm]at h;cases h
   |inr p=>
    obtain⟨X,m⟩:=p;rw[hm]at h;have h1:=Ky hm;have h2:=z0U S f m _ C n (Nat.or_lt_two_pow ha h1.1) h;omega
theorem z0V(ha:acc<2^256)(h:mm S k acc=.inr (C,n)):C<2^256/\k<n/\n<=S.size:=z0U S _ k acc C n ha h
def flv(p:Nat):Value:=.iface 81 (.pointer (some ⟨p,0,none⟩))
def Flt(w:World)(p:Nat)(c:Nat×Nat):Prop:=w.heap[p]? =some (.cells #[.int .i64 (c.1:Int),.int .i64 (c.2:Int)] 84)
theorem Flt.lt{p:Nat}{c:Nat×Nat}(h:Flt w p c):p<w.heap.size:=by
 unfold Flt at h;rcases Nat.lt_or_ge p w.heap.size with h2|h2
 ·exact h2
 ·rw[Array.getElem?_eq_none h2]at h;cases h
theorem Flt.alloc{w:World}{p:Nat}{c:Nat×Nat}(h:Flt w p c)(o:Obj):Flt (w.alloc o) p c:=(Below.heap_alloc w o p h.lt).trans h
theorem Flt.new(w:World)(c:Nat×Nat):Flt (w.alloc (.cells #[.int .i64 (c.1:Int),.int .i64 (c.2:Int)] 84)) w.heap.size c:=by
 show(w.heap.push _)[w.heap.size]? =_;simp
def Bad(z:Value)(c:Nat×Nat)(w:World)(e:Ending)(w':World):Prop:=∃p,e=.returned (.tuple #[z,.int .i64 0,flv p])/\Hid (w.heap.size<=p/\Flt w' p c/\Below w.heap.size w w')
theorem z6W(S:ByteArray)(k:Nat)(w:World)(hS:S.size<=9007199254740992)(hk:k<=9007199254740999):
  Calls prog 190 #[.string S,.int .i64 k] w fun e w'=>e=.returned (flv w.heap.size)/\Flt w' w.heap.size (flt S k)/\Below w.heap.size w w':=by
 by_cases h:S.size<=k
 ·have a0:decide ((S.size:Int)<=(k:Int))=true:=by simp;omega
  have HF:Hid (flt S k=(3,S.size)):=by show _=_;unfold flt;rw[if_pos h]
  go_enter func190,ntmps190
  go_wp2_with fail
  go_ret;rw[HF.out];exact⟨rfl,Flt.new w (3,S.size),B0q.alloc L0q _⟩
 ·have a0:decide ((S.size:Int)<=(k:Int))=false:=by simp;omega
  have HF:Hid (flt S k=(4,k)):=by show _=_;unfold flt;rw[if_neg h]
  go_enter func190,ntmps190
  go_wp2_with fail
  go_ret;rw[HF.out];exact⟨rfl,Flt.new w (4,k),B0q.alloc L0q _⟩
theorem z0W(S:ByteArray)(k b:Nat)(w:World)(h:S.size<=k)(hS:S.size<=9007199254740992):
  Calls prog 189 #[.string S,.int .i64 k,.int .u8 b] w fun e w'=>e=.returned (.bool false)/\Below w.heap.size w w':=by
 have a0:decide ((k:Int)<(S.size:Int))=false:=by simp;omega
 go_enter func189,ntmps189
 go_wp2_with fail
 go_ret;exact⟨rfl,Below.refl _ _⟩
theorem Fd(S:ByteArray)(k b:Nat)(w:World)(h:bt S k=some b)(hS:S.size<=9007199254740992):
  Calls prog 189 #[.string S,.int .i64 k,.int .u8 b] w fun e w'=>e=.returned (.bool true)/\Below w.heap.size w w':=
 z0R S k b b true w (Qb h).2 (Zd h) (by simp) hS
theorem Kg(S:ByteArray)(k b:Nat)(w:World)(hb:b<256)(h:¬bt S k=some b)(hS:S.size<=9007199254740992):
  Calls prog 189 #[.string S,.int .i64 k,.int .u8 b] w fun e w'=>e=.returned (.bool false)/\Below w.heap.size w w':=by
 cases hx:bt S k with
 |none=>exact z0W S k b w (Xj hx) hS
 |some x=>exact z0R S k x b false w hb (Zd hx) (beq_false_of_ne (fun e=>h (by rw[hx,e]))) hS
theorem z0X(S:ByteArray)(k:Nat)(w:World)(h:dg S k=none)(hS:S.size<=9007199254740992):
  Calls prog 274 #[.string S,.int .i64 k] w fun e w'=>e=.returned (.tuple #[.int .u8 0,.bool false])/\Below w.heap.size w w':=by
 cases hx:bt S k with
 |none=>
  have:=Xj hx;have a0:decide ((S.size:Int)<=(k:Int))=true:=by simp;omega
  clear h hx;go_enter func274,ntmps274
  go_wp2_with fail
  go_ret2
  exact⟨rfl,Below.refl _ _⟩
 |some x=>
  have hd:dgv x=none:=by unfold dg at h;rw[hx]at h;exact h
  obtain⟨hk,hxx⟩:=Zd hx;have hkI:(k:Int)<(S.size:Int):=by omega
  have a0:decide ((S.size:Int)<=(k:Int))=false:=by simp;omega
  have hc:x<48∨(57<x/\x<97)∨102<x:=by
   unfold dgv at hd;split at hd
   ·cases hd
   ·split at hd
    ·cases hd
    ·omega
  clear h hx hd;rcases hc with h1|h1|h1
  ·have a1:decide (48<=(x:Int))=false:=by simp;omega
   have a2:decide (97<=(x:Int))=false:=by simp;omega
   clear h1;go_enter func274,ntmps274
   go_wp2_with fail
   go_ret2
   exact⟨rfl,Below.refl _ _⟩
  ·have a1:decide (48<=(x:Int))=true:=by simp;omega
   have a3:decide ((x:Int)<=57)=false:=by simp;omega
   have a2:decide (97<=(x:Int))=false:=by simp;omega
   clear h1;go_enter func274,ntmps274
   go_wp2_with fail
   go_ret2
   exact⟨rfl,Below.refl _ _⟩
  ·have a1:decide (48<=(x:Int))=true:=by simp;omega
   have a3:decide ((x:Int)<=57)=false:=by simp;omega
   have a2:decide (97<=(x:Int))=true:=by simp;omega
   have a4:decide ((x:Int)<=102)=false:=by simp;omega
   clear h1;go_enter func274,ntmps274
   go_wp2_with fail
   go_ret2
   exact⟨rfl,Below.refl _ _⟩
theorem Fm(S:ByteArray)(k:Nat)(c:Nat×Nat)(w0 w:World)(h:flt S k=c)(hS:S.size<=9007199254740992)(hk:k<=9007199254740999)(hb:Below w0.heap.size w0 w):
  Calls prog 190 #[.string S,.int .i64 k] w fun e w'=>∃p,e=.returned (flv p)/\Hid (w0.heap.size<=p/\Flt w' p c/\Below w0.heap.size w0 w'):=
 (z6W S k w hS hk).mono fun e w' ⟨h1,h2,h3⟩=>⟨_,h1,hb.size,h▸h2,hb.trans (h3.mono hb.size)⟩
theorem z6X(S:ByteArray)(k:Nat)(c:Nat×Nat)(w:World)(h:digs S k=.inl c)(hS:S.size<=9007199254740992)(hk:k<=9007199254740998):
  Calls prog 263 #[.string S,.int .i64 k] w fun e w'=>Bad (.int .u8 0) c w e w':=by
 unfold digs at h;cases hq:dg S k with
 |none=>
  rw[hq]at h;simp at h;have H1:Hid (∀w:World,Calls prog 274 #[.string S,.int .i64 k] w fun e w'=>e=.returned (.tuple #[.int .u8 0,.bool false])/\Below w.heap.size w w'):=fun w=>z0X S k w hq hS
  have HF:Hid (flt S k=c):=h;clear h hq;go_enter func263,ntmps263
  go_wp2_with fail
  refine(H1.out _).mono ?_;rintro e w1 ⟨rfl,hb1⟩;have HB1:Hid (Below w.heap.size w w1):=hb1;clear hb1
  go_wp2_with fail
  refine(Fm S k c w _ HF.out hS (by omega) HB1.out).mono ?_;rintro e w2 ⟨p,rfl,HP⟩;unfold flv
  go_wp2_with fail
  go_ret3
  exact⟨p,rfl,HP⟩
 |some q=>
  rw[hq]at h;simp only at h;obtain⟨hq1,hq2⟩:=Jk hq;cases hr:dg S (k+1)with
  |some r=>rw[hr]at h;cases h
  |none=>
   rw[hr]at h;simp at h;have H1:Hid (∀w:World,Calls prog 274 #[.string S,.int .i64 k] w fun e w'=>e=.returned (.tuple #[.int .u8 q,.bool true])/\Below w.heap.size w w'):=fun w=>Ph S k q w hq1 hq2 hS
   have H2:Hid (∀w:World,Calls prog 274 #[.string S,.int .i64 ((k:Int)+1)] w fun e w'=>e=.returned (.tuple #[.int .u8 0,.bool false])/\Below w.heap.size w w'):=fun w=>by
    have h:=z0X S (k+1) w hr hS;rw[show((k+1:Nat):Int)=(k:Int)+1 by omega]at h;exact h
   have H3:Hid (∀w':World,Below w.heap.size w w'->Calls prog 190 #[.string S,.int .i64 ((k:Int)+1)] w' fun e w'=>∃p,e=.returned (flv p)/\Hid (w.heap.size<=p/\Flt w' p c/\Below w.heap.size w w')):=fun w' hb=>by
    have h:=Fm S (k+1) c w w' h hS (by omega) hb;rw[show((k+1:Nat):Int)=(k:Int)+1 by omega]at h;exact h
   have hkk:=hq2.lt;have hki:(k:Int)+1<=9007199254740994:=by omega
   clear h hr hq hq2;go_enter func263,ntmps263
   go_wp2_with fail
   refine(H1.out _).mono ?_;rintro e w1 ⟨rfl,hb1⟩;have HB1:Hid (Below w.heap.size w w1):=hb1;clear hb1
   go_wp2_with fail
   refine(H2.out _).mono ?_;rintro e w2 ⟨rfl,hb2⟩;have HB2:Hid (Below w.heap.size w w2):=HB1.out.trans (hb2.mono HB1.out.size);clear hb2
   go_wp2_with fail
   refine(H3.out _ HB2.out).mono ?_;rintro e w3 ⟨p,rfl,HP⟩;unfold flv
   go_wp2_with fail
   go_ret3
   exact⟨p,rfl,HP⟩
theorem z6Y(S:ByteArray)(k b n:Nat)(w:World)(h:digs S k=.inr (b,n))(hS:S.size<=9007199254740992):
  Calls prog 263 #[.string S,.int .i64 k] w fun e w'=>e=.returned (.tuple #[.int .u8 b,.int .i64 n,.nilIface])/\Below w.heap.size w w':=by
 obtain⟨q,r,hq,hr,hb,hn⟩:=Am h;have h2:=z6T S k q r b w hb.symm (Jk hq).1 (Jk hr).1 (Jk hq).2 (Jk hr).2 hS;rw[show(k:Int)+2=(n:Int) by omega]at h2;exact h2
end Go.Proofs.YtgmcjddjdidpjaaGreatDoor
