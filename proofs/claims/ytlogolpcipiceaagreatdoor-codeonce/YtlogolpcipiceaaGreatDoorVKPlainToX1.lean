/- Lemmas for the last text. Conditions: those that each names. -/
import Derived.WalkKit
import Derived.Test.YtlogolpcipiceaaGreatDoorProg
import Derived.WalkLawsBesides
import Derived.Deep.QuietTactic
import Derived.BigQuiet
import Derived.BigRegion
import Derived.Lib.Bytealg
import Derived.LaidEql
import Derived.Stop.Asserts
import Derived.RowKitTokens
set_option linter.unusedVariables false
set_option maxRecDepth 100000
set_option maxHeartbeats 1000000
namespace Go.Proofs.YtlogolpcipiceaaGreatDoor
open Go.Proofs.Tryz
theorem B0q{B:Nat}{w:World}:Go.RowKit.Below B w w:=Go.RowKit.Below.refl B w
theorem L0q{n:Nat}:n<=n:=Nat.le_refl n
variable {w:World} {B C acc b d g k n p x:Nat} {S:ByteArray} {c:Nat×Nat}
def m0:Nat->Nat
 |0=>0
 |n+1=>256*m0 n+85
def m1:Nat->Nat
 |0=>0
 |n+1=>256*m1 n+51
def m2:Nat->Nat
 |0=>0
 |n+1=>256*m2 n+15
def wd(C i:Nat):Nat:=C/2^(64*i)%18446744073709551616
theorem Xq(C i:Nat):wd C i<18446744073709551616:=Nat.mod_lt _ (by decide)
theorem Vl(C i j:Nat):(wd C i).testBit j=(decide (j<64)&&C.testBit (64*i+j)):=by
 unfold wd;rw[show(18446744073709551616:Nat)=2^64 from rfl,Nat.testBit_mod_two_pow,Nat.testBit_div_two_pow,Nat.add_comm j]
theorem Av(C D i:Nat):wd (C&&&D) i=wd C i&&&wd D i:=by
 apply Nat.eq_of_testBit_eq;intro j;rw[Nat.testBit_and,Vl,Vl,Vl,Nat.testBit_and];cases decide (j<64)<;>simp
def Hb:Nat:=2^256-1
def Zh(C:Nat):Nat:=Hb-C
theorem Hh(C:Nat)(h:C<2^256)(j:Nat):(Zh C).testBit j=(decide (j<256)&& !C.testBit j):=by
 unfold Zh Hb;rw[Nat.sub_sub,Nat.add_comm 1 C,Nat.testBit_two_pow_sub_succ h]
theorem z5m(C:Nat)(h:C<2^256)(i:Nat)(hi:i<4):wd (Zh C) i=18446744073709551615-wd C i:=by
 apply Nat.eq_of_testBit_eq;intro j;rw[Vl,Hh C h,show 18446744073709551615-wd C i=2^64-(wd C i+1) by have:=Xq C i;omega,Nat.testBit_two_pow_sub_succ (by have:=Xq C i;omega),Vl];by_cases hj:j<64
 ·simp[hj,show 64*i+j<256 by omega]
 ·simp[hj]
theorem Tl(C D:Nat)(hC:C<2^256)(hD:D<2^256)(h0:wd C 0=wd D 0)(h1:wd C 1=wd D 1)(h2:wd C 2=wd D 2)(h3:wd C 3=wd D 3):C=D:=by
 apply Nat.eq_of_testBit_eq;intro j;by_cases hj:j<256
 ·have hw:wd C (j/64)=wd D (j/64):=by
   have:j/64=0∨j/64=1∨j/64=2∨j/64=3:=by omega
   rcases this with e|e|e|e<;>rw[e]<;>assumption
  have a:=Vl C (j/64) (j%64);have b:=Vl D (j/64) (j%64);rw[hw]at a;rw[a]at b;have e:64*(j/64)+j%64=j:=by omega
  simpa [show j%64<64 by omega,e]using b
 ·rw[Nat.testBit_lt_two_pow (Nat.lt_of_lt_of_le hC (Nat.pow_le_pow_right (by decide) (by omega))),Nat.testBit_lt_two_pow (Nat.lt_of_lt_of_le hD (Nat.pow_le_pow_right (by decide) (by omega)))]
def cls(a b c d:Nat):Nat:=a+18446744073709551616*(b+18446744073709551616*(c+18446744073709551616*d))
theorem z5n(a b c d:Nat)(ha:a<18446744073709551616)(hb:b<18446744073709551616)(hc:c<18446744073709551616)(hd:d<18446744073709551616):cls a b c d<2^256:=by
 unfold cls;rw[show(2:Nat)^256=18446744073709551616*(18446744073709551616*(18446744073709551616*18446744073709551616))from by decide+kernel];omega
theorem z5o(a b c d:Nat)(ha:a<18446744073709551616)(hb:b<18446744073709551616)(hc:c<18446744073709551616)(hd:d<18446744073709551616):
  wd (cls a b c d) 0=a/\wd (cls a b c d) 1=b/\wd (cls a b c d) 2=c/\wd (cls a b c d) 3=d:=by
 have e1:(2:Nat)^(64*1)=18446744073709551616:=by decide+kernel
 have e2:(2:Nat)^(64*2)=18446744073709551616*18446744073709551616:=by decide+kernel
 have e3:(2:Nat)^(64*3)=18446744073709551616*18446744073709551616*18446744073709551616:=by decide+kernel
 unfold wd cls;rw[e1,e2,e3,<-Nat.div_div_eq_div_mul,<-Nat.div_div_eq_div_mul,<-Nat.div_div_eq_div_mul,Nat.mul_zero,Nat.pow_zero,Nat.div_one];refine⟨by omega,by omega,by omega,by omega⟩
def spn(lo n:Nat):Nat:=2^lo*(2^n-1)
theorem z5p(lo n j:Nat):(spn lo n).testBit j=(decide (lo<=j)&&decide (j<lo+n)):=by
 unfold spn;rw[Nat.testBit_two_pow_mul,Nat.testBit_two_pow_sub_one];by_cases h:lo<=j
 ·simp[h,show j-lo<n↔j<lo+n by omega]
 ·simp[h]
theorem z5q(lo n:Nat)(h:lo+n<=256):spn lo n<2^256:=by
 unfold spn;have h1:2^lo*2^n<=2^256:=by rw[<-Nat.pow_add];exact Nat.pow_le_pow_right (by decide) h
 have h2:0<2^lo:=Nat.pow_pos (by decide);have h3:2^lo*(2^n-1)<2^lo*2^n:=Nat.mul_lt_mul_of_pos_left (by have:0<2^n:=Nat.pow_pos (by decide);omega) h2;omega
open Go.RowKit
@[reducible] def cv (C:Nat):Value:=.agg #[.int .u64 (wd C 0),.int .u64 (wd C 1),.int .u64 (wd C 2),.int .u64 (wd C 3)]
theorem z5r(x:Nat)(h:x<18446744073709551616):18446744073709551615^^^x=18446744073709551615-x:=by
 apply Nat.eq_of_testBit_eq;intro j;rw[show 18446744073709551615-x=2^64-(x+1) by omega,Nat.testBit_two_pow_sub_succ (by omega),Nat.testBit_xor,show(18446744073709551615:Nat)=2^64-1 from rfl,Nat.testBit_two_pow_sub_one];by_cases hj:j<64
 ·simp[hj]
 ·rw[Nat.testBit_lt_two_pow (Nat.lt_of_lt_of_le h (show 2^64<=2^j from Nat.pow_le_pow_right (by decide) (by omega)))]
  simp[hj]
theorem Aw(C:Nat)(hC:C<2^256)(i:Nat)(hi:i<4):bits BinOp.xor IntKind.u64 IntKind.u64.max (wd C i:Nat)=(wd (Zh C) i:Nat):=by
 rw[z5m C hC i hi,<-z5r _ (Xq C i)];exact Go.bits_xor_u64_nat 18446744073709551615 _ (by omega) (Xq C i)
theorem Wq(C:Nat)(hC:C<2^256)(w:World):
  Calls prog 194 #[cv C] w fun e w'=>e=.returned (cv (Zh C))/\Below w.heap.size w w':=by
 have b0:bits BinOp.xor IntKind.u64 IntKind.u64.max (wd C 0:Nat)=(wd (Zh C) 0:Nat):=Aw C hC 0 (by omega);have b1:bits BinOp.xor IntKind.u64 IntKind.u64.max (wd C 1:Nat)=(wd (Zh C) 1:Nat):=Aw C hC 1 (by omega);have b2:bits BinOp.xor IntKind.u64 IntKind.u64.max (wd C 2:Nat)=(wd (Zh C) 2:Nat):=Aw C hC 2 (by omega);have b3:bits BinOp.xor IntKind.u64 IntKind.u64.max (wd C 3:Nat)=(wd (Zh C) 3:Nat):=Aw C hC 3 (by omega);unfold cv;go_enter func194,ntmps194
 go_wp2
 refine wp_loop_rounds 5 ?_;rw[rounds_succ]
 go_wp2
 rw[rounds_succ]
 go_wp2
 rw[rounds_succ]
 go_wp2
 rw[rounds_succ]
 go_wp2
 rw[rounds_succ]
 go_wp2
 refine bodyPost_ret (v:=.agg #[.int .u64 (wd (Zh C) 0:Nat),.int .u64 (wd (Zh C) 1:Nat),.int .u64 (wd (Zh C) 2:Nat),.int .u64 (wd (Zh C) 3:Nat)]) (by simp[results,Tryz.results194,go_sem]) rfl ⟨rfl,?_⟩;exact((B0q.alloc L0q _).alloc (by simp) _)
def seg(lo b:Nat):Nat:=spn lo (b-lo)
theorem Fx(lo b j:Nat):(seg lo b).testBit j=(decide (lo<=j)&&decide (j<b)):=by
 unfold seg;rw[z5p];by_cases h1:lo<=j
 ·by_cases h2:j<b
  ·simp[h1,h2,show j<lo+(b-lo) by omega]
  ·simp[h1,h2,show ¬j<lo+(b-lo) by omega]
 ·simp[h1]
theorem Hd(lo:Nat):seg lo lo=0:=by simp[seg,spn]
theorem Fj(lo b:Nat)(h:lo<=b):seg lo (b+1)=seg lo b|||2^b:=by
 apply Nat.eq_of_testBit_eq;intro j;rw[Nat.testBit_or,Fx,Fx,Nat.testBit_two_pow];by_cases h1:lo<=j<;>by_cases h2:j<b<;>by_cases h3:b=j<;>simp[h1,h2,h3]<;>omega
theorem Nz(lo b:Nat)(h:b<=256):seg lo b<2^256:=by
 by_cases h1:lo<=b
 ·exact z5q _ _ (by omega)
 ·simp[seg,show b-lo=0 by omega,spn]
theorem Ay(C b i:Nat)(hb:b<256)(hi:i<4):wd (C|||2^b) i=if b/64=i then wd C i|||2^(b%64)else wd C i:=by
 apply Nat.eq_of_testBit_eq;intro j;rw[Vl,Nat.testBit_or,Nat.testBit_two_pow];split
 ·rename_i h
  rw[Nat.testBit_or,Vl,Nat.testBit_two_pow];by_cases hj:j<64
  ·have:(b=64*i+j)↔(b%64=j):=by omega
   simp[hj,this]
  ·simp[hj];omega
 ·rename_i h
  rw[Vl];by_cases hj:j<64
  ·have:¬(b=64*i+j):=by omega
   simp[hj,this]
  ·simp[hj]
theorem z5s(C b k:Nat)(hb:b<256)(hk:b/64=k):
  (#[.int .u64 (wd C 0),.int .u64 (wd C 1),.int .u64 (wd C 2),.int .u64 (wd C 3)]:Array Value).setIfInBounds k (.int .u64 (bits BinOp.or IntKind.u64 (wd C k:Nat) (IntKind.u64.wrap (2^(b%64)))))=
  #[.int .u64 (wd (C|||2^b) 0:Nat),.int .u64 (wd (C|||2^b) 1:Nat),.int .u64 (wd (C|||2^b) 2:Nat),.int .u64 (wd (C|||2^b) 3:Nat)]:=by
 have hp:2^(b%64)<2^64:=Nat.pow_lt_pow_right (by decide) (by omega);have hw:IntKind.u64.wrap (2^(b%64))=((2^(b%64):Nat):Int):=by
  rw[IntKind.wrap_u64];have:((2:Int)^(b%64))=((2^(b%64):Nat):Int):=(Int.natCast_pow 2 (b%64)).symm;rw[this];exact Int.emod_eq_of_lt (Int.natCast_nonneg _) (Int.ofNat_lt.2 hp)
 have h:=Go.bits_or_u64_nat (wd C k) (2^(b%64)) (Xq _ _) hp;rw[hw,h,Ay C b 0 hb (by omega),Ay C b 1 hb (by omega),Ay C b 2 hb (by omega),Ay C b 3 hb (by omega)];subst hk;have:b/64=0∨b/64=1∨b/64=2∨b/64=3:=by omega
 rcases this with e|e|e|e<;>rw[e]<;>rfl
theorem Af(W:World)(C b k q n:Nat)(hb:b<256)(hk:b/64=k)(hn:n=W.heap.size):
  ((W.alloc (.cells #[.int .u64 (wd C 0),.int .u64 (wd C 1),.int .u64 (wd C 2),.int .u64 (wd C 3)] 68)).drewN q).setCell ⟨n,k,none⟩ (.int .u64 (bits BinOp.or IntKind.u64 (wd C k:Nat) (IntKind.u64.wrap (2^(b%64)))))=
  (W.alloc (.cells #[.int .u64 (wd (C|||2^b) 0:Nat),.int .u64 (wd (C|||2^b) 1:Nat),.int .u64 (wd (C|||2^b) 2:Nat),.int .u64 (wd (C|||2^b) 3:Nat)] 68)).drewN q:=by
 rw[<-z5s C b k hb hk];exact congrArg (World.drewN · q) (World.setCell_alloc_at _ _ _ _ _ hn)
theorem Wx(lo hi:Nat)(w:World)(h1:lo<=hi)(h2:hi<256):
  Calls prog 230 #[.int .i64 lo,.int .i64 hi] w fun e w'=>e=.returned (cv (spn lo (hi+1-lo)))/\Below w.heap.size w w':=by
 go_enter func230,ntmps230
 go_wp2_with fail
 go_loopw [6] (fun i wr=>∃b q:Nat,lo<=b/\b<=hi+1/\i=.int .i64 b/\wr=((w.alloc (.cells #[.int .u64 0,.int .u64 0,.int .u64 0,.int .u64 0] 68)).alloc (.cells #[.int .u64 (wd (seg lo b) 0:Nat),.int .u64 (wd (seg lo b) 1:Nat),.int .u64 (wd (seg lo b) 2:Nat),.int .u64 (wd (seg lo b) 3:Nat)] 68)).drewN q) (fun i _=>hi+1-(intOf i).toNat)
 case atStart=>exact⟨lo,0,Nat.le_refl _,by omega,rfl,by rw[Hd];rfl⟩
 case round=>
  obtain⟨b,q,hb1,hb2,rfl,rfl⟩:=hrel;by_cases hbh:b<=hi
  ·have hd:b/64=0∨b/64=1∨b/64=2∨b/64=3:=by omega
   rcases hd with hd|hd|hd|hd
   ·have hdI:(b:Int)/64=0:=by omega
    go_wp2_with fail
    go_region
    go_wp2_with fail
    exact⟨⟨b+1,q+1,by omega,by omega,by push_cast;rfl,by rw[Fj lo b hb1];exact Af _ _ b 0 _ _ (by omega) hd (by simp)⟩,by simp[intOf];omega⟩
   ·have hdI:(b:Int)/64=1:=by omega
    go_wp2_with fail
    go_region
    go_wp2_with fail
    exact⟨⟨b+1,q+1,by omega,by omega,by push_cast;rfl,by rw[Fj lo b hb1];exact Af _ _ b 1 _ _ (by omega) hd (by simp)⟩,by simp[intOf];omega⟩
   ·have hdI:(b:Int)/64=2:=by omega
    go_wp2_with fail
    go_region
    go_wp2_with fail
    exact⟨⟨b+1,q+1,by omega,by omega,by push_cast;rfl,by rw[Fj lo b hb1];exact Af _ _ b 2 _ _ (by omega) hd (by simp)⟩,by simp[intOf];omega⟩
   ·have hdI:(b:Int)/64=3:=by omega
    go_wp2_with fail
    go_region
    go_wp2_with fail
    exact⟨⟨b+1,q+1,by omega,by omega,by push_cast;rfl,by rw[Fj lo b hb1];exact Af _ _ b 3 _ _ (by omega) hd (by simp)⟩,by simp[intOf];omega⟩
  ·have hbe:b=hi+1:=by omega
   subst hbe;have hdec:decide (((hi+1:Nat):Int)<=(hi:Int))=false:=by simp;omega
   have sd:∀(w:World) (q:Nat) (a:Addr) (v:Value),(w.drewN q).setCell a v=(w.setCell a v).drewN q:=fun _ _ _ _=>rfl
   go_wp2_with fail
   refine bodyPost_ret (v:=.agg #[.int .u64 (wd (seg lo (hi+1)) 0:Nat),.int .u64 (wd (seg lo (hi+1)) 1:Nat),.int .u64 (wd (seg lo (hi+1)) 2:Nat),.int .u64 (wd (seg lo (hi+1)) 3:Nat)]) (by simp[results,Tryz.results230,go_sem]) rfl ⟨rfl,?_⟩;exact below_drewN ((B0q.alloc L0q _).alloc (by simp) _) _
def Blk(w:World)(g C:Nat):Prop:=w.heap[g]? =some (.cells #[.int .u64 (wd C 0),.int .u64 (wd C 1),.int .u64 (wd C 2),.int .u64 (wd C 3)] 68)
def st4(w:World)(g D:Nat):World:=(((w.setCell ⟨g,0,none⟩ (.int .u64 (wd D 0))).setCell ⟨g,1,none⟩ (.int .u64 (wd D 1))).setCell ⟨g,2,none⟩ (.int .u64 (wd D 2))).setCell ⟨g,3,none⟩ (.int .u64 (wd D 3))
theorem Blk.cells(h:Blk w g C):w.cell? ⟨g,0,none⟩=some (.int .u64 (wd C 0))/\w.cell? ⟨g,1,none⟩=some (.int .u64 (wd C 1))/\w.cell? ⟨g,2,none⟩=some (.int .u64 (wd C 2))/\w.cell? ⟨g,3,none⟩=some (.int .u64 (wd C 3)):=by
 unfold Blk at h;simp[World.cell?,h]
theorem Blk.thaw(h:Blk w g C):w.frozen? ⟨g,0,none⟩=false/\w.frozen? ⟨g,1,none⟩=false/\w.frozen? ⟨g,2,none⟩=false/\w.frozen? ⟨g,3,none⟩=false:=by
 unfold Blk at h;simp[World.frozen?,h]
theorem Blk.lt(h:Blk w g C):g<w.heap.size:=by
 unfold Blk at h;rcases Nat.lt_or_ge g w.heap.size with h2|h2
 ·exact h2
 ·rw[Array.getElem?_eq_none h2]at h;cases h
theorem Blk.below{w':World}(h:Blk w g C)(hb:Below B w w')(hg:g<B):Blk w' g C:=(hb.block g hg).trans h
theorem Blk.alloc{w:World}{g C:Nat}(h:Blk w g C)(o:Obj):Blk (w.alloc o) g C:=(Below.heap_alloc w o g h.lt).trans h
theorem Blk.new(w:World)(C:Nat):Blk (w.alloc (.cells #[.int .u64 (wd C 0),.int .u64 (wd C 1),.int .u64 (wd C 2),.int .u64 (wd C 3)] 68)) w.heap.size C:=by
 show(w.heap.push _)[w.heap.size]? =_;simp
theorem Jq(i:Nat):wd 0 i=0:=by simp[wd]
theorem Blk.st4{w:World}{g C:Nat}(h:Blk w g C)(D:Nat):Blk (st4 w g D) g D:=by
 unfold Blk at*;unfold Proofs.YtlogolpcipiceaaGreatDoor.st4;simp only[World.setCell,Array.getElem?_modify,if_true,Option.map_map];rw[h];simp
theorem Hm(w:World)(g D:Nat):(st4 w g D).heap.size=w.heap.size:=by simp[st4,World.setCell]
theorem Below.st4{B:Nat}{a w:World}(h:Below B a w){g:Nat}(hg:B<=g)(D:Nat):Below B a (st4 w g D):=
 ((((h.setCell (p:=⟨g,0,none⟩) hg _).setCell (p:=⟨g,1,none⟩) hg _).setCell (p:=⟨g,2,none⟩) hg _).setCell (p:=⟨g,3,none⟩) hg _)
theorem below_drewN{a:World}(h:Below B a w)(q:Nat):Below B a (w.drewN q):=⟨h.os,h.tape,h.output,h.size,h.block⟩
theorem hid{p:Prop}(h:p):Hid p:=h
def mark(b:Nat):Bool:=b == 91||b == 93||b == 92||b == 45||b == 94
def Xf(n:Nat):Nat:=if n<10 then 48+n else 87+n
theorem z5t(b:Nat)(w:World)(hb:b<256):
  Calls prog 261 #[.int .u8 b] w fun e w'=>e=.returned (.bool (mark b))/\w'=w:=by
 have h:∀n:Nat,((b:Int) == (n:Int))=(b == n):=fun n=>by
  by_cases e:b=n
  ·subst e;simp
  ·rw[beq_false_of_ne e];simp;omega
 have h1:((b:Int) == 91)=(b == 91):=h 91;have h2:((b:Int) == 93)=(b == 93):=h 93;have h3:((b:Int) == 92)=(b == 92):=h 92;have h4:((b:Int) == 45)=(b == 45):=h 45;have h5:((b:Int) == 94)=(b == 94):=h 94;clear h;unfold mark;cases k1:b == 91<;>rw[k1]at h1<;>cases k2:b == 93<;>rw[k2]at h2<;>cases k3:b == 92<;>rw[k3]at h3<;>cases k4:b == 45<;>rw[k4]at h4<;>cases k5:b == 94<;>rw[k5]at h5
 all_goals
  go_enter func261,ntmps261
  go_wp2_with fail
  go_ret;exact⟨rfl,rfl⟩
theorem z5u(b:Nat)(w:World)(hb:b<256):
  Calls prog 262 #[.int .u8 b] w fun e w'=>e=.returned (.bool (decide (32<=b)&&decide (b<=126)))/\w'=w:=by
 by_cases h1:32<=b
 ·have a1:decide (32<=(b:Int))=true:=by simp;omega
  by_cases h2:b<=126
  ·have a2:decide ((b:Int)<=126)=true:=by simp;omega
   rw[decide_eq_true h1,decide_eq_true h2];clear h1 h2;go_enter func262,ntmps262
   go_wp2_with fail
   go_ret;exact⟨rfl,rfl⟩
  ·have a2:decide ((b:Int)<=126)=false:=by simp;omega
   rw[decide_eq_true h1,decide_eq_false h2];clear h1 h2;go_enter func262,ntmps262
   go_wp2_with fail
   go_ret;exact⟨rfl,rfl⟩
 ·have a1:decide (32<=(b:Int))=false:=by simp;omega
  rw[decide_eq_false h1];clear h1;go_enter func262,ntmps262
  go_wp2_with fail
  go_ret;exact⟨rfl,rfl⟩
def At(S:ByteArray)(k x:Nat):Prop:=∃h:k<S.size,(S[k]).toNat=x
theorem At.lt(h:At S k x):k<S.size:=h.1
theorem At.u8(h:At S k x):x<256:=by
 obtain⟨h1,rfl⟩:=h;exact(S[k]).toNat_lt
def bt(S:ByteArray)(k:Nat):Option Nat:=if h:k<S.size then some (S[k]).toNat else none
theorem Xk(h:bt S k=some x):At S k x:=by
 unfold bt at h;split at h
 ·rename_i hk;exact⟨hk,by simpa using h⟩
 ·cases h
theorem Xp(h:At S k x):bt S k=some x:=by
 obtain⟨hk,hx⟩:=h;unfold bt;rw[dif_pos hk,hx]
theorem Xv(h:bt S k=none):S.size<=k:=by
 unfold bt at h;split at h
 ·cases h
 ·omega
theorem Uz(h:S.size<=k):bt S k=none:=by
 unfold bt;rw[dif_neg (by omega)]
theorem Qh(h:bt S k=some x):k<S.size/\x<256:=⟨(Xk h).lt,(Xk h).u8⟩
def flt(S:ByteArray)(k:Nat):Nat×Nat:=if S.size<=k then(3,S.size)else(4,k)
def dgv(x:Nat):Option Nat:=if 48<=x/\x<=57 then some (x-48)else if 97<=x/\x<=102 then some (x-87)else none
theorem z5v(h:dgv x=some d):d<16/\x=Xf d:=by
 unfold dgv at h;unfold Xf;split at h
 ·simp at h;subst h;refine⟨by omega,?_⟩;rw[if_pos (by omega)];omega
 ·split at h
  ·simp at h;subst h;refine⟨by omega,?_⟩;rw[if_neg (by omega)];omega
  ·cases h
def dg(S:ByteArray)(k:Nat):Option Nat:=(bt S k).bind dgv
abbrev Rs:=(Nat×Nat) ⊕ (Nat×Nat)
def digs(S:ByteArray)(k:Nat):Rs:=
 match dg S k with
 |none=>.inl (flt S k)
 |some q=>match dg S (k+1)with
  |none=>.inl (flt S (k+1))
  |some r=>.inr (16*q+r,k+2)
def Jd(x:Nat):Option Nat:=if x=110 then some 10 else if x=114 then some 13 else if x=116 then some 9 else if mark x then some x else none
def esc(S:ByteArray)(k:Nat):Rs:=
 match bt S k with
 |none=>.inl (flt S k)
 |some x=>match Jd x with
  |some b=>.inr (b,k+1)
  |none=>if x=120 then digs S (k+1)else .inl (flt S k)
def Wj(x:Nat):Bool:= !mark x&&(decide (32<=x)&&decide (x<=126))
def sg(S:ByteArray)(k:Nat):Rs:=
 match bt S k with
 |none=>.inl (flt S k)
 |some x=>if x=92 then esc S (k+1)else if Wj x=true then .inr (x,k+1)else .inl (flt S k)
def mbr(S:ByteArray)(k:Nat):Rs:=
 match sg S k with
 | .inl e=>.inl e
 | .inr (lo,n)=>
   if bt S n=some 45 then
    match sg S (n+1)with
    | .inl e=>.inl e
    | .inr (hi,m)=>if hi<lo then .inl (flt S k)else .inr (seg lo (hi+1),m)
   else .inr (seg lo (lo+1),n)
def mems(S:ByteArray):Nat->Nat->Nat->Rs
 |0,k,_=>.inl (flt S k)
 |f+1,k,acc=>
  if bt S k=some 93 then .inr (acc,k+1)else
  match mbr S k with
  | .inl e=>.inl e
  | .inr (X,n)=>mems S f n (acc|||X)
def mm(S:ByteArray)(k acc:Nat):Rs:=mems S (S.size+1-k) k acc
def Gk(S:ByteArray):Rs:=
 if bt S 0=some 91 then
  if bt S 1=some 94 then
   match mm S 2 0 with
   | .inl e=>.inl e
   | .inr (C,n)=>.inr (Zh C,n)
  else mm S 1 0
 else .inl (flt S 0)
theorem Ag(h:digs S k=.inr (b,n)):∃q r,dg S k=some q/\dg S (k+1)=some r/\b=16*q+r/\n=k+2:=by
 unfold digs at h;split at h
 ·cases h
 ·rename_i q hq
  split at h
  ·cases h
  ·rename_i r hr
   simp at h;exact⟨q,r,hq,hr,h.1.symm,h.2.symm⟩
theorem Gv(h:dg S k=some d):d<16/\At S k (Xf d):=by
 unfold dg at h;cases hb:bt S k with
 |none=>rw[hb]at h;cases h
 |some x=>
  rw[hb]at h;obtain⟨h1,h2⟩:=z5v (show dgv x=some d from h);exact⟨h1,h2▸Xk hb⟩
theorem z5w(h:Jd x=some b)(hx:x<256):b<256:=by
 unfold Jd at h
 repeat(split at h;(simp at h;omega))
 cases h
theorem Wk(h:esc S k=.inr (b,n)):b<256/\k<n/\n<=S.size:=by
 unfold esc at h;split at h
 ·cases h
 ·rename_i x hx
  have h1:=Qh hx;split at h
  ·rename_i b' hb'
   simp at h;have:=z5w hb' h1.2;omega
  ·split at h
   ·obtain⟨q,r,hq,hr,rfl,rfl⟩:=Ag h
    have a1:=Gv hq;have a2:=Gv hr;have:=a2.2.lt;omega
   ·cases h
theorem Nx(h:sg S k=.inr (b,n)):b<256/\k<n/\n<=S.size:=by
 unfold sg at h;split at h
 ·cases h
 ·rename_i x hx
  have h1:=Qh hx;split at h
  ·have:=Wk h;omega
  ·split at h
   ·simp at h;omega
   ·cases h
theorem Nj{X:Nat}(h:mbr S k=.inr (X,n)):X<2^256/\k<n/\n<=S.size:=by
 unfold mbr at h;split at h
 ·cases h
 ·rename_i lo m hs
  have h1:=Nx hs;split at h
  ·split at h
   ·cases h
   ·rename_i hi m2 hs2
    have h2:=Nx hs2;split at h
    ·cases h
    ·simp at h
     exact⟨h.1▸Nz _ _ (by omega),by omega,by omega⟩
  ·simp at h
   exact⟨h.1▸Nz _ _ (by omega),by omega,by omega⟩
theorem Hp(S:ByteArray):∀(f g k acc:Nat),S.size+1-k<=f->S.size+1-k<=g->mems S f k acc=mems S g k acc
 |0,0,_,_,_,_=>rfl
 |0,g+1,k,acc,hf,_=>by
  have hb:=Uz (S:=S) (k:=k) (by omega);have hm:mbr S k=.inl (flt S k):=by unfold mbr sg;rw[hb]
  rw[mems,mems,hb,hm];simp
 |f+1,0,k,acc,_,hg=>by
  have hb:=Uz (S:=S) (k:=k) (by omega);have hm:mbr S k=.inl (flt S k):=by unfold mbr sg;rw[hb]
  rw[mems,mems,hb,hm];simp
 |f+1,g+1,k,acc,hf,hg=>by
  rw[mems,mems];split
  ·rfl
  ·cases hm:mbr S k with
   |inl e=>rfl
   |inr p=>
    obtain⟨X,n⟩:=p;have:=Nj hm;exact Hp S f g n _ (by omega) (by omega)
theorem Ab(S:ByteArray)(k acc:Nat):mm S k acc=(if bt S k=some 93 then .inr (acc,k+1)else
  match mbr S k with
  | .inl e=>.inl e
  | .inr (X,n)=>mm S n (acc|||X)):=by
 unfold mm;rw[Hp S (S.size+1-k) (S.size+1-k+1) k acc (by omega) (by omega),mems];split
 ·rfl
 ·cases hm:mbr S k with
  |inl e=>rfl
  |inr p=>
   obtain⟨X,n⟩:=p;have:=Nj hm;exact Hp S _ _ n _ (by omega) (by omega)
theorem z5x(h:bt S k=some 93):mm S k acc=.inr (acc,k+1):=by rw[Ab,if_pos h]
theorem z5y{X:Nat}(h:¬bt S k=some 93)(hm:mbr S k=.inr (X,n)):mm S k acc=mm S n (acc|||X):=by rw[Ab,if_neg h,hm]
theorem Wv(S:ByteArray):∀(f k acc C n:Nat),acc<2^256->mems S f k acc=.inr (C,n)->C<2^256/\k<n/\n<=S.size
 |0,k,acc,C,n,_,h=>by cases h
 |f+1,k,acc,C,n,ha,h=>by
  rw[mems]at h;split at h
  ·rename_i hb
   have:=(Qh hb).1;simp at h;omega
  ·cases hm:mbr S k with
   |inl e=>rw[hm]at h;cases h
   |inr p=>
    obtain⟨X,m⟩:=p;rw[hm]at h;have h1:=Nj hm;have h2:=Wv S f m _ C n (Nat.or_lt_two_pow ha h1.1) h;omega
theorem Ww(ha:acc<2^256)(h:mm S k acc=.inr (C,n)):C<2^256/\k<n/\n<=S.size:=Wv S _ k acc C n ha h
def flv(p:Nat):Value:=.iface 95 (.pointer (some ⟨p,0,none⟩))
def Flt(w:World)(p:Nat)(c:Nat×Nat):Prop:=w.heap[p]? =some (.cells #[.int .i64 (c.1:Int),.int .i64 (c.2:Int)] 98)
theorem Flt.lt(h:Flt w p c):p<w.heap.size:=by
 unfold Flt at h;rcases Nat.lt_or_ge p w.heap.size with h2|h2
 ·exact h2
 ·rw[Array.getElem?_eq_none h2]at h;cases h
theorem Flt.below{w':World}(h:Flt w p c)(hb:Below B w w')(hp:p<B):Flt w' p c:=(hb.block p hp).trans h
theorem Flt.alloc{w:World}{p:Nat}{c:Nat×Nat}(h:Flt w p c)(o:Obj):Flt (w.alloc o) p c:=(Below.heap_alloc w o p h.lt).trans h
theorem Flt.new(w:World)(c:Nat×Nat):Flt (w.alloc (.cells #[.int .i64 (c.1:Int),.int .i64 (c.2:Int)] 98)) w.heap.size c:=by
 show(w.heap.push _)[w.heap.size]? =_;simp
def Bad(z:Value)(c:Nat×Nat)(w:World)(e:Ending)(w':World):Prop:=∃p,e=.returned (.tuple #[z,.int .i64 0,flv p])/\Hid (w.heap.size<=p/\Flt w' p c/\Below w.heap.size w w')
@[reducible] def z4 (w:World) (g:Nat):World:=(((w.setCell ⟨g,0,none⟩ (.int .u64 0)).setCell ⟨g,1,none⟩ (.int .u64 0)).setCell ⟨g,2,none⟩ (.int .u64 0)).setCell ⟨g,3,none⟩ (.int .u64 0)
def Up(w w1:World)(p:Nat)(c:Nat×Nat):Prop:=w.heap.size<=p/\p≠w.heap.size/\Flt w1 p c
theorem Up.mk{w1:World}{o:Obj}(h:(w.alloc o).heap.size<=p/\Flt w1 p c/\Below (w.alloc o).heap.size (w.alloc o) w1):Up w w1 p c:=by
 have:=h.1;simp at this;exact⟨by omega,by omega,h.2.1⟩
def ng(r:Rs):Rs:=
 match r with
 | .inl e=>.inl e
 | .inr (C,n)=>.inr (Zh C,n)
theorem Wy(S:ByteArray):Gk S=if bt S 0=some 91 then(if bt S 1=some 94 then ng (mm S 2 0)else mm S 1 0)else .inl (flt S 0):=rfl
theorem z5z(h:Gk S=.inr (C,n)):C<2^256/\0<n/\n<=S.size:=by
 rw[Wy]at h;split at h
 ·split at h
  ·cases hm:mm S 2 0 with
   |inl e=>rw[hm]at h;cases h
   |inr q=>
    obtain⟨D,m⟩:=q;rw[hm]at h;have h1:=Ww (by decide+kernel) hm;simp only[ng,Sum.inr.injEq,Prod.mk.injEq]at h;refine⟨?_,by omega,by omega⟩;rw[<-h.1];unfold Zh Hb;omega
  ·have h1:=Ww (by decide+kernel) h
   exact⟨h1.1,by omega,h1.2.2⟩
 ·cases h
open Go.Extern.Stop Go.Stop Go.Extern
def Zq(x:Nat):Bool:=(decide (65<=x)&&decide (x<=90))||((decide (97<=x)&&decide (x<=122))||x == 95)
def Jj(x:Nat):Bool:=decide (48<=x)&&decide (x<=57)
def plB(x:Nat):Bool:=decide (32<=x)&&decide (x<=126)
theorem Gw(x:Nat)(v:Bool)(hv:Zq x=v)(w:World)(hx:x<256):
  Calls prog 124 #[.int .u8 x] w fun e w'=>e=.returned (.bool v)/\w'=w:=by
 subst hv;have hc:x<65∨(65<=x/\x<=90)∨(90<x/\x<95)∨x=95∨x=96∨(97<=x/\x<=122)∨122<x:=by omega
 rcases hc with h|h|h|h|h|h|h
 ·have hv:Zq x=false:=by unfold Zq;simp;omega
  have a1:decide (65<=(x:Int))=false:=by simp;omega
  have a3:decide (97<=(x:Int))=false:=by simp;omega
  have a5:((x:Int) == 95)=false:=by simp;omega
  rw[hv];clear h hv;go_enter func124,ntmps124
  go_wp2_with fail
  go_ret;exact⟨rfl,rfl⟩
 ·have hv:Zq x=true:=by unfold Zq;simp;omega
  have a1:decide (65<=(x:Int))=true:=by simp;omega
  have a2:decide ((x:Int)<=90)=true:=by simp;omega
  rw[hv];clear h hv;go_enter func124,ntmps124
  go_wp2_with fail
  go_ret;exact⟨rfl,rfl⟩
 ·have hv:Zq x=false:=by unfold Zq;simp;omega
  have a1:decide (65<=(x:Int))=true:=by simp;omega
  have a2:decide ((x:Int)<=90)=false:=by simp;omega
  have a3:decide (97<=(x:Int))=false:=by simp;omega
  have a5:((x:Int) == 95)=false:=by simp;omega
  rw[hv];clear h hv;go_enter func124,ntmps124
  go_wp2_with fail
  go_ret;exact⟨rfl,rfl⟩
 ·have hv:Zq x=true:=by unfold Zq;simp;omega
  have a1:decide (65<=(x:Int))=true:=by simp;omega
  have a2:decide ((x:Int)<=90)=false:=by simp;omega
  have a3:decide (97<=(x:Int))=false:=by simp;omega
  have a5:((x:Int) == 95)=true:=by simp;omega
  rw[hv];clear h hv;go_enter func124,ntmps124
  go_wp2_with fail
  go_ret;exact⟨rfl,rfl⟩
 ·have hv:Zq x=false:=by unfold Zq;simp;omega
  have a1:decide (65<=(x:Int))=true:=by simp;omega
  have a2:decide ((x:Int)<=90)=false:=by simp;omega
  have a3:decide (97<=(x:Int))=false:=by simp;omega
  have a5:((x:Int) == 95)=false:=by simp;omega
  rw[hv];clear h hv;go_enter func124,ntmps124
  go_wp2_with fail
  go_ret;exact⟨rfl,rfl⟩
 ·have hv:Zq x=true:=by unfold Zq;simp;omega
  have a1:decide (65<=(x:Int))=true:=by simp;omega
  have a2:decide ((x:Int)<=90)=false:=by simp;omega
  have a3:decide (97<=(x:Int))=true:=by simp;omega
  have a4:decide ((x:Int)<=122)=true:=by simp;omega
  rw[hv];clear h hv;go_enter func124,ntmps124
  go_wp2_with fail
  go_ret;exact⟨rfl,rfl⟩
 ·have hv:Zq x=false:=by unfold Zq;simp;omega
  have a1:decide (65<=(x:Int))=true:=by simp;omega
  have a2:decide ((x:Int)<=90)=false:=by simp;omega
  have a3:decide (97<=(x:Int))=true:=by simp;omega
  have a4:decide ((x:Int)<=122)=false:=by simp;omega
  have a5:((x:Int) == 95)=false:=by simp;omega
  rw[hv];clear h hv;go_enter func124,ntmps124
  go_wp2_with fail
  go_ret;exact⟨rfl,rfl⟩
theorem Wg(x:Nat)(v:Bool)(hv:Jj x=v)(w:World)(hx:x<256):
  Calls prog 187 #[.int .u8 x] w fun e w'=>e=.returned (.bool v)/\w'=w:=by
 subst hv;unfold Jj;by_cases h1:48<=x
 ·have a1:decide (48<=(x:Int))=true:=by simp;omega
  by_cases h2:x<=57
  ·have a2:decide ((x:Int)<=57)=true:=by simp;omega
   rw[decide_eq_true h1,decide_eq_true h2];clear h1 h2;go_enter func187,ntmps187
   go_wp2_with fail
   go_ret;exact⟨rfl,rfl⟩
  ·have a2:decide ((x:Int)<=57)=false:=by simp;omega
   rw[decide_eq_true h1,decide_eq_false h2];clear h1 h2;go_enter func187,ntmps187
   go_wp2_with fail
   go_ret;exact⟨rfl,rfl⟩
 ·have a1:decide (48<=(x:Int))=false:=by simp;omega
  rw[decide_eq_false h1];clear h1;go_enter func187,ntmps187
  go_wp2_with fail
  go_ret;exact⟨rfl,rfl⟩
theorem Ah(x:Nat)(v:Bool)(hv:plB x=v)(w:World)(hx:x<256):
  Calls prog 188 #[.int .u8 x] w fun e w'=>e=.returned (.bool v)/\w'=w:=by
 subst hv;unfold plB;by_cases h1:32<=x
 ·have a1:decide (32<=(x:Int))=true:=by simp;omega
  by_cases h2:x<=126
  ·have a2:decide ((x:Int)<=126)=true:=by simp;omega
   rw[decide_eq_true h1,decide_eq_true h2];clear h1 h2;go_enter func188,ntmps188
   go_wp2_with fail
   go_ret;exact⟨rfl,rfl⟩
  ·have a2:decide ((x:Int)<=126)=false:=by simp;omega
   rw[decide_eq_true h1,decide_eq_false h2];clear h1 h2;go_enter func188,ntmps188
   go_wp2_with fail
   go_ret;exact⟨rfl,rfl⟩
 ·have a1:decide (32<=(x:Int))=false:=by simp;omega
  rw[decide_eq_false h1];clear h1;go_enter func188,ntmps188
  go_wp2_with fail
  go_ret;exact⟨rfl,rfl⟩
theorem z5A(S:ByteArray)(k:Nat)(w:World)(hS:S.size<=9007199254740992)(hk:k<=9007199254740999):
  Calls prog 130 #[.string S,.int .i64 k] w fun e w'=>e=.returned (flv w.heap.size)/\Flt w' w.heap.size (flt S k)/\Below w.heap.size w w':=by
 by_cases h:S.size<=k
 ·have a0:decide ((S.size:Int)<=(k:Int))=true:=by simp;omega
  have HF:Hid (flt S k=(3,S.size)):=by show _=_;unfold flt;rw[if_pos h]
  go_enter func130,ntmps130
  go_wp2_with fail
  go_ret;rw[HF.out];exact⟨rfl,Flt.new w (3,S.size),B0q.alloc L0q _⟩
 ·have a0:decide ((S.size:Int)<=(k:Int))=false:=by simp;omega
  have HF:Hid (flt S k=(4,k)):=by show _=_;unfold flt;rw[if_neg h]
  go_enter func130,ntmps130
  go_wp2_with fail
  go_ret;rw[HF.out];exact⟨rfl,Flt.new w (4,k),B0q.alloc L0q _⟩
theorem Dy(S:ByteArray)(k:Nat)(c:Nat×Nat)(w0 w:World)(h:flt S k=c)(hS:S.size<=9007199254740992)(hk:k<=9007199254740999)(hb:Below w0.heap.size w0 w):
  Calls prog 130 #[.string S,.int .i64 k] w fun e w'=>∃p,e=.returned (flv p)/\Hid (w0.heap.size<=p/\Flt w' p c/\Below w0.heap.size w0 w'):=
 (z5A S k w hS hk).mono fun e w' ⟨h1,h2,h3⟩=>⟨_,h1,hb.size,h▸h2,hb.trans (h3.mono hb.size)⟩
theorem Hc(T:ByteArray)(x:Nat)(w:World):
  Calls prog 129 #[.string T,.int .u8 x] w fun e w'=>e=.returned (.int .i64 (Lib.indexByte T.data.toList x.toUInt8))/\w'=w:=by
 have hIB:= @run_callFunc_extern prog 195 _ Extern.BytealgIndexByte.indexByte func195 (by kernel_rfl) (by kernel_rfl) (by kernel_rfl) (by kernel_rfl);have hR:=Lib.run_indexByteString (P:=prog) T (x:Int);simp only[Int.toNat_natCast]at hR;go_enter func129,ntmps129
 go_wp2
 go_ret;exact⟨rfl,rfl⟩
def dgi(x:Nat):Int:=match dgv x with|some d=>(d:Int)|none=> -1
theorem z5B(h:dgv x=some d):dgi x=(d:Int):=by unfold dgi;rw[h]
theorem z5C(h:dgv x=none):dgi x= -1:=by unfold dgi;rw[h]
theorem z5D:∀x:Nat,x<256->Lib.indexByte [48,49,50,51,52,53,54,55,56,57,97,98,99,100,101,102] x.toUInt8=dgi x:=by decide+kernel
def mkB(x:Nat):Bool:=x == 47||x == 38||x == 33||x == 63||x == 42||x == 43||x == 40||x == 41||x == 46
theorem z5E:∀x:Nat,x<256->decide (0<=Lib.indexByte [47,38,33,63,42,43,40,41,46] x.toUInt8)=mkB x:=by decide+kernel
def dgk(S:ByteArray)(k:Nat):Int:=match bt S k with|none=> -1|some x=>dgi x
theorem Nk(S:ByteArray)(k:Nat)(w:World)(hS:S.size<=9007199254740992):
  Calls prog 259 #[.string S,.int .i64 k] w fun e w'=>e=.returned (.int .i64 (dgk S k))/\w'=w:=by
 unfold dgk;cases hx:bt S k with
 |none=>
  have hge:=Xv hx;have a0:decide ((S.size:Int)<=(k:Int))=true:=by simp;omega
  simp only;clear hx;go_enter func259,ntmps259
  go_wp2_with fail
  go_ret;exact⟨rfl,rfl⟩
 |some x=>
  have hxl:=(Qh hx).2;obtain⟨hk,hxx⟩:=Xk hx;have hkI:(k:Int)<(S.size:Int):=by omega
  have a0:decide ((S.size:Int)<=(k:Int))=false:=by simp;omega
  have HI:Hid (∀w:World,Calls prog 129 #[.string {data:=#[48,49,50,51,52,53,54,55,56,57,97,98,99,100,101,102]},.int .u8 x] w fun e w'=>e=.returned (.int .i64 (dgi x))/\w'=w):=fun w=>by
   have h:=Hc {data:=#[48,49,50,51,52,53,54,55,56,57,97,98,99,100,101,102]} x w;rw[show({data:=#[48,49,50,51,52,53,54,55,56,57,97,98,99,100,101,102]}:ByteArray).data.toList=[48,49,50,51,52,53,54,55,56,57,97,98,99,100,101,102]from rfl,z5D x hxl]at h;exact h
  simp only;clear hx;go_enter func259,ntmps259
  go_wp2_with fail
  refine(HI.out _).mono ?_;rintro e w1 ⟨rfl,rfl⟩
  go_wp2_with fail
  go_ret;exact⟨rfl,rfl⟩
end Go.Proofs.YtlogolpcipiceaaGreatDoor
