/- Lemmas for the last text. Conditions: those that each names. -/
import Derived.WalkKit
import Derived.Test.YtgnkkgcgbeianaaGreatDoorProg
import Derived.WalkLawsBesides
import Derived.Deep.QuietTactic
import Derived.BigQuiet
import Derived.BigRegion
import Derived.Lib.Bytealg
import Derived.LaidEql
import Derived.Stop.Asserts
import Derived.RowKitTokens
set_option linter.unusedVariables false
set_option maxRecDepth 100000
set_option maxHeartbeats 1000000
namespace Go.Proofs.YtgnkkgcgbeianaaGreatDoor
open Go.Proofs.Tryz
theorem B0q{B:Nat}{w:World}:Go.RowKit.Below B w w:=Go.RowKit.Below.refl B w
theorem L0q{n:Nat}:n<=n:=Nat.le_refl n
variable {w:World} {C acc b d g k n x:Nat} {S:ByteArray}
def wd(C i:Nat):Nat:=C/2^(64*i)%18446744073709551616
theorem Xk(C i:Nat):wd C i<18446744073709551616:=Nat.mod_lt _ (by decide)
theorem Vc(C i j:Nat):(wd C i).testBit j=(decide (j<64)&&C.testBit (64*i+j)):=by
 unfold wd;rw[show(18446744073709551616:Nat)=2^64 from rfl,Nat.testBit_mod_two_pow,Nat.testBit_div_two_pow,Nat.add_comm j]
theorem Bc(C D i:Nat):wd (C&&&D) i=wd C i&&&wd D i:=by
 apply Nat.eq_of_testBit_eq;intro j;rw[Nat.testBit_and,Vc,Vc,Vc,Nat.testBit_and];cases decide (j<64)<;>simp
def Jy:Nat:=2^256-1
def Xz(C:Nat):Nat:=Jy-C
theorem Oy(C:Nat)(h:C<2^256)(j:Nat):(Xz C).testBit j=(decide (j<256)&& !C.testBit j):=by
 unfold Xz Jy;rw[Nat.sub_sub,Nat.add_comm 1 C,Nat.testBit_two_pow_sub_succ h]
theorem z8q(C:Nat)(h:C<2^256)(i:Nat)(o:i<4):wd (Xz C) i=18446744073709551615-wd C i:=by
 apply Nat.eq_of_testBit_eq;intro j;rw[Vc,Oy C h,show 18446744073709551615-wd C i=2^64-(wd C i+1) by have:=Xk C i;omega,Nat.testBit_two_pow_sub_succ (by have:=Xk C i;omega),Vc];by_cases hj:j<64
 ·simp[hj,show 64*i+j<256 by omega]
 ·simp[hj]
theorem z1k(C D:Nat)(h:C<2^256)(o:D<2^256)(t:wd C 0=wd D 0)(y:wd C 1=wd D 1)(A:wd C 2=wd D 2)(E:wd C 3=wd D 3):C=D:=by
 apply Nat.eq_of_testBit_eq;intro j;by_cases hj:j<256
 ·have r:wd C (j/64)=wd D (j/64):=by
   have:j/64=0∨j/64=1∨j/64=2∨j/64=3:=by omega
   rcases this with e|e|e|e<;>rw[e]<;>assumption
  have a:=Vc C (j/64) (j%64);have b:=Vc D (j/64) (j%64);rw[r]at a;rw[a]at b;have e:64*(j/64)+j%64=j:=by omega
  simpa [show j%64<64 by omega,e]using b
 ·rw[Nat.testBit_lt_two_pow (Nat.lt_of_lt_of_le h (Nat.pow_le_pow_right (by decide) (by omega))),Nat.testBit_lt_two_pow (Nat.lt_of_lt_of_le o (Nat.pow_le_pow_right (by decide) (by omega)))]
def cls(a b c d:Nat):Nat:=a+18446744073709551616*(b+18446744073709551616*(c+18446744073709551616*d))
theorem z8r(a b c d:Nat)(ha:a<18446744073709551616)(h:b<18446744073709551616)(o:c<18446744073709551616)(hd:d<18446744073709551616):cls a b c d<2^256:=by
 unfold cls;rw[show(2:Nat)^256=18446744073709551616*(18446744073709551616*(18446744073709551616*18446744073709551616))from by decide+kernel];omega
theorem z1l(a b c d:Nat)(ha:a<18446744073709551616)(t:b<18446744073709551616)(y:c<18446744073709551616)(hd:d<18446744073709551616):
  wd (cls a b c d) 0=a/\wd (cls a b c d) 1=b/\wd (cls a b c d) 2=c/\wd (cls a b c d) 3=d:=by
 have h:(2:Nat)^(64*1)=18446744073709551616:=by decide+kernel
 have o:(2:Nat)^(64*2)=18446744073709551616*18446744073709551616:=by decide+kernel
 have r:(2:Nat)^(64*3)=18446744073709551616*18446744073709551616*18446744073709551616:=by decide+kernel
 unfold wd cls;rw[h,o,r,<-Nat.div_div_eq_div_mul,<-Nat.div_div_eq_div_mul,<-Nat.div_div_eq_div_mul,Nat.mul_zero,Nat.pow_zero,Nat.div_one];refine⟨by omega,by omega,by omega,by omega⟩
def spn(lo n:Nat):Nat:=2^lo*(2^n-1)
theorem z8s(lo n j:Nat):(spn lo n).testBit j=(decide (lo<=j)&&decide (j<lo+n)):=by
 unfold spn;rw[Nat.testBit_two_pow_mul,Nat.testBit_two_pow_sub_one];by_cases h:lo<=j
 ·simp[h,show j-lo<n↔j<lo+n by omega]
 ·simp[h]
theorem z8t(lo n:Nat)(h:lo+n<=256):spn lo n<2^256:=by
 unfold spn;have r:2^lo*2^n<=2^256:=by rw[<-Nat.pow_add];exact Nat.pow_le_pow_right (by decide) h
 have o:0<2^lo:=Nat.pow_pos (by decide);have t:2^lo*(2^n-1)<2^lo*2^n:=Nat.mul_lt_mul_of_pos_left (by have:0<2^n:=Nat.pow_pos (by decide);omega) o;omega
open Go.RowKit
@[reducible] def cv (C:Nat):Value:=.agg #[.int .u64 (wd C 0),.int .u64 (wd C 1),.int .u64 (wd C 2),.int .u64 (wd C 3)]
theorem z8u(x:Nat)(h:x<18446744073709551616):18446744073709551615^^^x=18446744073709551615-x:=by
 apply Nat.eq_of_testBit_eq;intro j;rw[show 18446744073709551615-x=2^64-(x+1) by omega,Nat.testBit_two_pow_sub_succ (by omega),Nat.testBit_xor,show(18446744073709551615:Nat)=2^64-1 from rfl,Nat.testBit_two_pow_sub_one];by_cases hj:j<64
 ·simp[hj]
 ·rw[Nat.testBit_lt_two_pow (Nat.lt_of_lt_of_le h (show 2^64<=2^j from Nat.pow_le_pow_right (by decide) (by omega)))]
  simp[hj]
theorem Bl(C:Nat)(h:C<2^256)(i:Nat)(o:i<4):bits BinOp.xor IntKind.u64 IntKind.u64.max (wd C i:Nat)=(wd (Xz C) i:Nat):=by
 rw[z8q C h i o,<-z8u _ (Xk C i)];exact Go.bits_xor_u64_nat 18446744073709551615 _ (by omega) (Xk C i)
theorem z1m(C:Nat)(h:C<2^256)(w:World):
  Calls prog 127 #[cv C] w fun e w'=>e=.returned (cv (Xz C))/\Below w.heap.size w w':=by
 have o:bits BinOp.xor IntKind.u64 IntKind.u64.max (wd C 0:Nat)=(wd (Xz C) 0:Nat):=Bl C h 0 (by omega);have r:bits BinOp.xor IntKind.u64 IntKind.u64.max (wd C 1:Nat)=(wd (Xz C) 1:Nat):=Bl C h 1 (by omega);have t:bits BinOp.xor IntKind.u64 IntKind.u64.max (wd C 2:Nat)=(wd (Xz C) 2:Nat):=Bl C h 2 (by omega);have y:bits BinOp.xor IntKind.u64 IntKind.u64.max (wd C 3:Nat)=(wd (Xz C) 3:Nat):=Bl C h 3 (by omega);unfold cv;go_enter func127,ntmps127
 go_wp2
 refine wp_loop_rounds 5 ?_;rw[rounds_succ]
 go_wp2
 rw[rounds_succ]
 go_wp2
 rw[rounds_succ]
 go_wp2
 rw[rounds_succ]
 go_wp2
 rw[rounds_succ]
 go_wp2
 refine bodyPost_ret (v:=.agg #[.int .u64 (wd (Xz C) 0:Nat),.int .u64 (wd (Xz C) 1:Nat),.int .u64 (wd (Xz C) 2:Nat),.int .u64 (wd (Xz C) 3:Nat)]) (by simp[results,Tryz.results127,go_sem]) rfl ⟨rfl,?_⟩;exact((B0q.alloc L0q _).alloc (by simp) _)
def seg(lo b:Nat):Nat:=spn lo (b-lo)
theorem Dj(lo b j:Nat):(seg lo b).testBit j=(decide (lo<=j)&&decide (j<b)):=by
 unfold seg;rw[z8s];by_cases h1:lo<=j
 ·by_cases h2:j<b
  ·simp[h1,h2,show j<lo+(b-lo) by omega]
  ·simp[h1,h2,show ¬j<lo+(b-lo) by omega]
 ·simp[h1]
theorem Of(lo:Nat):seg lo lo=0:=by simp[seg,spn]
theorem Dw(lo b:Nat)(h:lo<=b):seg lo (b+1)=seg lo b|||2^b:=by
 apply Nat.eq_of_testBit_eq;intro j;rw[Nat.testBit_or,Dj,Dj,Nat.testBit_two_pow];by_cases h1:lo<=j<;>by_cases h2:j<b<;>by_cases h3:b=j<;>simp[h1,h2,h3]<;>omega
theorem Nl(lo b:Nat)(h:b<=256):seg lo b<2^256:=by
 by_cases h1:lo<=b
 ·exact z8t _ _ (by omega)
 ·simp[seg,show b-lo=0 by omega,spn]
theorem Cz(C b i:Nat)(o:b<256)(r:i<4):wd (C|||2^b) i=if b/64=i then wd C i|||2^(b%64)else wd C i:=by
 apply Nat.eq_of_testBit_eq;intro j;rw[Vc,Nat.testBit_or,Nat.testBit_two_pow];split
 ·rename_i h
  rw[Nat.testBit_or,Vc,Nat.testBit_two_pow];by_cases hj:j<64
  ·have:(b=64*i+j)↔(b%64=j):=by omega
   simp[hj,this]
  ·simp[hj];omega
 ·rename_i h
  rw[Vc];by_cases hj:j<64
  ·have:¬(b=64*i+j):=by omega
   simp[hj,this]
  ·simp[hj]
theorem z8v(C b k:Nat)(o:b<256)(t:b/64=k):
  (#[.int .u64 (wd C 0),.int .u64 (wd C 1),.int .u64 (wd C 2),.int .u64 (wd C 3)]:Array Value).setIfInBounds k (.int .u64 (bits BinOp.or IntKind.u64 (wd C k:Nat) (IntKind.u64.wrap (2^(b%64)))))=
  #[.int .u64 (wd (C|||2^b) 0:Nat),.int .u64 (wd (C|||2^b) 1:Nat),.int .u64 (wd (C|||2^b) 2:Nat),.int .u64 (wd (C|||2^b) 3:Nat)]:=by
 have r:2^(b%64)<2^64:=Nat.pow_lt_pow_right (by decide) (by omega);have y:IntKind.u64.wrap (2^(b%64))=((2^(b%64):Nat):Int):=by
  rw[IntKind.wrap_u64];have:((2:Int)^(b%64))=((2^(b%64):Nat):Int):=(Int.natCast_pow 2 (b%64)).symm;rw[this];exact Int.emod_eq_of_lt (Int.natCast_nonneg _) (Int.ofNat_lt.2 r)
 have h:=Go.bits_or_u64_nat (wd C k) (2^(b%64)) (Xk _ _) r;rw[y,h,Cz C b 0 o (by omega),Cz C b 1 o (by omega),Cz C b 2 o (by omega),Cz C b 3 o (by omega)];subst t;have:b/64=0∨b/64=1∨b/64=2∨b/64=3:=by omega
 rcases this with e|e|e|e<;>rw[e]<;>rfl
theorem Cq(W:World)(C b k q n:Nat)(h:b<256)(o:b/64=k)(r:n=W.heap.size):
  ((W.alloc (.cells #[.int .u64 (wd C 0),.int .u64 (wd C 1),.int .u64 (wd C 2),.int .u64 (wd C 3)] 54)).drewN q).setCell ⟨n,k,none⟩ (.int .u64 (bits BinOp.or IntKind.u64 (wd C k:Nat) (IntKind.u64.wrap (2^(b%64)))))=
  (W.alloc (.cells #[.int .u64 (wd (C|||2^b) 0:Nat),.int .u64 (wd (C|||2^b) 1:Nat),.int .u64 (wd (C|||2^b) 2:Nat),.int .u64 (wd (C|||2^b) 3:Nat)] 54)).drewN q:=by
 rw[<-z8v C b k h o];exact congrArg (World.drewN · q) (World.setCell_alloc_at _ _ _ _ _ r)
theorem z1n(lo h:Nat)(w:World)(y:lo<=h)(A:h<256):
  Calls prog 211 #[.int .i64 lo,.int .i64 h] w fun e w'=>e=.returned (cv (spn lo (h+1-lo)))/\Below w.heap.size w w':=by
 go_enter func211,ntmps211
 go_wp2_with fail
 go_loopw [6] (fun i wr=>∃b q:Nat,lo<=b/\b<=h+1/\i=.int .i64 b/\wr=((w.alloc (.cells #[.int .u64 0,.int .u64 0,.int .u64 0,.int .u64 0] 54)).alloc (.cells #[.int .u64 (wd (seg lo b) 0:Nat),.int .u64 (wd (seg lo b) 1:Nat),.int .u64 (wd (seg lo b) 2:Nat),.int .u64 (wd (seg lo b) 3:Nat)] 54)).drewN q) (fun i _=>h+1-(intOf i).toNat)
 case atStart=>exact⟨lo,0,Nat.le_refl _,by omega,rfl,by rw[Of];rfl⟩
 case round=>
  obtain⟨b,q,o,D,rfl,rfl⟩:=hrel;by_cases hbh:b<=h
  ·have hd:b/64=0∨b/64=1∨b/64=2∨b/64=3:=by omega
   rcases hd with hd|hd|hd|hd
   ·have r:(b:Int)/64=0:=by omega
    go_wp2_with fail
    go_region
    go_wp2_with fail
    exact⟨⟨b+1,q+1,by omega,by omega,by push_cast;rfl,by rw[Dw lo b o];exact Cq _ _ b 0 _ _ (by omega) hd (by simp)⟩,by simp[intOf];omega⟩
   ·have r:(b:Int)/64=1:=by omega
    go_wp2_with fail
    go_region
    go_wp2_with fail
    exact⟨⟨b+1,q+1,by omega,by omega,by push_cast;rfl,by rw[Dw lo b o];exact Cq _ _ b 1 _ _ (by omega) hd (by simp)⟩,by simp[intOf];omega⟩
   ·have r:(b:Int)/64=2:=by omega
    go_wp2_with fail
    go_region
    go_wp2_with fail
    exact⟨⟨b+1,q+1,by omega,by omega,by push_cast;rfl,by rw[Dw lo b o];exact Cq _ _ b 2 _ _ (by omega) hd (by simp)⟩,by simp[intOf];omega⟩
   ·have r:(b:Int)/64=3:=by omega
    go_wp2_with fail
    go_region
    go_wp2_with fail
    exact⟨⟨b+1,q+1,by omega,by omega,by push_cast;rfl,by rw[Dw lo b o];exact Cq _ _ b 3 _ _ (by omega) hd (by simp)⟩,by simp[intOf];omega⟩
  ·have t:b=h+1:=by omega
   subst t;have E:decide (((h+1:Nat):Int)<=(h:Int))=false:=by simp;omega
   have G:∀(w:World) (q:Nat) (a:Addr) (v:Value),(w.drewN q).setCell a v=(w.setCell a v).drewN q:=fun _ _ _ _=>rfl
   go_wp2_with fail
   refine bodyPost_ret (v:=.agg #[.int .u64 (wd (seg lo (h+1)) 0:Nat),.int .u64 (wd (seg lo (h+1)) 1:Nat),.int .u64 (wd (seg lo (h+1)) 2:Nat),.int .u64 (wd (seg lo (h+1)) 3:Nat)]) (by simp[results,Tryz.results211,go_sem]) rfl ⟨rfl,?_⟩;exact below_drewN ((B0q.alloc L0q _).alloc (by simp) _) _
def Blk(w:World)(g C:Nat):Prop:=w.heap[g]? =some (.cells #[.int .u64 (wd C 0),.int .u64 (wd C 1),.int .u64 (wd C 2),.int .u64 (wd C 3)] 54)
def st4(w:World)(g D:Nat):World:=(((w.setCell ⟨g,0,none⟩ (.int .u64 (wd D 0))).setCell ⟨g,1,none⟩ (.int .u64 (wd D 1))).setCell ⟨g,2,none⟩ (.int .u64 (wd D 2))).setCell ⟨g,3,none⟩ (.int .u64 (wd D 3))
theorem Blk.cells(h:Blk w g C):w.cell? ⟨g,0,none⟩=some (.int .u64 (wd C 0))/\w.cell? ⟨g,1,none⟩=some (.int .u64 (wd C 1))/\w.cell? ⟨g,2,none⟩=some (.int .u64 (wd C 2))/\w.cell? ⟨g,3,none⟩=some (.int .u64 (wd C 3)):=by
 unfold Blk at h;simp[World.cell?,h]
theorem Blk.thaw(h:Blk w g C):w.frozen? ⟨g,0,none⟩=false/\w.frozen? ⟨g,1,none⟩=false/\w.frozen? ⟨g,2,none⟩=false/\w.frozen? ⟨g,3,none⟩=false:=by
 unfold Blk at h;simp[World.frozen?,h]
theorem Blk.lt(h:Blk w g C):g<w.heap.size:=by
 unfold Blk at h;rcases Nat.lt_or_ge g w.heap.size with o|o
 ·exact o
 ·rw[Array.getElem?_eq_none o]at h;cases h
theorem Blk.below{w':World}{B:Nat}(h:Blk w g C)(o:Below B w w')(r:g<B):Blk w' g C:=(o.block g r).trans h
theorem Blk.alloc{w:World}{g C:Nat}(h:Blk w g C)(o:Obj):Blk (w.alloc o) g C:=(Below.heap_alloc w o g h.lt).trans h
theorem Blk.new(w:World)(C:Nat):Blk (w.alloc (.cells #[.int .u64 (wd C 0),.int .u64 (wd C 1),.int .u64 (wd C 2),.int .u64 (wd C 3)] 54)) w.heap.size C:=by
 show(w.heap.push _)[w.heap.size]? =_;simp
theorem Gz(i:Nat):wd 0 i=0:=by simp[wd]
theorem Blk.st4{w:World}{g C:Nat}(h:Blk w g C)(D:Nat):Blk (st4 w g D) g D:=by
 unfold Blk at*;unfold Proofs.YtgnkkgcgbeianaaGreatDoor.st4;simp only[World.setCell,Array.getElem?_modify,if_true,Option.map_map];rw[h];simp
theorem Og(w:World)(g D:Nat):(st4 w g D).heap.size=w.heap.size:=by simp[st4,World.setCell]
theorem Below.st4{B:Nat}{a w:World}(h:Below B a w){g:Nat}(o:B<=g)(D:Nat):Below B a (st4 w g D):=
 ((((h.setCell (p:=⟨g,0,none⟩) o _).setCell (p:=⟨g,1,none⟩) o _).setCell (p:=⟨g,2,none⟩) o _).setCell (p:=⟨g,3,none⟩) o _)
theorem below_drewN{B:Nat}{a:World}(h:Below B a w)(q:Nat):Below B a (w.drewN q):=⟨h.os,h.tape,h.output,h.size,h.block⟩
theorem hid{p:Prop}(h:p):Hid p:=h
def mark(b:Nat):Bool:=b == 91||b == 93||b == 92||b == 45||b == 94
def Yj(n:Nat):Nat:=if n<10 then 48+n else 87+n
theorem z8w(b:Nat)(w:World)(D:b<256):
  Calls prog 244 #[.int .u8 b] w fun e w'=>e=.returned (.bool (mark b))/\w'=w:=by
 have h:∀n:Nat,((b:Int) == (n:Int))=(b == n):=fun n=>by
  by_cases e:b=n
  ·subst e;simp
  ·rw[beq_false_of_ne e];simp;omega
 have o:((b:Int) == 91)=(b == 91):=h 91;have r:((b:Int) == 93)=(b == 93):=h 93;have t:((b:Int) == 92)=(b == 92):=h 92;have y:((b:Int) == 45)=(b == 45):=h 45;have A:((b:Int) == 94)=(b == 94):=h 94;clear h;unfold mark;cases k1:b == 91<;>rw[k1]at o<;>cases k2:b == 93<;>rw[k2]at r<;>cases k3:b == 92<;>rw[k3]at t<;>cases k4:b == 45<;>rw[k4]at y<;>cases k5:b == 94<;>rw[k5]at A
 all_goals
  go_enter func244,ntmps244
  go_wp2_with fail
  go_ret;exact⟨rfl,rfl⟩
theorem z8x(b:Nat)(w:World)(h:b<256):
  Calls prog 245 #[.int .u8 b] w fun e w'=>e=.returned (.bool (decide (32<=b)&&decide (b<=126)))/\w'=w:=by
 by_cases h1:32<=b
 ·have a1:decide (32<=(b:Int))=true:=by simp;omega
  by_cases h2:b<=126
  ·have a2:decide ((b:Int)<=126)=true:=by simp;omega
   rw[decide_eq_true h1,decide_eq_true h2];clear h1 h2;go_enter func245,ntmps245
   go_wp2_with fail
   go_ret;exact⟨rfl,rfl⟩
  ·have a2:decide ((b:Int)<=126)=false:=by simp;omega
   rw[decide_eq_true h1,decide_eq_false h2];clear h1 h2;go_enter func245,ntmps245
   go_wp2_with fail
   go_ret;exact⟨rfl,rfl⟩
 ·have a1:decide (32<=(b:Int))=false:=by simp;omega
  rw[decide_eq_false h1];clear h1;go_enter func245,ntmps245
  go_wp2_with fail
  go_ret;exact⟨rfl,rfl⟩
def At(S:ByteArray)(k x:Nat):Prop:=∃h:k<S.size,(S[k]).toNat=x
theorem At.lt(h:At S k x):k<S.size:=h.1
theorem At.u8(h:At S k x):x<256:=by
 obtain⟨o,rfl⟩:=h;exact(S[k]).toNat_lt
def bt(S:ByteArray)(k:Nat):Option Nat:=if h:k<S.size then some (S[k]).toNat else none
theorem Xv(h:bt S k=some x):At S k x:=by
 unfold bt at h;split at h
 ·rename_i o;exact⟨o,by simpa using h⟩
 ·cases h
theorem Yv(h:At S k x):bt S k=some x:=by
 obtain⟨o,hx⟩:=h;unfold bt;rw[dif_pos o,hx]
theorem Xw(h:bt S k=none):S.size<=k:=by
 unfold bt at h;split at h
 ·cases h
 ·omega
theorem Uf(h:S.size<=k):bt S k=none:=by
 unfold bt;rw[dif_neg (by omega)]
theorem Qp(h:bt S k=some x):k<S.size/\x<256:=⟨(Xv h).lt,(Xv h).u8⟩
def flt(S:ByteArray)(k:Nat):Nat×Nat:=if S.size<=k then(3,S.size)else(4,k)
def dgv(x:Nat):Option Nat:=if 48<=x/\x<=57 then some (x-48)else if 97<=x/\x<=102 then some (x-87)else none
theorem z8y(h:dgv x=some d):d<16/\x=Yj d:=by
 unfold dgv at h;unfold Yj;split at h
 ·simp at h;subst h;refine⟨by omega,?_⟩;rw[if_pos (by omega)];omega
 ·split at h
  ·simp at h;subst h;refine⟨by omega,?_⟩;rw[if_neg (by omega)];omega
  ·cases h
def dg(S:ByteArray)(k:Nat):Option Nat:=(bt S k).bind dgv
abbrev Rs:=(Nat×Nat) ⊕ (Nat×Nat)
def digs(S:ByteArray)(k:Nat):Rs:=
 match dg S k with
 |none=>.inl (flt S k)
 |some q=>match dg S (k+1)with
  |none=>.inl (flt S (k+1))
  |some r=>.inr (16*q+r,k+2)
def Gf(x:Nat):Option Nat:=if x=110 then some 10 else if x=114 then some 13 else if x=116 then some 9 else if mark x then some x else none
def esc(S:ByteArray)(k:Nat):Rs:=
 match bt S k with
 |none=>.inl (flt S k)
 |some x=>match Gf x with
  |some b=>.inr (b,k+1)
  |none=>if x=120 then digs S (k+1)else .inl (flt S k)
def z1o(x:Nat):Bool:= !mark x&&(decide (32<=x)&&decide (x<=126))
def sg(S:ByteArray)(k:Nat):Rs:=
 match bt S k with
 |none=>.inl (flt S k)
 |some x=>if x=92 then esc S (k+1)else if z1o x=true then .inr (x,k+1)else .inl (flt S k)
def mbr(S:ByteArray)(k:Nat):Rs:=
 match sg S k with
 | .inl e=>.inl e
 | .inr (lo,n)=>
   if bt S n=some 45 then
    match sg S (n+1)with
    | .inl e=>.inl e
    | .inr (hi,m)=>if hi<lo then .inl (flt S k)else .inr (seg lo (hi+1),m)
   else .inr (seg lo (lo+1),n)
def mems(S:ByteArray):Nat->Nat->Nat->Rs
 |0,k,_=>.inl (flt S k)
 |f+1,k,acc=>
  if bt S k=some 93 then .inr (acc,k+1)else
  match mbr S k with
  | .inl e=>.inl e
  | .inr (X,n)=>mems S f n (acc|||X)
def mm(S:ByteArray)(k acc:Nat):Rs:=mems S (S.size+1-k) k acc
def Fx(S:ByteArray):Rs:=
 if bt S 0=some 91 then
  if bt S 1=some 94 then
   match mm S 2 0 with
   | .inl e=>.inl e
   | .inr (C,n)=>.inr (Xz C,n)
  else mm S 1 0
 else .inl (flt S 0)
theorem Cx(h:digs S k=.inr (b,n)):∃q r,dg S k=some q/\dg S (k+1)=some r/\b=16*q+r/\n=k+2:=by
 unfold digs at h;split at h
 ·cases h
 ·rename_i q o
  split at h
  ·cases h
  ·rename_i r t
   simp at h;exact⟨q,r,o,t,h.1.symm,h.2.symm⟩
theorem Fj(h:dg S k=some d):d<16/\At S k (Yj d):=by
 unfold dg at h;cases hb:bt S k with
 |none=>rw[hb]at h;cases h
 |some x=>
  rw[hb]at h;obtain⟨o,r⟩:=z8y (show dgv x=some d from h);exact⟨o,r▸Xv hb⟩
theorem z8z(h:Gf x=some b)(hx:x<256):b<256:=by
 unfold Gf at h
 repeat(split at h;(simp at h;omega))
 cases h
theorem z1p(h:esc S k=.inr (b,n)):b<256/\k<n/\n<=S.size:=by
 unfold esc at h;split at h
 ·cases h
 ·rename_i x hx
  have o:=Qp hx;split at h
  ·rename_i D t
   simp at h;have:=z8z t o.2;omega
  ·split at h
   ·obtain⟨q,r,y,A,rfl,rfl⟩:=Cx h
    have a1:=Fj y;have a2:=Fj A;have:=a2.2.lt;omega
   ·cases h
theorem Mz(h:sg S k=.inr (b,n)):b<256/\k<n/\n<=S.size:=by
 unfold sg at h;split at h
 ·cases h
 ·rename_i x hx
  have o:=Qp hx;split at h
  ·have:=z1p h;omega
  ·split at h
   ·simp at h;omega
   ·cases h
theorem Mq{X:Nat}(h:mbr S k=.inr (X,n)):X<2^256/\k<n/\n<=S.size:=by
 unfold mbr at h;split at h
 ·cases h
 ·rename_i lo m o
  have t:=Mz o;split at h
  ·split at h
   ·cases h
   ·rename_i y A r
    have D:=Mz r;split at h
    ·cases h
    ·simp at h
     exact⟨h.1▸Nl _ _ (by omega),by omega,by omega⟩
  ·simp at h
   exact⟨h.1▸Nl _ _ (by omega),by omega,by omega⟩
theorem Ob(S:ByteArray):∀(f g k acc:Nat),S.size+1-k<=f->S.size+1-k<=g->mems S f k acc=mems S g k acc
 |0,0,_,_,_,_=>rfl
 |0,g+1,k,acc,hf,_=>by
  have h:=Uf (S:=S) (k:=k) (by omega);have o:mbr S k=.inl (flt S k):=by unfold mbr sg;rw[h]
  rw[mems,mems,h,o];simp
 |f+1,0,k,acc,_,hg=>by
  have h:=Uf (S:=S) (k:=k) (by omega);have o:mbr S k=.inl (flt S k):=by unfold mbr sg;rw[h]
  rw[mems,mems,h,o];simp
 |f+1,g+1,k,acc,hf,hg=>by
  rw[mems,mems];split
  ·rfl
  ·cases o:mbr S k with
   |inl e=>rfl
   |inr p=>
    obtain⟨X,n⟩:=p;have:=Mq o;exact Ob S f g n _ (by omega) (by omega)
theorem Cj(S:ByteArray)(k acc:Nat):mm S k acc=(if bt S k=some 93 then .inr (acc,k+1)else
  match mbr S k with
  | .inl e=>.inl e
  | .inr (X,n)=>mm S n (acc|||X)):=by
 unfold mm;rw[Ob S (S.size+1-k) (S.size+1-k+1) k acc (by omega) (by omega),mems];split
 ·rfl
 ·cases hm:mbr S k with
  |inl e=>rfl
  |inr p=>
   obtain⟨X,n⟩:=p;have:=Mq hm;exact Ob S _ _ n _ (by omega) (by omega)
theorem z8A(h:bt S k=some 93):mm S k acc=.inr (acc,k+1):=by rw[Cj,if_pos h]
theorem z8B{X:Nat}(h:¬bt S k=some 93)(o:mbr S k=.inr (X,n)):mm S k acc=mm S n (acc|||X):=by rw[Cj,if_neg h,o]
theorem z1q(S:ByteArray):∀(f k acc C n:Nat),acc<2^256->mems S f k acc=.inr (C,n)->C<2^256/\k<n/\n<=S.size
 |0,k,acc,C,n,_,h=>by cases h
 |f+1,k,acc,C,n,ha,h=>by
  rw[mems]at h;split at h
  ·rename_i o
   have:=(Qp o).1;simp at h;omega
  ·cases hm:mbr S k with
   |inl e=>rw[hm]at h;cases h
   |inr p=>
    obtain⟨X,m⟩:=p;rw[hm]at h;have r:=Mq hm;have t:=z1q S f m _ C n (Nat.or_lt_two_pow ha r.1) h;omega
theorem z1r(ha:acc<2^256)(h:mm S k acc=.inr (C,n)):C<2^256/\k<n/\n<=S.size:=z1q S _ k acc C n ha h
def flv(p:Nat):Value:=.iface 134 (.pointer (some ⟨p,0,none⟩))
def Flt(w:World)(p:Nat)(c:Nat×Nat):Prop:=w.heap[p]? =some (.cells #[.int .i64 (c.1:Int),.int .i64 (c.2:Int)] 136)
theorem Flt.new(w:World)(c:Nat×Nat):Flt (w.alloc (.cells #[.int .i64 (c.1:Int),.int .i64 (c.2:Int)] 136)) w.heap.size c:=by
 show(w.heap.push _)[w.heap.size]? =_;simp
def Bad(z:Value)(c:Nat×Nat)(w:World)(e:Ending)(w':World):Prop:=∃p,e=.returned (.tuple #[z,.int .i64 0,flv p])/\Hid (w.heap.size<=p/\Flt w' p c/\Below w.heap.size w w')
def Up(w w1:World)(p:Nat)(c:Nat×Nat):Prop:=w.heap.size<=p/\p≠w.heap.size/\Flt w1 p c
def ng(r:Rs):Rs:=
 match r with
 | .inl e=>.inl e
 | .inr (C,n)=>.inr (Xz C,n)
theorem z1s(S:ByteArray):Fx S=if bt S 0=some 91 then(if bt S 1=some 94 then ng (mm S 2 0)else mm S 1 0)else .inl (flt S 0):=rfl
theorem z8C(h:Fx S=.inr (C,n)):C<2^256/\0<n/\n<=S.size:=by
 rw[z1s]at h;split at h
 ·split at h
  ·cases hm:mm S 2 0 with
   |inl e=>rw[hm]at h;cases h
   |inr q=>
    obtain⟨D,m⟩:=q;rw[hm]at h;have o:=z1r (by decide+kernel) hm;simp only[ng,Sum.inr.injEq,Prod.mk.injEq]at h;refine⟨?_,by omega,by omega⟩;rw[<-h.1];unfold Xz Jy;omega
  ·have o:=z1r (by decide+kernel) h
   exact⟨o.1,by omega,o.2.2⟩
 ·cases h
open Go.Extern.Stop Go.Stop Go.Extern
def Zw(x:Nat):Bool:=(decide (65<=x)&&decide (x<=90))||((decide (97<=x)&&decide (x<=122))||x == 95)
def Gq(x:Nat):Bool:=decide (48<=x)&&decide (x<=57)
def plB(x:Nat):Bool:=decide (32<=x)&&decide (x<=126)
theorem Fk(x:Nat)(v:Bool)(o:Zw x=v)(w:World)(hx:x<256):
  Calls prog 90 #[.int .u8 x] w fun e w'=>e=.returned (.bool v)/\w'=w:=by
 subst o;have t:x<65∨(65<=x/\x<=90)∨(90<x/\x<95)∨x=95∨x=96∨(97<=x/\x<=122)∨122<x:=by omega
 rcases t with h|h|h|h|h|h|h
 ·have o:Zw x=false:=by unfold Zw;simp;omega
  have a1:decide (65<=(x:Int))=false:=by simp;omega
  have a3:decide (97<=(x:Int))=false:=by simp;omega
  have r:((x:Int) == 95)=false:=by simp;omega
  rw[o];clear h o;go_enter func90,ntmps90
  go_wp2_with fail
  go_ret;exact⟨rfl,rfl⟩
 ·have o:Zw x=true:=by unfold Zw;simp;omega
  have a1:decide (65<=(x:Int))=true:=by simp;omega
  have a2:decide ((x:Int)<=90)=true:=by simp;omega
  rw[o];clear h o;go_enter func90,ntmps90
  go_wp2_with fail
  go_ret;exact⟨rfl,rfl⟩
 ·have o:Zw x=false:=by unfold Zw;simp;omega
  have a1:decide (65<=(x:Int))=true:=by simp;omega
  have a2:decide ((x:Int)<=90)=false:=by simp;omega
  have a3:decide (97<=(x:Int))=false:=by simp;omega
  have r:((x:Int) == 95)=false:=by simp;omega
  rw[o];clear h o;go_enter func90,ntmps90
  go_wp2_with fail
  go_ret;exact⟨rfl,rfl⟩
 ·have o:Zw x=true:=by unfold Zw;simp;omega
  have a1:decide (65<=(x:Int))=true:=by simp;omega
  have a2:decide ((x:Int)<=90)=false:=by simp;omega
  have a3:decide (97<=(x:Int))=false:=by simp;omega
  have r:((x:Int) == 95)=true:=by simp;omega
  rw[o];clear h o;go_enter func90,ntmps90
  go_wp2_with fail
  go_ret;exact⟨rfl,rfl⟩
 ·have o:Zw x=false:=by unfold Zw;simp;omega
  have a1:decide (65<=(x:Int))=true:=by simp;omega
  have a2:decide ((x:Int)<=90)=false:=by simp;omega
  have a3:decide (97<=(x:Int))=false:=by simp;omega
  have r:((x:Int) == 95)=false:=by simp;omega
  rw[o];clear h o;go_enter func90,ntmps90
  go_wp2_with fail
  go_ret;exact⟨rfl,rfl⟩
 ·have o:Zw x=true:=by unfold Zw;simp;omega
  have a1:decide (65<=(x:Int))=true:=by simp;omega
  have a2:decide ((x:Int)<=90)=false:=by simp;omega
  have a3:decide (97<=(x:Int))=true:=by simp;omega
  have a4:decide ((x:Int)<=122)=true:=by simp;omega
  rw[o];clear h o;go_enter func90,ntmps90
  go_wp2_with fail
  go_ret;exact⟨rfl,rfl⟩
 ·have o:Zw x=false:=by unfold Zw;simp;omega
  have a1:decide (65<=(x:Int))=true:=by simp;omega
  have a2:decide ((x:Int)<=90)=false:=by simp;omega
  have a3:decide (97<=(x:Int))=true:=by simp;omega
  have a4:decide ((x:Int)<=122)=false:=by simp;omega
  have r:((x:Int) == 95)=false:=by simp;omega
  rw[o];clear h o;go_enter func90,ntmps90
  go_wp2_with fail
  go_ret;exact⟨rfl,rfl⟩
theorem z1t(x:Nat)(v:Bool)(h:Gq x=v)(w:World)(hx:x<256):
  Calls prog 171 #[.int .u8 x] w fun e w'=>e=.returned (.bool v)/\w'=w:=by
 subst h;unfold Gq;by_cases h1:48<=x
 ·have a1:decide (48<=(x:Int))=true:=by simp;omega
  by_cases h2:x<=57
  ·have a2:decide ((x:Int)<=57)=true:=by simp;omega
   rw[decide_eq_true h1,decide_eq_true h2];clear h1 h2;go_enter func171,ntmps171
   go_wp2_with fail
   go_ret;exact⟨rfl,rfl⟩
  ·have a2:decide ((x:Int)<=57)=false:=by simp;omega
   rw[decide_eq_true h1,decide_eq_false h2];clear h1 h2;go_enter func171,ntmps171
   go_wp2_with fail
   go_ret;exact⟨rfl,rfl⟩
 ·have a1:decide (48<=(x:Int))=false:=by simp;omega
  rw[decide_eq_false h1];clear h1;go_enter func171,ntmps171
  go_wp2_with fail
  go_ret;exact⟨rfl,rfl⟩
theorem Ck(x:Nat)(v:Bool)(h:plB x=v)(w:World)(hx:x<256):
  Calls prog 172 #[.int .u8 x] w fun e w'=>e=.returned (.bool v)/\w'=w:=by
 subst h;unfold plB;by_cases h1:32<=x
 ·have a1:decide (32<=(x:Int))=true:=by simp;omega
  by_cases h2:x<=126
  ·have a2:decide ((x:Int)<=126)=true:=by simp;omega
   rw[decide_eq_true h1,decide_eq_true h2];clear h1 h2;go_enter func172,ntmps172
   go_wp2_with fail
   go_ret;exact⟨rfl,rfl⟩
  ·have a2:decide ((x:Int)<=126)=false:=by simp;omega
   rw[decide_eq_true h1,decide_eq_false h2];clear h1 h2;go_enter func172,ntmps172
   go_wp2_with fail
   go_ret;exact⟨rfl,rfl⟩
 ·have a1:decide (32<=(x:Int))=false:=by simp;omega
  rw[decide_eq_false h1];clear h1;go_enter func172,ntmps172
  go_wp2_with fail
  go_ret;exact⟨rfl,rfl⟩
theorem z8D(S:ByteArray)(k:Nat)(w:World)(t:S.size<=9007199254740992)(y:k<=9007199254740999):
  Calls prog 96 #[.string S,.int .i64 k] w fun e w'=>e=.returned (flv w.heap.size)/\Flt w' w.heap.size (flt S k)/\Below w.heap.size w w':=by
 by_cases h:S.size<=k
 ·have r:decide ((S.size:Int)<=(k:Int))=true:=by simp;omega
  have o:Hid (flt S k=(3,S.size)):=by show _=_;unfold flt;rw[if_pos h]
  go_enter func96,ntmps96
  go_wp2_with fail
  go_ret;rw[o.out];exact⟨rfl,Flt.new w (3,S.size),B0q.alloc L0q _⟩
 ·have r:decide ((S.size:Int)<=(k:Int))=false:=by simp;omega
  have o:Hid (flt S k=(4,k)):=by show _=_;unfold flt;rw[if_neg h]
  go_enter func96,ntmps96
  go_wp2_with fail
  go_ret;rw[o.out];exact⟨rfl,Flt.new w (4,k),B0q.alloc L0q _⟩
theorem Ky(S:ByteArray)(k:Nat)(c:Nat×Nat)(w0 w:World)(h:flt S k=c)(r:S.size<=9007199254740992)(t:k<=9007199254740999)(o:Below w0.heap.size w0 w):
  Calls prog 96 #[.string S,.int .i64 k] w fun e w'=>∃p,e=.returned (flv p)/\Hid (w0.heap.size<=p/\Flt w' p c/\Below w0.heap.size w0 w'):=
 (z8D S k w r t).mono fun e w' ⟨y,A,D⟩=>⟨_,y,o.size,h▸A,o.trans (D.mono o.size)⟩
theorem Oh(T:ByteArray)(x:Nat)(w:World):
  Calls prog 95 #[.string T,.int .u8 x] w fun e w'=>e=.returned (.int .i64 (Lib.indexByte T.data.toList x.toUInt8))/\w'=w:=by
 have o:= @run_callFunc_extern prog 178 _ Extern.BytealgIndexByte.indexByte func178 (by kernel_rfl) (by kernel_rfl) (by kernel_rfl) (by kernel_rfl);have h:=Lib.run_indexByteString (P:=prog) T (x:Int);simp only[Int.toNat_natCast]at h;go_enter func95,ntmps95
 go_wp2
 go_ret;exact⟨rfl,rfl⟩
def dgi(x:Nat):Int:=match dgv x with|some d=>(d:Int)|none=> -1
theorem z8E(h:dgv x=some d):dgi x=(d:Int):=by unfold dgi;rw[h]
theorem z8F(h:dgv x=none):dgi x= -1:=by unfold dgi;rw[h]
theorem z8G:∀x:Nat,x<256->Lib.indexByte [48,49,50,51,52,53,54,55,56,57,97,98,99,100,101,102] x.toUInt8=dgi x:=by decide+kernel
def mkB(x:Nat):Bool:=x == 47||x == 38||x == 33||x == 63||x == 42||x == 43||x == 40||x == 41||x == 46
theorem z8H:∀x:Nat,x<256->decide (0<=Lib.indexByte [47,38,33,63,42,43,40,41,46] x.toUInt8)=mkB x:=by decide+kernel
def dgk(S:ByteArray)(k:Nat):Int:=match bt S k with|none=> -1|some x=>dgi x
theorem Mx(S:ByteArray)(k:Nat)(w:World)(y:S.size<=9007199254740992):
  Calls prog 242 #[.string S,.int .i64 k] w fun e w'=>e=.returned (.int .i64 (dgk S k))/\w'=w:=by
 unfold dgk;cases hx:bt S k with
 |none=>
  have A:=Xw hx;have o:decide ((S.size:Int)<=(k:Int))=true:=by simp;omega
  simp only;clear hx;go_enter func242,ntmps242
  go_wp2_with fail
  go_ret;exact⟨rfl,rfl⟩
 |some x=>
  have r:=(Qp hx).2;obtain⟨D,E⟩:=Xv hx;have G:(k:Int)<(S.size:Int):=by omega
  have o:decide ((S.size:Int)<=(k:Int))=false:=by simp;omega
  have t:Hid (∀w:World,Calls prog 95 #[.string {data:=#[48,49,50,51,52,53,54,55,56,57,97,98,99,100,101,102]},.int .u8 x] w fun e w'=>e=.returned (.int .i64 (dgi x))/\w'=w):=fun w=>by
   have h:=Oh {data:=#[48,49,50,51,52,53,54,55,56,57,97,98,99,100,101,102]} x w;rw[show({data:=#[48,49,50,51,52,53,54,55,56,57,97,98,99,100,101,102]}:ByteArray).data.toList=[48,49,50,51,52,53,54,55,56,57,97,98,99,100,101,102]from rfl,z8G x r]at h;exact h
  simp only;clear hx;go_enter func242,ntmps242
  go_wp2_with fail
  refine(t.out _).mono ?_;rintro e I ⟨rfl,rfl⟩
  go_wp2_with fail
  go_ret;exact⟨rfl,rfl⟩
end Go.Proofs.YtgnkkgcgbeianaaGreatDoor
