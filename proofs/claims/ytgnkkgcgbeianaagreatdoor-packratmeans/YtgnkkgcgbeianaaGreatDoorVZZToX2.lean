/- Lemmas for the last text. Conditions: those that each names. -/
import Derived.WalkKit
import Derived.Test.YtgnkkgcgbeianaaGreatDoorProg
import Derived.WalkLawsBesides
import Derived.Deep.QuietTactic
import Derived.BigQuiet
import Derived.BigRegion
import Derived.Lib.Bytealg
import Derived.LaidEql
import Derived.Stop.Asserts
import Derived.RowKitTokens
set_option linter.unusedVariables false
set_option maxRecDepth 100000
set_option maxHeartbeats 1000000
namespace Go.Proofs.YtgnkkgcgbeianaaGreatDoor
open Go.Proofs.Tryz
theorem B0q{B:Nat}{w:World}:Go.RowKit.Below B w w:=Go.RowKit.Below.refl B w
theorem L0q{n:Nat}:n<=n:=Nat.le_refl n
variable {w:World} {C b g k n x:Nat}
@[reducible] def zU (x:Int):Value:=.int .u64 x
@[reducible] def zI (x:Int):Value:=.int .i64 x
@[reducible] def zT (s:ByteArray):Value:=.string s
@[reducible] def zP (a b:Nat):Value:=.pointer (some ⟨a,b,none⟩)
@[reducible] def zS (a n c:Nat):Value:=.slice (some ⟨a,0,none⟩) n c
@[reducible] def zB (w v:World):Prop:=Go.RowKit.Below w.heap.size w v
@[reducible] def zR (w:World) (x:Value) (e:Ending) (v:World):Prop:=e=.returned x/\Go.RowKit.Below w.heap.size w v
@[reducible] def zC (w:World) (a b:Nat) (x:Value):Prop:=w.cell? ⟨a,b,none⟩=some x
@[reducible] def zH (w:World) (a:Nat) (o:Obj):Prop:=w.heap[a]? =some o
abbrev zA:=ByteArray
theorem zY{α:Type}:(∀(l:List α) (i:Nat) (a:α),l.toArray.setIfInBounds i a=(l.set i a).toArray)/\(∀(l:List α) (b a:α),(b::l).set 0 a=a::l)/\∀(l:List α) (b a:α) (n:Nat),(b::l).set (n+1) a=b::l.set n a:=⟨fun _ _ _=>by simp,fun _ _ _=>rfl,fun _ _ _ _=>rfl⟩
def wd(C i:Nat):Nat:=C/2^(64*i)%18446744073709551616
theorem Xx(C i:Nat):wd C i<18446744073709551616:=Nat.mod_lt _ (by decide)
theorem Vx(C i j:Nat):(wd C i).testBit j=(decide (j<64)&&C.testBit (64*i+j)):=by
 unfold wd;rw[show(18446744073709551616:Nat)=2^64 from rfl,Nat.testBit_mod_two_pow,Nat.testBit_div_two_pow,Nat.add_comm j]
theorem Bz(C D i:Nat):wd (C&&&D) i=wd C i&&&wd D i:=by
 apply Nat.eq_of_testBit_eq;intro j;rw[Nat.testBit_and,Vx,Vx,Vx,Nat.testBit_and];cases decide (j<64)<;>simp
def Xp:Nat:=2^256-1
def Zl(C:Nat):Nat:=Xp-C
theorem Lx(C:Nat)(h:C<2^256)(j:Nat):(Zl C).testBit j=(decide (j<256)&& !C.testBit j):=by
 unfold Zl Xp;rw[Nat.sub_sub,Nat.add_comm 1 C,Nat.testBit_two_pow_sub_succ h]
theorem z6C(C:Nat)(h:C<2^256)(i:Nat)(o:i<4):wd (Zl C) i=18446744073709551615-wd C i:=by
 apply Nat.eq_of_testBit_eq;intro j;rw[Vx,Lx C h,show 18446744073709551615-wd C i=2^64-(wd C i+1) by have:=Xx C i;omega,Nat.testBit_two_pow_sub_succ (by have:=Xx C i;omega),Vx];by_cases hj:j<64
 ·simp[hj,show 64*i+j<256 by omega]
 ·simp[hj]
theorem z0p(C D:Nat)(h:C<2^256)(o:D<2^256)(t:wd C 0=wd D 0)(y:wd C 1=wd D 1)(A:wd C 2=wd D 2)(E:wd C 3=wd D 3):C=D:=by
 apply Nat.eq_of_testBit_eq;intro j;by_cases hj:j<256
 ·have r:wd C (j/64)=wd D (j/64):=by
   have:j/64=0∨j/64=1∨j/64=2∨j/64=3:=by omega
   rcases this with e|e|e|e<;>rw[e]<;>assumption
  have a:=Vx C (j/64) (j%64);have b:=Vx D (j/64) (j%64);rw[r]at a;rw[a]at b;have e:64*(j/64)+j%64=j:=by omega
  simpa [show j%64<64 by omega,e]using b
 ·rw[Nat.testBit_lt_two_pow (Nat.lt_of_lt_of_le h (Nat.pow_le_pow_right (by decide) (by omega))),Nat.testBit_lt_two_pow (Nat.lt_of_lt_of_le o (Nat.pow_le_pow_right (by decide) (by omega)))]
def cls(a b c d:Nat):Nat:=a+18446744073709551616*(b+18446744073709551616*(c+18446744073709551616*d))
theorem z6D(a b c d:Nat)(ha:a<18446744073709551616)(h:b<18446744073709551616)(o:c<18446744073709551616)(r:d<18446744073709551616):cls a b c d<2^256:=by
 unfold cls;rw[show(2:Nat)^256=18446744073709551616*(18446744073709551616*(18446744073709551616*18446744073709551616))from by decide+kernel];omega
theorem Lj(a b c d:Nat)(ha:a<18446744073709551616)(t:b<18446744073709551616)(y:c<18446744073709551616)(A:d<18446744073709551616):
  wd (cls a b c d) 0=a/\wd (cls a b c d) 1=b/\wd (cls a b c d) 2=c/\wd (cls a b c d) 3=d:=by
 have h:(2:Nat)^(64*1)=18446744073709551616:=by decide+kernel
 have o:(2:Nat)^(64*2)=18446744073709551616*18446744073709551616:=by decide+kernel
 have r:(2:Nat)^(64*3)=18446744073709551616*18446744073709551616*18446744073709551616:=by decide+kernel
 unfold wd cls;rw[h,o,r,<-Nat.div_div_eq_div_mul,<-Nat.div_div_eq_div_mul,<-Nat.div_div_eq_div_mul,Nat.mul_zero,Nat.pow_zero,Nat.div_one];refine⟨by omega,by omega,by omega,by omega⟩
def spn(lo n:Nat):Nat:=2^lo*(2^n-1)
theorem z6E(lo n j:Nat):(spn lo n).testBit j=(decide (lo<=j)&&decide (j<lo+n)):=by
 unfold spn;rw[Nat.testBit_two_pow_mul,Nat.testBit_two_pow_sub_one];by_cases h:lo<=j
 ·simp[h,show j-lo<n↔j<lo+n by omega]
 ·simp[h]
theorem z6F(lo n:Nat)(h:lo+n<=256):spn lo n<2^256:=by
 unfold spn;have r:2^lo*2^n<=2^256:=by rw[<-Nat.pow_add];exact Nat.pow_le_pow_right (by decide) h
 have o:0<2^lo:=Nat.pow_pos (by decide);have t:2^lo*(2^n-1)<2^lo*2^n:=Nat.mul_lt_mul_of_pos_left (by have:0<2^n:=Nat.pow_pos (by decide);omega) o;omega
open Go.RowKit
@[reducible] def cv (C:Nat):Value:=.agg #[zU (wd C 0:Nat),zU (wd C 1:Nat),zU (wd C 2:Nat),zU (wd C 3:Nat)]
theorem z6G(x:Nat)(h:x<18446744073709551616):18446744073709551615^^^x=18446744073709551615-x:=by
 apply Nat.eq_of_testBit_eq;intro j;rw[show 18446744073709551615-x=2^64-(x+1) by omega,Nat.testBit_two_pow_sub_succ (by omega),Nat.testBit_xor,show(18446744073709551615:Nat)=2^64-1 from rfl,Nat.testBit_two_pow_sub_one];by_cases hj:j<64
 ·simp[hj]
 ·rw[Nat.testBit_lt_two_pow (Nat.lt_of_lt_of_le h (show 2^64<=2^j from Nat.pow_le_pow_right (by decide) (by omega)))]
  simp[hj]
theorem Bq(C:Nat)(h:C<2^256)(i:Nat)(o:i<4):bits BinOp.xor IntKind.u64 IntKind.u64.max (wd C i:Nat)=(wd (Zl C) i:Nat):=by
 rw[z6C C h i o,<-z6G _ (Xx C i)];exact Go.bits_xor_u64_nat 18446744073709551615 _ (by omega) (Xx C i)
theorem Lk(C:Nat)(h:C<2^256)(w:World):
  Calls prog 127 #[cv C] w fun e w'=>e=.returned (cv (Zl C))/\zB w w':=by
 have o:bits BinOp.xor IntKind.u64 IntKind.u64.max (wd C 0:Nat)=(wd (Zl C) 0:Nat):=Bq C h 0 (by omega);have r:bits BinOp.xor IntKind.u64 IntKind.u64.max (wd C 1:Nat)=(wd (Zl C) 1:Nat):=Bq C h 1 (by omega);have t:bits BinOp.xor IntKind.u64 IntKind.u64.max (wd C 2:Nat)=(wd (Zl C) 2:Nat):=Bq C h 2 (by omega);have y:bits BinOp.xor IntKind.u64 IntKind.u64.max (wd C 3:Nat)=(wd (Zl C) 3:Nat):=Bq C h 3 (by omega);unfold cv;go_enter func127,ntmps127
 go_wp2
 refine wp_loop_rounds 5 ?_;rw[rounds_succ]
 go_wp2
 rw[rounds_succ]
 go_wp2
 rw[rounds_succ]
 go_wp2
 rw[rounds_succ]
 go_wp2
 rw[rounds_succ]
 go_wp2
 refine bodyPost_ret (v:=.agg #[zU (wd (Zl C) 0:Nat),zU (wd (Zl C) 1:Nat),zU (wd (Zl C) 2:Nat),zU (wd (Zl C) 3:Nat)]) (by simp[results,Tryz.results127,go_sem]) rfl ⟨rfl,?_⟩;exact((B0q.alloc L0q _).alloc (by simp) _)
def seg(lo b:Nat):Nat:=spn lo (b-lo)
theorem Bk(lo b j:Nat):(seg lo b).testBit j=(decide (lo<=j)&&decide (j<b)):=by
 unfold seg;rw[z6E];by_cases h1:lo<=j
 ·by_cases h2:j<b
  ·simp[h1,h2,show j<lo+(b-lo) by omega]
  ·simp[h1,h2,show ¬j<lo+(b-lo) by omega]
 ·simp[h1]
theorem z6H(lo:Nat):seg lo lo=0:=by simp[seg,spn]
theorem Bw(lo b:Nat)(h:lo<=b):seg lo (b+1)=seg lo b|||2^b:=by
 apply Nat.eq_of_testBit_eq;intro j;rw[Nat.testBit_or,Bk,Bk,Nat.testBit_two_pow];by_cases h1:lo<=j<;>by_cases h2:j<b<;>by_cases h3:b=j<;>simp[h1,h2,h3]<;>omega
theorem Nj(lo b:Nat)(h:b<=256):seg lo b<2^256:=by
 by_cases h1:lo<=b
 ·exact z6F _ _ (by omega)
 ·simp[seg,show b-lo=0 by omega,spn]
theorem By(C b i:Nat)(o:b<256)(r:i<4):wd (C|||2^b) i=if b/64=i then wd C i|||2^(b%64)else wd C i:=by
 apply Nat.eq_of_testBit_eq;intro j;rw[Vx,Nat.testBit_or,Nat.testBit_two_pow];split
 ·rename_i h
  rw[Nat.testBit_or,Vx,Nat.testBit_two_pow];by_cases hj:j<64
  ·have:(b=64*i+j)↔(b%64=j):=by omega
   simp[hj,this]
  ·simp[hj];omega
 ·rename_i h
  rw[Vx];by_cases hj:j<64
  ·have:¬(b=64*i+j):=by omega
   simp[hj,this]
  ·simp[hj]
theorem z6I(C b k:Nat)(o:b<256)(t:b/64=k):
  (#[zU (wd C 0:Nat),zU (wd C 1:Nat),zU (wd C 2:Nat),zU (wd C 3:Nat)]:Array Value).setIfInBounds k (zU (bits BinOp.or IntKind.u64 (wd C k:Nat) (IntKind.u64.wrap (2^(b%64)))))=
  #[zU (wd (C|||2^b) 0:Nat),zU (wd (C|||2^b) 1:Nat),zU (wd (C|||2^b) 2:Nat),zU (wd (C|||2^b) 3:Nat)]:=by
 have r:2^(b%64)<2^64:=Nat.pow_lt_pow_right (by decide) (by omega);have y:IntKind.u64.wrap (2^(b%64))=((2^(b%64):Nat):Int):=by
  rw[IntKind.wrap_u64];have:((2:Int)^(b%64))=((2^(b%64):Nat):Int):=(Int.natCast_pow 2 (b%64)).symm;rw[this];exact Int.emod_eq_of_lt (Int.natCast_nonneg _) (Int.ofNat_lt.2 r)
 have h:=Go.bits_or_u64_nat (wd C k) (2^(b%64)) (Xx _ _) r;rw[y,h,By C b 0 o (by omega),By C b 1 o (by omega),By C b 2 o (by omega),By C b 3 o (by omega)];subst t;have:b/64=0∨b/64=1∨b/64=2∨b/64=3:=by omega
 rcases this with e|e|e|e<;>rw[e]<;>rfl
theorem Bf(W:World)(C b k q n:Nat)(h:b<256)(o:b/64=k)(r:n=W.heap.size):
  ((W.alloc (.cells #[zU (wd C 0:Nat),zU (wd C 1:Nat),zU (wd C 2:Nat),zU (wd C 3:Nat)] 54)).drewN q).setCell ⟨n,k,none⟩ (zU (bits BinOp.or IntKind.u64 (wd C k:Nat) (IntKind.u64.wrap (2^(b%64)))))=
  (W.alloc (.cells #[zU (wd (C|||2^b) 0:Nat),zU (wd (C|||2^b) 1:Nat),zU (wd (C|||2^b) 2:Nat),zU (wd (C|||2^b) 3:Nat)] 54)).drewN q:=by
 rw[<-z6I C b k h o];exact congrArg (World.drewN · q) (World.setCell_alloc_at _ _ _ _ _ r)
theorem z0q(lo h:Nat)(w:World)(A:lo<=h)(D:h<256):
  Calls prog 211 #[zI (lo:Int),zI (h:Int)] w fun e w'=>e=.returned (cv (spn lo (h+1-lo)))/\zB w w':=by
 go_enter func211,ntmps211
 go_wp2_with fail
 go_loopw [6] (fun i wr=>∃b q:Nat,lo<=b/\b<=h+1/\i=zI (b:Int)/\wr=((w.alloc (.cells #[zU 0,zU 0,zU 0,zU 0] 54)).alloc (.cells #[zU (wd (seg lo b) 0:Nat),zU (wd (seg lo b) 1:Nat),zU (wd (seg lo b) 2:Nat),zU (wd (seg lo b) 3:Nat)] 54)).drewN q) (fun i _=>h+1-(intOf i).toNat)
 case atStart=>exact⟨lo,0,Nat.le_refl _,by omega,rfl,by rw[z6H];rfl⟩
 case round=>
  obtain⟨b,q,r,E,rfl,rfl⟩:=hrel;by_cases hbh:b<=h
  ·have o:b/64=0∨b/64=1∨b/64=2∨b/64=3:=by omega
   rcases o with o|o|o|o
   ·have t:(b:Int)/64=0:=by omega
    go_wp2_with fail
    go_region
    go_wp2_with fail
    exact⟨⟨b+1,q+1,by omega,by omega,by push_cast;rfl,by rw[Bw lo b r];exact Bf _ _ b 0 _ _ (by omega) o (by simp)⟩,by simp[intOf];omega⟩
   ·have t:(b:Int)/64=1:=by omega
    go_wp2_with fail
    go_region
    go_wp2_with fail
    exact⟨⟨b+1,q+1,by omega,by omega,by push_cast;rfl,by rw[Bw lo b r];exact Bf _ _ b 1 _ _ (by omega) o (by simp)⟩,by simp[intOf];omega⟩
   ·have t:(b:Int)/64=2:=by omega
    go_wp2_with fail
    go_region
    go_wp2_with fail
    exact⟨⟨b+1,q+1,by omega,by omega,by push_cast;rfl,by rw[Bw lo b r];exact Bf _ _ b 2 _ _ (by omega) o (by simp)⟩,by simp[intOf];omega⟩
   ·have t:(b:Int)/64=3:=by omega
    go_wp2_with fail
    go_region
    go_wp2_with fail
    exact⟨⟨b+1,q+1,by omega,by omega,by push_cast;rfl,by rw[Bw lo b r];exact Bf _ _ b 3 _ _ (by omega) o (by simp)⟩,by simp[intOf];omega⟩
  ·have y:b=h+1:=by omega
   subst y;have G:decide (((h+1:Nat):Int)<=(h:Int))=false:=by simp;omega
   have I:∀(w:World) (q:Nat) (a:Addr) (v:Value),(w.drewN q).setCell a v=(w.setCell a v).drewN q:=fun _ _ _ _=>rfl
   go_wp2_with fail
   refine bodyPost_ret (v:=.agg #[zU (wd (seg lo (h+1)) 0:Nat),zU (wd (seg lo (h+1)) 1:Nat),zU (wd (seg lo (h+1)) 2:Nat),zU (wd (seg lo (h+1)) 3:Nat)]) (by simp[results,Tryz.results211,go_sem]) rfl ⟨rfl,?_⟩;exact below_drewN ((B0q.alloc L0q _).alloc (by simp) _) _
def Blk(w:World)(g C:Nat):Prop:=w.heap[g]? =some (.cells #[zU (wd C 0:Nat),zU (wd C 1:Nat),zU (wd C 2:Nat),zU (wd C 3:Nat)] 54)
def st4(w:World)(g D:Nat):World:=(((w.setCell ⟨g,0,none⟩ (zU (wd D 0:Nat))).setCell ⟨g,1,none⟩ (zU (wd D 1:Nat))).setCell ⟨g,2,none⟩ (zU (wd D 2:Nat))).setCell ⟨g,3,none⟩ (zU (wd D 3:Nat))
theorem Blk.cells(h:Blk w g C):w.cell? ⟨g,0,none⟩=some (.int .u64 (wd C 0))/\w.cell? ⟨g,1,none⟩=some (.int .u64 (wd C 1))/\w.cell? ⟨g,2,none⟩=some (.int .u64 (wd C 2))/\w.cell? ⟨g,3,none⟩=some (.int .u64 (wd C 3)):=by
 unfold Blk at h;simp[World.cell?,h]
theorem Blk.thaw(h:Blk w g C):w.frozen? ⟨g,0,none⟩=false/\w.frozen? ⟨g,1,none⟩=false/\w.frozen? ⟨g,2,none⟩=false/\w.frozen? ⟨g,3,none⟩=false:=by
 unfold Blk at h;simp[World.frozen?,h]
theorem Blk.lt(h:Blk w g C):g<w.heap.size:=by
 unfold Blk at h;rcases Nat.lt_or_ge g w.heap.size with o|o
 ·exact o
 ·rw[Array.getElem?_eq_none o]at h;cases h
theorem Blk.below{w':World}{B:Nat}(h:Blk w g C)(o:Below B w w')(r:g<B):Blk w' g C:=(o.block g r).trans h
theorem Blk.alloc{w:World}{g C:Nat}(h:Blk w g C)(o:Obj):Blk (w.alloc o) g C:=(Below.heap_alloc w o g h.lt).trans h
theorem Blk.new(w:World)(C:Nat):Blk (w.alloc (.cells #[zU (wd C 0:Nat),zU (wd C 1:Nat),zU (wd C 2:Nat),zU (wd C 3:Nat)] 54)) w.heap.size C:=by
 show(w.heap.push _)[w.heap.size]? =_;simp
theorem Jk(i:Nat):wd 0 i=0:=by simp[wd]
theorem Blk.st4{w:World}{g C:Nat}(h:Blk w g C)(D:Nat):Blk (st4 w g D) g D:=by
 unfold Blk at*;unfold Proofs.YtgnkkgcgbeianaaGreatDoor.st4;simp only[World.setCell,Array.getElem?_modify,if_true,Option.map_map];rw[h];simp
theorem Lv(w:World)(g D:Nat):(st4 w g D).heap.size=w.heap.size:=by simp[st4,World.setCell]
theorem Below.st4{B:Nat}{a w:World}(h:Below B a w){g:Nat}(o:B<=g)(D:Nat):Below B a (st4 w g D):=
 ((((h.setCell (p:=⟨g,0,none⟩) o _).setCell (p:=⟨g,1,none⟩) o _).setCell (p:=⟨g,2,none⟩) o _).setCell (p:=⟨g,3,none⟩) o _)
theorem below_drewN{B:Nat}{a:World}(h:Below B a w)(q:Nat):Below B a (w.drewN q):=⟨h.os,h.tape,h.output,h.size,h.block⟩
theorem hid{p:Prop}(h:p):Hid p:=h
def mark(b:Nat):Bool:=b == 91||b == 93||b == 92||b == 45||b == 94
def Xl(n:Nat):Nat:=if n<10 then 48+n else 87+n
theorem z6J(b:Nat)(w:World)(D:b<256):
  Calls prog 244 #[.int .u8 b] w fun e w'=>e=.returned (.bool (mark b))/\w'=w:=by
 have h:∀n:Nat,((b:Int) == (n:Int))=(b == n):=fun n=>by
  by_cases e:b=n
  ·subst e;simp
  ·rw[beq_false_of_ne e];simp;omega
 have o:((b:Int) == 91)=(b == 91):=h 91;have r:((b:Int) == 93)=(b == 93):=h 93;have t:((b:Int) == 92)=(b == 92):=h 92;have y:((b:Int) == 45)=(b == 45):=h 45;have A:((b:Int) == 94)=(b == 94):=h 94;clear h;unfold mark;cases k1:b == 91<;>rw[k1]at o<;>cases k2:b == 93<;>rw[k2]at r<;>cases k3:b == 92<;>rw[k3]at t<;>cases k4:b == 45<;>rw[k4]at y<;>cases k5:b == 94<;>rw[k5]at A
 all_goals
  go_enter func244,ntmps244
  go_wp2_with fail
  go_ret;exact⟨rfl,rfl⟩
theorem z6K(b:Nat)(w:World)(h:b<256):
  Calls prog 245 #[.int .u8 b] w fun e w'=>e=.returned (.bool (decide (32<=b)&&decide (b<=126)))/\w'=w:=by
 by_cases h1:32<=b
 ·have a1:decide (32<=(b:Int))=true:=by simp;omega
  by_cases h2:b<=126
  ·have a2:decide ((b:Int)<=126)=true:=by simp;omega
   rw[decide_eq_true h1,decide_eq_true h2];clear h1 h2;go_enter func245,ntmps245
   go_wp2_with fail
   go_ret;exact⟨rfl,rfl⟩
  ·have a2:decide ((b:Int)<=126)=false:=by simp;omega
   rw[decide_eq_true h1,decide_eq_false h2];clear h1 h2;go_enter func245,ntmps245
   go_wp2_with fail
   go_ret;exact⟨rfl,rfl⟩
 ·have a1:decide (32<=(b:Int))=false:=by simp;omega
  rw[decide_eq_false h1];clear h1;go_enter func245,ntmps245
  go_wp2_with fail
  go_ret;exact⟨rfl,rfl⟩
def At(S:zA)(k x:Nat):Prop:=∃h:k<S.size,(S[k]).toNat=x
theorem At.lt{S:zA}(h:At S k x):k<S.size:=h.1
theorem At.u8{S:zA}(h:At S k x):x<256:=by
 obtain⟨o,rfl⟩:=h;exact(S[k]).toNat_lt
def bt(S:zA)(k:Nat):Option Nat:=if h:k<S.size then some (S[k]).toNat else none
theorem Yz{S:zA}(h:bt S k=some x):At S k x:=by
 unfold bt at h;split at h
 ·rename_i o;exact⟨o,by simpa using h⟩
 ·cases h
theorem Yy{S:zA}(h:bt S k=none):S.size<=k:=by
 unfold bt at h;split at h
 ·cases h
 ·omega
theorem Jl{S:zA}(h:S.size<=k):bt S k=none:=by
 unfold bt;rw[dif_neg (by omega)]
theorem Zj{S:zA}(h:bt S k=some x):k<S.size/\x<256:=⟨(Yz h).lt,(Yz h).u8⟩
def flt(S:zA)(k:Nat):Nat×Nat:=if S.size<=k then(3,S.size)else(4,k)
def dgv(x:Nat):Option Nat:=if 48<=x/\x<=57 then some (x-48)else if 97<=x/\x<=102 then some (x-87)else none
theorem z6L{d:Nat}(h:dgv x=some d):d<16/\x=Xl d:=by
 unfold dgv at h;unfold Xl;split at h
 ·simp at h;subst h;refine⟨by omega,?_⟩;rw[if_pos (by omega)];omega
 ·split at h
  ·simp at h;subst h;refine⟨by omega,?_⟩;rw[if_neg (by omega)];omega
  ·cases h
def dg(S:zA)(k:Nat):Option Nat:=(bt S k).bind dgv
abbrev Rs:=(Nat×Nat) ⊕ (Nat×Nat)
def Bg(S:zA)(k:Nat):Rs:=
 match dg S k with
 |none=>.inl (flt S k)
 |some q=>match dg S (k+1)with
  |none=>.inl (flt S (k+1))
  |some r=>.inr (16*q+r,k+2)
def Lw(x:Nat):Option Nat:=if x=110 then some 10 else if x=114 then some 13 else if x=116 then some 9 else if mark x then some x else none
def esc(S:zA)(k:Nat):Rs:=
 match bt S k with
 |none=>.inl (flt S k)
 |some x=>match Lw x with
  |some b=>.inr (b,k+1)
  |none=>if x=120 then Bg S (k+1)else .inl (flt S k)
def z6M(x:Nat):Bool:= !mark x&&(decide (32<=x)&&decide (x<=126))
def sg(S:zA)(k:Nat):Rs:=
 match bt S k with
 |none=>.inl (flt S k)
 |some x=>if x=92 then esc S (k+1)else if z6M x=true then .inr (x,k+1)else .inl (flt S k)
def mbr(S:zA)(k:Nat):Rs:=
 match sg S k with
 | .inl e=>.inl e
 | .inr (lo,n)=>
   if bt S n=some 45 then
    match sg S (n+1)with
    | .inl e=>.inl e
    | .inr (hi,m)=>if hi<lo then .inl (flt S k)else .inr (seg lo (hi+1),m)
   else .inr (seg lo (lo+1),n)
def Bb(S:zA):Nat->Nat->Nat->Rs
 |0,k,_=>.inl (flt S k)
 |f+1,k,acc=>
  if bt S k=some 93 then .inr (acc,k+1)else
  match mbr S k with
  | .inl e=>.inl e
  | .inr (X,n)=>Bb S f n (acc|||X)
def mm(S:zA)(k acc:Nat):Rs:=Bb S (S.size+1-k) k acc
def Ly(S:zA):Rs:=
 if bt S 0=some 91 then
  if bt S 1=some 94 then
   match mm S 2 0 with
   | .inl e=>.inl e
   | .inr (C,n)=>.inr (Zl C,n)
  else mm S 1 0
 else .inl (flt S 0)
theorem z0r{S:zA}(h:Bg S k=.inr (b,n)):∃q r,dg S k=some q/\dg S (k+1)=some r/\b=16*q+r/\n=k+2:=by
 unfold Bg at h;split at h
 ·cases h
 ·rename_i q o
  split at h
  ·cases h
  ·rename_i r t
   simp at h;exact⟨q,r,o,t,h.1.symm,h.2.symm⟩
theorem Bh{S:zA}{d:Nat}(h:dg S k=some d):d<16/\At S k (Xl d):=by
 unfold dg at h;cases hb:bt S k with
 |none=>rw[hb]at h;cases h
 |some x=>
  rw[hb]at h;obtain⟨o,r⟩:=z6L (show dgv x=some d from h);exact⟨o,r▸Yz hb⟩
theorem z6N(h:Lw x=some b)(hx:x<256):b<256:=by
 unfold Lw at h
 repeat(split at h;(simp at h;omega))
 cases h
theorem z6O{S:zA}(h:esc S k=.inr (b,n)):b<256/\k<n/\n<=S.size:=by
 unfold esc at h;split at h
 ·cases h
 ·rename_i x hx
  have o:=Zj hx;split at h
  ·rename_i D t
   simp at h;have:=z6N t o.2;omega
  ·split at h
   ·obtain⟨q,r,y,A,rfl,rfl⟩:=z0r h
    have a1:=Bh y;have a2:=Bh A;have:=a2.2.lt;omega
   ·cases h
theorem z0s{S:zA}(h:sg S k=.inr (b,n)):b<256/\k<n/\n<=S.size:=by
 unfold sg at h;split at h
 ·cases h
 ·rename_i x hx
  have o:=Zj hx;split at h
  ·have:=z6O h;omega
  ·split at h
   ·simp at h;omega
   ·cases h
theorem z6P{S:zA}{X:Nat}(h:mbr S k=.inr (X,n)):X<2^256/\k<n/\n<=S.size:=by
 unfold mbr at h;split at h
 ·cases h
 ·rename_i lo m o
  have t:=z0s o;split at h
  ·split at h
   ·cases h
   ·rename_i y A r
    have D:=z0s r;split at h
    ·cases h
    ·simp at h
     exact⟨h.1▸Nj _ _ (by omega),by omega,by omega⟩
  ·simp at h
   exact⟨h.1▸Nj _ _ (by omega),by omega,by omega⟩
theorem z0t(S:zA):∀(f k acc C n:Nat),acc<2^256->Bb S f k acc=.inr (C,n)->C<2^256/\k<n/\n<=S.size
 |0,k,acc,C,n,_,h=>by cases h
 |f+1,k,acc,C,n,ha,h=>by
  rw[Bb]at h;split at h
  ·rename_i o
   have:=(Zj o).1;simp at h;omega
  ·cases hm:mbr S k with
   |inl e=>rw[hm]at h;cases h
   |inr p=>
    obtain⟨X,m⟩:=p;rw[hm]at h;have r:=z6P hm;have t:=z0t S f m _ C n (Nat.or_lt_two_pow ha r.1) h;omega
theorem z0u{S:zA}{acc:Nat}(ha:acc<2^256)(h:mm S k acc=.inr (C,n)):C<2^256/\k<n/\n<=S.size:=z0t S _ k acc C n ha h
def flv(p:Nat):Value:=.iface 134 (zP p 0)
def Flt(w:World)(p:Nat)(c:Nat×Nat):Prop:=w.heap[p]? =some (.cells #[zI (c.1:Int),zI (c.2:Int)] 136)
theorem Flt.new(w:World)(c:Nat×Nat):Flt (w.alloc (.cells #[zI (c.1:Int),zI (c.2:Int)] 136)) w.heap.size c:=by
 show(w.heap.push _)[w.heap.size]? =_;simp
def ng(r:Rs):Rs:=
 match r with
 | .inl e=>.inl e
 | .inr (C,n)=>.inr (Zl C,n)
theorem z6Q(S:zA):Ly S=if bt S 0=some 91 then(if bt S 1=some 94 then ng (mm S 2 0)else mm S 1 0)else .inl (flt S 0):=rfl
theorem z6R{S:zA}(h:Ly S=.inr (C,n)):C<2^256/\0<n/\n<=S.size:=by
 rw[z6Q]at h;split at h
 ·split at h
  ·cases hm:mm S 2 0 with
   |inl e=>rw[hm]at h;cases h
   |inr q=>
    obtain⟨D,m⟩:=q;rw[hm]at h;have o:=z0u (by decide+kernel) hm;simp only[ng,Sum.inr.injEq,Prod.mk.injEq]at h;refine⟨?_,by omega,by omega⟩;rw[<-h.1];unfold Zl Xp;omega
  ·have o:=z0u (by decide+kernel) h
   exact⟨o.1,by omega,o.2.2⟩
 ·cases h
open Go.Extern.Stop Go.Stop Go.Extern
def Zp(x:Nat):Bool:=(decide (65<=x)&&decide (x<=90))||((decide (97<=x)&&decide (x<=122))||x == 95)
def Nk(x:Nat):Bool:=decide (48<=x)&&decide (x<=57)
def plB(x:Nat):Bool:=decide (32<=x)&&decide (x<=126)
theorem Ff(x:Nat)(v:Bool)(o:Zp x=v)(w:World)(hx:x<256):
  Calls prog 90 #[.int .u8 x] w fun e w'=>e=.returned (.bool v)/\w'=w:=by
 subst o;have t:x<65∨(65<=x/\x<=90)∨(90<x/\x<95)∨x=95∨x=96∨(97<=x/\x<=122)∨122<x:=by omega
 rcases t with h|h|h|h|h|h|h
 ·have o:Zp x=false:=by unfold Zp;simp;omega
  have a1:decide (65<=(x:Int))=false:=by simp;omega
  have a3:decide (97<=(x:Int))=false:=by simp;omega
  have r:((x:Int) == 95)=false:=by simp;omega
  rw[o];clear h o;go_enter func90,ntmps90
  go_wp2_with fail
  go_ret;exact⟨rfl,rfl⟩
 ·have o:Zp x=true:=by unfold Zp;simp;omega
  have a1:decide (65<=(x:Int))=true:=by simp;omega
  have a2:decide ((x:Int)<=90)=true:=by simp;omega
  rw[o];clear h o;go_enter func90,ntmps90
  go_wp2_with fail
  go_ret;exact⟨rfl,rfl⟩
 ·have o:Zp x=false:=by unfold Zp;simp;omega
  have a1:decide (65<=(x:Int))=true:=by simp;omega
  have a2:decide ((x:Int)<=90)=false:=by simp;omega
  have a3:decide (97<=(x:Int))=false:=by simp;omega
  have r:((x:Int) == 95)=false:=by simp;omega
  rw[o];clear h o;go_enter func90,ntmps90
  go_wp2_with fail
  go_ret;exact⟨rfl,rfl⟩
 ·have o:Zp x=true:=by unfold Zp;simp;omega
  have a1:decide (65<=(x:Int))=true:=by simp;omega
  have a2:decide ((x:Int)<=90)=false:=by simp;omega
  have a3:decide (97<=(x:Int))=false:=by simp;omega
  have r:((x:Int) == 95)=true:=by simp;omega
  rw[o];clear h o;go_enter func90,ntmps90
  go_wp2_with fail
  go_ret;exact⟨rfl,rfl⟩
 ·have o:Zp x=false:=by unfold Zp;simp;omega
  have a1:decide (65<=(x:Int))=true:=by simp;omega
  have a2:decide ((x:Int)<=90)=false:=by simp;omega
  have a3:decide (97<=(x:Int))=false:=by simp;omega
  have r:((x:Int) == 95)=false:=by simp;omega
  rw[o];clear h o;go_enter func90,ntmps90
  go_wp2_with fail
  go_ret;exact⟨rfl,rfl⟩
 ·have o:Zp x=true:=by unfold Zp;simp;omega
  have a1:decide (65<=(x:Int))=true:=by simp;omega
  have a2:decide ((x:Int)<=90)=false:=by simp;omega
  have a3:decide (97<=(x:Int))=true:=by simp;omega
  have a4:decide ((x:Int)<=122)=true:=by simp;omega
  rw[o];clear h o;go_enter func90,ntmps90
  go_wp2_with fail
  go_ret;exact⟨rfl,rfl⟩
 ·have o:Zp x=false:=by unfold Zp;simp;omega
  have a1:decide (65<=(x:Int))=true:=by simp;omega
  have a2:decide ((x:Int)<=90)=false:=by simp;omega
  have a3:decide (97<=(x:Int))=true:=by simp;omega
  have a4:decide ((x:Int)<=122)=false:=by simp;omega
  have r:((x:Int) == 95)=false:=by simp;omega
  rw[o];clear h o;go_enter func90,ntmps90
  go_wp2_with fail
  go_ret;exact⟨rfl,rfl⟩
theorem z0v(x:Nat)(v:Bool)(h:Nk x=v)(w:World)(hx:x<256):
  Calls prog 171 #[.int .u8 x] w fun e w'=>e=.returned (.bool v)/\w'=w:=by
 subst h;unfold Nk;by_cases h1:48<=x
 ·have a1:decide (48<=(x:Int))=true:=by simp;omega
  by_cases h2:x<=57
  ·have a2:decide ((x:Int)<=57)=true:=by simp;omega
   rw[decide_eq_true h1,decide_eq_true h2];clear h1 h2;go_enter func171,ntmps171
   go_wp2_with fail
   go_ret;exact⟨rfl,rfl⟩
  ·have a2:decide ((x:Int)<=57)=false:=by simp;omega
   rw[decide_eq_true h1,decide_eq_false h2];clear h1 h2;go_enter func171,ntmps171
   go_wp2_with fail
   go_ret;exact⟨rfl,rfl⟩
 ·have a1:decide (48<=(x:Int))=false:=by simp;omega
  rw[decide_eq_false h1];clear h1;go_enter func171,ntmps171
  go_wp2_with fail
  go_ret;exact⟨rfl,rfl⟩
theorem z0w(x:Nat)(v:Bool)(h:plB x=v)(w:World)(hx:x<256):
  Calls prog 172 #[.int .u8 x] w fun e w'=>e=.returned (.bool v)/\w'=w:=by
 subst h;unfold plB;by_cases h1:32<=x
 ·have a1:decide (32<=(x:Int))=true:=by simp;omega
  by_cases h2:x<=126
  ·have a2:decide ((x:Int)<=126)=true:=by simp;omega
   rw[decide_eq_true h1,decide_eq_true h2];clear h1 h2;go_enter func172,ntmps172
   go_wp2_with fail
   go_ret;exact⟨rfl,rfl⟩
  ·have a2:decide ((x:Int)<=126)=false:=by simp;omega
   rw[decide_eq_true h1,decide_eq_false h2];clear h1 h2;go_enter func172,ntmps172
   go_wp2_with fail
   go_ret;exact⟨rfl,rfl⟩
 ·have a1:decide (32<=(x:Int))=false:=by simp;omega
  rw[decide_eq_false h1];clear h1;go_enter func172,ntmps172
  go_wp2_with fail
  go_ret;exact⟨rfl,rfl⟩
theorem z6S(T:zA)(x:Nat)(w:World):
  Calls prog 95 #[zT T,.int .u8 x] w fun e w'=>e=.returned (zI (Lib.indexByte T.data.toList x.toUInt8))/\w'=w:=by
 have o:= @run_callFunc_extern prog 178 _ Extern.BytealgIndexByte.indexByte func178 (by kernel_rfl) (by kernel_rfl) (by kernel_rfl) (by kernel_rfl);have h:=Lib.run_indexByteString (P:=prog) T (x:Int);simp only[Int.toNat_natCast]at h;go_enter func95,ntmps95
 go_wp2
 go_ret;exact⟨rfl,rfl⟩
def mkB(x:Nat):Bool:=x == 47||x == 38||x == 33||x == 63||x == 42||x == 43||x == 40||x == 41||x == 46
theorem z6T:∀x:Nat,x<256->decide (0<=Lib.indexByte [47,38,33,63,42,43,40,41,46] x.toUInt8)=mkB x:=by decide+kernel
def Lf(x:Nat):Option Nat:=if x=110 then some 10 else if x=114 then some 13 else if x=116 then some 9 else if x=92∨x=39∨x=34 then some x else none
def Lg(S:zA)(k:Nat):Rs:=
 match bt S k with
 |none=>.inl (flt S k)
 |some x=>match Lf x with
  |some b=>.inr (b,k+1)
  |none=>if x=120 then Bg S (k+1)else .inl (flt S k)
def lsg(S:zA)(k:Nat):Rs:=
 match bt S k with
 |none=>.inl (flt S k)
 |some x=>if plB x=false then .inl (flt S k)else if x=92 then Lg S (k+1)else .inr (x,k+1)
theorem z6U(h:Lf x=some b)(hx:x<256):b<256:=by
 unfold Lf at h
 repeat(split at h;(simp at h;omega))
 cases h
theorem z6V{S:zA}(h:Lg S k=.inr (b,n)):b<256/\k<n/\n<=S.size:=by
 unfold Lg at h;split at h
 ·cases h
 ·rename_i x hx
  have o:=Zj hx;split at h
  ·rename_i D t
   simp at h;have:=z6U t o.2;omega
  ·split at h
   ·obtain⟨q,r,y,A,rfl,rfl⟩:=z0r h
    have a1:=Bh y;have a2:=Bh A;have:=a2.2.lt;omega
   ·cases h
theorem Bm{S:zA}(h:lsg S k=.inr (b,n)):b<256/\k<n/\n<=S.size:=by
 unfold lsg at h;split at h
 ·cases h
 ·rename_i x hx
  have o:=Zj hx;split at h
  ·cases h
  ·split at h
   ·have:=z6V h;omega
   ·simp at h;omega
end Go.Proofs.YtgnkkgcgbeianaaGreatDoor
