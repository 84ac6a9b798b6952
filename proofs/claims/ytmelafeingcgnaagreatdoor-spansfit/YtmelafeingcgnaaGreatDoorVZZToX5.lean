/- Lemmas for the last text. Conditions: those that each names. -/
import Derived.WalkKit
import Derived.Test.YtmelafeingcgnaaGreatDoorProg
import Derived.WalkLawsBesides
import Derived.Deep.QuietTactic
import Derived.BigQuiet
import Derived.BigRegion
import Derived.Lib.Bytealg
import Derived.LaidEql
import Derived.Stop.Asserts
import Derived.RowKitTokens
import Derived.Deep.RegionHeld3
set_option linter.unusedVariables false
set_option maxRecDepth 100000
set_option maxHeartbeats 4000000
namespace Go.Proofs.YtmelafeingcgnaaGreatDoor
open Go.Proofs.Tryz
theorem B0q{B:Nat}{w:World}:Go.RowKit.Below B w w:=Go.RowKit.Below.refl B w
theorem L0q{n:Nat}:n<=n:=Nat.le_refl n
variable {w w':World} {B C b base g k n p q x:Nat} {acc l:List Nat} {v:Value} {c0 c1 c2 c3 kd:Int}
@[reducible] def zU (x:Int):Value:=.int .u64 x
@[reducible] def zI (x:Int):Value:=.int .i64 x
@[reducible] def zT (s:ByteArray):Value:=.string s
@[reducible] def zP (a b:Nat):Value:=.pointer (some ⟨a,b,none⟩)
@[reducible] def zS (a n c:Nat):Value:=.slice (some ⟨a,0,none⟩) n c
@[reducible] def zB (w v:World):Prop:=Go.RowKit.Below w.heap.size w v
@[reducible] def zR (w:World) (x:Value) (e:Ending) (v:World):Prop:=e=.returned x/\Go.RowKit.Below w.heap.size w v
@[reducible] def zC (w:World) (a b:Nat) (x:Value):Prop:=w.cell? ⟨a,b,none⟩=some x
@[reducible] def zH (w:World) (a:Nat) (o:Obj):Prop:=w.heap[a]? =some o
abbrev zA:=ByteArray
theorem zY{α:Type}:(∀(l:List α) (i:Nat) (a:α),l.toArray.setIfInBounds i a=(l.set i a).toArray)/\(∀(l:List α) (b a:α),(b::l).set 0 a=a::l)/\∀(l:List α) (b a:α) (n:Nat),(b::l).set (n+1) a=b::l.set n a:=⟨fun _ _ _=>by simp,fun _ _ _=>rfl,fun _ _ _ _=>rfl⟩
def wd(C i:Nat):Nat:=C/2^(64*i)%18446744073709551616
theorem Zf(C i:Nat):wd C i<18446744073709551616:=Nat.mod_lt _ (by decide)
theorem Yv(C i j:Nat):(wd C i).testBit j=(decide (j<64)&&C.testBit (64*i+j)):=by
 unfold wd;rw[show(18446744073709551616:Nat)=2^64 from rfl,Nat.testBit_mod_two_pow,Nat.testBit_div_two_pow,Nat.add_comm j]
theorem Bq(C D i:Nat):wd (C&&&D) i=wd C i&&&wd D i:=by
 apply Nat.eq_of_testBit_eq;intro j;rw[Nat.testBit_and,Yv,Yv,Yv,Nat.testBit_and];cases decide (j<64)<;>simp
theorem Bj(C D i:Nat):wd (C|||D) i=wd C i|||wd D i:=by
 apply Nat.eq_of_testBit_eq;intro j;rw[Nat.testBit_or,Yv,Yv,Yv,Nat.testBit_or];cases decide (j<64)<;>simp
def Vm:Nat:=2^256-1
def Zl(C:Nat):Nat:=Vm-C
theorem Ic(C:Nat)(h:C<2^256)(j:Nat):(Zl C).testBit j=(decide (j<256)&& !C.testBit j):=by
 unfold Zl Vm;rw[Nat.sub_sub,Nat.add_comm 1 C,Nat.testBit_two_pow_sub_succ h]
theorem z6J(C:Nat)(h:C<2^256)(i:Nat)(o:i<4):wd (Zl C) i=18446744073709551615-wd C i:=by
 apply Nat.eq_of_testBit_eq;intro j;rw[Yv,Ic C h,show 18446744073709551615-wd C i=2^64-(wd C i+1) by have:=Zf C i;omega,Nat.testBit_two_pow_sub_succ (by have:=Zf C i;omega),Yv];by_cases hj:j<64
 ·simp[hj,show 64*i+j<256 by omega]
 ·simp[hj]
theorem z0p(C D:Nat)(h:C<2^256)(o:D<2^256)(y:wd C 0=wd D 0)(A:wd C 1=wd D 1)(E:wd C 2=wd D 2)(G:wd C 3=wd D 3):C=D:=by
 apply Nat.eq_of_testBit_eq;intro j;by_cases hj:j<256
 ·have r:wd C (j/64)=wd D (j/64):=by
   have:j/64=0∨j/64=1∨j/64=2∨j/64=3:=by omega
   rcases this with e|e|e|e<;>rw[e]<;>assumption
  have a:=Yv C (j/64) (j%64);have b:=Yv D (j/64) (j%64);rw[r]at a;rw[a]at b;have e:64*(j/64)+j%64=j:=by omega
  simpa [show j%64<64 by omega,e]using b
 ·rw[Nat.testBit_lt_two_pow (Nat.lt_of_lt_of_le h (Nat.pow_le_pow_right (by decide) (by omega))),Nat.testBit_lt_two_pow (Nat.lt_of_lt_of_le o (Nat.pow_le_pow_right (by decide) (by omega)))]
def cls(a b c d:Nat):Nat:=a+18446744073709551616*(b+18446744073709551616*(c+18446744073709551616*d))
theorem z6K(a b c d:Nat)(ha:a<18446744073709551616)(h:b<18446744073709551616)(o:c<18446744073709551616)(r:d<18446744073709551616):cls a b c d<2^256:=by
 unfold cls;rw[show(2:Nat)^256=18446744073709551616*(18446744073709551616*(18446744073709551616*18446744073709551616))from by decide+kernel];omega
theorem z0q(a b c d:Nat)(ha:a<18446744073709551616)(y:b<18446744073709551616)(A:c<18446744073709551616)(D:d<18446744073709551616):
  wd (cls a b c d) 0=a/\wd (cls a b c d) 1=b/\wd (cls a b c d) 2=c/\wd (cls a b c d) 3=d:=by
 have h:(2:Nat)^(64*1)=18446744073709551616:=by decide+kernel
 have o:(2:Nat)^(64*2)=18446744073709551616*18446744073709551616:=by decide+kernel
 have r:(2:Nat)^(64*3)=18446744073709551616*18446744073709551616*18446744073709551616:=by decide+kernel
 unfold wd cls;rw[h,o,r,<-Nat.div_div_eq_div_mul,<-Nat.div_div_eq_div_mul,<-Nat.div_div_eq_div_mul,Nat.mul_zero,Nat.pow_zero,Nat.div_one];refine⟨by omega,by omega,by omega,by omega⟩
def spn(lo n:Nat):Nat:=2^lo*(2^n-1)
theorem z6L(lo n j:Nat):(spn lo n).testBit j=(decide (lo<=j)&&decide (j<lo+n)):=by
 unfold spn;rw[Nat.testBit_two_pow_mul,Nat.testBit_two_pow_sub_one];by_cases h:lo<=j
 ·simp[h,show j-lo<n↔j<lo+n by omega]
 ·simp[h]
theorem z6M(lo n:Nat)(h:lo+n<=256):spn lo n<2^256:=by
 unfold spn;have r:2^lo*2^n<=2^256:=by rw[<-Nat.pow_add];exact Nat.pow_le_pow_right (by decide) h
 have o:0<2^lo:=Nat.pow_pos (by decide);have y:2^lo*(2^n-1)<2^lo*2^n:=Nat.mul_lt_mul_of_pos_left (by have:0<2^n:=Nat.pow_pos (by decide);omega) o;omega
open Go.RowKit
@[reducible] def cv (C:Nat):Value:=.agg #[zU (wd C 0:Nat),zU (wd C 1:Nat),zU (wd C 2:Nat),zU (wd C 3:Nat)]
theorem z6N(C D:Nat)(w:World):
  Calls prog 188 #[cv C,cv D] w fun e w'=>e=.returned (cv (C|||D))/\zB w w':=by
 have h:bits BinOp.or IntKind.u64 (wd C 0:Nat) (wd D 0:Nat)=(wd (C|||D) 0:Nat):=by rw[Bj];exact Go.bits_or_u64_nat _ _ (Zf _ _) (Zf _ _)
 have o:bits BinOp.or IntKind.u64 (wd C 1:Nat) (wd D 1:Nat)=(wd (C|||D) 1:Nat):=by rw[Bj];exact Go.bits_or_u64_nat _ _ (Zf _ _) (Zf _ _)
 have r:bits BinOp.or IntKind.u64 (wd C 2:Nat) (wd D 2:Nat)=(wd (C|||D) 2:Nat):=by rw[Bj];exact Go.bits_or_u64_nat _ _ (Zf _ _) (Zf _ _)
 have y:bits BinOp.or IntKind.u64 (wd C 3:Nat) (wd D 3:Nat)=(wd (C|||D) 3:Nat):=by rw[Bj];exact Go.bits_or_u64_nat _ _ (Zf _ _) (Zf _ _)
 unfold cv;go_enter func188,ntmps188
 go_wp2
 refine wp_loop_rounds 5 ?_;rw[rounds_succ]
 go_wp2
 go_region
 go_wp2
 rw[rounds_succ]
 go_wp2
 go_region
 go_wp2
 rw[rounds_succ]
 go_wp2
 go_region
 go_wp2
 rw[rounds_succ]
 go_wp2
 go_region
 go_wp2
 rw[rounds_succ]
 go_wp2
 refine bodyPost_ret (v:=.agg #[zU (wd (C|||D) 0:Nat),zU (wd (C|||D) 1:Nat),zU (wd (C|||D) 2:Nat),zU (wd (C|||D) 3:Nat)]) (by simp[results,Tryz.results188,go_sem]) rfl ⟨rfl,?_⟩;exact(((B0q.alloc L0q _).alloc (by simp) _).alloc (by simp;omega) _).drew.drew.drew.drew
theorem z6O(x:Nat)(h:x<18446744073709551616):18446744073709551615^^^x=18446744073709551615-x:=by
 apply Nat.eq_of_testBit_eq;intro j;rw[show 18446744073709551615-x=2^64-(x+1) by omega,Nat.testBit_two_pow_sub_succ (by omega),Nat.testBit_xor,show(18446744073709551615:Nat)=2^64-1 from rfl,Nat.testBit_two_pow_sub_one];by_cases hj:j<64
 ·simp[hj]
 ·rw[Nat.testBit_lt_two_pow (Nat.lt_of_lt_of_le h (show 2^64<=2^j from Nat.pow_le_pow_right (by decide) (by omega)))]
  simp[hj]
theorem Bk(C:Nat)(h:C<2^256)(i:Nat)(o:i<4):bits BinOp.xor IntKind.u64 IntKind.u64.max (wd C i:Nat)=(wd (Zl C) i:Nat):=by
 rw[z6J C h i o,<-z6O _ (Zf C i)];exact Go.bits_xor_u64_nat 18446744073709551615 _ (by omega) (Zf C i)
theorem z0r(C:Nat)(h:C<2^256)(w:World):
  Calls prog 189 #[cv C] w fun e w'=>e=.returned (cv (Zl C))/\zB w w':=by
 have o:bits BinOp.xor IntKind.u64 IntKind.u64.max (wd C 0:Nat)=(wd (Zl C) 0:Nat):=Bk C h 0 (by omega);have r:bits BinOp.xor IntKind.u64 IntKind.u64.max (wd C 1:Nat)=(wd (Zl C) 1:Nat):=Bk C h 1 (by omega);have y:bits BinOp.xor IntKind.u64 IntKind.u64.max (wd C 2:Nat)=(wd (Zl C) 2:Nat):=Bk C h 2 (by omega);have A:bits BinOp.xor IntKind.u64 IntKind.u64.max (wd C 3:Nat)=(wd (Zl C) 3:Nat):=Bk C h 3 (by omega);unfold cv;go_enter func189,ntmps189
 go_wp2
 refine wp_loop_rounds 5 ?_;rw[rounds_succ]
 go_wp2
 rw[rounds_succ]
 go_wp2
 rw[rounds_succ]
 go_wp2
 rw[rounds_succ]
 go_wp2
 rw[rounds_succ]
 go_wp2
 refine bodyPost_ret (v:=.agg #[zU (wd (Zl C) 0:Nat),zU (wd (Zl C) 1:Nat),zU (wd (Zl C) 2:Nat),zU (wd (Zl C) 3:Nat)]) (by simp[results,Tryz.results189,go_sem]) rfl ⟨rfl,?_⟩;exact((B0q.alloc L0q _).alloc (by simp) _)
def seg(lo b:Nat):Nat:=spn lo (b-lo)
theorem Bw(lo b j:Nat):(seg lo b).testBit j=(decide (lo<=j)&&decide (j<b)):=by
 unfold seg;rw[z6L];by_cases h1:lo<=j
 ·by_cases h2:j<b
  ·simp[h1,h2,show j<lo+(b-lo) by omega]
  ·simp[h1,h2,show ¬j<lo+(b-lo) by omega]
 ·simp[h1]
theorem z6P(lo:Nat):seg lo lo=0:=by simp[seg,spn]
theorem By(lo b:Nat)(h:lo<=b):seg lo (b+1)=seg lo b|||2^b:=by
 apply Nat.eq_of_testBit_eq;intro j;rw[Nat.testBit_or,Bw,Bw,Nat.testBit_two_pow];by_cases h1:lo<=j<;>by_cases h2:j<b<;>by_cases h3:b=j<;>simp[h1,h2,h3]<;>omega
theorem Nz(lo b:Nat)(h:b<=256):seg lo b<2^256:=by
 by_cases h1:lo<=b
 ·exact z6M _ _ (by omega)
 ·simp[seg,show b-lo=0 by omega,spn]
theorem Bf(C b i:Nat)(o:b<256)(r:i<4):wd (C|||2^b) i=if b/64=i then wd C i|||2^(b%64)else wd C i:=by
 apply Nat.eq_of_testBit_eq;intro j;rw[Yv,Nat.testBit_or,Nat.testBit_two_pow];split
 ·rename_i h
  rw[Nat.testBit_or,Yv,Nat.testBit_two_pow];by_cases hj:j<64
  ·have:(b=64*i+j)↔(b%64=j):=by omega
   simp[hj,this]
  ·simp[hj];omega
 ·rename_i h
  rw[Yv];by_cases hj:j<64
  ·have:¬(b=64*i+j):=by omega
   simp[hj,this]
  ·simp[hj]
theorem z6Q(C b k:Nat)(o:b<256)(y:b/64=k):
  (#[zU (wd C 0:Nat),zU (wd C 1:Nat),zU (wd C 2:Nat),zU (wd C 3:Nat)]:Array Value).setIfInBounds k (zU (bits BinOp.or IntKind.u64 (wd C k:Nat) (IntKind.u64.wrap (2^(b%64)))))=
  #[zU (wd (C|||2^b) 0:Nat),zU (wd (C|||2^b) 1:Nat),zU (wd (C|||2^b) 2:Nat),zU (wd (C|||2^b) 3:Nat)]:=by
 have r:2^(b%64)<2^64:=Nat.pow_lt_pow_right (by decide) (by omega);have A:IntKind.u64.wrap (2^(b%64))=((2^(b%64):Nat):Int):=by
  rw[IntKind.wrap_u64];have:((2:Int)^(b%64))=((2^(b%64):Nat):Int):=(Int.natCast_pow 2 (b%64)).symm;rw[this];exact Int.emod_eq_of_lt (Int.natCast_nonneg _) (Int.ofNat_lt.2 r)
 have h:=Go.bits_or_u64_nat (wd C k) (2^(b%64)) (Zf _ _) r;rw[A,h,Bf C b 0 o (by omega),Bf C b 1 o (by omega),Bf C b 2 o (by omega),Bf C b 3 o (by omega)];subst y;have:b/64=0∨b/64=1∨b/64=2∨b/64=3:=by omega
 rcases this with e|e|e|e<;>rw[e]<;>rfl
theorem Bg(W:World)(C b k q n:Nat)(h:b<256)(o:b/64=k)(r:n=W.heap.size):
  ((W.alloc (.cells #[zU (wd C 0:Nat),zU (wd C 1:Nat),zU (wd C 2:Nat),zU (wd C 3:Nat)] 63)).drewN q).setCell ⟨n,k,none⟩ (zU (bits BinOp.or IntKind.u64 (wd C k:Nat) (IntKind.u64.wrap (2^(b%64)))))=
  (W.alloc (.cells #[zU (wd (C|||2^b) 0:Nat),zU (wd (C|||2^b) 1:Nat),zU (wd (C|||2^b) 2:Nat),zU (wd (C|||2^b) 3:Nat)] 63)).drewN q:=by
 rw[<-z6Q C b k h o];exact congrArg (World.drewN · q) (World.setCell_alloc_at _ _ _ _ _ r)
theorem Bb(lo h:Nat)(w:World)(D:lo<=h)(E:h<256):
  Calls prog 223 #[zI (lo:Int),zI (h:Int)] w fun e w'=>e=.returned (cv (spn lo (h+1-lo)))/\zB w w':=by
 go_enter func223,ntmps223
 go_wp2_with fail
 go_loopw [6] (fun i wr=>∃b q:Nat,lo<=b/\b<=h+1/\i=zI (b:Int)/\wr=((w.alloc (.cells #[zU 0,zU 0,zU 0,zU 0] 63)).alloc (.cells #[zU (wd (seg lo b) 0:Nat),zU (wd (seg lo b) 1:Nat),zU (wd (seg lo b) 2:Nat),zU (wd (seg lo b) 3:Nat)] 63)).drewN q) (fun i _=>h+1-(intOf i).toNat)
 case atStart=>exact⟨lo,0,Nat.le_refl _,by omega,rfl,by rw[z6P];rfl⟩
 case round=>
  obtain⟨b,q,r,G,rfl,rfl⟩:=hrel;by_cases hbh:b<=h
  ·have o:b/64=0∨b/64=1∨b/64=2∨b/64=3:=by omega
   rcases o with o|o|o|o
   ·have y:(b:Int)/64=0:=by omega
    go_wp2_with fail
    go_region
    go_wp2_with fail
    exact⟨⟨b+1,q+1,by omega,by omega,by push_cast;rfl,by rw[By lo b r];exact Bg _ _ b 0 _ _ (by omega) o (by simp)⟩,by simp[intOf];omega⟩
   ·have y:(b:Int)/64=1:=by omega
    go_wp2_with fail
    go_region
    go_wp2_with fail
    exact⟨⟨b+1,q+1,by omega,by omega,by push_cast;rfl,by rw[By lo b r];exact Bg _ _ b 1 _ _ (by omega) o (by simp)⟩,by simp[intOf];omega⟩
   ·have y:(b:Int)/64=2:=by omega
    go_wp2_with fail
    go_region
    go_wp2_with fail
    exact⟨⟨b+1,q+1,by omega,by omega,by push_cast;rfl,by rw[By lo b r];exact Bg _ _ b 2 _ _ (by omega) o (by simp)⟩,by simp[intOf];omega⟩
   ·have y:(b:Int)/64=3:=by omega
    go_wp2_with fail
    go_region
    go_wp2_with fail
    exact⟨⟨b+1,q+1,by omega,by omega,by push_cast;rfl,by rw[By lo b r];exact Bg _ _ b 3 _ _ (by omega) o (by simp)⟩,by simp[intOf];omega⟩
  ·have A:b=h+1:=by omega
   subst A;have U:decide (((h+1:Nat):Int)<=(h:Int))=false:=by simp;omega
   have V:∀(w:World) (q:Nat) (a:Addr) (v:Value),(w.drewN q).setCell a v=(w.setCell a v).drewN q:=fun _ _ _ _=>rfl
   go_wp2_with fail
   refine bodyPost_ret (v:=.agg #[zU (wd (seg lo (h+1)) 0:Nat),zU (wd (seg lo (h+1)) 1:Nat),zU (wd (seg lo (h+1)) 2:Nat),zU (wd (seg lo (h+1)) 3:Nat)]) (by simp[results,Tryz.results223,go_sem]) rfl ⟨rfl,?_⟩;exact below_drewN ((B0q.alloc L0q _).alloc (by simp) _) _
def Blk(w:World)(g C:Nat):Prop:=w.heap[g]? =some (.cells #[zU (wd C 0:Nat),zU (wd C 1:Nat),zU (wd C 2:Nat),zU (wd C 3:Nat)] 63)
def st4(w:World)(g D:Nat):World:=(((w.setCell ⟨g,0,none⟩ (zU (wd D 0:Nat))).setCell ⟨g,1,none⟩ (zU (wd D 1:Nat))).setCell ⟨g,2,none⟩ (zU (wd D 2:Nat))).setCell ⟨g,3,none⟩ (zU (wd D 3:Nat))
theorem Blk.cells(h:Blk w g C):w.cell? ⟨g,0,none⟩=some (.int .u64 (wd C 0))/\w.cell? ⟨g,1,none⟩=some (.int .u64 (wd C 1))/\w.cell? ⟨g,2,none⟩=some (.int .u64 (wd C 2))/\w.cell? ⟨g,3,none⟩=some (.int .u64 (wd C 3)):=by
 unfold Blk at h;simp[World.cell?,h]
theorem Blk.thaw(h:Blk w g C):w.frozen? ⟨g,0,none⟩=false/\w.frozen? ⟨g,1,none⟩=false/\w.frozen? ⟨g,2,none⟩=false/\w.frozen? ⟨g,3,none⟩=false:=by
 unfold Blk at h;simp[World.frozen?,h]
theorem Blk.lt(h:Blk w g C):g<w.heap.size:=by
 unfold Blk at h;rcases Nat.lt_or_ge g w.heap.size with o|o
 ·exact o
 ·rw[Array.getElem?_eq_none o]at h;cases h
theorem Blk.below(h:Blk w g C)(o:Below B w w')(r:g<B):Blk w' g C:=(o.block g r).trans h
theorem Blk.alloc{w:World}{g C:Nat}(h:Blk w g C)(o:Obj):Blk (w.alloc o) g C:=(Below.heap_alloc w o g h.lt).trans h
theorem Blk.new(w:World)(C:Nat):Blk (w.alloc (.cells #[zU (wd C 0:Nat),zU (wd C 1:Nat),zU (wd C 2:Nat),zU (wd C 3:Nat)] 63)) w.heap.size C:=by
 show(w.heap.push _)[w.heap.size]? =_;simp
theorem Um(i:Nat):wd 0 i=0:=by simp[wd]
theorem Blk.new0(w:World):Blk (w.alloc (.cells #[zU 0,zU 0,zU 0,zU 0] 63)) w.heap.size 0:=by
 show(w.heap.push _)[w.heap.size]? =_;simp[Um]
theorem Blk.other{r D:Nat}(h:Blk w g C)(o:g≠r):Blk (st4 w r D) g C:=by
 unfold Blk st4 at*;rw[Below.heap_setCell _ _ _ _ o,Below.heap_setCell _ _ _ _ o,Below.heap_setCell _ _ _ _ o,Below.heap_setCell _ _ _ _ o];exact h
theorem Blk.st4{w:World}{g C:Nat}(h:Blk w g C)(D:Nat):Blk (st4 w g D) g D:=by
 unfold Blk at*;unfold Proofs.YtmelafeingcgnaaGreatDoor.st4;simp only[World.setCell,Array.getElem?_modify,if_true,Option.map_map];rw[h];simp
theorem Il(w:World)(g D:Nat):(st4 w g D).heap.size=w.heap.size:=by simp[st4,World.setCell]
theorem Below.st4{B:Nat}{a w:World}(h:Below B a w){g:Nat}(o:B<=g)(D:Nat):Below B a (st4 w g D):=
 ((((h.setCell (p:=⟨g,0,none⟩) o _).setCell (p:=⟨g,1,none⟩) o _).setCell (p:=⟨g,2,none⟩) o _).setCell (p:=⟨g,3,none⟩) o _)
theorem below_drewN{a:World}(h:Below B a w)(q:Nat):Below B a (w.drewN q):=⟨h.os,h.tape,h.output,h.size,h.block⟩
theorem hid{p:Prop}(h:p):Hid p:=h
def mark(b:Nat):Bool:=b == 91||b == 93||b == 92||b == 45||b == 94
def Yz(n:Nat):Nat:=if n<10 then 48+n else 87+n
theorem z0s(b:Nat)(w:World)(E:b<256):
  Calls prog 255 #[.int .u8 b] w fun e w'=>e=.returned (.bool (mark b))/\w'=w:=by
 have h:∀n:Nat,((b:Int) == (n:Int))=(b == n):=fun n=>by
  by_cases e:b=n
  ·subst e;simp
  ·rw[beq_false_of_ne e];simp;omega
 have o:((b:Int) == 91)=(b == 91):=h 91;have r:((b:Int) == 93)=(b == 93):=h 93;have y:((b:Int) == 92)=(b == 92):=h 92;have A:((b:Int) == 45)=(b == 45):=h 45;have D:((b:Int) == 94)=(b == 94):=h 94;clear h;unfold mark;cases k1:b == 91<;>rw[k1]at o<;>cases k2:b == 93<;>rw[k2]at r<;>cases k3:b == 92<;>rw[k3]at y<;>cases k4:b == 45<;>rw[k4]at A<;>cases k5:b == 94<;>rw[k5]at D
 all_goals
  go_enter func255,ntmps255
  go_wp2_with fail
  go_ret;exact⟨rfl,rfl⟩
theorem z0t(b:Nat)(w:World)(h:b<256):
  Calls prog 256 #[.int .u8 b] w fun e w'=>e=.returned (.bool (decide (32<=b)&&decide (b<=126)))/\w'=w:=by
 by_cases h1:32<=b
 ·have a1:decide (32<=(b:Int))=true:=by simp;omega
  by_cases h2:b<=126
  ·have a2:decide ((b:Int)<=126)=true:=by simp;omega
   rw[decide_eq_true h1,decide_eq_true h2];clear h1 h2;go_enter func256,ntmps256
   go_wp2_with fail
   go_ret;exact⟨rfl,rfl⟩
  ·have a2:decide ((b:Int)<=126)=false:=by simp;omega
   rw[decide_eq_true h1,decide_eq_false h2];clear h1 h2;go_enter func256,ntmps256
   go_wp2_with fail
   go_ret;exact⟨rfl,rfl⟩
 ·have a1:decide (32<=(b:Int))=false:=by simp;omega
  rw[decide_eq_false h1];clear h1;go_enter func256,ntmps256
  go_wp2_with fail
  go_ret;exact⟨rfl,rfl⟩
def At(S:zA)(k x:Nat):Prop:=∃h:k<S.size,(S[k]).toNat=x
theorem At.lt{S:zA}(h:At S k x):k<S.size:=h.1
theorem At.u8{S:zA}(h:At S k x):x<256:=by
 obtain⟨o,rfl⟩:=h;exact(S[k]).toNat_lt
theorem z6R(x b:Nat):((x:Int) == (b:Int))=(x == b):=by
 by_cases e:x=b
 ·subst e;simp
 ·rw[beq_false_of_ne e];simp;omega
theorem z0u(S:zA)(k x b:Nat)(v:Bool)(w:World)(y:b<256)(h:At S k x)(o:(x == b)=v)(A:S.size<=9007199254740992):
  Calls prog 185 #[zT S,zI (k:Int),.int .u8 b] w fun e w'=>e=.returned (.bool v)/\zB w w':=by
 obtain⟨D,hx⟩:=h;have E:(k:Int)<(S.size:Int):=by omega
 have r:=z6R x b;rw[o]at r;go_enter func185,ntmps185
 go_wp2_with fail
 go_ret;exact⟨rfl,Below.refl _ _⟩
def bt(S:zA)(k:Nat):Option Nat:=if h:k<S.size then some (S[k]).toNat else none
theorem Xy{S:zA}(h:bt S k=some x):At S k x:=by
 unfold bt at h;split at h
 ·rename_i o;exact⟨o,by simpa using h⟩
 ·cases h
theorem z6S{S:zA}(h:At S k x):bt S k=some x:=by
 obtain⟨o,hx⟩:=h;unfold bt;rw[dif_pos o,hx]
theorem Yg{S:zA}(h:bt S k=none):S.size<=k:=by
 unfold bt at h;split at h
 ·cases h
 ·omega
theorem Up{S:zA}(h:S.size<=k):bt S k=none:=by
 unfold bt;rw[dif_neg (by omega)]
theorem Zq{S:zA}(h:bt S k=some x):k<S.size/\x<256:=⟨(Xy h).lt,(Xy h).u8⟩
def flt(S:zA)(k:Nat):Nat×Nat:=if S.size<=k then(3,S.size)else(4,k)
def dgv(x:Nat):Option Nat:=if 48<=x/\x<=57 then some (x-48)else if 97<=x/\x<=102 then some (x-87)else none
theorem z6T{d:Nat}(h:dgv x=some d):d<16/\x=Yz d:=by
 unfold dgv at h;unfold Yz;split at h
 ·simp at h;subst h;refine⟨by omega,?_⟩;rw[if_pos (by omega)];omega
 ·split at h
  ·simp at h;subst h;refine⟨by omega,?_⟩;rw[if_neg (by omega)];omega
  ·cases h
def dg(S:zA)(k:Nat):Option Nat:=(bt S k).bind dgv
abbrev Rs:=(Nat×Nat) ⊕ (Nat×Nat)
def Bh(S:zA)(k:Nat):Rs:=
 match dg S k with
 |none=>.inl (flt S k)
 |some q=>match dg S (k+1)with
  |none=>.inl (flt S (k+1))
  |some r=>.inr (16*q+r,k+2)
def Lz(x:Nat):Option Nat:=if x=110 then some 10 else if x=114 then some 13 else if x=116 then some 9 else if mark x then some x else none
def esc(S:zA)(k:Nat):Rs:=
 match bt S k with
 |none=>.inl (flt S k)
 |some x=>match Lz x with
  |some b=>.inr (b,k+1)
  |none=>if x=120 then Bh S (k+1)else .inl (flt S k)
def Lx(x:Nat):Bool:= !mark x&&(decide (32<=x)&&decide (x<=126))
def sg(S:zA)(k:Nat):Rs:=
 match bt S k with
 |none=>.inl (flt S k)
 |some x=>if x=92 then esc S (k+1)else if Lx x=true then .inr (x,k+1)else .inl (flt S k)
def mbr(S:zA)(k:Nat):Rs:=
 match sg S k with
 | .inl e=>.inl e
 | .inr (lo,n)=>
   if bt S n=some 45 then
    match sg S (n+1)with
    | .inl e=>.inl e
    | .inr (hi,m)=>if hi<lo then .inl (flt S k)else .inr (seg lo (hi+1),m)
   else .inr (seg lo (lo+1),n)
def Vp(S:zA):Nat->Nat->Nat->Rs
 |0,k,_=>.inl (flt S k)
 |f+1,k,acc=>
  if bt S k=some 93 then .inr (acc,k+1)else
  match mbr S k with
  | .inl e=>.inl e
  | .inr (X,n)=>Vp S f n (acc|||X)
def mm(S:zA)(k acc:Nat):Rs:=Vp S (S.size+1-k) k acc
def Fq(S:zA):Rs:=
 if bt S 0=some 91 then
  if bt S 1=some 94 then
   match mm S 2 0 with
   | .inl e=>.inl e
   | .inr (C,n)=>.inr (Zl C,n)
  else mm S 1 0
 else .inl (flt S 0)
theorem z0v{S:zA}(h:Bh S k=.inr (b,n)):∃q r,dg S k=some q/\dg S (k+1)=some r/\b=16*q+r/\n=k+2:=by
 unfold Bh at h;split at h
 ·cases h
 ·rename_i q o
  split at h
  ·cases h
  ·rename_i r y
   simp at h;exact⟨q,r,o,y,h.1.symm,h.2.symm⟩
theorem Bd{S:zA}{d:Nat}(h:dg S k=some d):d<16/\At S k (Yz d):=by
 unfold dg at h;cases hb:bt S k with
 |none=>rw[hb]at h;cases h
 |some x=>
  rw[hb]at h;obtain⟨o,r⟩:=z6T (show dgv x=some d from h);exact⟨o,r▸Xy hb⟩
theorem z6U(h:Lz x=some b)(hx:x<256):b<256:=by
 unfold Lz at h
 repeat(split at h;(simp at h;omega))
 cases h
theorem z6V{S:zA}(h:esc S k=.inr (b,n)):b<256/\k<n/\n<=S.size:=by
 unfold esc at h;split at h
 ·cases h
 ·rename_i x hx
  have o:=Zq hx;split at h
  ·rename_i E y
   simp at h;have:=z6U y o.2;omega
  ·split at h
   ·obtain⟨q,r,A,D,rfl,rfl⟩:=z0v h
    have a1:=Bd A;have a2:=Bd D;have:=a2.2.lt;omega
   ·cases h
theorem Bm{S:zA}(h:sg S k=.inr (b,n)):b<256/\k<n/\n<=S.size:=by
 unfold sg at h;split at h
 ·cases h
 ·rename_i x hx
  have o:=Zq hx;split at h
  ·have:=z6V h;omega
  ·split at h
   ·simp at h;omega
   ·cases h
theorem Bp{S:zA}{X:Nat}(h:mbr S k=.inr (X,n)):X<2^256/\k<n/\n<=S.size:=by
 unfold mbr at h;split at h
 ·cases h
 ·rename_i lo m o
  have y:=Bm o;split at h
  ·split at h
   ·cases h
   ·rename_i A D r
    have E:=Bm r;split at h
    ·cases h
    ·simp at h
     exact⟨h.1▸Nz _ _ (by omega),by omega,by omega⟩
  ·simp at h
   exact⟨h.1▸Nz _ _ (by omega),by omega,by omega⟩
theorem Lj(S:zA):∀(f g k acc:Nat),S.size+1-k<=f->S.size+1-k<=g->Vp S f k acc=Vp S g k acc
 |0,0,_,_,_,_=>rfl
 |0,g+1,k,acc,hf,_=>by
  have h:=Up (S:=S) (k:=k) (by omega);have o:mbr S k=.inl (flt S k):=by unfold mbr sg;rw[h]
  rw[Vp,Vp,h,o];simp
 |f+1,0,k,acc,_,hg=>by
  have h:=Up (S:=S) (k:=k) (by omega);have o:mbr S k=.inl (flt S k):=by unfold mbr sg;rw[h]
  rw[Vp,Vp,h,o];simp
 |f+1,g+1,k,acc,hf,hg=>by
  rw[Vp,Vp];split
  ·rfl
  ·cases o:mbr S k with
   |inl e=>rfl
   |inr p=>
    obtain⟨X,n⟩:=p;have:=Bp o;exact Lj S f g n _ (by omega) (by omega)
theorem Lk(S:zA)(k acc:Nat):mm S k acc=(if bt S k=some 93 then .inr (acc,k+1)else
  match mbr S k with
  | .inl e=>.inl e
  | .inr (X,n)=>mm S n (acc|||X)):=by
 unfold mm;rw[Lj S (S.size+1-k) (S.size+1-k+1) k acc (by omega) (by omega),Vp];split
 ·rfl
 ·cases hm:mbr S k with
  |inl e=>rfl
  |inr p=>
   obtain⟨X,n⟩:=p;have:=Bp hm;exact Lj S _ _ n _ (by omega) (by omega)
theorem z6W{S:zA}{acc:Nat}(h:bt S k=some 93):mm S k acc=.inr (acc,k+1):=by rw[Lk,if_pos h]
theorem z6X{S:zA}{acc:Nat}{e:Nat×Nat}(h:¬bt S k=some 93)(o:mbr S k=.inl e):mm S k acc=.inl e:=by rw[Lk,if_neg h,o]
theorem z6Y{S:zA}{acc X:Nat}(h:¬bt S k=some 93)(o:mbr S k=.inr (X,n)):mm S k acc=mm S n (acc|||X):=by rw[Lk,if_neg h,o]
theorem z0w(S:zA):∀(f k acc C n:Nat),acc<2^256->Vp S f k acc=.inr (C,n)->C<2^256/\k<n/\n<=S.size
 |0,k,acc,C,n,_,h=>by cases h
 |f+1,k,acc,C,n,ha,h=>by
  rw[Vp]at h;split at h
  ·rename_i o
   have:=(Zq o).1;simp at h;omega
  ·cases hm:mbr S k with
   |inl e=>rw[hm]at h;cases h
   |inr p=>
    obtain⟨X,m⟩:=p;rw[hm]at h;have r:=Bp hm;have y:=z0w S f m _ C n (Nat.or_lt_two_pow ha r.1) h;omega
theorem z0x{S:zA}{acc:Nat}(ha:acc<2^256)(h:mm S k acc=.inr (C,n)):C<2^256/\k<n/\n<=S.size:=z0w S _ k acc C n ha h
def flv(p:Nat):Value:=.iface 181 (zP p 0)
def Flt(w:World)(p:Nat)(c:Nat×Nat):Prop:=w.heap[p]? =some (.cells #[zI (c.1:Int),zI (c.2:Int)] 183)
theorem Flt.new(w:World)(c:Nat×Nat):Flt (w.alloc (.cells #[zI (c.1:Int),zI (c.2:Int)] 183)) w.heap.size c:=by
 show(w.heap.push _)[w.heap.size]? =_;simp
theorem z6Z(S:zA)(k b:Nat)(w:World)(h:S.size<=k)(o:S.size<=9007199254740992):
  Calls prog 185 #[zT S,zI (k:Int),.int .u8 b] w fun e w'=>e=.returned (.bool false)/\zB w w':=by
 have r:decide ((k:Int)<(S.size:Int))=false:=by simp;omega
 go_enter func185,ntmps185
 go_wp2_with fail
 go_ret;exact⟨rfl,Below.refl _ _⟩
theorem Lv(S:zA)(k b:Nat)(w:World)(h:bt S k=some b)(o:S.size<=9007199254740992):
  Calls prog 185 #[zT S,zI (k:Int),.int .u8 b] w fun e w'=>e=.returned (.bool true)/\zB w w':=
 z0u S k b b true w (Zq h).2 (Xy h) (by simp) o
theorem Bc(S:zA)(k b:Nat)(w:World)(r:b<256)(h:¬bt S k=some b)(o:S.size<=9007199254740992):
  Calls prog 185 #[zT S,zI (k:Int),.int .u8 b] w fun e w'=>e=.returned (.bool false)/\zB w w':=by
 cases hx:bt S k with
 |none=>exact z6Z S k b w (Yg hx) o
 |some x=>exact z0u S k x b false w r (Xy hx) (beq_false_of_ne (fun e=>h (by rw[hx,e]))) o
theorem z7a(b:Nat)(v:Bool)(o:b<256)(h:mark b=v):Hid (∀w:World,Calls prog 255 #[.int .u8 b] w fun e w'=>e=.returned (.bool v)/\w'=w):=fun w=>h▸z0s b w o
theorem z7b(b:Nat)(v:Bool)(o:b<256)(h:(decide (32<=b)&&decide (b<=126))=v):Hid (∀w:World,Calls prog 256 #[.int .u8 b] w fun e w'=>e=.returned (.bool v)/\w'=w):=fun w=>h▸z0t b w o
theorem z7c{S:zA}(h:bt S k=some x):k<S.size:=(Zq h).1
def ng(r:Rs):Rs:=
 match r with
 | .inl e=>.inl e
 | .inr (C,n)=>.inr (Zl C,n)
theorem z7d(S:zA):Fq S=if bt S 0=some 91 then(if bt S 1=some 94 then ng (mm S 2 0)else mm S 1 0)else .inl (flt S 0):=rfl
theorem z0y{S:zA}(h:Fq S=.inr (C,n)):C<2^256/\0<n/\n<=S.size:=by
 rw[z7d]at h;split at h
 ·split at h
  ·cases hm:mm S 2 0 with
   |inl e=>rw[hm]at h;cases h
   |inr q=>
    obtain⟨D,m⟩:=q;rw[hm]at h;have o:=z0x (by decide+kernel) hm;simp only[ng,Sum.inr.injEq,Prod.mk.injEq]at h;refine⟨?_,by omega,by omega⟩;rw[<-h.1];unfold Zl Vm;omega
  ·have o:=z0x (by decide+kernel) h
   exact⟨o.1,by omega,o.2.2⟩
 ·cases h
open Go.Extern.Stop Go.Stop Go.Extern
def Zp(x:Nat):Bool:=(decide (65<=x)&&decide (x<=90))||((decide (97<=x)&&decide (x<=122))||x == 95)
def Nx(x:Nat):Bool:=decide (48<=x)&&decide (x<=57)
def plB(x:Nat):Bool:=decide (32<=x)&&decide (x<=126)
theorem Fx(x:Nat)(v:Bool)(o:Zp x=v)(w:World)(hx:x<256):
  Calls prog 125 #[.int .u8 x] w fun e w'=>e=.returned (.bool v)/\w'=w:=by
 subst o;have y:x<65∨(65<=x/\x<=90)∨(90<x/\x<95)∨x=95∨x=96∨(97<=x/\x<=122)∨122<x:=by omega
 rcases y with h|h|h|h|h|h|h
 ·have o:Zp x=false:=by unfold Zp;simp;omega
  have a1:decide (65<=(x:Int))=false:=by simp;omega
  have a3:decide (97<=(x:Int))=false:=by simp;omega
  have r:((x:Int) == 95)=false:=by simp;omega
  rw[o];clear h o;go_enter func125,ntmps125
  go_wp2_with fail
  go_ret;exact⟨rfl,rfl⟩
 ·have o:Zp x=true:=by unfold Zp;simp;omega
  have a1:decide (65<=(x:Int))=true:=by simp;omega
  have a2:decide ((x:Int)<=90)=true:=by simp;omega
  rw[o];clear h o;go_enter func125,ntmps125
  go_wp2_with fail
  go_ret;exact⟨rfl,rfl⟩
 ·have o:Zp x=false:=by unfold Zp;simp;omega
  have a1:decide (65<=(x:Int))=true:=by simp;omega
  have a2:decide ((x:Int)<=90)=false:=by simp;omega
  have a3:decide (97<=(x:Int))=false:=by simp;omega
  have r:((x:Int) == 95)=false:=by simp;omega
  rw[o];clear h o;go_enter func125,ntmps125
  go_wp2_with fail
  go_ret;exact⟨rfl,rfl⟩
 ·have o:Zp x=true:=by unfold Zp;simp;omega
  have a1:decide (65<=(x:Int))=true:=by simp;omega
  have a2:decide ((x:Int)<=90)=false:=by simp;omega
  have a3:decide (97<=(x:Int))=false:=by simp;omega
  have r:((x:Int) == 95)=true:=by simp;omega
  rw[o];clear h o;go_enter func125,ntmps125
  go_wp2_with fail
  go_ret;exact⟨rfl,rfl⟩
 ·have o:Zp x=false:=by unfold Zp;simp;omega
  have a1:decide (65<=(x:Int))=true:=by simp;omega
  have a2:decide ((x:Int)<=90)=false:=by simp;omega
  have a3:decide (97<=(x:Int))=false:=by simp;omega
  have r:((x:Int) == 95)=false:=by simp;omega
  rw[o];clear h o;go_enter func125,ntmps125
  go_wp2_with fail
  go_ret;exact⟨rfl,rfl⟩
 ·have o:Zp x=true:=by unfold Zp;simp;omega
  have a1:decide (65<=(x:Int))=true:=by simp;omega
  have a2:decide ((x:Int)<=90)=false:=by simp;omega
  have a3:decide (97<=(x:Int))=true:=by simp;omega
  have a4:decide ((x:Int)<=122)=true:=by simp;omega
  rw[o];clear h o;go_enter func125,ntmps125
  go_wp2_with fail
  go_ret;exact⟨rfl,rfl⟩
 ·have o:Zp x=false:=by unfold Zp;simp;omega
  have a1:decide (65<=(x:Int))=true:=by simp;omega
  have a2:decide ((x:Int)<=90)=false:=by simp;omega
  have a3:decide (97<=(x:Int))=true:=by simp;omega
  have a4:decide ((x:Int)<=122)=false:=by simp;omega
  have r:((x:Int) == 95)=false:=by simp;omega
  rw[o];clear h o;go_enter func125,ntmps125
  go_wp2_with fail
  go_ret;exact⟨rfl,rfl⟩
theorem z0z(x:Nat)(v:Bool)(h:Nx x=v)(w:World)(hx:x<256):
  Calls prog 183 #[.int .u8 x] w fun e w'=>e=.returned (.bool v)/\w'=w:=by
 subst h;unfold Nx;by_cases h1:48<=x
 ·have a1:decide (48<=(x:Int))=true:=by simp;omega
  by_cases h2:x<=57
  ·have a2:decide ((x:Int)<=57)=true:=by simp;omega
   rw[decide_eq_true h1,decide_eq_true h2];clear h1 h2;go_enter func183,ntmps183
   go_wp2_with fail
   go_ret;exact⟨rfl,rfl⟩
  ·have a2:decide ((x:Int)<=57)=false:=by simp;omega
   rw[decide_eq_true h1,decide_eq_false h2];clear h1 h2;go_enter func183,ntmps183
   go_wp2_with fail
   go_ret;exact⟨rfl,rfl⟩
 ·have a1:decide (48<=(x:Int))=false:=by simp;omega
  rw[decide_eq_false h1];clear h1;go_enter func183,ntmps183
  go_wp2_with fail
  go_ret;exact⟨rfl,rfl⟩
theorem z0A(x:Nat)(v:Bool)(h:plB x=v)(w:World)(hx:x<256):
  Calls prog 115 #[.int .u8 x] w fun e w'=>e=.returned (.bool v)/\w'=w:=by
 subst h;unfold plB;by_cases h1:32<=x
 ·have a1:decide (32<=(x:Int))=true:=by simp;omega
  by_cases h2:x<=126
  ·have a2:decide ((x:Int)<=126)=true:=by simp;omega
   rw[decide_eq_true h1,decide_eq_true h2];clear h1 h2;go_enter func115,ntmps115
   go_wp2_with fail
   go_ret;exact⟨rfl,rfl⟩
  ·have a2:decide ((x:Int)<=126)=false:=by simp;omega
   rw[decide_eq_true h1,decide_eq_false h2];clear h1 h2;go_enter func115,ntmps115
   go_wp2_with fail
   go_ret;exact⟨rfl,rfl⟩
 ·have a1:decide (32<=(x:Int))=false:=by simp;omega
  rw[decide_eq_false h1];clear h1;go_enter func115,ntmps115
  go_wp2_with fail
  go_ret;exact⟨rfl,rfl⟩
theorem z7e(T:zA)(x:Nat)(w:World):
  Calls prog 129 #[zT T,.int .u8 x] w fun e w'=>e=.returned (zI (Lib.indexByte T.data.toList x.toUInt8))/\w'=w:=by
 have o:= @run_callFunc_extern prog 190 _ Extern.BytealgIndexByte.indexByte func190 (by kernel_rfl) (by kernel_rfl) (by kernel_rfl) (by kernel_rfl);have h:=Lib.run_indexByteString (P:=prog) T (x:Int);simp only[Int.toNat_natCast]at h;go_enter func129,ntmps129
 go_wp2
 go_ret;exact⟨rfl,rfl⟩
def mkB(x:Nat):Bool:=x == 47||x == 38||x == 33||x == 63||x == 42||x == 43||x == 40||x == 41||x == 46
theorem z7f:∀x:Nat,x<256->decide (0<=Lib.indexByte [47,38,33,63,42,43,40,41,46] x.toUInt8)=mkB x:=by decide+kernel
def Lw(x:Nat):Option Nat:=if x=110 then some 10 else if x=114 then some 13 else if x=116 then some 9 else if x=92∨x=39∨x=34 then some x else none
def Ly(S:zA)(k:Nat):Rs:=
 match bt S k with
 |none=>.inl (flt S k)
 |some x=>match Lw x with
  |some b=>.inr (b,k+1)
  |none=>if x=120 then Bh S (k+1)else .inl (flt S k)
def lsg(S:zA)(k:Nat):Rs:=
 match bt S k with
 |none=>.inl (flt S k)
 |some x=>if plB x=false then .inl (flt S k)else if x=92 then Ly S (k+1)else .inr (x,k+1)
theorem z7g(h:Lw x=some b)(hx:x<256):b<256:=by
 unfold Lw at h
 repeat(split at h;(simp at h;omega))
 cases h
theorem z7h{S:zA}(h:Ly S k=.inr (b,n)):b<256/\k<n/\n<=S.size:=by
 unfold Ly at h;split at h
 ·cases h
 ·rename_i x hx
  have o:=Zq hx;split at h
  ·rename_i E y
   simp at h;have:=z7g y o.2;omega
  ·split at h
   ·obtain⟨q,r,A,D,rfl,rfl⟩:=z0v h
    have a1:=Bd A;have a2:=Bd D;have:=a2.2.lt;omega
   ·cases h
theorem Bl{S:zA}(h:lsg S k=.inr (b,n)):b<256/\k<n/\n<=S.size:=by
 unfold lsg at h;split at h
 ·cases h
 ·rename_i x hx
  have o:=Zq hx;split at h
  ·cases h
  ·split at h
   ·have:=z7h h;omega
   ·simp at h;omega
def nv(l:List Nat):List Value:=l.map fun(x:Nat)=>Value.int .u8 x
theorem Fj(a b:List Nat):nv (a++b)=nv a++nv b:=List.map_append
theorem z0B(a:List Nat):(nv a).length=a.length:=List.length_map ..
theorem Tryz.infoByte:(Tryz.prog.info? 5).map (fun i=>(i.zero,i.size,i.bytes))=some (some (.int .u8 0),1,1):=by kernel_rfl
theorem Vy(w:World)(u:Value)(t:TypeId):∀j x,[u][j]? =some x->(w.alloc (.cells #[u] t)).cell? ((⟨w.heap.size,0,none⟩:Addr).add j)=some x:=by
 intro j x h
 match j,h with
 |0,h=>simp at h;subst h;simp[Addr.add]
theorem Fk(w:World)(u v:Value)(t:TypeId):∀j x,[u,v][j]? =some x->(w.alloc (.cells #[u,v] t)).cell? ((⟨w.heap.size,0,none⟩:Addr).add j)=some x:=by
 intro j x h
 match j,h with
 |0,h=>simp at h;subst h;simp[Addr.add]
 |1,h=>simp at h;subst h;simp[Addr.add]
theorem z0C(w:World)(a b c d:Value)(t:TypeId):∀j x,[a,b,c,d][j]? =some x->(w.alloc (.cells #[a,b,c,d] t)).cell? ((⟨w.heap.size,0,none⟩:Addr).add j)=some x:=by
 intro j x h
 match j,h with
 |0,h=>simp at h;subst h;simp[Addr.add]
 |1,h=>simp at h;subst h;simp[Addr.add]
 |2,h=>simp at h;subst h;simp[Addr.add]
 |3,h=>simp at h;subst h;simp[Addr.add]
theorem Xk(l:List Int):∀u∈l.map (fun x=>Value.int .u8 x),u.oneCell'=true:=by
 intro u h;obtain⟨x,_,rfl⟩:=List.mem_map.1 h;rfl
theorem Cz(q:Nat)(h:q<16)(w:World):(Instr.index 9 (zT {data:=#[48,49,50,51,52,53,54,55,56,57,97,98,99,100,101,102]}) (.int .u8 q)).run prog w=.ok (.int .u8 ((Yz q:Nat):Int)) w:=by
 have:q=0∨q=1∨q=2∨q=3∨q=4∨q=5∨q=6∨q=7∨q=8∨q=9∨q=10∨q=11∨q=12∨q=13∨q=14∨q=15:=by omega
 rcases this with rfl|rfl|rfl|rfl|rfl|rfl|rfl|rfl|rfl|rfl|rfl|rfl|rfl|rfl|rfl|rfl<;>(show(Instr.index 9 _ _).run prog w=_;kernel_rfl)
def nb(l:List Nat):zA:=⟨(l.map UInt8.ofNat).toArray⟩
theorem Qx(w:World)(o:Obj)(h:n=w.heap.size):(w.alloc o).heap[n]? =some o:=by
 subst h;show(w.heap.push o)[w.heap.size]? =_;simp
theorem Uc(l:List Nat):(nb l).size=l.length:=by simp[nb,ByteArray.size]
theorem Vc{e size:Nat}{xs:List Value}(h:w.ownsRow base e size v n xs)(r:0<n):∃g o,v=zS g n o:=by
 obtain⟨_,h|⟨g,o,y,e,_⟩⟩:=h
 ·omega
 ·exact⟨g,o,e⟩
theorem Cq{o:Nat}(h:w.ownsRow base 5 1 (zS g n o) n (nv l))(hl:∀x∈l,x<256):
  (convert 102 9 (zS g n o)).run prog w=.ok (zT (nb l)) w:=by
 have y:l.length=n:=by have:=h.1;rw[z0B]at this;omega
 have:=run_convert_bytes_back w 102 9 5 ⟨g,0,none⟩ o (l.map UInt8.ofNat) Tryz.underlying102 Tryz.underlying5 Tryz.underlying9 (fun j r=>by
  rw[Addr.add_lit,Nat.zero_add];simp at r;rw[h.cellAt j (by omega)];have hx:=hl _ (List.getElem_mem r);simp[nv,r];omega)
 rw[List.length_map,y]at this;exact this
theorem Xf{e size:Nat}{xs:List Value}(h:w.ownsRow base e size v n xs)(o:zB w w'):w'.ownsRow base e size v n xs:=
 h.kept (row:=none) ⟨o.os,o.tape,o.output,o.size,fun j r _=>o.block j r⟩ (by cases hq:v.ownBlock<;>simp)
theorem Tryz.convNil(w:World):(convert 102 9 (.slice none 0 0)).run prog w=.ok (zT (nb [])) w:=by kernel_rfl
theorem Cx(h:w.ownsRow base 5 1 v n (nv l))(hl:∀x∈l,x<256):(convert 102 9 v).run prog w=.ok (zT (nb l)) w:=by
 have o:=h;obtain⟨r,⟨rfl,rfl⟩|⟨g,y,A,rfl,_⟩⟩:=h
 ·have:l=[]:=List.eq_nil_of_length_eq_zero (by rw[z0B]at r;omega)
  subst this;exact Tryz.convNil w
 ·exact Cq o hl
def Tk(w:World)(g:Nat)(kd:Int)(T:zA)(c0 c1 c2 c3:Int)(p:Int):Prop:=w.heap[g]? =some (.cells #[zI kd,zT T,zU c0,zU c1,zU c2,zU c3,zI p] 186)
@[reducible] def st7 (w:World) (g:Nat) (kd:Int) (T:zA) (c0 c1 c2 c3:Int) (p:Int):World:=((((((w.setCell ⟨g,0,none⟩ (zI kd)).setCell ⟨g,1,none⟩ (zT T)).setCell ⟨g,2,none⟩ (zU c0)).setCell ⟨g,3,none⟩ (zU c1)).setCell ⟨g,4,none⟩ (zU c2)).setCell ⟨g,5,none⟩ (zU c3)).setCell ⟨g,6,none⟩ (zI p)
theorem Tk.cells{T:ByteArray}{p:Int}(h:Tk w g kd T c0 c1 c2 c3 p):w.cell? ⟨g,0,none⟩=some (.int .i64 kd)/\w.cell? ⟨g,1,none⟩=some (.string T)/\w.cell? ⟨g,2,none⟩=some (.int .u64 c0)/\w.cell? ⟨g,3,none⟩=some (.int .u64 c1)/\w.cell? ⟨g,4,none⟩=some (.int .u64 c2)/\w.cell? ⟨g,5,none⟩=some (.int .u64 c3)/\w.cell? ⟨g,6,none⟩=some (.int .i64 p):=by
 unfold Tk at h;simp[World.cell?,h]
theorem Tk.thaw{T:zA}{p:Int}(h:Tk w g kd T c0 c1 c2 c3 p):w.frozen? ⟨g,0,none⟩=false/\w.frozen? ⟨g,1,none⟩=false/\w.frozen? ⟨g,2,none⟩=false/\w.frozen? ⟨g,3,none⟩=false/\w.frozen? ⟨g,4,none⟩=false/\w.frozen? ⟨g,5,none⟩=false/\w.frozen? ⟨g,6,none⟩=false:=by
 unfold Tk at h;simp[World.frozen?,h]
theorem Tk.lt{T:zA}{p:Int}(h:Tk w g kd T c0 c1 c2 c3 p):g<w.heap.size:=by
 unfold Tk at h;rcases Nat.lt_or_ge g w.heap.size with o|o
 ·exact o
 ·rw[Array.getElem?_eq_none o]at h;cases h
theorem Tk.below{T:zA}{p:Int}(h:Tk w g kd T c0 c1 c2 c3 p)(o:Below B w w')(r:g<B):Tk w' g kd T c0 c1 c2 c3 p:=(o.block g r).trans h
theorem Tk.alloc{w:World}{g:Nat}{kd:Int}{T:zA}{c0 c1 c2 c3 p:Int}(h:Tk w g kd T c0 c1 c2 c3 p)(o:Obj):Tk (w.alloc o) g kd T c0 c1 c2 c3 p:=(Below.heap_alloc w o g h.lt).trans h
theorem Tk.new(w:World)(kd:Int)(T:zA)(c0 c1 c2 c3 p:Int):Tk (w.alloc (.cells #[zI kd,zT T,zU c0,zU c1,zU c2,zU c3,zI p] 186)) w.heap.size kd T c0 c1 c2 c3 p:=by
 show(w.heap.push _)[w.heap.size]? =_;simp
theorem Tk.st7{w:World}{g:Nat}{kd:Int}{T:zA}{c0 c1 c2 c3 p:Int}(h:Tk w g kd T c0 c1 c2 c3 p)(o:Int)(r:zA)(y A D E G:Int):Tk (Proofs.YtmelafeingcgnaaGreatDoor.st7 w g o r y A D E G) g o r y A D E G:=by
 unfold Tk at*;simp only[World.setCell,Array.getElem?_modify,if_true,Option.map_map];rw[h];simp
theorem Below.st7{B:Nat}{a w:World}(h:Below B a w){g:Nat}(o:B<=g)(kd:Int)(T:zA)(c0 c1 c2 c3 p:Int):Below B a (Proofs.YtmelafeingcgnaaGreatDoor.st7 w g kd T c0 c1 c2 c3 p):=
 (((((((h.setCell (p:=⟨g,0,none⟩) o _).setCell (p:=⟨g,1,none⟩) o _).setCell (p:=⟨g,2,none⟩) o _).setCell (p:=⟨g,3,none⟩) o _).setCell (p:=⟨g,4,none⟩) o _).setCell (p:=⟨g,5,none⟩) o _).setCell (p:=⟨g,6,none⟩) o _)
abbrev Ls:=(Nat×Nat) ⊕ (List Nat×Nat)
def Vf(S:zA)(q p:Nat):Nat->Nat->List Nat->Ls
 |0,k,_=>.inl (flt S k)
 |f+1,k,acc=>
  if bt S k=some q then .inr (acc,k+1)else
  match lsg S k with
  | .inl e=>.inl e
  | .inr (b,n)=>if acc.length=255 then .inl (2,p)else Vf S q p f n (acc++[b])
def ll(S:zA)(q p k:Nat)(acc:List Nat):Ls:=Vf S q p (S.size+1-k) k acc
theorem Lf(S:zA)(q p:Nat):∀(f g k:Nat) (acc:List Nat),S.size+1-k<=f->S.size+1-k<=g->Vf S q p f k acc=Vf S q p g k acc
 |0,0,_,_,_,_=>rfl
 |0,g+1,k,acc,hf,_=>by
  have h:=Up (S:=S) (k:=k) (by omega);have o:lsg S k=.inl (flt S k):=by unfold lsg;rw[h]
  rw[Vf,Vf,h,o];simp
 |f+1,0,k,acc,_,hg=>by
  have h:=Up (S:=S) (k:=k) (by omega);have o:lsg S k=.inl (flt S k):=by unfold lsg;rw[h]
  rw[Vf,Vf,h,o];simp
 |f+1,g+1,k,acc,hf,hg=>by
  rw[Vf,Vf];split
  ·rfl
  ·cases o:lsg S k with
   |inl e=>rfl
   |inr r=>
    obtain⟨b,n⟩:=r;have:=Bl o;simp only;split
    ·rfl
    ·exact Lf S q p f g n _ (by omega) (by omega)
theorem Cj(S:zA)(q p k:Nat)(acc:List Nat):ll S q p k acc=(if bt S k=some q then .inr (acc,k+1)else
  match lsg S k with
  | .inl e=>.inl e
  | .inr (b,n)=>if acc.length=255 then .inl (2,p)else ll S q p n (acc++[b])):=by
 unfold ll;rw[Lf S q p (S.size+1-k) (S.size+1-k+1) k acc (by omega) (by omega),Vf];split
 ·rfl
 ·cases hm:lsg S k with
  |inl e=>rfl
  |inr r=>
   obtain⟨b,n⟩:=r;have:=Bl hm;simp only;split
   ·rfl
   ·exact Lf S q p _ _ n _ (by omega) (by omega)
theorem z7i{S:zA}(h:bt S k=some q):ll S q p k acc=.inr (acc,k+1):=by rw[Cj,if_pos h]
theorem z7j{S:zA}{e:Nat×Nat}(h:¬bt S k=some q)(o:lsg S k=.inl e):ll S q p k acc=.inl e:=by rw[Cj,if_neg h,o]
theorem z7k{S:zA}(h:¬bt S k=some q)(o:lsg S k=.inr (b,n))(hl:acc.length=255):ll S q p k acc=.inl (2,p):=by rw[Cj,if_neg h,o];simp[hl]
theorem z7l{S:zA}(h:¬bt S k=some q)(o:lsg S k=.inr (b,n))(hl:acc.length≠255):ll S q p k acc=ll S q p n (acc++[b]):=by rw[Cj,if_neg h,o];simp[hl]
def Lr(w:World)(v:Value)(l:List Nat)(w':World):Prop:=
 Hid (zB w w')/\Hid (w'.ownsRow (w.heap.size+1) 5 1 v l.length (nv l))/\Hid (Tk w' w.heap.size 0 {data:=#[]} 0 0 0 0 0)
theorem Lr.keep{W:World}(h:Lr w v l W)(o:zB W w'):Lr w v l w':=
 ⟨hid (h.1.out.trans (o.mono h.1.out.size)),hid (Xf h.2.1.out o),hid (h.2.2.out.below o h.2.2.out.lt)⟩
def Fw(S:zA):Nat->Nat->Nat
 |0,k=>k
 |f+1,k=>match bt S k with
  |some x=>if Zp x||Nx x then Fw S f (k+1)else k
  |none=>k
def ne(S:zA)(k:Nat):Nat:=Fw S (S.size-k) k
theorem z7m{S:zA}(h:bt S k=none):ne S k=k:=by
 have:=Yg h;unfold ne;rw[show S.size-k=0 by omega,Fw]
theorem Ck{S:zA}(h:bt S k=some x):ne S k=if Zp x||Nx x then ne S (k+1)else k:=by
 have:=(Zq h).1;unfold ne;rw[show S.size-k=(S.size-(k+1))+1 by omega,Fw,h]
theorem Lg(S:zA):∀f k:Nat,k<=Fw S f k/\(f=S.size-k->k<=S.size->Fw S f k<=S.size)
 |0,k=>⟨Nat.le_refl _,fun _ h=>h⟩
 |f+1,k=>by
  rw[Fw];cases hb:bt S k with
  |none=>exact⟨Nat.le_refl _,fun _ h=>h⟩
  |some x=>
   have:=(Zq hb).1;have o:=Lg S f (k+1);simp only;split
   ·exact⟨by omega,fun r y=>o.2 (by omega) (by omega)⟩
   ·exact⟨Nat.le_refl _,fun _ h=>h⟩
theorem z0D{S:zA}(h:k<=S.size):k<=ne S k/\ne S k<=S.size:=⟨(Lg S _ k).1,(Lg S _ k).2 rfl h⟩
theorem z0E(S:zA)(p:Nat)(w:World)(G:p<=S.size)(Z:S.size<=9007199254740992):
  Calls prog 161 #[zT S,zI (p:Int)] w fun e w'=>e=.returned (zI (ne S p:Int))/\w'=w:=by
 obtain⟨R,y⟩:∃R,R=ne S p:=⟨_,rfl⟩;rw[<-y];have U:Hid (ne S p=R):=y.symm;clear y;go_enter func161,ntmps161
 go_wp2_with fail
 go_loopw [1] (fun a wr=>∃k:Nat,a=zI (k:Int)/\k<=S.size/\Hid (ne S k=R)/\wr=w) (fun a _=>S.size-(intOf a).toNat)
 case atStart=>exact⟨p,rfl,G,U,rfl⟩
 case round=>
  obtain⟨k,rfl,aa,h,rfl⟩:=hrel;cases hb:bt S k with
  |none=>
   have ab:=Yg hb;have V:decide ((k:Int)<(S.size:Int))=false:=by simp;omega
   have A:Hid (R=k):=by show _=_;rw[<-h.out,z7m hb]
   clear hb
   go_wp2_with fail
   go_ret;rw[A.out];exact⟨rfl,rfl⟩
  |some x=>
   have o:=(Zq hb).2;obtain⟨hk,ac⟩:=Xy hb;have ad:(k:Int)<(S.size:Int):=by omega
   have V:decide ((k:Int)<(S.size:Int))=true:=by simp;omega
   cases hl:Zp x with
   |true=>
    have D:Hid (ne S (k+1)=R):=by show _=_;rw[<-h.out,Ck hb,hl];simp
    have r:Hid (∀w:World,Calls prog 125 #[.int .u8 x] w fun e w'=>e=.returned (.bool true)/\w'=w):=fun w=>Fx x true hl w o
    clear hb hl h
    go_wp2_with fail
    refine(r.out _).mono ?_;rintro e w1 ⟨rfl,rfl⟩
    go_wp2_with fail
    go_roundw
    case rel=>exact⟨k+1,by go_num,by omega,D,trivial⟩
    case measure=>simp[intOf];omega
   |false=>
    have r:Hid (∀w:World,Calls prog 125 #[.int .u8 x] w fun e w'=>e=.returned (.bool false)/\w'=w):=fun w=>Fx x false hl w o
    cases hd:Nx x with
    |true=>
     have D:Hid (ne S (k+1)=R):=by show _=_;rw[<-h.out,Ck hb,hl,hd];simp
     have E:Hid (∀w:World,Calls prog 183 #[.int .u8 x] w fun e w'=>e=.returned (.bool true)/\w'=w):=fun w=>z0z x true hd w o
     clear hb hl hd h
     go_wp2_with fail
     refine(r.out _).mono ?_;rintro e w1 ⟨rfl,rfl⟩
     go_wp2_with fail
     refine(E.out _).mono ?_;rintro e Y ⟨rfl,rfl⟩
     go_wp2_with fail
     go_roundw
     case rel=>exact⟨k+1,by go_num,by omega,D,trivial⟩
     case measure=>simp[intOf];omega
    |false=>
     have A:Hid (R=k):=by show _=_;rw[<-h.out,Ck hb,hl,hd];simp
     have E:Hid (∀w:World,Calls prog 183 #[.int .u8 x] w fun e w'=>e=.returned (.bool false)/\w'=w):=fun w=>z0z x false hd w o
     clear hb hl hd h
     go_wp2_with fail
     refine(r.out _).mono ?_;rintro e w1 ⟨rfl,rfl⟩
     go_wp2_with fail
     refine(E.out _).mono ?_;rintro e Y ⟨rfl,rfl⟩
     go_wp2_with fail
     go_ret;rw[A.out];exact⟨rfl,rfl⟩
def nmS(S:zA):Bool:=match bt S 0 with
 |none=>false
 |some x=>decide (S.size<=32)&&Zp x&&decide (ne S 0=S.size)
theorem z7n(S:zA)(w:World)(Z:S.size<=9007199254740992):
  Calls prog 291 #[zT S] w fun e w'=>e=.returned (.bool (nmS S))/\w'=w:=by
 have y:Hid (∀w:World,Calls prog 161 #[zT S,zI 0] w fun e w'=>e=.returned (zI (ne S 0:Int))/\w'=w):=fun w=>z0E S 0 w (Nat.zero_le _) Z
 obtain⟨R,A⟩:∃R,R=nmS S:=⟨_,rfl⟩;rw[<-A];cases hb:bt S 0 with
 |none=>
  have E:S.size=0:=by have:=Yg hb;omega
  have aa:S={data:=#[]}:=by
   apply ByteArray.ext;apply Array.eq_empty_of_size_eq_zero;exact E
  have r:Hid (R=false):=by show _=_;rw[A];unfold nmS;rw[hb]
  clear hb A E y;subst aa;go_enter func291,ntmps291
  go_wp2_with fail
  go_ret;rw[r.out];exact⟨rfl,rfl⟩
 |some x=>
  have G:=(Zq hb).2;obtain⟨hk,ab⟩:=Xy hb;have ac:(0:Int)<(S.size:Int):=by omega
  have ad:S.toList.isEmpty=false:=by
   rw[Go.ByteArray.toList_eq];cases h:S.data.toList with
   |nil=>
    have h1:S.data.toList.length=0:=by rw[h];rfl
    have U:S.data.size=S.size:=rfl;rw[Array.length_toList]at h1;omega
   |cons _ _=>rfl
  have o:R=(decide (S.size<=32)&&Zp x&&decide (ne S 0=S.size)):=by rw[A];unfold nmS;rw[hb]
  clear A hb;by_cases h32:S.size<=32
  ·have a0:decide ((S.size:Int)<=32)=true:=by simp;omega
   rw[decide_eq_true h32]at o;cases hl:Zp x with
   |false=>
    have D:Hid (∀w:World,Calls prog 125 #[.int .u8 x] w fun e w'=>e=.returned (.bool false)/\w'=w):=fun w=>Fx x false hl w G
    have r:Hid (R=false):=by show _=_;rw[o,hl];simp
    clear hl o y;go_enter func291,ntmps291
    go_wp2_with fail
    refine(D.out _).mono ?_;rintro e w1 ⟨rfl,rfl⟩
    go_wp2_with fail
    go_ret;rw[r.out];exact⟨rfl,rfl⟩
   |true=>
    have D:Hid (∀w:World,Calls prog 125 #[.int .u8 x] w fun e w'=>e=.returned (.bool true)/\w'=w):=fun w=>Fx x true hl w G
    obtain⟨N,V⟩:∃N,N=ne S 0:=⟨_,rfl⟩;rw[<-V]at y o;obtain⟨v,Y⟩:∃v,v=((N:Int) == (S.size:Int)):=⟨_,rfl⟩;have r:Hid (R=v):=by
     show _=_;rw[o,hl,Y];by_cases h:N=S.size
     ·rw[h];simp
     ·have U:¬(N:Int)=(S.size:Int):=by omega
      simp[h,U]
    clear hl o V;go_enter func291,ntmps291
    go_wp2_with fail
    refine(D.out _).mono ?_;rintro e w1 ⟨rfl,rfl⟩
    go_wp2_with fail
    refine(y.out _).mono ?_;rintro e w2 ⟨rfl,rfl⟩
    go_wp2_with fail
    go_ret;rw[r.out,Y];exact⟨by first|rfl|simp,rfl⟩
  ·have a0:decide ((S.size:Int)<=32)=false:=by simp;omega
   have r:Hid (R=false):=by show _=_;rw[o,decide_eq_false h32];simp
   clear o y;go_enter func291,ntmps291
   go_wp2_with fail
   go_ret;rw[r.out];exact⟨rfl,rfl⟩
end Go.Proofs.YtmelafeingcgnaaGreatDoor
