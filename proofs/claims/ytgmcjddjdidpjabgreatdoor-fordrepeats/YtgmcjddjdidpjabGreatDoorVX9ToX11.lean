/- Lemmas for the last text. Conditions: those that each names. -/
import Derived.Test.YtgmcjddjdidpjabGreatDoorVX5ToX8
import Derived.Test.YtgmcjddjdidpjabGreatDoorVKG5ToX1
import Derived.LaidEql
import Derived.Stop.Asserts
import Derived.RowKitTokens
set_option linter.unusedVariables false
set_option maxRecDepth 100000
set_option maxHeartbeats 4000000
namespace Go.Proofs.YtgmcjddjdidpjabGreatDoor
open Go.Proofs.Tryz
open Go.RowKit
variable {W w w1:World} {p x:Nat}
@[reducible] def tk7 (kd:Int) (T:ByteArray) (c0 c1 c2 c3 q n:Int) (ev:Value):Value:=.tuple #[.agg #[.int .i64 kd,.string T,.int .u64 c0,.int .u64 c1,.int .u64 c2,.int .u64 c3,.int .i64 q],.int .i64 n,ev]
def Mh(A:World->Ending->World->Prop)(W:World)(e:Ending)(w1:World):Prop:=
 ∃(kd:Int) (T:ByteArray) (c0 c1 c2 c3 q n:Int) (ev:Value),e=.returned (tk7 kd T c0 c1 c2 c3 q n ev)/\Hid (Below W.heap.size W w1)/\
  Hid (∀w:World,W=w.alloc (.cells #[.int .i64 0,.string ⟨#[]⟩,.int .u64 0,.int .u64 0,.int .u64 0,.int .u64 0,.int .i64 0] 63)->A w e (st7 w1 w.heap.size kd T c0 c1 c2 c3 q))
theorem Md{o:Obj}(hW:W=w.alloc o)(h:Below W.heap.size W w1):Below w.heap.size w w1:=by
 have hb:Below w.heap.size w W:=by rw[hW];exact B0q.alloc L0q _
 exact hb.trans (h.mono hb.size)
theorem z0M{o:Obj}(hW:W=w.alloc o):W.heap.size=w.heap.size+1:=by rw[hW];simp
theorem Fy.goes{c:Nat×Nat}{e:Ending}(h:Fy c W e w1):Mh (Fy c) W e w1:=by
 obtain⟨f,rfl,HP⟩:=h;refine⟨_,_,_,_,_,_,_,_,_,rfl,hid HP.out.2.2,hid fun w hW=>⟨f,rfl,?_⟩⟩;have hs:=z0M hW;have h1:=HP.out.1;exact Kd (Md hW HP.out.2.2) HP.out.2.1 (by omega) (by omega)
theorem Km.goes{c:Nat×Nat}{e:Ending}(h:Km p c W e w1):Mh (Km p c) W e w1:=by
 obtain⟨g,f,rfl,HP⟩:=h;obtain⟨h1,h2,h3,h4⟩:=HP.out;refine⟨_,_,_,_,_,_,_,_,_,rfl,hid h4,hid fun w hW=>⟨g,f,rfl,?_⟩⟩;have hs:=z0M hW;exact⟨by omega,by omega,h3.st7 (by omega) (by omega) _ _ _ _ _ _ _,Below.st7 (Md hW h4) L0q _ _ _ _ _ _ _⟩
theorem Gc.goes{S:ByteArray}{p:Nat}{W w1:World}{e:Ending}(h:Gc S p W e w1):Mh (Gc S p) W e w1:=by
 unfold Gc at*;by_cases hl:32<ne S p-p
 ·simp only[if_pos hl]at*;exact h.goes
 ·simp only[if_neg hl]at*
  obtain⟨rfl,hb⟩:=h;exact⟨_,_,_,_,_,_,_,_,_,rfl,hid hb,hid fun w hW=>⟨rfl,Below.st7 (Md hW hb) L0q _ _ _ _ _ _ _⟩⟩
theorem Dh.goes{r:Ls}{p:Nat}{W w1:World}{e:Ending}(h:Dh r p W e w1):Mh (Dh r p) W e w1:=by
 cases r with
 |inl c=>exact Fy.goes h
 |inr l=>
  obtain⟨rfl,hb⟩:=h;exact⟨_,_,_,_,_,_,_,_,_,rfl,hid hb,hid fun w hW=>⟨rfl,Below.st7 (Md hW hb) L0q _ _ _ _ _ _ _⟩⟩
theorem Gz.goes{r:Rs}{p:Nat}{W w1:World}{e:Ending}(h:Gz r p W e w1):Mh (Gz r p) W e w1:=by
 cases r with
 |inl c=>exact Km.goes h
 |inr l=>
  obtain⟨rfl,hb⟩:=h;exact⟨_,_,_,_,_,_,_,_,_,rfl,hid hb,hid fun w hW=>⟨rfl,Below.st7 (Md hW hb) L0q _ _ _ _ _ _ _⟩⟩
theorem Kp(w:World):∃W,W=w.alloc (.cells #[.int .i64 0,.string ⟨#[]⟩,.int .u64 0,.int .u64 0,.int .u64 0,.int .u64 0,.int .i64 0] 63):=⟨_,rfl⟩
theorem z6F(S:ByteArray)(p x:Nat)(w:World)(hb:bt S p=some x)(hl:Zq x=true)(hS:S.size<=9007199254740992):
  Calls prog 20 #[.string S,.int .i64 p] w fun e w'=>Gc S p w e w':=by
 have hxl:=(Qf hb).2;obtain⟨hp,hxx⟩:=Zy hb;have hpI:(p:Int)<(S.size:Int):=by omega
 have hpI2:(p:Int)<=(S.size:Int):=by omega
 have HLt:Hid (∀w:World,Calls prog 28 #[.int .u8 x] w fun e w'=>e=.returned (.bool true)/\w'=w):=fun w=>Jc x true hl w hxl
 obtain⟨W,hW⟩:=Kp w;have HW:Hid (W=w.alloc (.cells #[.int .i64 0,.string ⟨#[]⟩,.int .u64 0,.int .u64 0,.int .u64 0,.int .u64 0,.int .i64 0] 63)):=hW;have HB1:Hid (Below w.heap.size w W):=by show Below _ _ _;rw[hW];exact B0q.alloc L0q _
 have HT0:Hid (Tk W w.heap.size 0 {data:=#[]} 0 0 0 0 0):=by show Tk _ _ _ _ _ _ _ _ _;rw[hW];exact Tk.new w 0 {data:=#[]} 0 0 0 0 0
 have HC:Hid (∀w:World,Calls prog 29 #[.string S,.int .i64 p] w fun e w'=>Gc S p w e w'):=fun w=>z6D S p w (by omega) hS
 clear hb hl;go_enter func20,ntmps20
 go_wp2_with fail
 rw[<-hW];clear hW;refine(HLt.out _).mono ?_;rintro e w0 ⟨rfl,rfl⟩
 go_wp2_with fail
 refine(HC.out _).mono ?_;intro e w1 h;obtain⟨kd,T,c0',c1',c2',c3',q',n',ev,rfl,HB2,HP⟩:=h.goes;clear h;have HT2:Hid (Tk w1 w.heap.size 0 {data:=#[]} 0 0 0 0 0):=HT0.out.below HB2.out HT0.out.lt;obtain⟨c0,c1,c2,c3,c4,c5,c6⟩:=HT2.out.cells;obtain⟨f0,f1,f2,f3,f4,f5,f6⟩:=HT2.out.thaw
 go_wp2_with fail
 obtain⟨r0,r1,r2,r3,r4,r5,r6⟩:=(HT2.out.st7 kd T c0' c1' c2' c3' q').cells;unfold st7 at r0 r1 r2 r3 r4 r5 r6
 (try simp only[Exit.inBlock,Exit.then])
 refine bodyPost_ret (v:=tk7 kd T c0' c1' c2' c3' q' n' ev) (by simp[results,Tryz.results20,go_sem,r0,r1,r2,r3,r4,r5,r6]) rfl ?_;exact HP.out w HW.out
theorem z6G(S:ByteArray)(p x:Nat)(w:World)(hb:bt S p=some x)(hq:x=39∨x=34)(hS:S.size<=9007199254740992):
  Calls prog 20 #[.string S,.int .i64 p] w fun e w'=>Dh (ll S x p (p+1) []) p w e w':=by
 have hxl:=(Qf hb).2;obtain⟨hp,hxx⟩:=Zy hb;have hpI:(p:Int)<(S.size:Int):=by omega
 have hpI2:(p:Int)<=(S.size:Int):=by omega
 have hl:Zq x=false:=by rcases hq with rfl|rfl<;>rfl
 have HLt:Hid (∀w:World,Calls prog 28 #[.int .u8 x] w fun e w'=>e=.returned (.bool false)/\w'=w):=fun w=>Jc x false hl w hxl
 obtain⟨W,hW⟩:=Kp w;have HW:Hid (W=w.alloc (.cells #[.int .i64 0,.string ⟨#[]⟩,.int .u64 0,.int .u64 0,.int .u64 0,.int .u64 0,.int .i64 0] 63)):=hW;have HB1:Hid (Below w.heap.size w W):=by show Below _ _ _;rw[hW];exact B0q.alloc L0q _
 have HT0:Hid (Tk W w.heap.size 0 {data:=#[]} 0 0 0 0 0):=by show Tk _ _ _ _ _ _ _ _ _;rw[hW];exact Tk.new w 0 {data:=#[]} 0 0 0 0 0
 have HC:Hid (∀w:World,Calls prog 30 #[.string S,.int .i64 p] w fun e w'=>Dh (ll S x p (p+1) []) p w e w'):=fun w=>z6v S x p w hb hS
 obtain⟨r,hr⟩:∃r,r=ll S x p (p+1) []:=⟨_,rfl⟩;rw[<-hr]at HC ⊢;clear hb hr hl;rcases hq with rfl|rfl
 ·go_enter func20,ntmps20
  go_wp2_with fail
  rw[<-hW];clear hW;refine(HLt.out _).mono ?_;rintro e w0 ⟨rfl,rfl⟩
  go_wp2_with fail
  refine(HC.out _).mono ?_;intro e w1 h;obtain⟨kd,T,c0',c1',c2',c3',q',n',ev,rfl,HB2,HP⟩:=h.goes;clear h;have HT2:Hid (Tk w1 w.heap.size 0 {data:=#[]} 0 0 0 0 0):=HT0.out.below HB2.out HT0.out.lt;obtain⟨c0,c1,c2,c3,c4,c5,c6⟩:=HT2.out.cells;obtain⟨f0,f1,f2,f3,f4,f5,f6⟩:=HT2.out.thaw
  go_wp2_with fail
  obtain⟨r0,r1,r2,r3,r4,r5,r6⟩:=(HT2.out.st7 kd T c0' c1' c2' c3' q').cells;unfold st7 at r0 r1 r2 r3 r4 r5 r6
  (try simp only[Exit.inBlock,Exit.then])
  refine bodyPost_ret (v:=tk7 kd T c0' c1' c2' c3' q' n' ev) (by simp[results,Tryz.results20,go_sem,r0,r1,r2,r3,r4,r5,r6]) rfl ?_;exact HP.out w HW.out
 ·go_enter func20,ntmps20
  go_wp2_with fail
  rw[<-hW];clear hW;refine(HLt.out _).mono ?_;rintro e w0 ⟨rfl,rfl⟩
  go_wp2_with fail
  refine(HC.out _).mono ?_;intro e w1 h;obtain⟨kd,T,c0',c1',c2',c3',q',n',ev,rfl,HB2,HP⟩:=h.goes;clear h;have HT2:Hid (Tk w1 w.heap.size 0 {data:=#[]} 0 0 0 0 0):=HT0.out.below HB2.out HT0.out.lt;obtain⟨c0,c1,c2,c3,c4,c5,c6⟩:=HT2.out.cells;obtain⟨f0,f1,f2,f3,f4,f5,f6⟩:=HT2.out.thaw
  go_wp2_with fail
  obtain⟨r0,r1,r2,r3,r4,r5,r6⟩:=(HT2.out.st7 kd T c0' c1' c2' c3' q').cells;unfold st7 at r0 r1 r2 r3 r4 r5 r6
  (try simp only[Exit.inBlock,Exit.then])
  refine bodyPost_ret (v:=tk7 kd T c0' c1' c2' c3' q' n' ev) (by simp[results,Tryz.results20,go_sem,r0,r1,r2,r3,r4,r5,r6]) rfl ?_;exact HP.out w HW.out
theorem z6H(S:ByteArray)(p x:Nat)(w:World)(hb:bt S p=some x)(hq:x=91)(hS:S.size<=9007199254740992):
  Calls prog 20 #[.string S,.int .i64 p] w fun e w'=>Gz (Yk (S.extract p S.size)) p w e w':=by
 have hxl:=(Qf hb).2;obtain⟨hp,hxx⟩:=Zy hb;have hpI:(p:Int)<(S.size:Int):=by omega
 have hpI2:(p:Int)<=(S.size:Int):=by omega
 have HLt:Hid (∀w:World,Calls prog 28 #[.int .u8 x] w fun e w'=>e=.returned (.bool false)/\w'=w):=fun w=>Jc x false (by rw[hq];rfl) w hxl
 obtain⟨W,hW⟩:=Kp w;have HW:Hid (W=w.alloc (.cells #[.int .i64 0,.string ⟨#[]⟩,.int .u64 0,.int .u64 0,.int .u64 0,.int .u64 0,.int .i64 0] 63)):=hW;have HB1:Hid (Below w.heap.size w W):=by show Below _ _ _;rw[hW];exact B0q.alloc L0q _
 have HT0:Hid (Tk W w.heap.size 0 {data:=#[]} 0 0 0 0 0):=by show Tk _ _ _ _ _ _ _ _ _;rw[hW];exact Tk.new w 0 {data:=#[]} 0 0 0 0 0
 have HC:Hid (∀w:World,Calls prog 31 #[.string S,.int .i64 p] w fun e w'=>Gz (Yk (S.extract p S.size)) p w e w'):=fun w=>z6E S p w (by omega) hS
 obtain⟨r,hr⟩:∃r,r=Yk (S.extract p S.size):=⟨_,rfl⟩;rw[<-hr]at HC ⊢;clear hb hr;subst hq;go_enter func20,ntmps20
 go_wp2_with fail
 rw[<-hW];clear hW;refine(HLt.out _).mono ?_;rintro e w0 ⟨rfl,rfl⟩
 go_wp2_with fail
 refine(HC.out _).mono ?_;intro e w1 h;obtain⟨kd,T,c0',c1',c2',c3',q',n',ev,rfl,HB2,HP⟩:=h.goes;clear h;have HT2:Hid (Tk w1 w.heap.size 0 {data:=#[]} 0 0 0 0 0):=HT0.out.below HB2.out HT0.out.lt;obtain⟨c0,c1,c2,c3,c4,c5,c6⟩:=HT2.out.cells;obtain⟨f0,f1,f2,f3,f4,f5,f6⟩:=HT2.out.thaw
 go_wp2_with fail
 obtain⟨r0,r1,r2,r3,r4,r5,r6⟩:=(HT2.out.st7 kd T c0' c1' c2' c3' q').cells;unfold st7 at r0 r1 r2 r3 r4 r5 r6
 (try simp only[Exit.inBlock,Exit.then])
 refine bodyPost_ret (v:=tk7 kd T c0' c1' c2' c3' q' n' ev) (by simp[results,Tryz.results20,go_sem,r0,r1,r2,r3,r4,r5,r6]) rfl ?_;exact HP.out w HW.out
def arB(S:ByteArray)(p:Nat):Bool:=bt S p == some 60&&bt S (p+1) == some 45
theorem z0N{b:UInt8}{k:Nat}(hb:b.toNat=x)(hk:k<256):(UInt8.ofNat k == b)=(x == k):=by
 by_cases h:x=k
 ·have h2:UInt8.ofNat k=b:=by apply UInt8.toNat.inj;rw[hb,h,UInt8.toNat_ofNat'];omega
  rw[h2,h];simp
 ·have h2:UInt8.ofNat k≠b:=fun e=>h (by rw[<-hb,<-e,UInt8.toNat_ofNat'];omega)
  rw[beq_eq_false_iff_ne.2 h2,beq_eq_false_iff_ne.2 h]
theorem z6I{S:ByteArray}(h:bt S p=some x):Lib.hasPrefix (S.data.toList.drop p) [60,45]=arB S p:=by
 obtain⟨b,hd,hbx⟩:=Oz h;unfold Lib.hasPrefix arB;rw[hd,h,List.isPrefixOf];have e1:((60:UInt8) == b)=(x == 60):=z0N hbx (by decide);rw[e1];congr 1;cases hb:bt S (p+1)with
 |none=>
  have:=Zp hb;rw[List.drop_eq_nil_of_le (by rw[Array.length_toList];exact this)];rfl
 |some y=>
  obtain⟨b2,hd2,hb2⟩:=Oz hb;rw[hd2,List.isPrefixOf];have e2:((45:UInt8) == b2)=(y == 45):=z0N hb2 (by decide);rw[e2,List.isPrefixOf];simp
theorem Ov{S:ByteArray}(h:bt S p=some x)(w:World):Calls prog 32 #[.string (S.extract p S.size),.string {data:=#[60,45]}] w fun e w'=>e=.returned (.bool (arB S p))/\w'=w:=by
 have h2:=z0L (S.extract p S.size) {data:=#[60,45]} w;rw[z0K S p (by have:=(Qf h).1;omega),show({data:=#[60,45]}:ByteArray).data.toList=[60,45]from rfl,z6I h]at h2;exact h2
theorem z6J(w:World)(b:Nat)(hb:b<256):(convert 84 9 (.slice (some ⟨w.heap.size,0,none⟩) 1 1)).run prog (w.alloc (.cells #[.int .u8 b] 5))=.ok (.string (nb [b])) (w.alloc (.cells #[.int .u8 b] 5)):=
 Cy (base:=w.heap.size) (l:=[b]) ⟨rfl,.inr ⟨w.heap.size,1,#[.int .u8 b],rfl,Nat.le_refl _,Qx _ _ rfl,Nat.le_refl _,by unfold maxLen;omega,rfl,rfl⟩⟩ (fun x hx=>by simp at hx;omega)
theorem z6K(S:ByteArray)(p x:Nat)(w:World)(hb:bt S p=some x)(ha:arB S p=true)(hx:x=60)(hS:S.size<=9007199254740992):
  Calls prog 20 #[.string S,.int .i64 p] w fun e w'=>(fun w e w'=>e=.returned (tk7 2 {data:=#[]} 0 0 0 0 (p:Int) ((p:Int)+2) .nilIface)/\Below w.heap.size w w') w e w':=by
 have hxl:=(Qf hb).2;obtain⟨hp,hxx⟩:=Zy hb;have hpI:(p:Int)<(S.size:Int):=by omega
 have hpI2:(p:Int)<=(S.size:Int):=by omega
 have HLt:Hid (∀w:World,Calls prog 28 #[.int .u8 x] w fun e w'=>e=.returned (.bool false)/\w'=w):=fun w=>Jc x false (by rw[hx];rfl) w hxl
 obtain⟨W,hW⟩:=Kp w;have HW:Hid (W=w.alloc (.cells #[.int .i64 0,.string ⟨#[]⟩,.int .u64 0,.int .u64 0,.int .u64 0,.int .u64 0,.int .i64 0] 63)):=hW;have HB1:Hid (Below w.heap.size w W):=by show Below _ _ _;rw[hW];exact B0q.alloc L0q _
 have HT0:Hid (Tk W w.heap.size 0 {data:=#[]} 0 0 0 0 0):=by show Tk _ _ _ _ _ _ _ _ _;rw[hW];exact Tk.new w 0 {data:=#[]} 0 0 0 0 0
 have HA:Hid (∀w:World,Calls prog 32 #[.string (S.extract p S.size),.string {data:=#[60,45]}] w fun e w'=>e=.returned (.bool true)/\w'=w):=fun w=>ha▸Ov hb w
 clear hb ha;subst hx;go_enter func20,ntmps20
 go_wp2_with fail
 rw[<-hW];clear hW;refine(HLt.out _).mono ?_;rintro e w0 ⟨rfl,rfl⟩
 go_wp2_with fail
 refine(HA.out _).mono ?_;rintro e w1 ⟨rfl,rfl⟩;obtain⟨c0,c1,c2,c3,c4,c5,c6⟩:=HT0.out.cells;obtain⟨f0,f1,f2,f3,f4,f5,f6⟩:=HT0.out.thaw
 go_wp2_with fail
 obtain⟨r0,r1,r2,r3,r4,r5,r6⟩:=(HT0.out.st7 2 {data:=#[]} 0 0 0 0 (p:Int)).cells;unfold st7 at r0 r1 r2 r3 r4 r5 r6
 (try simp only[Exit.inBlock,Exit.then])
 refine bodyPost_ret (v:=tk7 2 {data:=#[]} 0 0 0 0 (p:Int) ((p:Int)+2) .nilIface) (by simp[results,Tryz.results20,go_sem,r0,r1,r2,r3,r4,r5,r6]) rfl ?_;exact⟨rfl,Below.st7 HB1.out L0q _ _ _ _ _ _ _⟩
theorem z6L(S:ByteArray)(p x:Nat)(w:World)(hb:bt S p=some x)(hl:Zq x=false)(hq:x≠39/\x≠34/\x≠91)(ha:arB S p=false)(hm:mkB x=true)(hS:S.size<=9007199254740992):
  Calls prog 20 #[.string S,.int .i64 p] w fun e w'=>(fun w e w'=>e=.returned (tk7 5 (nb [x]) 0 0 0 0 (p:Int) ((p:Int)+1) .nilIface)/\Below w.heap.size w w') w e w':=by
 have hxl:=(Qf hb).2;obtain⟨hp,hxx⟩:=Zy hb;have hpI:(p:Int)<(S.size:Int):=by omega
 have hpI2:(p:Int)<=(S.size:Int):=by omega
 have HLt:Hid (∀w:World,Calls prog 28 #[.int .u8 x] w fun e w'=>e=.returned (.bool false)/\w'=w):=fun w=>Jc x false hl w hxl
 obtain⟨W,hW⟩:=Kp w;have HW:Hid (W=w.alloc (.cells #[.int .i64 0,.string ⟨#[]⟩,.int .u64 0,.int .u64 0,.int .u64 0,.int .u64 0,.int .i64 0] 63)):=hW;have HB1:Hid (Below w.heap.size w W):=by show Below _ _ _;rw[hW];exact B0q.alloc L0q _
 have HT0:Hid (Tk W w.heap.size 0 {data:=#[]} 0 0 0 0 0):=by show Tk _ _ _ _ _ _ _ _ _;rw[hW];exact Tk.new w 0 {data:=#[]} 0 0 0 0 0
 have HA:Hid (∀w:World,Calls prog 32 #[.string (S.extract p S.size),.string {data:=#[60,45]}] w fun e w'=>e=.returned (.bool false)/\w'=w):=fun w=>ha▸Ov hb w
 have b1:((x:Int) == 39)=false:=by simp;omega
 have b2:((x:Int) == 34)=false:=by simp;omega
 have b3:((x:Int) == 91)=false:=by simp;omega
 obtain⟨i,hi⟩:∃i:Int,i=Lib.indexByte [47,38,33,63,42,43,40,41,46] x.toUInt8:=⟨_,rfl⟩;have HI:Hid (∀w:World,Calls prog 33 #[.string {data:=#[47,38,33,63,42,43,40,41,46]},.int .u8 x] w fun e w'=>e=.returned (.int .i64 i)/\w'=w):=fun w=>by rw[hi];exact Ck {data:=#[47,38,33,63,42,43,40,41,46]} x w
 have hi0:decide (0<=i)=true:=by rw[hi,z0z x hxl,hm]
 have hi1:0<=i:=by simpa using hi0
 have cvn:=fun w=>z6J w x hxl
 obtain⟨TT,hTT⟩:∃TT,TT=nb [x]:=⟨_,rfl⟩;rw[<-hTT]at cvn ⊢;clear hb hl hq ha hm hi hTT;go_enter func20,ntmps20
 go_wp2_with fail
 rw[<-hW];clear hW;refine(HLt.out _).mono ?_;rintro e w0 ⟨rfl,rfl⟩
 go_wp2_with fail
 refine(HA.out _).mono ?_;rintro e w1 ⟨rfl,rfl⟩
 go_wp2_with fail
 refine(HI.out _).mono ?_;rintro e w2 ⟨rfl,rfl⟩;have HT2:Hid (Tk (w2.alloc (.cells #[.int .u8 x] 5)) w.heap.size 0 {data:=#[]} 0 0 0 0 0):=HT0.out.alloc _;obtain⟨c0,c1,c2,c3,c4,c5,c6⟩:=HT2.out.cells;obtain⟨f0,f1,f2,f3,f4,f5,f6⟩:=HT2.out.thaw
 go_wp2_with fail
 obtain⟨r0,r1,r2,r3,r4,r5,r6⟩:=(HT2.out.st7 5 TT 0 0 0 0 (p:Int)).cells;unfold st7 at r0 r1 r2 r3 r4 r5 r6
 (try simp only[Exit.inBlock,Exit.then])
 refine bodyPost_ret (v:=tk7 5 TT 0 0 0 0 (p:Int) ((p:Int)+1) .nilIface) (by simp[results,Tryz.results20,go_sem,r0,r1,r2,r3,r4,r5,r6]) rfl ?_;exact⟨rfl,Below.st7 (HB1.out.alloc HB1.out.size _) L0q _ _ _ _ _ _ _⟩
theorem z6M(S:ByteArray)(p x:Nat)(w:World)(hb:bt S p=some x)(hl:Zq x=false)(hq:x≠39/\x≠34/\x≠91)(ha:arB S p=false)(hm:mkB x=false)(hS:S.size<=9007199254740992):
  Calls prog 20 #[.string S,.int .i64 p] w fun e w'=>Fy (4,p) w e w':=by
 have hxl:=(Qf hb).2;obtain⟨hp,hxx⟩:=Zy hb;have hpI:(p:Int)<(S.size:Int):=by omega
 have hpI2:(p:Int)<=(S.size:Int):=by omega
 have HLt:Hid (∀w:World,Calls prog 28 #[.int .u8 x] w fun e w'=>e=.returned (.bool false)/\w'=w):=fun w=>Jc x false hl w hxl
 obtain⟨W,hW⟩:=Kp w;have HW:Hid (W=w.alloc (.cells #[.int .i64 0,.string ⟨#[]⟩,.int .u64 0,.int .u64 0,.int .u64 0,.int .u64 0,.int .i64 0] 63)):=hW;have HB1:Hid (Below w.heap.size w W):=by show Below _ _ _;rw[hW];exact B0q.alloc L0q _
 have HT0:Hid (Tk W w.heap.size 0 {data:=#[]} 0 0 0 0 0):=by show Tk _ _ _ _ _ _ _ _ _;rw[hW];exact Tk.new w 0 {data:=#[]} 0 0 0 0 0
 have HA:Hid (∀w:World,Calls prog 32 #[.string (S.extract p S.size),.string {data:=#[60,45]}] w fun e w'=>e=.returned (.bool false)/\w'=w):=fun w=>ha▸Ov hb w
 have b1:((x:Int) == 39)=false:=by simp;omega
 have b2:((x:Int) == 34)=false:=by simp;omega
 have b3:((x:Int) == 91)=false:=by simp;omega
 obtain⟨i,hi⟩:∃i:Int,i=Lib.indexByte [47,38,33,63,42,43,40,41,46] x.toUInt8:=⟨_,rfl⟩;have HI:Hid (∀w:World,Calls prog 33 #[.string {data:=#[47,38,33,63,42,43,40,41,46]},.int .u8 x] w fun e w'=>e=.returned (.int .i64 i)/\w'=w):=fun w=>by rw[hi];exact Ck {data:=#[47,38,33,63,42,43,40,41,46]} x w
 have hi0:decide (0<=i)=false:=by rw[hi,z0z x hxl,hm]
 have hi1:¬0<=i:=by simpa using hi0
 have HF:Hid (∀w:World,Calls prog 34 #[.string S,.int .i64 p] w fun e w'=>e=.returned (flv w.heap.size)/\Flt w' w.heap.size (4,p)/\Below w.heap.size w w'):=fun w=>by
  have h:=z0y S p w hS (by omega);rw[show flt S p=(4,p) by unfold flt;rw[if_neg (by omega)]]at h;exact h
 clear hb hl hq ha hm hi;go_enter func20,ntmps20
 go_wp2_with fail
 rw[<-hW];clear hW;refine(HLt.out _).mono ?_;rintro e w0 ⟨rfl,rfl⟩
 go_wp2_with fail
 refine(HA.out _).mono ?_;rintro e w1 ⟨rfl,rfl⟩
 go_wp2_with fail
 refine(HI.out _).mono ?_;rintro e w2 ⟨rfl,rfl⟩
 go_wp2_with fail
 refine(HF.out _).mono ?_;rintro e w3 ⟨rfl,hf,hb3⟩;have HF3:Hid (Flt w3 w2.heap.size (4,p)):=hf;have HB3:Hid (Below w.heap.size w w3):=HB1.out.trans (hb3.mono HB1.out.size);have HT2:Hid (Tk w3 w.heap.size 0 {data:=#[]} 0 0 0 0 0):=HT0.out.below hb3 HT0.out.lt;clear hf hb3;obtain⟨c0,c1,c2,c3,c4,c5,c6⟩:=HT2.out.cells;obtain⟨f0,f1,f2,f3,f4,f5,f6⟩:=HT2.out.thaw;unfold flv
 go_wp2_with fail
 obtain⟨r0,r1,r2,r3,r4,r5,r6⟩:=(HT2.out.st7 0 {data:=#[]} 0 0 0 0 0).cells;unfold st7 at r0 r1 r2 r3 r4 r5 r6
 (try simp only[Exit.inBlock,Exit.then])
 refine bodyPost_ret (v:=tk7 0 {data:=#[]} 0 0 0 0 0 0 (flv w2.heap.size)) (by simp[results,Tryz.results20,go_sem,flv,r0,r1,r2,r3,r4,r5,r6]) rfl ?_;exact⟨w2.heap.size,rfl,Kd HB3.out HF3.out HB1.out.size (Nat.ne_of_gt HT0.out.lt)⟩
open Go.Extern.Stop Go.Stop Go.Extern
theorem Tryz.methodKind(h:Value)(w:World):(Go.method 374 148 (.agg #[h]) "Kind").run prog w=.ok (212,h) w:=by kernel_rfl
theorem Tryz.methodElem(h:Value)(w:World):(Go.method 374 148 (.agg #[h]) "Elem").run prog w=.ok (226,.agg #[h]) w:=by kernel_rfl
theorem Tryz.methodImplements(h:Value)(w:World):(Go.method 374 148 (.agg #[h]) "Implements").run prog w=.ok (227,.agg #[h]) w:=by kernel_rfl
theorem Tryz.methodAssignableTo(h:Value)(w:World):(Go.method 374 148 (.agg #[h]) "AssignableTo").run prog w=.ok (224,.agg #[h]) w:=by kernel_rfl
theorem rlm(z:Sem Value)(f:TypeId->Addr->Nat->Nat->Sem Value)(v:Value):
 ReflectliteValue.method z f #[v]=(do match<-ReflectliteValue.parts v with|none=>z|some (t,a,fl)=>f t a fl (fl%32)):=rfl
theorem rls(v x:Value):ReflectliteValue.set #[v,x]=(do
 let(some (dst,a,fl),some (src,b,_)):=(<-ReflectliteValue.parts v,<-ReflectliteValue.parts x)
  |unsupported (.noEntry "extern/(internal/reflectlite.Value).Set.zeroValue")
 if fl/ReflectliteValue.flagAddr%2 == 0 then unsupported (.noEntry "extern/(internal/reflectlite.Value).Set.unaddressable")
 let val<-loadVar src b
 if<-Rtype.directlyAssignable dst src then storeVar dst a val
 else if<-Rtype.implements dst src then
  if(<-Rtype.kind src) == 20 then
   match val with
   | .nilIface=>unsupported (.noEntry "extern/reflectlite: a nil value of one interface type handed on as a value of another")
   |_=>storeVar dst a val
  else storeVar dst a (.iface src val)
 else panicString ("reflectlite.Set: value of type "++(<-Rtype.spelt src)++" is not assignable to type "++(<-Rtype.spelt dst))
 pure (.tuple #[])):=rfl
def Xw(w:World):Prop:=w.cell? ⟨0,0,none⟩=some (.iface 148 (.agg #[.pointer (some ⟨4,37,none⟩)]))
theorem Xw.lt(h:Xw w):0<w.heap.size:=by
 unfold Xw at h;rcases Nat.lt_or_ge 0 w.heap.size with h1|h1
 ·exact h1
 ·simp[World.cell?,Array.getElem?_eq_none h1]at h
theorem Xw.below{w':World}{B:Nat}(h:Xw w)(hb:Below B w w')(hB:0<B):Xw w':=(hb.cell (p:=⟨0,0,none⟩) hB).trans h
theorem Tryz.valueOfPF(t:Addr)(w:World):(ReflectliteValue.unpack (.iface 91 (.pointer (some t)))).run prog w
 =.ok (.agg #[.pointer (some ⟨4,91,none⟩),.pointer (some ⟨w.heap.size,0,none⟩),.int .u64 150]) (w.alloc (.cells #[.pointer (some t)] 91)):=by kernel_rfl
theorem Tryz.typePF(a:Addr)(w:World):(ReflectliteValue.methodAny (ReflectliteValue.valueError "reflectlite.Value.Type" 0) (fun t _ _ _=>ReflectliteType.toType t) #[.agg #[.pointer (some ⟨4,91,none⟩),.pointer (some a),.int .u64 150]]).run prog w
 =.ok (.iface 148 (.agg #[.pointer (some ⟨4,91,none⟩)])) w:=by kernel_rfl
theorem Tryz.kindPF(w:World):((ReflectliteType.abiMethod fun t=>(fun a:Nat=>Value.int IntKind.u8 (a:Int))<$>Rtype.kind t) #[.pointer (some ⟨4,91,none⟩)]).run prog w=.ok (.int .u8 22) w:=by kernel_rfl
theorem Tryz.partsPF(a:Addr)(w:World):(ReflectliteValue.parts (.agg #[.pointer (some ⟨4,91,none⟩),.pointer (some a),.int .u64 150])).run prog w=.ok (some (91,a,150)) w:=by kernel_rfl
theorem Tryz.isNilPF(a p:Addr)(W:World)(ha:W.cell? a=some (.pointer (some p))):
  (ReflectliteValue.method (ReflectliteValue.valueError "reflectlite.Value.IsNil" 0) ReflectliteValue.isNil #[.agg #[.pointer (some ⟨4,91,none⟩),.pointer (some a),.int .u64 150]]).run prog W=.ok (.bool false) W:=by
 rw[rlm];simp only[Sem.run_bind,Tryz.partsPF,Result.andThen];simp[ReflectliteValue.isNil,loadVar,isAgg,underlying,Tryz.underlying91,ha,Result.andThen]
theorem Tryz.elemPF(w:World):(ReflectliteType.method ReflectliteType.elem #[.agg #[.pointer (some ⟨4,91,none⟩)]]).run prog w=.ok (.iface 148 (.agg #[.pointer (some ⟨4,58,none⟩)])) w:=by kernel_rfl
theorem Tryz.kindEF(w:World):((ReflectliteType.abiMethod fun t=>(fun a:Nat=>Value.int IntKind.u8 (a:Int))<$>Rtype.kind t) #[.pointer (some ⟨4,58,none⟩)]).run prog w=.ok (.int .u8 22) w:=by kernel_rfl
theorem Tryz.implementsEF(w:World):(ReflectliteType.relation "Implements" ReflectliteType.implements_ #[.agg #[.pointer (some ⟨4,58,none⟩)],.iface 148 (.agg #[.pointer (some ⟨4,37,none⟩)])]).run prog w=.ok (.bool true) w:=by kernel_rfl
theorem Tryz.typeOfEF(v:Value)(w:World):(ReflectliteType.typeOf #[.iface 58 v]).run prog w=.ok (.iface 148 (.agg #[.pointer (some ⟨4,58,none⟩)])) w:=by kernel_rfl
theorem Tryz.assignableEF(w:World):(ReflectliteType.relation "AssignableTo" ReflectliteType.assignableTo #[.agg #[.pointer (some ⟨4,58,none⟩)],.iface 148 (.agg #[.pointer (some ⟨4,58,none⟩)])]).run prog w=.ok (.bool true) w:=by kernel_rfl
theorem Tryz.valueOfEF(c:Addr)(w:World):(ReflectliteValue.unpack (.iface 58 (.pointer (some c)))).run prog w
 =.ok (.agg #[.pointer (some ⟨4,58,none⟩),.pointer (some ⟨w.heap.size,0,none⟩),.int .u64 150]) (w.alloc (.cells #[.pointer (some c)] 58)):=by kernel_rfl
theorem Tryz.elemOfPF(w:World):(Rtype.elem? 91).run prog w=.ok (some 58) w:=by kernel_rfl
theorem Tryz.mkEF(p:Addr)(w:World):(ReflectliteValue.mk 58 p ReflectliteValue.flagAddr).run prog w=.ok (.agg #[.pointer (some ⟨4,58,none⟩),.pointer (some p),.int .u64 406]) w:=by kernel_rfl
theorem Tryz.elemVF(a p:Addr)(W:World)(ha:W.cell? a=some (.pointer (some p))):
  (ReflectliteValue.method (ReflectliteValue.valueError "reflectlite.Value.Elem" 0) ReflectliteValue.elem #[.agg #[.pointer (some ⟨4,91,none⟩),.pointer (some a),.int .u64 150]]).run prog W
    =.ok (.agg #[.pointer (some ⟨4,58,none⟩),.pointer (some p),.int .u64 406]) W:=by
 rw[rlm];simp only[Sem.run_bind,Tryz.partsPF,Result.andThen];simp[ReflectliteValue.elem,loadVar,isAgg,underlying,Tryz.underlying91,ha,Result.andThen,Tryz.elemOfPF,Tryz.mkEF]
theorem Tryz.partsEaF(a:Addr)(w:World):(ReflectliteValue.parts (.agg #[.pointer (some ⟨4,58,none⟩),.pointer (some a),.int .u64 406])).run prog w=.ok (some (58,a,406)) w:=by kernel_rfl
theorem Tryz.partsEF(a:Addr)(w:World):(ReflectliteValue.parts (.agg #[.pointer (some ⟨4,58,none⟩),.pointer (some a),.int .u64 150])).run prog w=.ok (some (58,a,150)) w:=by kernel_rfl
theorem Tryz.directEF(w:World):(Rtype.directlyAssignable 58 58).run prog w=.ok true w:=by kernel_rfl
theorem Tryz.setEF(ta b:Addr)(c:Addr)(old:Value)(W:World)(hb:W.cell? b=some (.pointer (some c)))(ht:W.cell? ta=some old)(hf:W.frozen? ta=false):
  (ReflectliteValue.set #[.agg #[.pointer (some ⟨4,58,none⟩),.pointer (some ta),.int .u64 406],.agg #[.pointer (some ⟨4,58,none⟩),.pointer (some b),.int .u64 150]]).run prog W
    =.ok (.tuple #[]) (W.setCell ta (.pointer (some c))):=by
 rw[rls];simp only[Sem.run_bind,Tryz.partsEaF,Tryz.partsEF,Result.andThen];simp[ReflectliteValue.flagAddr,loadVar,isAgg,underlying,Tryz.underlying58,hb,Result.andThen,Tryz.directEF,storeVar,Value.cells,storeCells,Addr.add];rw[run_store prog W ta _ _ (by rfl)];simp[ht,hf]
theorem z6N(c t:Addr)(old:Value)(w:World)(hg0:Xw w)(ht0:w.cell? t=some old)(hf0:w.frozen? t=false):
  Calls prog 35 #[.iface 58 (.pointer (some c)),.iface 91 (.pointer (some t))] w fun ev w'=>ev=.returned (.bool true)/\w'=((((w.alloc (.cells #[.pointer (some t)] 91)).alloc (.cells #[.pointer (some ⟨4,91,none⟩),.pointer (some ⟨w.heap.size,0,none⟩),.int .u64 150] 106)).alloc (.cells #[.pointer (some ⟨4,91,none⟩),.pointer (some ⟨w.heap.size,0,none⟩),.int .u64 150] 106)).alloc (.cells #[.pointer (some c)] 58)).setCell t (.pointer (some c)):=by
 have hVO:= @run_callFunc_extern prog 50 _ (fun args=>ReflectliteValue.unpack (args.getD 0 (.tuple #[]))) func50 (by kernel_rfl) (by kernel_rfl) (by kernel_rfl) (by kernel_rfl);have hTy:= @run_callFunc_extern prog 51 _ (ReflectliteValue.methodAny (ReflectliteValue.valueError "reflectlite.Value.Type" 0) (fun t _ _ _=>ReflectliteType.toType t)) func51 (by kernel_rfl) (by kernel_rfl) (by kernel_rfl) (by kernel_rfl);have hNi:= @run_callFunc_extern prog 52 _ (ReflectliteValue.method (ReflectliteValue.valueError "reflectlite.Value.IsNil" 0) ReflectliteValue.isNil) func52 (by kernel_rfl) (by kernel_rfl) (by kernel_rfl) (by kernel_rfl);have hKi:= @run_callFunc_extern prog 212 _ (ReflectliteType.abiMethod fun t=>do pure (.int .u8 (<-Rtype.kind t))) func212 (by kernel_rfl) (by kernel_rfl) (by kernel_rfl) (by kernel_rfl);have hEl:= @run_callFunc_extern prog 226 _ (ReflectliteType.method ReflectliteType.elem) func226 (by kernel_rfl) (by kernel_rfl) (by kernel_rfl) (by kernel_rfl);have hIm:= @run_callFunc_extern prog 227 _ (ReflectliteType.relation "Implements" ReflectliteType.implements_) func227 (by kernel_rfl) (by kernel_rfl) (by kernel_rfl) (by kernel_rfl);have hTO:= @run_callFunc_extern prog 94 _ ReflectliteType.typeOf func94 (by kernel_rfl) (by kernel_rfl) (by kernel_rfl) (by kernel_rfl);have hAs:= @run_callFunc_extern prog 224 _ (ReflectliteType.relation "AssignableTo" ReflectliteType.assignableTo) func224 (by kernel_rfl) (by kernel_rfl) (by kernel_rfl) (by kernel_rfl);have hVE:= @run_callFunc_extern prog 95 _ (ReflectliteValue.method (ReflectliteValue.valueError "reflectlite.Value.Elem" 0) ReflectliteValue.elem) func95 (by kernel_rfl) (by kernel_rfl) (by kernel_rfl) (by kernel_rfl);have hSe:= @run_callFunc_extern prog 96 _ ReflectliteValue.set func96 (by kernel_rfl) (by kernel_rfl) (by kernel_rfl) (by kernel_rfl);have mA:=Tryz.methodAssignableTo;have mK:=Tryz.methodKind;have mE:=Tryz.methodElem;have mI:=Tryz.methodImplements;have vP:=Tryz.valueOfPF;have tP:=Tryz.typePF;have kP:=Tryz.kindPF;have kE:=Tryz.kindEF;have eP:=Tryz.elemPF;have iE:=Tryz.implementsEF;have nP:=Tryz.isNilPF ⟨w.heap.size,0,none⟩ t ((w.alloc (.cells #[.pointer (some t)] 91)).alloc (.cells #[.pointer (some ⟨4,91,none⟩),.pointer (some ⟨w.heap.size,0,none⟩),.int .u64 150] 106)) (by simp);have hlt:=Xw.lt hg0;have hg:w.cell? ⟨0,0,none⟩=some (.iface 148 (.agg #[.pointer (some ⟨4,37,none⟩)])):=hg0;have hg2:((w.alloc (.cells #[.pointer (some t)] 91)).alloc (.cells #[.pointer (some ⟨4,91,none⟩),.pointer (some ⟨w.heap.size,0,none⟩),.int .u64 150] 106)).cell? ⟨0,0,none⟩=some (.iface 148 (.agg #[.pointer (some ⟨4,37,none⟩)])):=by
  rw[World.cell?_alloc_lt _ _ ⟨0,0,none⟩ (by simp<;>omega),World.cell?_alloc_lt _ _ ⟨0,0,none⟩ hlt];exact hg
 have tO:=Tryz.typeOfEF;have aE:=Tryz.assignableEF;have vE:=Tryz.valueOfEF;have htl:t.block<w.heap.size:=by
  rcases Nat.lt_or_ge t.block w.heap.size with h|h
  ·exact h
  ·simp[World.cell?,Array.getElem?_eq_none h]at ht0
 have el:=Tryz.elemVF ⟨w.heap.size,0,none⟩ t (((w.alloc (.cells #[.pointer (some t)] 91)).alloc (.cells #[.pointer (some ⟨4,91,none⟩),.pointer (some ⟨w.heap.size,0,none⟩),.int .u64 150] 106)).alloc (.cells #[.pointer (some ⟨4,91,none⟩),.pointer (some ⟨w.heap.size,0,none⟩),.int .u64 150] 106)) (by rw[World.cell?_alloc_lt _ _ ⟨w.heap.size,0,none⟩ (by simp<;>omega)];simp);have st:=Tryz.setEF t ⟨w.heap.size+1+1+1,0,none⟩ c old ((((w.alloc (.cells #[.pointer (some t)] 91)).alloc (.cells #[.pointer (some ⟨4,91,none⟩),.pointer (some ⟨w.heap.size,0,none⟩),.int .u64 150] 106)).alloc (.cells #[.pointer (some ⟨4,91,none⟩),.pointer (some ⟨w.heap.size,0,none⟩),.int .u64 150] 106)).alloc (.cells #[.pointer (some c)] 58))
  (by rw[World.cell?_alloc_at _ _ _ _ (by simp)];rfl)
  (by rw[World.cell?_alloc_lt _ _ t (by simp<;>omega),World.cell?_alloc_lt _ _ t (by simp<;>omega),World.cell?_alloc_lt _ _ t (by simp<;>omega),World.cell?_alloc_lt _ _ t htl];exact ht0)
  (by rw[World.frozen?_alloc_old _ _ t (by simp<;>omega),World.frozen?_alloc_old _ _ t (by simp<;>omega),World.frozen?_alloc_old _ _ t (by simp<;>omega),World.frozen?_alloc_old _ _ t (Nat.ne_of_lt htl)];exact hf0)
 clear hg0;go_enter func35,ntmps35
 go_wp2
 refine wp_loop_rounds 1 ?_;rw[rounds_succ]
 go_wp2
 go_ret;exact⟨rfl,rfl⟩
theorem Tryz.noAsF(v:Value)(xT:TypeId)(w:World):(Instr.typeAssert (.iface 58 v) xT 153 true).run prog w=.ok (.tuple #[.nilIface,.bool false]) w:=run_typeAssert_lacksB Tryz.underlying153 (by kernel_rfl) (by kernel_rfl) v xT w
theorem Tryz.unwF(v:Value)(xT:TypeId)(w:World):(Instr.typeAssert (.iface 58 v) xT 156 true).run prog w=.ok (.tuple #[.iface 58 v,.bool true]) w:=run_typeAssert_hasB Tryz.underlying156 (by kernel_rfl) v xT w
theorem Tryz.methodUnwF(v:Addr)(w:World):(Go.method 374 58 (.pointer (some v)) "Unwrap").run prog w=.ok (217,.pointer (some v)) w:=by kernel_rfl
theorem Tryz.typeOfPF(v:Value)(w:World):(ReflectliteType.typeOf #[.iface 58 v]).run prog w=.ok (.iface 148 (.agg #[.pointer (some ⟨4,58,none⟩)])) w:=by kernel_rfl
theorem Tryz.typeOfErr(v:Value)(w:World):(ReflectliteType.typeOf #[.iface 54 v]).run prog w=.ok (.iface 148 (.agg #[.pointer (some ⟨4,54,none⟩)])) w:=by kernel_rfl
theorem Tryz.valueOfPC(t:Addr)(w:World):(ReflectliteValue.unpack (.iface 88 (.pointer (some t)))).run prog w
 =.ok (.agg #[.pointer (some ⟨4,88,none⟩),.pointer (some ⟨w.heap.size,0,none⟩),.int .u64 150]) (w.alloc (.cells #[.pointer (some t)] 88)):=by kernel_rfl
theorem Tryz.typePC(a:Addr)(w:World):(ReflectliteValue.methodAny (ReflectliteValue.valueError "reflectlite.Value.Type" 0) (fun t _ _ _=>ReflectliteType.toType t) #[.agg #[.pointer (some ⟨4,88,none⟩),.pointer (some a),.int .u64 150]]).run prog w
 =.ok (.iface 148 (.agg #[.pointer (some ⟨4,88,none⟩)])) w:=by kernel_rfl
theorem Tryz.kindPC(w:World):((ReflectliteType.abiMethod fun t=>(fun a:Nat=>Value.int IntKind.u8 (a:Int))<$>Rtype.kind t) #[.pointer (some ⟨4,88,none⟩)]).run prog w=.ok (.int .u8 22) w:=by kernel_rfl
theorem Tryz.partsPC(a:Addr)(w:World):(ReflectliteValue.parts (.agg #[.pointer (some ⟨4,88,none⟩),.pointer (some a),.int .u64 150])).run prog w=.ok (some (88,a,150)) w:=by kernel_rfl
theorem Tryz.isNilPC(a p:Addr)(W:World)(ha:W.cell? a=some (.pointer (some p))):
  (ReflectliteValue.method (ReflectliteValue.valueError "reflectlite.Value.IsNil" 0) ReflectliteValue.isNil #[.agg #[.pointer (some ⟨4,88,none⟩),.pointer (some a),.int .u64 150]]).run prog W=.ok (.bool false) W:=by
 rw[rlm];simp only[Sem.run_bind,Tryz.partsPC,Result.andThen];simp[ReflectliteValue.isNil,loadVar,isAgg,underlying,Tryz.underlying88,ha,Result.andThen]
theorem Tryz.elemPC(w:World):(ReflectliteType.method ReflectliteType.elem #[.agg #[.pointer (some ⟨4,88,none⟩)]]).run prog w=.ok (.iface 148 (.agg #[.pointer (some ⟨4,86,none⟩)])) w:=by kernel_rfl
theorem Tryz.kindEC(w:World):((ReflectliteType.abiMethod fun t=>(fun a:Nat=>Value.int IntKind.u8 (a:Int))<$>Rtype.kind t) #[.pointer (some ⟨4,86,none⟩)]).run prog w=.ok (.int .u8 22) w:=by kernel_rfl
theorem Tryz.implementsEC(w:World):(ReflectliteType.relation "Implements" ReflectliteType.implements_ #[.agg #[.pointer (some ⟨4,86,none⟩)],.iface 148 (.agg #[.pointer (some ⟨4,37,none⟩)])]).run prog w=.ok (.bool true) w:=by kernel_rfl
theorem Tryz.typeOfEC(v:Value)(w:World):(ReflectliteType.typeOf #[.iface 86 v]).run prog w=.ok (.iface 148 (.agg #[.pointer (some ⟨4,86,none⟩)])) w:=by kernel_rfl
theorem Tryz.assignableEC(w:World):(ReflectliteType.relation "AssignableTo" ReflectliteType.assignableTo #[.agg #[.pointer (some ⟨4,86,none⟩)],.iface 148 (.agg #[.pointer (some ⟨4,86,none⟩)])]).run prog w=.ok (.bool true) w:=by kernel_rfl
theorem Tryz.valueOfEC(c:Addr)(w:World):(ReflectliteValue.unpack (.iface 86 (.pointer (some c)))).run prog w
 =.ok (.agg #[.pointer (some ⟨4,86,none⟩),.pointer (some ⟨w.heap.size,0,none⟩),.int .u64 150]) (w.alloc (.cells #[.pointer (some c)] 86)):=by kernel_rfl
theorem Tryz.elemOfPC(w:World):(Rtype.elem? 88).run prog w=.ok (some 86) w:=by kernel_rfl
theorem Tryz.mkEC(p:Addr)(w:World):(ReflectliteValue.mk 86 p ReflectliteValue.flagAddr).run prog w=.ok (.agg #[.pointer (some ⟨4,86,none⟩),.pointer (some p),.int .u64 406]) w:=by kernel_rfl
theorem Tryz.elemVC(a p:Addr)(W:World)(ha:W.cell? a=some (.pointer (some p))):
  (ReflectliteValue.method (ReflectliteValue.valueError "reflectlite.Value.Elem" 0) ReflectliteValue.elem #[.agg #[.pointer (some ⟨4,88,none⟩),.pointer (some a),.int .u64 150]]).run prog W
    =.ok (.agg #[.pointer (some ⟨4,86,none⟩),.pointer (some p),.int .u64 406]) W:=by
 rw[rlm];simp only[Sem.run_bind,Tryz.partsPC,Result.andThen];simp[ReflectliteValue.elem,loadVar,isAgg,underlying,Tryz.underlying88,ha,Result.andThen,Tryz.elemOfPC,Tryz.mkEC]
theorem Tryz.partsEaC(a:Addr)(w:World):(ReflectliteValue.parts (.agg #[.pointer (some ⟨4,86,none⟩),.pointer (some a),.int .u64 406])).run prog w=.ok (some (86,a,406)) w:=by kernel_rfl
theorem Tryz.partsEC(a:Addr)(w:World):(ReflectliteValue.parts (.agg #[.pointer (some ⟨4,86,none⟩),.pointer (some a),.int .u64 150])).run prog w=.ok (some (86,a,150)) w:=by kernel_rfl
theorem Tryz.directEC(w:World):(Rtype.directlyAssignable 86 86).run prog w=.ok true w:=by kernel_rfl
theorem Tryz.setEC(ta b:Addr)(c:Addr)(old:Value)(W:World)(hb:W.cell? b=some (.pointer (some c)))(ht:W.cell? ta=some old)(hf:W.frozen? ta=false):
  (ReflectliteValue.set #[.agg #[.pointer (some ⟨4,86,none⟩),.pointer (some ta),.int .u64 406],.agg #[.pointer (some ⟨4,86,none⟩),.pointer (some b),.int .u64 150]]).run prog W
    =.ok (.tuple #[]) (W.setCell ta (.pointer (some c))):=by
 rw[rls];simp only[Sem.run_bind,Tryz.partsEaC,Tryz.partsEC,Result.andThen];simp[ReflectliteValue.flagAddr,loadVar,isAgg,underlying,Tryz.underlying86,hb,Result.andThen,Tryz.directEC,storeVar,Value.cells,storeCells,Addr.add];rw[run_store prog W ta _ _ (by rfl)];simp[ht,hf]
theorem z6O(c t:Addr)(old:Value)(w:World)(hg0:Xw w)(ht0:w.cell? t=some old)(hf0:w.frozen? t=false):
  Calls prog 35 #[.iface 86 (.pointer (some c)),.iface 88 (.pointer (some t))] w fun ev w'=>ev=.returned (.bool true)/\w'=((((w.alloc (.cells #[.pointer (some t)] 88)).alloc (.cells #[.pointer (some ⟨4,88,none⟩),.pointer (some ⟨w.heap.size,0,none⟩),.int .u64 150] 106)).alloc (.cells #[.pointer (some ⟨4,88,none⟩),.pointer (some ⟨w.heap.size,0,none⟩),.int .u64 150] 106)).alloc (.cells #[.pointer (some c)] 86)).setCell t (.pointer (some c)):=by
 have hVO:= @run_callFunc_extern prog 50 _ (fun args=>ReflectliteValue.unpack (args.getD 0 (.tuple #[]))) func50 (by kernel_rfl) (by kernel_rfl) (by kernel_rfl) (by kernel_rfl);have hTy:= @run_callFunc_extern prog 51 _ (ReflectliteValue.methodAny (ReflectliteValue.valueError "reflectlite.Value.Type" 0) (fun t _ _ _=>ReflectliteType.toType t)) func51 (by kernel_rfl) (by kernel_rfl) (by kernel_rfl) (by kernel_rfl);have hNi:= @run_callFunc_extern prog 52 _ (ReflectliteValue.method (ReflectliteValue.valueError "reflectlite.Value.IsNil" 0) ReflectliteValue.isNil) func52 (by kernel_rfl) (by kernel_rfl) (by kernel_rfl) (by kernel_rfl);have hKi:= @run_callFunc_extern prog 212 _ (ReflectliteType.abiMethod fun t=>do pure (.int .u8 (<-Rtype.kind t))) func212 (by kernel_rfl) (by kernel_rfl) (by kernel_rfl) (by kernel_rfl);have hEl:= @run_callFunc_extern prog 226 _ (ReflectliteType.method ReflectliteType.elem) func226 (by kernel_rfl) (by kernel_rfl) (by kernel_rfl) (by kernel_rfl);have hIm:= @run_callFunc_extern prog 227 _ (ReflectliteType.relation "Implements" ReflectliteType.implements_) func227 (by kernel_rfl) (by kernel_rfl) (by kernel_rfl) (by kernel_rfl);have hTO:= @run_callFunc_extern prog 94 _ ReflectliteType.typeOf func94 (by kernel_rfl) (by kernel_rfl) (by kernel_rfl) (by kernel_rfl);have hAs:= @run_callFunc_extern prog 224 _ (ReflectliteType.relation "AssignableTo" ReflectliteType.assignableTo) func224 (by kernel_rfl) (by kernel_rfl) (by kernel_rfl) (by kernel_rfl);have hVE:= @run_callFunc_extern prog 95 _ (ReflectliteValue.method (ReflectliteValue.valueError "reflectlite.Value.Elem" 0) ReflectliteValue.elem) func95 (by kernel_rfl) (by kernel_rfl) (by kernel_rfl) (by kernel_rfl);have hSe:= @run_callFunc_extern prog 96 _ ReflectliteValue.set func96 (by kernel_rfl) (by kernel_rfl) (by kernel_rfl) (by kernel_rfl);have mA:=Tryz.methodAssignableTo;have mK:=Tryz.methodKind;have mE:=Tryz.methodElem;have mI:=Tryz.methodImplements;have vP:=Tryz.valueOfPC;have tP:=Tryz.typePC;have kP:=Tryz.kindPC;have kE:=Tryz.kindEC;have eP:=Tryz.elemPC;have iE:=Tryz.implementsEC;have nP:=Tryz.isNilPC ⟨w.heap.size,0,none⟩ t ((w.alloc (.cells #[.pointer (some t)] 88)).alloc (.cells #[.pointer (some ⟨4,88,none⟩),.pointer (some ⟨w.heap.size,0,none⟩),.int .u64 150] 106)) (by simp);have hlt:=Xw.lt hg0;have hg:w.cell? ⟨0,0,none⟩=some (.iface 148 (.agg #[.pointer (some ⟨4,37,none⟩)])):=hg0;have hg2:((w.alloc (.cells #[.pointer (some t)] 88)).alloc (.cells #[.pointer (some ⟨4,88,none⟩),.pointer (some ⟨w.heap.size,0,none⟩),.int .u64 150] 106)).cell? ⟨0,0,none⟩=some (.iface 148 (.agg #[.pointer (some ⟨4,37,none⟩)])):=by
  rw[World.cell?_alloc_lt _ _ ⟨0,0,none⟩ (by simp<;>omega),World.cell?_alloc_lt _ _ ⟨0,0,none⟩ hlt];exact hg
 have tO:=Tryz.typeOfEC;have aE:=Tryz.assignableEC;have vE:=Tryz.valueOfEC;have htl:t.block<w.heap.size:=by
  rcases Nat.lt_or_ge t.block w.heap.size with h|h
  ·exact h
  ·simp[World.cell?,Array.getElem?_eq_none h]at ht0
 have el:=Tryz.elemVC ⟨w.heap.size,0,none⟩ t (((w.alloc (.cells #[.pointer (some t)] 88)).alloc (.cells #[.pointer (some ⟨4,88,none⟩),.pointer (some ⟨w.heap.size,0,none⟩),.int .u64 150] 106)).alloc (.cells #[.pointer (some ⟨4,88,none⟩),.pointer (some ⟨w.heap.size,0,none⟩),.int .u64 150] 106)) (by rw[World.cell?_alloc_lt _ _ ⟨w.heap.size,0,none⟩ (by simp<;>omega)];simp);have st:=Tryz.setEC t ⟨w.heap.size+1+1+1,0,none⟩ c old ((((w.alloc (.cells #[.pointer (some t)] 88)).alloc (.cells #[.pointer (some ⟨4,88,none⟩),.pointer (some ⟨w.heap.size,0,none⟩),.int .u64 150] 106)).alloc (.cells #[.pointer (some ⟨4,88,none⟩),.pointer (some ⟨w.heap.size,0,none⟩),.int .u64 150] 106)).alloc (.cells #[.pointer (some c)] 86))
  (by rw[World.cell?_alloc_at _ _ _ _ (by simp)];rfl)
  (by rw[World.cell?_alloc_lt _ _ t (by simp<;>omega),World.cell?_alloc_lt _ _ t (by simp<;>omega),World.cell?_alloc_lt _ _ t (by simp<;>omega),World.cell?_alloc_lt _ _ t htl];exact ht0)
  (by rw[World.frozen?_alloc_old _ _ t (by simp<;>omega),World.frozen?_alloc_old _ _ t (by simp<;>omega),World.frozen?_alloc_old _ _ t (by simp<;>omega),World.frozen?_alloc_old _ _ t (Nat.ne_of_lt htl)];exact hf0)
 clear hg0;go_enter func35,ntmps35
 go_wp2
 refine wp_loop_rounds 1 ?_;rw[rounds_succ]
 go_wp2
 go_ret;exact⟨rfl,rfl⟩
end Go.Proofs.YtgmcjddjdidpjabGreatDoor
