/- Lemmas for the last text. Conditions: those that each names. -/
import Derived.Test.YtlogolpcipiceaaGreatDoorVX5ToX8
set_option linter.unusedVariables false
set_option maxRecDepth 100000
set_option maxHeartbeats 4000000
namespace Go.Proofs.YtlogolpcipiceaaGreatDoor
open Go.Proofs.Tryz
open Go.RowKit
variable {W w1:World} {p x:Nat}
@[reducible] def tk7 (kd:Int) (T:ByteArray) (c0 c1 c2 c3 q n:Int) (ev:Value):Value:=.tuple #[.agg #[.int .i64 kd,.string T,.int .u64 c0,.int .u64 c1,.int .u64 c2,.int .u64 c3,.int .i64 q],.int .i64 n,ev]
def Nl(A:World->Ending->World->Prop)(W:World)(e:Ending)(w1:World):Prop:=
 ∃(kd:Int) (T:ByteArray) (c0 c1 c2 c3 q n:Int) (ev:Value),e=.returned (tk7 kd T c0 c1 c2 c3 q n ev)/\Hid (Below W.heap.size W w1)/\
  Hid (∀w:World,W=w.alloc (.cells #[.int .i64 0,.string ⟨#[]⟩,.int .u64 0,.int .u64 0,.int .u64 0,.int .u64 0,.int .i64 0] 183)->A w e (st7 w1 w.heap.size kd T c0 c1 c2 c3 q))
theorem Mz{w:World}{o:Obj}(hW:W=w.alloc o)(h:Below W.heap.size W w1):Below w.heap.size w w1:=by
 have hb:Below w.heap.size w W:=by rw[hW];exact B0q.alloc L0q _
 exact hb.trans (h.mono hb.size)
theorem z0G{w:World}{o:Obj}(hW:W=w.alloc o):W.heap.size=w.heap.size+1:=by rw[hW];simp
theorem Gm.goes{c:Nat×Nat}{e:Ending}(h:Gm c W e w1):Nl (Gm c) W e w1:=by
 obtain⟨f,rfl,HP⟩:=h;refine⟨_,_,_,_,_,_,_,_,_,rfl,hid HP.out.2.2,hid fun w hW=>⟨f,rfl,?_⟩⟩;have hs:=z0G hW;have h1:=HP.out.1;exact Kx (Mz hW HP.out.2.2) HP.out.2.1 (by omega) (by omega)
theorem Kj.goes{c:Nat×Nat}{e:Ending}(h:Kj p c W e w1):Nl (Kj p c) W e w1:=by
 obtain⟨g,f,rfl,HP⟩:=h;obtain⟨h1,h2,h3,h4⟩:=HP.out;refine⟨_,_,_,_,_,_,_,_,_,rfl,hid h4,hid fun w hW=>⟨g,f,rfl,?_⟩⟩;have hs:=z0G hW;exact⟨by omega,by omega,h3.st7 (by omega) (by omega) _ _ _ _ _ _ _,Below.st7 (Mz hW h4) L0q _ _ _ _ _ _ _⟩
theorem Gw.goes{S:ByteArray}{p:Nat}{W w1:World}{e:Ending}(h:Gw S p W e w1):Nl (Gw S p) W e w1:=by
 unfold Gw at*;by_cases hl:32<ne S p-p
 ·simp only[if_pos hl]at*;exact h.goes
 ·simp only[if_neg hl]at*
  obtain⟨rfl,hb⟩:=h;exact⟨_,_,_,_,_,_,_,_,_,rfl,hid hb,hid fun w hW=>⟨rfl,Below.st7 (Mz hW hb) L0q _ _ _ _ _ _ _⟩⟩
theorem Fl.goes{r:Ls}{p:Nat}{W w1:World}{e:Ending}(h:Fl r p W e w1):Nl (Fl r p) W e w1:=by
 cases r with
 |inl c=>exact Gm.goes h
 |inr l=>
  obtain⟨rfl,hb⟩:=h;exact⟨_,_,_,_,_,_,_,_,_,rfl,hid hb,hid fun w hW=>⟨rfl,Below.st7 (Mz hW hb) L0q _ _ _ _ _ _ _⟩⟩
theorem Jf.goes{r:Rs}{p:Nat}{W w1:World}{e:Ending}(h:Jf r p W e w1):Nl (Jf r p) W e w1:=by
 cases r with
 |inl c=>exact Kj.goes h
 |inr l=>
  obtain⟨rfl,hb⟩:=h;exact⟨_,_,_,_,_,_,_,_,_,rfl,hid hb,hid fun w hW=>⟨rfl,Below.st7 (Mz hW hb) L0q _ _ _ _ _ _ _⟩⟩
theorem Kk(w:World):∃W,W=w.alloc (.cells #[.int .i64 0,.string ⟨#[]⟩,.int .u64 0,.int .u64 0,.int .u64 0,.int .u64 0,.int .i64 0] 183):=⟨_,rfl⟩
theorem z6z(S:ByteArray)(p x:Nat)(w:World)(hb:bt S p=some x)(hl:Zq x=true)(hS:S.size<=9007199254740992):
  Calls prog 96 #[.string S,.int .i64 p] w fun e w'=>Gw S p w e w':=by
 have hxl:=(Qv hb).2;obtain⟨hp,hxx⟩:=Zy hb;have hpI:(p:Int)<(S.size:Int):=by omega
 have hpI2:(p:Int)<=(S.size:Int):=by omega
 have HLt:Hid (∀w:World,Calls prog 124 #[.int .u8 x] w fun e w'=>e=.returned (.bool true)/\w'=w):=fun w=>Jw x true hl w hxl
 obtain⟨W,hW⟩:=Kk w;have HW:Hid (W=w.alloc (.cells #[.int .i64 0,.string ⟨#[]⟩,.int .u64 0,.int .u64 0,.int .u64 0,.int .u64 0,.int .i64 0] 183)):=hW;have HB1:Hid (Below w.heap.size w W):=by show Below _ _ _;rw[hW];exact B0q.alloc L0q _
 have HT0:Hid (Tk W w.heap.size 0 {data:=#[]} 0 0 0 0 0):=by show Tk _ _ _ _ _ _ _ _ _;rw[hW];exact Tk.new w 0 {data:=#[]} 0 0 0 0 0
 have HC:Hid (∀w:World,Calls prog 125 #[.string S,.int .i64 p] w fun e w'=>Gw S p w e w'):=fun w=>z6x S p w (by omega) hS
 clear hb hl;go_enter func96,ntmps96
 go_wp2_with fail
 rw[<-hW];clear hW;refine(HLt.out _).mono ?_;rintro e w0 ⟨rfl,rfl⟩
 go_wp2_with fail
 refine(HC.out _).mono ?_;intro e w1 h;obtain⟨kd,T,c0',c1',c2',c3',q',n',ev,rfl,HB2,HP⟩:=h.goes;clear h;have HT2:Hid (Tk w1 w.heap.size 0 {data:=#[]} 0 0 0 0 0):=HT0.out.below HB2.out HT0.out.lt;obtain⟨c0,c1,c2,c3,c4,c5,c6⟩:=HT2.out.cells;obtain⟨f0,f1,f2,f3,f4,f5,f6⟩:=HT2.out.thaw
 go_wp2_with fail
 obtain⟨r0,r1,r2,r3,r4,r5,r6⟩:=(HT2.out.st7 kd T c0' c1' c2' c3' q').cells;unfold st7 at r0 r1 r2 r3 r4 r5 r6
 (try simp only[Exit.inBlock,Exit.then])
 refine bodyPost_ret (v:=tk7 kd T c0' c1' c2' c3' q' n' ev) (by simp[results,Tryz.results96,go_sem,r0,r1,r2,r3,r4,r5,r6]) rfl ?_;exact HP.out w HW.out
theorem z6A(S:ByteArray)(p x:Nat)(w:World)(hb:bt S p=some x)(hq:x=39∨x=34)(hS:S.size<=9007199254740992):
  Calls prog 96 #[.string S,.int .i64 p] w fun e w'=>Fl (ll S x p (p+1) []) p w e w':=by
 have hxl:=(Qv hb).2;obtain⟨hp,hxx⟩:=Zy hb;have hpI:(p:Int)<(S.size:Int):=by omega
 have hpI2:(p:Int)<=(S.size:Int):=by omega
 have hl:Zq x=false:=by rcases hq with rfl|rfl<;>rfl
 have HLt:Hid (∀w:World,Calls prog 124 #[.int .u8 x] w fun e w'=>e=.returned (.bool false)/\w'=w):=fun w=>Jw x false hl w hxl
 obtain⟨W,hW⟩:=Kk w;have HW:Hid (W=w.alloc (.cells #[.int .i64 0,.string ⟨#[]⟩,.int .u64 0,.int .u64 0,.int .u64 0,.int .u64 0,.int .i64 0] 183)):=hW;have HB1:Hid (Below w.heap.size w W):=by show Below _ _ _;rw[hW];exact B0q.alloc L0q _
 have HT0:Hid (Tk W w.heap.size 0 {data:=#[]} 0 0 0 0 0):=by show Tk _ _ _ _ _ _ _ _ _;rw[hW];exact Tk.new w 0 {data:=#[]} 0 0 0 0 0
 have HC:Hid (∀w:World,Calls prog 126 #[.string S,.int .i64 p] w fun e w'=>Fl (ll S x p (p+1) []) p w e w'):=fun w=>z6p S x p w hb hS
 obtain⟨r,hr⟩:∃r,r=ll S x p (p+1) []:=⟨_,rfl⟩;rw[<-hr]at HC ⊢;clear hb hr hl;rcases hq with rfl|rfl
 ·go_enter func96,ntmps96
  go_wp2_with fail
  rw[<-hW];clear hW;refine(HLt.out _).mono ?_;rintro e w0 ⟨rfl,rfl⟩
  go_wp2_with fail
  refine(HC.out _).mono ?_;intro e w1 h;obtain⟨kd,T,c0',c1',c2',c3',q',n',ev,rfl,HB2,HP⟩:=h.goes;clear h;have HT2:Hid (Tk w1 w.heap.size 0 {data:=#[]} 0 0 0 0 0):=HT0.out.below HB2.out HT0.out.lt;obtain⟨c0,c1,c2,c3,c4,c5,c6⟩:=HT2.out.cells;obtain⟨f0,f1,f2,f3,f4,f5,f6⟩:=HT2.out.thaw
  go_wp2_with fail
  obtain⟨r0,r1,r2,r3,r4,r5,r6⟩:=(HT2.out.st7 kd T c0' c1' c2' c3' q').cells;unfold st7 at r0 r1 r2 r3 r4 r5 r6
  (try simp only[Exit.inBlock,Exit.then])
  refine bodyPost_ret (v:=tk7 kd T c0' c1' c2' c3' q' n' ev) (by simp[results,Tryz.results96,go_sem,r0,r1,r2,r3,r4,r5,r6]) rfl ?_;exact HP.out w HW.out
 ·go_enter func96,ntmps96
  go_wp2_with fail
  rw[<-hW];clear hW;refine(HLt.out _).mono ?_;rintro e w0 ⟨rfl,rfl⟩
  go_wp2_with fail
  refine(HC.out _).mono ?_;intro e w1 h;obtain⟨kd,T,c0',c1',c2',c3',q',n',ev,rfl,HB2,HP⟩:=h.goes;clear h;have HT2:Hid (Tk w1 w.heap.size 0 {data:=#[]} 0 0 0 0 0):=HT0.out.below HB2.out HT0.out.lt;obtain⟨c0,c1,c2,c3,c4,c5,c6⟩:=HT2.out.cells;obtain⟨f0,f1,f2,f3,f4,f5,f6⟩:=HT2.out.thaw
  go_wp2_with fail
  obtain⟨r0,r1,r2,r3,r4,r5,r6⟩:=(HT2.out.st7 kd T c0' c1' c2' c3' q').cells;unfold st7 at r0 r1 r2 r3 r4 r5 r6
  (try simp only[Exit.inBlock,Exit.then])
  refine bodyPost_ret (v:=tk7 kd T c0' c1' c2' c3' q' n' ev) (by simp[results,Tryz.results96,go_sem,r0,r1,r2,r3,r4,r5,r6]) rfl ?_;exact HP.out w HW.out
theorem z6B(S:ByteArray)(p x:Nat)(w:World)(hb:bt S p=some x)(hq:x=91)(hS:S.size<=9007199254740992):
  Calls prog 96 #[.string S,.int .i64 p] w fun e w'=>Jf (Yz (S.extract p S.size)) p w e w':=by
 have hxl:=(Qv hb).2;obtain⟨hp,hxx⟩:=Zy hb;have hpI:(p:Int)<(S.size:Int):=by omega
 have hpI2:(p:Int)<=(S.size:Int):=by omega
 have HLt:Hid (∀w:World,Calls prog 124 #[.int .u8 x] w fun e w'=>e=.returned (.bool false)/\w'=w):=fun w=>Jw x false (by rw[hq];rfl) w hxl
 obtain⟨W,hW⟩:=Kk w;have HW:Hid (W=w.alloc (.cells #[.int .i64 0,.string ⟨#[]⟩,.int .u64 0,.int .u64 0,.int .u64 0,.int .u64 0,.int .i64 0] 183)):=hW;have HB1:Hid (Below w.heap.size w W):=by show Below _ _ _;rw[hW];exact B0q.alloc L0q _
 have HT0:Hid (Tk W w.heap.size 0 {data:=#[]} 0 0 0 0 0):=by show Tk _ _ _ _ _ _ _ _ _;rw[hW];exact Tk.new w 0 {data:=#[]} 0 0 0 0 0
 have HC:Hid (∀w:World,Calls prog 127 #[.string S,.int .i64 p] w fun e w'=>Jf (Yz (S.extract p S.size)) p w e w'):=fun w=>z6y S p w (by omega) hS
 obtain⟨r,hr⟩:∃r,r=Yz (S.extract p S.size):=⟨_,rfl⟩;rw[<-hr]at HC ⊢;clear hb hr;subst hq;go_enter func96,ntmps96
 go_wp2_with fail
 rw[<-hW];clear hW;refine(HLt.out _).mono ?_;rintro e w0 ⟨rfl,rfl⟩
 go_wp2_with fail
 refine(HC.out _).mono ?_;intro e w1 h;obtain⟨kd,T,c0',c1',c2',c3',q',n',ev,rfl,HB2,HP⟩:=h.goes;clear h;have HT2:Hid (Tk w1 w.heap.size 0 {data:=#[]} 0 0 0 0 0):=HT0.out.below HB2.out HT0.out.lt;obtain⟨c0,c1,c2,c3,c4,c5,c6⟩:=HT2.out.cells;obtain⟨f0,f1,f2,f3,f4,f5,f6⟩:=HT2.out.thaw
 go_wp2_with fail
 obtain⟨r0,r1,r2,r3,r4,r5,r6⟩:=(HT2.out.st7 kd T c0' c1' c2' c3' q').cells;unfold st7 at r0 r1 r2 r3 r4 r5 r6
 (try simp only[Exit.inBlock,Exit.then])
 refine bodyPost_ret (v:=tk7 kd T c0' c1' c2' c3' q' n' ev) (by simp[results,Tryz.results96,go_sem,r0,r1,r2,r3,r4,r5,r6]) rfl ?_;exact HP.out w HW.out
def arB(S:ByteArray)(p:Nat):Bool:=bt S p == some 60&&bt S (p+1) == some 45
theorem z0H{b:UInt8}{k:Nat}(hb:b.toNat=x)(hk:k<256):(UInt8.ofNat k == b)=(x == k):=by
 by_cases h:x=k
 ·have h2:UInt8.ofNat k=b:=by apply UInt8.toNat.inj;rw[hb,h,UInt8.toNat_ofNat'];omega
  rw[h2,h];simp
 ·have h2:UInt8.ofNat k≠b:=fun e=>h (by rw[<-hb,<-e,UInt8.toNat_ofNat'];omega)
  rw[beq_eq_false_iff_ne.2 h2,beq_eq_false_iff_ne.2 h]
theorem z6C{S:ByteArray}(h:bt S p=some x):Lib.hasPrefix (S.data.toList.drop p) [60,45]=arB S p:=by
 obtain⟨b,hd,hbx⟩:=Lg h;unfold Lib.hasPrefix arB;rw[hd,h,List.isPrefixOf];have e1:((60:UInt8) == b)=(x == 60):=z0H hbx (by decide);rw[e1];congr 1;cases hb:bt S (p+1)with
 |none=>
  have:=Zl hb;rw[List.drop_eq_nil_of_le (by rw[Array.length_toList];exact this)];rfl
 |some y=>
  obtain⟨b2,hd2,hb2⟩:=Lg hb;rw[hd2,List.isPrefixOf];have e2:((45:UInt8) == b2)=(y == 45):=z0H hb2 (by decide);rw[e2,List.isPrefixOf];simp
theorem Lc{S:ByteArray}(h:bt S p=some x)(w:World):Calls prog 128 #[.string (S.extract p S.size),.string {data:=#[60,45]}] w fun e w'=>e=.returned (.bool (arB S p))/\w'=w:=by
 have h2:=z6w (S.extract p S.size) {data:=#[60,45]} w;rw[z0F S p (by have:=(Qv h).1;omega),show({data:=#[60,45]}:ByteArray).data.toList=[60,45]from rfl,z6C h]at h2;exact h2
theorem z6D(w:World)(b:Nat)(hb:b<256):(convert 48 9 (.slice (some ⟨w.heap.size,0,none⟩) 1 1)).run prog (w.alloc (.cells #[.int .u8 b] 5))=.ok (.string (nb [b])) (w.alloc (.cells #[.int .u8 b] 5)):=
 Bc (base:=w.heap.size) (l:=[b]) ⟨rfl,.inr ⟨w.heap.size,1,#[.int .u8 b],rfl,Nat.le_refl _,Qx _ _ rfl,Nat.le_refl _,by unfold maxLen;omega,rfl,rfl⟩⟩ (fun x hx=>by simp at hx;omega)
theorem z6E(S:ByteArray)(p x:Nat)(w:World)(hb:bt S p=some x)(ha:arB S p=true)(hx:x=60)(hS:S.size<=9007199254740992):
  Calls prog 96 #[.string S,.int .i64 p] w fun e w'=>(fun w e w'=>e=.returned (tk7 2 {data:=#[]} 0 0 0 0 (p:Int) ((p:Int)+2) .nilIface)/\Below w.heap.size w w') w e w':=by
 have hxl:=(Qv hb).2;obtain⟨hp,hxx⟩:=Zy hb;have hpI:(p:Int)<(S.size:Int):=by omega
 have hpI2:(p:Int)<=(S.size:Int):=by omega
 have HLt:Hid (∀w:World,Calls prog 124 #[.int .u8 x] w fun e w'=>e=.returned (.bool false)/\w'=w):=fun w=>Jw x false (by rw[hx];rfl) w hxl
 obtain⟨W,hW⟩:=Kk w;have HW:Hid (W=w.alloc (.cells #[.int .i64 0,.string ⟨#[]⟩,.int .u64 0,.int .u64 0,.int .u64 0,.int .u64 0,.int .i64 0] 183)):=hW;have HB1:Hid (Below w.heap.size w W):=by show Below _ _ _;rw[hW];exact B0q.alloc L0q _
 have HT0:Hid (Tk W w.heap.size 0 {data:=#[]} 0 0 0 0 0):=by show Tk _ _ _ _ _ _ _ _ _;rw[hW];exact Tk.new w 0 {data:=#[]} 0 0 0 0 0
 have HA:Hid (∀w:World,Calls prog 128 #[.string (S.extract p S.size),.string {data:=#[60,45]}] w fun e w'=>e=.returned (.bool true)/\w'=w):=fun w=>ha▸Lc hb w
 clear hb ha;subst hx;go_enter func96,ntmps96
 go_wp2_with fail
 rw[<-hW];clear hW;refine(HLt.out _).mono ?_;rintro e w0 ⟨rfl,rfl⟩
 go_wp2_with fail
 refine(HA.out _).mono ?_;rintro e w1 ⟨rfl,rfl⟩;obtain⟨c0,c1,c2,c3,c4,c5,c6⟩:=HT0.out.cells;obtain⟨f0,f1,f2,f3,f4,f5,f6⟩:=HT0.out.thaw
 go_wp2_with fail
 obtain⟨r0,r1,r2,r3,r4,r5,r6⟩:=(HT0.out.st7 2 {data:=#[]} 0 0 0 0 (p:Int)).cells;unfold st7 at r0 r1 r2 r3 r4 r5 r6
 (try simp only[Exit.inBlock,Exit.then])
 refine bodyPost_ret (v:=tk7 2 {data:=#[]} 0 0 0 0 (p:Int) ((p:Int)+2) .nilIface) (by simp[results,Tryz.results96,go_sem,r0,r1,r2,r3,r4,r5,r6]) rfl ?_;exact⟨rfl,Below.st7 HB1.out L0q _ _ _ _ _ _ _⟩
theorem z6F(S:ByteArray)(p x:Nat)(w:World)(hb:bt S p=some x)(hl:Zq x=false)(hq:x≠39/\x≠34/\x≠91)(ha:arB S p=false)(hm:mkB x=true)(hS:S.size<=9007199254740992):
  Calls prog 96 #[.string S,.int .i64 p] w fun e w'=>(fun w e w'=>e=.returned (tk7 5 (nb [x]) 0 0 0 0 (p:Int) ((p:Int)+1) .nilIface)/\Below w.heap.size w w') w e w':=by
 have hxl:=(Qv hb).2;obtain⟨hp,hxx⟩:=Zy hb;have hpI:(p:Int)<(S.size:Int):=by omega
 have hpI2:(p:Int)<=(S.size:Int):=by omega
 have HLt:Hid (∀w:World,Calls prog 124 #[.int .u8 x] w fun e w'=>e=.returned (.bool false)/\w'=w):=fun w=>Jw x false hl w hxl
 obtain⟨W,hW⟩:=Kk w;have HW:Hid (W=w.alloc (.cells #[.int .i64 0,.string ⟨#[]⟩,.int .u64 0,.int .u64 0,.int .u64 0,.int .u64 0,.int .i64 0] 183)):=hW;have HB1:Hid (Below w.heap.size w W):=by show Below _ _ _;rw[hW];exact B0q.alloc L0q _
 have HT0:Hid (Tk W w.heap.size 0 {data:=#[]} 0 0 0 0 0):=by show Tk _ _ _ _ _ _ _ _ _;rw[hW];exact Tk.new w 0 {data:=#[]} 0 0 0 0 0
 have HA:Hid (∀w:World,Calls prog 128 #[.string (S.extract p S.size),.string {data:=#[60,45]}] w fun e w'=>e=.returned (.bool false)/\w'=w):=fun w=>ha▸Lc hb w
 have b1:((x:Int) == 39)=false:=by simp;omega
 have b2:((x:Int) == 34)=false:=by simp;omega
 have b3:((x:Int) == 91)=false:=by simp;omega
 obtain⟨i,hi⟩:∃i:Int,i=Lib.indexByte [47,38,33,63,42,43,40,41,46] x.toUInt8:=⟨_,rfl⟩;have HI:Hid (∀w:World,Calls prog 129 #[.string {data:=#[47,38,33,63,42,43,40,41,46]},.int .u8 x] w fun e w'=>e=.returned (.int .i64 i)/\w'=w):=fun w=>by rw[hi];exact Bm {data:=#[47,38,33,63,42,43,40,41,46]} x w
 have hi0:decide (0<=i)=true:=by rw[hi,z0u x hxl,hm]
 have hi1:0<=i:=by simpa using hi0
 have cvn:=fun w=>z6D w x hxl
 obtain⟨TT,hTT⟩:∃TT,TT=nb [x]:=⟨_,rfl⟩;rw[<-hTT]at cvn ⊢;clear hb hl hq ha hm hi hTT;go_enter func96,ntmps96
 go_wp2_with fail
 rw[<-hW];clear hW;refine(HLt.out _).mono ?_;rintro e w0 ⟨rfl,rfl⟩
 go_wp2_with fail
 refine(HA.out _).mono ?_;rintro e w1 ⟨rfl,rfl⟩
 go_wp2_with fail
 refine(HI.out _).mono ?_;rintro e w2 ⟨rfl,rfl⟩;have HT2:Hid (Tk (w2.alloc (.cells #[.int .u8 x] 5)) w.heap.size 0 {data:=#[]} 0 0 0 0 0):=HT0.out.alloc _;obtain⟨c0,c1,c2,c3,c4,c5,c6⟩:=HT2.out.cells;obtain⟨f0,f1,f2,f3,f4,f5,f6⟩:=HT2.out.thaw
 go_wp2_with fail
 obtain⟨r0,r1,r2,r3,r4,r5,r6⟩:=(HT2.out.st7 5 TT 0 0 0 0 (p:Int)).cells;unfold st7 at r0 r1 r2 r3 r4 r5 r6
 (try simp only[Exit.inBlock,Exit.then])
 refine bodyPost_ret (v:=tk7 5 TT 0 0 0 0 (p:Int) ((p:Int)+1) .nilIface) (by simp[results,Tryz.results96,go_sem,r0,r1,r2,r3,r4,r5,r6]) rfl ?_;exact⟨rfl,Below.st7 (HB1.out.alloc HB1.out.size _) L0q _ _ _ _ _ _ _⟩
theorem z6G(S:ByteArray)(p x:Nat)(w:World)(hb:bt S p=some x)(hl:Zq x=false)(hq:x≠39/\x≠34/\x≠91)(ha:arB S p=false)(hm:mkB x=false)(hS:S.size<=9007199254740992):
  Calls prog 96 #[.string S,.int .i64 p] w fun e w'=>Gm (4,p) w e w':=by
 have hxl:=(Qv hb).2;obtain⟨hp,hxx⟩:=Zy hb;have hpI:(p:Int)<(S.size:Int):=by omega
 have hpI2:(p:Int)<=(S.size:Int):=by omega
 have HLt:Hid (∀w:World,Calls prog 124 #[.int .u8 x] w fun e w'=>e=.returned (.bool false)/\w'=w):=fun w=>Jw x false hl w hxl
 obtain⟨W,hW⟩:=Kk w;have HW:Hid (W=w.alloc (.cells #[.int .i64 0,.string ⟨#[]⟩,.int .u64 0,.int .u64 0,.int .u64 0,.int .u64 0,.int .i64 0] 183)):=hW;have HB1:Hid (Below w.heap.size w W):=by show Below _ _ _;rw[hW];exact B0q.alloc L0q _
 have HT0:Hid (Tk W w.heap.size 0 {data:=#[]} 0 0 0 0 0):=by show Tk _ _ _ _ _ _ _ _ _;rw[hW];exact Tk.new w 0 {data:=#[]} 0 0 0 0 0
 have HA:Hid (∀w:World,Calls prog 128 #[.string (S.extract p S.size),.string {data:=#[60,45]}] w fun e w'=>e=.returned (.bool false)/\w'=w):=fun w=>ha▸Lc hb w
 have b1:((x:Int) == 39)=false:=by simp;omega
 have b2:((x:Int) == 34)=false:=by simp;omega
 have b3:((x:Int) == 91)=false:=by simp;omega
 obtain⟨i,hi⟩:∃i:Int,i=Lib.indexByte [47,38,33,63,42,43,40,41,46] x.toUInt8:=⟨_,rfl⟩;have HI:Hid (∀w:World,Calls prog 129 #[.string {data:=#[47,38,33,63,42,43,40,41,46]},.int .u8 x] w fun e w'=>e=.returned (.int .i64 i)/\w'=w):=fun w=>by rw[hi];exact Bm {data:=#[47,38,33,63,42,43,40,41,46]} x w
 have hi0:decide (0<=i)=false:=by rw[hi,z0u x hxl,hm]
 have hi1:¬0<=i:=by simpa using hi0
 have HF:Hid (∀w:World,Calls prog 130 #[.string S,.int .i64 p] w fun e w'=>e=.returned (flv w.heap.size)/\Flt w' w.heap.size (4,p)/\Below w.heap.size w w'):=fun w=>by
  have h:=z0t S p w hS (by omega);rw[show flt S p=(4,p) by unfold flt;rw[if_neg (by omega)]]at h;exact h
 clear hb hl hq ha hm hi;go_enter func96,ntmps96
 go_wp2_with fail
 rw[<-hW];clear hW;refine(HLt.out _).mono ?_;rintro e w0 ⟨rfl,rfl⟩
 go_wp2_with fail
 refine(HA.out _).mono ?_;rintro e w1 ⟨rfl,rfl⟩
 go_wp2_with fail
 refine(HI.out _).mono ?_;rintro e w2 ⟨rfl,rfl⟩
 go_wp2_with fail
 refine(HF.out _).mono ?_;rintro e w3 ⟨rfl,hf,hb3⟩;have HF3:Hid (Flt w3 w2.heap.size (4,p)):=hf;have HB3:Hid (Below w.heap.size w w3):=HB1.out.trans (hb3.mono HB1.out.size);have HT2:Hid (Tk w3 w.heap.size 0 {data:=#[]} 0 0 0 0 0):=HT0.out.below hb3 HT0.out.lt;clear hf hb3;obtain⟨c0,c1,c2,c3,c4,c5,c6⟩:=HT2.out.cells;obtain⟨f0,f1,f2,f3,f4,f5,f6⟩:=HT2.out.thaw;unfold flv
 go_wp2_with fail
 obtain⟨r0,r1,r2,r3,r4,r5,r6⟩:=(HT2.out.st7 0 {data:=#[]} 0 0 0 0 0).cells;unfold st7 at r0 r1 r2 r3 r4 r5 r6
 (try simp only[Exit.inBlock,Exit.then])
 refine bodyPost_ret (v:=tk7 0 {data:=#[]} 0 0 0 0 0 0 (flv w2.heap.size)) (by simp[results,Tryz.results96,go_sem,flv,r0,r1,r2,r3,r4,r5,r6]) rfl ?_;exact⟨w2.heap.size,rfl,Kx HB3.out HF3.out HB1.out.size (Nat.ne_of_gt HT0.out.lt)⟩
end Go.Proofs.YtlogolpcipiceaaGreatDoor
