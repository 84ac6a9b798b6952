/- Lemmas for the last text. Conditions: those that each names. -/
import Derived.Test.YtgmcjddjdidpjaaGreatDoorVX3ToX6
import Derived.Shelf.Lay
import Derived.Shelf.Strconv.Clone
import Derived.Shelf.Strings.Prefix
set_option linter.unusedVariables false
set_option maxRecDepth 100000
set_option maxHeartbeats 4000000
namespace Go.Proofs.YtgmcjddjdidpjaaGreatDoor
open Go.Proofs.Tryz
end Go.Proofs.YtgmcjddjdidpjaaGreatDoor
namespace Go.Proofs
open Go.Shelf
shelf_lay LaysM.n316 Nm 316 at Tryz as Tryz.laysM316
shelf_lay Lays.n206 Nm 206 at Tryz as Tryz.lays206
end Go.Proofs
namespace Go.Proofs.YtgmcjddjdidpjaaGreatDoor
open Go.Proofs.Tryz
open Go.RowKit
variable {W w w1:World} {c:Nat×Nat}
theorem z7y(T:ByteArray)(w:World)(hS:T.size<=281474976710656):
 Calls prog 186 #[.string T] w fun e w'=>e=.returned (.string T)/\Below w.heap.size w w':=Any.stringslite_Clone Tryz.laysM316 T w hS
theorem z7z(s p:ByteArray)(w:World):
 Calls prog 150 #[.string s,.string p] w fun e w'=>e=.returned (.bool (Lib.hasPrefix s.data.toList p.data.toList))/\w'=w:=Any.stringslite_HasPrefix Tryz.lays206 s p w
theorem z7A(T:ByteArray)(w:World)(hS:T.size<=281474976710656):
  Calls prog 147 #[.string T] w fun e w'=>e=.returned (.string T)/\Below w.heap.size w w':=by
 go_enter func147,ntmps147
 go_wp2_with fail
 refine(z7y T _ hS).mono ?_;rintro e w1 ⟨rfl,hb⟩;have HB:Hid (Below w.heap.size w w1):=hb;clear hb
 go_wp2_with fail
 go_ret;exact⟨rfl,HB.out⟩
theorem z1r(s p:ByteArray)(w:World):
  Calls prog 102 #[.string s,.string p] w fun e w'=>e=.returned (.bool (Lib.hasPrefix s.data.toList p.data.toList))/\w'=w:=by
 go_enter func102,ntmps102
 go_wp2_with fail
 refine(z7z s p _).mono ?_;rintro e w1 ⟨rfl,rfl⟩
 go_wp2_with fail
 go_ret;exact⟨rfl,rfl⟩
def Fc(S:ByteArray)(p:Nat)(w:World)(e:Ending)(w':World):Prop:=
 if 32<ne S p-p then Mx (2,p) w e w' else
  e=.returned (.tuple #[.agg #[.int .i64 1,.string (S.extract p (ne S p)),.int .u64 0,.int .u64 0,.int .u64 0,.int .u64 0,.int .i64 p],.int .i64 (ne S p:Int),.nilIface])/\Below w.heap.size w w'
theorem Mj(w:World):∃W,W=w.alloc (.cells #[.int .i64 0,.string ⟨#[]⟩,.int .u64 0,.int .u64 0,.int .u64 0,.int .u64 0,.int .i64 0] 145):=⟨_,rfl⟩
theorem z7B(S:ByteArray)(p:Nat)(w:World)(hp:p<=S.size)(hS:S.size<=9007199254740992):
  Calls prog 99 #[.string S,.int .i64 p] w fun e w'=>Fc S p w e w':=by
 unfold Fc;have hle:=Hw hp;have HE:Hid (∀w:World,Calls prog 146 #[.string S,.int .i64 p] w fun e w'=>e=.returned (.int .i64 (ne S p:Int))/\w'=w):=fun w=>z1n S p w hp hS
 obtain⟨N,hN⟩:∃N,N=ne S p:=⟨_,rfl⟩;rw[<-hN]at HE hle ⊢;clear hN;obtain⟨hpN,hNS⟩:=hle;have HT0:Hid (Tk (w.alloc (.cells #[.int .i64 0,.string ⟨#[]⟩,.int .u64 0,.int .u64 0,.int .u64 0,.int .u64 0,.int .i64 0] 145)) w.heap.size 0 {data:=#[]} 0 0 0 0 0):=Tk.new w 0 {data:=#[]} 0 0 0 0 0;by_cases hl:32<N-p
 ·simp only[if_pos hl]
  have a0:decide ((32:Int)<(N:Int)-(p:Int))=true:=by simp;omega
  obtain⟨W,hW⟩:=Mj w;have HB1:Hid (Below w.heap.size w W):=by show Below _ _ _;rw[hW];exact B0q.alloc L0q _
  rw[<-hW]at HT0;go_enter func99,ntmps99
  go_wp2_with fail
  rw[<-hW];clear hW;refine(HE.out _).mono ?_;rintro e w1 ⟨rfl,rfl⟩;have HT2:Hid (Tk (w1.alloc (.cells #[.int .i64 2,.int .i64 p] 84)) w.heap.size 0 {data:=#[]} 0 0 0 0 0):=HT0.out.alloc _;obtain⟨c0,c1,c2,c3,c4,c5,c6⟩:=HT2.out.cells;obtain⟨f0,f1,f2,f3,f4,f5,f6⟩:=HT2.out.thaw
  go_wp2_with fail
  obtain⟨r0,r1,r2,r3,r4,r5,r6⟩:=(HT2.out.st7 0 {data:=#[]} 0 0 0 0 0).cells;unfold st7 at r0 r1 r2 r3 r4 r5 r6
  (try simp only[Exit.inBlock,Exit.then])
  refine bodyPost_ret (v:=.tuple #[.agg #[.int .i64 0,.string ⟨#[]⟩,.int .u64 0,.int .u64 0,.int .u64 0,.int .u64 0,.int .i64 0],.int .i64 0,.iface 81 (.pointer (some ⟨w1.heap.size,0,none⟩))]) (by simp[results,Tryz.results99,go_sem,r0,r1,r2,r3,r4,r5,r6]) rfl ?_;exact⟨w1.heap.size,rfl,Bz (HB1.out.alloc HB1.out.size _) (Flt.new w1 (2,p)) HB1.out.size (Nat.ne_of_gt HT0.out.lt)⟩
 ·simp only[if_neg hl]
  have a0:decide ((32:Int)<(N:Int)-(p:Int))=false:=by simp;omega
  have b1:(p:Int)<=(N:Int):=by omega
  have b2:(N:Int)<=(S.size:Int):=by omega
  obtain⟨T,hT⟩:∃T,T=S.extract p N:=⟨_,rfl⟩;have hTs:T.size<=281474976710656:=by rw[hT,ByteArray.size_extract];omega
  have HC:Hid (∀w:World,Calls prog 147 #[.string T] w fun e w'=>e=.returned (.string T)/\Below w.heap.size w w'):=fun w=>z7A T w hTs
  rw[hT]at HC;obtain⟨W,hW⟩:=Mj w;have HB1:Hid (Below w.heap.size w W):=by show Below _ _ _;rw[hW];exact B0q.alloc L0q _
  rw[<-hW]at HT0;rw[<-hT];rw[<-hT]at HC;have HTT:Hid (T=S.extract p N):=hT;clear hT hTs;go_enter func99,ntmps99
  go_wp2_with fail
  rw[<-hW];clear hW;refine(HE.out _).mono ?_;rintro e w1 ⟨rfl,rfl⟩
  go_wp2_with fail
  rw[<-HTT.out];refine(HC.out _).mono ?_;rintro e w2 ⟨rfl,hb2⟩;have HB2:Hid (Below w.heap.size w w2):=HB1.out.trans (hb2.mono HB1.out.size);have HT2:Hid (Tk w2 w.heap.size 0 {data:=#[]} 0 0 0 0 0):=HT0.out.below hb2 HT0.out.lt;clear hb2;obtain⟨c0,c1,c2,c3,c4,c5,c6⟩:=HT2.out.cells;obtain⟨f0,f1,f2,f3,f4,f5,f6⟩:=HT2.out.thaw
  go_wp2_with fail
  obtain⟨r0,r1,r2,r3,r4,r5,r6⟩:=(HT2.out.st7 1 T 0 0 0 0 (p:Int)).cells;unfold st7 at r0 r1 r2 r3 r4 r5 r6
  (try simp only[Exit.inBlock,Exit.then])
  refine bodyPost_ret (v:=.tuple #[.agg #[.int .i64 1,.string T,.int .u64 0,.int .u64 0,.int .u64 0,.int .u64 0,.int .i64 p],.int .i64 N,.nilIface]) (by simp[results,Tryz.results99,go_sem,r0,r1,r2,r3,r4,r5,r6]) rfl ?_;exact⟨rfl,Below.st7 HB2.out L0q _ _ _ _ _ _ _⟩
def CE(w:World)(g f p:Nat)(c:Nat×Nat):Prop:=w.heap[g]? =some (.cells #[.iface 81 (.pointer (some ⟨f,0,none⟩)),.int .i64 p] 199)/\Flt w f c
theorem CE.new{f p:Nat}(h:Flt w f c):CE (w.alloc (.cells #[.iface 81 (.pointer (some ⟨f,0,none⟩)),.int .i64 p] 199)) w.heap.size f p c:=
 ⟨heap_alloc_new w _,h.alloc _⟩
theorem CE.st7{w:World}{g f p a:Nat}{c:Nat×Nat}(h:CE w g f p c)(hg:g≠a)(hf:f≠a)(kd:Int)(T:ByteArray)(c0 c1 c2 c3 q:Int):CE (Proofs.YtgmcjddjdidpjaaGreatDoor.st7 w a kd T c0 c1 c2 c3 q) g f p c:=by
 refine⟨?_,h.2.st7 hf _ _ _ _ _ _ _⟩;rw[Below.heap_setCell _ _ _ _ hg,Below.heap_setCell _ _ _ _ hg,Below.heap_setCell _ _ _ _ hg,Below.heap_setCell _ _ _ _ hg,Below.heap_setCell _ _ _ _ hg,Below.heap_setCell _ _ _ _ hg,Below.heap_setCell _ _ _ _ hg];exact h.1
def Bq(p:Nat)(c:Nat×Nat)(w:World)(e:Ending)(w':World):Prop:=∃g f,e=.returned (.tuple #[.agg #[.int .i64 0,.string ⟨#[]⟩,.int .u64 0,.int .u64 0,.int .u64 0,.int .u64 0,.int .i64 0],.int .i64 0,.iface 196 (.pointer (some ⟨g,0,none⟩))])/\Hid (w.heap.size<=g/\w.heap.size<=f/\CE w' g f p c/\Below w.heap.size w w')
def Fq(r:Rs)(p:Nat)(w:World)(e:Ending)(w':World):Prop:=
 match r with
 | .inr (C,n)=>e=.returned (.tuple #[.agg #[.int .i64 4,.string ⟨#[]⟩,.int .u64 (wd C 0),.int .u64 (wd C 1),.int .u64 (wd C 2),.int .u64 (wd C 3),.int .i64 p],.int .i64 ((p+n:Nat):Int),.nilIface])/\Below w.heap.size w w'
 | .inl c=>Bq p c w e w'
theorem z7C(S:ByteArray)(p:Nat)(w:World)(hp:p<=S.size)(hS:S.size<=9007199254740992):
  Calls prog 101 #[.string S,.int .i64 p] w fun e w'=>Fq (Vy (S.extract p S.size)) p w e w':=by
 have hpI:(p:Int)<=(S.size:Int):=by omega
 obtain⟨T,hT⟩:∃T,T=S.extract p S.size:=⟨_,rfl⟩;have hTs:T.size<=S.size-p:=by rw[hT,ByteArray.size_extract];omega
 have HC:Hid (∀w:World,Calls prog 149 #[.string T] w fun e w'=>Ans (Vy T) w e w'):=fun w=>z7e T w (by omega)
 rw[<-hT];have HTT:Hid (T=S.extract p S.size):=hT;clear hT;obtain⟨W,hW⟩:=Mj w;have HB1:Hid (Below w.heap.size w W):=by show Below _ _ _;rw[hW];exact B0q.alloc L0q _
 have HT0:Hid (Tk W w.heap.size 0 {data:=#[]} 0 0 0 0 0):=by show Tk _ _ _ _ _ _ _ _ _;rw[hW];exact Tk.new w 0 {data:=#[]} 0 0 0 0 0
 cases hm:Vy T with
 |inl c=>
  rw[hm]at HC;clear hm;go_enter func101,ntmps101
  go_wp2_with fail
  rw[<-hW,<-HTT.out];clear hW;refine(HC.out _).mono ?_;rintro e w1 ⟨f,rfl,HP⟩;have HB2:Hid (Below w.heap.size w w1):=HB1.out.trans (HP.out.2.2.mono HB1.out.size);have HT1:Hid (Tk w1 w.heap.size 0 {data:=#[]} 0 0 0 0 0):=HT0.out.below HP.out.2.2 HT0.out.lt;have HF:Hid (Up w w1 f c):=⟨Nat.le_trans HB1.out.size HP.out.1,fun e=>by have h1:=HT0.out.lt;have h2:=HP.out.1;omega,HP.out.2.1⟩;clear HP;unfold flv;rw[Pg];have HT2:Hid (Tk ((w1.alloc (.cells #[.int .u64 0,.int .u64 0,.int .u64 0,.int .u64 0] 51)).alloc (.cells #[.iface 81 (.pointer (some ⟨f,0,none⟩)),.int .i64 p] 199)) w.heap.size 0 {data:=#[]} 0 0 0 0 0):=(HT1.out.alloc _).alloc _;obtain⟨c0,c1,c2,c3,c4,c5,c6⟩:=HT2.out.cells;obtain⟨f0,f1,f2,f3,f4,f5,f6⟩:=HT2.out.thaw
  go_wp2_with fail
  obtain⟨r0,r1,r2,r3,r4,r5,r6⟩:=(HT2.out.st7 0 {data:=#[]} 0 0 0 0 0).cells;unfold st7 at r0 r1 r2 r3 r4 r5 r6
  (try simp only[Exit.inBlock,Exit.then])
  refine bodyPost_ret (v:=.tuple #[.agg #[.int .i64 0,.string ⟨#[]⟩,.int .u64 0,.int .u64 0,.int .u64 0,.int .u64 0,.int .i64 0],.int .i64 0,.iface 196 (.pointer (some ⟨w1.heap.size+1,0,none⟩))]) (by simp[results,Tryz.results101,go_sem,r0,r1,r2,r3,r4,r5,r6]) rfl ?_;have hsz:(w1.alloc (.cells #[.int .u64 0,.int .u64 0,.int .u64 0,.int .u64 0] 51)).heap.size=w1.heap.size+1:=by simp
  have hB3:=HB2.out.alloc HB2.out.size (.cells #[.int .u64 0,.int .u64 0,.int .u64 0,.int .u64 0] 51);have hlt:=HT1.out.lt;have hce:=CE.new (p:=p) (HF.out.2.2.alloc (.cells #[.int .u64 0,.int .u64 0,.int .u64 0,.int .u64 0] 51));rw[hsz]at hce;exact⟨w1.heap.size+1,f,rfl,by have:=HB2.out.size;omega,HF.out.1,hce.st7 (by omega) HF.out.2.1 _ _ _ _ _ _ _,Below.st7 (hB3.alloc hB3.size _) L0q _ _ _ _ _ _ _⟩
 |inr r=>
  obtain⟨C,n⟩:=r;have hok:=z1e hm;rw[hm]at HC;have hn:n<=T.size:=hok.2.2;have b1:(p:Int)+(n:Int)<9223372036854775808:=by omega
  obtain⟨x0,h0⟩:∃x,x=((wd C 0:Nat):Int):=⟨_,rfl⟩;obtain⟨x1,h1⟩:∃x,x=((wd C 1:Nat):Int):=⟨_,rfl⟩;obtain⟨x2,h2⟩:∃x,x=((wd C 2:Nat):Int):=⟨_,rfl⟩;obtain⟨x3,h3⟩:∃x,x=((wd C 3:Nat):Int):=⟨_,rfl⟩;have HC2:Hid (∀w:World,Calls prog 149 #[.string T] w fun e w'=>e=.returned (.tuple #[.agg #[.int .u64 x0,.int .u64 x1,.int .u64 x2,.int .u64 x3],.int .i64 n,.nilIface])/\Below w.heap.size w w'):=by
   rw[h0,h1,h2,h3];exact HC
  have HX:Hid (Fq (.inr (C,n)) p w=fun e w'=>e=.returned (.tuple #[.agg #[.int .i64 4,.string ⟨#[]⟩,.int .u64 x0,.int .u64 x1,.int .u64 x2,.int .u64 x3,.int .i64 p],.int .i64 ((p:Int)+(n:Int)),.nilIface])/\Below w.heap.size w w'):=by
   show _=_;rw[h0,h1,h2,h3];unfold Fq;simp only[Int.natCast_add]
  obtain⟨QQ,hQQ⟩:∃QQ,QQ=Fq (.inr (C,n)) p w:=⟨_,rfl⟩;rw[<-hQQ]at HX;show Calls _ _ _ _ fun e w'=>Fq (.inr (C,n)) p w e w'
  rw[<-hQQ];clear HC h0 h1 h2 h3 hQQ;clear hm hok;go_enter func101,ntmps101
  go_wp2_with fail
  rw[<-hW,<-HTT.out];clear hW;refine(HC2.out _).mono ?_;rintro e w1 ⟨rfl,hb⟩;have HB2:Hid (Below w.heap.size w w1):=HB1.out.trans (hb.mono HB1.out.size);have HT1:Hid (Tk w1 w.heap.size 0 {data:=#[]} 0 0 0 0 0):=HT0.out.below hb HT0.out.lt;clear hb;have HT2:Hid (Tk (w1.alloc (.cells #[.int .u64 x0,.int .u64 x1,.int .u64 x2,.int .u64 x3] 51)) w.heap.size 0 {data:=#[]} 0 0 0 0 0):=HT1.out.alloc _;obtain⟨c0,c1,c2,c3,c4,c5,c6⟩:=HT2.out.cells;obtain⟨f0,f1,f2,f3,f4,f5,f6⟩:=HT2.out.thaw
  go_wp2_with fail
  obtain⟨r0,r1,r2,r3,r4,r5,r6⟩:=(HT2.out.st7 4 {data:=#[]} x0 x1 x2 x3 (p:Int)).cells;unfold st7 at r0 r1 r2 r3 r4 r5 r6
  (try simp only[Exit.inBlock,Exit.then])
  refine bodyPost_ret (v:=.tuple #[.agg #[.int .i64 4,.string ⟨#[]⟩,.int .u64 x0,.int .u64 x1,.int .u64 x2,.int .u64 x3,.int .i64 p],.int .i64 ((p:Int)+(n:Int)),.nilIface]) (by simp[results,Tryz.results101,go_sem,r0,r1,r2,r3,r4,r5,r6]) rfl ?_;rw[HX.out];exact⟨rfl,Below.st7 (HB2.out.alloc HB2.out.size _) L0q _ _ _ _ _ _ _⟩
@[reducible] def tk7 (kd:Int) (T:ByteArray) (c0 c1 c2 c3 q n:Int) (ev:Value):Value:=.tuple #[.agg #[.int .i64 kd,.string T,.int .u64 c0,.int .u64 c1,.int .u64 c2,.int .u64 c3,.int .i64 q],.int .i64 n,ev]
def Bk(A:World->Ending->World->Prop)(W:World)(e:Ending)(w1:World):Prop:=
 ∃(kd:Int) (T:ByteArray) (c0 c1 c2 c3 q n:Int) (ev:Value),e=.returned (tk7 kd T c0 c1 c2 c3 q n ev)/\Hid (Below W.heap.size W w1)/\
  Hid (∀w:World,W=w.alloc (.cells #[.int .i64 0,.string ⟨#[]⟩,.int .u64 0,.int .u64 0,.int .u64 0,.int .u64 0,.int .i64 0] 145)->A w e (st7 w1 w.heap.size kd T c0 c1 c2 c3 q))
theorem Bw{o:Obj}(hW:W=w.alloc o)(h:Below W.heap.size W w1):Below w.heap.size w w1:=by
 have hb:Below w.heap.size w W:=by rw[hW];exact B0q.alloc L0q _
 exact hb.trans (h.mono hb.size)
theorem z1s{o:Obj}(hW:W=w.alloc o):W.heap.size=w.heap.size+1:=by rw[hW];simp
theorem Mx.goes{e:Ending}(h:Mx c W e w1):Bk (Mx c) W e w1:=by
 obtain⟨f,rfl,HP⟩:=h;refine⟨_,_,_,_,_,_,_,_,_,rfl,hid HP.out.2.2,hid fun w hW=>⟨f,rfl,?_⟩⟩;have hs:=z1s hW;have h1:=HP.out.1;exact Bz (Bw hW HP.out.2.2) HP.out.2.1 (by omega) (by omega)
theorem Bq.goes{p:Nat}{e:Ending}(h:Bq p c W e w1):Bk (Bq p c) W e w1:=by
 obtain⟨g,f,rfl,HP⟩:=h;obtain⟨h1,h2,h3,h4⟩:=HP.out;refine⟨_,_,_,_,_,_,_,_,_,rfl,hid h4,hid fun w hW=>⟨g,f,rfl,?_⟩⟩;have hs:=z1s hW;exact⟨by omega,by omega,h3.st7 (by omega) (by omega) _ _ _ _ _ _ _,Below.st7 (Bw hW h4) L0q _ _ _ _ _ _ _⟩
theorem Fc.goes{S:ByteArray}{p:Nat}{W w1:World}{e:Ending}(h:Fc S p W e w1):Bk (Fc S p) W e w1:=by
 unfold Fc at*;by_cases hl:32<ne S p-p
 ·simp only[if_pos hl]at*;exact h.goes
 ·simp only[if_neg hl]at*
  obtain⟨rfl,hb⟩:=h;exact⟨_,_,_,_,_,_,_,_,_,rfl,hid hb,hid fun w hW=>⟨rfl,Below.st7 (Bw hW hb) L0q _ _ _ _ _ _ _⟩⟩
theorem Km.goes{r:Ls}{p:Nat}{W w1:World}{e:Ending}(h:Km r p W e w1):Bk (Km r p) W e w1:=by
 cases r with
 |inl c=>exact Mx.goes h
 |inr l=>
  obtain⟨rfl,hb⟩:=h;exact⟨_,_,_,_,_,_,_,_,_,rfl,hid hb,hid fun w hW=>⟨rfl,Below.st7 (Bw hW hb) L0q _ _ _ _ _ _ _⟩⟩
theorem Fq.goes{r:Rs}{p:Nat}{W w1:World}{e:Ending}(h:Fq r p W e w1):Bk (Fq r p) W e w1:=by
 cases r with
 |inl c=>exact Bq.goes h
 |inr l=>
  obtain⟨rfl,hb⟩:=h;exact⟨_,_,_,_,_,_,_,_,_,rfl,hid hb,hid fun w hW=>⟨rfl,Below.st7 (Bw hW hb) L0q _ _ _ _ _ _ _⟩⟩
theorem z7D(S:ByteArray)(p x:Nat)(w:World)(hb:bt S p=some x)(hl:Zf x=true)(hS:S.size<=9007199254740992):
  Calls prog 64 #[.string S,.int .i64 p] w fun e w'=>Fc S p w e w':=by
 have hxl:=(Qb hb).2;obtain⟨hp,hxx⟩:=Zd hb;have hpI:(p:Int)<(S.size:Int):=by omega
 have hpI2:(p:Int)<=(S.size:Int):=by omega
 have HLt:Hid (∀w:World,Calls prog 98 #[.int .u8 x] w fun e w'=>e=.returned (.bool true)/\w'=w):=fun w=>Fp x true hl w hxl
 obtain⟨W,hW⟩:=Mj w;have HW:Hid (W=w.alloc (.cells #[.int .i64 0,.string ⟨#[]⟩,.int .u64 0,.int .u64 0,.int .u64 0,.int .u64 0,.int .i64 0] 145)):=hW;have HB1:Hid (Below w.heap.size w W):=by show Below _ _ _;rw[hW];exact B0q.alloc L0q _
 have HT0:Hid (Tk W w.heap.size 0 {data:=#[]} 0 0 0 0 0):=by show Tk _ _ _ _ _ _ _ _ _;rw[hW];exact Tk.new w 0 {data:=#[]} 0 0 0 0 0
 have HC:Hid (∀w:World,Calls prog 99 #[.string S,.int .i64 p] w fun e w'=>Fc S p w e w'):=fun w=>z7B S p w (by omega) hS
 clear hb hl;go_enter func64,ntmps64
 go_wp2_with fail
 rw[<-hW];clear hW;refine(HLt.out _).mono ?_;rintro e w0 ⟨rfl,rfl⟩
 go_wp2_with fail
 refine(HC.out _).mono ?_;intro e w1 h;obtain⟨kd,T,c0',c1',c2',c3',q',n',ev,rfl,HB2,HP⟩:=h.goes;clear h;have HT2:Hid (Tk w1 w.heap.size 0 {data:=#[]} 0 0 0 0 0):=HT0.out.below HB2.out HT0.out.lt;obtain⟨c0,c1,c2,c3,c4,c5,c6⟩:=HT2.out.cells;obtain⟨f0,f1,f2,f3,f4,f5,f6⟩:=HT2.out.thaw
 go_wp2_with fail
 obtain⟨r0,r1,r2,r3,r4,r5,r6⟩:=(HT2.out.st7 kd T c0' c1' c2' c3' q').cells;unfold st7 at r0 r1 r2 r3 r4 r5 r6
 (try simp only[Exit.inBlock,Exit.then])
 refine bodyPost_ret (v:=tk7 kd T c0' c1' c2' c3' q' n' ev) (by simp[results,Tryz.results64,go_sem,r0,r1,r2,r3,r4,r5,r6]) rfl ?_;exact HP.out w HW.out
theorem z7E(S:ByteArray)(p x:Nat)(w:World)(hb:bt S p=some x)(hq:x=39∨x=34)(hS:S.size<=9007199254740992):
  Calls prog 64 #[.string S,.int .i64 p] w fun e w'=>Km (ll S x p (p+1) []) p w e w':=by
 have hxl:=(Qb hb).2;obtain⟨hp,hxx⟩:=Zd hb;have hpI:(p:Int)<(S.size:Int):=by omega
 have hpI2:(p:Int)<=(S.size:Int):=by omega
 have hl:Zf x=false:=by rcases hq with rfl|rfl<;>rfl
 have HLt:Hid (∀w:World,Calls prog 98 #[.int .u8 x] w fun e w'=>e=.returned (.bool false)/\w'=w):=fun w=>Fp x false hl w hxl
 obtain⟨W,hW⟩:=Mj w;have HW:Hid (W=w.alloc (.cells #[.int .i64 0,.string ⟨#[]⟩,.int .u64 0,.int .u64 0,.int .u64 0,.int .u64 0,.int .i64 0] 145)):=hW;have HB1:Hid (Below w.heap.size w W):=by show Below _ _ _;rw[hW];exact B0q.alloc L0q _
 have HT0:Hid (Tk W w.heap.size 0 {data:=#[]} 0 0 0 0 0):=by show Tk _ _ _ _ _ _ _ _ _;rw[hW];exact Tk.new w 0 {data:=#[]} 0 0 0 0 0
 have HC:Hid (∀w:World,Calls prog 100 #[.string S,.int .i64 p] w fun e w'=>Km (ll S x p (p+1) []) p w e w'):=fun w=>z7t S x p w hb hS
 obtain⟨r,hr⟩:∃r,r=ll S x p (p+1) []:=⟨_,rfl⟩;rw[<-hr]at HC ⊢;clear hb hr hl;rcases hq with rfl|rfl
 ·go_enter func64,ntmps64
  go_wp2_with fail
  rw[<-hW];clear hW;refine(HLt.out _).mono ?_;rintro e w0 ⟨rfl,rfl⟩
  go_wp2_with fail
  refine(HC.out _).mono ?_;intro e w1 h;obtain⟨kd,T,c0',c1',c2',c3',q',n',ev,rfl,HB2,HP⟩:=h.goes;clear h;have HT2:Hid (Tk w1 w.heap.size 0 {data:=#[]} 0 0 0 0 0):=HT0.out.below HB2.out HT0.out.lt;obtain⟨c0,c1,c2,c3,c4,c5,c6⟩:=HT2.out.cells;obtain⟨f0,f1,f2,f3,f4,f5,f6⟩:=HT2.out.thaw
  go_wp2_with fail
  obtain⟨r0,r1,r2,r3,r4,r5,r6⟩:=(HT2.out.st7 kd T c0' c1' c2' c3' q').cells;unfold st7 at r0 r1 r2 r3 r4 r5 r6
  (try simp only[Exit.inBlock,Exit.then])
  refine bodyPost_ret (v:=tk7 kd T c0' c1' c2' c3' q' n' ev) (by simp[results,Tryz.results64,go_sem,r0,r1,r2,r3,r4,r5,r6]) rfl ?_;exact HP.out w HW.out
 ·go_enter func64,ntmps64
  go_wp2_with fail
  rw[<-hW];clear hW;refine(HLt.out _).mono ?_;rintro e w0 ⟨rfl,rfl⟩
  go_wp2_with fail
  refine(HC.out _).mono ?_;intro e w1 h;obtain⟨kd,T,c0',c1',c2',c3',q',n',ev,rfl,HB2,HP⟩:=h.goes;clear h;have HT2:Hid (Tk w1 w.heap.size 0 {data:=#[]} 0 0 0 0 0):=HT0.out.below HB2.out HT0.out.lt;obtain⟨c0,c1,c2,c3,c4,c5,c6⟩:=HT2.out.cells;obtain⟨f0,f1,f2,f3,f4,f5,f6⟩:=HT2.out.thaw
  go_wp2_with fail
  obtain⟨r0,r1,r2,r3,r4,r5,r6⟩:=(HT2.out.st7 kd T c0' c1' c2' c3' q').cells;unfold st7 at r0 r1 r2 r3 r4 r5 r6
  (try simp only[Exit.inBlock,Exit.then])
  refine bodyPost_ret (v:=tk7 kd T c0' c1' c2' c3' q' n' ev) (by simp[results,Tryz.results64,go_sem,r0,r1,r2,r3,r4,r5,r6]) rfl ?_;exact HP.out w HW.out
theorem z7F(S:ByteArray)(p x:Nat)(w:World)(hb:bt S p=some x)(hq:x=91)(hS:S.size<=9007199254740992):
  Calls prog 64 #[.string S,.int .i64 p] w fun e w'=>Fq (Vy (S.extract p S.size)) p w e w':=by
 have hxl:=(Qb hb).2;obtain⟨hp,hxx⟩:=Zd hb;have hpI:(p:Int)<(S.size:Int):=by omega
 have hpI2:(p:Int)<=(S.size:Int):=by omega
 have HLt:Hid (∀w:World,Calls prog 98 #[.int .u8 x] w fun e w'=>e=.returned (.bool false)/\w'=w):=fun w=>Fp x false (by rw[hq];rfl) w hxl
 obtain⟨W,hW⟩:=Mj w;have HW:Hid (W=w.alloc (.cells #[.int .i64 0,.string ⟨#[]⟩,.int .u64 0,.int .u64 0,.int .u64 0,.int .u64 0,.int .i64 0] 145)):=hW;have HB1:Hid (Below w.heap.size w W):=by show Below _ _ _;rw[hW];exact B0q.alloc L0q _
 have HT0:Hid (Tk W w.heap.size 0 {data:=#[]} 0 0 0 0 0):=by show Tk _ _ _ _ _ _ _ _ _;rw[hW];exact Tk.new w 0 {data:=#[]} 0 0 0 0 0
 have HC:Hid (∀w:World,Calls prog 101 #[.string S,.int .i64 p] w fun e w'=>Fq (Vy (S.extract p S.size)) p w e w'):=fun w=>z7C S p w (by omega) hS
 obtain⟨r,hr⟩:∃r,r=Vy (S.extract p S.size):=⟨_,rfl⟩;rw[<-hr]at HC ⊢;clear hb hr;subst hq;go_enter func64,ntmps64
 go_wp2_with fail
 rw[<-hW];clear hW;refine(HLt.out _).mono ?_;rintro e w0 ⟨rfl,rfl⟩
 go_wp2_with fail
 refine(HC.out _).mono ?_;intro e w1 h;obtain⟨kd,T,c0',c1',c2',c3',q',n',ev,rfl,HB2,HP⟩:=h.goes;clear h;have HT2:Hid (Tk w1 w.heap.size 0 {data:=#[]} 0 0 0 0 0):=HT0.out.below HB2.out HT0.out.lt;obtain⟨c0,c1,c2,c3,c4,c5,c6⟩:=HT2.out.cells;obtain⟨f0,f1,f2,f3,f4,f5,f6⟩:=HT2.out.thaw
 go_wp2_with fail
 obtain⟨r0,r1,r2,r3,r4,r5,r6⟩:=(HT2.out.st7 kd T c0' c1' c2' c3' q').cells;unfold st7 at r0 r1 r2 r3 r4 r5 r6
 (try simp only[Exit.inBlock,Exit.then])
 refine bodyPost_ret (v:=tk7 kd T c0' c1' c2' c3' q' n' ev) (by simp[results,Tryz.results64,go_sem,r0,r1,r2,r3,r4,r5,r6]) rfl ?_;exact HP.out w HW.out
end Go.Proofs.YtgmcjddjdidpjaaGreatDoor
