/- Lemmas for the last text. Conditions: those that each names. -/
import Derived.Test.YtikfnaffiehpaaaGreatDoorVX23
import Derived.Test.YtikfnaffiehpaaaGreatDoorVXR5
import Derived.Test.YtikfnaffiehpaaaGreatDoorVEAs2ToX16
set_option linter.unusedVariables false
set_option maxRecDepth 100000
set_option maxHeartbeats 4000000
namespace Go.Proofs.YtikfnaffiehpaaaGreatDoor
open Go.Proofs.Tryz
open Go.RowKit
@[reducible] def q3 (kd:Int) (T:ByteArray) (c0 c1 c2 c3 p n e:Int):Value:=.tuple #[tv kd T c0 c1 c2 c3 p,.int .i64 n,.int .i64 e]
theorem y1I{S:ByteArray}{p x:Nat}(h:bt S p=some x):S.extract p (p+1)=nb [x]:=by
 obtain⟨hk,hx⟩:=Qj h;have hx6:=(Qx h).2;apply ByteArray.ext;rw[ByteArray.data_extract];apply Array.ext';have hk2:p<S.data.toList.length:=by rw[Array.length_toList];exact hk
 rw[Array.toList_extract];have h1:UInt8.ofNat x=S.data.toList[p]:=by
  rw[<-hx];apply UInt8.toNat.inj;simp;rfl
 simp only[nb,List.map_cons,List.map_nil,h1];show(S.data.toList.drop p).take (p+1-p)=_;rw[show p+1-p=1 by omega,List.drop_eq_getElem_cons hk2];rfl
theorem Fx(w:World):∃W,W=w.alloc (.cells #[.int .i64 0,.string ⟨#[]⟩,.int .u64 0,.int .u64 0,.int .u64 0,.int .u64 0,.int .i64 0] 83):=⟨_,rfl⟩
theorem y1J(S:ByteArray)(p x:Nat)(w:World)(hb:bt S p=some x)(hl:Qy x=true)(h32:32<ne S p-p)(hS:S.size<=9007199254740992):
  Calls prog 63 #[.string S,.int .i64 p] w fun e w'=>e=.returned (q3 0 {data:=#[]} 0 0 0 0 0 (p:Int) 2)/\Below w.heap.size w w':=by
 have hxl:=(Qx hb).2;obtain⟨hp,hxx⟩:=Qj hb;have hpI:(p:Int)<(S.size:Int):=by omega
 have hpI2:(p:Int)<=(S.size:Int):=by omega
 obtain⟨W,hW⟩:=Fx w;have HB1:Hid (Below w.heap.size w W):=by show Below _ _ _;rw[hW];exact B0q.alloc L0q _
 have HT0:Hid (Tk W w.heap.size 0 {data:=#[]} 0 0 0 0 0):=by show Tk _ _ _ _ _ _ _ _ _;rw[hW];exact Tk.new w 0 {data:=#[]} 0 0 0 0 0
 obtain⟨n,hn⟩:∃n,n=rl S p:=⟨_,rfl⟩;have HLt:Hid (∀w:World,Calls prog 58 #[.string S,.int .i64 p] w fun e w'=>e=.returned (.int .i64 n)/\w'=w):=fun w=>by rw[hn];exact Jp S p w (by omega) (by omega)
 obtain⟨B,hB⟩:∃B,B=mkB x:=⟨_,rfl⟩;have HSg:Hid (∀w:World,Calls prog 90 #[.int .u8 x] w fun e w'=>e=.returned (.bool B)/\w'=w):=fun w=>by rw[hB];exact Fq x w
 have hrl:rl S p=ne S p-p:=by unfold rl;rw[hb];simp only;rw[hl,if_pos rfl]
 have hnl:=Kg (S:=S) (k:=p) (by omega);have hne1:p<ne S p:=by
  have h1:ne S p=ne S (p+1):=by rw[Ud hb,hl];rfl
  have h2:=Kg (S:=S) (k:=p+1) (by omega);omega
 have n1:decide ((32:Int)<(n:Int))=true:=by simp;omega
 clear hb hl h32 hrl hnl hne1 hn hB;go_enter func63,ntmps63
 go_wp2_with fail
 rw[<-hW];clear hW;refine(HLt.out _).mono ?_;rintro e w0 ⟨rfl,rfl⟩
 go_wp2_with fail
 refine(HSg.out _).mono ?_;rintro e w1 ⟨rfl,rfl⟩;obtain⟨c0,c1,c2,c3,c4,c5,c6⟩:=HT0.out.cells;obtain⟨f0,f1,f2,f3,f4,f5,f6⟩:=HT0.out.thaw
 go_wp2_with fail
 obtain⟨r0,r1,r2,r3,r4,r5,r6⟩:=(HT0.out.st7 0 {data:=#[]} 0 0 0 0 0).cells;unfold st7 at r0 r1 r2 r3 r4 r5 r6
 (try simp only[Exit.inBlock,Exit.then])
 refine bodyPost_ret (v:=q3 0 {data:=#[]} 0 0 0 0 0 (p:Int) 2) (by simp[results,Tryz.results63,go_sem,r0,r1,r2,r3,r4,r5,r6]) rfl ?_;exact⟨rfl,Below.st7 HB1.out L0q _ _ _ _ _ _ _⟩
theorem y1K(S:ByteArray)(p x:Nat)(w:World)(hb:bt S p=some x)(hl:Qy x=true)(h32:¬32<ne S p-p)(T:ByteArray)(E:Nat)(hE:E=ne S p)(hT:T=S.extract p E)(hS:S.size<=9007199254740992):
  Calls prog 63 #[.string S,.int .i64 p] w fun e w'=>e=.returned (q3 1 T 0 0 0 0 (p:Int) (E:Int) 0)/\Below w.heap.size w w':=by
 have hxl:=(Qx hb).2;obtain⟨hp,hxx⟩:=Qj hb;have hpI:(p:Int)<(S.size:Int):=by omega
 have hpI2:(p:Int)<=(S.size:Int):=by omega
 obtain⟨W,hW⟩:=Fx w;have HB1:Hid (Below w.heap.size w W):=by show Below _ _ _;rw[hW];exact B0q.alloc L0q _
 have HT0:Hid (Tk W w.heap.size 0 {data:=#[]} 0 0 0 0 0):=by show Tk _ _ _ _ _ _ _ _ _;rw[hW];exact Tk.new w 0 {data:=#[]} 0 0 0 0 0
 obtain⟨n,hn⟩:∃n,n=rl S p:=⟨_,rfl⟩;have HLt:Hid (∀w:World,Calls prog 58 #[.string S,.int .i64 p] w fun e w'=>e=.returned (.int .i64 n)/\w'=w):=fun w=>by rw[hn];exact Jp S p w (by omega) (by omega)
 obtain⟨B,hB⟩:∃B,B=mkB x:=⟨_,rfl⟩;have HSg:Hid (∀w:World,Calls prog 90 #[.int .u8 x] w fun e w'=>e=.returned (.bool B)/\w'=w):=fun w=>by rw[hB];exact Fq x w
 have hrl:rl S p=ne S p-p:=by unfold rl;rw[hb];simp only;rw[hl,if_pos rfl]
 have hnl:=Kg (S:=S) (k:=p) (by omega);have hne1:p<ne S p:=by
  have h1:ne S p=ne S (p+1):=by rw[Ud hb,hl];rfl
  have h2:=Kg (S:=S) (k:=p+1) (by omega);omega
 have n1:decide ((32:Int)<(n:Int))=false:=by simp;omega
 have n2:decide ((0:Int)<(n:Int))=true:=by simp;omega
 have n3:n<=32:=by omega
 have n4:0<n:=by omega
 have hc:(p:Int)+(n:Int)=(E:Int):=by omega
 have hE1:(p:Int)<=(E:Int):=by omega
 have hE2:(E:Int)<=(S.size:Int):=by omega
 have hT2:S.extract p E=T:=hT.symm;clear hb hl h32 hrl hnl hne1 hn hB hE hT;go_enter func63,ntmps63
 go_wp2_with fail
 rw[<-hW];clear hW;refine(HLt.out _).mono ?_;rintro e w0 ⟨rfl,rfl⟩
 go_wp2_with fail
 refine(HSg.out _).mono ?_;rintro e w1 ⟨rfl,rfl⟩;obtain⟨c0,c1,c2,c3,c4,c5,c6⟩:=HT0.out.cells;obtain⟨f0,f1,f2,f3,f4,f5,f6⟩:=HT0.out.thaw
 go_wp2_with fail
 obtain⟨r0,r1,r2,r3,r4,r5,r6⟩:=(HT0.out.st7 1 T 0 0 0 0 (p:Int)).cells;unfold st7 at r0 r1 r2 r3 r4 r5 r6
 (try simp only[Exit.inBlock,Exit.then])
 refine bodyPost_ret (v:=q3 1 T 0 0 0 0 (p:Int) (E:Int) 0) (by simp[results,Tryz.results63,go_sem,r0,r1,r2,r3,r4,r5,r6]) rfl ?_;exact⟨rfl,Below.st7 HB1.out L0q _ _ _ _ _ _ _⟩
theorem y1L(S:ByteArray)(p x:Nat)(w:World)(hb:bt S p=some x)(hl:Qy x=false)(hm:mkB x=true)(T:ByteArray)(hT:T=nb [x])(hS:S.size<=9007199254740992):
  Calls prog 63 #[.string S,.int .i64 p] w fun e w'=>e=.returned (q3 5 T 0 0 0 0 (p:Int) ((p:Int)+1) 0)/\Below w.heap.size w w':=by
 have hxl:=(Qx hb).2;obtain⟨hp,hxx⟩:=Qj hb;have hpI:(p:Int)<(S.size:Int):=by omega
 have hpI2:(p:Int)<=(S.size:Int):=by omega
 obtain⟨W,hW⟩:=Fx w;have HB1:Hid (Below w.heap.size w W):=by show Below _ _ _;rw[hW];exact B0q.alloc L0q _
 have HT0:Hid (Tk W w.heap.size 0 {data:=#[]} 0 0 0 0 0):=by show Tk _ _ _ _ _ _ _ _ _;rw[hW];exact Tk.new w 0 {data:=#[]} 0 0 0 0 0
 obtain⟨n,hn⟩:∃n,n=rl S p:=⟨_,rfl⟩;have HLt:Hid (∀w:World,Calls prog 58 #[.string S,.int .i64 p] w fun e w'=>e=.returned (.int .i64 n)/\w'=w):=fun w=>by rw[hn];exact Jp S p w (by omega) (by omega)
 obtain⟨B,hB⟩:∃B,B=mkB x:=⟨_,rfl⟩;have HSg:Hid (∀w:World,Calls prog 90 #[.int .u8 x] w fun e w'=>e=.returned (.bool B)/\w'=w):=fun w=>by rw[hB];exact Fq x w
 have hrl:rl S p=0:=by unfold rl;rw[hb];simp[hl]
 have n0:(n:Int)=0:=by omega
 have hT2:S.extract p (p+1)=T:=by rw[y1I hb,hT]
 obtain⟨E,hE⟩:∃E,E=p+1:=⟨_,rfl⟩;rw[<-hE]at hT2;have hc:(p:Int)+1=(E:Int):=by omega
 have hE1:(p:Int)<=(E:Int):=by omega
 have hE2:(E:Int)<=(S.size:Int):=by omega
 have hBt:B=true:=by rw[hB,hm]
 rw[hBt]at HSg;rw[hc];clear hb hl hm hrl hn hB hE hT hBt;go_enter func63,ntmps63
 go_wp2_with fail
 rw[<-hW];clear hW;refine(HLt.out _).mono ?_;rintro e w0 ⟨rfl,rfl⟩
 go_wp2_with fail
 refine(HSg.out _).mono ?_;rintro e w1 ⟨rfl,rfl⟩;obtain⟨c0,c1,c2,c3,c4,c5,c6⟩:=HT0.out.cells;obtain⟨f0,f1,f2,f3,f4,f5,f6⟩:=HT0.out.thaw
 go_wp2_with fail
 obtain⟨r0,r1,r2,r3,r4,r5,r6⟩:=(HT0.out.st7 5 T 0 0 0 0 (p:Int)).cells;unfold st7 at r0 r1 r2 r3 r4 r5 r6
 (try simp only[Exit.inBlock,Exit.then])
 refine bodyPost_ret (v:=q3 5 T 0 0 0 0 (p:Int) (E:Int) 0) (by simp[results,Tryz.results63,go_sem,r0,r1,r2,r3,r4,r5,r6]) rfl ?_;exact⟨rfl,Below.st7 HB1.out L0q _ _ _ _ _ _ _⟩
theorem y1M(S:ByteArray)(p x:Nat)(w:World)(hb:bt S p=some x)(ha:arB S p=true)(hS:S.size<=9007199254740992):
  Calls prog 63 #[.string S,.int .i64 p] w fun e w'=>e=.returned (q3 2 {data:=#[]} 0 0 0 0 (p:Int) ((p:Int)+2) 0)/\Below w.heap.size w w':=by
 have hxl:=(Qx hb).2;obtain⟨hp,hxx⟩:=Qj hb;have hpI:(p:Int)<(S.size:Int):=by omega
 have hpI2:(p:Int)<=(S.size:Int):=by omega
 obtain⟨W,hW⟩:=Fx w;have HB1:Hid (Below w.heap.size w W):=by show Below _ _ _;rw[hW];exact B0q.alloc L0q _
 have HT0:Hid (Tk W w.heap.size 0 {data:=#[]} 0 0 0 0 0):=by show Tk _ _ _ _ _ _ _ _ _;rw[hW];exact Tk.new w 0 {data:=#[]} 0 0 0 0 0
 obtain⟨n,hn⟩:∃n,n=rl S p:=⟨_,rfl⟩;have HLt:Hid (∀w:World,Calls prog 58 #[.string S,.int .i64 p] w fun e w'=>e=.returned (.int .i64 n)/\w'=w):=fun w=>by rw[hn];exact Jp S p w (by omega) (by omega)
 obtain⟨B,hB⟩:∃B,B=mkB x:=⟨_,rfl⟩;have HSg:Hid (∀w:World,Calls prog 90 #[.int .u8 x] w fun e w'=>e=.returned (.bool B)/\w'=w):=fun w=>by rw[hB];exact Fq x w
 have hx:x=60:=by unfold arB at ha;rw[hb]at ha;simp at ha;exact ha.1
 have hl:Qy x=false:=by rw[hx];rfl
 have hm:mkB x=false:=by rw[hx];rfl
 have hb2:bt S (p+1)=some 45:=by unfold arB at ha;simp at ha;exact ha.2
 obtain⟨E,hE⟩:∃E,E=p+1:=⟨_,rfl⟩;rw[<-hE]at hb2;obtain⟨hEk,hEx⟩:=Qj hb2;have hc:(p:Int)+1=(E:Int):=by omega
 have hE2:(E:Int)<(S.size:Int):=by omega
 have e0:decide ((E:Int)<(S.size:Int))=true:=by simp;omega
 have hrl:rl S p=0:=by unfold rl;rw[hb];simp[hl]
 have n0:(n:Int)=0:=by omega
 have hBt:B=false:=by rw[hB,hm]
 rw[hBt]at HSg;have t60:((x:Int) == 60)=true:=by simp;omega
 clear hb hl hm hrl hn hB hE hBt ha hx hb2;go_enter func63,ntmps63
 go_wp2_with fail
 rw[<-hW];clear hW;refine(HLt.out _).mono ?_;rintro e w0 ⟨rfl,rfl⟩
 go_wp2_with fail
 refine(HSg.out _).mono ?_;rintro e w1 ⟨rfl,rfl⟩;obtain⟨c0,c1,c2,c3,c4,c5,c6⟩:=HT0.out.cells;obtain⟨f0,f1,f2,f3,f4,f5,f6⟩:=HT0.out.thaw
 go_wp2_with fail
 obtain⟨r0,r1,r2,r3,r4,r5,r6⟩:=(HT0.out.st7 2 {data:=#[]} 0 0 0 0 (p:Int)).cells;unfold st7 at r0 r1 r2 r3 r4 r5 r6
 (try simp only[Exit.inBlock,Exit.then])
 refine bodyPost_ret (v:=q3 2 {data:=#[]} 0 0 0 0 (p:Int) ((p:Int)+2) 0) (by simp[results,Tryz.results63,go_sem,r0,r1,r2,r3,r4,r5,r6]) rfl ?_;exact⟨rfl,Below.st7 HB1.out L0q _ _ _ _ _ _ _⟩
theorem y1N(S:ByteArray)(p x:Nat)(w:World)(hb:bt S p=some x)(hl:Qy x=false)(hq:x≠39/\x≠34/\x≠91)(hm:mkB x=false)(h60:x≠60)(hS:S.size<=9007199254740992):
  Calls prog 63 #[.string S,.int .i64 p] w fun e w'=>e=.returned (q3 0 {data:=#[]} 0 0 0 0 0 (p:Int) 4)/\Below w.heap.size w w':=by
 have hxl:=(Qx hb).2;obtain⟨hp,hxx⟩:=Qj hb;have hpI:(p:Int)<(S.size:Int):=by omega
 have hpI2:(p:Int)<=(S.size:Int):=by omega
 obtain⟨W,hW⟩:=Fx w;have HB1:Hid (Below w.heap.size w W):=by show Below _ _ _;rw[hW];exact B0q.alloc L0q _
 have HT0:Hid (Tk W w.heap.size 0 {data:=#[]} 0 0 0 0 0):=by show Tk _ _ _ _ _ _ _ _ _;rw[hW];exact Tk.new w 0 {data:=#[]} 0 0 0 0 0
 obtain⟨n,hn⟩:∃n,n=rl S p:=⟨_,rfl⟩;have HLt:Hid (∀w:World,Calls prog 58 #[.string S,.int .i64 p] w fun e w'=>e=.returned (.int .i64 n)/\w'=w):=fun w=>by rw[hn];exact Jp S p w (by omega) (by omega)
 obtain⟨B,hB⟩:∃B,B=mkB x:=⟨_,rfl⟩;have HSg:Hid (∀w:World,Calls prog 90 #[.int .u8 x] w fun e w'=>e=.returned (.bool B)/\w'=w):=fun w=>by rw[hB];exact Fq x w
 have hrl:rl S p=0:=by unfold rl;rw[hb];simp[hl]
 have n0:(n:Int)=0:=by omega
 have hBt:B=false:=by rw[hB,hm]
 rw[hBt]at HSg;have t39:((x:Int) == 39)=false:=by simp;omega
 have t34:((x:Int) == 34)=false:=by simp;omega
 have t91:((x:Int) == 91)=false:=by simp;omega
 have t60:((x:Int) == 60)=false:=by simp;omega
 clear hb hl hm hrl hn hB hBt hq h60;go_enter func63,ntmps63
 go_wp2_with fail
 rw[<-hW];clear hW;refine(HLt.out _).mono ?_;rintro e w0 ⟨rfl,rfl⟩
 go_wp2_with fail
 refine(HSg.out _).mono ?_;rintro e w1 ⟨rfl,rfl⟩;obtain⟨c0,c1,c2,c3,c4,c5,c6⟩:=HT0.out.cells;obtain⟨f0,f1,f2,f3,f4,f5,f6⟩:=HT0.out.thaw
 go_wp2_with fail
 obtain⟨r0,r1,r2,r3,r4,r5,r6⟩:=(HT0.out.st7 0 {data:=#[]} 0 0 0 0 0).cells;unfold st7 at r0 r1 r2 r3 r4 r5 r6
 (try simp only[Exit.inBlock,Exit.then])
 refine bodyPost_ret (v:=q3 0 {data:=#[]} 0 0 0 0 0 (p:Int) 4) (by simp[results,Tryz.results63,go_sem,r0,r1,r2,r3,r4,r5,r6]) rfl ?_;exact⟨rfl,Below.st7 HB1.out L0q _ _ _ _ _ _ _⟩
theorem y1O(S:ByteArray)(p x:Nat)(w:World)(hb:bt S p=some x)(hl:Qy x=false)(hq:x≠39/\x≠34/\x≠91)(hm:mkB x=false)(h60:x=60)(he:S.size<=p+1)(hS:S.size<=9007199254740992):
  Calls prog 63 #[.string S,.int .i64 p] w fun e w'=>e=.returned (q3 0 {data:=#[]} 0 0 0 0 0 (p:Int) 4)/\Below w.heap.size w w':=by
 have hxl:=(Qx hb).2;obtain⟨hp,hxx⟩:=Qj hb;have hpI:(p:Int)<(S.size:Int):=by omega
 have hpI2:(p:Int)<=(S.size:Int):=by omega
 obtain⟨W,hW⟩:=Fx w;have HB1:Hid (Below w.heap.size w W):=by show Below _ _ _;rw[hW];exact B0q.alloc L0q _
 have HT0:Hid (Tk W w.heap.size 0 {data:=#[]} 0 0 0 0 0):=by show Tk _ _ _ _ _ _ _ _ _;rw[hW];exact Tk.new w 0 {data:=#[]} 0 0 0 0 0
 obtain⟨n,hn⟩:∃n,n=rl S p:=⟨_,rfl⟩;have HLt:Hid (∀w:World,Calls prog 58 #[.string S,.int .i64 p] w fun e w'=>e=.returned (.int .i64 n)/\w'=w):=fun w=>by rw[hn];exact Jp S p w (by omega) (by omega)
 obtain⟨B,hB⟩:∃B,B=mkB x:=⟨_,rfl⟩;have HSg:Hid (∀w:World,Calls prog 90 #[.int .u8 x] w fun e w'=>e=.returned (.bool B)/\w'=w):=fun w=>by rw[hB];exact Fq x w
 have hrl:rl S p=0:=by unfold rl;rw[hb];simp[hl]
 have n0:(n:Int)=0:=by omega
 have hBt:B=false:=by rw[hB,hm]
 rw[hBt]at HSg;have t39:((x:Int) == 39)=false:=by simp;omega
 have t34:((x:Int) == 34)=false:=by simp;omega
 have t91:((x:Int) == 91)=false:=by simp;omega
 have t60:((x:Int) == 60)=true:=by simp;omega
 obtain⟨E,hE⟩:∃E,E=p+1:=⟨_,rfl⟩;have hc:(p:Int)+1=(E:Int):=by omega
 have e0:decide ((E:Int)<(S.size:Int))=false:=by simp;omega
 have e1:S.size<=E:=by omega
 clear hb hl hm hrl hn hB hBt hq h60 hE he;go_enter func63,ntmps63
 go_wp2_with fail
 rw[<-hW];clear hW;refine(HLt.out _).mono ?_;rintro e w0 ⟨rfl,rfl⟩
 go_wp2_with fail
 refine(HSg.out _).mono ?_;rintro e w1 ⟨rfl,rfl⟩;obtain⟨c0,c1,c2,c3,c4,c5,c6⟩:=HT0.out.cells;obtain⟨f0,f1,f2,f3,f4,f5,f6⟩:=HT0.out.thaw
 go_wp2_with fail
 obtain⟨r0,r1,r2,r3,r4,r5,r6⟩:=(HT0.out.st7 0 {data:=#[]} 0 0 0 0 0).cells;unfold st7 at r0 r1 r2 r3 r4 r5 r6
 (try simp only[Exit.inBlock,Exit.then])
 refine bodyPost_ret (v:=q3 0 {data:=#[]} 0 0 0 0 0 (p:Int) 4) (by simp[results,Tryz.results63,go_sem,r0,r1,r2,r3,r4,r5,r6]) rfl ?_;exact⟨rfl,Below.st7 HB1.out L0q _ _ _ _ _ _ _⟩
theorem y1P(S:ByteArray)(p x:Nat)(w:World)(hb:bt S p=some x)(hl:Qy x=false)(hq:x≠39/\x≠34/\x≠91)(hm:mkB x=false)(h60:x=60)(y:Nat)(hb2:bt S (p+1)=some y)(hy:y≠45)(hS:S.size<=9007199254740992):
  Calls prog 63 #[.string S,.int .i64 p] w fun e w'=>e=.returned (q3 0 {data:=#[]} 0 0 0 0 0 (p:Int) 4)/\Below w.heap.size w w':=by
 have hxl:=(Qx hb).2;obtain⟨hp,hxx⟩:=Qj hb;have hpI:(p:Int)<(S.size:Int):=by omega
 have hpI2:(p:Int)<=(S.size:Int):=by omega
 obtain⟨W,hW⟩:=Fx w;have HB1:Hid (Below w.heap.size w W):=by show Below _ _ _;rw[hW];exact B0q.alloc L0q _
 have HT0:Hid (Tk W w.heap.size 0 {data:=#[]} 0 0 0 0 0):=by show Tk _ _ _ _ _ _ _ _ _;rw[hW];exact Tk.new w 0 {data:=#[]} 0 0 0 0 0
 obtain⟨n,hn⟩:∃n,n=rl S p:=⟨_,rfl⟩;have HLt:Hid (∀w:World,Calls prog 58 #[.string S,.int .i64 p] w fun e w'=>e=.returned (.int .i64 n)/\w'=w):=fun w=>by rw[hn];exact Jp S p w (by omega) (by omega)
 obtain⟨B,hB⟩:∃B,B=mkB x:=⟨_,rfl⟩;have HSg:Hid (∀w:World,Calls prog 90 #[.int .u8 x] w fun e w'=>e=.returned (.bool B)/\w'=w):=fun w=>by rw[hB];exact Fq x w
 have hrl:rl S p=0:=by unfold rl;rw[hb];simp[hl]
 have n0:(n:Int)=0:=by omega
 have hBt:B=false:=by rw[hB,hm]
 rw[hBt]at HSg;have t39:((x:Int) == 39)=false:=by simp;omega
 have t34:((x:Int) == 34)=false:=by simp;omega
 have t91:((x:Int) == 91)=false:=by simp;omega
 have t60:((x:Int) == 60)=true:=by simp;omega
 obtain⟨E,hE⟩:∃E,E=p+1:=⟨_,rfl⟩;rw[<-hE]at hb2;obtain⟨hEk,hEx⟩:=Qj hb2;have hc:(p:Int)+1=(E:Int):=by omega
 have hE2:(E:Int)<(S.size:Int):=by omega
 have e0:decide ((E:Int)<(S.size:Int))=true:=by simp;omega
 have t45:((y:Int) == 45)=false:=by simp;omega
 clear hb hl hm hrl hn hB hBt hq h60 hE hb2 hy;go_enter func63,ntmps63
 go_wp2_with fail
 rw[<-hW];clear hW;refine(HLt.out _).mono ?_;rintro e w0 ⟨rfl,rfl⟩
 go_wp2_with fail
 refine(HSg.out _).mono ?_;rintro e w1 ⟨rfl,rfl⟩;obtain⟨c0,c1,c2,c3,c4,c5,c6⟩:=HT0.out.cells;obtain⟨f0,f1,f2,f3,f4,f5,f6⟩:=HT0.out.thaw
 go_wp2_with fail
 obtain⟨r0,r1,r2,r3,r4,r5,r6⟩:=(HT0.out.st7 0 {data:=#[]} 0 0 0 0 0).cells;unfold st7 at r0 r1 r2 r3 r4 r5 r6
 (try simp only[Exit.inBlock,Exit.then])
 refine bodyPost_ret (v:=q3 0 {data:=#[]} 0 0 0 0 0 (p:Int) 4) (by simp[results,Tryz.results63,go_sem,r0,r1,r2,r3,r4,r5,r6]) rfl ?_;exact⟨rfl,Below.st7 HB1.out L0q _ _ _ _ _ _ _⟩
theorem y1Q(S:ByteArray)(p x:Nat)(w:World)(hb:bt S p=some x)(hq:x=39∨x=34)(c:Nat×Nat)(hll:ll S x p (p+1) []=.inl c)(hS:S.size<=9007199254740992):
  Calls prog 63 #[.string S,.int .i64 p] w fun e w'=>e=.returned (q3 0 {data:=#[]} 0 0 0 0 0 (c.2:Int) (c.1:Int))/\Below w.heap.size w w':=by
 have hxl:=(Qx hb).2;obtain⟨hp,hxx⟩:=Qj hb;have hpI:(p:Int)<(S.size:Int):=by omega
 have hpI2:(p:Int)<=(S.size:Int):=by omega
 obtain⟨W,hW⟩:=Fx w;have HB1:Hid (Below w.heap.size w W):=by show Below _ _ _;rw[hW];exact B0q.alloc L0q _
 have HT0:Hid (Tk W w.heap.size 0 {data:=#[]} 0 0 0 0 0):=by show Tk _ _ _ _ _ _ _ _ _;rw[hW];exact Tk.new w 0 {data:=#[]} 0 0 0 0 0
 obtain⟨n,hn⟩:∃n,n=rl S p:=⟨_,rfl⟩;have HLt:Hid (∀w:World,Calls prog 58 #[.string S,.int .i64 p] w fun e w'=>e=.returned (.int .i64 n)/\w'=w):=fun w=>by rw[hn];exact Jp S p w (by omega) (by omega)
 obtain⟨B,hB⟩:∃B,B=mkB x:=⟨_,rfl⟩;have HSg:Hid (∀w:World,Calls prog 90 #[.int .u8 x] w fun e w'=>e=.returned (.bool B)/\w'=w):=fun w=>by rw[hB];exact Fq x w
 have hl:Qy x=false:=by rcases hq with h|h<;>(rw[h];rfl)
 have hm:mkB x=false:=by rcases hq with h|h<;>(rw[h];rfl)
 have hrl:rl S p=0:=by unfold rl;rw[hb];simp[hl]
 have n0:(n:Int)=0:=by omega
 have hBt:B=false:=by rw[hB,hm]
 rw[hBt]at HSg;have t60:((x:Int) == 60)=false:=by simp;omega
 have HQ:Hid (∀w:World,Calls prog 91 #[.string S,.int .i64 p] w fun e w'=>e=.returned (r3s (ll S x p (p+1) []))/\Below w.heap.size w w'):=fun w=>z4g S x p w hb hS
 rw[hll]at HQ;have hc0:(((c.1:Nat):Int) != 0)=true:=by
  have:=z1p hll;rw[bne_iff_ne];rcases this with h|h
  ·have:=h.1;omega
  ·rw[h];simp
 clear hb hl hm hrl hn hB hBt hll;rcases hq with h|h
 ·have t39:((x:Int) == 39)=true:=by simp;omega
  clear h;go_enter func63,ntmps63
  go_wp2_with fail
  rw[<-hW];clear hW;refine(HLt.out _).mono ?_;rintro e w0 ⟨rfl,rfl⟩
  go_wp2_with fail
  refine(HSg.out _).mono ?_;rintro e w1 ⟨rfl,rfl⟩
  go_wp2_with fail
  refine(HQ.out _).mono ?_;rintro e w2 ⟨rfl,hb2⟩;have HB2:Hid (Below w.heap.size w w2):=HB1.out.trans (hb2.mono HB1.out.size);have HT2:Hid (Tk w2 w.heap.size 0 {data:=#[]} 0 0 0 0 0):=HT0.out.below hb2 HT0.out.lt;clear hb2
  (try unfold r3s)
  obtain⟨c0,c1,c2,c3,c4,c5,c6⟩:=HT2.out.cells;obtain⟨f0,f1,f2,f3,f4,f5,f6⟩:=HT2.out.thaw
  go_wp2_with fail
  obtain⟨r0,r1,r2,r3,r4,r5,r6⟩:=(HT2.out.st7 0 {data:=#[]} 0 0 0 0 0).cells;unfold st7 at r0 r1 r2 r3 r4 r5 r6
  (try simp only[Exit.inBlock,Exit.then])
  refine bodyPost_ret (v:=q3 0 {data:=#[]} 0 0 0 0 0 (c.2:Int) (c.1:Int)) (by simp[results,Tryz.results63,go_sem,r0,r1,r2,r3,r4,r5,r6]) rfl ?_;exact⟨rfl,Below.st7 HB2.out L0q _ _ _ _ _ _ _⟩
 ·have t39:((x:Int) == 39)=false:=by simp;omega
  have t34:((x:Int) == 34)=true:=by simp;omega
  clear h;go_enter func63,ntmps63
  go_wp2_with fail
  rw[<-hW];clear hW;refine(HLt.out _).mono ?_;rintro e w0 ⟨rfl,rfl⟩
  go_wp2_with fail
  refine(HSg.out _).mono ?_;rintro e w1 ⟨rfl,rfl⟩
  go_wp2_with fail
  refine(HQ.out _).mono ?_;rintro e w2 ⟨rfl,hb2⟩;have HB2:Hid (Below w.heap.size w w2):=HB1.out.trans (hb2.mono HB1.out.size);have HT2:Hid (Tk w2 w.heap.size 0 {data:=#[]} 0 0 0 0 0):=HT0.out.below hb2 HT0.out.lt;clear hb2
  (try unfold r3s)
  obtain⟨c0,c1,c2,c3,c4,c5,c6⟩:=HT2.out.cells;obtain⟨f0,f1,f2,f3,f4,f5,f6⟩:=HT2.out.thaw
  go_wp2_with fail
  obtain⟨r0,r1,r2,r3,r4,r5,r6⟩:=(HT2.out.st7 0 {data:=#[]} 0 0 0 0 0).cells;unfold st7 at r0 r1 r2 r3 r4 r5 r6
  (try simp only[Exit.inBlock,Exit.then])
  refine bodyPost_ret (v:=q3 0 {data:=#[]} 0 0 0 0 0 (c.2:Int) (c.1:Int)) (by simp[results,Tryz.results63,go_sem,r0,r1,r2,r3,r4,r5,r6]) rfl ?_;exact⟨rfl,Below.st7 HB2.out L0q _ _ _ _ _ _ _⟩
theorem y1R(S:ByteArray)(p x:Nat)(w:World)(hb:bt S p=some x)(hq:x=39∨x=34)(l:List Nat)(m:Nat)(T:ByteArray)(hT:T=nb l)(hll:ll S x p (p+1) []=.inr (l,m))(hS:S.size<=9007199254740992):
  Calls prog 63 #[.string S,.int .i64 p] w fun e w'=>e=.returned (q3 3 T 0 0 0 0 (p:Int) (m:Int) 0)/\Below w.heap.size w w':=by
 have hxl:=(Qx hb).2;obtain⟨hp,hxx⟩:=Qj hb;have hpI:(p:Int)<(S.size:Int):=by omega
 have hpI2:(p:Int)<=(S.size:Int):=by omega
 obtain⟨W,hW⟩:=Fx w;have HB1:Hid (Below w.heap.size w W):=by show Below _ _ _;rw[hW];exact B0q.alloc L0q _
 have HT0:Hid (Tk W w.heap.size 0 {data:=#[]} 0 0 0 0 0):=by show Tk _ _ _ _ _ _ _ _ _;rw[hW];exact Tk.new w 0 {data:=#[]} 0 0 0 0 0
 obtain⟨n,hn⟩:∃n,n=rl S p:=⟨_,rfl⟩;have HLt:Hid (∀w:World,Calls prog 58 #[.string S,.int .i64 p] w fun e w'=>e=.returned (.int .i64 n)/\w'=w):=fun w=>by rw[hn];exact Jp S p w (by omega) (by omega)
 obtain⟨B,hB⟩:∃B,B=mkB x:=⟨_,rfl⟩;have HSg:Hid (∀w:World,Calls prog 90 #[.int .u8 x] w fun e w'=>e=.returned (.bool B)/\w'=w):=fun w=>by rw[hB];exact Fq x w
 have hl:Qy x=false:=by rcases hq with h|h<;>(rw[h];rfl)
 have hm:mkB x=false:=by rcases hq with h|h<;>(rw[h];rfl)
 have hrl:rl S p=0:=by unfold rl;rw[hb];simp[hl]
 have n0:(n:Int)=0:=by omega
 have hBt:B=false:=by rw[hB,hm]
 rw[hBt]at HSg;have t60:((x:Int) == 60)=false:=by simp;omega
 have HQ:Hid (∀w:World,Calls prog 91 #[.string S,.int .i64 p] w fun e w'=>e=.returned (r3s (ll S x p (p+1) []))/\Below w.heap.size w w'):=fun w=>z4g S x p w hb hS
 rw[hll]at HQ;unfold r3s at HQ;simp only at HQ;rw[<-hT]at HQ;clear hT;clear hb hl hm hrl hn hB hBt hll;rcases hq with h|h
 ·have t39:((x:Int) == 39)=true:=by simp;omega
  clear h;go_enter func63,ntmps63
  go_wp2_with fail
  rw[<-hW];clear hW;refine(HLt.out _).mono ?_;rintro e w0 ⟨rfl,rfl⟩
  go_wp2_with fail
  refine(HSg.out _).mono ?_;rintro e w1 ⟨rfl,rfl⟩
  go_wp2_with fail
  refine(HQ.out _).mono ?_;rintro e w2 ⟨rfl,hb2⟩;have HB2:Hid (Below w.heap.size w w2):=HB1.out.trans (hb2.mono HB1.out.size);have HT2:Hid (Tk w2 w.heap.size 0 {data:=#[]} 0 0 0 0 0):=HT0.out.below hb2 HT0.out.lt;clear hb2
  (try unfold r3s)
  obtain⟨c0,c1,c2,c3,c4,c5,c6⟩:=HT2.out.cells;obtain⟨f0,f1,f2,f3,f4,f5,f6⟩:=HT2.out.thaw
  go_wp2_with fail
  obtain⟨r0,r1,r2,r3,r4,r5,r6⟩:=(HT2.out.st7 3 T 0 0 0 0 (p:Int)).cells;unfold st7 at r0 r1 r2 r3 r4 r5 r6
  (try simp only[Exit.inBlock,Exit.then])
  refine bodyPost_ret (v:=q3 3 T 0 0 0 0 (p:Int) (m:Int) 0) (by simp[results,Tryz.results63,go_sem,r0,r1,r2,r3,r4,r5,r6]) rfl ?_;exact⟨rfl,Below.st7 HB2.out L0q _ _ _ _ _ _ _⟩
 ·have t39:((x:Int) == 39)=false:=by simp;omega
  have t34:((x:Int) == 34)=true:=by simp;omega
  clear h;go_enter func63,ntmps63
  go_wp2_with fail
  rw[<-hW];clear hW;refine(HLt.out _).mono ?_;rintro e w0 ⟨rfl,rfl⟩
  go_wp2_with fail
  refine(HSg.out _).mono ?_;rintro e w1 ⟨rfl,rfl⟩
  go_wp2_with fail
  refine(HQ.out _).mono ?_;rintro e w2 ⟨rfl,hb2⟩;have HB2:Hid (Below w.heap.size w w2):=HB1.out.trans (hb2.mono HB1.out.size);have HT2:Hid (Tk w2 w.heap.size 0 {data:=#[]} 0 0 0 0 0):=HT0.out.below hb2 HT0.out.lt;clear hb2
  (try unfold r3s)
  obtain⟨c0,c1,c2,c3,c4,c5,c6⟩:=HT2.out.cells;obtain⟨f0,f1,f2,f3,f4,f5,f6⟩:=HT2.out.thaw
  go_wp2_with fail
  obtain⟨r0,r1,r2,r3,r4,r5,r6⟩:=(HT2.out.st7 3 T 0 0 0 0 (p:Int)).cells;unfold st7 at r0 r1 r2 r3 r4 r5 r6
  (try simp only[Exit.inBlock,Exit.then])
  refine bodyPost_ret (v:=q3 3 T 0 0 0 0 (p:Int) (m:Int) 0) (by simp[results,Tryz.results63,go_sem,r0,r1,r2,r3,r4,r5,r6]) rfl ?_;exact⟨rfl,Below.st7 HB2.out L0q _ _ _ _ _ _ _⟩
theorem y1S(S:ByteArray)(p x:Nat)(w:World)(hb:bt S p=some x)(hq:x=91)(C m:Nat)(hcl:Xm (S.extract p S.size)=.inr (C,m))(hS:S.size<=9007199254740992):
  Calls prog 63 #[.string S,.int .i64 p] w fun e w'=>e=.returned (q3 4 {data:=#[]} (wd C 0:Nat) (wd C 1:Nat) (wd C 2:Nat) (wd C 3:Nat) (p:Int) ((p:Int)+(m:Int)) 0)/\Below w.heap.size w w':=by
 have hxl:=(Qx hb).2;obtain⟨hp,hxx⟩:=Qj hb;have hpI:(p:Int)<(S.size:Int):=by omega
 have hpI2:(p:Int)<=(S.size:Int):=by omega
 obtain⟨W,hW⟩:=Fx w;have HB1:Hid (Below w.heap.size w W):=by show Below _ _ _;rw[hW];exact B0q.alloc L0q _
 have HT0:Hid (Tk W w.heap.size 0 {data:=#[]} 0 0 0 0 0):=by show Tk _ _ _ _ _ _ _ _ _;rw[hW];exact Tk.new w 0 {data:=#[]} 0 0 0 0 0
 obtain⟨n,hn⟩:∃n,n=rl S p:=⟨_,rfl⟩;have HLt:Hid (∀w:World,Calls prog 58 #[.string S,.int .i64 p] w fun e w'=>e=.returned (.int .i64 n)/\w'=w):=fun w=>by rw[hn];exact Jp S p w (by omega) (by omega)
 obtain⟨B,hB⟩:∃B,B=mkB x:=⟨_,rfl⟩;have HSg:Hid (∀w:World,Calls prog 90 #[.int .u8 x] w fun e w'=>e=.returned (.bool B)/\w'=w):=fun w=>by rw[hB];exact Fq x w
 have hl:Qy x=false:=by rw[hq];rfl
 have hm:mkB x=false:=by rw[hq];rfl
 have hrl:rl S p=0:=by unfold rl;rw[hb];simp[hl]
 have n0:(n:Int)=0:=by omega
 have hBt:B=false:=by rw[hB,hm]
 rw[hBt]at HSg;have t60:((x:Int) == 60)=false:=by simp;omega
 have t39:((x:Int) == 39)=false:=by simp;omega
 have t34:((x:Int) == 34)=false:=by simp;omega
 have t91:((x:Int) == 91)=true:=by simp;omega
 obtain⟨T,hT⟩:∃T,T=S.extract p S.size:=⟨_,rfl⟩;have hTs:T.size<=S.size:=by rw[hT,ByteArray.size_extract];omega
 have hT2:S.extract p S.size=T:=hT.symm;rw[<-hT]at hcl;have HQ:Hid (∀w:World,Calls prog 92 #[.string T] w fun e w'=>e=.returned (rA (Xm T))/\Below w.heap.size w w'):=fun w=>z4h T w (by omega)
 rw[hcl]at HQ;have hm8:=(Pp hcl).2.2;clear hb hl hm hrl hn hB hBt hcl hq hT;go_enter func63,ntmps63
 go_wp2_with fail
 rw[<-hW];clear hW;refine(HLt.out _).mono ?_;rintro e w0 ⟨rfl,rfl⟩
 go_wp2_with fail
 refine(HSg.out _).mono ?_;rintro e w1 ⟨rfl,rfl⟩
 go_wp2_with fail
 refine(HQ.out _).mono ?_;rintro e w2 ⟨rfl,hb2⟩;have HB2:Hid (Below w.heap.size w w2):=HB1.out.trans (hb2.mono HB1.out.size);have HT2:Hid (Tk (w2.alloc (.cells #[.int .u64 (wd C 0),.int .u64 (wd C 1),.int .u64 (wd C 2),.int .u64 (wd C 3)] 27)) w.heap.size 0 {data:=#[]} 0 0 0 0 0):=(HT0.out.below hb2 HT0.out.lt).alloc _;clear hb2;unfold rA cv;obtain⟨c0,c1,c2,c3,c4,c5,c6⟩:=HT2.out.cells;obtain⟨f0,f1,f2,f3,f4,f5,f6⟩:=HT2.out.thaw
 go_wp2_with fail
 obtain⟨r0,r1,r2,r3,r4,r5,r6⟩:=(HT2.out.st7 4 {data:=#[]} (wd C 0:Nat) (wd C 1:Nat) (wd C 2:Nat) (wd C 3:Nat) (p:Int)).cells;unfold st7 at r0 r1 r2 r3 r4 r5 r6
 (try simp only[Exit.inBlock,Exit.then])
 refine bodyPost_ret (v:=q3 4 {data:=#[]} (wd C 0:Nat) (wd C 1:Nat) (wd C 2:Nat) (wd C 3:Nat) (p:Int) ((p:Int)+(m:Int)) 0) (by simp[results,Tryz.results63,go_sem,r0,r1,r2,r3,r4,r5,r6]) rfl ?_;exact⟨rfl,Below.st7 (HB2.out.alloc HB2.out.size _) L0q _ _ _ _ _ _ _⟩
theorem y1T(S:ByteArray)(p x:Nat)(w:World)(hb:bt S p=some x)(hq:x=91)(c:Nat×Nat)(hcl:Xm (S.extract p S.size)=.inl c)(hS:S.size<=9007199254740992):
  Calls prog 63 #[.string S,.int .i64 p] w fun e w'=>e=.returned (q3 0 {data:=#[]} 0 0 0 0 0 ((p:Int)+(c.2:Int)) (c.1:Int))/\Below w.heap.size w w':=by
 have hxl:=(Qx hb).2;obtain⟨hp,hxx⟩:=Qj hb;have hpI:(p:Int)<(S.size:Int):=by omega
 have hpI2:(p:Int)<=(S.size:Int):=by omega
 obtain⟨W,hW⟩:=Fx w;have HB1:Hid (Below w.heap.size w W):=by show Below _ _ _;rw[hW];exact B0q.alloc L0q _
 have HT0:Hid (Tk W w.heap.size 0 {data:=#[]} 0 0 0 0 0):=by show Tk _ _ _ _ _ _ _ _ _;rw[hW];exact Tk.new w 0 {data:=#[]} 0 0 0 0 0
 obtain⟨n,hn⟩:∃n,n=rl S p:=⟨_,rfl⟩;have HLt:Hid (∀w:World,Calls prog 58 #[.string S,.int .i64 p] w fun e w'=>e=.returned (.int .i64 n)/\w'=w):=fun w=>by rw[hn];exact Jp S p w (by omega) (by omega)
 obtain⟨B,hB⟩:∃B,B=mkB x:=⟨_,rfl⟩;have HSg:Hid (∀w:World,Calls prog 90 #[.int .u8 x] w fun e w'=>e=.returned (.bool B)/\w'=w):=fun w=>by rw[hB];exact Fq x w
 have hl:Qy x=false:=by rw[hq];rfl
 have hm:mkB x=false:=by rw[hq];rfl
 have hrl:rl S p=0:=by unfold rl;rw[hb];simp[hl]
 have n0:(n:Int)=0:=by omega
 have hBt:B=false:=by rw[hB,hm]
 rw[hBt]at HSg;have t60:((x:Int) == 60)=false:=by simp;omega
 have t39:((x:Int) == 39)=false:=by simp;omega
 have t34:((x:Int) == 34)=false:=by simp;omega
 have t91:((x:Int) == 91)=true:=by simp;omega
 obtain⟨T,hT⟩:∃T,T=S.extract p S.size:=⟨_,rfl⟩;have hTs:T.size<=S.size:=by rw[hT,ByteArray.size_extract];omega
 have hT2:S.extract p S.size=T:=hT.symm;rw[<-hT]at hcl;have HQ:Hid (∀w:World,Calls prog 92 #[.string T] w fun e w'=>e=.returned (rA (Xm T))/\Below w.heap.size w w'):=fun w=>z4h T w (by omega)
 rw[hcl]at HQ;have hm8:=(Sq hcl).2;have hc0:(((c.1:Nat):Int) != 0)=true:=by have:=(Sq hcl).1;rw[bne_iff_ne];omega
 clear hb hl hm hrl hn hB hBt hcl hq hT;go_enter func63,ntmps63
 go_wp2_with fail
 rw[<-hW];clear hW;refine(HLt.out _).mono ?_;rintro e w0 ⟨rfl,rfl⟩
 go_wp2_with fail
 refine(HSg.out _).mono ?_;rintro e w1 ⟨rfl,rfl⟩
 go_wp2_with fail
 refine(HQ.out _).mono ?_;rintro e w2 ⟨rfl,hb2⟩;have HB2:Hid (Below w.heap.size w w2):=HB1.out.trans (hb2.mono HB1.out.size);have HT2:Hid (Tk (w2.alloc (.cells #[.int .u64 (wd 0 0),.int .u64 (wd 0 1),.int .u64 (wd 0 2),.int .u64 (wd 0 3)] 27)) w.heap.size 0 {data:=#[]} 0 0 0 0 0):=(HT0.out.below hb2 HT0.out.lt).alloc _;clear hb2;unfold rA cv;obtain⟨c0,c1,c2,c3,c4,c5,c6⟩:=HT2.out.cells;obtain⟨f0,f1,f2,f3,f4,f5,f6⟩:=HT2.out.thaw
 go_wp2_with fail
 obtain⟨r0,r1,r2,r3,r4,r5,r6⟩:=(HT2.out.st7 0 {data:=#[]} 0 0 0 0 0).cells;unfold st7 at r0 r1 r2 r3 r4 r5 r6
 (try simp only[Exit.inBlock,Exit.then])
 refine bodyPost_ret (v:=q3 0 {data:=#[]} 0 0 0 0 0 ((p:Int)+(c.2:Int)) (c.1:Int)) (by simp[results,Tryz.results63,go_sem,r0,r1,r2,r3,r4,r5,r6]) rfl ?_;exact⟨rfl,Below.st7 (HB2.out.alloc HB2.out.size _) L0q _ _ _ _ _ _ _⟩
def q3r(r:(Bool×(Nat×Nat)) ⊕ (Tok×Nat))(p:Nat):Value:=
 match r with
 | .inr (t,n)=>.tuple #[tkv t,.int .i64 n,.int .i64 0]
 | .inl b=>.tuple #[tv 0 {data:=#[]} 0 0 0 0 0,.int .i64 ((wrg p b).2:Int),.int .i64 ((wrg p b).1:Int)]
theorem y1U(S:ByteArray)(p x:Nat)(w:World)(hb:bt S p=some x)(hS:S.size<=9007199254740992):
  Calls prog 63 #[.string S,.int .i64 p] w fun e w'=>e=.returned (q3r (Zp S p x) p)/\Below w.heap.size w w':=by
 unfold Zp;cases hl:Qy x with
 |true=>
  simp only[if_true];by_cases h32:32<ne S p-p
  ·rw[if_pos h32]
   exact y1J S p x w hb hl h32 hS
  ·rw[if_neg h32]
   have:=y1K S p x w hb hl h32 _ _ rfl rfl hS;simpa [q3r,tkv,tv,q3,Yz]using this
 |false=>
  simp only[Bool.false_eq_true,if_false];by_cases hq:x=39∨x=34
  ·rw[if_pos hq]
   cases hm:ll S x p (p+1) []with
   |inl c=>exact y1Q S p x w hb hq c hm hS
   |inr r=>
    obtain⟨l,m⟩:=r;have:=y1R S p x w hb hq l m _ rfl hm hS;simpa [q3r,tkv,tv,q3,Yz]using this
  ·rw[if_neg hq]
   by_cases hc:x=91
   ·rw[if_pos hc]
    cases hm:Xm (S.extract p S.size)with
    |inl c=>
     have:=y1T S p x w hb hc c hm hS;simpa [q3r,tv,q3,wrg]using this
    |inr r=>
     obtain⟨C,m⟩:=r;have:=y1S S p x w hb hc C m hm hS;simpa [q3r,tkv,tv,q3]using this
   ·rw[if_neg hc]
    cases ha:arB S p with
    |true=>
     have:=y1M S p x w hb ha hS;simpa [q3r,tkv,tv,q3,Yz]using this
    |false=>
     simp only[Bool.false_eq_true,if_false];cases hm:mkB x with
     |true=>
      have:=y1L S p x w hb hl hm _ rfl hS;simpa [q3r,tkv,tv,q3,Yz]using this
     |false=>
      simp only[Bool.false_eq_true,if_false];have hq2:x≠39/\x≠34/\x≠91:=by omega
      by_cases h60:x=60
      ·cases hb2:bt S (p+1)with
       |none=>exact y1O S p x w hb hl hq2 hm h60 (Qm hb2) hS
       |some y=>
        refine y1P S p x w hb hl hq2 hm h60 y hb2 (fun e=> ?_) hS;unfold arB at ha;rw[hb,hb2,h60,e]at ha;simp at ha
      ·exact y1N S p x w hb hl hq2 hm h60 hS
end Go.Proofs.YtikfnaffiehpaaaGreatDoor
