/-
  The law PrintWrites, with what its callees answer given. Conditions: those that each theorem names.
  The rows of an argument weigh no more than the card's own reach. Conditions: those that each theorem names.
  What the given list of variables gives a walk that comes to errors.As: the variable of package errors holds the handle of the type error. Condition: the list is met.
  What the given list of variables gives a walk: the table of package bits and the variable of package errors, in their places. Condition: the list is met.
  muntinlaw05.PrintWrites answers true whatever its arguments, and they read as they did (the given card). Condition: the listed package-level variables are what the program's own text lays; the card ties them to that text.
-/
import Derived.Test.YtikfnaffiehpaaaGreatDoorVNAToND
import Derived.Test.YtikfnaffiehpaaaGreatDoorVSFToS7
import Derived.SizedLaws
import Derived.Test.YtikfnaffiehpaaaGreatDoorVEAs2ToX16
import Derived.Test.YtikfnaffiehpaaaGreatDoorRows
import Derived.ProofKit
import Derived.OpenShut
import Derived.Carry
import Derived.Test.YtikfnaffiehpaaaGreatDoorCards
import Derived.Test.YtikfnaffiehpaaaGreatDoorTie
import Derived.LaidMore
import Derived.LaidHandle
import Derived.Stop.Joined
import Derived.Lib.LaidTab
import Derived.Test.YtikfnaffiehpaaaGreatDoorVQ1ToQ2
set_option linter.unusedVariables false
set_option maxRecDepth 100000
set_option maxHeartbeats 16000000
namespace Go.Proofs.YtikfnaffiehpaaaGreatDoor
open Go.Proofs.Tryz
open Go.RowKit Go.Shelf
structure Mw (w:World) (so:Option Addr) (n cap:Nat) (cs:Array Value) (W:World):Prop where
 be:Below w.heap.size w W
 g0:W.heap[w.heap.size]? =some (.cells #[.slice so n cap] 24)
 g1:W.heap[w.heap.size+1]? =some (.cells cs 30)
theorem Mw.size{w:World}{so:Option Addr}{n cap:Nat}{cs:Array Value}{W:World}(h:Mw w so n cap cs W):w.heap.size+1<W.heap.size:=Qz h.g1
theorem Mw.below{w:World}{so:Option Addr}{n cap:Nat}{cs:Array Value}{W W':World}(h:Mw w so n cap cs W)(hb:Below W.heap.size W W'):Mw w so n cap cs W':=
 ⟨h.be.trans (hb.mono h.be.size),(hb.block _ (by have:=h.size;omega)).trans h.g0,(hb.block _ h.size).trans h.g1⟩
theorem Nk{W w':World}{g j:Nat}{u:Value}(hb:Below W.heap.size W w')(h:W.cell? ⟨g,j,none⟩=some u):w'.cell? ⟨g,j,none⟩=some u:=by
 have hl:g<W.heap.size:=by
  rcases Nat.lt_or_ge g W.heap.size with h1|h1
  ·exact h1
  ·simp[World.cell?,Array.getElem?_eq_none h1]at h
 exact(hb.cell (p:=⟨g,j,none⟩) hl).trans h
theorem y2V{w W w':World}{G n1 cap1:Nat}{k a b c d p:Int}{T:ByteArray}{so1:Option Addr}(hb:Below W.heap.size W w')(h:Hid (Below w.heap.size w W)/\W.cell? ⟨G,0,none⟩=some (.int .i64 k)/\W.cell? ⟨G,1,none⟩=some (.string T)/\W.cell? ⟨G,2,none⟩=some (.int .u64 a)/\W.cell? ⟨G,3,none⟩=some (.int .u64 b)/\W.cell? ⟨G,4,none⟩=some (.int .u64 c)/\W.cell? ⟨G,5,none⟩=some (.int .u64 d)/\W.cell? ⟨G,6,none⟩=some (.slice so1 n1 cap1)/\W.cell? ⟨G,7,none⟩=some (.int .i64 p)):Hid (Below w.heap.size w w')/\w'.cell? ⟨G,0,none⟩=some (.int .i64 k)/\w'.cell? ⟨G,1,none⟩=some (.string T)/\w'.cell? ⟨G,2,none⟩=some (.int .u64 a)/\w'.cell? ⟨G,3,none⟩=some (.int .u64 b)/\w'.cell? ⟨G,4,none⟩=some (.int .u64 c)/\w'.cell? ⟨G,5,none⟩=some (.int .u64 d)/\w'.cell? ⟨G,6,none⟩=some (.slice so1 n1 cap1)/\w'.cell? ⟨G,7,none⟩=some (.int .i64 p):=
 ⟨hid (h.1.out.trans (hb.mono h.1.out.size)),Nk hb h.2.1,Nk hb h.2.2.1,Nk hb h.2.2.2.1,Nk hb h.2.2.2.2.1,Nk hb h.2.2.2.2.2.1,Nk hb h.2.2.2.2.2.2.1,Nk hb h.2.2.2.2.2.2.2.1,Nk hb h.2.2.2.2.2.2.2.2⟩
theorem Py(so:Option Addr)(n cap:Nat)(rs:List Rr)(k:Int)(T:ByteArray)(a b c d p:Int)(so1:Option Addr)(n1 cap1:Nat)(w:World)(S XE:ByteArray)(E:Value)(c0:Int)
  (h:Xb w)(hT:TabIs w)(hg:Xh w w.heap.size so n rs)(hn:n*112<=140737488351232)(hS:∀x∈rs,RtS x.2.1)
  (HP:Hid (∀W:World,Below w.heap.size w W->Calls prog 11 #[.agg #[.slice so n cap]] W fun e w'=>e=.returned (.tuple #[.string S,E])/\Below W.heap.size W w'))
  (HM:Hid (∀W:World,Below w.heap.size w W->Calls prog 13 #[.agg #[.slice so n cap]] W fun e w'=>e=.returned (.tuple #[.string S,.int .i64 c0])/\Below W.heap.size W w'))
  (HCd:Hid (∀W:World,Below w.heap.size w W->Calls prog 14 #[E] W fun e w'=>e=.returned (.int .i64 c0)/\Below W.heap.size W w'))
  (HX:Hid (∀W:World,Below w.heap.size w W->Calls prog 15 #[.agg (r8 k T a b c d so1 n1 cap1 p).toArray] W fun e w'=>e=.returned (.string XE)/\Below W.heap.size W w'))
  (HY:Hid (∀W:World,Below w.heap.size w W->Calls prog 16 #[.agg (r8 k T a b c d so1 n1 cap1 p).toArray] W fun e w'=>e=.returned (.string XE)/\Below W.heap.size W w')):
  Calls prog 3 #[.agg #[.slice so n cap],.agg (r8 k T a b c d so1 n1 cap1 p).toArray] w fun e w'=>e=.returned (.bool true)/\Below w.heap.size w w':=by
 have HR:=hid (fun(W:World) (hb:Below w.heap.size w W)=>y2S so n cap (.string S) E W (hid fun W' hb'=>HP.out W' (hb.trans (hb'.mono hb.size))));have HCo:=hid (fun(W:World) (hb:Below w.heap.size w W)=>y2U so n cap rs w.heap.size W hn hS (hg.below hb) hb.size);have HSm:=hid (fun(W:World) (hb:Below w.heap.size w W)=>y2w W (h.below hb h.lt) (hT.below hb hT.lt));have HG:=hid hg;clear hg hS h hT;dsimp only[r8]at HX HY ⊢;obtain⟨W0,hW0⟩:∃W0,W0=(w.alloc (.cells #[.slice so n cap] 24)).alloc (.cells #[.int .i64 k,.string T,.int .u64 a,.int .u64 b,.int .u64 c,.int .u64 d,.slice so1 n1 cap1,.int .i64 p] 30):=⟨_,rfl⟩;have HM0:Hid (Mw w so n cap #[.int .i64 k,.string T,.int .u64 a,.int .u64 b,.int .u64 c,.int .u64 d,.slice so1 n1 cap1,.int .i64 p] W0):=by
  rw[hW0];exact⟨((Below.refl _ w).alloc L0q _).alloc (by simp) _,(Below.heap_alloc _ _ _ (by simp)).trans (Qq w _ rfl),Qq _ _ (by simp)⟩
 have HW0:=hid hW0;clear hW0;go_enter func3,ntmps3
 go_wp2_with fail
 rw[<-HW0.out];refine(HSm.out _ HM0.out.be).mono ?_;rintro e w1 ⟨rfl,hb1⟩;have HM1:=hid (HM0.out.below hb1.out);obtain⟨m1,_⟩:=Zl HM1.out.g0;clear hb1 HM0 HW0 HSm
 go_wp2_with fail
 refine(HCo.out _ HM1.out.be).mono ?_;rintro e w2 ⟨so',cap',rfl,HR2,hb2⟩;have HM2:=hid ((HM1.out.below hb2.out).below ((Below.refl _ w2).alloc L0q (.cells #[.slice so' n cap'] 24)));have HD2:Hid ((w2.alloc (.cells #[.slice so' n cap'] 24)).heap[w2.heap.size]? =some (.cells #[.slice so' n cap'] 24)):=Qq w2 _ rfl;have HR3:Hid (Xh (w2.alloc (.cells #[.slice so' n cap'] 24)) w2.heap.size so' n rs):=HR2.out.below ((Below.refl _ w2).alloc L0q _);obtain⟨W2,hW2⟩:∃W2,W2=w2.alloc (.cells #[.slice so' n cap'] 24):=⟨_,rfl⟩;obtain⟨D,hD⟩:∃D,D=w2.heap.size:=⟨_,rfl⟩;rw[<-hW2]at HM2 HD2 HR3;rw[<-hD]at HD2 HR3;obtain⟨m2,_⟩:=Zl (HM1.out.below hb2.out).g0;have m3:=Qz (HM1.out.below hb2.out).g0;have HW2:=hid hW2;have HDd:=hid hD;clear hb2 HM1 HR2 HCo m1 hW2 hD
 go_wp2_with fail
 rw[<-HW2.out]
 (try rw[<-HDd.out])
 refine(HR.out _ HM2.out.be).mono ?_;rintro e w3 ⟨rfl,hb3⟩;have HM3:=hid (HM2.out.below hb3);have HD3:=hid ((hb3.block _ (Qz HD2.out)).trans HD2.out);have HR4:=hid (HR3.out.below (hb3.mono (Nat.le_of_lt (Qz HD2.out))));obtain⟨k2,_⟩:=Zl HM3.out.g0;clear hb3 HM2 HD2 HR3 HR HW2 HDd m2 m3
 go_wp2_with fail
 refine(HP.out _ HM3.out.be).mono ?_;rintro e w4 ⟨rfl,hb4⟩;have HM4:=hid (HM3.out.below hb4);have HD4:=hid ((hb4.block _ (Qz HD3.out)).trans HD3.out);have HR5:=hid (HR4.out.below (hb4.mono (Nat.le_of_lt (Qz HD3.out))));obtain⟨m2,_⟩:=Zl HM4.out.g0;obtain⟨m3,_⟩:=Zl HD4.out;have HZ:=hid (z4J true (cap:=cap) (cap':=cap') (HG.out.below HM4.out.be) HR5.out HM4.out.be.size (Nat.le_of_lt (Qz HD4.out)) (SmG.refl true rs));clear hb4 HM3 HD3 HR4 HP k2
 go_wp2_with fail
 refine HZ.out.mono ?_;rintro e w5 ⟨rfl,hb5⟩;have HM5:=hid (HM4.out.below hb5);obtain⟨k2,_⟩:=Zl HM5.out.g0;clear hb5 HM4 HD4 HR5 HZ HG m2 m3
 go_wp2_with fail
 refine(HM.out _ HM5.out.be).mono ?_;rintro e w6 ⟨rfl,hb6⟩;have HM6:=hid (HM5.out.below hb6);obtain⟨⟨y0,y1,y2,y3,y4,y5,y6,y7⟩,_⟩:=Qk HM6.out.g1;have S7:(fun W=>Hid (Below w.heap.size w W)/\W.cell? ⟨w.heap.size+1,0,none⟩=some (.int .i64 k)/\W.cell? ⟨w.heap.size+1,1,none⟩=some (.string T)/\W.cell? ⟨w.heap.size+1,2,none⟩=some (.int .u64 a)/\W.cell? ⟨w.heap.size+1,3,none⟩=some (.int .u64 b)/\W.cell? ⟨w.heap.size+1,4,none⟩=some (.int .u64 c)/\W.cell? ⟨w.heap.size+1,5,none⟩=some (.int .u64 d)/\W.cell? ⟨w.heap.size+1,6,none⟩=some (.slice so1 n1 cap1)/\W.cell? ⟨w.heap.size+1,7,none⟩=some (.int .i64 p)) w6.drew:=⟨hid HM6.out.be.drew,y0,y1,y2,y3,y4,y5,y6,y7⟩;have S8:(fun W=>Hid (Below w.heap.size w W)/\W.cell? ⟨w.heap.size+1,0,none⟩=some (.int .i64 k)/\W.cell? ⟨w.heap.size+1,1,none⟩=some (.string T)/\W.cell? ⟨w.heap.size+1,2,none⟩=some (.int .u64 a)/\W.cell? ⟨w.heap.size+1,3,none⟩=some (.int .u64 b)/\W.cell? ⟨w.heap.size+1,4,none⟩=some (.int .u64 c)/\W.cell? ⟨w.heap.size+1,5,none⟩=some (.int .u64 d)/\W.cell? ⟨w.heap.size+1,6,none⟩=some (.slice so1 n1 cap1)/\W.cell? ⟨w.heap.size+1,7,none⟩=some (.int .i64 p)) w6:=⟨hid HM6.out.be,y0,y1,y2,y3,y4,y5,y6,y7⟩;clear hb6 HM5 HM k2
 go_wp2_with fail
 go_region_held3 (fun W=>Hid (Below w.heap.size w W)/\W.cell? ⟨w.heap.size+1,0,none⟩=some (.int .i64 k)/\W.cell? ⟨w.heap.size+1,1,none⟩=some (.string T)/\W.cell? ⟨w.heap.size+1,2,none⟩=some (.int .u64 a)/\W.cell? ⟨w.heap.size+1,3,none⟩=some (.int .u64 b)/\W.cell? ⟨w.heap.size+1,4,none⟩=some (.int .u64 c)/\W.cell? ⟨w.heap.size+1,5,none⟩=some (.int .u64 d)/\W.cell? ⟨w.heap.size+1,6,none⟩=some (.slice so1 n1 cap1)/\W.cell? ⟨w.heap.size+1,7,none⟩=some (.int .i64 p)) (first|assumption|exact y2V (by assumption) (by assumption)) (first|(go_at_call 14;refine(HCd.out _ ?hh).mono ?_;(case hh=>exact Hid.out (And.left (by assumption)));rintro e wr ⟨rfl,hbr⟩)|(go_at_call 15;refine(HX.out _ ?hh).mono ?_;(case hh=>exact Hid.out (And.left (by assumption)));rintro e wr ⟨rfl,hbr⟩)|(go_at_call 16;refine(HY.out _ ?hh).mono ?_;(case hh=>exact Hid.out (And.left (by assumption)));rintro e wr ⟨rfl,hbr⟩))
 all_goals
  have T7:(fun W=>Hid (Below w.heap.size w W)/\W.cell? ⟨w.heap.size+1,0,none⟩=some (.int .i64 k)/\W.cell? ⟨w.heap.size+1,1,none⟩=some (.string T)/\W.cell? ⟨w.heap.size+1,2,none⟩=some (.int .u64 a)/\W.cell? ⟨w.heap.size+1,3,none⟩=some (.int .u64 b)/\W.cell? ⟨w.heap.size+1,4,none⟩=some (.int .u64 c)/\W.cell? ⟨w.heap.size+1,5,none⟩=some (.int .u64 d)/\W.cell? ⟨w.heap.size+1,6,none⟩=some (.slice so1 n1 cap1)/\W.cell? ⟨w.heap.size+1,7,none⟩=some (.int .i64 p)) wr:=by assumption
  go_wp2_with fail
  go_ret;exact⟨rfl,T7.1.out⟩
theorem y2W(so:Option Addr)(n cap:Nat)(rs:List Rr)(k:Int)(T:ByteArray)(a b c d p:Int)(so1:Option Addr)(n1 cap1:Nat)(t:RT)(w:World)(h:Xb w)(hT:TabIs w)(hg:Xh w w.heap.size so n rs)(hz:RgZ rs)(hu:RgU rs)(hn:n*112<=140737488351232)(hS:∀x∈rs,RtS x.2.1)
  (ht:Qh w w.heap.size t (r8 k T a b c d so1 n1 cap1 p))(htz:RtZ t)(htu:RtU t):
  Calls prog 3 #[.agg #[.slice so n cap],.agg (r8 k T a b c d so1 n1 cap1 p).toArray] w fun e w'=>e=.returned (.bool true)/\Below w.heap.size w w':=by
 have hX:∃XE,(∀W:World,Below w.heap.size w W->Calls prog 15 #[.agg (r8 k T a b c d so1 n1 cap1 p).toArray] W fun e w'=>e=.returned (.string XE)/\Below W.heap.size W w')/\(∀W:World,Below w.heap.size w W->Calls prog 16 #[.agg (r8 k T a b c d so1 n1 cap1 p).toArray] W fun e w'=>e=.returned (.string XE)/\Below W.heap.size W w'):=by
  cases hk:okT t with
  |false=>exact⟨{data:=#[]},fun W hb=>y2N k T a b c d p so1 n1 cap1 t W ((ht.below hb).mono hb.size _ _) htz hk,fun W hb=>y2R k T a b c d p so1 n1 cap1 t W ((ht.below hb).mono hb.size _ _) htz hk⟩
  |true=>
   obtain⟨nd,hq,hv,hw⟩:=z0w t hk htu;exact⟨exS nd,fun W hb=>y2M k T a b c d p so1 n1 cap1 t nd W (hT.below hb hT.lt) ((ht.below hb).mono hb.size _ _) htz hq hv hw,fun W hb=>y2Q k T a b c d p so1 n1 cap1 t nd W ((ht.below hb).mono hb.size _ _) htz hq hv hw⟩
 obtain⟨XE,hX1,hX2⟩:=hX;have hce:∀c0:Int,∀W:World,Below w.heap.size w W->Calls prog 14 #[.iface 39 (.int .i64 c0)] W fun e w'=>e=.returned (.int .i64 c0)/\Below W.heap.size W w':=fun c0 W hb=>y2o c0 W (h.below hb h.lt)
 have hcn:∀W:World,Below w.heap.size w W->Calls prog 14 #[.nilIface] W fun e w'=>e=.returned (.int .i64 0)/\Below W.heap.size W w':=fun W hb=>(z5Y W).mono fun e w' h=>⟨h.1,by rw[h.2];exact Below.refl _ _⟩
 cases hk:okG rs with
 |false=>exact Py so n cap rs k T a b c d p so1 n1 cap1 w _ XE _ 20 h hT hg hn hS (hid fun W hb=>z3E so n cap rs w.heap.size W hz (hg.below hb) hb.size hk) (hid fun W hb=>z4V so n cap rs w.heap.size W hz (hg.below hb) hb.size hk) (hid (hce 20)) (hid hX1) (hid hX2)
 |true=>
  obtain⟨ns,hq,hx,hn1,hn64⟩:=y2F hk hu;have hP:=fun(W:World) (hb:Below w.heap.size w W)=>Wl so n cap rs ns w.heap.size W hz (hg.below hb) hb.size hk hq hx (hT.below hb hT.lt)
  have hM:=fun(W:World) (hb:Below w.heap.size w W)=>z4W so n cap rs ns w.heap.size W hz (hg.below hb) hb.size hk hq hx hn1 hn64
  rcases Nat.lt_or_ge 8192 (sz (pR qT cT ns))with hlong|hshort
  ·rw[Wp hlong]at hP
   rw[show Dj ns=_ from if_pos hlong]at hM;exact Py so n cap rs k T a b c d p so1 n1 cap1 w _ XE _ 2 h hT hg hn hS (hid hP) (hid hM) (hid (hce 2)) (hid hX1) (hid hX2)
  rcases Nat.lt_or_ge 24 (dR ns)with hdeep|hflat
  ·rw[Wc hshort hdeep]at hP
   rw[show Dj ns=_ from(if_neg (by omega)).trans (if_pos hdeep)]at hM;exact Py so n cap rs k T a b c d p so1 n1 cap1 w _ XE _ 20 h hT hg hn hS (hid hP) (hid hM) (hid (hce 20)) (hid hX1) (hid hX2)
  ·rw[Ov hshort hflat]at hP
   rw[show Dj ns=_ from(if_neg (by omega)).trans (if_neg (by omega))]at hM;exact Py so n cap rs k T a b c d p so1 n1 cap1 w _ XE _ 0 h hT hg hn hS (hid hP) (hid hM) (hid hcn) (hid hX1) (hid hX2)
section
open Go.ChangeShapes Go.WideShapes Go.ChangeAt
theorem Tryz.bytesNode:Tryz.prog.bytesOf 30=88:=by kernel_rfl
theorem Tryz.bytesRule:Tryz.prog.bytesOf 50=112:=by kernel_rfl
theorem z4Y{H:Type}{P:Program}{e:TypeId}:∀{l:List (DataW H)} {d:DataW H},d∈l->∀n∈d.weights P e,n∈DataW.weightsAll P e l
 |a::r,d,h,n,hn=>by
  rw[DataW.weightsAll,List.mem_append];rcases List.mem_cons.1 h with rfl|h
  ·exact .inl hn
  ·exact .inr (z4Y h n hn)
theorem z4Z:∀{s:List RT},(∀j (h:j<s.length),RtS s[j])->Fj s
 |[],_=>by rw[Fj];trivial
 |t::r,h=>by rw[Fj];exact⟨h 0 (by simp),z4Z fun j hj=>h (j+1) (by simpa using hj)⟩
section
variable {H:Type} {enc:TypeId×Value->H} {W:World} {sp:Nat->Bool} {hl:Bool}
theorem z5a{e t:TypeId}{y:DataW H}{elems rest:List (DataW H)}(hu:Tryz.prog.underlying t=some (.slice e))(hy:y=.slice elems rest)(hw:∀n∈y.weights prog t,n<=reachBytes):elems.length*Tryz.prog.bytesOf e<=reachBytes/\∀d∈elems,∀n∈d.weights prog e,n<=reachBytes:=by
 subst hy;have hm:∀n,n=(elems.length+rest.length)*Tryz.prog.bytesOf e∨n∈DataW.weightsAll prog e elems->n<=reachBytes:=fun n hn=>hw n (by
  simp only[DataW.weights,hu,List.mem_cons,List.mem_append];rcases hn with h|h
  ·exact .inl h
  ·exact .inr (.inl h))
 refine⟨Nat.le_trans (Nat.mul_le_mul_right _ (Nat.le_add_right _ _)) (hm _ (.inl rfl)),fun d hd n hn=>hm n (.inr (z4Y hd n hn))⟩
theorem z0B{t:TypeId}{fs:Array Field}{l:List (String×TypeId×Nat)}(hu:Tryz.prog.underlying t=some (.struct fs))(hl:fs.toList.map (fun f=>(f.name,f.type,f.offset))=l){xs:List (DataW H×List MemPlace)}{y:DataW H}(hy:y=.agg (xs.map (·.1)))(hw:∀n∈y.weights prog t,n<=reachBytes){i:Nat}{q:String×TypeId×Nat}{x:DataW H×List MemPlace}(hi:l[i]? =some q)(hx:xs[i]? =some x):∀n∈x.1.weights prog q.2.1,n<=reachBytes:=by
 subst hy;intro n hn;refine hw n ?_;simp only[DataW.weights,hu];refine DataW.weights_mem_each (j:=i) (t:=q.2.1) (d:=x.1) ?_ (by rw[List.getElem?_map,hx];rfl) n hn;have h2:fs.toList.map (·.type)=l.map (fun x=>x.2.1):=by rw[<-hl,List.map_map];rfl
 rw[h2,List.getElem?_map,hi];rfl
theorem z5b:∀(N fuel:Nat) (cs:List Value) (x:DataW H×List MemPlace) (t:RT) (B:Nat),fuel<N->DataW.trod enc prog W 0 sp hl fuel 30 cs=some x->(∀n∈x.1.weights prog 30,n<=reachBytes)->Qh W B t cs->RtS t
 |0,_,_,_,_,_,h,_,_,_=>by omega
 |N+1,fuel,cs,x,.mk k T a b c d s p,B,hN,h,hw,ht=>by
  obtain⟨xs,n,rfl,rfl,hlen,hxs,hf⟩:=DataW.trod_struct Tryz.structNode h;rw[Bv Tryz.fieldsNode]at hxs
  match xs,hxs with
  |[y0,y1,y2,y3,y4],_=>
  obtain⟨f3,g3,t3,o3⟩:=Gx Tryz.fieldsNode 3 _ rfl;have r3:=hf 3 f3 g3;have w3:=z0B Tryz.structNode Tryz.fieldsNode rfl hw (i:=3) rfl (x:=y3) rfl;rw[Qh]at ht;obtain⟨so,cap,rfl,ht⟩:=ht;simp only[t3,o3,Tryz.cellsNodes,List.drop_zero,List.drop_succ_cons,List.take_succ_cons,List.take_zero,List.getElem?_cons_zero,List.getElem?_cons_succ]at r3;rw[RtS];rcases ht with h0|⟨h0,g,o,rfl,hg,hm,hs⟩
  ·have hs0:s=[]:=by simpa using h0
   subst hs0;rw[Qg,Fj];exact⟨by omega,trivial⟩
  rcases DataW.trod_slice Tryz.sliceNodes r3 with⟨e6,_⟩|⟨ad,len,cap',elems,rest,m2,hm2,e6,ex,_,hlc,hcm,hel,hev,_⟩
  ·simp only[List.cons.injEq,and_true,Value.slice.injEq]at e6
   cases e6.1
  ·simp only[List.cons.injEq,and_true,Value.slice.injEq,Option.some.injEq]at e6
   obtain⟨rfl,rfl,rfl⟩:=e6;obtain⟨u1,u2⟩:=z5a Tryz.sliceNodes (by rw[ex]) w3;rw[List.length_map,hel,Tryz.bytesNode]at u1;refine⟨u1,z4Z fun i hi=> ?_⟩;have hi2:i<Qg s:=by rw[Dc];exact hi
   have h1:=hev i hi2;rw[List.getElem?_eq_getElem (by omega)]at h1;obtain⟨cs',h2,h3⟩:=Option.bind_eq_some_iff.1 h1;rw[Tryz.cellsNode]at h2;obtain⟨_,hl8,s4⟩:=Bw h2 (by omega);obtain⟨k1,T1,a1,b1,c1,d1,so1,n1,cap1,p1,q1,z0,z1,z2,z3,z4,z5,z6,z7⟩:=Kl hs i hi
   match cs',hl8 with
   |[v0,v1,v2,v3,v4,v5,v6,v7],_=>
   obtain rfl:=Option.some.inj (z0.symm.trans (s4 0 _ rfl));obtain rfl:=Option.some.inj (z1.symm.trans (s4 1 _ rfl));obtain rfl:=Option.some.inj (z2.symm.trans (s4 2 _ rfl));obtain rfl:=Option.some.inj (z3.symm.trans (s4 3 _ rfl));obtain rfl:=Option.some.inj (z4.symm.trans (s4 4 _ rfl));obtain rfl:=Option.some.inj (z5.symm.trans (s4 5 _ rfl));obtain rfl:=Option.some.inj (z6.symm.trans (s4 6 _ rfl));obtain rfl:=Option.some.inj (z7.symm.trans (s4 7 _ rfl));exact z5b N m2 _ _ s[i] B (by omega) h3 (fun n hn=>u2 _ (List.mem_map.2 ⟨_,List.getElem_mem _,rfl⟩) n hn) q1
theorem y2X{so:Option Addr}{n cap B:Nat}{rs:List Rr}{d:DataW H}{ps:List MemPlace}(h:DataW.Trod enc prog W 0 sp hl 24 (.agg #[.slice so n cap]) d ps)(hw:∀m∈d.weights prog 24,m<=reachBytes)(hg:Xh W B so n rs):n*112<=140737488351232/\∀x∈rs,RtS x.2.1:=by
 obtain⟨fuel,hf⟩:=h;obtain⟨xs,m,rfl,hx,hlen,hxs,hf⟩:=DataW.trod_struct Tryz.structGram hf;rw[Bv Tryz.fieldsGram]at hxs
 match xs,hxs with
 |[y0],_=>
 have hd:d=.agg ([y0].map (·.1)):=congrArg Prod.fst hx;have w0:=z0B Tryz.structGram Tryz.fieldsGram hd hw (i:=0) rfl (x:=y0) rfl;obtain⟨f0,g0,t0,o0⟩:=Gx Tryz.fieldsGram 0 _ rfl;have r0:=hf 0 f0 g0;simp only[Value.cells,t0,o0,Tryz.cellsRules,List.drop_zero,List.take_succ_cons,List.take_zero,List.getElem?_cons_zero]at r0;obtain⟨hn,hm,hr⟩:=hg;rcases DataW.trod_slice Tryz.sliceRules r0 with⟨e6,_⟩|⟨ad,len,cap',elems,rest,m2,hm2,e6,ex,_,hlc,hcm,hel,hev,_⟩
 ·simp only[List.cons.injEq,and_true,Value.slice.injEq]at e6
  obtain⟨rfl,rfl,rfl⟩:=e6;exact⟨by omega,fun x hx=>by rw[List.eq_nil_of_length_eq_zero hn.symm]at hx;simp at hx⟩
 ·simp only[List.cons.injEq,and_true,Value.slice.injEq]at e6
  obtain⟨rfl,rfl,rfl⟩:=e6;obtain⟨u1,u2⟩:=z5a Tryz.sliceRules (by rw[ex]) w0;rw[List.length_map,hel,Tryz.bytesRule]at u1;refine⟨u1,fun x hx=> ?_⟩;obtain⟨i,hi,rfl⟩:=List.mem_iff_getElem.1 hx;obtain⟨g,o,e1,hgb,k1,T1,a1,b1,c1,d1,so1,n1,cap1,p1,q1,z0,z1,z2,z3,z4,z5,z6,z7,z8,z9⟩:=hr i hi;cases e1;have h1:=hev i (by omega);rw[List.getElem?_eq_getElem (by omega)]at h1;obtain⟨cs',h2,h3⟩:=Option.bind_eq_some_iff.1 h1;rw[Tryz.cellsRule]at h2;obtain⟨_,hl8,s4⟩:=Bw h2 (by omega)
  match cs',hl8 with
  |[v0,v1,v2,v3,v4,v5,v6,v7,v8,v9],_=>
  obtain rfl:=Option.some.inj (z1.symm.trans (s4 1 _ rfl));obtain rfl:=Option.some.inj (z2.symm.trans (s4 2 _ rfl));obtain rfl:=Option.some.inj (z3.symm.trans (s4 3 _ rfl));obtain rfl:=Option.some.inj (z4.symm.trans (s4 4 _ rfl));obtain rfl:=Option.some.inj (z5.symm.trans (s4 5 _ rfl));obtain rfl:=Option.some.inj (z6.symm.trans (s4 6 _ rfl));obtain rfl:=Option.some.inj (z7.symm.trans (s4 7 _ rfl));obtain rfl:=Option.some.inj (z8.symm.trans (s4 8 _ rfl));have wr:∀y∈(elems[i]'(by omega)).1.weights prog 50,y<=reachBytes:=fun y hy=>u2 _ (List.mem_map.2 ⟨_,List.getElem_mem _,rfl⟩) y hy
  obtain⟨ys,m3,rfl,hy,_,hys,hfy⟩:=DataW.trod_struct Tryz.structRule h3;rw[Bv Tryz.fieldsRule]at hys
  match ys,hys with
  |[y1,y2,y3],_=>
  obtain⟨f1,g1,t1,o1⟩:=Gx Tryz.fieldsRule 1 _ rfl;have r1:=hfy 1 f1 g1;simp only[t1,o1,Tryz.cellsNode,List.drop_zero,List.drop_succ_cons,List.take_succ_cons,List.take_zero,List.getElem?_cons_zero,List.getElem?_cons_succ]at r1;have w1:=z0B Tryz.structRule Tryz.fieldsRule (congrArg Prod.fst hy) wr (i:=1) rfl (x:=y2) rfl;exact z5b _ m3 _ _ _ B (Nat.lt_succ_self _) r1 w1 q1
end
end
open Go.ChangeShapes Go.WideShapes
theorem Tryz.own:ownKnob Tryz.prog.godebug=none:=by kernel_rfl
theorem Tryz.et:Tryz.prog.globalNamed "errors.errorType"=some 0:=by kernel_rfl
theorem Tryz.rt:(Tryz.prog.cutTypes.find? (·.1 == "internal/reflectlite.rtype")).map (·.2)=some 120:=by kernel_rfl
theorem Tryz.oneRow:((List.range 212).filter fun t=>Tryz.prog.rowNamed t [101,114,114,111,114])=[34]:=by kernel_rfl
theorem Tryz.nTypes:Tryz.prog.types.size=212:=by kernel_rfl
theorem y2Y{W:World}{l:List (String×DataW Unit)}(h:handlesMet prog l W)(hm:("errors.errorType",Rows.laid_errors_errorType)∈l):Xb W:=by
 obtain⟨name,u,ty,e1,e2,e3,e4,e5⟩:=h _ hm;have en:name=[101,114,114,111,114]:=(Option.some.inj e1).symm;subst en;obtain rfl:=Option.some.inj (Tryz.rt.symm.trans e2);have hm:ty∈(List.range 212).filter fun t=>Tryz.prog.rowNamed t [101,114,114,111,114]:=List.mem_filter.2 ⟨List.mem_range.2 (by rw[<-Tryz.nTypes];exact e3),e4⟩
 rw[Tryz.oneRow]at hm;obtain rfl:=List.mem_singleton.1 hm;have hh:typeHandle prog 34=.pointer (some ⟨3,34,none⟩):=by kernel_rfl
 rw[hh]at e5;have:=World.var?_cell Tryz.et e5 0;unfold Xb;simpa using this
theorem Tryz.laidOutW:laidOutB prog=true:=by kernel_rfl
theorem Tryz.gT:Tryz.prog.globalNamed "math/bits.deBruijn64tab"=some 2:=by kernel_rfl
theorem Tryz.gTType:(Tryz.prog.globals[2]?).map (·.type)=some 176:=by kernel_rfl
theorem Tryz.cellsTab:Tryz.prog.cellsOf 176=64:=by kernel_rfl
theorem Tryz.cellsU8:Tryz.prog.cellsOf 5=1:=by kernel_rfl
theorem y2Z{W:World}{rest:List (String×DataW Unit)}(h:laidMet prog (("math/bits.deBruijn64tab",Rows.laid_math_bits_deBruijn64tab)::rest) W):TabIs W:=by
 have hT:Lib.TabIs prog W "math/bits.deBruijn64tab" .u8 (Lib.deBruijn64tab.map fun n:Nat=>(n:Int)):=Lib.tabIs_of_head (rest:=rest) Tryz.gT Tryz.gTType Tryz.underlying176 Tryz.underlying5 Tryz.cellsU8 Tryz.cellsTab h;intro i hi;have:=hT.cell Tryz.gT i (by simp[Lib.deBruijn64tab];omega);rw[this];congr 2;simp only[List.getD,List.getElem?_map];cases Lib.deBruijn64tab[i]? <;>rfl
theorem z5c{W:World}(h:laidMetH prog [("math/bits.deBruijn64tab",Rows.laid_math_bits_deBruijn64tab),("errors.errorType",Rows.laid_errors_errorType)] W):Xb W/\TabIs W:=by
 have h':laidMet prog [("math/bits.deBruijn64tab",Rows.laid_math_bits_deBruijn64tab)] W/\handlesMet prog [("errors.errorType",Rows.laid_errors_errorType)] W:=h;exact⟨y2Y h'.2 (List.mem_singleton.2 rfl),y2Z (rest:=[]) h'.1⟩
open Go.ChangeAt
theorem y3a(os:Os)(args:Array Value):laidMetH prog Rows.printWritesRow.laid ((World.doorLaid prog 400 os).forCall (fun _ _=>0) ⟨#[],args,[]⟩).memory:=
 laidMetH_of_parts3 (fuel:=8) (laidMet_of_run' 8 (by kernel_rfl) (by kernel_rfl)) (by kernel_rfl) (by kernel_rfl)
theorem y3b(os:Os)(started:os.Started)(H:Type)(enc:TypeId×Value->H):
  ReturnsInHanded {} Tryz.checked os 3 .any (fun w args=>(Rows.printWritesSpec.pre enc prog Tryz.f3 [] false w args/\laidMetH prog Rows.printWritesRow.laid w)/\sizedMet enc prog Tryz.f3 (OpenSpec.ofChange Rows.printWritesSpec) false w args)
   (Rows.printWritesSpec.post enc prog Tryz.f3 false true false false):=by
 refine returnsInHanded_of_change_and (C:=Tryz.checked) (X:=fun w _=>laidMetH prog Rows.printWritesRow.laid w) (fun _ _ _ hh h=>h.of_heap hh) Tryz.own started (by kernel_rfl) func3
  (ChangeSpec.witness_shaped (enc:=enc) (C:=Tryz.checked) (os:=os) (X:=fun w _=>laidMetH prog Rows.printWritesRow.laid w) false (World.doorLaid prog 400 os) #[.agg #[.slice none 0 0],.agg #[.int .i64 0,.string ⟨#[]⟩,.int .u64 0,.int .u64 0,.int .u64 0,.int .u64 0,.slice none 0 0,.int .i64 0]] 8 rfl (World.shaped_of_RefB (by kernel_rfl) (by kernel_rfl)) (by kernel_rfl) (by kernel_rfl) (by kernel_rfl) (y3a os _)) ?_
 intro W base args ds gs before hval0 hW _ hsz0 hL _;have hval:∀(j:Nat) t v,Tryz.f3.params[j]? =some t->args[j]? =some v->Value.okWide prog W .any base t v:=hval0;have hW':=hW;obtain⟨p,q,hA0,hV,rfl,hfz,hnd⟩:=hW;have hA:DataW.TrodAll enc prog W 0 (fun _=>true) true Tryz.f3.params.toList args.toList ds p:=hA0;have hsz:(DataW.weightsEach prog (Tryz.f3.params.toList++[]) (ds++gs)).all (· <=reachBytes)=true:=hsz0;rw[Tryz.params3]at hA hval hsz;obtain⟨v0,vs0,d0,ds0,p0,q0,hargs,rfl,rfl,h0,r0⟩:=trodAll_cons hA;obtain⟨v1,vs1,d1,ds1,p1,q1,rfl,rfl,rfl,h1,r1⟩:=trodAll_cons r0;obtain⟨rfl,rfl,rfl⟩:=trodAll_nil r1;obtain rfl:args=#[v0,v1]:=by cases args;simp_all
 obtain⟨rfl,rfl⟩:=trodVars_none hV;have k0:=h0;have lt0:∀x∈p0,x.block<W.heap.size:=by obtain⟨m,hm⟩:=k0;exact DataW.trod_lt m _ _ _ hm
 obtain⟨so0,n0,cap0,rs0,rfl,hg0,hz0,hu0⟩:=y2C (hval 0 24 v0 rfl rfl) h0;have k1:=h1;have lt1:∀x∈p1,x.block<W.heap.size:=by obtain⟨m,hm⟩:=k1;exact DataW.trod_lt m _ _ _ hm
 obtain⟨nk1,nT1,na1,nb1,nc1,ne1,so1,n1,cap1,np1,t1,rfl,hg1,hz1,hu1⟩:=y2D (hval 1 30 v1 rfl rfl) h1;clear hA0 hval0;have hwalk:Calls prog 3 #[.agg #[.slice so0 n0 cap0],.agg (r8 nk1 nT1 na1 nb1 nc1 ne1 so1 n1 cap1 np1).toArray] W fun e w'=>e=.returned (.bool true)/\Below W.heap.size W w':=by
  have hw0:∀m∈d0.weights prog 24,m<=reachBytes:=fun m hm=>by simpa using List.all_eq_true.1 hsz m (DataW.weights_mem_each (j:=0) (t:=24) (d:=d0) rfl rfl m hm)
  obtain⟨q1,q2⟩:=y2X k0 hw0 hg0;exact y2W so0 n0 cap0 rs0 nk1 nT1 na1 nb1 nc1 ne1 np1 so1 n1 cap1 t1 W (z5c hL).1 (z5c hL).2 hg0 hz0 hu0 q1 q2 hg1 hz1 hu1
 refine hwalk.mono fun e W' ⟨he,bel⟩=> ?_
 subst he;exact⟨_,rfl,_,_,_,[],_,[],hW',trodAll_mk1 (shut_bool Tryz.underlying4 _),(trodAll_cons_mk (Below.trod Tryz.laidOutW (by kernel_rfl) (of_decide_eq_true (by kernel_rfl)) k0 bel lt0) (trodAll_cons_mk (Below.trod Tryz.laidOutW (by kernel_rfl) (of_decide_eq_true (by kernel_rfl)) k1 bel lt1) trodAll_mk0)),rfl,bel.frame _,fun h=>by cases h⟩
theorem y3c:Rows.PrintWritesSaid:=
 OpenClaim.holds_of_wide 3 Tryz.f3 rfl rfl rfl rfl rfl rfl rfl ⟨rfl,rfl,rfl,rfl,rfl⟩ rfl rfl rfl rfl rfl (by kernel_rfl) func3 (by kernel_rfl)
  (of_decide_eq_true (by kernel_rfl)) (by unfold Func.isWrapper;first|(rw[if_pos (by decide+kernel)];kernel_rfl)|(rw[if_neg (by decide+kernel)];exact⟨rfl,rfl⟩))
  (fun os started H enc _=>y3b os started H enc)
theorem writes_proved:Rows.PrintWritesCardSaid:=
 Claim7.holds_tied_plain_at .later [] _ _ _ _ y3c (fun _ h=>by cases h) (by kernel_rfl) (fun _ h=>by cases h) printWrites_row_tie rfl ⟨rfl,rfl⟩ (by kernel_rfl) rfl
  (fun f fn hf hfn=>by
    obtain rfl:f=3:=Option.some.inj ((show Tryz.prog.funcNamed "muntin/muntinlaw05.PrintWrites"=some 3 by kernel_rfl).symm.trans hf)|>.symm;obtain rfl:fn=Tryz.f3:=(Option.some.inj (Tryz.func3.symm.trans hfn)).symm;exact⟨by kernel_rfl,fun j t ht=>by
     rw[Tryz.params3]at ht;have hm:t∈[24,30]:=by simpa using Array.mem_of_getElem? ht
     have hall:([24,30].all fun u=> !Tryz.prog.wantsStandIn u)=true:=by kernel_rfl
     exact(show Tryz.prog.wantsStandIn t=false by simpa using List.all_eq_true.1 hall t hm)⟩)
  (by kernel_rfl)
#print axioms writes_proved
end Go.Proofs.YtikfnaffiehpaaaGreatDoor
