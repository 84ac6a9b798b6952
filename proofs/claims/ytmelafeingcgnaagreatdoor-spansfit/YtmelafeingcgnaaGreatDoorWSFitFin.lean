/-
  muntinlaw13.SpansFit answers true whatever its arguments (the given card). Condition: the listed package-level variables are as the program's own text lays them.
-/
import Derived.Test.YtmelafeingcgnaaGreatDoorEb
import Derived.Test.YtmelafeingcgnaaGreatDoorWSFitFinF
import Derived.ChangeMaps5
import Derived.Test.YtmelafeingcgnaaGreatDoorCards
import Derived.Test.YtmelafeingcgnaaGreatDoorTie
set_option linter.unusedVariables false
set_option maxRecDepth 100000
namespace Go.Proofs.YtmelafeingcgnaaGreatDoor
open Go.Proofs.Tryz
open Go.ChangeShapes Go.WideShapes Go.ChangeAt Go.RowKit
open Go.ChangeMaps (open_string shut_string)
theorem y7S(os:Os)(a:Array Value):laidMetH prog Rows.spansFitRow.laid ((World.doorLaid prog 400 os).forCall (fun _ _=>0) ⟨#[],a,[]⟩).memory:=
 laidMetH_of_parts3 (fuel:=8) (laidMet_of_run' 8 (by kernel_rfl) (by kernel_rfl)) (by kernel_rfl) (by kernel_rfl)
theorem y7T(os:Os)(D:os.Started)(H:Type)(enc:TypeId×Value->H):
  ReturnsInHanded {} Tryz.checked os 5 .any (fun w a=>(Rows.spansFitSpec.pre enc prog Tryz.f5 [] false w a/\laidMetH prog Rows.spansFitRow.laid w)/\sizedMet enc prog Tryz.f5 (OpenSpec.ofChange Rows.spansFitSpec) false w a)
   (Rows.spansFitSpec.post enc prog Tryz.f5 false true false false):=by
 refine returnsInHanded_of_change_and (C:=Tryz.checked) (X:=fun w _=>laidMetH prog Rows.spansFitRow.laid w) (fun _ _ _ E h=>h.of_heap E) Tryz.own D (by kernel_rfl) func5
  (ChangeSpec.witness_shaped (enc:=enc) (C:=Tryz.checked) (os:=os) (X:=fun w _=>laidMetH prog Rows.spansFitRow.laid w) false (World.doorLaid prog 400 os) #[.agg #[.slice none 0 0],zT ⟨#[]⟩] 8 rfl (World.shaped_of_RefB (by kernel_rfl) (by kernel_rfl)) (by kernel_rfl) (by kernel_rfl) (by kernel_rfl) (y7S os _)) ?_
 intro W base a d F ae f i _ G I _;have b:∀(j:Nat) t v,Tryz.f5.params[j]? =some t->a[j]? =some v->Value.okWide prog W .any base t v:=f;have K:=i;obtain⟨p,q,k,L,rfl,af,ag⟩:=i;have n:DataW.TrodAll enc prog W 0 (fun _=>true) true Tryz.f5.params.toList a.toList d p:=k;have o:(DataW.weightsEach prog (Tryz.f5.params.toList++[]) (d++F)).all (· <=reachBytes)=true:=G;rw[Tryz.params5]at n b o;obtain⟨v0,ah,d0,ai,M,q0,aj,rfl,rfl,r,O⟩:=trodAll_cons n;obtain⟨v1,ak,d1,al,p1,q1,rfl,rfl,rfl,P,Q⟩:=trodAll_cons O;obtain⟨rfl,rfl,rfl⟩:=trodAll_nil Q;obtain rfl:a=#[v0,v1]:=by cases a;simp_all
 obtain⟨rfl,rfl⟩:=trodVars_none L;obtain⟨c,rfl,rfl,rfl,R⟩:=open_string Tryz.underlying9 (b 1 9 v1 rfl rfl) P;have am:c.size<=140737488351232:=by have S:=sized_string o (j:=1) rfl rfl;simpa [reachBytes]using S
 have s:=r;have U:∀x∈M,x.block<W.heap.size:=by obtain⟨m,V⟩:=s;exact DataW.trod_lt m _ _ _ V
 obtain⟨u,y,z,Y,rfl,Z,aa,ab⟩:=y0J (b 0 51 v0 rfl rfl) r;clear k f;have ac:Calls prog 5 #[.agg #[.slice u y z],zT c] W fun e w'=>e=.returned (.bool true)/\zB W w':=by
  obtain⟨hE,hT,ad,fp,hF⟩:=y7d I;exact y7M u y z Y c fp W hE hT hF ad aa ab Z
 refine ac.mono fun e W' ⟨he,A⟩=> ?_
 subst he;exact⟨_,rfl,_,_,_,[],_,[],K,trodAll_mk1 (shut_bool Tryz.underlying4 _),(trodAll_cons_mk (Below.trod Tryz.laidOutW (by kernel_rfl) (of_decide_eq_true (by kernel_rfl)) s A U) (trodAll_cons_mk (shut_string Tryz.underlying9 R) trodAll_mk0)),rfl,A.frame _,fun h=>by cases h⟩
theorem y7U:Rows.SpansFitSaid:=
 OpenClaim.holds_of_wide 5 Tryz.f5 rfl rfl rfl rfl rfl rfl rfl ⟨rfl,rfl,rfl,rfl,rfl⟩ rfl rfl rfl rfl rfl (by kernel_rfl) func5 y7R
  (of_decide_eq_true (by kernel_rfl)) (by unfold Func.isWrapper;first|(rw[if_pos (by decide+kernel)];kernel_rfl)|(rw[if_neg (by decide+kernel)];exact⟨rfl,rfl⟩))
  (fun os a H enc _=>y7T os a H enc)
theorem sfit_proved:Rows.SpansFitCardSaid:=
 Claim7.holds_tied_plain_at .later [] _ _ _ _ y7U (fun _ h=>by cases h) (by kernel_rfl) (fun _ h=>by cases h) spansFit_row_tie rfl ⟨rfl,rfl⟩ (by kernel_rfl) rfl
  (fun f b c d=>by
    obtain rfl:f=5:=Option.some.inj ((show Tryz.prog.funcNamed "muntin/muntinlaw13.SpansFit"=some 5 by kernel_rfl).symm.trans c)|>.symm;obtain rfl:b=Tryz.f5:=(Option.some.inj (Tryz.func5.symm.trans d)).symm;exact⟨by kernel_rfl,fun j t a=>by
     rw[Tryz.params5]at a;have e:t∈[51,9]:=by simpa using Array.mem_of_getElem? a
     have i:([51,9].all fun u=> !Tryz.prog.wantsStandIn u)=true:=by kernel_rfl
     exact(show Tryz.prog.wantsStandIn t=false by simpa using List.all_eq_true.1 i t e)⟩)
  (by kernel_rfl)
#print axioms sfit_proved
end Go.Proofs.YtmelafeingcgnaaGreatDoor
