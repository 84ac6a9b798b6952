/-
  muntinlaw13.SpansJust answers true whatever its arguments, and they read as they did (the given card). Condition: the listed package-level variables are what the program's own text lays; the card ties them to that text.
-/
import Derived.Test.YtmelafeingcgnaaGreatDoorVXSToSBase
import Derived.Test.YtmelafeingcgnaaGreatDoorWSJustFinF
import Derived.ChangeMaps5
import Derived.Test.YtmelafeingcgnaaGreatDoorCards
import Derived.Test.YtmelafeingcgnaaGreatDoorTie
set_option linter.unusedVariables false
set_option maxRecDepth 100000
namespace Go.Proofs.YtmelafeingcgnaaGreatDoor
open Go.Proofs.Tryz
open Go.ChangeShapes Go.WideShapes Go.ChangeAt Go.RowKit
open Go.ChangeMaps (open_string shut_string)
theorem y7j(os:Os)(args:Array Value):laidMetH prog Rows.spansJustRow.laid ((World.doorLaid prog 400 os).forCall (fun _ _=>0) ⟨#[],args,[]⟩).memory:=
 laidMetH_of_parts3 (fuel:=8) (laidMet_of_run' 8 (by kernel_rfl) (by kernel_rfl)) (by kernel_rfl) (by kernel_rfl)
theorem y7k(os:Os)(ac:os.Started)(H:Type)(enc:TypeId×Value->H):
  ReturnsInHanded {} Tryz.checked os 6 .any (fun w args=>(Rows.spansJustSpec.pre enc prog Tryz.f6 [] false w args/\laidMetH prog Rows.spansJustRow.laid w)/\sizedMet enc prog Tryz.f6 (OpenSpec.ofChange Rows.spansJustSpec) false w args)
   (Rows.spansJustSpec.post enc prog Tryz.f6 false true false false):=by
 refine returnsInHanded_of_change_and (C:=Tryz.checked) (X:=fun w _=>laidMetH prog Rows.spansJustRow.laid w) (fun _ _ _ hh h=>h.of_heap hh) Tryz.own ac (by kernel_rfl) func6
  (ChangeSpec.witness_shaped (enc:=enc) (C:=Tryz.checked) (os:=os) (X:=fun w _=>laidMetH prog Rows.spansJustRow.laid w) false (World.doorLaid prog 400 os) #[.agg #[.slice none 0 0],zT ⟨#[]⟩] 8 rfl (World.shaped_of_RefB (by kernel_rfl) (by kernel_rfl)) (by kernel_rfl) (by kernel_rfl) (by kernel_rfl) (y7j os _)) ?_
 intro W base args y gs ao A D _ ad hL _;have o:∀(j:Nat) t v,Tryz.f6.params[j]? =some t->args[j]? =some v->Value.okWide prog W .any base t v:=A;have ae:=D;obtain⟨p,q,E,hV,rfl,ap,aq⟩:=D;have G:DataW.TrodAll enc prog W 0 (fun _=>true) true Tryz.f6.params.toList args.toList y p:=E;have U:(DataW.weightsEach prog (Tryz.f6.params.toList++[]) (y++gs)).all (· <=reachBytes)=true:=ad;rw[Tryz.params6]at G o U;obtain⟨v0,ar,d0,au,p0,q0,av,rfl,rfl,V,r0⟩:=trodAll_cons G;obtain⟨v1,aw,d1,ax,p1,q1,rfl,rfl,rfl,h1,r1⟩:=trodAll_cons r0;obtain⟨rfl,rfl,rfl⟩:=trodAll_nil r1;obtain rfl:args=#[v0,v1]:=by cases args;simp_all
 obtain⟨rfl,rfl⟩:=trodVars_none hV;obtain⟨r,rfl,rfl,rfl,af⟩:=open_string Tryz.underlying9 (o 1 9 v1 rfl rfl) h1;have ay:r.size<=140737488351232:=by have h9:=sized_string U (j:=1) rfl rfl;simpa [reachBytes]using h9
 have Y:=V;have ag:∀x∈p0,x.block<W.heap.size:=by obtain⟨m,hm⟩:=Y;exact DataW.trod_lt m _ _ _ hm
 obtain⟨Z,n0,aa,ah,rfl,ai,aj,ak⟩:=y0J (o 0 51 v0 rfl rfl) V;clear E A;have al:Calls prog 6 #[.agg #[.slice Z n0 aa],zT r] W fun e w'=>e=.returned (.bool true)/\zB W w':=by
  obtain⟨hE,hT,am,fp,hF⟩:=y7d hL;exact y7a Z n0 aa ah r fp W hE hT hF am aj ak ai
 refine al.mono fun e W' ⟨he,ab⟩=> ?_
 subst he;exact⟨_,rfl,_,_,_,[],_,[],ae,trodAll_mk1 (shut_bool Tryz.underlying4 _),(trodAll_cons_mk (Below.trod Tryz.laidOutW (by kernel_rfl) (of_decide_eq_true (by kernel_rfl)) Y ab ag) (trodAll_cons_mk (shut_string Tryz.underlying9 af) trodAll_mk0)),rfl,ab.frame _,fun h=>by cases h⟩
theorem y7l:Rows.SpansJustSaid:=
 OpenClaim.holds_of_wide 6 Tryz.f6 rfl rfl rfl rfl rfl rfl rfl ⟨rfl,rfl,rfl,rfl,rfl⟩ rfl rfl rfl rfl rfl (by kernel_rfl) func6 y7i
  (of_decide_eq_true (by kernel_rfl)) (by unfold Func.isWrapper;first|(rw[if_pos (by decide+kernel)];kernel_rfl)|(rw[if_neg (by decide+kernel)];exact⟨rfl,rfl⟩))
  (fun os h H enc _=>y7k os h H enc)
theorem sjust_proved:Rows.SpansJustCardSaid:=
 Claim7.holds_tied_plain_at .later [] _ _ _ _ y7l (fun _ h=>by cases h) (by kernel_rfl) (fun _ h=>by cases h) spansJust_row_tie rfl ⟨rfl,rfl⟩ (by kernel_rfl) rfl
  (fun f r y A=>by
    obtain rfl:f=6:=Option.some.inj ((show Tryz.prog.funcNamed "muntin/muntinlaw13.SpansJust"=some 6 by kernel_rfl).symm.trans y)|>.symm;obtain rfl:r=Tryz.f6:=(Option.some.inj (Tryz.func6.symm.trans A)).symm;exact⟨by kernel_rfl,fun j t o=>by
     rw[Tryz.params6]at o;have D:t∈[51,9]:=by simpa using Array.mem_of_getElem? o
     have E:([51,9].all fun u=> !Tryz.prog.wantsStandIn u)=true:=by kernel_rfl
     exact(show Tryz.prog.wantsStandIn t=false by simpa using List.all_eq_true.1 E t D)⟩)
  (by kernel_rfl)
#print axioms sjust_proved
end Go.Proofs.YtmelafeingcgnaaGreatDoor
