/-
  muntinlaw12.PackratMeans answers true whatever its arguments, and they read as they did (the given card). Condition: the listed package-level variables are what the program's own text lays; the card ties them to that text.
-/
import Derived.Test.YtgnkkgcgbeianaaGreatDoorVGPToMBase
import Derived.Test.YtgnkkgcgbeianaaGreatDoorWHMeansFinF
import Derived.ChangeMaps5
import Derived.Test.YtgnkkgcgbeianaaGreatDoorCards
import Derived.Test.YtgnkkgcgbeianaaGreatDoorTie
set_option linter.unusedVariables false
set_option maxRecDepth 100000
namespace Go.Proofs.YtgnkkgcgbeianaaGreatDoor
open Go.Proofs.Tryz
open Go.ChangeShapes Go.WideShapes Go.ChangeAt Go.RowKit
open Go.ChangeMaps (open_string shut_string)
theorem y7S(os:Os)(args:Array Value):laidMetH prog Rows.packratMeansRow.laid ((World.doorLaid prog 400 os).forCall (fun _ _=>0) ⟨#[],args,[]⟩).memory:=
 laidMetH_of_parts3 (fuel:=8) (laidMet_of_run' 8 (by kernel_rfl) (by kernel_rfl)) (by kernel_rfl) (by kernel_rfl)
theorem y7T(os:Os)(ab:os.Started)(H:Type)(enc:TypeId×Value->H):
  ReturnsInHanded {} Tryz.checked os 4 .any (fun w args=>(Rows.packratMeansSpec.pre enc prog Tryz.f4 [] false w args/\laidMetH prog Rows.packratMeansRow.laid w)/\sizedMet enc prog Tryz.f4 (OpenSpec.ofChange Rows.packratMeansSpec) false w args)
   (Rows.packratMeansSpec.post enc prog Tryz.f4 false true false false):=by
 refine returnsInHanded_of_change_and (C:=Tryz.checked) (X:=fun w _=>laidMetH prog Rows.packratMeansRow.laid w) (fun _ _ _ hh h=>h.of_heap hh) Tryz.own ab (by kernel_rfl) func4
  (ChangeSpec.witness_shaped (enc:=enc) (C:=Tryz.checked) (os:=os) (X:=fun w _=>laidMetH prog Rows.packratMeansRow.laid w) false (World.doorLaid prog 400 os) #[.agg #[.slice none 0 0],zT ⟨#[]⟩] 8 rfl (World.shaped_of_RefB (by kernel_rfl) (by kernel_rfl)) (by kernel_rfl) (by kernel_rfl) (by kernel_rfl) (y7S os _)) ?_
 intro W base args y gs am A D _ ac hL _;have o:∀(j:Nat) t v,Tryz.f4.params[j]? =some t->args[j]? =some v->Value.okWide prog W .any base t v:=A;have ad:=D;obtain⟨p,q,E,hV,rfl,ao,ap⟩:=D;have G:DataW.TrodAll enc prog W 0 (fun _=>true) true Tryz.f4.params.toList args.toList y p:=E;have I:(DataW.weightsEach prog (Tryz.f4.params.toList++[]) (y++gs)).all (· <=reachBytes)=true:=ac;rw[Tryz.params4]at G o I;obtain⟨v0,aq,d0,ar,p0,q0,au,rfl,rfl,U,r0⟩:=trodAll_cons G;obtain⟨v1,av,d1,aw,p1,q1,rfl,rfl,rfl,h1,r1⟩:=trodAll_cons r0;obtain⟨rfl,rfl,rfl⟩:=trodAll_nil r1;obtain rfl:args=#[v0,v1]:=by cases args;simp_all
 obtain⟨rfl,rfl⟩:=trodVars_none hV;obtain⟨r,rfl,rfl,rfl,ae⟩:=open_string Tryz.underlying9 (o 1 9 v1 rfl rfl) h1;have ax:r.size<=140737488351232:=by have h9:=sized_string I (j:=1) rfl rfl;simpa [reachBytes]using h9
 have k0:=U;have af:∀x∈p0,x.block<W.heap.size:=by obtain⟨m,hm⟩:=k0;exact DataW.trod_lt m _ _ _ hm
 obtain⟨V,Y,Z,ag,rfl,ah,ai,aj⟩:=y0r (o 0 43 v0 rfl rfl) U;clear E A;have ak:Calls prog 4 #[.agg #[.slice V Y Z],zT r] W fun e w'=>e=.returned (.bool true)/\zB W w':=by
  obtain⟨hE,hT,al,fp,hF⟩:=y7M hL;exact y7J V Y Z ag fp r W hE hT hF al ai aj ah (by omega)
 refine ak.mono fun e W' ⟨he,aa⟩=> ?_
 subst he;exact⟨_,rfl,_,_,_,[],_,[],ad,trodAll_mk1 (shut_bool Tryz.underlying4 _),(trodAll_cons_mk (Below.trod Tryz.laidOutW (by kernel_rfl) (of_decide_eq_true (by kernel_rfl)) k0 aa af) (trodAll_cons_mk (shut_string Tryz.underlying9 ae) trodAll_mk0)),rfl,aa.frame _,fun h=>by cases h⟩
theorem y7U:Rows.PackratMeansSaid:=
 OpenClaim.holds_of_wide 4 Tryz.f4 rfl rfl rfl rfl rfl rfl rfl ⟨rfl,rfl,rfl,rfl,rfl⟩ rfl rfl rfl rfl rfl (by kernel_rfl) func4 y7R
  (of_decide_eq_true (by kernel_rfl)) (by unfold Func.isWrapper;first|(rw[if_pos (by decide+kernel)];kernel_rfl)|(rw[if_neg (by decide+kernel)];exact⟨rfl,rfl⟩))
  (fun os h H enc _=>y7T os h H enc)
theorem pmeans_proved:Rows.PackratMeansCardSaid:=
 Claim7.holds_tied_plain_at .later [] _ _ _ _ y7U (fun _ h=>by cases h) (by kernel_rfl) (fun _ h=>by cases h) packratMeans_row_tie rfl ⟨rfl,rfl⟩ (by kernel_rfl) rfl
  (fun f r y A=>by
    obtain rfl:f=4:=Option.some.inj ((show Tryz.prog.funcNamed "muntin/muntinlaw12.PackratMeans"=some 4 by kernel_rfl).symm.trans y)|>.symm;obtain rfl:r=Tryz.f4:=(Option.some.inj (Tryz.func4.symm.trans A)).symm;exact⟨by kernel_rfl,fun j t o=>by
     rw[Tryz.params4]at o;have D:t∈[43,9]:=by simpa using Array.mem_of_getElem? o
     have E:([43,9].all fun u=> !Tryz.prog.wantsStandIn u)=true:=by kernel_rfl
     exact(show Tryz.prog.wantsStandIn t=false by simpa using List.all_eq_true.1 E t D)⟩)
  (by kernel_rfl)
#print axioms pmeans_proved
end Go.Proofs.YtgnkkgcgbeianaaGreatDoor
