/-
  muntinlaw12.PackratAhead answers true whatever its arguments, and they read as they did (the given card). Condition: the listed package-level variables are what the program's own text lays; the card ties them to that text.
-/
import Derived.Test.YtgnkkgcgbeianaaGreatDoorVLOToHBase
import Derived.Test.YtgnkkgcgbeianaaGreatDoorWHAheadFinF
import Derived.ChangeMaps5
import Derived.Test.YtgnkkgcgbeianaaGreatDoorCards
import Derived.Test.YtgnkkgcgbeianaaGreatDoorTie
set_option linter.unusedVariables false
set_option maxRecDepth 100000
namespace Go.Proofs.YtgnkkgcgbeianaaGreatDoor
open Go.Proofs.Tryz
open Go.ChangeShapes Go.WideShapes Go.ChangeAt Go.RowKit
open Go.ChangeMaps (open_string shut_string)
theorem y9x(os:Os)(args:Array Value):laidMetH prog Rows.packratAheadRow.laid ((World.doorLaid prog 400 os).forCall (fun _ _=>0) ⟨#[],args,[]⟩).memory:=
 laidMetH_of_parts3 (fuel:=8) (laidMet_of_run' 8 (by kernel_rfl) (by kernel_rfl)) (by kernel_rfl) (by kernel_rfl)
theorem y9y(os:Os)(ad:os.Started)(H:Type)(enc:TypeId×Value->H):
  ReturnsInHanded {} Tryz.checked os 7 .any (fun w args=>(Rows.packratAheadSpec.pre enc prog Tryz.f7 [] false w args/\laidMetH prog Rows.packratAheadRow.laid w)/\sizedMet enc prog Tryz.f7 (OpenSpec.ofChange Rows.packratAheadSpec) false w args)
   (Rows.packratAheadSpec.post enc prog Tryz.f7 false true false false):=by
 refine returnsInHanded_of_change_and (C:=Tryz.checked) (X:=fun w _=>laidMetH prog Rows.packratAheadRow.laid w) (fun _ _ _ hh h=>h.of_heap hh) Tryz.own ad (by kernel_rfl) func7
  (ChangeSpec.witness_shaped (enc:=enc) (C:=Tryz.checked) (os:=os) (X:=fun w _=>laidMetH prog Rows.packratAheadRow.laid w) false (World.doorLaid prog 400 os) #[.agg #[.slice none 0 0],.int .i64 0,.string ⟨#[]⟩,.string ⟨#[]⟩] 8 rfl (World.shaped_of_RefB (by kernel_rfl) (by kernel_rfl)) (by kernel_rfl) (by kernel_rfl) (by kernel_rfl) (y9x os _)) ?_
 intro W base args E gs aq G I _ ae hL _;have o:∀(j:Nat) t v,Tryz.f7.params[j]? =some t->args[j]? =some v->Value.okWide prog W .any base t v:=G;have af:=I;obtain⟨p,q,U,hV,rfl,ar,au⟩:=I;have V:DataW.TrodAll enc prog W 0 (fun _=>true) true Tryz.f7.params.toList args.toList E p:=U;have r:(DataW.weightsEach prog (Tryz.f7.params.toList++[]) (E++gs)).all (· <=reachBytes)=true:=ae;rw[Tryz.params7]at V o r;obtain⟨v0,av,d0,aw,p0,q0,ax,rfl,rfl,Y,r0⟩:=trodAll_cons V;obtain⟨v1,ay,d1,az,p1,q1,rfl,rfl,rfl,h1,r1⟩:=trodAll_cons r0;obtain⟨v2,aA,d2,aB,p2,q2,rfl,rfl,rfl,h2,r2⟩:=trodAll_cons r1;obtain⟨v3,aC,d3,aD,p3,q3,rfl,rfl,rfl,h3,r3⟩:=trodAll_cons r2;obtain⟨rfl,rfl,rfl⟩:=trodAll_nil r3;obtain rfl:args=#[v0,v1,v2,v3]:=by cases args;simp_all
 obtain⟨rfl,rfl⟩:=trodVars_none hV;obtain⟨a1,rfl,rfl,rfl,Z⟩:=open_int Tryz.underlying3 (o 1 3 v1 rfl rfl) h1;have aE:=bounds_i64 Z;obtain⟨y,rfl,rfl,rfl,ag⟩:=open_string Tryz.underlying9 (o 2 9 v2 rfl rfl) h2;have aF:y.size<=140737488351232:=by have A:=sized_string r (j:=2) rfl rfl;simpa [reachBytes]using A
 obtain⟨D,rfl,rfl,rfl,ah⟩:=open_string Tryz.underlying9 (o 3 9 v3 rfl rfl) h3;have aG:D.size<=140737488351232:=by have A:=sized_string r (j:=3) rfl rfl;simpa [reachBytes]using A
 have k0:=Y;have ai:∀x∈p0,x.block<W.heap.size:=by obtain⟨m,hm⟩:=k0;exact DataW.trod_lt m _ _ _ hm
 obtain⟨aa,n0,ab,aj,rfl,ak,al,am⟩:=z0b (o 0 43 v0 rfl rfl) Y;clear U G;have ao:Calls prog 7 #[.agg #[.slice aa n0 ab],.int .i64 a1,.string y,.string D] W fun e w'=>e=.returned (.bool true)/\Below W.heap.size W w':=by
  obtain⟨hE,hT,ap,fp,hF⟩:=z1j hL;exact y8Z aa n0 ab aj a1 y D fp W hE hT hF ap al am ak (by omega) (by omega)
 refine ao.mono fun e W' ⟨he,ac⟩=> ?_
 subst he;exact⟨_,rfl,_,_,_,[],_,[],af,trodAll_mk1 (shut_bool Tryz.underlying4 _),(trodAll_cons_mk (Below.trod Tryz.laidOutW (by kernel_rfl) (of_decide_eq_true (by kernel_rfl)) k0 ac ai) (trodAll_cons_mk (shut_int Tryz.underlying3 Z) (trodAll_cons_mk (shut_string Tryz.underlying9 ag) (trodAll_cons_mk (shut_string Tryz.underlying9 ah) trodAll_mk0)))),rfl,ac.frame _,fun h=>by cases h⟩
theorem y9z:Rows.PackratAheadSaid:=
 OpenClaim.holds_of_wide 7 Tryz.f7 rfl rfl rfl rfl rfl rfl rfl ⟨rfl,rfl,rfl,rfl,rfl⟩ rfl rfl rfl rfl rfl (by kernel_rfl) func7 y9w
  (of_decide_eq_true (by kernel_rfl)) (by unfold Func.isWrapper;first|(rw[if_pos (by decide+kernel)];kernel_rfl)|(rw[if_neg (by decide+kernel)];exact⟨rfl,rfl⟩))
  (fun os h H enc _=>y9y os h H enc)
theorem pkahead_proved:Rows.PackratAheadCardSaid:=
 Claim7.holds_tied_plain_at .later [] _ _ _ _ y9z (fun _ h=>by cases h) (by kernel_rfl) (fun _ h=>by cases h) packratAhead_row_tie rfl ⟨rfl,rfl⟩ (by kernel_rfl) rfl
  (fun f r y A=>by
    obtain rfl:f=7:=Option.some.inj ((show Tryz.prog.funcNamed "muntin/muntinlaw12.PackratAhead"=some 7 by kernel_rfl).symm.trans y)|>.symm;obtain rfl:r=Tryz.f7:=(Option.some.inj (Tryz.func7.symm.trans A)).symm;exact⟨by kernel_rfl,fun j t o=>by
     rw[Tryz.params7]at o;have D:t∈[43,3,9,9]:=by simpa using Array.mem_of_getElem? o
     have E:([43,3,9,9].all fun u=> !Tryz.prog.wantsStandIn u)=true:=by kernel_rfl
     exact(show Tryz.prog.wantsStandIn t=false by simpa using List.all_eq_true.1 E t D)⟩)
  (by kernel_rfl)
#print axioms pkahead_proved
end Go.Proofs.YtgnkkgcgbeianaaGreatDoor
