/-
  muntinlaw12.PackratNotes answers true whatever its arguments, and they read as they did (the given card). Condition: the listed package-level variables are what the program's own text lays; the card ties them to that text.
-/
import Derived.Test.YtgnkkgcgbeianaaGreatDoorVLOToHBase
import Derived.Test.YtgnkkgcgbeianaaGreatDoorWHNotesFinF
import Derived.ChangeMaps5
import Derived.Test.YtgnkkgcgbeianaaGreatDoorCards
import Derived.Test.YtgnkkgcgbeianaaGreatDoorTie
set_option linter.unusedVariables false
set_option maxRecDepth 100000
namespace Go.Proofs.YtgnkkgcgbeianaaGreatDoor
open Go.Proofs.Tryz
open Go.ChangeShapes Go.WideShapes Go.ChangeAt Go.RowKit
open Go.ChangeMaps (open_string shut_string)
theorem y9p(os:Os)(args:Array Value):laidMetH prog Rows.packratNotesRow.laid ((World.doorLaid prog 400 os).forCall (fun _ _=>0) ⟨#[],args,[]⟩).memory:=
 laidMetH_of_parts3 (fuel:=8) (laidMet_of_run' 8 (by kernel_rfl) (by kernel_rfl)) (by kernel_rfl) (by kernel_rfl)
theorem y9q(os:Os)(ad:os.Started)(H:Type)(enc:TypeId×Value->H):
  ReturnsInHanded {} Tryz.checked os 6 .any (fun w args=>(Rows.packratNotesSpec.pre enc prog Tryz.f6 [] false w args/\laidMetH prog Rows.packratNotesRow.laid w)/\sizedMet enc prog Tryz.f6 (OpenSpec.ofChange Rows.packratNotesSpec) false w args)
   (Rows.packratNotesSpec.post enc prog Tryz.f6 false true false false):=by
 refine returnsInHanded_of_change_and (C:=Tryz.checked) (X:=fun w _=>laidMetH prog Rows.packratNotesRow.laid w) (fun _ _ _ hh h=>h.of_heap hh) Tryz.own ad (by kernel_rfl) func6
  (ChangeSpec.witness_shaped (enc:=enc) (C:=Tryz.checked) (os:=os) (X:=fun w _=>laidMetH prog Rows.packratNotesRow.laid w) false (World.doorLaid prog 400 os) #[.agg #[.slice none 0 0],.int .i64 0,.string ⟨#[]⟩,.int .i64 0,.int .i64 0] 8 rfl (World.shaped_of_RefB (by kernel_rfl) (by kernel_rfl)) (by kernel_rfl) (by kernel_rfl) (by kernel_rfl) (y9p os _)) ?_
 intro W base args y gs ap A D _ ae hL _;have o:∀(j:Nat) t v,Tryz.f6.params[j]? =some t->args[j]? =some v->Value.okWide prog W .any base t v:=A;have af:=D;obtain⟨p,q,E,hV,rfl,aq,ar⟩:=D;have G:DataW.TrodAll enc prog W 0 (fun _=>true) true Tryz.f6.params.toList args.toList y p:=E;have I:(DataW.weightsEach prog (Tryz.f6.params.toList++[]) (y++gs)).all (· <=reachBytes)=true:=ae;rw[Tryz.params6]at G o I;obtain⟨v0,au,d0,av,p0,q0,aw,rfl,rfl,U,r0⟩:=trodAll_cons G;obtain⟨v1,ax,d1,ay,p1,q1,rfl,rfl,rfl,h1,r1⟩:=trodAll_cons r0;obtain⟨v2,az,d2,aA,p2,q2,rfl,rfl,rfl,h2,r2⟩:=trodAll_cons r1;obtain⟨v3,aB,d3,aC,p3,q3,rfl,rfl,rfl,h3,r3⟩:=trodAll_cons r2;obtain⟨v4,aD,d4,aE,p4,q4,rfl,rfl,rfl,h4,r4⟩:=trodAll_cons r3;obtain⟨rfl,rfl,rfl⟩:=trodAll_nil r4;obtain rfl:args=#[v0,v1,v2,v3,v4]:=by cases args;simp_all
 obtain⟨rfl,rfl⟩:=trodVars_none hV;obtain⟨a1,rfl,rfl,rfl,V⟩:=open_int Tryz.underlying3 (o 1 3 v1 rfl rfl) h1;have aF:=bounds_i64 V;obtain⟨r,rfl,rfl,rfl,ag⟩:=open_string Tryz.underlying9 (o 2 9 v2 rfl rfl) h2;have aG:r.size<=140737488351232:=by have h9:=sized_string I (j:=2) rfl rfl;simpa [reachBytes]using h9
 obtain⟨a3,rfl,rfl,rfl,Y⟩:=open_int Tryz.underlying3 (o 3 3 v3 rfl rfl) h3;have aH:=bounds_i64 Y;obtain⟨a4,rfl,rfl,rfl,Z⟩:=open_int Tryz.underlying3 (o 4 3 v4 rfl rfl) h4;have aI:=bounds_i64 Z;have k0:=U;have ah:∀x∈p0,x.block<W.heap.size:=by obtain⟨m,hm⟩:=k0;exact DataW.trod_lt m _ _ _ hm
 obtain⟨aa,n0,ab,ai,rfl,aj,ak,al⟩:=z0b (o 0 43 v0 rfl rfl) U;clear E A;have am:Calls prog 6 #[.agg #[.slice aa n0 ab],.int .i64 a1,.string r,.int .i64 a3,.int .i64 a4] W fun e w'=>e=.returned (.bool true)/\Below W.heap.size W w':=by
  obtain⟨hE,hT,ao,fp,hF⟩:=z1j hL;exact y8X aa n0 ab ai a1 r a3 a4 fp W hE hT hF ao ak al aj
 refine am.mono fun e W' ⟨he,ac⟩=> ?_
 subst he;exact⟨_,rfl,_,_,_,[],_,[],af,trodAll_mk1 (shut_bool Tryz.underlying4 _),(trodAll_cons_mk (Below.trod Tryz.laidOutW (by kernel_rfl) (of_decide_eq_true (by kernel_rfl)) k0 ac ah) (trodAll_cons_mk (shut_int Tryz.underlying3 V) (trodAll_cons_mk (shut_string Tryz.underlying9 ag) (trodAll_cons_mk (shut_int Tryz.underlying3 Y) (trodAll_cons_mk (shut_int Tryz.underlying3 Z) trodAll_mk0))))),rfl,ac.frame _,fun h=>by cases h⟩
theorem y9r:Rows.PackratNotesSaid:=
 OpenClaim.holds_of_wide 6 Tryz.f6 rfl rfl rfl rfl rfl rfl rfl ⟨rfl,rfl,rfl,rfl,rfl⟩ rfl rfl rfl rfl rfl (by kernel_rfl) func6 y9o
  (of_decide_eq_true (by kernel_rfl)) (by unfold Func.isWrapper;first|(rw[if_pos (by decide+kernel)];kernel_rfl)|(rw[if_neg (by decide+kernel)];exact⟨rfl,rfl⟩))
  (fun os h H enc _=>y9q os h H enc)
theorem pnotes_proved:Rows.PackratNotesCardSaid:=
 Claim7.holds_tied_plain_at .later [] _ _ _ _ y9r (fun _ h=>by cases h) (by kernel_rfl) (fun _ h=>by cases h) packratNotes_row_tie rfl ⟨rfl,rfl⟩ (by kernel_rfl) rfl
  (fun f r y A=>by
    obtain rfl:f=6:=Option.some.inj ((show Tryz.prog.funcNamed "muntin/muntinlaw12.PackratNotes"=some 6 by kernel_rfl).symm.trans y)|>.symm;obtain rfl:r=Tryz.f6:=(Option.some.inj (Tryz.func6.symm.trans A)).symm;exact⟨by kernel_rfl,fun j t o=>by
     rw[Tryz.params6]at o;have D:t∈[43,3,9,3,3]:=by simpa using Array.mem_of_getElem? o
     have E:([43,3,9,3,3].all fun u=> !Tryz.prog.wantsStandIn u)=true:=by kernel_rfl
     exact(show Tryz.prog.wantsStandIn t=false by simpa using List.all_eq_true.1 E t D)⟩)
  (by kernel_rfl)
#print axioms pnotes_proved
end Go.Proofs.YtgnkkgcgbeianaaGreatDoor
