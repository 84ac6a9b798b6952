/-
  muntinlaw10.FordRepeats answers true whatever its arguments, and they read as they did (the given card). Condition: the listed package-level variables are what the program's own text lays; the card ties them to that text.
-/
import Derived.Test.YtgmcjddjdidpjabGreatDoorWGRE
import Derived.Test.YtgmcjddjdidpjabGreatDoorVGFLToGLBase
import Derived.ChangeMaps5
import Derived.Test.YtgmcjddjdidpjabGreatDoorCards
import Derived.Test.YtgmcjddjdidpjabGreatDoorTie
set_option linter.unusedVariables false
set_option maxRecDepth 100000
namespace Go.Proofs.YtgmcjddjdidpjabGreatDoor
open Go.Proofs.Tryz
open Go.ChangeShapes Go.WideShapes Go.ChangeAt Go.RowKit
open Go.ChangeMaps (open_string shut_string)
theorem y5s(os:Os)(args:Array Value):laidMetH prog Rows.fordRepeatsRow.laid ((World.doorLaid prog 400 os).forCall (fun _ _=>0) ⟨#[],args,[]⟩).memory:=
 laidMetH_of_parts3 (fuel:=8) (laidMet_of_run' 8 (by kernel_rfl) (by kernel_rfl)) (by kernel_rfl) (by kernel_rfl)
theorem y5t(os:Os)(started:os.Started)(H:Type)(enc:TypeId×Value->H):
  ReturnsInHanded {} Tryz.checked os 4 .any (fun w args=>(Rows.fordRepeatsSpec.pre enc prog Tryz.f4 [] false w args/\laidMetH prog Rows.fordRepeatsRow.laid w)/\sizedMet enc prog Tryz.f4 (OpenSpec.ofChange Rows.fordRepeatsSpec) false w args)
   (Rows.fordRepeatsSpec.post enc prog Tryz.f4 false true false false):=by
 refine returnsInHanded_of_change_and (C:=Tryz.checked) (X:=fun w _=>laidMetH prog Rows.fordRepeatsRow.laid w) (fun _ _ _ hh h=>h.of_heap hh) Tryz.own started (by kernel_rfl) func4
  (ChangeSpec.witness_shaped (enc:=enc) (C:=Tryz.checked) (os:=os) (X:=fun w _=>laidMetH prog Rows.fordRepeatsRow.laid w) false (World.doorLaid prog 400 os) #[.agg #[.slice none 0 0],.agg #[.int .i64 0,.string ⟨#[]⟩,.int .u64 0,.int .u64 0,.int .u64 0,.int .u64 0,.slice none 0 0,.int .i64 0],.string ⟨#[]⟩] 8 rfl (World.shaped_of_RefB (by kernel_rfl) (by kernel_rfl)) (by kernel_rfl) (by kernel_rfl) (by kernel_rfl) (y5s os _)) ?_
 intro W base args ds gs before hval0 hW _ hsz0 hL _;have hval:∀(j:Nat) t v,Tryz.f4.params[j]? =some t->args[j]? =some v->Value.okWide prog W .any base t v:=hval0;have hW':=hW;obtain⟨p,q,hA0,hV,rfl,hfz,hnd⟩:=hW;have hA:DataW.TrodAll enc prog W 0 (fun _=>true) true Tryz.f4.params.toList args.toList ds p:=hA0;have hsz:(DataW.weightsEach prog (Tryz.f4.params.toList++[]) (ds++gs)).all (· <=reachBytes)=true:=hsz0;rw[Tryz.params4]at hA hval hsz;obtain⟨v0,vs0,d0,ds0,p0,q0,hargs,rfl,rfl,h0,r0⟩:=trodAll_cons hA;obtain⟨v1,vs1,d1,ds1,p1,q1,rfl,rfl,rfl,h1,r1⟩:=trodAll_cons r0;obtain⟨v2,vs2,d2,ds2,p2,q2,rfl,rfl,rfl,h2,r2⟩:=trodAll_cons r1;obtain⟨rfl,rfl,rfl⟩:=trodAll_nil r2;obtain rfl:args=#[v0,v1,v2]:=by cases args;simp_all
 obtain⟨rfl,rfl⟩:=trodVars_none hV;obtain⟨s2,rfl,rfl,rfl,hm2⟩:=open_string Tryz.underlying9 (hval 2 9 v2 rfl rfl) h2;have hz2:s2.size<=140737488351232:=by have h9:=sized_string hsz (j:=2) rfl rfl;simpa [reachBytes]using h9
 have k0:=h0;have lt0:∀x∈p0,x.block<W.heap.size:=by obtain⟨m,hm⟩:=k0;exact DataW.trod_lt m _ _ _ hm
 obtain⟨so0,n0,cap0,rs0,rfl,hg0,hz0,hu0⟩:=z3N (hval 0 24 v0 rfl rfl) h0;have k1:=h1;have lt1:∀x∈p1,x.block<W.heap.size:=by obtain⟨m,hm⟩:=k1;exact DataW.trod_lt m _ _ _ hm
 obtain⟨nk1,nT1,na1,nb1,nc1,ne1,so1,n1,cap1,np1,t1,rfl,hg1,hz1,hu1⟩:=z3O (hval 1 30 v1 rfl rfl) h1;clear hA0 hval0;have hwalk:Calls prog 4 #[.agg #[.slice so0 n0 cap0],.agg (r8 nk1 nT1 na1 nb1 nc1 ne1 so1 n1 cap1 np1).toArray,.string s2] W fun e w'=>e=.returned (.bool true)/\Below W.heap.size W w':=by
  obtain⟨hE,hT,fp,hF⟩:=z5s hL;have hw0:∀m∈d0.weights prog 24,m<=reachBytes:=fun m hm=>by simpa using List.all_eq_true.1 hsz m (DataW.weights_mem_each (j:=0) (t:=24) (d:=d0) rfl rfl m hm)
  exact y5r so0 n0 cap0 rs0 nk1 nT1 na1 nb1 nc1 ne1 so1 n1 cap1 np1 t1 s2 fp W hE hT hF hz0 hu0 hg0 (z5O k0 hw0) hg1 hz1 hu1 (by omega)
 refine hwalk.mono fun e W' ⟨he,bel⟩=> ?_
 subst he;exact⟨_,rfl,_,_,_,[],_,[],hW',trodAll_mk1 (shut_bool Tryz.underlying4 _),(trodAll_cons_mk (Below.trod Tryz.laidOutW (by kernel_rfl) (of_decide_eq_true (by kernel_rfl)) k0 bel lt0) (trodAll_cons_mk (Below.trod Tryz.laidOutW (by kernel_rfl) (of_decide_eq_true (by kernel_rfl)) k1 bel lt1) (trodAll_cons_mk (shut_string Tryz.underlying9 hm2) trodAll_mk0))),rfl,bel.frame _,fun h=>by cases h⟩
theorem y5u:Rows.FordRepeatsSaid:=
 OpenClaim.holds_of_wide 4 Tryz.f4 rfl rfl rfl rfl rfl rfl rfl ⟨rfl,rfl,rfl,rfl,rfl⟩ rfl rfl rfl rfl rfl (by kernel_rfl) func4 (by kernel_rfl)
  (of_decide_eq_true (by kernel_rfl)) (by unfold Func.isWrapper;first|(rw[if_pos (by decide+kernel)];kernel_rfl)|(rw[if_neg (by decide+kernel)];exact⟨rfl,rfl⟩))
  (fun os started H enc _=>y5t os started H enc)
theorem prepeats_proved:Rows.FordRepeatsCardSaid:=
 Claim7.holds_tied_plain_at .later [] _ _ _ _ y5u (fun _ h=>by cases h) (by kernel_rfl) (fun _ h=>by cases h) fordRepeats_row_tie rfl ⟨rfl,rfl⟩ (by kernel_rfl) rfl
  (fun f fn hf hfn=>by
    obtain rfl:f=4:=Option.some.inj ((show Tryz.prog.funcNamed "muntin/muntinlaw10.FordRepeats"=some 4 by kernel_rfl).symm.trans hf)|>.symm;obtain rfl:fn=Tryz.f4:=(Option.some.inj (Tryz.func4.symm.trans hfn)).symm;exact⟨by kernel_rfl,fun j t ht=>by
     rw[Tryz.params4]at ht;have hm:t∈[24,30,9]:=by simpa using Array.mem_of_getElem? ht
     have hall:([24,30,9].all fun u=> !Tryz.prog.wantsStandIn u)=true:=by kernel_rfl
     exact(show Tryz.prog.wantsStandIn t=false by simpa using List.all_eq_true.1 hall t hm)⟩)
  (by kernel_rfl)
#print axioms prepeats_proved
end Go.Proofs.YtgmcjddjdidpjabGreatDoor
