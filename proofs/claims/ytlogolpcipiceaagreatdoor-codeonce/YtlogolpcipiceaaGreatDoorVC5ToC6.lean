/- Lemmas for the last text. Conditions: those that each names. -/
import Derived.Test.YtlogolpcipiceaaGreatDoorVC3ToC4
import Derived.Test.YtlogolpcipiceaaGreatDoorVU3ToU7
import Derived.Lib.ItoaLen
set_option linter.unusedVariables false
set_option maxRecDepth 100000
set_option maxHeartbeats 16000000
namespace Go.Proofs.YtlogolpcipiceaaGreatDoor
open Go.Proofs.Tryz
open Go.RowKit Go.Shelf Go.Maps
variable {mB mp:Nat} {W W':World} {v v0 v1 v2 v3 v4 v5 v6:Value}
theorem Ub{w:World}{g:Nat}{t:TypeId}{a0 a1 a2 a3 a4:Value}(h:w.heap[g]? =some (.cells #[a0,a1,a2,a3,a4] t)):(w.cell? ⟨g,0,none⟩=some a0/\w.cell? ⟨g,1,none⟩=some a1/\w.cell? ⟨g,2,none⟩=some a2/\w.cell? ⟨g,3,none⟩=some a3/\w.cell? ⟨g,4,none⟩=some a4)/\(w.frozen? ⟨g,0,none⟩=false/\w.frozen? ⟨g,1,none⟩=false/\w.frozen? ⟨g,2,none⟩=false/\w.frozen? ⟨g,3,none⟩=false/\w.frozen? ⟨g,4,none⟩=false):=by
 refine⟨⟨?_,?_,?_,?_,?_⟩,⟨?_,?_,?_,?_,?_⟩⟩<;>simp[World.cell?,World.frozen?,h]
theorem Frm.grown(h:W.grownBy W' (some mp)):Frm mB mp W v W' v:=⟨h.os,h.tape,h.output,h.size,fun k hk _ h2 _=>h.block k hk (fun e=>h2 (Option.some.inj e)),fun _ h=>.inl h⟩
theorem Frm.app{g6 n cap:Nat}(h:W.grownBy W' v.ownBlock)(hat:v.ownBlock=some g6∨g6=W.heap.size):Frm mB mp W v W' (.slice (some ⟨g6,0,none⟩) n cap):=⟨h.os,h.tape,h.output,h.size,fun k hk _ _ h3=>h.block k hk (fun e=>h3 e.symm),fun g hg=>by
 obtain rfl:g6=g:=Option.some.inj hg;exact hat.imp id (fun e=>Nat.le_of_eq e.symm)⟩
theorem Frm.setM{j:Nat}{u:Value}:Frm mB mp W v (W.setCell ⟨mB,j,none⟩ u) v:=⟨rfl,rfl,rfl,by simp,fun k hk h1 _ _=>Below.heap_setCell _ _ _ _ h1,fun _ h=>.inl h⟩
theorem Frm.same(h1:W'.os=W.os)(h2:W'.tape=W.tape)(h3:W'.output=W.output)(h4:W.heap.size<=W'.heap.size)(h5:∀k,k<W.heap.size->W'.heap[k]? =W.heap[k]?):Frm mB mp W v W' v:=⟨h1,h2,h3,h4,fun k hk _ _ _=>h5 k hk,fun _ h=>.inl h⟩
theorem y2S{a0 a1 a2 a3 a4 a5 a6 a7:Addr}{v7:Value}(h:W.cell? a0=some v0/\W.cell? a1=some v1/\W.cell? a2=some v2/\W.cell? a3=some v3/\W.cell? a4=some v4/\W.cell? a5=some v5/\W.cell? a6=some v6/\W.cell? a7=some v7)(hb:Below W.heap.size W W'):W'.cell? a0=some v0/\W'.cell? a1=some v1/\W'.cell? a2=some v2/\W'.cell? a3=some v3/\W'.cell? a4=some v4/\W'.cell? a5=some v5/\W'.cell? a6=some v6/\W'.cell? a7=some v7:=by
 obtain⟨z0,z1,z2,z3,z4,z5,z6,z7⟩:=h;have e:∀{a:Addr} {u:Value},W.cell? a=some u->W'.cell? a=some u:=fun{a u} h=>(hb.cell (p:=a) (World.block_lt_of_cell? W _ h)).trans h
 exact⟨e z0,e z1,e z2,e z3,e z4,e z5,e z6,e z7⟩
theorem y2T{m r:Nat}{row:Option Nat}{v7:Value}(h:W.cell? ⟨m,1,none⟩=some v0/\W.cell? ⟨r,0,none⟩=some v1/\W.cell? ⟨r,1,none⟩=some v2/\W.cell? ⟨r,2,none⟩=some v3/\W.cell? ⟨r,3,none⟩=some v4/\W.cell? ⟨r,4,none⟩=some v5/\W.cell? ⟨r,5,none⟩=some v6/\W.cell? ⟨r,6,none⟩=some v7)(n0:some m≠row)(n1:some r≠row)(hg:W.grownBy W' row):W'.cell? ⟨m,1,none⟩=some v0/\W'.cell? ⟨r,0,none⟩=some v1/\W'.cell? ⟨r,1,none⟩=some v2/\W'.cell? ⟨r,2,none⟩=some v3/\W'.cell? ⟨r,3,none⟩=some v4/\W'.cell? ⟨r,4,none⟩=some v5/\W'.cell? ⟨r,5,none⟩=some v6/\W'.cell? ⟨r,6,none⟩=some v7:=
 ⟨hg.cell h.1 n0,hg.cell h.2.1 n1,hg.cell h.2.2.1 n1,hg.cell h.2.2.2.1 n1,hg.cell h.2.2.2.2.1 n1,hg.cell h.2.2.2.2.2.1 n1,hg.cell h.2.2.2.2.2.2.1 n1,hg.cell h.2.2.2.2.2.2.2 n1⟩
theorem y2U{w:World}{g:Nat}{cur:Array Value}{t:TypeId}(h:w.heap[g]? =some (.cells cur t))(j:Nat)(u:Value)(hu:cur.setIfInBounds j u=cur)(k:Nat):(w.setCell ⟨g,j,none⟩ u).heap[k]? =w.heap[k]? :=by
 by_cases e:k=g
 ·subst e
  rw[Qb h j u,hu,h]
 ·exact Below.heap_setCell _ _ _ _ e
theorem Mkr.put{W3 W8 w9:World}{Q R:Nat->Prop}{B g9 cap9:Nat}{gv vn vr:Value}{ops:List Ox}{xs cs:List Value}{o:Ox}{X:Obj}(h:Mkr W3 Q B mB mp gv vn vr ops v xs)(hcs:OpC W3 R o cs)(hR:∀g,R g->g<W3.heap.size/\g≠mB/\g≠mp/\v.ownBlock≠some g)(hs:W3.heap.size<=W8.heap.size)(he:∀k,k<W3.heap.size->k≠mp->W8.heap[k]? =W3.heap[k]?)(hk:Pk W8 mp (ops.map qB++[qB o]))
  (hown:w9.ownsRow B 75 7 (.slice (some ⟨g9,0,none⟩) (ops.length+1) cap9) (ops.length+1) (xs++cs))(hgr:(W8.alloc X).grownBy w9 v.ownBlock)(hat:v.ownBlock=some g9∨g9=W8.heap.size+1):
  Mkr (w9.setCell ⟨mB,1,none⟩ (.slice (some ⟨g9,0,none⟩) (ops.length+1) cap9)) (fun g=>Q g∨R g) B mB mp gv vn vr (ops++[o]) (.slice (some ⟨g9,0,none⟩) (ops.length+1) cap9) (xs++cs):=by
 have ha:(W8.alloc X).heap.size=W8.heap.size+1:=World.size_alloc _ _;have hs9:W8.heap.size+1<=w9.heap.size:=by have:=hgr.size;omega
 have hv:∀g,v.ownBlock=some g->B<=g:=fun g e=>(h.ho.lt g e).1
 have E0:∀k,k<W8.heap.size->v.ownBlock≠some k->w9.heap[k]? =W8.heap[k]? :=fun k hk h3=>(hgr.block k (by omega) (fun e=>h3 e.symm)).trans (Below.heap_alloc _ _ _ hk)
 have E:∀k,k<W3.heap.size->k≠mB->k≠mp->v.ownBlock≠some k->(w9.setCell ⟨mB,1,none⟩ (.slice (some ⟨g9,0,none⟩) (ops.length+1) cap9)).heap[k]? =W3.heap[k]? :=fun k hk h1 h2 h3=>
  (Below.heap_setCell _ _ _ _ h1).trans ((E0 k (by omega) h3).trans (he k hk h2))
 have lm:=Qz h.hm;have hmB:=h.hmB;have hmp:=h.hmp;have hm9:w9.heap[mB]? =some (.cells #[gv,v,vn,vr,.map (some mp)] 83):=(E0 mB (by omega) (fun e=>by have:=hv _ e;omega)).trans ((he mB lm h.hne).trans h.hm);have hl:xs.length=ops.length*7:=h.ho.1;have hg9:∀g,g<W3.heap.size->v.ownBlock≠some g->Value.ownBlock (.slice (some ⟨g9,0,none⟩) (ops.length+1) cap9)≠some g:=fun g h1 h2 e=>by
  obtain rfl:g9=g:=Option.some.inj e;rcases hat with h3|h3
  ·exact h2 h3
  ·omega
 refine⟨Qb hm9 1 _,?_,?_,?_,?_,h.hmB,h.hmp,h.hne⟩
 ·rw[List.length_append]
  exact ownsRow_setCell_below hown (a:=⟨mB,1,none⟩) h.hmB _
 ·intro i hi
  rw[List.length_append]at hi;by_cases e:i<ops.length
  ·obtain⟨c,h1,h2⟩:=h.hops i e
   rw[List.getElem_append_left e];refine⟨c,h1.keep fun g hg=>⟨.inl hg,?_⟩,fun q u hq=> ?_⟩
   ·have:=h.hq g hg
    exact E g this.1 this.2.1 this.2.2.1 this.2.2.2
   ·have h3:=h2 q u hq
    have h4:i*7+q<xs.length:=(List.getElem?_eq_some_iff.1 h3).1;rw[List.getElem?_append_left h4];exact h3
  ·have e1:i=ops.length:=by simp at hi;omega
   subst e1;rw[List.getElem_append_right L0q];simp only[Nat.sub_self,List.getElem_cons_zero];refine⟨cs,hcs.keep fun g hg=>⟨.inr hg,?_⟩,fun q u hq=> ?_⟩
   ·have:=hR g hg
    exact E g this.1 this.2.1 this.2.2.1 this.2.2.2
   ·rw[List.getElem?_append_right (by omega),hl,Nat.add_sub_cancel_left]
    exact hq
 ·rw[List.map_append]
  exact hk.same ((Below.heap_setCell _ _ _ _ h.hne.symm).trans (E0 mp hk.lt (fun e=>by have:=hv _ e;omega)))
 ·intro g hg
  have hz:(w9.setCell ⟨mB,1,none⟩ (.slice (some ⟨g9,0,none⟩) (ops.length+1) cap9)).heap.size=w9.heap.size:=World.size_setCell _ _ _;rcases hg with hg|hg
  ·have:=h.hq g hg
   exact⟨by omega,this.2.1,this.2.2.1,hg9 g this.1 this.2.2.2⟩
  ·have:=hR g hg
   exact⟨by omega,this.2.1,this.2.2.1,hg9 g this.1 this.2.2.2⟩
theorem y2V{P:Nat->Prop}{o:Obj}{so:Option Addr}{cap:Nat}{s:List Int}(h:RwC W P so s)(hs:s.length<=1048576):Dj (W.alloc o) (W.alloc o).heap.size (.slice so s.length cap) s:=by
 refine⟨so,cap,rfl,hs,fun j hj=> ?_⟩;obtain⟨g,q,h1,_,h3⟩:=h j hj;have hg:g<W.heap.size:=World.block_lt_of_cell? W _ h3;exact⟨g,q,h1,by rw[World.size_alloc];omega,(((Below.refl _ W).alloc L0q o).cell (p:=⟨g,q+j,none⟩) hg).trans h3⟩
theorem y2W(ix:ByteArray->Int)(t:RT)(kx:Int)(Tx:ByteArray)(ax bx cx dx:Int)(sox:Option Addr)(nx capx:Nat)(px:Int)(Q:Nat->Prop)(B mB mp:Nat)(gv vn vr:Value)(ops:List Ox)(v:Value)(w0 W:World)(hmB:w0.heap.size<=mB)(hmp:w0.heap.size<=mp)(HB0:Hid (Below w0.heap.size w0 W))(HP:Hid (Yj w0))(hmW:mB<W.heap.size)(hpW:mp<W.heap.size)(HvB:Hid (∀g,v.ownBlock=some g->B<=g))(hBm:mB<B)(hBp:mp<B)(hBW:B<=W.heap.size)
  (HOn:Hid (∀W1:World,Below W.heap.size W W1->Calls prog 60 #[.pointer (some ⟨mB,0,none⟩),.agg #[.int .i64 kx,.string Tx,.int .u64 ax,.int .u64 bx,.int .u64 cx,.int .u64 dx,.slice sox nx capx,.int .i64 px]] W1 (OnP ix t Q B mB mp gv vn vr ops v W1))):
  Calls prog 33 #[.pointer (some ⟨mB,0,none⟩),.agg #[.int .i64 kx,.string Tx,.int .u64 ax,.int .u64 bx,.int .u64 cx,.int .u64 dx,.slice sox nx capx,.int .i64 px]] W (PlP ix t Q B mB mp gv vn vr ops v W):=by
 have hb1:Below W.heap.size W (W.alloc (.cells #[.int .i64 kx,.string Tx,.int .u64 ax,.int .u64 bx,.int .u64 cx,.int .u64 dx,.slice sox nx capx,.int .i64 px] 71)):=(Below.refl _ W).alloc L0q _;have HN1:=hid (Qx W (.cells #[.int .i64 kx,.string Tx,.int .u64 ax,.int .u64 bx,.int .u64 cx,.int .u64 dx,.slice sox nx capx,.int .i64 px] 71) rfl);have HB1:=hid hb1;have HOn1:=hid (HOn.out _ hb1);obtain⟨⟨m0,m1,m2,m3,m4,m5,m6,m7⟩,_⟩:=Qw HN1.out;have l1:=Qz HN1.out;clear hb1 HOn;go_enter func33,ntmps33
 go_wp2_with(first
  |(go_at_call 60;refine HOn1.out.mono ?_;rintro e w1 ⟨⟨ok,oT,⟨oa,ob,oc,od⟩,os⟩,cs,Q',v',xs',ops',rfl,⟨so,ocap,rfl,hos,hrow⟩,hmk,⟨hqw,hsb,hot,hol⟩,hM,hQ,hF⟩;dsimp only at hos hrow hsb hot
    have HM1:=hid hM;have HF1:=hid hF;have HQ1:=hid hQ;have HMk:=hid hmk;have HQw:=hid hqw;have HVl:=hid (fun g e=>(hM.ho.lt g e).2);have HVb:=hid (fun g e=>(hM.ho.lt g e).1);have HRw:=hid hrow;have hB01:Below w0.heap.size w0 w1:=hF.below (HB0.out.alloc HB0.out.size _) (Nat.le_trans HB0.out.size HB1.out.size) hmB hmp (fun g e=>by have:=HvB.out g e;omega);have HB01:=hid hB01;have HO2:=hid (Qx w1 (.cells #[.int .i64 ok,.string oT,.int .u64 oa,.int .u64 ob,.int .u64 oc,.int .u64 od,.slice so os.length ocap] 75) rfl);have HKy:=hid (y2R ok oT oa ob oc od os so os.length ocap (w1.alloc (.cells #[.int .i64 ok,.string oT,.int .u64 oa,.int .u64 ob,.int .u64 oc,.int .u64 od,.slice so os.length ocap] 75)).heap.size (w1.alloc (.cells #[.int .i64 ok,.string oT,.int .u64 oa,.int .u64 ob,.int .u64 oc,.int .u64 od,.slice so os.length ocap] 75)) (hid rfl) hos (hid (y2V hrow hos)) L0q (hid hsb) (hid (HP.out.below (hB01.alloc hB01.size _))));dsimp only[qV]at HKy;obtain⟨⟨o0,o1,o2,o3,o4,o5,o6⟩,_⟩:=Xb HO2.out;have l2:=Qz HO2.out;clear m0 m1 m2 m3 m4 m5 m6 m7 l1 HN1 HOn1 hM hF hQ hmk hqw hrow hB01 HB0 HP HvB hsb)
  |(go_at_call 61;refine HKy.out.mono ?_;rintro e w2 ⟨rfl,hb2⟩
    have HO3:=hid ((hb2.block _ (Qz HO2.out)).trans HO2.out);have HB2:=hid (((Below.refl _ w1).alloc L0q (.cells #[.int .i64 ok,.string oT,.int .u64 oa,.int .u64 ob,.int .u64 oc,.int .u64 od,.slice so os.length ocap] 75)).trans (hb2.mono (by rw[World.size_alloc];omega)));clear o0 o1 o2 o3 o4 o5 o6 l2 HO2 HKy hb2))
 have hb3:Below w2.heap.size w2 (w2.alloc (.cells #[.int .i64 ok,.string oT,.int .u64 oa,.int .u64 ob,.int .u64 oc,.int .u64 od,.string ⟨(sbT os).toArray⟩] 129)):=(Below.refl _ w2).alloc L0q _;have HM3:=hid ((HM1.out.below HB2.out).below hb3);have HO4:=hid ((hb3.block _ (Qz HO3.out)).trans HO3.out);have HY4:=hid (Qx w2 (.cells #[.int .i64 ok,.string oT,.int .u64 oa,.int .u64 ob,.int .u64 oc,.int .u64 od,.string ⟨(sbT os).toArray⟩] 129) rfl);have HB3:=hid (HB2.out.trans (hb3.mono HB2.out.size));obtain⟨W3,hW3⟩:∃W3,W3=w2.alloc (.cells #[.int .i64 ok,.string oT,.int .u64 oa,.int .u64 ob,.int .u64 oc,.int .u64 od,.string ⟨(sbT os).toArray⟩] 129):=⟨_,rfl⟩;rw[<-hW3]at HM3 HO4 HY4 HB3;rw[<-hW3];obtain⟨kB,hkB⟩:∃kB,kB=w2.heap.size:=⟨_,rfl⟩;rw[<-hkB]at HY4;rw[<-hkB];have HKl:Hid (w1.heap.size<kB):=hid (by rw[hkB];exact Qz HO3.out);clear hW3 hb3 HM1 HO3 HB2 hkB;have HS3:Hid ((fun W:World=>W.cell? ⟨mB,4,none⟩=some (.map (some mp))/\W.cell? ⟨kB,0,none⟩=some (.int .i64 ok)/\W.cell? ⟨kB,1,none⟩=some (.string oT)/\W.cell? ⟨kB,2,none⟩=some (.int .u64 oa)/\W.cell? ⟨kB,3,none⟩=some (.int .u64 ob)/\W.cell? ⟨kB,4,none⟩=some (.int .u64 oc)/\W.cell? ⟨kB,5,none⟩=some (.int .u64 od)/\W.cell? ⟨kB,6,none⟩=some (.string ⟨(sbT os).toArray⟩)/\Pk W mp (ops'.map qB)) W3.drew):=by
  obtain⟨⟨_,_,_,_,z4⟩,_⟩:=Ub HM3.out.hm;obtain⟨⟨y0,y1,y2,y3,y4,y5,y6⟩,_⟩:=Xb HY4.out;exact⟨z4,y0,y1,y2,y3,y4,y5,y6,HM3.out.hmap⟩
 refine Zl 99 (fun W:World=>W.cell? ⟨mB,4,none⟩=some (.map (some mp))/\W.cell? ⟨kB,0,none⟩=some (.int .i64 ok)/\W.cell? ⟨kB,1,none⟩=some (.string oT)/\W.cell? ⟨kB,2,none⟩=some (.int .u64 oa)/\W.cell? ⟨kB,3,none⟩=some (.int .u64 ob)/\W.cell? ⟨kB,4,none⟩=some (.int .u64 oc)/\W.cell? ⟨kB,5,none⟩=some (.int .u64 od)/\W.cell? ⟨kB,6,none⟩=some (.string ⟨(sbT os).toArray⟩)/\Pk W mp (ops'.map qB)) (by kernel_rfl) HS3.out (fun hHeld=> ?_);refine Qq 0 hHeld ?_;refine Qq 1 hHeld ?_;refine Qq 2 hHeld ?_;refine Qq 3 hHeld ?_;refine Qq 4 hHeld ?_
 (refine Qd 5 (fun K hK=> ?_);have hlk:=hHeld.2.2.2.2.2.2.2.2.look HQw.out;dsimp only[qV]at hlk;go_simp;refine hK.out _ _ hHeld ?_;clear hK K hlk)
 (try simp only[Act.put,List.setIfInBounds_toArray,List.set_cons_zero,List.set_cons_succ])
 refine Qq 6 hHeld ?_;refine Qq 7 hHeld ?_;refine Qq 8 hHeld ?_;refine Qq 9 hHeld ?_;refine Qq 10 hHeld ?_;clear HS3 hHeld;refine⟨by kernel_rfl,?_⟩;have HM4:=hid (HM3.out.below ((Below.refl _ W3).drew));have HF4:Hid (Frm mB mp W v W3.drew v'):=hid ((Frm.of_below HB1.out).trans (HF1.out.trans ((Frm.of_below HB3.out).trans (Frm.of_below ((Below.refl _ W3).drew)))));cases hin:inA (qB (ok,oT,(oa,ob,oc,od),os)) (ops'.map qB)with
 |true=>
  simp only[if_true]
  go_wp2_with fail
  go_ret;have hpl:plO (ok,oT,(oa,ob,oc,od),os) ops'=(ixA (qB (ok,oT,(oa,ob,oc,od),os)) (ops'.map qB),ops'):=by unfold plO;rw[if_pos hin]
  refine⟨Q',v',xs',?_,?_,fun g hg=>(HQ1.out g hg).imp id (fun h=>Nat.le_trans HB1.out.size h),HF4.out⟩
  ·rw[HMk.out,hpl];rfl
  ·rw[HMk.out,hpl];exact HM4.out
 |false=>
  obtain⟨vso,vcap,rfl⟩:=Yh HM4.out.ho;simp only[Bool.false_eq_true,if_false];have HIn:=hid hin;have mV:=(Ub HM4.out.hm).1.2.1;have lmB:=Qz HM4.out.hm
  go_wp2_with fail
  have HS6:Hid ((fun W:World=>W.cell? ⟨mB,4,none⟩=some (.map (some mp))/\W.cell? ⟨kB,0,none⟩=some (.int .i64 ok)/\W.cell? ⟨kB,1,none⟩=some (.string oT)/\W.cell? ⟨kB,2,none⟩=some (.int .u64 oa)/\W.cell? ⟨kB,3,none⟩=some (.int .u64 ob)/\W.cell? ⟨kB,4,none⟩=some (.int .u64 oc)/\W.cell? ⟨kB,5,none⟩=some (.int .u64 od)/\W.cell? ⟨kB,6,none⟩=some (.string ⟨(sbT os).toArray⟩)/\Pk W mp (ops'.map qB)) W3.drew.drew):=by
   obtain⟨⟨_,_,_,_,z4⟩,_⟩:=Ub HM4.out.hm;obtain⟨⟨y0,y1,y2,y3,y4,y5,y6⟩,_⟩:=Xb HY4.out;exact⟨z4,y0,y1,y2,y3,y4,y5,y6,HM4.out.hmap⟩
  refine Zl 6 (fun W:World=>W.cell? ⟨mB,4,none⟩=some (.map (some mp))/\W.cell? ⟨kB,0,none⟩=some (.int .i64 ok)/\W.cell? ⟨kB,1,none⟩=some (.string oT)/\W.cell? ⟨kB,2,none⟩=some (.int .u64 oa)/\W.cell? ⟨kB,3,none⟩=some (.int .u64 ob)/\W.cell? ⟨kB,4,none⟩=some (.int .u64 oc)/\W.cell? ⟨kB,5,none⟩=some (.int .u64 od)/\W.cell? ⟨kB,6,none⟩=some (.string ⟨(sbT os).toArray⟩)/\Pk W mp (ops'.map qB)) (by kernel_rfl) HS6.out (fun hHeld=> ?_);refine Qq 0 hHeld ?_;refine Qq 1 hHeld ?_;refine Qq 2 hHeld ?_;refine Qq 3 hHeld ?_;refine Qq 4 hHeld ?_;refine Qq 5 hHeld ?_;refine Jh (fun K hK=> ?_);obtain⟨W5,hrun5,hpk5,hgr5⟩:=hHeld.2.2.2.2.2.2.2.2.upd (o:=(ok,oT,(oa,ob,oc,od),os)) HIn.out HQw.out (by rw[List.length_map];unfold maxLen;omega);rw[List.length_map]at hrun5;dsimp only[qV]at hrun5;have HK5:=hid hpk5;have HG5:=hid hgr5;clear hHeld hpk5 hgr5
  go_simp
  refine hK.out _ _ ?_;clear hK K hrun5;clear HS6;have hnp:w1.heap.size≠mp:=by have:=HF1.out.size;have:=HB1.out.size;omega
  have hnm:w1.heap.size≠mB:=by have:=HF1.out.size;have:=HB1.out.size;omega
  have HO5:Hid (W5.heap[w1.heap.size]? =some (.cells #[.int .i64 ok,.string oT,.int .u64 oa,.int .u64 ob,.int .u64 oc,.int .u64 od,.slice so os.length ocap] 75)):=hid ((HG5.out.block _ (Qz HO4.out) (fun e=>hnp (Option.some.inj e))).trans HO4.out);have HM5:Hid (W5.heap[mB]? =some (.cells #[gv,.slice vso ops'.length vcap,vn,vr,.map (some mp)] 83)):=hid ((HG5.out.block _ lmB (fun e=>HM4.out.hne (Option.some.inj e))).trans HM4.out.hm);have HCl:=hid (fun W:World=>If oT W (Nat.le_trans hot (by decide)));obtain⟨⟨o0,o1,o2,o3,o4,o5,o6⟩,⟨_,f1,_⟩⟩:=Xb HO5.out;have l5:=Qz HO5.out
  go_wp2_with(first
   |(go_at_call 32;refine(HCl.out _).mono ?_;rintro e w6 ⟨rfl,hb6⟩
     have HO6:=hid ((hb6.block _ (Qz HO5.out)).trans HO5.out);have HB6:=hid hb6;clear o0 o1 o2 o3 o4 o5 o6 l5 f1 hb6 HCl;obtain⟨⟨o0,o1,o2,o3,o4,o5,o6⟩,⟨_,f1,_⟩⟩:=Xb HO6.out;have l6:=Qz HO6.out))
  clear o0 o1 o2 o3 o4 o5 o6 l6 f1 mV;obtain⟨W7,hW7⟩:∃W7,W7=w6.setCell ⟨w1.heap.size,1,none⟩ (.string oT):=⟨_,rfl⟩;rw[<-hW7];obtain⟨W8,hW8⟩:∃W8,W8=W7.drew:=⟨_,rfl⟩;have hE7:∀k,W8.heap[k]? =w6.heap[k]? :=fun k=>by rw[hW8,hW7];exact y2U HO6.out 1 (.string oT) rfl k
  have hs7:W8.heap.size=w6.heap.size:=by rw[hW8,hW7];exact World.size_setCell _ _ _
  have HF8:Hid (Frm mB mp W3.drew (.slice vso ops'.length vcap) W8 (.slice vso ops'.length vcap)):=hid ((Frm.of_below (Below.refl _ W3.drew).drew).trans ((Frm.grown HG5.out).trans ((Frm.of_below HB6.out).trans (Frm.same (by rw[hW8,hW7];rfl) (by rw[hW8,hW7];rfl) (by rw[hW8,hW7];rfl) (Nat.le_of_eq hs7.symm) (fun k _=>hE7 k)))));have HE8:Hid (∀k,k<W3.drew.heap.size->k≠mp->W8.heap[k]? =W3.drew.heap[k]?):=hid fun k hk hne=>(hE7 k).trans ((HB6.out.block k (Nat.lt_of_lt_of_le hk HG5.out.size)).trans (HG5.out.block k hk (fun e=>hne (Option.some.inj e))))
  have HK8:Hid (Pk W8 mp (ops'.map qB++[qB (ok,oT,(oa,ob,oc,od),os)])):=hid ((HK5.out.same (HB6.out.block _ HK5.out.lt)).same (hE7 mp));have HM7:Hid (W8.heap[mB]? =some (.cells #[gv,.slice vso ops'.length vcap,vn,vr,.map (some mp)] 83)):=hid ((HE8.out mB lmB HM4.out.hne).trans HM4.out.hm);have HOw8:Hid (W8.ownsRow B 75 7 (.slice vso ops'.length vcap) ops'.length xs'):=hid (Jz HM4.out.ho fun g e=>HE8.out g (HM4.out.ho.lt g e).2 (by have:=(HM4.out.ho.lt g e).1;omega));have HO8:Hid (W8.heap[w1.heap.size]? =some (.cells #[.int .i64 ok,.string oT,.int .u64 oa,.int .u64 ob,.int .u64 oc,.int .u64 od,.slice so os.length ocap] 75)):=hid ((hE7 _).trans HO6.out);have hs8:W3.heap.size<=W8.heap.size:=HF8.out.size;have hs3:w1.heap.size<=W3.heap.size:=HB3.out.size;have hsW:W.heap.size<=w1.heap.size:=Nat.le_trans HB1.out.size HF1.out.size;have HNw:=hid (World.news_of_block (Qx W8 (.cells #[.int .i64 ok,.string oT,.int .u64 oa,.int .u64 ob,.int .u64 oc,.int .u64 od,.slice so os.length ocap] 75) rfl));have HNo:Hid (∀u∈([.int .i64 ok,.string oT,.int .u64 oa,.int .u64 ob,.int .u64 oc,.int .u64 od,.slice so os.length ocap]:List Value),u.oneCell'=true):=hid (by simp[Value.oneCell']);have HNe:Hid (some mB≠Value.ownBlock (.slice vso ops'.length vcap)):=hid fun e=>by have:=HVb.out mB e.symm;omega
  have HNn:Hid (some w1.heap.size≠Value.ownBlock (.slice vso ops'.length vcap)):=hid fun e=>by have:=HVl.out _ e.symm;omega
  have mm1:ops'.length+1<=maxLen:=by unfold maxLen;omega
  have mm2:(ops'.length+1)*80<=140737488355328:=by omega
  have mm3:B<=(W8.alloc (.cells #[.int .i64 ok,.string oT,.int .u64 oa,.int .u64 ob,.int .u64 oc,.int .u64 od,.slice so os.length ocap] 75)).heap.size:=by rw[World.size_alloc];omega
  have mm4:(W8.alloc (.cells #[.int .i64 ok,.string oT,.int .u64 oa,.int .u64 ob,.int .u64 oc,.int .u64 od,.slice so os.length ocap] 75)).heap.size=W8.heap.size+1:=World.size_alloc _ _;have mm6:mB<W8.heap.size:=by omega
  have mm5:mB<(W8.alloc (.cells #[.int .i64 ok,.string oT,.int .u64 oa,.int .u64 ob,.int .u64 oc,.int .u64 od,.slice so os.length ocap] 75)).heap.size:=by rw[World.size_alloc];omega
  have HS8:Hid ((fun W:World=>W.cell? ⟨mB,1,none⟩=some (.slice vso ops'.length vcap)/\W.cell? ⟨w1.heap.size,0,none⟩=some (.int .i64 ok)/\W.cell? ⟨w1.heap.size,1,none⟩=some (.string oT)/\W.cell? ⟨w1.heap.size,2,none⟩=some (.int .u64 oa)/\W.cell? ⟨w1.heap.size,3,none⟩=some (.int .u64 ob)/\W.cell? ⟨w1.heap.size,4,none⟩=some (.int .u64 oc)/\W.cell? ⟨w1.heap.size,5,none⟩=some (.int .u64 od)/\W.cell? ⟨w1.heap.size,6,none⟩=some (.slice so os.length ocap)) W7.drew):=by
   rw[<-hW8];obtain⟨⟨_,z1,_⟩,_⟩:=Ub HM7.out;obtain⟨⟨y0,y1,y2,y3,y4,y5,y6⟩,_⟩:=Xb HO8.out;exact⟨z1,y0,y1,y2,y3,y4,y5,y6⟩
  have HW8:=hid hW8;obtain⟨iT,hiT,hzT0,hzT1,hzT2⟩:=info_parts Tryz.infoOp;clear hE7 hs7 hW7 hW8 HO6 HO5 HM5 HB6 HK5 HG5;refine Zl 12 (fun W:World=>W.cell? ⟨mB,1,none⟩=some (.slice vso ops'.length vcap)/\W.cell? ⟨w1.heap.size,0,none⟩=some (.int .i64 ok)/\W.cell? ⟨w1.heap.size,1,none⟩=some (.string oT)/\W.cell? ⟨w1.heap.size,2,none⟩=some (.int .u64 oa)/\W.cell? ⟨w1.heap.size,3,none⟩=some (.int .u64 ob)/\W.cell? ⟨w1.heap.size,4,none⟩=some (.int .u64 oc)/\W.cell? ⟨w1.heap.size,5,none⟩=some (.int .u64 od)/\W.cell? ⟨w1.heap.size,6,none⟩=some (.slice so os.length ocap)) (by kernel_rfl) HS8.out (fun hHeld=> ?_);rw[<-HW8.out]at hHeld ⊢;refine Qq 0 hHeld ?_;refine Qq 1 hHeld ?_;refine Qq 2 hHeld ?_;refine Qq 3 hHeld ?_;refine Qq 4 hHeld ?_;refine Qq 5 hHeld ?_;refine Qq 6 hHeld ?_
  (refine Qd 7 (fun K hK=> ?_);go_simp;replace hHeld:=y2S hHeld ((Below.refl _ W8).alloc L0q (.cells #[.int .i64 ok,.string oT,.int .u64 oa,.int .u64 ob,.int .u64 oc,.int .u64 od,.slice so os.length ocap] 75));refine hK.out _ _ hHeld ?_;clear hK K)
  (try simp only[Act.put,List.setIfInBounds_toArray,List.set_cons_zero,List.set_cons_succ])
  (refine Qd 8 (fun K hK=> ?_);refine step_append_lies _ rfl (.tmp 46) (.tmp 48) 27 rfl B 75 iT (.agg #[.int .i64 0,.string ⟨#[]⟩,.int .u64 0,.int .u64 0,.int .u64 0,.int .u64 0,.slice none 0 0]) 7 80 Tryz.underlying27 hiT hzT0 hzT1 hzT2 rfl (by decide) (.slice vso ops'.length vcap) ops'.length xs' (by rfl) (HOw8.out.alloc _) ⟨W8.heap.size,0,none⟩ 1 1 [.int .i64 ok,.string oT,.int .u64 oa,.int .u64 ob,.int .u64 oc,.int .u64 od,.slice so os.length ocap] (by rfl) rfl HNw.out HNo.out (by decide) mm1 mm2 mm3 (W8.heap.size+1) mm4 ?_;intro g9 cap9 w9 hown9 hgr9 hat9 hlt9;replace hHeld:=y2T hHeld HNe.out HNn.out hgr9;have HM9:=hid ((hgr9.block mB mm5 HNe.out).trans ((Below.heap_alloc _ _ _ mm6).trans HM7.out));have HO9:=hid hown9;have HG9:=hid hgr9;have HA9:=hid hat9;clear hown9 hgr9 hat9;refine hK.out _ _ hHeld ?_;clear hK K)
  (try simp only[Act.put,List.setIfInBounds_toArray,List.set_cons_zero,List.set_cons_succ])
  (refine Qd 9 (fun K hK=> ?_);go_simp;refine hK.out _ _ hHeld ?_;clear hK K)
  (try simp only[Act.put,List.setIfInBounds_toArray,List.set_cons_zero,List.set_cons_succ])
  (refine Qd 10 (fun K hK=> ?_);go_simp;refine hK.out _ _ hHeld ?_;clear hK K)
  (try simp only[Act.put,List.setIfInBounds_toArray,List.set_cons_zero,List.set_cons_succ])
  refine Qq 11 hHeld ?_;refine Jh (fun K hK=> ?_);obtain⟨⟨s0,s1,s2,s3,s4⟩,f0,f1,f2,f3,f4⟩:=Ub HM9.out;have ls:=Qz HM9.out;clear hHeld
  go_simp
  refine hK.out _ _ ?_;clear hK K s0 s1 s2 s3 s4 f0 f1 f2 f3 f4 ls
  go_wp2_with fail
  go_ret;have hpl:plO (ok,oT,(oa,ob,oc,od),os) ops'=(ops'.length,ops'++[(ok,oT,(oa,ob,oc,od),os)]):=by unfold plO;rw[if_neg (by rw[HIn.out];decide)]
  have hR:∀g,(W.heap.size<=g/\g<w1.heap.size/\¬Q' g/\Value.ownBlock (.slice vso ops'.length vcap)≠some g)->g<W3.drew.heap.size/\g≠mB/\g≠mp/\Value.ownBlock (.slice vso ops'.length vcap)≠some g:=fun g hg=>⟨Nat.lt_of_lt_of_le hg.2.1 hs3,by omega,by omega,hg.2.2.2⟩
  have hcs:OpC W3.drew (fun g=>W.heap.size<=g/\g<w1.heap.size/\¬Q' g/\Value.ownBlock (.slice vso ops'.length vcap)≠some g) (ok,oT,(oa,ob,oc,od),os) [.int .i64 ok,.string oT,.int .u64 oa,.int .u64 ob,.int .u64 oc,.int .u64 od,.slice so os.length ocap]:=
   ⟨so,ocap,rfl,hos,HRw.out.keep fun g hg=>⟨⟨Nat.le_trans HB1.out.size hg.1,hg.2⟩,HB3.out.block g hg.2.1⟩⟩
  have hend:=HM4.out.put hcs hR HF8.out.size HE8.out HK8.out HO9.out HG9.out HA9.out;refine⟨_,_,_,?_,by rw[HMk.out,hpl];exact hend,fun g hg=> ?_,HF4.out.trans (HF8.out.trans ((Frm.of_below ((Below.refl _ W8).alloc L0q _)).trans ((Frm.app HG9.out (by rw[World.size_alloc];exact HA9.out)).trans Frm.setM)))⟩
  ·rw[HMk.out,hpl];rfl
  ·rcases hg with hg|hg
   ·exact(HQ1.out g hg).imp id (fun h=>Nat.le_trans HB1.out.size h)
   ·exact .inr hg.1
mutual
def ndT:RT->Nat
 | .mk _ _ _ _ _ _ s _=>1+ndL s
def ndL:List RT->Nat
 |[]=>0
 |t::r=>ndT t+ndL r
end
theorem z4z(o:Ox)(ops:List Ox):(plO o ops).1<(plO o ops).2.length/\(plO o ops).2.length<=ops.length+1/\∃l,(plO o ops).2=ops++l:=by
 unfold plO;split
 ·rename_i h
  have:=z2m _ _ h;rw[List.length_map]at this;exact⟨this,Nat.le_succ _,[],(List.append_nil _).symm⟩
 ·exact⟨by simp,by simp,[o],rfl⟩
mutual
theorem Tw(ix:ByteArray->Int):∀(t:RT) (ops:List Ox),(mkT ix t ops).1<(mkT ix t ops).2.length/\(mkT ix t ops).2.length<=ops.length+ndT t/\∃l,(mkT ix t ops).2=ops++l
 | .mk k T a b c d s p,ops=>by
   rw[mkT,ndT];split
   ·obtain⟨h1,h2,h3⟩:=z4z (5,{data:=#[]},(0,0,0,0),[ix T]) ops
    exact⟨h1,by omega,h3⟩
   ·obtain⟨h1,h2,l,h3⟩:=z4z (k,T,(a,b,c,d),(mkL ix s ops).1) (mkL ix s ops).2
    obtain⟨h4,_,l2,h5⟩:=Kd ix s ops;exact⟨h1,by omega,l2++l,by rw[h3,h5,List.append_assoc]⟩
theorem Kd(ix:ByteArray->Int):∀(s:List RT) (ops:List Ox),(mkL ix s ops).2.length<=ops.length+ndL s/\((mkL ix s ops).1.length=s.length/\∀x∈(mkL ix s ops).1,0<=x/\x<((mkL ix s ops).2.length:Int))/\∃l,(mkL ix s ops).2=ops++l
 |[],ops=>by
  rw[mkL,ndL];exact⟨Nat.le_refl _,⟨rfl,fun x hx=>by cases hx⟩,[],(List.append_nil _).symm⟩
 |t::r,ops=>by
  rw[mkL,ndL];dsimp only;obtain⟨h1,h2,l,h3⟩:=Tw ix t ops;obtain⟨h4,⟨h5,h6⟩,l2,h7⟩:=Kd ix r (mkT ix t ops).2;refine⟨by omega,⟨by rw[List.length_cons,List.length_cons,h5],fun x hx=> ?_⟩,l++l2,by rw[h7,h3,List.append_assoc]⟩;have h8:(mkT ix t ops).2.length<=(mkL ix r (mkT ix t ops).2).2.length:=by rw[h7,List.length_append];omega
  rcases List.mem_cons.1 hx with rfl|hx
  ·exact⟨by omega,by omega⟩
  ·exact h6 x hx
end
theorem z4A(ix:ByteArray->Int)(t:RT):∀(s:List RT) (ops:List Ox),mkL ix (s++[t]) ops=((mkL ix s ops).1++[((mkT ix t (mkL ix s ops).2).1:Int)],(mkT ix t (mkL ix s ops).2).2)
 |[],ops=>by rw[List.nil_append,mkL,mkL,mkL,List.nil_append]
 |x::r,ops=>by rw[List.cons_append,mkL,mkL,z4A ix t r,List.cons_append]
theorem Ty(a b:List RT):ndL (a++b)=ndL a+ndL b:=by
 induction a with
 |nil=>rw[List.nil_append,ndL,Nat.zero_add]
 |cons t r ih=>rw[List.cons_append,ndL,ndL,ih,Nat.add_assoc]
theorem Tf(s:List RT)(j:Nat)(hj:j<s.length):ndL (s.take j)+ndT s[j]<=ndL s:=by
 have h:ndL s=ndL (s.take (j+1))+ndL (s.drop (j+1)):=by rw[<-Ty,List.take_append_drop]
 rw[List.take_succ_eq_append_getElem hj,Ty,ndL,ndL]at h;omega
theorem z4B(n:Nat)(hn:n<=9223372036854775807):∀(s:List Int),(∀x∈s,0<=x/\x<(n:Int))->(sbT s).length<=22*s.length
 |[],_=>by rw[sbT];exact Nat.zero_le _
 |i::r,h=>by
  have h1:=h i List.mem_cons_self;have h2:=Lib.itoa_length_le i (by omega) (by omega);have h3:=z4B n hn r (fun x hx=>h x (List.mem_cons_of_mem _ hx));rw[sbT,List.length_append,List.length_cons,List.length_cons];omega
theorem y2X(ix:ByteArray->Int)(s:List RT)(ops:List Ox)(h1:s.length<=1048576)(h2:ops.length+ndL s<=1048576):SbZ (mkL ix s ops).1:=by
 obtain⟨h4,⟨h5,h6⟩,_⟩:=Kd ix s ops;have h7:=z4B 1048577 (by omega) (mkL ix s ops).1 (fun x hx=>by have:=h6 x hx;exact⟨this.1,by omega⟩);exact⟨fun i hi=>by have:=h6 i hi;omega,by omega⟩
theorem z4C{R k:Nat}(h:k≠R):(((((((W.setCell ⟨R,0,none⟩ v0).setCell ⟨R,1,none⟩ v1).setCell ⟨R,2,none⟩ v2).setCell ⟨R,3,none⟩ v3).setCell ⟨R,4,none⟩ v4).setCell ⟨R,5,none⟩ v5).setCell ⟨R,6,none⟩ v6).heap[k]? =W.heap[k]? :=((Below.heap_setCell _ _ _ _ h).trans ((Below.heap_setCell _ _ _ _ h).trans ((Below.heap_setCell _ _ _ _ h).trans ((Below.heap_setCell _ _ _ _ h).trans ((Below.heap_setCell _ _ _ _ h).trans ((Below.heap_setCell _ _ _ _ h).trans (Below.heap_setCell _ _ _ _ h)))))))
theorem z4D{R:Nat}:(((((((W.setCell ⟨R,0,none⟩ v0).setCell ⟨R,1,none⟩ v1).setCell ⟨R,2,none⟩ v2).setCell ⟨R,3,none⟩ v3).setCell ⟨R,4,none⟩ v4).setCell ⟨R,5,none⟩ v5).setCell ⟨R,6,none⟩ v6).heap.size=W.heap.size:=by
 rw[World.size_setCell,World.size_setCell,World.size_setCell,World.size_setCell,World.size_setCell,World.size_setCell,World.size_setCell]
theorem z4E(x:Int)(h: -1<=x/\x<=1048576):qW (5,{data:=#[]},(0,0,0,0),[x])/\SbZ [x]:=by
 have h2:=Lib.itoa_length_le x (by omega) (by omega);have h3:(sbT [x]).length=(Lib.itoa x).length+1:=by rw[sbT,sbT,List.length_append];rfl
 refine⟨⟨(show(Lit.int .i64 5).wf=true by decide),(show(0:Nat)<=maxLen by unfold maxLen;omega),(show(Lit.int .u64 0).wf=true by decide),(show(Lit.int .u64 0).wf=true by decide),(show(Lit.int .u64 0).wf=true by decide),(show(Lit.int .u64 0).wf=true by decide),?_⟩,fun i hi=> ?_,by omega⟩
 ·show(sbT [x]).length<=maxLen
  unfold maxLen;omega
 ·obtain rfl:=List.mem_singleton.1 hi
  omega
theorem Hv{a0 a1:Addr}(h:W.cell? a0=some v0/\W.cell? a1=some v1)(hb:Below W.heap.size W W'):W'.cell? a0=some v0/\W'.cell? a1=some v1:=
 ⟨(hb.cell (p:=a0) (World.block_lt_of_cell? W _ h.1)).trans h.1,(hb.cell (p:=a1) (World.block_lt_of_cell? W _ h.2)).trans h.2⟩
theorem y2Y(ix:ByteArray->Int)(T:ByteArray)(a b c d:Int)(so:Option Addr)(n cap:Nat)(p:Int)(s:List RT)(Q:Nat->Prop)(B mB mp:Nat)(gso:Option Addr)(gn gcap:Nat)(vn vr:Value)(ops:List Ox)(v:Value)(xs:List Value)(W:World)(hol:ops.length<=1048576)(hix: -1<=ix T/\ix T<=1048576)
  (HM:Hid (Mkr W Q B mB mp (.slice gso gn gcap) vn vr ops v xs))
  (HFi:Hid (∀W1:World,Below W.heap.size W W1->Calls prog 104 #[.agg #[.slice gso gn gcap],.string T] W1 fun e w'=>e=.returned (.int .i64 (ix T))/\Below W1.heap.size W1 w')):
  Calls prog 60 #[.pointer (some ⟨mB,0,none⟩),.agg #[.int .i64 5,.string T,.int .u64 a,.int .u64 b,.int .u64 c,.int .u64 d,.slice so n cap,.int .i64 p]] W (OnP ix (.mk 5 T a b c d s p) Q B mB mp (.slice gso gn gcap) vn vr ops v W):=by
 obtain⟨hB1,e0,e1⟩:=Fz W (.cells #[.int .i64 5,.string T,.int .u64 a,.int .u64 b,.int .u64 c,.int .u64 d,.slice so n cap,.int .i64 p] 71) (.cells #[.int .i64 0,.string ⟨#[]⟩,.int .u64 0,.int .u64 0,.int .u64 0,.int .u64 0,.slice none 0 0] 75);obtain⟨W1,hW1⟩:∃W1,W1=(W.alloc (.cells #[.int .i64 5,.string T,.int .u64 a,.int .u64 b,.int .u64 c,.int .u64 d,.slice so n cap,.int .i64 p] 71)).alloc (.cells #[.int .i64 0,.string ⟨#[]⟩,.int .u64 0,.int .u64 0,.int .u64 0,.int .u64 0,.slice none 0 0] 75):=⟨_,rfl⟩;rw[<-hW1]at hB1 e0 e1;obtain⟨W2,hW2⟩:∃W2,W2=W1.drew:=⟨_,rfl⟩;have HB1:=hid hB1;have HZ1:Hid (W2.heap[W.heap.size+1]? =some (.cells #[.int .i64 0,.string ⟨#[]⟩,.int .u64 0,.int .u64 0,.int .u64 0,.int .u64 0,.slice none 0 0] 75)):=hid (by rw[hW2];exact e1);have HB2:Hid (Below W.heap.size W W2):=hid (by rw[hW2];exact hB1.drew);have lr1:W.heap.size+1<W2.heap.size:=Qz HZ1.out;have HLr:Hid (∀w3:World,Below W2.heap.size W2 w3->W.heap.size+1<w3.heap.size):=hid fun w3 h3=>Nat.lt_of_lt_of_le lr1 h3.size
 have HFd:=hid (HFi.out W2 HB2.out);obtain⟨⟨m0,m1,m2,m3,m4,m5,m6,m7⟩,_⟩:=Qw e0;have l0:=Qz e0;have HS2:Hid ((fun X:World=>X.cell? ⟨mB,0,none⟩=some (.slice gso gn gcap)/\X.cell? ⟨W.heap.size,1,none⟩=some (.string T)) W1.drew):=hid ⟨(Ub (HM.out.below hB1).hm).1.1,m1⟩;have HW1:=hid hW1;have HW2:=hid hW2;clear hB1 e0 e1 hW1 hW2;go_enter func60,ntmps60
 go_wp2_with fail
 rw[<-HW1.out];clear HW1
 go_wp2_with fail
 clear m0 m1 m2 m3 m4 m5 m6 m7 l0;refine Zl 9 (fun X:World=>X.cell? ⟨mB,0,none⟩=some (.slice gso gn gcap)/\X.cell? ⟨W.heap.size,1,none⟩=some (.string T)) (by kernel_rfl) HS2.out (fun hHeld=> ?_);rw[<-HW2.out]at hHeld ⊢;refine Qq 0 hHeld ?_;refine Qq 1 hHeld ?_;refine Qq 2 hHeld ?_;refine Qq 3 hHeld ?_;refine Qq 4 hHeld ?_;refine Qq 5 hHeld ?_
 (refine Qd 6 (fun K hK=> ?_);go_simp;refine HFd.out.mono ?_;rintro e w3 ⟨rfl,hb3⟩;have HB3:=hid hb3;clear hb3;go_simp;replace hHeld:=Hv hHeld HB3.out;refine hK.out _ _ hHeld ?_;clear hK K)
 (try simp only[Act.put,List.setIfInBounds_toArray,List.set_cons_zero,List.set_cons_succ])
 (refine Qd 7 (fun K hK=> ?_);go_simp;replace hHeld:=Hv hHeld ((Below.refl _ w3).alloc L0q (.cells #[.int .i64 (ix T)] 3));refine hK.out _ _ hHeld ?_;clear hK K)
 (try simp only[Act.put,List.setIfInBounds_toArray,List.set_cons_zero,List.set_cons_succ])
 (refine Qd 8 (fun K hK=> ?_);go_simp;refine hK.out _ _ hHeld ?_;clear hK K)
 (try simp only[Act.put,List.setIfInBounds_toArray,List.set_cons_zero,List.set_cons_succ])
 refine Jh (fun K hK=> ?_);have HZ3:=hid (((Below.refl _ w3).alloc L0q (.cells #[.int .i64 (ix T)] 3)).block _ (HLr.out w3 HB3.out)|>.trans ((HB3.out.block _ lr1).trans HZ1.out));obtain⟨⟨z0,z1,z2,z3,z4,z5,z6⟩,⟨f0,f1,f2,f3,f4,f5,f6⟩⟩:=Xb HZ3.out;have lz:=Qz HZ3.out;clear hHeld
 go_simp
 refine hK.out _ _ ?_;clear hK K z0 z1 z2 z3 z4 z5 z6 f0 f1 f2 f3 f4 f5 f6 lz
 go_wp2_with fail
 have HZ4:=Tv (v0:=.int .i64 5) (v1:=.string ⟨#[]⟩) (v2:=.int .u64 0) (v3:=.int .u64 0) (v4:=.int .u64 0) (v5:=.int .u64 0) (v6:=.slice (some ⟨w3.heap.size,0,none⟩) 1 1) HZ3.out;obtain⟨⟨r0,r1,r2,r3,r4,r5,r6⟩,_⟩:=Xb HZ4;have hb3:Below W.heap.size W (w3.alloc (.cells #[.int .i64 (ix T)] 3)):=(HB2.out.trans (HB3.out.mono HB2.out.size)).alloc (Nat.le_trans HB2.out.size HB3.out.size) _;refine bodyPost_ret (v:=.agg #[.int .i64 5,.string ⟨#[]⟩,.int .u64 0,.int .u64 0,.int .u64 0,.int .u64 0,.slice (some ⟨w3.heap.size,0,none⟩) 1 1]) (by simp[results,Tryz.results60,go_sem,r0,r1,r2,r3,r4,r5,r6]) rfl ?_;have hl3:W.heap.size+1<w3.heap.size:=HLr.out w3 HB3.out;refine⟨(5,{data:=#[]},(0,0,0,0),[ix T]),[.int .i64 5,.string ⟨#[]⟩,.int .u64 0,.int .u64 0,.int .u64 0,.int .u64 0,.slice (some ⟨w3.heap.size,0,none⟩) 1 1],Q,v,xs,ops,rfl,⟨some ⟨w3.heap.size,0,none⟩,1,rfl,by show [ix T].length<=1048576;simp,?_⟩,by rw[mkT,if_pos rfl],⟨(z4E _ hix).1,(z4E _ hix).2,(show(0:Nat)<=1073741824 by omega),hol⟩,HM.out.below (Hk hb3 (by omega)),fun g hg=>.inl hg,Frm.of_below (Hk hb3 (by omega))⟩;intro j hj;obtain rfl:j=0:=by have:j<1:=hj;omega
 refine⟨w3.heap.size,0,rfl,⟨by omega,by rw[z4D,World.size_alloc];omega,fun hq=> ?_,fun e=> ?_⟩,?_⟩
 ·have:=(HM.out.hq _ hq).1
  omega
 ·have:=(HM.out.ho.lt _ e).2
  omega
 ·exact(World.cell?_of_block (a:=⟨w3.heap.size,0+0,none⟩) (z4C (R:=W.heap.size+1) (show w3.heap.size≠W.heap.size+1 by omega))).trans (Ax w3 (.int .i64 (ix T)) 3 0 _ rfl)
end Go.Proofs.YtlogolpcipiceaaGreatDoor
