/- Lemmas for the last text. Conditions: those that each names. -/
import Derived.Test.YtmelafeingcgnaaGreatDoorVPDnToC4
import Derived.Test.YtmelafeingcgnaaGreatDoorVU3ToU8
import Derived.Lib.ItoaLen
set_option linter.unusedVariables false
set_option maxRecDepth 100000
set_option maxHeartbeats 16000000
namespace Go.Proofs.YtmelafeingcgnaaGreatDoor
open Go.Proofs.Tryz
open Go.RowKit Go.Shelf Go.Maps
variable {mB mp:Nat} {W W':World} {v v0 v1 v2 v3 v4 v5 v6:Value}
theorem Ug{w:World}{g:Nat}{t:TypeId}{o a1 a2 a3 a4:Value}(h:w.heap[g]? =some (.cells #[o,a1,a2,a3,a4] t)):(w.cell? ⟨g,0,none⟩=some o/\w.cell? ⟨g,1,none⟩=some a1/\w.cell? ⟨g,2,none⟩=some a2/\w.cell? ⟨g,3,none⟩=some a3/\w.cell? ⟨g,4,none⟩=some a4)/\(w.frozen? ⟨g,0,none⟩=false/\w.frozen? ⟨g,1,none⟩=false/\w.frozen? ⟨g,2,none⟩=false/\w.frozen? ⟨g,3,none⟩=false/\w.frozen? ⟨g,4,none⟩=false):=by
 refine⟨⟨?_,?_,?_,?_,?_⟩,⟨?_,?_,?_,?_,?_⟩⟩<;>simp[World.cell?,World.frozen?,h]
theorem Frm.grown(h:W.grownBy W' (some mp)):Frm mB mp W v W' v:=⟨h.os,h.tape,h.output,h.size,fun k o _ r _=>h.block k o (fun e=>r (Option.some.inj e)),fun _ h=>.inl h⟩
theorem Frm.app{o n r:Nat}(h:W.grownBy W' v.ownBlock)(y:v.ownBlock=some o∨o=W.heap.size):Frm mB mp W v W' (zS o n r):=⟨h.os,h.tape,h.output,h.size,fun k A _ _ D=>h.block k A (fun e=>D e.symm),fun g E=>by
 obtain rfl:o=g:=Option.some.inj E;exact y.imp id (fun e=>Nat.le_of_eq e.symm)⟩
theorem Frm.setM{j:Nat}{u:Value}:Frm mB mp W v (W.setCell ⟨mB,j,none⟩ u) v:=⟨rfl,rfl,rfl,by simp,fun k r o _ _=>Below.heap_setCell _ _ _ _ o,fun _ h=>.inl h⟩
theorem Frm.same(o:W'.os=W.os)(r:W'.tape=W.tape)(y:W'.output=W.output)(A:W.heap.size<=W'.heap.size)(D:∀k,k<W.heap.size->W'.heap[k]? =W.heap[k]?):Frm mB mp W v W' v:=⟨o,r,y,A,fun k E _ _ _=>D k E,fun _ h=>.inl h⟩
theorem y3S{o a1 a2 a3 a4 r y A:Addr}{v7:Value}(h:W.cell? o=some v0/\W.cell? a1=some v1/\W.cell? a2=some v2/\W.cell? a3=some v3/\W.cell? a4=some v4/\W.cell? r=some v5/\W.cell? y=some v6/\W.cell? A=some v7)(D:zB W W'):W'.cell? o=some v0/\W'.cell? a1=some v1/\W'.cell? a2=some v2/\W'.cell? a3=some v3/\W'.cell? a4=some v4/\W'.cell? r=some v5/\W'.cell? y=some v6/\W'.cell? A=some v7:=by
 obtain⟨E,G,U,V,Y,Z,z6,z7⟩:=h;have e:∀{a:Addr} {u:Value},W.cell? a=some u->W'.cell? a=some u:=fun{a u} h=>(D.cell (p:=a) (World.block_lt_of_cell? W _ h)).trans h
 exact⟨e E,e G,e U,e V,e Y,e Z,e z6,e z7⟩
theorem y3T{m r:Nat}{row:Option Nat}{v7:Value}(h:zC W m 1 v0/\zC W r 0 v1/\zC W r 1 v2/\zC W r 2 v3/\zC W r 3 v4/\zC W r 4 v5/\zC W r 5 v6/\zC W r 6 v7)(A:some m≠row)(y:some r≠row)(o:W.grownBy W' row):zC W' m 1 v0/\zC W' r 0 v1/\zC W' r 1 v2/\zC W' r 2 v3/\zC W' r 3 v4/\zC W' r 4 v5/\zC W' r 5 v6/\zC W' r 6 v7:=
 ⟨o.cell h.1 A,o.cell h.2.1 y,o.cell h.2.2.1 y,o.cell h.2.2.2.1 y,o.cell h.2.2.2.2.1 y,o.cell h.2.2.2.2.2.1 y,o.cell h.2.2.2.2.2.2.1 y,o.cell h.2.2.2.2.2.2.2 y⟩
theorem y3U{w:World}{g:Nat}{o:Array Value}{t:TypeId}(h:zH w g (.cells o t))(j:Nat)(u:Value)(r:o.setIfInBounds j u=o)(k:Nat):(w.setCell ⟨g,j,none⟩ u).heap[k]? =w.heap[k]? :=by
 by_cases e:k=g
 ·subst e
  rw[Qk h j u,r,h]
 ·exact Below.heap_setCell _ _ _ _ e
theorem Mkr.put{A y D:World}{Q R:Nat->Prop}{B G V:Nat}{gv vn vr:Value}{ops:List Ox}{xs cs:List Value}{o:Ox}{X:Obj}(h:Mkr A Q B mB mp gv vn vr ops v xs)(ac:OpC A R o cs)(hR:∀g,R g->g<A.heap.size/\g≠mB/\g≠mp/\v.ownBlock≠some g)(hs:A.heap.size<=y.heap.size)(he:∀k,k<A.heap.size->k≠mp->y.heap[k]? =A.heap[k]?)(Y:Pk y mp (ops.map qB++[qB o]))
  (ad:D.ownsRow B 65 7 (zS G (ops.length+1) V) (ops.length+1) (xs++cs))(aa:(y.alloc X).grownBy D v.ownBlock)(ae:v.ownBlock=some G∨G=y.heap.size+1):
  Mkr (D.setCell ⟨mB,1,none⟩ (zS G (ops.length+1) V)) (fun g=>Q g∨R g) B mB mp gv vn vr (ops++[o]) (zS G (ops.length+1) V) (xs++cs):=by
 have ha:(y.alloc X).heap.size=y.heap.size+1:=World.size_alloc _ _;have ag:y.heap.size+1<=D.heap.size:=by have:=aa.size;omega
 have hv:∀g,v.ownBlock=some g->B<=g:=fun g e=>(h.ho.lt g e).1
 have E0:∀k,k<y.heap.size->v.ownBlock≠some k->D.heap[k]? =y.heap[k]? :=fun k Y U=>(aa.block k (by omega) (fun e=>U e.symm)).trans (Below.heap_alloc _ _ _ Y)
 have E:∀k,k<A.heap.size->k≠mB->k≠mp->v.ownBlock≠some k->(D.setCell ⟨mB,1,none⟩ (zS G (ops.length+1) V)).heap[k]? =A.heap[k]? :=fun k Y h1 Z U=>
  (Below.heap_setCell _ _ _ _ h1).trans ((E0 k (by omega) U).trans (he k Y Z))
 have lm:=Qq h.hm;have ah:=h.hmB;have ai:=h.hmp;have af:zH D mB (.cells #[gv,v,vn,vr,.map (some mp)] 116):=(E0 mB (by omega) (fun e=>by have:=hv _ e;omega)).trans ((he mB lm h.hne).trans h.hm);have hl:xs.length=ops.length*7:=h.ho.1;have ab:∀g,g<A.heap.size->v.ownBlock≠some g->Value.ownBlock (zS G (ops.length+1) V)≠some g:=fun g h1 Z e=>by
  obtain rfl:G=g:=Option.some.inj e;rcases ae with U|U
  ·exact Z U
  ·omega
 refine⟨Qk af 1 _,?_,?_,?_,?_,h.hmB,h.hmp,h.hne⟩
 ·rw[List.length_append]
  exact ownsRow_setCell_below ad (a:=⟨mB,1,none⟩) h.hmB _
 ·intro i hi
  rw[List.length_append]at hi;by_cases e:i<ops.length
  ·obtain⟨c,h1,Z⟩:=h.hops i e
   rw[List.getElem_append_left e];refine⟨c,h1.keep fun g r=>⟨.inl r,?_⟩,fun q u hq=> ?_⟩
   ·have:=h.hq g r
    exact E g this.1 this.2.1 this.2.2.1 this.2.2.2
   ·have U:=Z q u hq
    have h4:i*7+q<xs.length:=(List.getElem?_eq_some_iff.1 U).1;rw[List.getElem?_append_left h4];exact U
  ·have e1:i=ops.length:=by simp at hi;omega
   subst e1;rw[List.getElem_append_right L0q];simp only[Nat.sub_self,List.getElem_cons_zero];refine⟨cs,ac.keep fun g r=>⟨.inr r,?_⟩,fun q u hq=> ?_⟩
   ·have:=hR g r
    exact E g this.1 this.2.1 this.2.2.1 this.2.2.2
   ·rw[List.getElem?_append_right (by omega),hl,Nat.add_sub_cancel_left]
    exact hq
 ·rw[List.map_append]
  exact Y.same ((Below.heap_setCell _ _ _ _ h.hne.symm).trans (E0 mp Y.lt (fun e=>by have:=hv _ e;omega)))
 ·intro g r
  have hz:(D.setCell ⟨mB,1,none⟩ (zS G (ops.length+1) V)).heap.size=D.heap.size:=World.size_setCell _ _ _;rcases r with r|r
  ·have:=h.hq g r
   exact⟨by omega,this.2.1,this.2.2.1,ab g this.1 this.2.2.2⟩
  ·have:=hR g r
   exact⟨by omega,this.2.1,this.2.2.1,ab g this.1 this.2.2.2⟩
theorem y3V{P:Nat->Prop}{o:Obj}{r:Option Addr}{y:Nat}{s:List Int}(h:RwC W P r s)(D:s.length<=1048576):Eh (W.alloc o) (W.alloc o).heap.size (.slice r s.length y) s:=by
 refine⟨r,y,rfl,D,fun j E=> ?_⟩;obtain⟨g,q,G,_,A⟩:=h j E;have U:g<W.heap.size:=World.block_lt_of_cell? W _ A;exact⟨g,q,G,by rw[World.size_alloc];omega,(((Below.refl _ W).alloc L0q o).cell (p:=⟨g,q+j,none⟩) U).trans A⟩
theorem y3W(ix:zA->Int)(t:RT)(kx:Int)(Tx:zA)(ax bx cx dx:Int)(ao:Option Addr)(nx ap:Nat)(px:Int)(Q:Nat->Prop)(B mB mp:Nat)(gv vn vr:Value)(ops:List Ox)(v:Value)(w0 W:World)(bl:w0.heap.size<=mB)(bm:w0.heap.size<=mp)(aq:Hid (zB w0 W))(HP:Hid (Xm w0))(bS:mB<W.heap.size)(bT:mp<W.heap.size)(aV:Hid (∀g,v.ownBlock=some g->B<=g))(bU:mB<B)(bV:mp<B)(bW:B<=W.heap.size)
  (aW:Hid (∀W1:World,zB W W1->Calls prog 80 #[zP mB 0,.agg #[zI kx,zT Tx,zU ax,zU bx,zU cx,zU dx,.slice ao nx ap,zI px]] W1 (OnP ix t Q B mB mp gv vn vr ops v W1))):
  Calls prog 46 #[zP mB 0,.agg #[zI kx,zT Tx,zU ax,zU bx,zU cx,zU dx,.slice ao nx ap,zI px]] W (PlP ix t Q B mB mp gv vn vr ops v W):=by
 have aI:zB W (W.alloc (.cells #[zI kx,zT Tx,zU ax,zU bx,zU cx,zU dx,.slice ao nx ap,zI px] 119)):=(Below.refl _ W).alloc L0q _;have aJ:=hid (Qx W (.cells #[zI kx,zT Tx,zU ax,zU bx,zU cx,zU dx,.slice ao nx ap,zI px] 119) rfl);have ae:=hid aI;have aX:=hid (aW.out _ aI);obtain⟨⟨m0,m1,m2,m3,m4,m5,m6,m7⟩,_⟩:=Qf aJ.out;have l1:=Qq aJ.out;clear aI aW;go_enter func46,ntmps46
 go_wp2_with(first
  |(go_at_call 80;refine aX.out.mono ?_;rintro e w1 ⟨⟨A,y,⟨D,E,oc,G⟩,os⟩,cs,Q',v',aK,V,rfl,⟨so,aa,rfl,ar,au⟩,aY,⟨aZ,aL,a0,bX⟩,hM,hQ,hF⟩;dsimp only at ar au aL a0
    have a1:=hid hM;have av:=hid hF;have a2:=hid hQ;have aw:=hid aY;have a3:=hid aZ;have bn:=hid (fun g e=>(hM.ho.lt g e).2);have bo:=hid (fun g e=>(hM.ho.lt g e).1);have bp:=hid au;have ay:zB w0 w1:=hF.below (aq.out.alloc aq.out.size _) (Nat.le_trans aq.out.size ae.out.size) bl bm (fun g e=>by have:=aV.out g e;omega);have bY:=hid ay;have ai:=hid (Qx w1 (.cells #[zI A,zT y,zU D,zU E,zU oc,zU G,.slice so os.length aa] 65) rfl);have aM:=hid (y3R A y D E oc G os so os.length aa (w1.alloc (.cells #[zI A,zT y,zU D,zU E,zU oc,zU G,.slice so os.length aa] 65)).heap.size (w1.alloc (.cells #[zI A,zT y,zU D,zU E,zU oc,zU G,.slice so os.length aa] 65)) (hid rfl) ar (hid (y3V au ar)) L0q (hid aL) (hid (HP.out.below (ay.alloc ay.size _))));dsimp only[qV]at aM;obtain⟨⟨o0,o1,o2,o3,o4,o5,o6⟩,_⟩:=Yk ai.out;have l2:=Qq ai.out;clear m0 m1 m2 m3 m4 m5 m6 m7 l1 aJ aX hM hF hQ aY aZ au ay aq HP aV aL)
  |(go_at_call 81;refine aM.out.mono ?_;rintro e w2 ⟨rfl,aN⟩
    have az:=hid ((aN.block _ (Qq ai.out)).trans ai.out);have aA:=hid (((Below.refl _ w1).alloc L0q (.cells #[zI A,zT y,zU D,zU E,zU oc,zU G,.slice so os.length aa] 65)).trans (aN.mono (by rw[World.size_alloc];omega)));clear o0 o1 o2 o3 o4 o5 o6 l2 ai aM aN))
 have aB:zB w2 (w2.alloc (.cells #[zI A,zT y,zU D,zU E,zU oc,zU G,zT ⟨(sbT os).toArray⟩] 177)):=(Below.refl _ w2).alloc L0q _;have aC:=hid ((a1.out.below aA.out).below aB);have aO:=hid ((aB.block _ (Qq az.out)).trans az.out);have aD:=hid (Qx w2 (.cells #[zI A,zT y,zU D,zU E,zU oc,zU G,zT ⟨(sbT os).toArray⟩] 177) rfl);have aE:=hid (aA.out.trans (aB.mono aA.out.size));obtain⟨W3,aP⟩:∃W3,W3=w2.alloc (.cells #[zI A,zT y,zU D,zU E,zU oc,zU G,zT ⟨(sbT os).toArray⟩] 177):=⟨_,rfl⟩;rw[<-aP]at aC aO aD aE;rw[<-aP];obtain⟨U,aF⟩:∃U,U=w2.heap.size:=⟨_,rfl⟩;rw[<-aF]at aD;rw[<-aF];have bZ:Hid (w1.heap.size<U):=hid (by rw[aF];exact Qq az.out);clear aP aB a1 az aA aF;have a4:Hid ((fun W:World=>zC W mB 4 (.map (some mp))/\zC W U 0 (zI A)/\zC W U 1 (zT y)/\zC W U 2 (zU D)/\zC W U 3 (zU E)/\zC W U 4 (zU oc)/\zC W U 5 (zU G)/\zC W U 6 (zT ⟨(sbT os).toArray⟩)/\Pk W mp (V.map qB)) W3.drew):=by
  obtain⟨⟨_,_,_,_,z4⟩,_⟩:=Ug aC.out.hm;obtain⟨⟨y0,y1,y2,y3,y4,y5,y6⟩,_⟩:=Yk aD.out;exact⟨z4,y0,y1,y2,y3,y4,y5,y6,aC.out.hmap⟩
 refine Qc 99 (fun W:World=>zC W mB 4 (.map (some mp))/\zC W U 0 (zI A)/\zC W U 1 (zT y)/\zC W U 2 (zU D)/\zC W U 3 (zU E)/\zC W U 4 (zU oc)/\zC W U 5 (zU G)/\zC W U 6 (zT ⟨(sbT os).toArray⟩)/\Pk W mp (V.map qB)) (by kernel_rfl) a4.out (fun r=> ?_);refine Qz 0 r ?_;refine Qz 1 r ?_;refine Qz 2 r ?_;refine Qz 3 r ?_;refine Qz 4 r ?_
 (refine Qv 5 (fun K Z=> ?_);have a5:=r.2.2.2.2.2.2.2.2.look a3.out;dsimp only[qV]at a5;go_simp;refine Z.out _ _ r ?_;clear Z K a5)
 (try simp only[Act.put,zY])
 refine Qz 6 r ?_;refine Qz 7 r ?_;refine Qz 8 r ?_;refine Qz 9 r ?_;refine Qz 10 r ?_;clear a4 r;refine⟨by kernel_rfl,?_⟩;have ab:=hid (aC.out.below ((Below.refl _ W3).drew));have a6:Hid (Frm mB mp W v W3.drew v'):=hid ((Frm.of_below ae.out).trans (av.out.trans ((Frm.of_below aE.out).trans (Frm.of_below ((Below.refl _ W3).drew)))));cases hin:inA (qB (A,y,(D,E,oc,G),os)) (V.map qB)with
 |true=>
  simp only[if_true]
  go_wp2_with fail
  go_ret;have aj:plO (A,y,(D,E,oc,G),os) V=(ixA (qB (A,y,(D,E,oc,G),os)) (V.map qB),V):=by unfold plO;rw[if_pos hin]
  refine⟨Q',v',aK,?_,?_,fun g hg=>(a2.out g hg).imp id (fun h=>Nat.le_trans ae.out.size h),a6.out⟩
  ·rw[aw.out,aj];rfl
  ·rw[aw.out,aj];exact ab.out
 |false=>
  obtain⟨ac,ad,rfl⟩:=Ux ab.out.ho;simp only[Bool.false_eq_true,if_false];have a7:=hid hin;have mV:=(Ug ab.out.hm).1.2.1;have a8:=Qq ab.out.hm
  go_wp2_with fail
  have a9:Hid ((fun W:World=>zC W mB 4 (.map (some mp))/\zC W U 0 (zI A)/\zC W U 1 (zT y)/\zC W U 2 (zU D)/\zC W U 3 (zU E)/\zC W U 4 (zU oc)/\zC W U 5 (zU G)/\zC W U 6 (zT ⟨(sbT os).toArray⟩)/\Pk W mp (V.map qB)) W3.drew.drew):=by
   obtain⟨⟨_,_,_,_,z4⟩,_⟩:=Ug ab.out.hm;obtain⟨⟨y0,y1,y2,y3,y4,y5,y6⟩,_⟩:=Yk aD.out;exact⟨z4,y0,y1,y2,y3,y4,y5,y6,ab.out.hmap⟩
  refine Qc 6 (fun W:World=>zC W mB 4 (.map (some mp))/\zC W U 0 (zI A)/\zC W U 1 (zT y)/\zC W U 2 (zU D)/\zC W U 3 (zU E)/\zC W U 4 (zU oc)/\zC W U 5 (zU G)/\zC W U 6 (zT ⟨(sbT os).toArray⟩)/\Pk W mp (V.map qB)) (by kernel_rfl) a9.out (fun r=> ?_);refine Qz 0 r ?_;refine Qz 1 r ?_;refine Qz 2 r ?_;refine Qz 3 r ?_;refine Qz 4 r ?_;refine Qz 5 r ?_;refine Yj (fun K Z=> ?_);obtain⟨W5,aQ,ba,bb⟩:=r.2.2.2.2.2.2.2.2.upd (o:=(A,y,(D,E,oc,G),os)) a7.out a3.out (by rw[List.length_map];unfold maxLen;omega);rw[List.length_map]at aQ;dsimp only[qV]at aQ;have aR:=hid ba;have ah:=hid bb;clear r ba bb
  go_simp
  refine Z.out _ _ ?_;clear Z K aQ;clear a9;have bq:w1.heap.size≠mp:=by have:=av.out.size;have:=ae.out.size;omega
  have b0:w1.heap.size≠mB:=by have:=av.out.size;have:=ae.out.size;omega
  have ak:Hid (W5.heap[w1.heap.size]? =some (.cells #[zI A,zT y,zU D,zU E,zU oc,zU G,.slice so os.length aa] 65)):=hid ((ah.out.block _ (Qq aO.out) (fun e=>bq (Option.some.inj e))).trans aO.out);have br:Hid (zH W5 mB (.cells #[gv,.slice ac V.length ad,vn,vr,.map (some mp)] 116)):=hid ((ah.out.block _ a8 (fun e=>ab.out.hne (Option.some.inj e))).trans ab.out.hm);have bc:=hid (fun W:World=>Dd y W (Nat.le_trans a0 (by decide)));obtain⟨⟨o0,o1,o2,o3,o4,o5,o6⟩,⟨_,f1,_⟩⟩:=Yk ak.out;have l5:=Qq ak.out
  go_wp2_with(first
   |(go_at_call 45;refine(bc.out _).mono ?_;rintro e w6 ⟨rfl,aS⟩
     have al:=hid ((aS.block _ (Qq ak.out)).trans ak.out);have aG:=hid aS;clear o0 o1 o2 o3 o4 o5 o6 l5 f1 aS bc;obtain⟨⟨o0,o1,o2,o3,o4,o5,o6⟩,⟨_,f1,_⟩⟩:=Yk al.out;have l6:=Qq al.out))
  clear o0 o1 o2 o3 o4 o5 o6 l6 f1 mV;obtain⟨W7,ag⟩:∃W7,W7=w6.setCell ⟨w1.heap.size,1,none⟩ (zT y):=⟨_,rfl⟩;rw[<-ag];obtain⟨Y,af⟩:∃Y,Y=W7.drew:=⟨_,rfl⟩;have am:∀k,Y.heap[k]? =w6.heap[k]? :=fun k=>by rw[af,ag];exact y3U al.out 1 (zT y) rfl k
  have bd:Y.heap.size=w6.heap.size:=by rw[af,ag];exact World.size_setCell _ _ _
  have aT:Hid (Frm mB mp W3.drew (.slice ac V.length ad) Y (.slice ac V.length ad)):=hid ((Frm.of_below (Below.refl _ W3.drew).drew).trans ((Frm.grown ah.out).trans ((Frm.of_below aG.out).trans (Frm.same (by rw[af,ag];rfl) (by rw[af,ag];rfl) (by rw[af,ag];rfl) (Nat.le_of_eq bd.symm) (fun k _=>am k)))));have aU:Hid (∀k,k<W3.drew.heap.size->k≠mp->Y.heap[k]? =W3.drew.heap[k]?):=hid fun k hk bs=>(am k).trans ((aG.out.block k (Nat.lt_of_lt_of_le hk ah.out.size)).trans (ah.out.block k hk (fun e=>bs (Option.some.inj e))))
  have bt:Hid (Pk Y mp (V.map qB++[qB (A,y,(D,E,oc,G),os)])):=hid ((aR.out.same (aG.out.block _ aR.out.lt)).same (am mp));have be:Hid (zH Y mB (.cells #[gv,.slice ac V.length ad,vn,vr,.map (some mp)] 116)):=hid ((aU.out mB a8 ab.out.hne).trans ab.out.hm);have bu:Hid (Y.ownsRow B 65 7 (.slice ac V.length ad) V.length aK):=hid (Xp ab.out.ho fun g e=>aU.out g (ab.out.ho.lt g e).2 (by have:=(ab.out.ho.lt g e).1;omega));have bv:Hid (Y.heap[w1.heap.size]? =some (.cells #[zI A,zT y,zU D,zU E,zU oc,zU G,.slice so os.length aa] 65)):=hid ((am _).trans al.out);have b1:W3.heap.size<=Y.heap.size:=aT.out.size;have bw:w1.heap.size<=W3.heap.size:=aE.out.size;have b2:W.heap.size<=w1.heap.size:=Nat.le_trans ae.out.size av.out.size;have bz:=hid (World.news_of_block (Qx Y (.cells #[zI A,zT y,zU D,zU E,zU oc,zU G,.slice so os.length aa] 65) rfl));have bA:Hid (∀u∈([zI A,zT y,zU D,zU E,zU oc,zU G,.slice so os.length aa]:List Value),u.oneCell'=true):=hid (by simp[Value.oneCell']);have bf:Hid (some mB≠Value.ownBlock (.slice ac V.length ad)):=hid fun e=>by have:=bo.out mB e.symm;omega
  have bC:Hid (some w1.heap.size≠Value.ownBlock (.slice ac V.length ad)):=hid fun e=>by have:=bn.out _ e.symm;omega
  have bD:V.length+1<=maxLen:=by unfold maxLen;omega
  have bE:(V.length+1)*80<=140737488355328:=by omega
  have bF:B<=(Y.alloc (.cells #[zI A,zT y,zU D,zU E,zU oc,zU G,.slice so os.length aa] 65)).heap.size:=by rw[World.size_alloc];omega
  have bG:(Y.alloc (.cells #[zI A,zT y,zU D,zU E,zU oc,zU G,.slice so os.length aa] 65)).heap.size=Y.heap.size+1:=World.size_alloc _ _;have bH:mB<Y.heap.size:=by omega
  have bI:mB<(Y.alloc (.cells #[zI A,zT y,zU D,zU E,zU oc,zU G,.slice so os.length aa] 65)).heap.size:=by rw[World.size_alloc];omega
  have bJ:Hid ((fun W:World=>zC W mB 1 (.slice ac V.length ad)/\zC W w1.heap.size 0 (zI A)/\zC W w1.heap.size 1 (zT y)/\zC W w1.heap.size 2 (zU D)/\zC W w1.heap.size 3 (zU E)/\zC W w1.heap.size 4 (zU oc)/\zC W w1.heap.size 5 (zU G)/\zC W w1.heap.size 6 (.slice so os.length aa)) W7.drew):=by
   rw[<-af];obtain⟨⟨_,z1,_⟩,_⟩:=Ug be.out;obtain⟨⟨y0,y1,y2,y3,y4,y5,y6⟩,_⟩:=Yk bv.out;exact⟨z1,y0,y1,y2,y3,y4,y5,y6⟩
  have bK:=hid af;obtain⟨iT,bL,bM,bN,bO⟩:=info_parts Tryz.infoOp;clear am bd ag af al ak br aG aR ah;refine Qc 12 (fun W:World=>zC W mB 1 (.slice ac V.length ad)/\zC W w1.heap.size 0 (zI A)/\zC W w1.heap.size 1 (zT y)/\zC W w1.heap.size 2 (zU D)/\zC W w1.heap.size 3 (zU E)/\zC W w1.heap.size 4 (zU oc)/\zC W w1.heap.size 5 (zU G)/\zC W w1.heap.size 6 (.slice so os.length aa)) (by kernel_rfl) bJ.out (fun r=> ?_);rw[<-bK.out]at r ⊢;refine Qz 0 r ?_;refine Qz 1 r ?_;refine Qz 2 r ?_;refine Qz 3 r ?_;refine Qz 4 r ?_;refine Qz 5 r ?_;refine Qz 6 r ?_
  (refine Qv 7 (fun K Z=> ?_);go_simp;replace r:=y3S r ((Below.refl _ Y).alloc L0q (.cells #[zI A,zT y,zU D,zU E,zU oc,zU G,.slice so os.length aa] 65));refine Z.out _ _ r ?_;clear Z K)
  (try simp only[Act.put,zY])
  (refine Qv 8 (fun K Z=> ?_);refine step_append_lies _ rfl (.tmp 46) (.tmp 48) 22 rfl B 65 iT (.agg #[zI 0,zT {data:=#[]},zU 0,zU 0,zU 0,zU 0,.slice none 0 0]) 7 80 Tryz.underlying22 bL bM bN bO rfl (by decide) (.slice ac V.length ad) V.length aK (by rfl) (bu.out.alloc _) ⟨Y.heap.size,0,none⟩ 1 1 [zI A,zT y,zU D,zU E,zU oc,zU G,.slice so os.length aa] (by rfl) rfl bz.out bA.out (by decide) bD bE bF (Y.heap.size+1) bG ?_;intro g9 b3 w9 bg aH bh b4;replace r:=y3T r bf.out bC.out aH;have bi:=hid ((aH.block mB bI bf.out).trans ((Below.heap_alloc _ _ _ bH).trans be.out));have bP:=hid bg;have bj:=hid aH;have bk:=hid bh;clear bg aH bh;refine Z.out _ _ r ?_;clear Z K)
  (try simp only[Act.put,zY])
  (refine Qv 9 (fun K Z=> ?_);go_simp;refine Z.out _ _ r ?_;clear Z K)
  (try simp only[Act.put,zY])
  (refine Qv 10 (fun K Z=> ?_);go_simp;refine Z.out _ _ r ?_;clear Z K)
  (try simp only[Act.put,zY])
  refine Qz 11 r ?_;refine Yj (fun K Z=> ?_);obtain⟨⟨s0,s1,s2,s3,s4⟩,f0,f1,f2,f3,f4⟩:=Ug bi.out;have ls:=Qq bi.out;clear r
  go_simp
  refine Z.out _ _ ?_;clear Z K s0 s1 s2 s3 s4 f0 f1 f2 f3 f4 ls
  go_wp2_with fail
  go_ret;have aj:plO (A,y,(D,E,oc,G),os) V=(V.length,V++[(A,y,(D,E,oc,G),os)]):=by unfold plO;rw[if_neg (by rw[a7.out];decide)]
  have hR:∀g,(W.heap.size<=g/\g<w1.heap.size/\¬Q' g/\Value.ownBlock (.slice ac V.length ad)≠some g)->g<W3.drew.heap.size/\g≠mB/\g≠mp/\Value.ownBlock (.slice ac V.length ad)≠some g:=fun g hg=>⟨Nat.lt_of_lt_of_le hg.2.1 bw,by omega,by omega,hg.2.2.2⟩
  have bQ:OpC W3.drew (fun g=>W.heap.size<=g/\g<w1.heap.size/\¬Q' g/\Value.ownBlock (.slice ac V.length ad)≠some g) (A,y,(D,E,oc,G),os) [zI A,zT y,zU D,zU E,zU oc,zU G,.slice so os.length aa]:=
   ⟨so,aa,rfl,ar,bp.out.keep fun g hg=>⟨⟨Nat.le_trans ae.out.size hg.1,hg.2⟩,aE.out.block g hg.2.1⟩⟩
  have bR:=ab.out.put bQ hR aT.out.size aU.out bt.out bP.out bj.out bk.out;refine⟨_,_,_,?_,by rw[aw.out,aj];exact bR,fun g hg=> ?_,a6.out.trans (aT.out.trans ((Frm.of_below ((Below.refl _ Y).alloc L0q _)).trans ((Frm.app bj.out (by rw[World.size_alloc];exact bk.out)).trans Frm.setM)))⟩
  ·rw[aw.out,aj];rfl
  ·rcases hg with hg|hg
   ·exact(a2.out g hg).imp id (fun h=>Nat.le_trans ae.out.size h)
   ·exact .inr hg.1
mutual
def ndT:RT->Nat
 | .mk _ _ _ _ _ _ s _=>1+ndL s
def ndL:List RT->Nat
 |[]=>0
 |t::r=>ndT t+ndL r
end
theorem z4G(o:Ox)(ops:List Ox):(plO o ops).1<(plO o ops).2.length/\(plO o ops).2.length<=ops.length+1/\∃l,(plO o ops).2=ops++l:=by
 unfold plO;split
 ·rename_i h
  have:=z4D _ _ h;rw[List.length_map]at this;exact⟨this,Nat.le_succ _,[],(List.append_nil _).symm⟩
 ·exact⟨by simp,by simp,[o],rfl⟩
mutual
theorem Iw(ix:zA->Int):∀(t:RT) (ops:List Ox),(mkT ix t ops).1<(mkT ix t ops).2.length/\(mkT ix t ops).2.length<=ops.length+ndT t/\∃l,(mkT ix t ops).2=ops++l
 | .mk k T a b c d s p,ops=>by
   rw[mkT,ndT];split
   ·obtain⟨h,r,o⟩:=z4G (5,{data:=#[]},(0,0,0,0),[ix T]) ops
    exact⟨h,by omega,o⟩
   ·obtain⟨h,r,l,o⟩:=z4G (k,T,(a,b,c,d),(mkL ix s ops).1) (mkL ix s ops).2
    obtain⟨D,_,y,A⟩:=Gl ix s ops;exact⟨h,by omega,y++l,by rw[o,A,List.append_assoc]⟩
theorem Gl(ix:zA->Int):∀(s:List RT) (ops:List Ox),(mkL ix s ops).2.length<=ops.length+ndL s/\((mkL ix s ops).1.length=s.length/\∀x∈(mkL ix s ops).1,0<=x/\x<((mkL ix s ops).2.length:Int))/\∃l,(mkL ix s ops).2=ops++l
 |[],ops=>by
  rw[mkL,ndL];exact⟨Nat.le_refl _,⟨rfl,fun x hx=>by cases hx⟩,[],(List.append_nil _).symm⟩
 |t::r,ops=>by
  rw[mkL,ndL];dsimp only;obtain⟨E,G,l,o⟩:=Iw ix t ops;obtain⟨U,⟨y,A⟩,D,h⟩:=Gl ix r (mkT ix t ops).2;refine⟨by omega,⟨by rw[List.length_cons,List.length_cons,y],fun x hx=> ?_⟩,l++D,by rw[h,o,List.append_assoc]⟩;have V:(mkT ix t ops).2.length<=(mkL ix r (mkT ix t ops).2).2.length:=by rw[h,List.length_append];omega
  rcases List.mem_cons.1 hx with rfl|hx
  ·exact⟨by omega,by omega⟩
  ·exact A x hx
end
theorem z4H(ix:zA->Int)(t:RT):∀(s:List RT) (ops:List Ox),mkL ix (s++[t]) ops=((mkL ix s ops).1++[((mkT ix t (mkL ix s ops).2).1:Int)],(mkT ix t (mkL ix s ops).2).2)
 |[],ops=>by rw[List.nil_append,mkL,mkL,mkL,List.nil_append]
 |x::r,ops=>by rw[List.cons_append,mkL,mkL,z4H ix t r,List.cons_append]
theorem z4I(a b:List RT):ndL (a++b)=ndL a+ndL b:=by
 induction a with
 |nil=>rw[List.nil_append,ndL,Nat.zero_add]
 |cons t r ih=>rw[List.cons_append,ndL,ndL,ih,Nat.add_assoc]
theorem y3X(s:List RT)(j:Nat)(o:j<s.length):ndL (s.take j)+ndT s[j]<=ndL s:=by
 have h:ndL s=ndL (s.take (j+1))+ndL (s.drop (j+1)):=by rw[<-z4I,List.take_append_drop]
 rw[List.take_succ_eq_append_getElem o,z4I,ndL,ndL]at h;omega
theorem Td(n:Nat)(o:n<=9223372036854775807):∀(s:List Int),(∀x∈s,0<=x/\x<(n:Int))->(sbT s).length<=22*s.length
 |[],_=>by rw[sbT];exact Nat.zero_le _
 |i::r,h=>by
  have y:=h i List.mem_cons_self;have A:=Lib.itoa_length_le i (by omega) (by omega);have D:=Td n o r (fun x hx=>h x (List.mem_cons_of_mem _ hx));rw[sbT,List.length_append,List.length_cons,List.length_cons];omega
theorem y3Y(ix:zA->Int)(s:List RT)(ops:List Ox)(r:s.length<=1048576)(y:ops.length+ndL s<=1048576):SbZ (mkL ix s ops).1:=by
 obtain⟨A,⟨D,h⟩,_⟩:=Gl ix s ops;have E:=Td 1048577 (by omega) (mkL ix s ops).1 (fun x hx=>by have:=h x hx;exact⟨this.1,by omega⟩);exact⟨fun i o=>by have:=h i o;omega,by omega⟩
theorem z4J{R k:Nat}(h:k≠R):(((((((W.setCell ⟨R,0,none⟩ v0).setCell ⟨R,1,none⟩ v1).setCell ⟨R,2,none⟩ v2).setCell ⟨R,3,none⟩ v3).setCell ⟨R,4,none⟩ v4).setCell ⟨R,5,none⟩ v5).setCell ⟨R,6,none⟩ v6).heap[k]? =W.heap[k]? :=((Below.heap_setCell _ _ _ _ h).trans ((Below.heap_setCell _ _ _ _ h).trans ((Below.heap_setCell _ _ _ _ h).trans ((Below.heap_setCell _ _ _ _ h).trans ((Below.heap_setCell _ _ _ _ h).trans ((Below.heap_setCell _ _ _ _ h).trans (Below.heap_setCell _ _ _ _ h)))))))
theorem z4K{R:Nat}:(((((((W.setCell ⟨R,0,none⟩ v0).setCell ⟨R,1,none⟩ v1).setCell ⟨R,2,none⟩ v2).setCell ⟨R,3,none⟩ v3).setCell ⟨R,4,none⟩ v4).setCell ⟨R,5,none⟩ v5).setCell ⟨R,6,none⟩ v6).heap.size=W.heap.size:=by
 rw[World.size_setCell,World.size_setCell,World.size_setCell,World.size_setCell,World.size_setCell,World.size_setCell,World.size_setCell]
theorem Tp(x:Int)(h: -1<=x/\x<=1048576):qW (5,{data:=#[]},(0,0,0,0),[x])/\SbZ [x]:=by
 have r:=Lib.itoa_length_le x (by omega) (by omega);have y:(sbT [x]).length=(Lib.itoa x).length+1:=by rw[sbT,sbT,List.length_append];rfl
 refine⟨⟨(show(Lit.int .i64 5).wf=true by decide),(show(0:Nat)<=maxLen by unfold maxLen;omega),(show(Lit.int .u64 0).wf=true by decide),(show(Lit.int .u64 0).wf=true by decide),(show(Lit.int .u64 0).wf=true by decide),(show(Lit.int .u64 0).wf=true by decide),?_⟩,fun i o=> ?_,by omega⟩
 ·show(sbT [x]).length<=maxLen
  unfold maxLen;omega
 ·obtain rfl:=List.mem_singleton.1 o
  omega
theorem Iy{o a1:Addr}(h:W.cell? o=some v0/\W.cell? a1=some v1)(r:zB W W'):W'.cell? o=some v0/\W'.cell? a1=some v1:=
 ⟨(r.cell (p:=o) (World.block_lt_of_cell? W _ h.1)).trans h.1,(r.cell (p:=a1) (World.block_lt_of_cell? W _ h.2)).trans h.2⟩
theorem y3Z(ix:zA->Int)(T:zA)(a b c d:Int)(so:Option Addr)(n aa:Nat)(p:Int)(s:List RT)(Q:Nat->Prop)(B mB mp:Nat)(gso:Option Addr)(gn gcap:Nat)(vn vr:Value)(ops:List Ox)(v:Value)(xs:List Value)(W:World)(ai:ops.length<=1048576)(ad: -1<=ix T/\ix T<=1048576)
  (U:Hid (Mkr W Q B mB mp (.slice gso gn gcap) vn vr ops v xs))
  (aj:Hid (∀y:World,zB W y->Calls prog 122 #[.agg #[.slice gso gn gcap],zT T] y (zR y (zI (ix T))))):
  Calls prog 80 #[zP mB 0,.agg #[zI 5,zT T,zU a,zU b,zU c,zU d,.slice so n aa,zI p]] W (OnP ix (.mk 5 T a b c d s p) Q B mB mp (.slice gso gn gcap) vn vr ops v W):=by
 obtain⟨E,V,e1⟩:=Dj W (.cells #[zI 5,zT T,zU a,zU b,zU c,zU d,.slice so n aa,zI p] 119) (.cells #[zI 0,zT {data:=#[]},zU 0,zU 0,zU 0,zU 0,.slice none 0 0] 65);obtain⟨y,ab⟩:∃y,y=(W.alloc (.cells #[zI 5,zT T,zU a,zU b,zU c,zU d,.slice so n aa,zI p] 119)).alloc (.cells #[zI 0,zT {data:=#[]},zU 0,zU 0,zU 0,zU 0,.slice none 0 0] 65):=⟨_,rfl⟩;rw[<-ab]at E V e1;obtain⟨A,Y⟩:∃A,A=y.drew:=⟨_,rfl⟩;have ap:=hid E;have ae:Hid (A.heap[W.heap.size+1]? =some (.cells #[zI 0,zT {data:=#[]},zU 0,zU 0,zU 0,zU 0,.slice none 0 0] 65)):=hid (by rw[Y];exact e1);have Z:Hid (zB W A):=hid (by rw[Y];exact E.drew);have af:W.heap.size+1<A.heap.size:=Qq ae.out;have ag:Hid (∀h:World,zB A h->W.heap.size+1<h.heap.size):=hid fun h h3=>Nat.lt_of_lt_of_le af h3.size
 have ak:=hid (aj.out A Z.out);obtain⟨⟨m0,m1,m2,m3,m4,m5,m6,m7⟩,_⟩:=Qf V;have l0:=Qq V;have al:Hid ((fun X:World=>zC X mB 0 (.slice gso gn gcap)/\zC X W.heap.size 1 (zT T)) y.drew):=hid ⟨(Ug (U.out.below E).hm).1.1,m1⟩;have ah:=hid ab;have am:=hid Y;clear E V e1 ab Y;go_enter func80,ntmps80
 go_wp2_with fail
 rw[<-ah.out];clear ah
 go_wp2_with fail
 clear m0 m1 m2 m3 m4 m5 m6 m7 l0;refine Qc 9 (fun X:World=>zC X mB 0 (.slice gso gn gcap)/\zC X W.heap.size 1 (zT T)) (by kernel_rfl) al.out (fun o=> ?_);rw[<-am.out]at o ⊢;refine Qz 0 o ?_;refine Qz 1 o ?_;refine Qz 2 o ?_;refine Qz 3 o ?_;refine Qz 4 o ?_;refine Qz 5 o ?_
 (refine Qv 6 (fun K r=> ?_);go_simp;refine ak.out.mono ?_;rintro e h ⟨rfl,G⟩;have D:=hid G;clear G;go_simp;replace o:=Iy o D.out;refine r.out _ _ o ?_;clear r K)
 (try simp only[Act.put,zY])
 (refine Qv 7 (fun K r=> ?_);go_simp;replace o:=Iy o ((Below.refl _ h).alloc L0q (.cells #[zI (ix T)] 3));refine r.out _ _ o ?_;clear r K)
 (try simp only[Act.put,zY])
 (refine Qv 8 (fun K r=> ?_);go_simp;refine r.out _ _ o ?_;clear r K)
 (try simp only[Act.put,zY])
 refine Yj (fun K r=> ?_);have ac:=hid (((Below.refl _ h).alloc L0q (.cells #[zI (ix T)] 3)).block _ (ag.out h D.out)|>.trans ((D.out.block _ af).trans ae.out));obtain⟨⟨z0,z1,z2,z3,z4,z5,z6⟩,⟨f0,f1,f2,f3,f4,f5,f6⟩⟩:=Yk ac.out;have lz:=Qq ac.out;clear o
 go_simp
 refine r.out _ _ ?_;clear r K z0 z1 z2 z3 z4 z5 z6 f0 f1 f2 f3 f4 f5 f6 lz
 go_wp2_with fail
 have ao:=Th (v0:=zI 5) (v1:=zT {data:=#[]}) (v2:=zU 0) (v3:=zU 0) (v4:=zU 0) (v5:=zU 0) (v6:=zS h.heap.size 1 1) ac.out;obtain⟨⟨r0,r1,r2,r3,r4,r5,r6⟩,_⟩:=Yk ao;have G:zB W (h.alloc (.cells #[zI (ix T)] 3)):=(Z.out.trans (D.out.mono Z.out.size)).alloc (Nat.le_trans Z.out.size D.out.size) _;refine bodyPost_ret (v:=.agg #[zI 5,zT {data:=#[]},zU 0,zU 0,zU 0,zU 0,zS h.heap.size 1 1]) (by simp[results,Tryz.results80,go_sem,r0,r1,r2,r3,r4,r5,r6]) rfl ?_;have aq:W.heap.size+1<h.heap.size:=ag.out h D.out;refine⟨(5,{data:=#[]},(0,0,0,0),[ix T]),[zI 5,zT {data:=#[]},zU 0,zU 0,zU 0,zU 0,zS h.heap.size 1 1],Q,v,xs,ops,rfl,⟨some ⟨h.heap.size,0,none⟩,1,rfl,by show [ix T].length<=1048576;simp,?_⟩,by rw[mkT,if_pos rfl],⟨(Tp _ ad).1,(Tp _ ad).2,(show(0:Nat)<=1073741824 by omega),ai⟩,U.out.below (Iv G (by omega)),fun g hg=>.inl hg,Frm.of_below (Iv G (by omega))⟩;intro j hj;obtain rfl:j=0:=by have:j<1:=hj;omega
 refine⟨h.heap.size,0,rfl,⟨by omega,by rw[z4K,World.size_alloc];omega,fun hq=> ?_,fun e=> ?_⟩,?_⟩
 ·have:=(U.out.hq _ hq).1
  omega
 ·have:=(U.out.ho.lt _ e).2
  omega
 ·exact(World.cell?_of_block (a:=⟨h.heap.size,0+0,none⟩) (z4J (R:=W.heap.size+1) (show h.heap.size≠W.heap.size+1 by omega))).trans (Ak h (zI (ix T)) 3 0 _ rfl)
end Go.Proofs.YtmelafeingcgnaaGreatDoor
