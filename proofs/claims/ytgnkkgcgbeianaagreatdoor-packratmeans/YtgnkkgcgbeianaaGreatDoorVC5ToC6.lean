/- Lemmas for the last text. Conditions: those that each names. -/
import Derived.Test.YtgnkkgcgbeianaaGreatDoorVT21ToC4
import Derived.Test.YtgnkkgcgbeianaaGreatDoorVU3ToU8
import Derived.Lib.ItoaLen
set_option linter.unusedVariables false
set_option maxRecDepth 100000
set_option maxHeartbeats 16000000
namespace Go.Proofs.YtgnkkgcgbeianaaGreatDoor
open Go.Proofs.Tryz
open Go.RowKit Go.Shelf Go.Maps
variable {mB mp:Nat} {W W':World} {v v0 v1 v2 v3 v4 v5 v6:Value}
theorem Uk{w:World}{g:Nat}{t:TypeId}{o a1 a2 a3 a4:Value}(h:w.heap[g]? =some (.cells #[o,a1,a2,a3,a4] t)):(w.cell? ⟨g,0,none⟩=some o/\w.cell? ⟨g,1,none⟩=some a1/\w.cell? ⟨g,2,none⟩=some a2/\w.cell? ⟨g,3,none⟩=some a3/\w.cell? ⟨g,4,none⟩=some a4)/\(w.frozen? ⟨g,0,none⟩=false/\w.frozen? ⟨g,1,none⟩=false/\w.frozen? ⟨g,2,none⟩=false/\w.frozen? ⟨g,3,none⟩=false/\w.frozen? ⟨g,4,none⟩=false):=by
 refine⟨⟨?_,?_,?_,?_,?_⟩,⟨?_,?_,?_,?_,?_⟩⟩<;>simp[World.cell?,World.frozen?,h]
theorem Frm.grown(h:W.grownBy W' (some mp)):Frm mB mp W v W' v:=⟨h.os,h.tape,h.output,h.size,fun k o _ r _=>h.block k o (fun e=>r (Option.some.inj e)),fun _ h=>.inl h⟩
theorem Frm.app{o n r:Nat}(h:W.grownBy W' v.ownBlock)(t:v.ownBlock=some o∨o=W.heap.size):Frm mB mp W v W' (zS o n r):=⟨h.os,h.tape,h.output,h.size,fun k y _ _ A=>h.block k y (fun e=>A e.symm),fun g D=>by
 obtain rfl:o=g:=Option.some.inj D;exact t.imp id (fun e=>Nat.le_of_eq e.symm)⟩
theorem Frm.setM{j:Nat}{u:Value}:Frm mB mp W v (W.setCell ⟨mB,j,none⟩ u) v:=⟨rfl,rfl,rfl,by simp,fun k r o _ _=>Below.heap_setCell _ _ _ _ o,fun _ h=>.inl h⟩
theorem Frm.same(o:W'.os=W.os)(r:W'.tape=W.tape)(t:W'.output=W.output)(y:W.heap.size<=W'.heap.size)(A:∀k,k<W.heap.size->W'.heap[k]? =W.heap[k]?):Frm mB mp W v W' v:=⟨o,r,t,y,fun k D _ _ _=>A k D,fun _ h=>.inl h⟩
theorem y3t{o a1 a2 a3 a4 r t y:Addr}{v7:Value}(h:W.cell? o=some v0/\W.cell? a1=some v1/\W.cell? a2=some v2/\W.cell? a3=some v3/\W.cell? a4=some v4/\W.cell? r=some v5/\W.cell? t=some v6/\W.cell? y=some v7)(A:zB W W'):W'.cell? o=some v0/\W'.cell? a1=some v1/\W'.cell? a2=some v2/\W'.cell? a3=some v3/\W'.cell? a4=some v4/\W'.cell? r=some v5/\W'.cell? t=some v6/\W'.cell? y=some v7:=by
 obtain⟨D,E,G,I,U,V,Y,Z⟩:=h;have e:∀{a:Addr} {u:Value},W.cell? a=some u->W'.cell? a=some u:=fun{a u} h=>(A.cell (p:=a) (World.block_lt_of_cell? W _ h)).trans h
 exact⟨e D,e E,e G,e I,e U,e V,e Y,e Z⟩
theorem y3u{m r:Nat}{row:Option Nat}{v7:Value}(h:zC W m 1 v0/\zC W r 0 v1/\zC W r 1 v2/\zC W r 2 v3/\zC W r 3 v4/\zC W r 4 v5/\zC W r 5 v6/\zC W r 6 v7)(y:some m≠row)(t:some r≠row)(o:W.grownBy W' row):zC W' m 1 v0/\zC W' r 0 v1/\zC W' r 1 v2/\zC W' r 2 v3/\zC W' r 3 v4/\zC W' r 4 v5/\zC W' r 5 v6/\zC W' r 6 v7:=
 ⟨o.cell h.1 y,o.cell h.2.1 t,o.cell h.2.2.1 t,o.cell h.2.2.2.1 t,o.cell h.2.2.2.2.1 t,o.cell h.2.2.2.2.2.1 t,o.cell h.2.2.2.2.2.2.1 t,o.cell h.2.2.2.2.2.2.2 t⟩
theorem y3v{w:World}{g:Nat}{o:Array Value}{t:TypeId}(h:zH w g (.cells o t))(j:Nat)(u:Value)(r:o.setIfInBounds j u=o)(k:Nat):(w.setCell ⟨g,j,none⟩ u).heap[k]? =w.heap[k]? :=by
 by_cases e:k=g
 ·subst e
  rw[Qw h j u,r,h]
 ·exact Below.heap_setCell _ _ _ _ e
theorem Mkr.put{y t A:World}{Q R:Nat->Prop}{B D I:Nat}{gv vn vr:Value}{ops:List Ox}{xs Y:List Value}{o:Ox}{X:Obj}(h:Mkr y Q B mB mp gv vn vr ops v xs)(ac:OpC y R o Y)(hR:∀g,R g->g<y.heap.size/\g≠mB/\g≠mp/\v.ownBlock≠some g)(hs:y.heap.size<=t.heap.size)(he:∀k,k<y.heap.size->k≠mp->t.heap[k]? =y.heap[k]?)(U:Pk t mp (ops.map qB++[qB o]))
  (ad:A.ownsRow B 56 7 (zS D (ops.length+1) I) (ops.length+1) (xs++Y))(aa:(t.alloc X).grownBy A v.ownBlock)(ae:v.ownBlock=some D∨D=t.heap.size+1):
  Mkr (A.setCell ⟨mB,1,none⟩ (zS D (ops.length+1) I)) (fun g=>Q g∨R g) B mB mp gv vn vr (ops++[o]) (zS D (ops.length+1) I) (xs++Y):=by
 have ha:(t.alloc X).heap.size=t.heap.size+1:=World.size_alloc _ _;have ag:t.heap.size+1<=A.heap.size:=by have:=aa.size;omega
 have hv:∀g,v.ownBlock=some g->B<=g:=fun g e=>(h.ho.lt g e).1
 have E0:∀k,k<t.heap.size->v.ownBlock≠some k->A.heap[k]? =t.heap[k]? :=fun k U G=>(aa.block k (by omega) (fun e=>G e.symm)).trans (Below.heap_alloc _ _ _ U)
 have E:∀k,k<y.heap.size->k≠mB->k≠mp->v.ownBlock≠some k->(A.setCell ⟨mB,1,none⟩ (zS D (ops.length+1) I)).heap[k]? =y.heap[k]? :=fun k U Z V G=>
  (Below.heap_setCell _ _ _ _ Z).trans ((E0 k (by omega) G).trans (he k U V))
 have lm:=Qq h.hm;have ah:=h.hmB;have ai:=h.hmp;have af:zH A mB (.cells #[gv,v,vn,vr,.map (some mp)] 78):=(E0 mB (by omega) (fun e=>by have:=hv _ e;omega)).trans ((he mB lm h.hne).trans h.hm);have hl:xs.length=ops.length*7:=h.ho.1;have ab:∀g,g<y.heap.size->v.ownBlock≠some g->Value.ownBlock (zS D (ops.length+1) I)≠some g:=fun g Z V e=>by
  obtain rfl:D=g:=Option.some.inj e;rcases ae with G|G
  ·exact V G
  ·omega
 refine⟨Qw af 1 _,?_,?_,?_,?_,h.hmB,h.hmp,h.hne⟩
 ·rw[List.length_append]
  exact ownsRow_setCell_below ad (a:=⟨mB,1,none⟩) h.hmB _
 ·intro i hi
  rw[List.length_append]at hi;by_cases e:i<ops.length
  ·obtain⟨c,Z,V⟩:=h.hops i e
   rw[List.getElem_append_left e];refine⟨c,Z.keep fun g r=>⟨.inl r,?_⟩,fun q u hq=> ?_⟩
   ·have:=h.hq g r
    exact E g this.1 this.2.1 this.2.2.1 this.2.2.2
   ·have G:=V q u hq
    have h4:i*7+q<xs.length:=(List.getElem?_eq_some_iff.1 G).1;rw[List.getElem?_append_left h4];exact G
  ·have e1:i=ops.length:=by simp at hi;omega
   subst e1;rw[List.getElem_append_right L0q];simp only[Nat.sub_self,List.getElem_cons_zero];refine⟨Y,ac.keep fun g r=>⟨.inr r,?_⟩,fun q u hq=> ?_⟩
   ·have:=hR g r
    exact E g this.1 this.2.1 this.2.2.1 this.2.2.2
   ·rw[List.getElem?_append_right (by omega),hl,Nat.add_sub_cancel_left]
    exact hq
 ·rw[List.map_append]
  exact U.same ((Below.heap_setCell _ _ _ _ h.hne.symm).trans (E0 mp U.lt (fun e=>by have:=hv _ e;omega)))
 ·intro g r
  have hz:(A.setCell ⟨mB,1,none⟩ (zS D (ops.length+1) I)).heap.size=A.heap.size:=World.size_setCell _ _ _;rcases r with r|r
  ·have:=h.hq g r
   exact⟨by omega,this.2.1,this.2.2.1,ab g this.1 this.2.2.2⟩
  ·have:=hR g r
   exact⟨by omega,this.2.1,this.2.2.1,ab g this.1 this.2.2.2⟩
theorem y3w{P:Nat->Prop}{o:Obj}{r:Option Addr}{t:Nat}{s:List Int}(h:RwC W P r s)(A:s.length<=1048576):Eg (W.alloc o) (W.alloc o).heap.size (.slice r s.length t) s:=by
 refine⟨r,t,rfl,A,fun j D=> ?_⟩;obtain⟨g,q,E,_,y⟩:=h j D;have G:g<W.heap.size:=World.block_lt_of_cell? W _ y;exact⟨g,q,E,by rw[World.size_alloc];omega,(((Below.refl _ W).alloc L0q o).cell (p:=⟨g,q+j,none⟩) G).trans y⟩
theorem y3x(ix:zA->Int)(t:RT)(kx:Int)(Tx:zA)(ax bx cx dx:Int)(ao:Option Addr)(nx ap:Nat)(px:Int)(Q:Nat->Prop)(B mB mp:Nat)(gv vn vr:Value)(ops:List Ox)(v:Value)(w0 W:World)(bl:w0.heap.size<=mB)(bm:w0.heap.size<=mp)(aq:Hid (zB w0 W))(HP:Hid (Xm w0))(bS:mB<W.heap.size)(bT:mp<W.heap.size)(aV:Hid (∀g,v.ownBlock=some g->B<=g))(bU:mB<B)(bV:mp<B)(bW:B<=W.heap.size)
  (aW:Hid (∀W1:World,zB W W1->Calls prog 52 #[zP mB 0,.agg #[zI kx,zT Tx,zU ax,zU bx,zU cx,zU dx,.slice ao nx ap,zI px]] W1 (OnP ix t Q B mB mp gv vn vr ops v W1))):
  Calls prog 30 #[zP mB 0,.agg #[zI kx,zT Tx,zU ax,zU bx,zU cx,zU dx,.slice ao nx ap,zI px]] W (PlP ix t Q B mB mp gv vn vr ops v W):=by
 have aI:zB W (W.alloc (.cells #[zI kx,zT Tx,zU ax,zU bx,zU cx,zU dx,.slice ao nx ap,zI px] 81)):=(Below.refl _ W).alloc L0q _;have aJ:=hid (Qx W (.cells #[zI kx,zT Tx,zU ax,zU bx,zU cx,zU dx,.slice ao nx ap,zI px] 81) rfl);have ae:=hid aI;have aX:=hid (aW.out _ aI);obtain⟨⟨m0,m1,m2,m3,m4,m5,m6,m7⟩,_⟩:=Qg aJ.out;have l1:=Qq aJ.out;clear aI aW;go_enter func30,ntmps30
 go_wp2_with(first
  |(go_at_call 52;refine aX.out.mono ?_;rintro e I ⟨⟨ok,y,⟨A,D,oc,E⟩,os⟩,cs,Q',v',aK,U,rfl,⟨Z,aa,rfl,ar,au⟩,aY,⟨aZ,aL,a0,bX⟩,hM,hQ,hF⟩;dsimp only at ar au aL a0
    have a1:=hid hM;have av:=hid hF;have a2:=hid hQ;have aw:=hid aY;have a3:=hid aZ;have bn:=hid (fun g e=>(hM.ho.lt g e).2);have bo:=hid (fun g e=>(hM.ho.lt g e).1);have bp:=hid au;have ay:zB w0 I:=hF.below (aq.out.alloc aq.out.size _) (Nat.le_trans aq.out.size ae.out.size) bl bm (fun g e=>by have:=aV.out g e;omega);have bY:=hid ay;have ai:=hid (Qx I (.cells #[zI ok,zT y,zU A,zU D,zU oc,zU E,.slice Z os.length aa] 56) rfl);have aM:=hid (y3s ok y A D oc E os Z os.length aa (I.alloc (.cells #[zI ok,zT y,zU A,zU D,zU oc,zU E,.slice Z os.length aa] 56)).heap.size (I.alloc (.cells #[zI ok,zT y,zU A,zU D,zU oc,zU E,.slice Z os.length aa] 56)) (hid rfl) ar (hid (y3w au ar)) L0q (hid aL) (hid (HP.out.below (ay.alloc ay.size _))));dsimp only[qV]at aM;obtain⟨⟨o0,o1,o2,o3,o4,o5,o6⟩,_⟩:=Yk ai.out;have l2:=Qq ai.out;clear m0 m1 m2 m3 m4 m5 m6 m7 l1 aJ aX hM hF hQ aY aZ au ay aq HP aV aL)
  |(go_at_call 53;refine aM.out.mono ?_;rintro e w2 ⟨rfl,aN⟩
    have az:=hid ((aN.block _ (Qq ai.out)).trans ai.out);have aA:=hid (((Below.refl _ I).alloc L0q (.cells #[zI ok,zT y,zU A,zU D,zU oc,zU E,.slice Z os.length aa] 56)).trans (aN.mono (by rw[World.size_alloc];omega)));clear o0 o1 o2 o3 o4 o5 o6 l2 ai aM aN))
 have aB:zB w2 (w2.alloc (.cells #[zI ok,zT y,zU A,zU D,zU oc,zU E,zT ⟨(sbT os).toArray⟩] 125)):=(Below.refl _ w2).alloc L0q _;have aC:=hid ((a1.out.below aA.out).below aB);have aO:=hid ((aB.block _ (Qq az.out)).trans az.out);have aD:=hid (Qx w2 (.cells #[zI ok,zT y,zU A,zU D,zU oc,zU E,zT ⟨(sbT os).toArray⟩] 125) rfl);have aE:=hid (aA.out.trans (aB.mono aA.out.size));obtain⟨W3,aP⟩:∃W3,W3=w2.alloc (.cells #[zI ok,zT y,zU A,zU D,zU oc,zU E,zT ⟨(sbT os).toArray⟩] 125):=⟨_,rfl⟩;rw[<-aP]at aC aO aD aE;rw[<-aP];obtain⟨G,aF⟩:∃G,G=w2.heap.size:=⟨_,rfl⟩;rw[<-aF]at aD;rw[<-aF];have bZ:Hid (I.heap.size<G):=hid (by rw[aF];exact Qq az.out);clear aP aB a1 az aA aF;have a4:Hid ((fun W:World=>zC W mB 4 (.map (some mp))/\zC W G 0 (zI ok)/\zC W G 1 (zT y)/\zC W G 2 (zU A)/\zC W G 3 (zU D)/\zC W G 4 (zU oc)/\zC W G 5 (zU E)/\zC W G 6 (zT ⟨(sbT os).toArray⟩)/\Pk W mp (U.map qB)) W3.drew):=by
  obtain⟨⟨_,_,_,_,z4⟩,_⟩:=Uk aC.out.hm;obtain⟨⟨y0,y1,y2,y3,y4,y5,y6⟩,_⟩:=Yk aD.out;exact⟨z4,y0,y1,y2,y3,y4,y5,y6,aC.out.hmap⟩
 refine Qc 99 (fun W:World=>zC W mB 4 (.map (some mp))/\zC W G 0 (zI ok)/\zC W G 1 (zT y)/\zC W G 2 (zU A)/\zC W G 3 (zU D)/\zC W G 4 (zU oc)/\zC W G 5 (zU E)/\zC W G 6 (zT ⟨(sbT os).toArray⟩)/\Pk W mp (U.map qB)) (by kernel_rfl) a4.out (fun r=> ?_);refine Qz 0 r ?_;refine Qz 1 r ?_;refine Qz 2 r ?_;refine Qz 3 r ?_;refine Qz 4 r ?_
 (refine Qf 5 (fun K Y=> ?_);have a5:=r.2.2.2.2.2.2.2.2.look a3.out;dsimp only[qV]at a5;go_simp;refine Y.out _ _ r ?_;clear Y K a5)
 (try simp only[Act.put,zY])
 refine Qz 6 r ?_;refine Qz 7 r ?_;refine Qz 8 r ?_;refine Qz 9 r ?_;refine Qz 10 r ?_;clear a4 r;refine⟨by kernel_rfl,?_⟩;have ab:=hid (aC.out.below ((Below.refl _ W3).drew));have a6:Hid (Frm mB mp W v W3.drew v'):=hid ((Frm.of_below ae.out).trans (av.out.trans ((Frm.of_below aE.out).trans (Frm.of_below ((Below.refl _ W3).drew)))));cases hin:inA (qB (ok,y,(A,D,oc,E),os)) (U.map qB)with
 |true=>
  simp only[if_true]
  go_wp2_with fail
  go_ret;have aj:plO (ok,y,(A,D,oc,E),os) U=(ixA (qB (ok,y,(A,D,oc,E),os)) (U.map qB),U):=by unfold plO;rw[if_pos hin]
  refine⟨Q',v',aK,?_,?_,fun g hg=>(a2.out g hg).imp id (fun h=>Nat.le_trans ae.out.size h),a6.out⟩
  ·rw[aw.out,aj];rfl
  ·rw[aw.out,aj];exact ab.out
 |false=>
  obtain⟨ac,ad,rfl⟩:=Vm ab.out.ho;simp only[Bool.false_eq_true,if_false];have a7:=hid hin;have mV:=(Uk ab.out.hm).1.2.1;have a8:=Qq ab.out.hm
  go_wp2_with fail
  have a9:Hid ((fun W:World=>zC W mB 4 (.map (some mp))/\zC W G 0 (zI ok)/\zC W G 1 (zT y)/\zC W G 2 (zU A)/\zC W G 3 (zU D)/\zC W G 4 (zU oc)/\zC W G 5 (zU E)/\zC W G 6 (zT ⟨(sbT os).toArray⟩)/\Pk W mp (U.map qB)) W3.drew.drew):=by
   obtain⟨⟨_,_,_,_,z4⟩,_⟩:=Uk ab.out.hm;obtain⟨⟨y0,y1,y2,y3,y4,y5,y6⟩,_⟩:=Yk aD.out;exact⟨z4,y0,y1,y2,y3,y4,y5,y6,ab.out.hmap⟩
  refine Qc 6 (fun W:World=>zC W mB 4 (.map (some mp))/\zC W G 0 (zI ok)/\zC W G 1 (zT y)/\zC W G 2 (zU A)/\zC W G 3 (zU D)/\zC W G 4 (zU oc)/\zC W G 5 (zU E)/\zC W G 6 (zT ⟨(sbT os).toArray⟩)/\Pk W mp (U.map qB)) (by kernel_rfl) a9.out (fun r=> ?_);refine Qz 0 r ?_;refine Qz 1 r ?_;refine Qz 2 r ?_;refine Qz 3 r ?_;refine Qz 4 r ?_;refine Qz 5 r ?_;refine Yj (fun K Y=> ?_);obtain⟨W5,aQ,ba,bb⟩:=r.2.2.2.2.2.2.2.2.upd (o:=(ok,y,(A,D,oc,E),os)) a7.out a3.out (by rw[List.length_map];unfold maxLen;omega);rw[List.length_map]at aQ;dsimp only[qV]at aQ;have aR:=hid ba;have ah:=hid bb;clear r ba bb
  go_simp
  refine Y.out _ _ ?_;clear Y K aQ;clear a9;have bq:I.heap.size≠mp:=by have:=av.out.size;have:=ae.out.size;omega
  have b0:I.heap.size≠mB:=by have:=av.out.size;have:=ae.out.size;omega
  have ak:Hid (W5.heap[I.heap.size]? =some (.cells #[zI ok,zT y,zU A,zU D,zU oc,zU E,.slice Z os.length aa] 56)):=hid ((ah.out.block _ (Qq aO.out) (fun e=>bq (Option.some.inj e))).trans aO.out);have br:Hid (zH W5 mB (.cells #[gv,.slice ac U.length ad,vn,vr,.map (some mp)] 78)):=hid ((ah.out.block _ a8 (fun e=>ab.out.hne (Option.some.inj e))).trans ab.out.hm);have bc:=hid (fun W:World=>Dh y W (Nat.le_trans a0 (by decide)));obtain⟨⟨o0,o1,o2,o3,o4,o5,o6⟩,⟨_,f1,_⟩⟩:=Yk ak.out;have l5:=Qq ak.out
  go_wp2_with(first
   |(go_at_call 29;refine(bc.out _).mono ?_;rintro e w6 ⟨rfl,aS⟩
     have al:=hid ((aS.block _ (Qq ak.out)).trans ak.out);have aG:=hid aS;clear o0 o1 o2 o3 o4 o5 o6 l5 f1 aS bc;obtain⟨⟨o0,o1,o2,o3,o4,o5,o6⟩,⟨_,f1,_⟩⟩:=Yk al.out;have l6:=Qq al.out))
  clear o0 o1 o2 o3 o4 o5 o6 l6 f1 mV;obtain⟨W7,ag⟩:∃W7,W7=w6.setCell ⟨I.heap.size,1,none⟩ (zT y):=⟨_,rfl⟩;rw[<-ag];obtain⟨V,af⟩:∃V,V=W7.drew:=⟨_,rfl⟩;have am:∀k,V.heap[k]? =w6.heap[k]? :=fun k=>by rw[af,ag];exact y3v al.out 1 (zT y) rfl k
  have bd:V.heap.size=w6.heap.size:=by rw[af,ag];exact World.size_setCell _ _ _
  have aT:Hid (Frm mB mp W3.drew (.slice ac U.length ad) V (.slice ac U.length ad)):=hid ((Frm.of_below (Below.refl _ W3.drew).drew).trans ((Frm.grown ah.out).trans ((Frm.of_below aG.out).trans (Frm.same (by rw[af,ag];rfl) (by rw[af,ag];rfl) (by rw[af,ag];rfl) (Nat.le_of_eq bd.symm) (fun k _=>am k)))));have aU:Hid (∀k,k<W3.drew.heap.size->k≠mp->V.heap[k]? =W3.drew.heap[k]?):=hid fun k hk bs=>(am k).trans ((aG.out.block k (Nat.lt_of_lt_of_le hk ah.out.size)).trans (ah.out.block k hk (fun e=>bs (Option.some.inj e))))
  have bt:Hid (Pk V mp (U.map qB++[qB (ok,y,(A,D,oc,E),os)])):=hid ((aR.out.same (aG.out.block _ aR.out.lt)).same (am mp));have be:Hid (zH V mB (.cells #[gv,.slice ac U.length ad,vn,vr,.map (some mp)] 78)):=hid ((aU.out mB a8 ab.out.hne).trans ab.out.hm);have bu:Hid (V.ownsRow B 56 7 (.slice ac U.length ad) U.length aK):=hid (Yc ab.out.ho fun g e=>aU.out g (ab.out.ho.lt g e).2 (by have:=(ab.out.ho.lt g e).1;omega));have bv:Hid (V.heap[I.heap.size]? =some (.cells #[zI ok,zT y,zU A,zU D,zU oc,zU E,.slice Z os.length aa] 56)):=hid ((am _).trans al.out);have b1:W3.heap.size<=V.heap.size:=aT.out.size;have bw:I.heap.size<=W3.heap.size:=aE.out.size;have b2:W.heap.size<=I.heap.size:=Nat.le_trans ae.out.size av.out.size;have bz:=hid (World.news_of_block (Qx V (.cells #[zI ok,zT y,zU A,zU D,zU oc,zU E,.slice Z os.length aa] 56) rfl));have bA:Hid (∀u∈([zI ok,zT y,zU A,zU D,zU oc,zU E,.slice Z os.length aa]:List Value),u.oneCell'=true):=hid (by simp[Value.oneCell']);have bf:Hid (some mB≠Value.ownBlock (.slice ac U.length ad)):=hid fun e=>by have:=bo.out mB e.symm;omega
  have bC:Hid (some I.heap.size≠Value.ownBlock (.slice ac U.length ad)):=hid fun e=>by have:=bn.out _ e.symm;omega
  have bD:U.length+1<=maxLen:=by unfold maxLen;omega
  have bE:(U.length+1)*80<=140737488355328:=by omega
  have bF:B<=(V.alloc (.cells #[zI ok,zT y,zU A,zU D,zU oc,zU E,.slice Z os.length aa] 56)).heap.size:=by rw[World.size_alloc];omega
  have bG:(V.alloc (.cells #[zI ok,zT y,zU A,zU D,zU oc,zU E,.slice Z os.length aa] 56)).heap.size=V.heap.size+1:=World.size_alloc _ _;have bH:mB<V.heap.size:=by omega
  have bI:mB<(V.alloc (.cells #[zI ok,zT y,zU A,zU D,zU oc,zU E,.slice Z os.length aa] 56)).heap.size:=by rw[World.size_alloc];omega
  have bJ:Hid ((fun W:World=>zC W mB 1 (.slice ac U.length ad)/\zC W I.heap.size 0 (zI ok)/\zC W I.heap.size 1 (zT y)/\zC W I.heap.size 2 (zU A)/\zC W I.heap.size 3 (zU D)/\zC W I.heap.size 4 (zU oc)/\zC W I.heap.size 5 (zU E)/\zC W I.heap.size 6 (.slice Z os.length aa)) W7.drew):=by
   rw[<-af];obtain⟨⟨_,z1,_⟩,_⟩:=Uk be.out;obtain⟨⟨y0,y1,y2,y3,y4,y5,y6⟩,_⟩:=Yk bv.out;exact⟨z1,y0,y1,y2,y3,y4,y5,y6⟩
  have bK:=hid af;obtain⟨iT,bL,bM,bN,bO⟩:=info_parts Tryz.infoOp;clear am bd ag af al ak br aG aR ah;refine Qc 12 (fun W:World=>zC W mB 1 (.slice ac U.length ad)/\zC W I.heap.size 0 (zI ok)/\zC W I.heap.size 1 (zT y)/\zC W I.heap.size 2 (zU A)/\zC W I.heap.size 3 (zU D)/\zC W I.heap.size 4 (zU oc)/\zC W I.heap.size 5 (zU E)/\zC W I.heap.size 6 (.slice Z os.length aa)) (by kernel_rfl) bJ.out (fun r=> ?_);rw[<-bK.out]at r ⊢;refine Qz 0 r ?_;refine Qz 1 r ?_;refine Qz 2 r ?_;refine Qz 3 r ?_;refine Qz 4 r ?_;refine Qz 5 r ?_;refine Qz 6 r ?_
  (refine Qf 7 (fun K Y=> ?_);go_simp;replace r:=y3t r ((Below.refl _ V).alloc L0q (.cells #[zI ok,zT y,zU A,zU D,zU oc,zU E,.slice Z os.length aa] 56));refine Y.out _ _ r ?_;clear Y K)
  (try simp only[Act.put,zY])
  (refine Qf 8 (fun K Y=> ?_);refine step_append_lies _ rfl (.tmp 46) (.tmp 48) 22 rfl B 56 iT (.agg #[zI 0,zT {data:=#[]},zU 0,zU 0,zU 0,zU 0,.slice none 0 0]) 7 80 Tryz.underlying22 bL bM bN bO rfl (by decide) (.slice ac U.length ad) U.length aK (by rfl) (bu.out.alloc _) ⟨V.heap.size,0,none⟩ 1 1 [zI ok,zT y,zU A,zU D,zU oc,zU E,.slice Z os.length aa] (by rfl) rfl bz.out bA.out (by decide) bD bE bF (V.heap.size+1) bG ?_;intro g9 b3 w9 bg aH bh b4;replace r:=y3u r bf.out bC.out aH;have bi:=hid ((aH.block mB bI bf.out).trans ((Below.heap_alloc _ _ _ bH).trans be.out));have bP:=hid bg;have bj:=hid aH;have bk:=hid bh;clear bg aH bh;refine Y.out _ _ r ?_;clear Y K)
  (try simp only[Act.put,zY])
  (refine Qf 9 (fun K Y=> ?_);go_simp;refine Y.out _ _ r ?_;clear Y K)
  (try simp only[Act.put,zY])
  (refine Qf 10 (fun K Y=> ?_);go_simp;refine Y.out _ _ r ?_;clear Y K)
  (try simp only[Act.put,zY])
  refine Qz 11 r ?_;refine Yj (fun K Y=> ?_);obtain⟨⟨s0,s1,s2,s3,s4⟩,f0,f1,f2,f3,f4⟩:=Uk bi.out;have ls:=Qq bi.out;clear r
  go_simp
  refine Y.out _ _ ?_;clear Y K s0 s1 s2 s3 s4 f0 f1 f2 f3 f4 ls
  go_wp2_with fail
  go_ret;have aj:plO (ok,y,(A,D,oc,E),os) U=(U.length,U++[(ok,y,(A,D,oc,E),os)]):=by unfold plO;rw[if_neg (by rw[a7.out];decide)]
  have hR:∀g,(W.heap.size<=g/\g<I.heap.size/\¬Q' g/\Value.ownBlock (.slice ac U.length ad)≠some g)->g<W3.drew.heap.size/\g≠mB/\g≠mp/\Value.ownBlock (.slice ac U.length ad)≠some g:=fun g hg=>⟨Nat.lt_of_lt_of_le hg.2.1 bw,by omega,by omega,hg.2.2.2⟩
  have bQ:OpC W3.drew (fun g=>W.heap.size<=g/\g<I.heap.size/\¬Q' g/\Value.ownBlock (.slice ac U.length ad)≠some g) (ok,y,(A,D,oc,E),os) [zI ok,zT y,zU A,zU D,zU oc,zU E,.slice Z os.length aa]:=
   ⟨Z,aa,rfl,ar,bp.out.keep fun g hg=>⟨⟨Nat.le_trans ae.out.size hg.1,hg.2⟩,aE.out.block g hg.2.1⟩⟩
  have bR:=ab.out.put bQ hR aT.out.size aU.out bt.out bP.out bj.out bk.out;refine⟨_,_,_,?_,by rw[aw.out,aj];exact bR,fun g hg=> ?_,a6.out.trans (aT.out.trans ((Frm.of_below ((Below.refl _ V).alloc L0q _)).trans ((Frm.app bj.out (by rw[World.size_alloc];exact bk.out)).trans Frm.setM)))⟩
  ·rw[aw.out,aj];rfl
  ·rcases hg with hg|hg
   ·exact(a2.out g hg).imp id (fun h=>Nat.le_trans ae.out.size h)
   ·exact .inr hg.1
mutual
def ndT:RT->Nat
 | .mk _ _ _ _ _ _ s _=>1+ndL s
def ndL:List RT->Nat
 |[]=>0
 |t::r=>ndT t+ndL r
end
theorem z4o(o:Ox)(ops:List Ox):(plO o ops).1<(plO o ops).2.length/\(plO o ops).2.length<=ops.length+1/\∃l,(plO o ops).2=ops++l:=by
 unfold plO;split
 ·rename_i h
  have:=z2d _ _ h;rw[List.length_map]at this;exact⟨this,Nat.le_succ _,[],(List.append_nil _).symm⟩
 ·exact⟨by simp,by simp,[o],rfl⟩
mutual
theorem Ix(ix:zA->Int):∀(t:RT) (ops:List Ox),(mkT ix t ops).1<(mkT ix t ops).2.length/\(mkT ix t ops).2.length<=ops.length+ndT t/\∃l,(mkT ix t ops).2=ops++l
 | .mk k T a b c d s p,ops=>by
   rw[mkT,ndT];split
   ·obtain⟨h,r,o⟩:=z4o (5,{data:=#[]},(0,0,0,0),[ix T]) ops
    exact⟨h,by omega,o⟩
   ·obtain⟨h,r,l,o⟩:=z4o (k,T,(a,b,c,d),(mkL ix s ops).1) (mkL ix s ops).2
    obtain⟨D,_,y,A⟩:=Fw ix s ops;exact⟨h,by omega,y++l,by rw[o,A,List.append_assoc]⟩
theorem Fw(ix:zA->Int):∀(s:List RT) (ops:List Ox),(mkL ix s ops).2.length<=ops.length+ndL s/\((mkL ix s ops).1.length=s.length/\∀x∈(mkL ix s ops).1,0<=x/\x<((mkL ix s ops).2.length:Int))/\∃l,(mkL ix s ops).2=ops++l
 |[],ops=>by
  rw[mkL,ndL];exact⟨Nat.le_refl _,⟨rfl,fun x hx=>by cases hx⟩,[],(List.append_nil _).symm⟩
 |t::r,ops=>by
  rw[mkL,ndL];dsimp only;obtain⟨E,G,l,o⟩:=Ix ix t ops;obtain⟨I,⟨y,A⟩,D,h⟩:=Fw ix r (mkT ix t ops).2;refine⟨by omega,⟨by rw[List.length_cons,List.length_cons,y],fun x hx=> ?_⟩,l++D,by rw[h,o,List.append_assoc]⟩;have U:(mkT ix t ops).2.length<=(mkL ix r (mkT ix t ops).2).2.length:=by rw[h,List.length_append];omega
  rcases List.mem_cons.1 hx with rfl|hx
  ·exact⟨by omega,by omega⟩
  ·exact A x hx
end
theorem z4p(ix:zA->Int)(t:RT):∀(s:List RT) (ops:List Ox),mkL ix (s++[t]) ops=((mkL ix s ops).1++[((mkT ix t (mkL ix s ops).2).1:Int)],(mkT ix t (mkL ix s ops).2).2)
 |[],ops=>by rw[List.nil_append,mkL,mkL,mkL,List.nil_append]
 |x::r,ops=>by rw[List.cons_append,mkL,mkL,z4p ix t r,List.cons_append]
theorem z4q(a b:List RT):ndL (a++b)=ndL a+ndL b:=by
 induction a with
 |nil=>rw[List.nil_append,ndL,Nat.zero_add]
 |cons t r ih=>rw[List.cons_append,ndL,ndL,ih,Nat.add_assoc]
theorem y3y(s:List RT)(j:Nat)(o:j<s.length):ndL (s.take j)+ndT s[j]<=ndL s:=by
 have h:ndL s=ndL (s.take (j+1))+ndL (s.drop (j+1)):=by rw[<-z4q,List.take_append_drop]
 rw[List.take_succ_eq_append_getElem o,z4q,ndL,ndL]at h;omega
theorem Tj(n:Nat)(o:n<=9223372036854775807):∀(s:List Int),(∀x∈s,0<=x/\x<(n:Int))->(sbT s).length<=22*s.length
 |[],_=>by rw[sbT];exact Nat.zero_le _
 |i::r,h=>by
  have t:=h i List.mem_cons_self;have y:=Lib.itoa_length_le i (by omega) (by omega);have A:=Tj n o r (fun x hx=>h x (List.mem_cons_of_mem _ hx));rw[sbT,List.length_append,List.length_cons,List.length_cons];omega
theorem y3z(ix:zA->Int)(s:List RT)(ops:List Ox)(r:s.length<=1048576)(t:ops.length+ndL s<=1048576):SbZ (mkL ix s ops).1:=by
 obtain⟨y,⟨A,h⟩,_⟩:=Fw ix s ops;have D:=Tj 1048577 (by omega) (mkL ix s ops).1 (fun x hx=>by have:=h x hx;exact⟨this.1,by omega⟩);exact⟨fun i o=>by have:=h i o;omega,by omega⟩
theorem z4r{R k:Nat}(h:k≠R):(((((((W.setCell ⟨R,0,none⟩ v0).setCell ⟨R,1,none⟩ v1).setCell ⟨R,2,none⟩ v2).setCell ⟨R,3,none⟩ v3).setCell ⟨R,4,none⟩ v4).setCell ⟨R,5,none⟩ v5).setCell ⟨R,6,none⟩ v6).heap[k]? =W.heap[k]? :=((Below.heap_setCell _ _ _ _ h).trans ((Below.heap_setCell _ _ _ _ h).trans ((Below.heap_setCell _ _ _ _ h).trans ((Below.heap_setCell _ _ _ _ h).trans ((Below.heap_setCell _ _ _ _ h).trans ((Below.heap_setCell _ _ _ _ h).trans (Below.heap_setCell _ _ _ _ h)))))))
theorem z4s{R:Nat}:(((((((W.setCell ⟨R,0,none⟩ v0).setCell ⟨R,1,none⟩ v1).setCell ⟨R,2,none⟩ v2).setCell ⟨R,3,none⟩ v3).setCell ⟨R,4,none⟩ v4).setCell ⟨R,5,none⟩ v5).setCell ⟨R,6,none⟩ v6).heap.size=W.heap.size:=by
 rw[World.size_setCell,World.size_setCell,World.size_setCell,World.size_setCell,World.size_setCell,World.size_setCell,World.size_setCell]
theorem Tv(x:Int)(h: -1<=x/\x<=1048576):qW (5,{data:=#[]},(0,0,0,0),[x])/\SbZ [x]:=by
 have r:=Lib.itoa_length_le x (by omega) (by omega);have t:(sbT [x]).length=(Lib.itoa x).length+1:=by rw[sbT,sbT,List.length_append];rfl
 refine⟨⟨(show(Lit.int .i64 5).wf=true by decide),(show(0:Nat)<=maxLen by unfold maxLen;omega),(show(Lit.int .u64 0).wf=true by decide),(show(Lit.int .u64 0).wf=true by decide),(show(Lit.int .u64 0).wf=true by decide),(show(Lit.int .u64 0).wf=true by decide),?_⟩,fun i o=> ?_,by omega⟩
 ·show(sbT [x]).length<=maxLen
  unfold maxLen;omega
 ·obtain rfl:=List.mem_singleton.1 o
  omega
theorem Ij{o a1:Addr}(h:W.cell? o=some v0/\W.cell? a1=some v1)(r:zB W W'):W'.cell? o=some v0/\W'.cell? a1=some v1:=
 ⟨(r.cell (p:=o) (World.block_lt_of_cell? W _ h.1)).trans h.1,(r.cell (p:=a1) (World.block_lt_of_cell? W _ h.2)).trans h.2⟩
theorem y3A(ix:zA->Int)(T:zA)(a b c d:Int)(Y:Option Addr)(n Z:Nat)(p:Int)(s:List RT)(Q:Nat->Prop)(B mB mp:Nat)(gso:Option Addr)(gn gcap:Nat)(vn vr:Value)(ops:List Ox)(v:Value)(xs:List Value)(W:World)(ah:ops.length<=1048576)(ac: -1<=ix T/\ix T<=1048576)
  (G:Hid (Mkr W Q B mB mp (.slice gso gn gcap) vn vr ops v xs))
  (ai:Hid (∀t:World,zB W t->Calls prog 85 #[.agg #[.slice gso gn gcap],zT T] t (zR t (zI (ix T))))):
  Calls prog 52 #[zP mB 0,.agg #[zI 5,zT T,zU a,zU b,zU c,zU d,.slice Y n Z,zI p]] W (OnP ix (.mk 5 T a b c d s p) Q B mB mp (.slice gso gn gcap) vn vr ops v W):=by
 obtain⟨D,I,e1⟩:=Dw W (.cells #[zI 5,zT T,zU a,zU b,zU c,zU d,.slice Y n Z,zI p] 81) (.cells #[zI 0,zT {data:=#[]},zU 0,zU 0,zU 0,zU 0,.slice none 0 0] 56);obtain⟨t,aa⟩:∃t,t=(W.alloc (.cells #[zI 5,zT T,zU a,zU b,zU c,zU d,.slice Y n Z,zI p] 81)).alloc (.cells #[zI 0,zT {data:=#[]},zU 0,zU 0,zU 0,zU 0,.slice none 0 0] 56):=⟨_,rfl⟩;rw[<-aa]at D I e1;obtain⟨y,U⟩:∃y,y=t.drew:=⟨_,rfl⟩;have ao:=hid D;have ad:Hid (y.heap[W.heap.size+1]? =some (.cells #[zI 0,zT {data:=#[]},zU 0,zU 0,zU 0,zU 0,.slice none 0 0] 56)):=hid (by rw[U];exact e1);have V:Hid (zB W y):=hid (by rw[U];exact D.drew);have ae:W.heap.size+1<y.heap.size:=Qq ad.out;have af:Hid (∀h:World,zB y h->W.heap.size+1<h.heap.size):=hid fun h h3=>Nat.lt_of_lt_of_le ae h3.size
 have aj:=hid (ai.out y V.out);obtain⟨⟨m0,m1,m2,m3,m4,m5,m6,m7⟩,_⟩:=Qg I;have l0:=Qq I;have ak:Hid ((fun X:World=>zC X mB 0 (.slice gso gn gcap)/\zC X W.heap.size 1 (zT T)) t.drew):=hid ⟨(Uk (G.out.below D).hm).1.1,m1⟩;have ag:=hid aa;have al:=hid U;clear D I e1 aa U;go_enter func52,ntmps52
 go_wp2_with fail
 rw[<-ag.out];clear ag
 go_wp2_with fail
 clear m0 m1 m2 m3 m4 m5 m6 m7 l0;refine Qc 9 (fun X:World=>zC X mB 0 (.slice gso gn gcap)/\zC X W.heap.size 1 (zT T)) (by kernel_rfl) ak.out (fun o=> ?_);rw[<-al.out]at o ⊢;refine Qz 0 o ?_;refine Qz 1 o ?_;refine Qz 2 o ?_;refine Qz 3 o ?_;refine Qz 4 o ?_;refine Qz 5 o ?_
 (refine Qf 6 (fun K r=> ?_);go_simp;refine aj.out.mono ?_;rintro e h ⟨rfl,E⟩;have A:=hid E;clear E;go_simp;replace o:=Ij o A.out;refine r.out _ _ o ?_;clear r K)
 (try simp only[Act.put,zY])
 (refine Qf 7 (fun K r=> ?_);go_simp;replace o:=Ij o ((Below.refl _ h).alloc L0q (.cells #[zI (ix T)] 3));refine r.out _ _ o ?_;clear r K)
 (try simp only[Act.put,zY])
 (refine Qf 8 (fun K r=> ?_);go_simp;refine r.out _ _ o ?_;clear r K)
 (try simp only[Act.put,zY])
 refine Yj (fun K r=> ?_);have ab:=hid (((Below.refl _ h).alloc L0q (.cells #[zI (ix T)] 3)).block _ (af.out h A.out)|>.trans ((A.out.block _ ae).trans ad.out));obtain⟨⟨z0,z1,z2,z3,z4,z5,z6⟩,⟨f0,f1,f2,f3,f4,f5,f6⟩⟩:=Yk ab.out;have lz:=Qq ab.out;clear o
 go_simp
 refine r.out _ _ ?_;clear r K z0 z1 z2 z3 z4 z5 z6 f0 f1 f2 f3 f4 f5 f6 lz
 go_wp2_with fail
 have am:=Tz (v0:=zI 5) (v1:=zT {data:=#[]}) (v2:=zU 0) (v3:=zU 0) (v4:=zU 0) (v5:=zU 0) (v6:=zS h.heap.size 1 1) ab.out;obtain⟨⟨r0,r1,r2,r3,r4,r5,r6⟩,_⟩:=Yk am;have E:zB W (h.alloc (.cells #[zI (ix T)] 3)):=(V.out.trans (A.out.mono V.out.size)).alloc (Nat.le_trans V.out.size A.out.size) _;refine bodyPost_ret (v:=.agg #[zI 5,zT {data:=#[]},zU 0,zU 0,zU 0,zU 0,zS h.heap.size 1 1]) (by simp[results,Tryz.results52,go_sem,r0,r1,r2,r3,r4,r5,r6]) rfl ?_;have ap:W.heap.size+1<h.heap.size:=af.out h A.out;refine⟨(5,{data:=#[]},(0,0,0,0),[ix T]),[zI 5,zT {data:=#[]},zU 0,zU 0,zU 0,zU 0,zS h.heap.size 1 1],Q,v,xs,ops,rfl,⟨some ⟨h.heap.size,0,none⟩,1,rfl,by show [ix T].length<=1048576;simp,?_⟩,by rw[mkT,if_pos rfl],⟨(Tv _ ac).1,(Tv _ ac).2,(show(0:Nat)<=1073741824 by omega),ah⟩,G.out.below (Iq E (by omega)),fun g hg=>.inl hg,Frm.of_below (Iq E (by omega))⟩;intro j hj;obtain rfl:j=0:=by have:j<1:=hj;omega
 refine⟨h.heap.size,0,rfl,⟨by omega,by rw[z4s,World.size_alloc];omega,fun hq=> ?_,fun e=> ?_⟩,?_⟩
 ·have:=(G.out.hq _ hq).1
  omega
 ·have:=(G.out.ho.lt _ e).2
  omega
 ·exact(World.cell?_of_block (a:=⟨h.heap.size,0+0,none⟩) (z4r (R:=W.heap.size+1) (show h.heap.size≠W.heap.size+1 by omega))).trans (Ak h (zI (ix T)) 3 0 _ rfl)
end Go.Proofs.YtgnkkgcgbeianaaGreatDoor
