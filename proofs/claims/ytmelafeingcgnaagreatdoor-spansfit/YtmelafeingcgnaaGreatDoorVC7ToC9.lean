/- Lemmas for the last text. Conditions: those that each names. -/
import Derived.Test.YtmelafeingcgnaaGreatDoorVC5ToC6
import Derived.Test.YtmelafeingcgnaaGreatDoorVO19ToU2
set_option linter.unusedVariables false
set_option maxRecDepth 100000
set_option maxHeartbeats 16000000
namespace Go.Proofs.YtmelafeingcgnaaGreatDoor
open Go.Proofs.Tryz
open Go.RowKit Go.Shelf Go.Maps
theorem z4L{W W':World}{o a1 a2 a3 a4 r y A D:Addr}{v0 v1 v2 v3 v4 v5 v6 v7 v8:Value}(h:W.cell? o=some v0/\W.cell? a1=some v1/\W.cell? a2=some v2/\W.cell? a3=some v3/\W.cell? a4=some v4/\W.cell? r=some v5/\W.cell? y=some v6/\W.cell? A=some v7/\W.cell? D=some v8)(E:zB W W'):W'.cell? o=some v0/\W'.cell? a1=some v1/\W'.cell? a2=some v2/\W'.cell? a3=some v3/\W'.cell? a4=some v4/\W'.cell? r=some v5/\W'.cell? y=some v6/\W'.cell? A=some v7/\W'.cell? D=some v8:=by
 obtain⟨G,U,V,Y,Z,z5,z6,z7,z8⟩:=h;have e:∀{a:Addr} {u:Value},W.cell? a=some u->W'.cell? a=some u:=fun{a u} h=>(E.cell (p:=a) (World.block_lt_of_cell? W _ h)).trans h
 exact⟨e G,e U,e V,e Y,e Z,e z5,e z6,e z7,e z8⟩
theorem y4a{W W':World}{mB mp o r:Nat}{u G v0 v1 v2 v3 v4 v5 v6 v7 v8:Value}(h:zC W o 6 v0/\zC W r 0 v1/\zC W r 1 v2/\zC W r 2 v3/\zC W r 3 v4/\zC W r 4 v5/\zC W r 5 v6/\zC W r 6 v7/\zC W r 7 v8)(E:Frm mB mp W u W' G)(A:o≠mB/\o≠mp/\u.ownBlock≠some o)(D:r≠mB/\r≠mp/\u.ownBlock≠some r):zC W' o 6 v0/\zC W' r 0 v1/\zC W' r 1 v2/\zC W' r 2 v3/\zC W' r 3 v4/\zC W' r 4 v5/\zC W' r 5 v6/\zC W' r 6 v7/\zC W' r 7 v8:=by
 have U:W'.heap[o]? =W.heap[o]? :=E.block o (World.block_lt_of_cell? W _ h.1) A.1 A.2.1 A.2.2;have y:W'.heap[r]? =W.heap[r]? :=E.block r (World.block_lt_of_cell? W _ h.2.1) D.1 D.2.1 D.2.2;exact⟨(World.cell?_of_block (a:=⟨o,6,none⟩) U).trans h.1,(World.cell?_of_block (a:=⟨r,0,none⟩) y).trans h.2.1,(World.cell?_of_block (a:=⟨r,1,none⟩) y).trans h.2.2.1,(World.cell?_of_block (a:=⟨r,2,none⟩) y).trans h.2.2.2.1,(World.cell?_of_block (a:=⟨r,3,none⟩) y).trans h.2.2.2.2.1,(World.cell?_of_block (a:=⟨r,4,none⟩) y).trans h.2.2.2.2.2.1,(World.cell?_of_block (a:=⟨r,5,none⟩) y).trans h.2.2.2.2.2.2.1,(World.cell?_of_block (a:=⟨r,6,none⟩) y).trans h.2.2.2.2.2.2.2.1,(World.cell?_of_block (a:=⟨r,7,none⟩) y).trans h.2.2.2.2.2.2.2.2⟩
theorem y4b{W W':World}{o r:Nat}{row:Option Nat}{v0 v1 v2 v3 v4 v5 v6 v7 v8:Value}(h:zC W o 6 v0/\zC W r 0 v1/\zC W r 1 v2/\zC W r 2 v3/\zC W r 3 v4/\zC W r 4 v5/\zC W r 5 v6/\zC W r 6 v7/\zC W r 7 v8)(D:some o≠row)(A:some r≠row)(y:W.grownBy W' row):zC W' o 6 v0/\zC W' r 0 v1/\zC W' r 1 v2/\zC W' r 2 v3/\zC W' r 3 v4/\zC W' r 4 v5/\zC W' r 5 v6/\zC W' r 6 v7/\zC W' r 7 v8:=
 ⟨y.cell h.1 D,y.cell h.2.1 A,y.cell h.2.2.1 A,y.cell h.2.2.2.1 A,y.cell h.2.2.2.2.1 A,y.cell h.2.2.2.2.2.1 A,y.cell h.2.2.2.2.2.2.1 A,y.cell h.2.2.2.2.2.2.2.1 A,y.cell h.2.2.2.2.2.2.2.2 A⟩
def nI(l:List Int):List Value:=l.map fun x=>zI x
theorem y4c(w:World)(A B C:Obj):zB w (((w.alloc A).alloc B).alloc C)/\(((w.alloc A).alloc B).alloc C).heap[w.heap.size]? =some A/\(((w.alloc A).alloc B).alloc C).heap[w.heap.size+1]? =some B/\(((w.alloc A).alloc B).alloc C).heap[w.heap.size+1+1]? =some C/\(((w.alloc A).alloc B).alloc C).heap.size=w.heap.size+3:=by
 obtain⟨r,y,D⟩:=Dj w A B;have o:((w.alloc A).alloc B).heap.size=w.heap.size+1+1:=by simp
 have h:Below (w.heap.size+1+1) ((w.alloc A).alloc B) (((w.alloc A).alloc B).alloc C):=B0q.alloc (Nat.le_of_eq o.symm) _;refine⟨r.trans (h.mono (by omega)),?_,?_,?_,by simp⟩
 ·rw[h.block _ (by omega)];exact y
 ·rw[h.block _ (by omega)];exact D
 ·exact Qx ((w.alloc A).alloc B) _ o.symm
theorem Frm.more{mB mp:Nat}{W o r:World}{v v1:Value}(h:Frm mB mp W v o v1)(A:r.os=o.os)(D:r.tape=o.tape)(E:r.output=o.output)(G:o.heap.size<=r.heap.size)(U:∀k,k<W.heap.size->r.heap[k]? =o.heap[k]?):Frm mB mp W v r v1:=
 ⟨A.trans h.os,D.trans h.tape,E.trans h.output,Nat.le_trans h.size G,fun k y V Y Z=>(U k y).trans (h.block k y V Y Z),h.row⟩
structure Oj (ix:zA->Int) (k:Int) (T:zA) (a b c d:Int) (nd:Array Value) (s:List RT) (Q:Nat->Prop) (B mB mp:Nat) (gv vn vr:Value) (ops:List Ox) (v:Value) (W:World) (j:Nat) (Q':Nat->Prop) (v':Value) (xs':List Value) (vs:Value) (wr:World):Prop where
 n:wr.heap[W.heap.size]? =some (.cells nd 119)
 z:wr.heap[W.heap.size+1]? =some (.cells #[zI 0,zT {data:=#[]},zU 0,zU 0,zU 0,zU 0,.slice none 0 0] 65)
 o:wr.heap[W.heap.size+1+1]? =some (.cells #[zI k,zT T,zU a,zU b,zU c,zU d,vs] 65)
 own:wr.ownsRow (W.heap.size+3) 3 1 vs j (nI (mkL ix (s.take j) ops).1)
 hmk:Mkr wr Q' B mB mp gv vn vr (mkL ix (s.take j) ops).2 v' xs'
 q:∀g,Q' g->Q g∨W.heap.size+3<=g
 row:∀g,vs.ownBlock=some g->¬Q' g/\v'.ownBlock≠some g
 vr':∀g,v'.ownBlock=some g->v.ownBlock=some g∨W.heap.size+3<=g
 fr:Frm mB mp W v wr v'
theorem z4M(a b:List Int):nI (a++b)=nI a++nI b:=List.map_append
theorem z4N(ix:zA->Int)(s:List RT)(ops:List Ox)(j:Nat)(h:j<s.length):mkL ix (s.take (j+1)) ops=((mkL ix (s.take j) ops).1++[((mkT ix s[j] (mkL ix (s.take j) ops).2).1:Int)],(mkT ix s[j] (mkL ix (s.take j) ops).2).2):=by
 rw[List.take_succ_eq_append_getElem h,z4H]
theorem Oj.step{ix:zA->Int}{k:Int}{T:zA}{a b c d:Int}{nd:Array Value}{s:List RT}{Q:Nat->Prop}{B mB mp:Nat}{gv vn vr:Value}{ops:List Ox}{v:Value}{xs:List Value}{W:World}{j:Nat}{Q':Nat->Prop}{v':Value}{aj:List Value}{G:Option Addr}{U:Nat}{wr Wd D V:World}{Y:Nat->Prop}{v2:Value}{ac:List Value}{X:Obj}{Z ad:Nat}(HM:Mkr W Q B mB mp gv vn vr ops v xs)(h:Oj ix k T a b c d nd s Q B mB mp gv vn vr ops v W j Q' v' aj (.slice G j U) wr)(hj:j<s.length)(ah:zB wr Wd)(aq:Wd.heap.size=wr.heap.size+1)
  (ae:Mkr D Y B mB mp gv vn vr (mkT ix s[j] (mkL ix (s.take j) ops).2).2 v2 ac)(af:∀g,Y g->Q' g∨Wd.heap.size<=g)(aa:Frm mB mp Wd v' D v2)(ak:V.ownsRow (W.heap.size+3) 3 1 (zS Z (j+1) ad) (j+1) (nI (mkL ix (s.take j) ops).1++[(zI ((mkT ix s[j] (mkL ix (s.take j) ops).2).1:Nat))]))(ab:(D.alloc X).grownBy V (Value.ownBlock (.slice G j U)))(al:Value.ownBlock (.slice G j U)=some Z∨Z=D.heap.size+1):
  Oj ix k T a b c d nd s Q B mB mp gv vn vr ops v W (j+1) Y v2 ac (zS Z (j+1) ad) (V.setCell ⟨W.heap.size+1+1,6,none⟩ (zS Z (j+1) ad)):=by
 have hV:∀g,Value.ownBlock (.slice G j U)=some g->W.heap.size+3<=g/\g<wr.heap.size:=h.own.lt;have lo:=Qq h.o;have ar:mB<W.heap.size:=Qq HM.hm;have au:mp<W.heap.size:=HM.hmap.lt;have ai:∀g,W.heap.size<=g->g<W.heap.size+3->v'.ownBlock≠some g:=fun g E y e=>by
  rcases h.vr' g e with r|r
  ·have:=(HM.ho.lt g r).2;omega
  ·omega
 have ha:(D.alloc X).heap.size=D.heap.size+1:=World.size_alloc _ _;have av:=aa.size;have am:=ab.size;have E6:∀g,g<D.heap.size->Value.ownBlock (.slice G j U)≠some g->V.heap[g]? =D.heap[g]? :=fun g E y=>(ab.block g (by omega) (fun e=>y e.symm)).trans (Below.heap_alloc _ _ _ E)
 have E3:∀g,g<wr.heap.size->g≠mB->g≠mp->v'.ownBlock≠some g->D.heap[g]? =wr.heap[g]? :=fun g E y r h4=>(aa.block g (by omega) y r h4).trans (ah.block g E)
 have EV:∀g,g<W.heap.size+3->Value.ownBlock (.slice G j U)≠some g:=fun g E e=>by have:=hV g e;omega
 have E0:∀g,W.heap.size<=g->g<W.heap.size+3->V.heap[g]? =wr.heap[g]? :=fun g E y=>(E6 g (by omega) (EV g y)).trans (E3 g (by omega) (by omega) (by omega) (ai g E y))
 have ag:∀g,Value.ownBlock (.slice G j U)=some g->¬Y g/\v2.ownBlock≠some g:=fun g e=>by
  have E:=hV g e;have y:=h.row g e;refine⟨fun hq=> ?_,fun hv=> ?_⟩
  ·rcases af g hq with r|r
   ·exact y.1 r
   ·omega
  ·rcases aa.row g hv with r|r
   ·exact y.2 r
   ·omega
 have M6:Mkr V Y B mB mp gv vn vr (mkT ix s[j] (mkL ix (s.take j) ops).2).2 v2 ac:=
  (ae.below ((Below.refl _ D).alloc L0q X)).kept am (fun g=>Value.ownBlock (.slice G j U)=some g) (fun g E y=>ab.block g E (fun e=>y e.symm)) (EV mB (by omega)) (EV mp (by omega)) (fun g A e=>(ag g e).2 A) (fun g A e=>(ag g e).1 A)
 have ao:¬Y (W.heap.size+1+1):=fun hq=>by
  rcases af _ hq with r|r
  ·rcases h.q _ r with h4|h4
   ·have:=(HM.hq _ h4).1;omega
   ·omega
  ·omega
 have ap:∀g,v2.ownBlock=some g->g≠W.heap.size+1+1:=fun g A e=>by
  subst e;rcases aa.row _ A with r|r
  ·exact ai _ (by omega) (by omega) r
  ·omega
 refine⟨(Below.heap_setCell _ _ _ _ (show W.heap.size≠W.heap.size+1+1 by omega)).trans ((E0 _ (by omega) (by omega)).trans h.n),(Below.heap_setCell _ _ _ _ (show W.heap.size+1≠W.heap.size+1+1 by omega)).trans ((E0 _ (by omega) (by omega)).trans h.z),Qk ((E0 _ (by omega) (by omega)).trans h.o) 6 _,?_,?_,fun g A=> ?_,fun g A=> ?_,fun g A=> ?_,?_⟩
 ·rw[z4N ix s ops j hj,z4M]
  exact ownsRow_setCell_below ak (a:=⟨W.heap.size+1+1,6,none⟩) (show W.heap.size+1+1<W.heap.size+3 by omega) _
 ·rw[z4N ix s ops j hj]
  exact M6.kept (by rw[World.size_setCell];exact Nat.le_refl _) (fun g=>g=W.heap.size+1+1) (fun g _ y=>Below.heap_setCell _ _ _ _ y) (by omega) (by omega) ap (fun g A e=>ao (e▸A))
 ·rcases af g A with r|r
  ·exact h.q g r
  ·exact .inr (by omega)
 ·obtain rfl:Z=g:=Option.some.inj A
  rcases al with r|r
  ·exact ag _ r
  ·exact⟨fun hq=>by have:=(ae.hq _ hq).1;omega,fun hv=>by have:=(ae.ho.lt _ hv).2;omega⟩
 ·rcases aa.row g A with r|r
  ·exact h.vr' g r
  ·exact .inr (by omega)
 ·refine((h.fr.trans (Frm.of_below ah)).trans aa).more (ab.os.trans rfl) (ab.tape.trans rfl) (ab.output.trans rfl) (by rw[World.size_setCell];omega) (fun g A=> ?_)
  exact(Below.heap_setCell _ _ _ _ (show g≠W.heap.size+1+1 by omega)).trans (E6 g (by have:=h.fr.size;omega) (EV g (by omega)))
theorem Oj.fin{ix:zA->Int}{k:Int}{T:zA}{a b c d p:Int}{nd:Array Value}{s:List RT}{Q:Nat->Prop}{B mB mp:Nat}{G vn vr:Value}{ops:List Ox}{v:Value}{xs:List Value}{W:World}{j:Nat}{A:Nat->Prop}{r:Value}{Y:List Value}{o:Option Addr}{y:Nat}{wr:World}(U:Mkr W Q B mB mp G vn vr ops v xs)(h:Oj ix k T a b c d nd s Q B mB mp G vn vr ops v W j A r Y (.slice o j y) wr)(hj:j=s.length)(ap:j<=1048576)(ae:¬k=5)(HW:∀l:List Int,SbZ l->qW (k,T,(a,b,c,d),l))(hT:T.size<=1073741824)(af:ops.length+ndL s<=1048576):
  OnP ix (.mk k T a b c d s p) Q B mB mp G vn vr ops v W (.returned (.agg #[zI k,zT T,zU a,zU b,zU c,zU d,.slice o j y])) (((((((wr.setCell ⟨W.heap.size+1,0,none⟩ (zI k)).setCell ⟨W.heap.size+1,1,none⟩ (zT T)).setCell ⟨W.heap.size+1,2,none⟩ (zU a)).setCell ⟨W.heap.size+1,3,none⟩ (zU b)).setCell ⟨W.heap.size+1,4,none⟩ (zU c)).setCell ⟨W.heap.size+1,5,none⟩ (zU d)).setCell ⟨W.heap.size+1,6,none⟩ (.slice o j y)):=by
 obtain⟨Wf,D⟩:∃Wf,Wf=((((((wr.setCell ⟨W.heap.size+1,0,none⟩ (zI k)).setCell ⟨W.heap.size+1,1,none⟩ (zT T)).setCell ⟨W.heap.size+1,2,none⟩ (zU a)).setCell ⟨W.heap.size+1,3,none⟩ (zU b)).setCell ⟨W.heap.size+1,4,none⟩ (zU c)).setCell ⟨W.heap.size+1,5,none⟩ (zU d)).setCell ⟨W.heap.size+1,6,none⟩ (.slice o j y):=⟨_,rfl⟩;have Z:∀g,g≠W.heap.size+1->Wf.heap[g]? =wr.heap[g]? :=fun g V=>by rw[D];exact z4J V
 have hS:Wf.heap.size=wr.heap.size:=by rw[D];exact z4K
 have aa:Below 0 wr Wf:=by rw[D];exact Iv (Below.refl 0 wr) (Nat.zero_le _)
 rw[<-D];clear D;have ag:s.take j=s:=List.take_of_length_le (by omega);obtain⟨l1,⟨l2,l3⟩,l4⟩:=Gl ix s ops;have ah:(mkL ix s ops).1.length=j:=by rw[l2];exact hj.symm
 have ac:=h.hmk;have ab:=h.own;rw[ag]at ac ab;have aq:mB<W.heap.size:=Qq U.hm;have ar:mp<W.heap.size:=U.hmap.lt;have ai:∀g,r.ownBlock=some g->¬g=W.heap.size+1:=fun g e e2=>by
  rcases h.vr' g e with E|E
  ·have:=(U.ho.lt g E).2;omega
  ·omega
 have aj:∀g,A g->¬g=W.heap.size+1:=fun g e e2=>by
  rcases h.q g e with E|E
  ·have:=(U.hq g E).1;omega
  ·omega
 have ak:Mkr Wf A B mB mp G vn vr (mkL ix s ops).2 r Y:=ac.kept (Nat.le_of_eq hS.symm) (fun g=>g=W.heap.size+1) (fun g _ h2=>Z g h2) (show ¬mB=W.heap.size+1 by omega) (show ¬mp=W.heap.size+1 by omega) ai aj;have al:Frm mB mp W v Wf r:=h.fr.more aa.os aa.tape aa.output (Nat.le_of_eq hS.symm) (fun g V=>Z g (by omega));have hz:=y3Y ix s ops (by omega) af;have am:RwC Wf (fun g=>W.heap.size<=g/\g<Wf.heap.size/\¬A g/\r.ownBlock≠some g) o (mkL ix s ops).1:=fun i hi=>by
  obtain⟨g,gc,e,au,av⟩:=ab.form (by omega);injection e with e _ _
  subst e;have ad:=h.row g rfl;refine⟨g,0,rfl,⟨by omega,by omega,ad.1,ad.2⟩,?_⟩;have hc:=ab.cells (g:=g) rfl i (zI (mkL ix s ops).1[i]) (by unfold nI;rw[List.getElem?_map,List.getElem?_eq_getElem hi];rfl);have ao:(⟨g,0,none⟩:Addr).add i=⟨g,0+i,none⟩:=by unfold Addr.add;split<;>simp_all
  rw[ao]at hc;exact(World.cell?_of_block (a:=⟨g,0+i,none⟩) (Z g (by omega))).trans hc
 refine⟨(k,T,(a,b,c,d),(mkL ix s ops).1),[zI k,zT T,zU a,zU b,zU c,zU d,.slice o (mkL ix s ops).1.length y],A,r,Y,(mkL ix s ops).2,?_,⟨o,y,rfl,?_,am⟩,?_,⟨HW _ hz,hz,hT,by omega⟩,ak,fun g V=>(h.q g V).imp id (fun h=>by omega),al⟩
 ·rw[ah]
 ·show(mkL ix s ops).1.length<=_
  omega
 ·rw[mkT,if_neg ae]
theorem y4d(ix:zA->Int)(k:Int)(T:zA)(a b c d:Int)(so:Option Addr)(n ae:Nat)(p:Int)(s:List RT)(Q:Nat->Prop)(B mB mp:Nat)(gv vn vr:Value)(ops:List Ox)(v:Value)(xs:List Value)(w0 W:World)(aI:(k == 5)=false)(HN:Hid (n=s.length))(hn:n<=1048576)(aJ:w0.heap.size<=mB)(aK:w0.heap.size<=mp)(ap:Hid (zB w0 W))(be:B<=W.heap.size)
  (HM:Hid (Mkr W Q B mB mp gv vn vr ops v xs))(HW:Hid (∀l:List Int,SbZ l->qW (k,T,(a,b,c,d),l)))(hT:T.size<=1073741824)(aL:ops.length+ndL s<=1048576)
  (HC:Hid (∀j (hj:j<s.length),∃g o,so=some ⟨g,o,none⟩/\g<w0.heap.size/\∃Y Z a1 b1 c1 d1 aa n1 ab p1,Rc w0 g (o+j*8) Y Z a1 b1 c1 d1 (.slice aa n1 ab) p1/\
    ∀(W1:World) (Q1:Nat->Prop) (ai:List Ox) (v1:Value) (aM:List Value),zB w0 W1->B<=W1.heap.size->Mkr W1 Q1 B mB mp gv vn vr ai v1 aM->ai.length+ndT s[j]<=1048576->Calls prog 46 #[zP mB 0,.agg #[zI Y,zT Z,zU a1,zU b1,zU c1,zU d1,.slice aa n1 ab,zI p1]] W1 (PlP ix s[j] Q1 B mB mp gv vn vr ai v1 W1))):
  Calls prog 80 #[zP mB 0,.agg #[zI k,zT T,zU a,zU b,zU c,zU d,.slice so n ae,zI p]] W (OnP ix (.mk k T a b c d s p) Q B mB mp gv vn vr ops v W):=by
 obtain⟨ag,e0,e1,e2,aN⟩:=y4c W (.cells #[zI k,zT T,zU a,zU b,zU c,zU d,.slice so n ae,zI p] 119) (.cells #[zI 0,zT {data:=#[]},zU 0,zU 0,zU 0,zU 0,.slice none 0 0] 65) (.cells #[zI k,zT T,zU a,zU b,zU c,zU d,.slice none 0 0] 65);obtain⟨W1,aj⟩:∃W1,W1=((W.alloc (.cells #[zI k,zT T,zU a,zU b,zU c,zU d,.slice so n ae,zI p] 119)).alloc (.cells #[zI 0,zT {data:=#[]},zU 0,zU 0,zU 0,zU 0,.slice none 0 0] 65)).alloc (.cells #[zI k,zT T,zU a,zU b,zU c,zU d,.slice none 0 0] 65):=⟨_,rfl⟩;rw[<-aj]at ag e0 e1 e2 aN;have aq:Hid (Oj ix k T a b c d #[zI k,zT T,zU a,zU b,zU c,zU d,.slice so n ae,zI p] s Q B mB mp gv vn vr ops v W 0 Q v xs (.slice none 0 0) W1):=hid ⟨e0,e1,e2,by rw[List.take_zero,mkL];exact World.ownsRow_nil _ _ _ _,by rw[List.take_zero,mkL];exact HM.out.below ag,fun g hg=>.inl hg,fun g hg=>(by cases hg),fun g hg=>.inl hg,Frm.of_below ag⟩;have bf:=hid ag;have ar:=hid aj;obtain⟨q1,q2,q3⟩:=Dj W (.cells #[zI k,zT T,zU a,zU b,zU c,zU d,.slice so n ae,zI p] 119) (.cells #[zI 0,zT {data:=#[]},zU 0,zU 0,zU 0,zU 0,.slice none 0 0] 65);obtain⟨⟨m0,m1,m2,m3,m4,m5,m6,m7⟩,_⟩:=Qf q2;have l0:=Qq q2;clear ag e0 e1 e2 aj q1 q3;go_enter func80,ntmps80
 go_wp2_with fail
 rw[<-ar.out];clear ar m0 m1 m2 m3 m4 m5 m6 m7 l0;obtain⟨iT,aO,aP,aQ,aR⟩:=info_parts Tryz.infoInt
 go_loopw [30] (fun i wr=>∃(j:Nat) (Q':Nat->Prop) (D:Value) (ak:List Value) (vs:Value),i=zI (j:Int)/\j<=n/\Hid (Oj ix k T a b c d #[zI k,zT T,zU a,zU b,zU c,zU d,.slice so n ae,zI p] s Q B mB mp gv vn vr ops v W j Q' D ak vs wr)) (fun i _=>n-(intOf i).toNat)
 case atStart=>exact⟨0,_,_,_,_,rfl,Nat.zero_le _,aq⟩
 case round=>
  obtain⟨j,Q',D,ak,vs,rfl,hj,y⟩:=hrel;clear aq;have lW:W.heap.size+3<=wr.heap.size:=by
   have h1:=Qq y.out.o;omega
  obtain⟨U,V,rfl⟩:=Ux y.out.own;have al:Hid (zB w0 wr):=hid (y.out.fr.below ap.out ap.out.size aJ aK (fun g e=>by have:=(HM.out.ho.lt g e).1;have:=HM.out.hmB;omega));by_cases hjn:j<n
  ·have bg:(j:Int)<(n:Int):=by omega
   have a0:decide ((j:Int)<(n:Int))=true:=by simp;omega
   have am:j<s.length:=by rw[<-HN.out];exact hjn
   obtain⟨g,o,rfl,hg,Y,Z,a1,b1,c1,d1,aa,n1,ab,p1,rc,au⟩:=HC.out j am;obtain⟨z0,z1,z2,z3,z4,z5,z6,z7⟩:=rc.below al.out hg;have av:zB wr (wr.alloc (.cells #[zI Y,zT Z,zU a1,zU b1,zU c1,zU d1,.slice aa n1 ab,zI p1] 119)):=(Below.refl _ wr).alloc L0q _;obtain⟨E,af⟩:∃E,E=(wr.alloc (.cells #[zI Y,zT Z,zU a1,zU b1,zU c1,zU d1,.slice aa n1 ab,zI p1] 119)).drew:=⟨_,rfl⟩;have ac:zB wr E:=by rw[af];exact av.drew
   have aw:E.heap.size=wr.heap.size+1:=by rw[af];exact World.size_alloc _ _
   have ax:E.heap[wr.heap.size]? =some (.cells #[zI Y,zT Z,zU a1,zU b1,zU c1,zU d1,.slice aa n1 ab,zI p1] 119):=by rw[af];exact Qx wr _ rfl
   have aS:=y3X s j am;have aT:=(Gl ix (s.take j) ops).1;have aU:=hid (au E Q' _ D ak (al.out.trans (ac.mono al.out.size)) (by omega) (y.out.hmk.below ac) (by omega));have HV:Hid (∀g,Value.ownBlock (.slice U j V)=some g->W.heap.size+3<=g/\g<wr.heap.size):=hid y.out.own.lt;have ay:∀g,D.ownBlock=some g->g<wr.heap.size:=fun g e=>(y.out.hmk.ho.lt g e).2
   have bh:mB<W.heap.size/\mp<W.heap.size:=⟨Qq HM.out.hm,HM.out.hmap.lt⟩;have az:∀g,W.heap.size<=g->g<W.heap.size+3->D.ownBlock≠some g:=fun g h1 h2 e=>by
    rcases y.out.vr' g e with h3|h3
    ·have:=(HM.out.ho.lt g h3).2;omega
    ·omega
   have ah:Hid (W.heap.size+1+1≠mB/\W.heap.size+1+1≠mp/\D.ownBlock≠some (W.heap.size+1+1)):=hid ⟨by omega,by omega,az _ (by omega) (by omega)⟩;have aV:Hid (wr.heap.size≠mB/\wr.heap.size≠mp/\D.ownBlock≠some wr.heap.size):=hid ⟨by omega,by omega,fun e=>by have:=ay _ e;omega⟩;have aA:Hid (some (W.heap.size+1+1)≠Value.ownBlock (.slice U j V)):=hid fun e=>by have:=HV.out _ e.symm;omega
   have aW:Hid (some wr.heap.size≠Value.ownBlock (.slice U j V)):=hid fun e=>by have:=HV.out _ e.symm;omega
   have aX:Hid (∀(r:World) (v2:Value),Frm mB mp E D r v2->r.ownsRow (W.heap.size+3) 3 1 (.slice U j V) j (nI (mkL ix (s.take j) ops).1)):=hid fun r v2 h=>Xp y.out.own fun g e=>by
    have h1:=HV.out g e;exact(h.block g (by omega) (by omega) (by omega) (y.out.row g e).2).trans (ac.block g h1.2)
   have aY:Hid (∀(r:World) (v2:Value),Frm mB mp E D r v2->W.heap.size+3<=(r.alloc (.cells #[(zI ((mkT ix s[j] (mkL ix (s.take j) ops).2).1:Nat))] 3)).heap.size):=hid fun r v2 h=>by have:=h.size;rw[World.size_alloc];omega
   have aZ:Hid (∀(r:World) (v2:Value),Frm mB mp E D r v2->W.heap.size+1+1<r.heap.size):=hid fun r v2 h=>by have:=h.size;omega
   have a2:Hid (∀(r:World) (v2:Value),Frm mB mp E D r v2->W.heap.size+1+1<(r.alloc (.cells #[(zI ((mkT ix s[j] (mkL ix (s.take j) ops).2).1:Nat))] 3)).heap.size):=hid fun r v2 h=>by have:=h.size;rw[World.size_alloc];omega
   have a3:Hid (∀(r:World) (v2:Value),Frm mB mp E D r v2->r.heap[W.heap.size+1+1]? =some (.cells #[zI k,zT T,zU a,zU b,zU c,zU d,.slice U j V] 65)):=hid fun r v2 h=>(h.block _ (by omega) ah.out.1 ah.out.2.1 ah.out.2.2).trans ((ac.block _ (by omega)).trans y.out.o)
   have a4:j+1<=maxLen:=by unfold maxLen;omega
   have a5:(j+1)*8<=140737488355328:=by omega
   have a6:Hid ((fun X:World=>zC X (W.heap.size+1+1) 6 (.slice U j V)/\zC X wr.heap.size 0 (zI Y)/\zC X wr.heap.size 1 (zT Z)/\zC X wr.heap.size 2 (zU a1)/\zC X wr.heap.size 3 (zU b1)/\zC X wr.heap.size 4 (zU c1)/\zC X wr.heap.size 5 (zU d1)/\zC X wr.heap.size 6 (.slice aa n1 ab)/\zC X wr.heap.size 7 (zI p1)) (wr.alloc (.cells #[zI Y,zT Z,zU a1,zU b1,zU c1,zU d1,.slice aa n1 ab,zI p1] 119)).drew):=by
    rw[<-af];obtain⟨⟨_,_,_,_,_,_,x6⟩,_⟩:=Yk ((ac.block _ (by omega)).trans y.out.o);obtain⟨⟨y0,y1,y2,y3,y4,y5,y6,y7⟩,_⟩:=Qf ax;exact⟨x6,y0,y1,y2,y3,y4,y5,y6,y7⟩
   have a7:=hid af;have a8:=hid aw;have a9:=hid ac;clear au rc av af ac ax aS aT ay az aw
   go_wp2_with fail
   refine Qc 8 (fun X:World=>zC X (W.heap.size+1+1) 6 (.slice U j V)/\zC X wr.heap.size 0 (zI Y)/\zC X wr.heap.size 1 (zT Z)/\zC X wr.heap.size 2 (zU a1)/\zC X wr.heap.size 3 (zU b1)/\zC X wr.heap.size 4 (zU c1)/\zC X wr.heap.size 5 (zU d1)/\zC X wr.heap.size 6 (.slice aa n1 ab)/\zC X wr.heap.size 7 (zI p1)) (by kernel_rfl) a6.out (fun A=> ?_);rw[<-a7.out]at A ⊢;refine Qz 0 A ?_;refine Qz 1 A ?_;refine Qz 2 A ?_;refine Qz 3 A ?_
   (refine Qv 4 (fun K G=> ?_);go_simp;refine aU.out.mono ?_;rintro e r ⟨Q2,v2,bi,rfl,aB,aC,aD⟩;have ba:=hid aB;have bb:=hid aC;have ad:=hid aD;clear aB aC aD;go_simp;replace A:=y4a A ad.out ah.out aV.out;refine G.out _ _ A ?_;clear G K)
   (try simp only[Act.put,zY])
   (refine Qv 5 (fun K G=> ?_);go_simp;replace A:=z4L A ((Below.refl _ r).alloc L0q (.cells #[(zI ((mkT ix s[j] (mkL ix (s.take j) ops).2).1:Nat))] 3));refine G.out _ _ A ?_;clear G K)
   (try simp only[Act.put,zY])
   (refine Qv 6 (fun K G=> ?_);refine step_append_lies _ rfl (.tmp 35) (.tmp 39) 24 rfl (W.heap.size+3) 3 iT (zI 0) 1 8 Tryz.underlying24 aO aP aQ aR rfl (by decide) (.slice U j V) j (nI (mkL ix (s.take j) ops).1) (by rfl) ((aX.out r v2 ad.out).alloc _) ⟨r.heap.size,0,none⟩ 1 1 [(zI ((mkT ix s[j] (mkL ix (s.take j) ops).2).1:Nat))] (by rfl) rfl (Ak _ _ _) (by simp[Value.oneCell']) (by decide) a4 a5 (aY.out r v2 ad.out) (r.heap.size+1) (World.size_alloc _ _) ?_;intro g6 bj w6 aE ao aF bk;replace A:=y4b A aA.out aW.out ao;have bc:=hid aE;have aG:=hid ao;have bd:=hid aF;clear aE ao aF;refine G.out _ _ A ?_;clear G K)
   (try simp only[Act.put,zY])
   refine Qz 7 A ?_;refine Yj (fun K G=> ?_);have aH:=hid ((aG.out.block _ (a2.out r v2 ad.out) aA.out).trans ((Below.heap_alloc _ _ _ (aZ.out r v2 ad.out)).trans (a3.out r v2 ad.out)));obtain⟨⟨s0,s1,s2,s3,s4,s5,s6⟩,f0,f1,f2,f3,f4,f5,f6⟩:=Yk aH.out;have ls:=Qq aH.out;clear A
   go_simp
   refine G.out _ _ ?_;clear G K s0 s1 s2 s3 s4 s5 s6 f0 f1 f2 f3 f4 f5 f6 ls
   go_wp2_with fail
   refine⟨⟨j+1,_,_,_,_,by go_num,by omega,hid (y.out.step HM.out am a9.out a8.out ba.out bb.out ad.out bc.out aG.out bd.out)⟩,by simp[intOf];omega⟩
  ·have a0:decide ((j:Int)<(n:Int))=false:=by simp;omega
   obtain rfl:j=n:=by omega
   obtain⟨⟨o0,o1,o2,o3,o4,o5,o6⟩,_⟩:=Yk y.out.o;obtain⟨⟨z0,z1,z2,z3,z4,z5,z6⟩,⟨f0,f1,f2,f3,f4,f5,f6⟩⟩:=Yk y.out.z;have lo:=Qq y.out.o;have lz:=Qq y.out.z
   go_wp2_with fail
   have hP:=Th (v0:=zI k) (v1:=zT T) (v2:=zU a) (v3:=zU b) (v4:=zU c) (v5:=zU d) (v6:=.slice U j V) y.out.z;obtain⟨⟨r0,r1,r2,r3,r4,r5,r6⟩,_⟩:=Yk hP;refine bodyPost_ret (v:=.agg #[zI k,zT T,zU a,zU b,zU c,zU d,.slice U j V]) (by simp[results,Tryz.results80,go_sem,r0,r1,r2,r3,r4,r5,r6]) rfl ?_;exact y.out.fin HM.out HN.out hn (by simpa using aI) HW.out hT aL
section
mutual
def TrK:RT->Prop
 | .mk k T a b c d s _=>((Lit.int .i64 k).wf=true/\T.size<=1073741824/\(Lit.int .u64 a).wf=true/\(Lit.int .u64 b).wf=true/\(Lit.int .u64 c).wf=true/\(Lit.int .u64 d).wf=true/\s.length<=1048576)/\Gx s
def Gx:List RT->Prop
 |[]=>True
 |t::r=>TrK t/\Gx r
end
theorem Tc:∀{s:List RT},Gx s->∀j (o:j<s.length),TrK s[j]
 |t::r,h,0,_=>by rw[Gx]at h;exact h.1
 |t::r,h,j+1,o=>by rw[Gx]at h;exact Tc h.2 j (by simpa using o)
theorem y4e(T:zA)(l:List ByteArray)(h:l.length<=1048576): -1<=fdI T l/\fdI T l<=1048576:=by
 unfold fdI;split
 ·rename_i o
  have:=Gh T l o;omega
 ·omega
section
variable {w0:World} {rs:List Rr} {gso:Option Addr} {gn gcap B mB mp:Nat} {vn vr:Value}
theorem z4O(hR:Qg w0 w0.heap.size gso gn rs)(ad:rs.length<=1048576)(hP:Xm w0)(G:w0.heap.size<=mB)(U:w0.heap.size<=mp):∀(N:Nat) (t:RT) (V:List Value),SizeOf.sizeOf t<N->Qw w0 w0.heap.size t V->TrK t->
  ∀(W:World) (Q:Nat->Prop) (ops:List Ox) (v:Value) (xs:List Value),zB w0 W->B<=W.heap.size->Mkr W Q B mB mp (.slice gso gn gcap) vn vr ops v xs->ops.length+ndT t<=1048576->
  Calls prog 46 #[zP mB 0,.agg V.toArray] W (PlP (fun T=>fdI T (nmL rs)) t Q B mB mp (.slice gso gn gcap) vn vr ops v W)
 |0,t,_,h,_,_=>by omega
 |N+1,.mk k T a b c d s p,V,hN,y,hk=>fun W Q ops v xs Y ae r ah=>by
  rw[Qw]at y;obtain⟨Z,aa,rfl,y⟩:=y;rw[TrK]at hk;obtain⟨⟨k1,k2,k3,k4,k5,k6,k7⟩,ai⟩:=hk;rw[ndT]at ah;refine y3W _ _ k T a b c d Z (Qb s) aa p Q B mB mp _ vn vr ops v w0 W G U (hid Y) (hid hP) (Qq r.hm) r.hmap.lt (hid fun g e=>(r.ho.lt g e).1) r.hmB r.hmp ae (hid fun W1 ab=> ?_);have ac:zB w0 W1:=Y.trans (ab.mono Y.size);have af:=r.below ab;by_cases A:k=5
  ·subst A
   refine y3Z _ T a b c d Z (Qb s) aa p s Q B mB mp gso gn gcap vn vr ops v xs W1 (by omega) (y4e T _ (by unfold nmL;rw[List.length_map];exact ad)) (hid af) (hid fun D aj=> ?_);have ag:zB w0 D:=ac.trans (aj.mono ac.size);exact Rp T gso gn gcap rs w0.heap.size D (hR.below ag) ag.size
  ·refine y4d _ k T a b c d Z (Qb s) aa p s Q B mB mp _ vn vr ops v xs w0 W1 (by simpa using A) (hid (Xg s)) (by rw[Xg];exact k7) G U (hid ac) (Nat.le_trans ae ab.size) (hid af) (hid fun l hl=>⟨k1,(show T.size<=maxLen by unfold maxLen;omega),k3,k4,k5,k6,(show(sbT l).length<=maxLen by have:=hl.2;unfold maxLen;omega)⟩) k2 (by omega) (hid fun j E=> ?_)
   rcases y with h1|⟨h1,g,o,rfl,hg,hm,hs⟩
   ·have ak:s=[]:=by simpa using h1
    subst ak;simp at E
   ·obtain⟨k1,T1,a1,b1,c1,d1,al,n1,am,p1,r1,r2⟩:=Mx hs j E
    refine⟨g,o,rfl,hg,k1,T1,a1,b1,c1,d1,al,n1,am,p1,r2,fun D Q2 ao v2 ap h2 h3 h4 A=> ?_⟩;have aq:=List.sizeOf_lt_of_mem (List.getElem_mem E);simp only[RT.mk.sizeOf_spec]at hN;exact z4O hR ad hP G U N s[j] _ (by omega) r1 (Tc ai j E) D Q2 ao v2 ap h2 h3 h4 A
end
end
def nS(l:List Rr):List Value:=l.map fun x=>zT x.1
def ndG:List Rr->Nat
 |[]=>0
 |x::r=>ndT x.2.1+ndG r
theorem Tl(a b:List Rr):ndG (a++b)=ndG a+ndG b:=by
 induction a with
 |nil=>rw[List.nil_append,ndG,Nat.zero_add]
 |cons t r ih=>rw[List.cons_append,ndG,ndG,ih,Nat.add_assoc]
theorem y4f(s:List Rr)(j:Nat)(o:j<s.length):ndG (s.take j)+ndT s[j].2.1<=ndG s:=by
 have h:ndG s=ndG (s.take (j+1))+ndG (s.drop (j+1)):=by rw[<-Tl,List.take_append_drop]
 rw[List.take_succ_eq_append_getElem o,Tl,ndG,ndG]at h;omega
theorem Vv(ix:zA->Int):∀(s:List Rr) (ops:List Ox),(mkG ix s ops).2.length<=ops.length+ndG s/\((mkG ix s ops).1.length=s.length/\∀x∈(mkG ix s ops).1,0<=x/\x<((mkG ix s ops).2.length:Int))/\∃l,(mkG ix s ops).2=ops++l
 |[],ops=>by
  rw[mkG,ndG];exact⟨Nat.le_refl _,⟨rfl,fun x hx=>by cases hx⟩,[],(List.append_nil _).symm⟩
 |t::r,ops=>by
  rw[mkG,ndG];dsimp only;obtain⟨E,G,l,o⟩:=Iw ix t.2.1 ops;obtain⟨U,⟨y,A⟩,D,h⟩:=Vv ix r (mkT ix t.2.1 ops).2;refine⟨by omega,⟨by rw[List.length_cons,List.length_cons,y],fun x hx=> ?_⟩,l++D,by rw[h,o,List.append_assoc]⟩;have V:(mkT ix t.2.1 ops).2.length<=(mkG ix r (mkT ix t.2.1 ops).2).2.length:=by rw[h,List.length_append];omega
  rcases List.mem_cons.1 hx with rfl|hx
  ·exact⟨by omega,by omega⟩
  ·exact A x hx
theorem z4P(ix:zA->Int)(t:Rr):∀(s:List Rr) (ops:List Ox),mkG ix (s++[t]) ops=((mkG ix s ops).1++[((mkT ix t.2.1 (mkG ix s ops).2).1:Int)],(mkT ix t.2.1 (mkG ix s ops).2).2)
 |[],ops=>by rw[List.nil_append,mkG,mkG,mkG,List.nil_append]
 |x::r,ops=>by rw[List.cons_append,mkG,mkG,z4P ix t r,List.cons_append]
theorem z4Q(ix:zA->Int)(s:List Rr)(ops:List Ox)(j:Nat)(h:j<s.length):mkG ix (s.take (j+1)) ops=((mkG ix (s.take j) ops).1++[((mkT ix s[j].2.1 (mkG ix (s.take j) ops).2).1:Int)],(mkT ix s[j].2.1 (mkG ix (s.take j) ops).2).2):=by
 rw[List.take_succ_eq_append_getElem h,z4P]
theorem y4g(s:List Rr)(j:Nat)(h:j<s.length):nS (s.take (j+1))=nS (s.take j)++[zT s[j].1]:=by
 unfold nS;rw[List.take_succ_eq_append_getElem h,List.map_append];rfl
theorem Mkr.setN{W:World}{Q:Nat->Prop}{B mB mp:Nat}{r vn vr v u:Value}{ops:List Ox}{xs:List Value}(h:Mkr W Q B mB mp r vn vr ops v xs):Mkr (W.setCell ⟨mB,2,none⟩ u) Q B mB mp r u vr ops v xs:=
 ⟨Qk h.hm 2 u,ownsRow_setCell_below h.ho (a:=⟨mB,2,none⟩) h.hmB u,h.hops.keep fun g o=>⟨o,Below.heap_setCell _ _ _ _ (h.hq g o).2.1⟩,h.hmap.same (Below.heap_setCell _ _ _ _ h.hne.symm),fun g o=>⟨by rw[World.size_setCell];exact(h.hq g o).1,(h.hq g o).2⟩,h.hmB,h.hmp,h.hne⟩
theorem Mkr.setR{W:World}{Q:Nat->Prop}{B mB mp:Nat}{r vn vr v u:Value}{ops:List Ox}{xs:List Value}(h:Mkr W Q B mB mp r vn vr ops v xs):Mkr (W.setCell ⟨mB,3,none⟩ u) Q B mB mp r vn u ops v xs:=
 ⟨Qk h.hm 3 u,ownsRow_setCell_below h.ho (a:=⟨mB,3,none⟩) h.hmB u,h.hops.keep fun g o=>⟨o,Below.heap_setCell _ _ _ _ (h.hq g o).2.1⟩,h.hmap.same (Below.heap_setCell _ _ _ _ h.hne.symm),fun g o=>⟨by rw[World.size_setCell];exact(h.hq g o).1,(h.hq g o).2⟩,h.hmB,h.hmp,h.hne⟩
structure Gj (ix:zA->Int) (rs:List Rr) (gv:Value) (wc:World) (jn jr:Nat) (Q:Nat->Prop) (v:Value) (xs:List Value) (vn vr:Value) (wr:World):Prop where
 be:zB wc wr
 hmk:Mkr wr Q (wc.heap.size+2) (wc.heap.size+1) wc.heap.size gv vn vr (mkG ix (rs.take jr) []).2 v xs
 on:wr.ownsRow (wc.heap.size+2) 9 1 vn jn (nS (rs.take jn))
 or:wr.ownsRow (wc.heap.size+2) 3 1 vr jr (nI (mkG ix (rs.take jr) []).1)
 d1:∀g,vn.ownBlock=some g->¬Q g/\v.ownBlock≠some g/\vr.ownBlock≠some g
 d2:∀g,vr.ownBlock=some g->¬Q g/\v.ownBlock≠some g
 qb:∀g,Q g->wc.heap.size<=g
theorem Gj.below{ix:zA->Int}{rs:List Rr}{r:Value}{y:World}{A D:Nat}{Q:Nat->Prop}{v:Value}{xs:List Value}{vn vr:Value}{wr w':World}(h:Gj ix rs r y A D Q v xs vn vr wr)(o:zB wr w'):Gj ix rs r y A D Q v xs vn vr w':=
 ⟨h.be.trans (o.mono h.be.size),h.hmk.below o,Xp h.on fun g e=>o.block g (h.on.lt g e).2,Xp h.or fun g e=>o.block g (h.or.lt g e).2,h.d1,h.d2,h.qb⟩
theorem Gj.names{ix:zA->Int}{rs:List Rr}{G:Value}{o:World}{j:Nat}{Q:Nat->Prop}{v:Value}{xs:List Value}{vn vr:Value}{r D:World}{X:Obj}{y U:Nat}(h:Gj ix rs G o j j Q v xs vn vr r)(Z:j<rs.length)
  (aa:D.ownsRow (o.heap.size+2) 9 1 (zS y (j+1) U) (j+1) (nS (rs.take j)++[zT rs[j].1]))(E:(r.alloc X).grownBy D vn.ownBlock)(ab:vn.ownBlock=some y∨y=r.heap.size+1):
  Gj ix rs G o (j+1) j Q v xs (zS y (j+1) U) vr (D.setCell ⟨o.heap.size+1,2,none⟩ (zS y (j+1) U)):=by
 have ha:=h.below ((Below.refl _ r).alloc L0q X);have hs:(r.alloc X).heap.size=r.heap.size+1:=World.size_alloc _ _;have V:∀g,vn.ownBlock=some g->o.heap.size+2<=g/\g<r.heap.size:=h.on.lt;have M6:Mkr D Q (o.heap.size+2) (o.heap.size+1) o.heap.size G vn vr (mkG ix (rs.take j) []).2 v xs:=ha.hmk.kept E.size (fun g=>vn.ownBlock=some g) (fun g h1 h2=>E.block g h1 (fun e=>h2 e.symm)) (fun e=>by have:=V _ e;omega) (fun e=>by have:=V _ e;omega) (fun g A e=>(h.d1 g e).2.1 A) (fun g A e=>(h.d1 g e).1 A);refine⟨?_,M6.setN,?_,?_,fun g A=> ?_,h.d2,h.qb⟩
 ·exact(ha.be.grown E ha.be.size (fun g e=>by have:=V g e;omega)).setCell (p:=⟨o.heap.size+1,2,none⟩) (show o.heap.size<=o.heap.size+1 by omega) _
 ·rw[y4g rs j Z]
  exact ownsRow_setCell_below aa (a:=⟨o.heap.size+1,2,none⟩) (show o.heap.size+1<o.heap.size+2 by omega) _
 ·refine ownsRow_setCell_below (Xp ha.or fun g e=>E.block g (ha.or.lt g e).2 (fun e2=>(h.d1 g e2.symm).2.2 e)) (a:=⟨o.heap.size+1,2,none⟩) (show o.heap.size+1<o.heap.size+2 by omega) _
 ·obtain rfl:y=g:=Option.some.inj A
  rcases ab with Y|Y
  ·exact h.d1 _ Y
  ·exact⟨fun hq=>by have:=(h.hmk.hq _ hq).1;omega,fun e=>by have:=(h.hmk.ho.lt _ e).2;omega,fun e=>by have:=(h.or.lt _ e).2;omega⟩
theorem Gj.roots{ix:zA->Int}{rs:List Rr}{Z:Value}{o:World}{j:Nat}{Q:Nat->Prop}{v:Value}{xs:List Value}{vn vr:Value}{W E w9:World}{X:Obj}{G ac:Nat}{V:Nat->Prop}{v2:Value}{ad:List Value}(h:Gj ix rs Z o (j+1) j Q v xs vn vr W)(hj:j<rs.length)
  (ae:Mkr E V (o.heap.size+2) (o.heap.size+1) o.heap.size Z vn vr (mkT ix rs[j].2.1 (mkG ix (rs.take j) []).2).2 v2 ad)(ag:∀g,V g->Q g∨W.heap.size<=g)(aa:Frm (o.heap.size+1) o.heap.size W v E v2)
  (aj:w9.ownsRow (o.heap.size+2) 3 1 (zS G (j+1) ac) (j+1) (nI (mkG ix (rs.take j) []).1++[zI ((mkT ix rs[j].2.1 (mkG ix (rs.take j) []).2).1:Nat)]))(ab:(E.alloc X).grownBy w9 vr.ownBlock)(ah:vr.ownBlock=some G∨G=E.heap.size+1):
  Gj ix rs Z o (j+1) (j+1) V v2 ad vn (zS G (j+1) ac) (w9.setCell ⟨o.heap.size+1,3,none⟩ (zS G (j+1) ac)):=by
 have hs:(E.alloc X).heap.size=E.heap.size+1:=World.size_alloc _ _;have U:∀g,vr.ownBlock=some g->o.heap.size+2<=g/\g<W.heap.size:=h.or.lt;have ai:∀g,vn.ownBlock=some g->o.heap.size+2<=g/\g<W.heap.size:=h.on.lt;have h8:=aa.size;have e1:∀g,g<W.heap.size->¬Q g->¬V g:=fun g r y Y=>by
  rcases ag g Y with A|A
  ·exact y A
  ·omega
 have e2:∀g,g<W.heap.size->v.ownBlock≠some g->v2.ownBlock≠some g:=fun g r y Y=>by
  rcases aa.row g Y with A|A
  ·exact y A
  ·omega
 have M9:Mkr w9 V (o.heap.size+2) (o.heap.size+1) o.heap.size Z vn vr (mkT ix rs[j].2.1 (mkG ix (rs.take j) []).2).2 v2 ad:=(ae.below ((Below.refl _ E).alloc L0q X)).kept ab.size (fun g=>vr.ownBlock=some g) (fun g r y=>ab.block g r (fun e=>y e.symm)) (fun e=>by have:=U _ e;omega) (fun e=>by have:=U _ e;omega) (fun g D e=>e2 g (U g e).2 (h.d2 g e).2 D) (fun g D e=>e1 g (U g e).2 (h.d2 g e).1 D);have af:zB o E:=aa.below h.be h.be.size (by omega) (by omega) (fun g e=>by have:=(h.hmk.ho.lt g e).1;omega);refine⟨?_,?_,?_,?_,fun g D=> ?_,fun g D=> ?_,fun g D=>(ag g D).elim (h.qb g) (fun r=>Nat.le_trans h.be.size r)⟩
 ·exact((af.alloc af.size X).grown ab (Nat.le_trans af.size (by omega)) (fun g e=>by have:=U g e;omega)).setCell (p:=⟨o.heap.size+1,3,none⟩) (show o.heap.size<=o.heap.size+1 by omega) _
 ·rw[z4Q ix rs [] j hj]
  exact M9.setR
 ·refine ownsRow_setCell_below (Xp h.on fun g e=> ?_) (a:=⟨o.heap.size+1,3,none⟩) (show o.heap.size+1<o.heap.size+2 by omega) _
  have r:=ai g e;exact(ab.block g (by omega) (fun e3=>(h.d1 g e).2.2 e3.symm)).trans ((Below.heap_alloc _ _ _ (by omega)).trans (aa.block g r.2 (by omega) (by omega) (h.d1 g e).2.1))
 ·rw[z4Q ix rs [] j hj,z4M]
  exact ownsRow_setCell_below aj (a:=⟨o.heap.size+1,3,none⟩) (show o.heap.size+1<o.heap.size+2 by omega) _
 ·have r:=ai g D
  have y:=h.d1 g D;refine⟨e1 g r.2 y.1,e2 g r.2 y.2.1,fun e=> ?_⟩;obtain rfl:G=g:=Option.some.inj e;rcases ah with A|A
  ·exact y.2.2 A
  ·omega
 ·obtain rfl:G=g:=Option.some.inj D
  rcases ah with A|A
  ·have r:=U _ A
   have y:=h.d2 _ A;exact⟨e1 _ r.2 y.1,e2 _ r.2 y.2⟩
  ·exact⟨fun Y=>by have:=(ae.hq _ Y).1;omega,fun e=>by have:=(ae.ho.lt _ e).2;omega⟩
theorem y4h{W W':World}{o a1:Addr}{row:Option Nat}{v0 v1:Value}(h:W.cell? o=some v0/\W.cell? a1=some v1)(y:some o.block≠row)(A:some a1.block≠row)(r:W.grownBy W' row):W'.cell? o=some v0/\W'.cell? a1=some v1:=⟨r.cell h.1 y,r.cell h.2 A⟩
theorem y4i{W W':World}{Q:Nat->Prop}{B mp o r:Nat}{u D E vn:Value}{ops:List Ox}{xs:List Value}{v0 v1 v2 v3 v4 v5 v6 v7 v8:Value}(h:zC W o 3 v0/\zC W r 1 v1/\zC W r 2 v2/\zC W r 3 v3/\zC W r 4 v4/\zC W r 5 v5/\zC W r 6 v6/\zC W r 7 v7/\zC W r 8 v8)(G:Frm o mp W u W' D)(U:Mkr W' Q B o mp E vn v0 ops D xs)(A:r≠o/\r≠mp/\u.ownBlock≠some r):zC W' o 3 v0/\zC W' r 1 v1/\zC W' r 2 v2/\zC W' r 3 v3/\zC W' r 4 v4/\zC W' r 5 v5/\zC W' r 6 v6/\zC W' r 7 v7/\zC W' r 8 v8:=by
 have y:W'.heap[r]? =W.heap[r]? :=G.block r (World.block_lt_of_cell? W _ h.2.1) A.1 A.2.1 A.2.2;exact⟨(Ug U.hm).1.2.2.2.1,(World.cell?_of_block (a:=⟨r,1,none⟩) y).trans h.2.1,(World.cell?_of_block (a:=⟨r,2,none⟩) y).trans h.2.2.1,(World.cell?_of_block (a:=⟨r,3,none⟩) y).trans h.2.2.2.1,(World.cell?_of_block (a:=⟨r,4,none⟩) y).trans h.2.2.2.2.1,(World.cell?_of_block (a:=⟨r,5,none⟩) y).trans h.2.2.2.2.2.1,(World.cell?_of_block (a:=⟨r,6,none⟩) y).trans h.2.2.2.2.2.2.1,(World.cell?_of_block (a:=⟨r,7,none⟩) y).trans h.2.2.2.2.2.2.2.1,(World.cell?_of_block (a:=⟨r,8,none⟩) y).trans h.2.2.2.2.2.2.2.2⟩
theorem y4j{W W':World}{o r:Nat}{row:Option Nat}{v0 v1 v2 v3 v4 v5 v6 v7 v8:Value}(h:zC W o 3 v0/\zC W r 1 v1/\zC W r 2 v2/\zC W r 3 v3/\zC W r 4 v4/\zC W r 5 v5/\zC W r 6 v6/\zC W r 7 v7/\zC W r 8 v8)(D:some o≠row)(A:some r≠row)(y:W.grownBy W' row):zC W' o 3 v0/\zC W' r 1 v1/\zC W' r 2 v2/\zC W' r 3 v3/\zC W' r 4 v4/\zC W' r 5 v5/\zC W' r 6 v6/\zC W' r 7 v7/\zC W' r 8 v8:=
 ⟨y.cell h.1 D,y.cell h.2.1 A,y.cell h.2.2.1 A,y.cell h.2.2.2.1 A,y.cell h.2.2.2.2.1 A,y.cell h.2.2.2.2.2.1 A,y.cell h.2.2.2.2.2.2.1 A,y.cell h.2.2.2.2.2.2.2.1 A,y.cell h.2.2.2.2.2.2.2.2 A⟩
theorem Fz{w:World}{g:Nat}{t:TypeId}{o a1 a2:Value}(h:w.heap[g]? =some (.cells #[o,a1,a2] t)):w.cell? ⟨g,0,none⟩=some o/\w.cell? ⟨g,1,none⟩=some a1/\w.cell? ⟨g,2,none⟩=some a2/\w.frozen? ⟨g,0,none⟩=false/\w.frozen? ⟨g,1,none⟩=false/\w.frozen? ⟨g,2,none⟩=false:=by
 refine⟨?_,?_,?_,?_,?_,?_⟩<;>simp[World.cell?,World.frozen?,h]
theorem Gk{w:World}{g:Nat}{o:Array Value}{t:TypeId}(h:zH w g (.cells o t))(i:Nat)(u:Value)(r:o[i]? =some u):zC w g i u:=(Qj h i u r).1
theorem Wz{W:World}{R:Nat}{t:TypeId}{o a1 a2 v0 v1 v2:Value}(h:zH W R (.cells #[o,a1,a2] t)):(((W.setCell ⟨R,0,none⟩ v0).setCell ⟨R,1,none⟩ v1).setCell ⟨R,2,none⟩ v2).heap[R]? =some (.cells #[v0,v1,v2] t):=by
 have r:(W.setCell ⟨R,0,none⟩ v0).heap[R]? =some (.cells #[v0,a1,a2] t):=Qk h 0 v0;have y:((W.setCell ⟨R,0,none⟩ v0).setCell ⟨R,1,none⟩ v1).heap[R]? =some (.cells #[v0,v1,a2] t):=Qk r 1 v1;exact Qk y 2 v2
theorem Wj{A W:World}{R B:Nat}{v0 v1 v2:Value}(h:Below B A W)(o:B<=R):Below B A (((W.setCell ⟨R,0,none⟩ v0).setCell ⟨R,1,none⟩ v1).setCell ⟨R,2,none⟩ v2):=((h.setCell (p:=⟨R,0,none⟩) o v0).setCell (p:=⟨R,1,none⟩) o v1).setCell (p:=⟨R,2,none⟩) o v2
theorem Tryz.infoStrC:(Tryz.prog.info? 9).map (fun i=>(i.zero,i.size,i.bytes))=some (some (zT {data:=#[]}),1,16):=by kernel_rfl
theorem y4k(w:World):(Instr.makeMap 114 none).run prog w=.ok (.map (some w.heap.size)) (w.alloc (.map #[] 0)):=by kernel_rfl
def MaQ(ix:zA->Int)(rs:List Rr)(Er:Prop)(w:World)(e:Ending)(w':World):Prop:=
 zB w w'/\((Er/\∃tt uu,e=.returned (.tuple #[.agg #[.slice none 0 0,.slice none 0 0,.slice none 0 0],.iface tt uu]))∨(¬Er/\200<(mkG ix rs []).2.length/\e=.returned (.tuple #[.agg #[.slice none 0 0,.slice none 0 0,.slice none 0 0],.iface 34 (zI 2)]))∨
  (¬Er/\(mkG ix rs []).2.length<=200/\∃(Q:Nat->Prop) (v vn vr:Value) (xs:List Value) (B:Nat),e=.returned (.tuple #[.agg #[v,vn,vr],.nilIface])/\w.heap.size<=B/\w'.ownsRow B 65 7 v (mkG ix rs []).2.length xs/\Av w' Q (mkG ix rs []).2 xs/\(∀g,Q g->g<w'.heap.size)/\w'.ownsRow B 9 1 vn rs.length (nS rs)/\w'.ownsRow B 3 1 vr rs.length (nI (mkG ix rs []).1)))
theorem Gj.fin{ix:zA->Int}{rs:List Rr}{gv:Value}{D:World}{j:Nat}{Q:Nat->Prop}{xs:List Value}{E nso rso:Option Addr}{r G U V:Nat}{w wr:World}{Er:Prop}(h:Gj ix rs gv D j j Q (.slice E r G) xs (.slice nso j U) (.slice rso j V) wr)(Z:zB w D)(hE:¬Er)(hj:j=rs.length)(hm:r=(mkG ix (rs.take j) []).2.length)(h2:¬200<r)(lw:w.heap.size+1<D.heap.size):
  MaQ ix rs Er w (.returned (.tuple #[.agg #[.slice E r G,.slice nso j U,.slice rso j V],.nilIface])) (((wr.setCell ⟨w.heap.size+1,0,none⟩ (.slice E r G)).setCell ⟨w.heap.size+1,1,none⟩ (.slice nso j U)).setCell ⟨w.heap.size+1,2,none⟩ (.slice rso j V)):=by
 obtain⟨Wf,y⟩:∃Wf,Wf=((wr.setCell ⟨w.heap.size+1,0,none⟩ (.slice E r G)).setCell ⟨w.heap.size+1,1,none⟩ (.slice nso j U)).setCell ⟨w.heap.size+1,2,none⟩ (.slice rso j V):=⟨_,rfl⟩;have Y:∀g,g≠w.heap.size+1->Wf.heap[g]? =wr.heap[g]? :=fun g o=>by rw[y];exact(Below.heap_setCell _ _ _ _ o).trans ((Below.heap_setCell _ _ _ _ o).trans (Below.heap_setCell _ _ _ _ o))
 have hS:Wf.heap.size=wr.heap.size:=by rw[y,World.size_setCell,World.size_setCell,World.size_setCell]
 have hB:zB w Wf:=by rw[y];exact Wj (Z.trans (h.be.mono Z.size)) (by omega)
 rw[<-y];clear y;have ac:rs.take j=rs:=List.take_of_length_le (by omega);have A:=h.hmk;have aa:=h.on;have ab:=h.or;rw[ac]at A aa ab hm;have ho:=Xp (W':=Wf) A.ho fun g e=>Y g (by have:=(A.ho.lt g e).1;omega)
 refine⟨hB,.inr (.inr ⟨hE,by omega,Q,_,_,_,xs,D.heap.size+2,rfl,by have:=Z.size;omega,?_,A.hops.keep fun g o=>⟨o,Y g (by have:=h.qb g o;omega)⟩,fun g o=>by rw[hS];exact(A.hq g o).1,?_,?_⟩)⟩
 ·exact ho
 ·rw[<-hj]
  exact Xp aa fun g e=>Y g (by have:=(aa.lt g e).1;omega)
 ·rw[<-hj]
  exact Xp ab fun g e=>Y g (by have:=(ab.lt g e).1;omega)
theorem y4l(so:Option Addr)(n ab:Nat)(rs:List Rr)(Er:Prop)(w:World)(HR:Hid (Qg w w.heap.size so n rs))(HN:Hid (n=rs.length))(HP:Hid (Xm w))
  (aO:Hid (∀W:World,zB w W->Calls prog 44 #[.agg #[.slice so n ab]] W fun e w'=>((Er/\∃tt uu,e=.returned (.iface tt uu))∨(¬Er/\e=.returned .nilIface))/\zB W w'))
  (HK:Hid (¬Er->n<=1048576/\(∀x∈rs,TrK x.2.1/\x.1.size<=1073741824)/\ndG rs<=1048576)):
  Calls prog 19 #[.agg #[.slice so n ab]] w (MaQ (fun T=>fdI T (nmL rs)) rs Er w):=by
 obtain⟨ix,aC⟩:∃ix:zA->Int,ix=fun T=>fdI T (nmL rs):=⟨_,rfl⟩
 rw[<-aC];have bx:=hid aC;clear aC;obtain⟨aw,e0,e1⟩:=Dj w (.cells #[.slice so n ab] 51) (.cells #[.slice none 0 0,.slice none 0 0,.slice none 0 0] 26);obtain⟨W1,aD⟩:∃W1,W1=(w.alloc (.cells #[.slice so n ab] 51)).alloc (.cells #[.slice none 0 0,.slice none 0 0,.slice none 0 0] 26):=⟨_,rfl⟩;rw[<-aD]at aw e0 e1;have aP:=hid (aO.out W1 aw);have aQ:=hid aw;have E0:=hid e0;have E1:=hid e1;have aR:=hid aD;have m0:=(Qy e0).1;have l0:=Qq e0;have cf:=y4k;clear aw e0 e1 aD;go_enter func19,ntmps19
 go_wp2_with fail
 rw[<-aR.out];clear aR;refine aP.out.mono ?_;rintro e r ⟨hE,ax⟩;have ag:=hid (aQ.out.trans (ax.mono aQ.out.size));have F0:=hid ((ax.block _ (Qq E0.out)).trans E0.out);have F1:=hid ((ax.block _ (Qq E1.out)).trans E1.out);clear m0 l0 aP aO E0 E1 ax;have m0:=(Qy F0.out).1;have l0:=Qq F0.out;obtain⟨z0,z1,z2,f0,f1,f2⟩:=Fz F1.out;have l1:=Qq F1.out;rcases hE with⟨al,tt,uu,rfl⟩|⟨al,rfl⟩
 ·go_wp2_with fail
  have hP:=Wz (v0:=.slice none 0 0) (v1:=.slice none 0 0) (v2:=.slice none 0 0) F1.out;obtain⟨r0,r1,r2,_⟩:=Fz hP;exact bodyPost_ret (v:=.tuple #[.agg #[.slice none 0 0,.slice none 0 0,.slice none 0 0],.iface tt uu]) (by simp[results,Tryz.results19,go_sem,r0,r1,r2]) rfl ⟨Wj ag.out (by omega),.inl ⟨al,tt,uu,rfl⟩⟩
 ·obtain⟨hn,aS,aT⟩:=HK.out al
  have bz:=hid aS;have aU:=hid al;obtain⟨aE,e2,e3⟩:=Dj r (.map #[] 0) (.cells #[.slice so n ab,.slice none 0 0,.slice none 0 0,.slice none 0 0,.map (some r.heap.size)] 116);obtain⟨W4,am⟩:∃W4,W4=(r.alloc (.map #[] 0)).alloc (.cells #[.slice so n ab,.slice none 0 0,.slice none 0 0,.slice none 0 0,.map (some r.heap.size)] 116):=⟨_,rfl⟩;have bA:W4.heap.size=r.heap.size+2:=by rw[am,World.size_alloc,World.size_alloc]
  have aV:Pk W4 r.heap.size []:=by rw[am];exact(Pk.made r).same (Below.heap_alloc _ _ _ (by simp))
  rw[<-am]at aE e2 e3;have aW:Hid (Gj ix rs (.slice so n ab) r 0 0 (fun _=>False) (.slice none 0 0) [] (.slice none 0 0) (.slice none 0 0) W4):=hid ⟨aE,⟨e3,by rw[List.take_zero,mkG];exact World.ownsRow_nil _ _ _ _,fun i hi=>by rw[List.take_zero,mkG]at hi;simp at hi,by rw[List.take_zero,mkG];exact aV,fun g hg=>hg.elim,by omega,by omega,by omega⟩,by rw[List.take_zero];exact World.ownsRow_nil _ _ _ _,by rw[List.take_zero,mkG];exact World.ownsRow_nil _ _ _ _,fun g hg=>(by cases hg),fun g hg=>(by cases hg),fun g hg=>hg.elim⟩;have aX:=hid am;have aY:Hid (Qg r r.heap.size so n rs):=hid ((HR.out.below ag.out).upto ag.out.size);have bC:Hid (Xm r):=hid (HP.out.below ag.out);have aZ:=hid aT;clear aS al aT aE e2 e3 am bA aV HK HR HP z0 z1 z2 f0 f1 f2 l1
  go_wp2_with fail
  rw[<-aX.out];clear aX m0 l0;obtain⟨iT,bD,bE,bF,bG⟩:=info_parts Tryz.infoInt;obtain⟨iS,bH,bI,bJ,bK⟩:=info_parts Tryz.infoStrC
  go_loopw [21] (fun i wr=>∃(j:Nat) (Q:Nat->Prop) (v:Value) (xs:List Value) (vn vr:Value),i=zI (j:Int)/\j<=n/\Hid (Gj ix rs (.slice so n ab) r j j Q v xs vn vr wr)) (fun i _=>n-(intOf i).toNat)
  case atStart=>exact⟨0,_,_,_,_,_,rfl,Nat.zero_le _,aW⟩
  case round=>
   obtain⟨j,Q,v,xs,vn,vr,rfl,hj,U⟩:=hrel;clear aW;obtain⟨nso,ac,rfl⟩:=Ux U.out.on;obtain⟨rso,G,rfl⟩:=Ux U.out.or;by_cases hjn:j<n
   ·have cg:(j:Int)<(n:Int):=by omega
    have a0:decide ((j:Int)<(n:Int))=true:=by simp;omega
    have ao:j<rs.length:=by rw[<-HN.out];exact hjn
    obtain⟨g,o,rfl,hg,k1,T1,a1,Y,c1,d1,ad,n1,ae,p1,rt,z0,z1,z2,z3,z4,z5,z6,z7,z8,z9⟩:=aY.out.2.2 j ao;have Z:∀{i:Nat} {u:Value},zC r g i u->zC wr g i u:=fun{i u} h=>(U.out.be.cell (p:=⟨g,i,none⟩) hg).trans h
    replace z0:=Z z0;replace z1:=Z z1;replace z2:=Z z2;replace z3:=Z z3;replace z4:=Z z4;replace z5:=Z z5;replace z6:=Z z6;replace z7:=Z z7;replace z8:=Z z8;replace z9:=Z z9;have aF:=bz.out rs[j] (List.getElem_mem ao);obtain⟨N0,ay⟩:∃N0,N0=rs[j].1:=⟨_,rfl⟩;obtain⟨q1,a2⟩:∃q1,q1=rs[j].2.2:=⟨_,rfl⟩;rw[<-ay]at z0;rw[<-a2]at z9;have bL:=hid (fun W:World=>Dd N0 W (by rw[ay];exact Nat.le_trans aF.2 (by decide)));have a3:zB wr (wr.alloc (.cells #[zT N0,zI k1,zT T1,zU a1,zU Y,zU c1,zU d1,.slice ad n1 ae,zI p1,zI q1] 121)):=(Below.refl _ wr).alloc L0q _;obtain⟨Wd,ah⟩:∃Wd,Wd=(wr.alloc (.cells #[zT N0,zI k1,zT T1,zU a1,zU Y,zU c1,zU d1,.slice ad n1 ae,zI p1,zI q1] 121)).drew:=⟨_,rfl⟩;have a4:zB wr Wd:=by rw[ah];exact a3.drew
    have a5:Wd.heap.size=wr.heap.size+1:=by rw[ah];exact World.size_alloc _ _
    have aG:Wd.heap[wr.heap.size]? =some (.cells #[zT N0,zI k1,zT T1,zU a1,zU Y,zU c1,zU d1,.slice ad n1 ae,zI p1,zI q1] 121):=by rw[ah];exact Qx wr _ rfl
    have az:=hid (U.out.below a4);have ch:r.heap.size+1<wr.heap.size:=Qq U.out.hmk.hm;have aA:∀g,Value.ownBlock (.slice nso j ac)=some g->r.heap.size+2<=g/\g<wr.heap.size:=U.out.on.lt;have a6:∀g,Value.ownBlock (.slice rso j G)=some g->r.heap.size+2<=g/\g<wr.heap.size:=U.out.or.lt;have bM:Hid (∀D:World,zB Wd D->D.ownsRow (r.heap.size+2) 9 1 (.slice nso j ac) j (nS (rs.take j))):=hid fun D h3=>(az.out.below h3).on
    have bN:Hid (∀D:World,zB Wd D->r.heap.size+2<=(D.alloc (.cells #[zT N0] 9)).heap.size):=hid fun D h3=>by have:=h3.size;rw[World.size_alloc];omega
    have bO:Hid (∀D:World,zB Wd D->r.heap.size+1<(D.alloc (.cells #[zT N0] 9)).heap.size):=hid fun D h3=>by have:=h3.size;rw[World.size_alloc];omega
    have bP:Hid (∀D:World,zB Wd D->r.heap.size+1<D.heap.size):=hid fun D h3=>by have:=h3.size;omega
    have bQ:Hid (r.heap.size+1<Wd.heap.size):=hid (by omega);have a7:Hid (some (r.heap.size+1)≠Value.ownBlock (.slice nso j ac)):=hid fun e=>by have:=aA _ e.symm;omega
    have a8:Hid (some wr.heap.size≠Value.ownBlock (.slice nso j ac)):=hid fun e=>by have:=aA _ e.symm;omega
    have a9:=hid az.out.hmk.hm;have ba:j+1<=maxLen:=by unfold maxLen;omega
    have bR:(j+1)*16<=140737488355328:=by omega
    have bS:(j+1)*8<=140737488355328:=by omega
    have bb:Hid ((fun X:World=>zC X (r.heap.size+1) 2 (.slice nso j ac)/\zC X wr.heap.size 0 (zT N0)) (wr.alloc (.cells #[zT N0,zI k1,zT T1,zU a1,zU Y,zU c1,zU d1,.slice ad n1 ae,zI p1,zI q1] 121)).drew):=by
     rw[<-ah];exact⟨(Ug a9.out).1.2.2.1,Gk aG 0 _ rfl⟩
    have bc:=hid ah;have bd:=hid aG;have aB:=hid a5;have bT:=hid ay;have bU:=hid rt;have bV:=hid aF.1;have aH:=hid a6;have ci:=hid aA;clear Z ay a2 a3 ah a4 aG a5 aF rt aA a6
    go_wp2_with fail
    clear z0 z1 z2 z3 z4 z5 z6 z7 z8 z9;refine Qc 14 (fun X:World=>zC X (r.heap.size+1) 2 (.slice nso j ac)/\zC X wr.heap.size 0 (zT N0)) (by kernel_rfl) bb.out (fun y=> ?_);rw[<-bc.out]at y ⊢;refine Qz 0 y ?_;refine Qz 1 y ?_;refine Qz 2 y ?_;refine Qz 3 y ?_;refine Qz 4 y ?_;refine Qz 5 y ?_;refine Qz 6 y ?_;refine Qz 7 y ?_
    (refine Qv 8 (fun K A=> ?_);go_simp;refine(bL.out Wd).mono ?_;rintro e D ⟨rfl,bf⟩;have aa:=hid bf;clear bf;go_simp;replace y:=Iy y aa.out;refine A.out _ _ y ?_;clear A K)
    (try simp only[Act.put,zY])
    (refine Qv 9 (fun K A=> ?_);go_simp;replace y:=Iy y ((Below.refl _ D).alloc L0q (.cells #[zT N0] 9));refine A.out _ _ y ?_;clear A K)
    (try simp only[Act.put,zY])
    (refine Qv 10 (fun K A=> ?_);refine step_append_lies _ rfl (.tmp 30) (.tmp 34) 23 rfl (r.heap.size+2) 9 iS (zT {data:=#[]}) 1 16 Tryz.underlying23 bH bI bJ bK rfl (by decide) (.slice nso j ac) j (nS (rs.take j)) (by rfl) ((bM.out D aa.out).alloc _) ⟨D.heap.size,0,none⟩ 1 1 [zT N0] (by rfl) rfl (Ak _ _ _) (by simp[Value.oneCell']) (by decide) ba bR (bN.out D aa.out) (D.heap.size+1) (World.size_alloc _ _) ?_;intro g6 ap w6 bg aI bh cj;replace y:=y4h y a7.out a8.out aI;have bi:=hid bg;have aq:=hid aI;have bj:=hid bh;clear bg aI bh;refine A.out _ _ y ?_;clear A K)
    (try simp only[Act.put,zY])
    (refine Qv 11 (fun K A=> ?_);go_simp;refine A.out _ _ y ?_;clear A K)
    (try simp only[Act.put,zY])
    (refine Qv 12 (fun K A=> ?_);go_simp;refine A.out _ _ y ?_;clear A K)
    (try simp only[Act.put,zY])
    refine Qz 13 y ?_;refine Yj (fun K A=> ?_);have aJ:=hid ((aq.out.block _ (bO.out D aa.out) a7.out).trans ((Below.heap_alloc _ _ _ (bP.out D aa.out)).trans ((aa.out.block _ bQ.out).trans a9.out)));obtain⟨⟨s0,s1,s2,s3,s4⟩,f0,f1,f2,f3,f4⟩:=Ug aJ.out;have ls:=Qq aJ.out;clear y
    go_simp
    refine A.out _ _ ?_;clear A K s0 s1 s2 s3 s4 f0 f1 f2 f3 f4 ls
    go_wp2_with fail
    obtain⟨W7,ar⟩:∃W7,W7=w6.setCell ⟨r.heap.size+1,2,none⟩ (zS g6 (j+1) ap):=⟨_,rfl⟩;have bW:Hid (Gj ix rs _ r (j+1) j Q v xs (zS g6 (j+1) ap) (.slice rso j G) W7):=hid (by rw[ar];exact(az.out.below aa.out).names ao (by rw[<-bT.out];exact bi.out) aq.out bj.out);have bX:=aa.out.size;have bY:D.heap.size+1<=w6.heap.size:=by have:=aq.out.size;rw[World.size_alloc]at this;exact this
    have bk:W7.heap[wr.heap.size]? =some (.cells #[zT N0,zI k1,zT T1,zU a1,zU Y,zU c1,zU d1,.slice ad n1 ae,zI p1,zI q1] 121):=by
     rw[ar];refine(Below.heap_setCell _ _ _ _ (show wr.heap.size≠r.heap.size+1 by omega)).trans ((aq.out.block _ (by have:=aB.out;rw[World.size_alloc];omega) a8.out).trans ((Below.heap_alloc _ _ _ (by have:=aB.out;omega)).trans ((aa.out.block _ (by have:=aB.out;omega)).trans bd.out)))
    rw[<-ar];obtain⟨V,ai⟩:∃V,V=W7.drew:=⟨_,rfl⟩;have aj:Hid (Gj ix rs _ r (j+1) j Q v xs (zS g6 (j+1) ap) (.slice rso j G) V):=hid (by rw[ai];exact bW.out.below (Below.refl _ W7).drew);have ck:wr.heap.size+2<=V.heap.size:=by rw[ai];show _<=W7.heap.size;rw[ar,World.size_setCell];have:=aB.out;omega
    have aK:=y4f rs j ao;have au:=(Vv ix (rs.take j) []).1;have bZ:Hid (Calls prog 46 #[zP (r.heap.size+1) 0,.agg #[zI k1,zT T1,zU a1,zU Y,zU c1,zU d1,.slice ad n1 ae,zI p1]] V (PlP ix rs[j].2.1 Q (r.heap.size+2) (r.heap.size+1) r.heap.size _ (zS g6 (j+1) ap) (.slice rso j G) (mkG ix (rs.take j) []).2 v V)):=hid (by
     have h9:=z4O (B:=r.heap.size+2) (mB:=r.heap.size+1) (mp:=r.heap.size) (gcap:=ab) (vn:=zS g6 (j+1) ap) (vr:=.slice rso j G) aY.out (by have:=HN.out;omega) bC.out (Nat.le_succ _) L0q _ rs[j].2.1 _ (Nat.lt_succ_self _) bU.out bV.out V Q (mkG ix (rs.take j) []).2 v xs aj.out.be (by omega) aj.out.hmk (by have:=aZ.out;simp only[List.length_nil]at au;omega);rw[<-bx.out]at h9;exact h9)
    have b2:Hid (wr.heap.size≠r.heap.size+1/\wr.heap.size≠r.heap.size/\v.ownBlock≠some wr.heap.size):=hid ⟨by omega,by omega,fun e=>by have:=(U.out.hmk.ho.lt _ e).2;omega⟩;have b3:Hid (∀(E:World) (v2:Value),Frm (r.heap.size+1) r.heap.size V v E v2->E.ownsRow (r.heap.size+2) 3 1 (.slice rso j G) j (nI (mkG ix (rs.take j) []).1)):=hid fun E v2 h=>Xp aj.out.or fun g e=>by
     have h1:=aH.out g e;exact h.block g (by omega) (by omega) (by omega) (aj.out.d2 g e).2
    have b4:Hid (∀(E:World) (v2:Value),Frm (r.heap.size+1) r.heap.size V v E v2->r.heap.size+2<=(E.alloc (.cells #[(zI ((mkT ix rs[j].2.1 (mkG ix (rs.take j) []).2).1:Nat))] 3)).heap.size):=hid fun E v2 h=>by have:=h.size;rw[World.size_alloc];omega
    have b5:Hid (∀(E:World) (v2:Value),Frm (r.heap.size+1) r.heap.size V v E v2->r.heap.size+1<(E.alloc (.cells #[(zI ((mkT ix rs[j].2.1 (mkG ix (rs.take j) []).2).1:Nat))] 3)).heap.size):=hid fun E v2 h=>by have:=h.size;rw[World.size_alloc];omega
    have b6:Hid (∀(E:World) (v2:Value),Frm (r.heap.size+1) r.heap.size V v E v2->r.heap.size+1<E.heap.size):=hid fun E v2 h=>by have:=h.size;omega
    have bl:Hid (some (r.heap.size+1)≠Value.ownBlock (.slice rso j G)):=hid fun e=>by have:=aH.out _ e.symm;omega
    have b7:Hid (some wr.heap.size≠Value.ownBlock (.slice rso j G)):=hid fun e=>by have:=aH.out _ e.symm;omega
    have b8:Hid ((fun X:World=>zC X (r.heap.size+1) 3 (.slice rso j G)/\zC X wr.heap.size 1 (zI k1)/\zC X wr.heap.size 2 (zT T1)/\zC X wr.heap.size 3 (zU a1)/\zC X wr.heap.size 4 (zU Y)/\zC X wr.heap.size 5 (zU c1)/\zC X wr.heap.size 6 (zU d1)/\zC X wr.heap.size 7 (.slice ad n1 ae)/\zC X wr.heap.size 8 (zI p1)) W7.drew):=by
     rw[<-ai];have af:V.heap[wr.heap.size]? =some (.cells #[zT N0,zI k1,zT T1,zU a1,zU Y,zU c1,zU d1,.slice ad n1 ae,zI p1,zI q1] 121):=by rw[ai];exact bk
     exact⟨(Ug aj.out.hmk.hm).1.2.2.2.1,Gk af 1 _ rfl,Gk af 2 _ rfl,Gk af 3 _ rfl,Gk af 4 _ rfl,Gk af 5 _ rfl,Gk af 6 _ rfl,Gk af 7 _ rfl,Gk af 8 _ rfl⟩
    have b9:=hid ai;clear bk ar ai bX bY bi aq bj aa aJ bb bc bd az aK au;refine Qc 15 (fun X:World=>zC X (r.heap.size+1) 3 (.slice rso j G)/\zC X wr.heap.size 1 (zI k1)/\zC X wr.heap.size 2 (zT T1)/\zC X wr.heap.size 3 (zU a1)/\zC X wr.heap.size 4 (zU Y)/\zC X wr.heap.size 5 (zU c1)/\zC X wr.heap.size 6 (zU d1)/\zC X wr.heap.size 7 (.slice ad n1 ae)/\zC X wr.heap.size 8 (zI p1)) (by kernel_rfl) b8.out (fun y=> ?_);rw[<-b9.out]at y ⊢;refine Qz 0 y ?_;refine Qz 1 y ?_;refine Qz 2 y ?_;refine Qz 3 y ?_;refine Qz 4 y ?_;refine Qz 5 y ?_;refine Qz 6 y ?_;refine Qz 7 y ?_;refine Qz 8 y ?_
    (refine Qv 9 (fun K A=> ?_);go_simp;refine bZ.out.mono ?_;rintro e E ⟨Q2,v2,cl,rfl,bm,bn,bo⟩;have aL:=hid bm;have ca:=hid bn;have ak:=hid bo;clear bm bn bo;go_simp;replace y:=y4i y ak.out aL.out b2.out;refine A.out _ _ y ?_;clear A K)
    (try simp only[Act.put,zY])
    (refine Qv 10 (fun K A=> ?_);go_simp;replace y:=z4L y ((Below.refl _ E).alloc L0q (.cells #[(zI ((mkT ix rs[j].2.1 (mkG ix (rs.take j) []).2).1:Nat))] 3));refine A.out _ _ y ?_;clear A K)
    (try simp only[Act.put,zY])
    (refine Qv 11 (fun K A=> ?_);refine step_append_lies _ rfl (.tmp 44) (.tmp 49) 24 rfl (r.heap.size+2) 3 iT (zI 0) 1 8 Tryz.underlying24 bD bE bF bG rfl (by decide) (.slice rso j G) j (nI (mkG ix (rs.take j) []).1) (by rfl) ((b3.out E v2 ak.out).alloc _) ⟨E.heap.size,0,none⟩ 1 1 [(zI ((mkT ix rs[j].2.1 (mkG ix (rs.take j) []).2).1:Nat))] (by rfl) rfl (Ak _ _ _) (by simp[Value.oneCell']) (by decide) ba bS (b4.out E v2 ak.out) (E.heap.size+1) (World.size_alloc _ _) ?_;intro g9 cm w9 bp aM bq cn;replace y:=y4j y bl.out b7.out aM;have cb:=hid bp;have br:=hid aM;have cc:=hid bq;clear bp aM bq;refine A.out _ _ y ?_;clear A K)
    (try simp only[Act.put,zY])
    (refine Qv 12 (fun K A=> ?_);go_simp;refine A.out _ _ y ?_;clear A K)
    (try simp only[Act.put,zY])
    (refine Qv 13 (fun K A=> ?_);go_simp;refine A.out _ _ y ?_;clear A K)
    (try simp only[Act.put,zY])
    refine Qz 14 y ?_;refine Yj (fun K A=> ?_);have bs:=hid ((br.out.block _ (b5.out E v2 ak.out) bl.out).trans ((Below.heap_alloc _ _ _ (b6.out E v2 ak.out)).trans aL.out.hm));obtain⟨⟨s0,s1,s2,s3,s4⟩,f0,f1,f2,f3,f4⟩:=Ug bs.out;have ls:=Qq bs.out;clear y
    go_simp
    refine A.out _ _ ?_;clear A K s0 s1 s2 s3 s4 f0 f1 f2 f3 f4 ls
    go_wp2_with fail
    refine⟨⟨j+1,_,_,_,_,_,by go_num,by omega,hid (aj.out.roots ao aL.out ca.out ak.out cb.out br.out cc.out)⟩,by simp[intOf];omega⟩
   ·have a0:decide ((j:Int)<(n:Int))=false:=by simp;omega
    have bt:Hid (j=n):=hid (by omega);obtain⟨bu,bv,rfl⟩:=Ux U.out.hmk.ho;obtain⟨mO,aN⟩:∃mO,mO=(mkG ix (rs.take j) []).2.length:=⟨_,rfl⟩;have au:=(Vv ix (rs.take j) []).1;have aK:ndG (rs.take j)<=ndG rs:=by
     have h:ndG rs=ndG (rs.take j)+ndG (rs.drop j):=by rw[<-Tl,List.take_append_drop]
     omega
    have co:mO<=1048576:=by have:=aZ.out;simp only[List.length_nil]at au;omega
    have av:=hid U.out;rw[<-aN]at av;obtain⟨⟨x0,x1,x2,x3,x4⟩,_⟩:=Ug av.out.hmk.hm;have lm:=Qq av.out.hmk.hm;have F2:=hid ((U.out.be.block _ (Qq F1.out)).trans F1.out);obtain⟨z0,z1,z2,f0,f1,f2⟩:=Fz F2.out;have lz:=Qq F2.out;have bw:=hid aN;have lw:w.heap.size+1<r.heap.size:=Qq F1.out;clear aN au aK U;by_cases h2:200<mO
    ·have b0:decide ((200:Int)<(mO:Int))=true:=by simp;omega
     have Y:(200:Int)<(mO:Int):=by omega
     go_wp2_with fail
     have hP:=Wz (v0:=.slice none 0 0) (v1:=.slice none 0 0) (v2:=.slice none 0 0) F2.out;obtain⟨r0,r1,r2,_⟩:=Fz hP;have cd:rs.take j=rs:=List.take_of_length_le (by have:=HN.out;have:=bt.out;omega);have ce:zB w wr:=ag.out.trans (av.out.be.mono ag.out.size);refine bodyPost_ret (v:=.tuple #[.agg #[.slice none 0 0,.slice none 0 0,.slice none 0 0],.iface 34 (zI 2)]) (by simp[results,Tryz.results19,go_sem,r0,r1,r2]) rfl ⟨Wj ce (by omega),.inr (.inl ⟨aU.out,?_,rfl⟩)⟩;have:=bw.out;rw[cd]at this;omega
    ·have b0:decide ((200:Int)<(mO:Int))=false:=by simp;omega
     have Y:¬(200:Int)<(mO:Int):=by omega
     go_wp2_with fail
     have hP:=Wz (v0:=.slice bu mO bv) (v1:=.slice nso j ac) (v2:=.slice rso j G) F2.out;obtain⟨r0,r1,r2,_⟩:=Fz hP;refine bodyPost_ret (v:=.tuple #[.agg #[.slice bu mO bv,.slice nso j ac,.slice rso j G],.nilIface]) (by simp[results,Tryz.results19,go_sem,r0,r1,r2]) rfl ?_;exact av.out.fin ag.out aU.out (by have:=HN.out;have:=bt.out;omega) bw.out h2 lw
end Go.Proofs.YtmelafeingcgnaaGreatDoor
