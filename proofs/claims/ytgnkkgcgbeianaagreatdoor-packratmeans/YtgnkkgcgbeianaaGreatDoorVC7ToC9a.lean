/- Lemmas for the last text. Conditions: those that each names. -/
import Derived.Test.YtgnkkgcgbeianaaGreatDoorVC5ToC6
import Derived.Test.YtgnkkgcgbeianaaGreatDoorVS9ToO20
set_option linter.unusedVariables false
set_option maxRecDepth 100000
set_option maxHeartbeats 16000000
namespace Go.Proofs.YtgnkkgcgbeianaaGreatDoor
open Go.Proofs.Tryz
open Go.RowKit Go.Shelf Go.Maps
theorem z4t{W W':World}{o a1 a2 a3 a4 r t y A:Addr}{v0 v1 v2 v3 v4 v5 v6 v7 v8:Value}(h:W.cell? o=some v0/\W.cell? a1=some v1/\W.cell? a2=some v2/\W.cell? a3=some v3/\W.cell? a4=some v4/\W.cell? r=some v5/\W.cell? t=some v6/\W.cell? y=some v7/\W.cell? A=some v8)(D:zB W W'):W'.cell? o=some v0/\W'.cell? a1=some v1/\W'.cell? a2=some v2/\W'.cell? a3=some v3/\W'.cell? a4=some v4/\W'.cell? r=some v5/\W'.cell? t=some v6/\W'.cell? y=some v7/\W'.cell? A=some v8:=by
 obtain⟨E,G,I,U,V,Y,Z,z7,z8⟩:=h;have e:∀{a:Addr} {u:Value},W.cell? a=some u->W'.cell? a=some u:=fun{a u} h=>(D.cell (p:=a) (World.block_lt_of_cell? W _ h)).trans h
 exact⟨e E,e G,e I,e U,e V,e Y,e Z,e z7,e z8⟩
theorem y3B{W W':World}{mB mp o r:Nat}{u E v0 v1 v2 v3 v4 v5 v6 v7 v8:Value}(h:zC W o 6 v0/\zC W r 0 v1/\zC W r 1 v2/\zC W r 2 v3/\zC W r 3 v4/\zC W r 4 v5/\zC W r 5 v6/\zC W r 6 v7/\zC W r 7 v8)(D:Frm mB mp W u W' E)(y:o≠mB/\o≠mp/\u.ownBlock≠some o)(A:r≠mB/\r≠mp/\u.ownBlock≠some r):zC W' o 6 v0/\zC W' r 0 v1/\zC W' r 1 v2/\zC W' r 2 v3/\zC W' r 3 v4/\zC W' r 4 v5/\zC W' r 5 v6/\zC W' r 6 v7/\zC W' r 7 v8:=by
 have G:W'.heap[o]? =W.heap[o]? :=D.block o (World.block_lt_of_cell? W _ h.1) y.1 y.2.1 y.2.2;have t:W'.heap[r]? =W.heap[r]? :=D.block r (World.block_lt_of_cell? W _ h.2.1) A.1 A.2.1 A.2.2;exact⟨(World.cell?_of_block (a:=⟨o,6,none⟩) G).trans h.1,(World.cell?_of_block (a:=⟨r,0,none⟩) t).trans h.2.1,(World.cell?_of_block (a:=⟨r,1,none⟩) t).trans h.2.2.1,(World.cell?_of_block (a:=⟨r,2,none⟩) t).trans h.2.2.2.1,(World.cell?_of_block (a:=⟨r,3,none⟩) t).trans h.2.2.2.2.1,(World.cell?_of_block (a:=⟨r,4,none⟩) t).trans h.2.2.2.2.2.1,(World.cell?_of_block (a:=⟨r,5,none⟩) t).trans h.2.2.2.2.2.2.1,(World.cell?_of_block (a:=⟨r,6,none⟩) t).trans h.2.2.2.2.2.2.2.1,(World.cell?_of_block (a:=⟨r,7,none⟩) t).trans h.2.2.2.2.2.2.2.2⟩
theorem y3C{W W':World}{o r:Nat}{row:Option Nat}{v0 v1 v2 v3 v4 v5 v6 v7 v8:Value}(h:zC W o 6 v0/\zC W r 0 v1/\zC W r 1 v2/\zC W r 2 v3/\zC W r 3 v4/\zC W r 4 v5/\zC W r 5 v6/\zC W r 6 v7/\zC W r 7 v8)(A:some o≠row)(y:some r≠row)(t:W.grownBy W' row):zC W' o 6 v0/\zC W' r 0 v1/\zC W' r 1 v2/\zC W' r 2 v3/\zC W' r 3 v4/\zC W' r 4 v5/\zC W' r 5 v6/\zC W' r 6 v7/\zC W' r 7 v8:=
 ⟨t.cell h.1 A,t.cell h.2.1 y,t.cell h.2.2.1 y,t.cell h.2.2.2.1 y,t.cell h.2.2.2.2.1 y,t.cell h.2.2.2.2.2.1 y,t.cell h.2.2.2.2.2.2.1 y,t.cell h.2.2.2.2.2.2.2.1 y,t.cell h.2.2.2.2.2.2.2.2 y⟩
def nI(l:List Int):List Value:=l.map fun x=>zI x
theorem y3D(w:World)(A B C:Obj):zB w (((w.alloc A).alloc B).alloc C)/\(((w.alloc A).alloc B).alloc C).heap[w.heap.size]? =some A/\(((w.alloc A).alloc B).alloc C).heap[w.heap.size+1]? =some B/\(((w.alloc A).alloc B).alloc C).heap[w.heap.size+1+1]? =some C/\(((w.alloc A).alloc B).alloc C).heap.size=w.heap.size+3:=by
 obtain⟨r,t,y⟩:=Dw w A B;have o:((w.alloc A).alloc B).heap.size=w.heap.size+1+1:=by simp
 have h:Below (w.heap.size+1+1) ((w.alloc A).alloc B) (((w.alloc A).alloc B).alloc C):=B0q.alloc (Nat.le_of_eq o.symm) _;refine⟨r.trans (h.mono (by omega)),?_,?_,?_,by simp⟩
 ·rw[h.block _ (by omega)];exact t
 ·rw[h.block _ (by omega)];exact y
 ·exact Qx ((w.alloc A).alloc B) _ o.symm
theorem Frm.more{mB mp:Nat}{W o r:World}{v v1:Value}(h:Frm mB mp W v o v1)(y:r.os=o.os)(A:r.tape=o.tape)(D:r.output=o.output)(E:o.heap.size<=r.heap.size)(G:∀k,k<W.heap.size->r.heap[k]? =o.heap[k]?):Frm mB mp W v r v1:=
 ⟨y.trans h.os,A.trans h.tape,D.trans h.output,Nat.le_trans h.size E,fun k t I U V=>(G k t).trans (h.block k t I U V),h.row⟩
structure Oj (ix:zA->Int) (k:Int) (T:zA) (a b c d:Int) (nd:Array Value) (s:List RT) (Q:Nat->Prop) (B mB mp:Nat) (gv vn vr:Value) (ops:List Ox) (v:Value) (W:World) (j:Nat) (Q':Nat->Prop) (v':Value) (xs':List Value) (vs:Value) (wr:World):Prop where
 n:wr.heap[W.heap.size]? =some (.cells nd 81)
 z:wr.heap[W.heap.size+1]? =some (.cells #[zI 0,zT {data:=#[]},zU 0,zU 0,zU 0,zU 0,.slice none 0 0] 56)
 o:wr.heap[W.heap.size+1+1]? =some (.cells #[zI k,zT T,zU a,zU b,zU c,zU d,vs] 56)
 own:wr.ownsRow (W.heap.size+3) 3 1 vs j (nI (mkL ix (s.take j) ops).1)
 hmk:Mkr wr Q' B mB mp gv vn vr (mkL ix (s.take j) ops).2 v' xs'
 q:∀g,Q' g->Q g∨W.heap.size+3<=g
 row:∀g,vs.ownBlock=some g->¬Q' g/\v'.ownBlock≠some g
 vr':∀g,v'.ownBlock=some g->v.ownBlock=some g∨W.heap.size+3<=g
 fr:Frm mB mp W v wr v'
theorem z4u(a b:List Int):nI (a++b)=nI a++nI b:=List.map_append
theorem z4v(ix:zA->Int)(s:List RT)(ops:List Ox)(j:Nat)(h:j<s.length):mkL ix (s.take (j+1)) ops=((mkL ix (s.take j) ops).1++[((mkT ix s[j] (mkL ix (s.take j) ops).2).1:Int)],(mkT ix s[j] (mkL ix (s.take j) ops).2).2):=by
 rw[List.take_succ_eq_append_getElem h,z4p]
theorem Oj.step{ix:zA->Int}{k:Int}{T:zA}{a b c d:Int}{nd:Array Value}{s:List RT}{Q:Nat->Prop}{B mB mp:Nat}{gv vn vr:Value}{ops:List Ox}{v:Value}{xs:List Value}{W:World}{j:Nat}{Q':Nat->Prop}{v':Value}{ah:List Value}{E:Option Addr}{G:Nat}{wr Wd A I:World}{U:Nat->Prop}{v2:Value}{aa:List Value}{X:Obj}{V ab:Nat}(HM:Mkr W Q B mB mp gv vn vr ops v xs)(h:Oj ix k T a b c d nd s Q B mB mp gv vn vr ops v W j Q' v' ah (.slice E j G) wr)(hj:j<s.length)(af:zB wr Wd)(ao:Wd.heap.size=wr.heap.size+1)
  (ac:Mkr A U B mB mp gv vn vr (mkT ix s[j] (mkL ix (s.take j) ops).2).2 v2 aa)(ad:∀g,U g->Q' g∨Wd.heap.size<=g)(Y:Frm mB mp Wd v' A v2)(ai:I.ownsRow (W.heap.size+3) 3 1 (zS V (j+1) ab) (j+1) (nI (mkL ix (s.take j) ops).1++[(zI ((mkT ix s[j] (mkL ix (s.take j) ops).2).1:Nat))]))(Z:(A.alloc X).grownBy I (Value.ownBlock (.slice E j G)))(aj:Value.ownBlock (.slice E j G)=some V∨V=A.heap.size+1):
  Oj ix k T a b c d nd s Q B mB mp gv vn vr ops v W (j+1) U v2 aa (zS V (j+1) ab) (I.setCell ⟨W.heap.size+1+1,6,none⟩ (zS V (j+1) ab)):=by
 have hV:∀g,Value.ownBlock (.slice E j G)=some g->W.heap.size+3<=g/\g<wr.heap.size:=h.own.lt;have lo:=Qq h.o;have ap:mB<W.heap.size:=Qq HM.hm;have aq:mp<W.heap.size:=HM.hmap.lt;have ag:∀g,W.heap.size<=g->g<W.heap.size+3->v'.ownBlock≠some g:=fun g D t e=>by
  rcases h.vr' g e with r|r
  ·have:=(HM.ho.lt g r).2;omega
  ·omega
 have ha:(A.alloc X).heap.size=A.heap.size+1:=World.size_alloc _ _;have ar:=Y.size;have ak:=Z.size;have E6:∀g,g<A.heap.size->Value.ownBlock (.slice E j G)≠some g->I.heap[g]? =A.heap[g]? :=fun g D t=>(Z.block g (by omega) (fun e=>t e.symm)).trans (Below.heap_alloc _ _ _ D)
 have E3:∀g,g<wr.heap.size->g≠mB->g≠mp->v'.ownBlock≠some g->A.heap[g]? =wr.heap[g]? :=fun g D t r h4=>(Y.block g (by omega) t r h4).trans (af.block g D)
 have EV:∀g,g<W.heap.size+3->Value.ownBlock (.slice E j G)≠some g:=fun g D e=>by have:=hV g e;omega
 have E0:∀g,W.heap.size<=g->g<W.heap.size+3->I.heap[g]? =wr.heap[g]? :=fun g D t=>(E6 g (by omega) (EV g t)).trans (E3 g (by omega) (by omega) (by omega) (ag g D t))
 have ae:∀g,Value.ownBlock (.slice E j G)=some g->¬U g/\v2.ownBlock≠some g:=fun g e=>by
  have D:=hV g e;have t:=h.row g e;refine⟨fun hq=> ?_,fun hv=> ?_⟩
  ·rcases ad g hq with r|r
   ·exact t.1 r
   ·omega
  ·rcases Y.row g hv with r|r
   ·exact t.2 r
   ·omega
 have M6:Mkr I U B mB mp gv vn vr (mkT ix s[j] (mkL ix (s.take j) ops).2).2 v2 aa:=
  (ac.below ((Below.refl _ A).alloc L0q X)).kept ak (fun g=>Value.ownBlock (.slice E j G)=some g) (fun g D t=>Z.block g D (fun e=>t e.symm)) (EV mB (by omega)) (EV mp (by omega)) (fun g y e=>(ae g e).2 y) (fun g y e=>(ae g e).1 y)
 have al:¬U (W.heap.size+1+1):=fun hq=>by
  rcases ad _ hq with r|r
  ·rcases h.q _ r with h4|h4
   ·have:=(HM.hq _ h4).1;omega
   ·omega
  ·omega
 have am:∀g,v2.ownBlock=some g->g≠W.heap.size+1+1:=fun g y e=>by
  subst e;rcases Y.row _ y with r|r
  ·exact ag _ (by omega) (by omega) r
  ·omega
 refine⟨(Below.heap_setCell _ _ _ _ (show W.heap.size≠W.heap.size+1+1 by omega)).trans ((E0 _ (by omega) (by omega)).trans h.n),(Below.heap_setCell _ _ _ _ (show W.heap.size+1≠W.heap.size+1+1 by omega)).trans ((E0 _ (by omega) (by omega)).trans h.z),Qw ((E0 _ (by omega) (by omega)).trans h.o) 6 _,?_,?_,fun g y=> ?_,fun g y=> ?_,fun g y=> ?_,?_⟩
 ·rw[z4v ix s ops j hj,z4u]
  exact ownsRow_setCell_below ai (a:=⟨W.heap.size+1+1,6,none⟩) (show W.heap.size+1+1<W.heap.size+3 by omega) _
 ·rw[z4v ix s ops j hj]
  exact M6.kept (by rw[World.size_setCell];exact Nat.le_refl _) (fun g=>g=W.heap.size+1+1) (fun g _ t=>Below.heap_setCell _ _ _ _ t) (by omega) (by omega) am (fun g y e=>al (e▸y))
 ·rcases ad g y with r|r
  ·exact h.q g r
  ·exact .inr (by omega)
 ·obtain rfl:V=g:=Option.some.inj y
  rcases aj with r|r
  ·exact ae _ r
  ·exact⟨fun hq=>by have:=(ac.hq _ hq).1;omega,fun hv=>by have:=(ac.ho.lt _ hv).2;omega⟩
 ·rcases Y.row g y with r|r
  ·exact h.vr' g r
  ·exact .inr (by omega)
 ·refine((h.fr.trans (Frm.of_below af)).trans Y).more (Z.os.trans rfl) (Z.tape.trans rfl) (Z.output.trans rfl) (by rw[World.size_setCell];omega) (fun g y=> ?_)
  exact(Below.heap_setCell _ _ _ _ (show g≠W.heap.size+1+1 by omega)).trans (E6 g (by have:=h.fr.size;omega) (EV g (by omega)))
theorem Oj.fin{ix:zA->Int}{k:Int}{T:zA}{a b c d p:Int}{nd:Array Value}{s:List RT}{Q:Nat->Prop}{B mB mp:Nat}{E vn vr:Value}{ops:List Ox}{v:Value}{xs:List Value}{W:World}{j:Nat}{y:Nat->Prop}{r:Value}{U:List Value}{o:Option Addr}{t:Nat}{wr:World}(G:Mkr W Q B mB mp E vn vr ops v xs)(h:Oj ix k T a b c d nd s Q B mB mp E vn vr ops v W j y r U (.slice o j t) wr)(hj:j=s.length)(am:j<=1048576)(ac:¬k=5)(HW:∀l:List Int,SbZ l->qW (k,T,(a,b,c,d),l))(hT:T.size<=1073741824)(ad:ops.length+ndL s<=1048576):
  OnP ix (.mk k T a b c d s p) Q B mB mp E vn vr ops v W (.returned (.agg #[zI k,zT T,zU a,zU b,zU c,zU d,.slice o j t])) (((((((wr.setCell ⟨W.heap.size+1,0,none⟩ (zI k)).setCell ⟨W.heap.size+1,1,none⟩ (zT T)).setCell ⟨W.heap.size+1,2,none⟩ (zU a)).setCell ⟨W.heap.size+1,3,none⟩ (zU b)).setCell ⟨W.heap.size+1,4,none⟩ (zU c)).setCell ⟨W.heap.size+1,5,none⟩ (zU d)).setCell ⟨W.heap.size+1,6,none⟩ (.slice o j t)):=by
 obtain⟨Wf,A⟩:∃Wf,Wf=((((((wr.setCell ⟨W.heap.size+1,0,none⟩ (zI k)).setCell ⟨W.heap.size+1,1,none⟩ (zT T)).setCell ⟨W.heap.size+1,2,none⟩ (zU a)).setCell ⟨W.heap.size+1,3,none⟩ (zU b)).setCell ⟨W.heap.size+1,4,none⟩ (zU c)).setCell ⟨W.heap.size+1,5,none⟩ (zU d)).setCell ⟨W.heap.size+1,6,none⟩ (.slice o j t):=⟨_,rfl⟩;have V:∀g,g≠W.heap.size+1->Wf.heap[g]? =wr.heap[g]? :=fun g I=>by rw[A];exact z4r I
 have hS:Wf.heap.size=wr.heap.size:=by rw[A];exact z4s
 have Y:Below 0 wr Wf:=by rw[A];exact Iq (Below.refl 0 wr) (Nat.zero_le _)
 rw[<-A];clear A;have ae:s.take j=s:=List.take_of_length_le (by omega);obtain⟨l1,⟨l2,l3⟩,l4⟩:=Fw ix s ops;have af:(mkL ix s ops).1.length=j:=by rw[l2];exact hj.symm
 have aa:=h.hmk;have Z:=h.own;rw[ae]at aa Z;have ao:mB<W.heap.size:=Qq G.hm;have ap:mp<W.heap.size:=G.hmap.lt;have ag:∀g,r.ownBlock=some g->¬g=W.heap.size+1:=fun g e e2=>by
  rcases h.vr' g e with D|D
  ·have:=(G.ho.lt g D).2;omega
  ·omega
 have ah:∀g,y g->¬g=W.heap.size+1:=fun g e e2=>by
  rcases h.q g e with D|D
  ·have:=(G.hq g D).1;omega
  ·omega
 have ai:Mkr Wf y B mB mp E vn vr (mkL ix s ops).2 r U:=aa.kept (Nat.le_of_eq hS.symm) (fun g=>g=W.heap.size+1) (fun g _ h2=>V g h2) (show ¬mB=W.heap.size+1 by omega) (show ¬mp=W.heap.size+1 by omega) ag ah;have aj:Frm mB mp W v Wf r:=h.fr.more Y.os Y.tape Y.output (Nat.le_of_eq hS.symm) (fun g I=>V g (by omega));have hz:=y3z ix s ops (by omega) ad;have ak:RwC Wf (fun g=>W.heap.size<=g/\g<Wf.heap.size/\¬y g/\r.ownBlock≠some g) o (mkL ix s ops).1:=fun i hi=>by
  obtain⟨g,gc,e,aq,ar⟩:=Z.form (by omega);injection e with e _ _
  subst e;have ab:=h.row g rfl;refine⟨g,0,rfl,⟨by omega,by omega,ab.1,ab.2⟩,?_⟩;have hc:=Z.cells (g:=g) rfl i (zI (mkL ix s ops).1[i]) (by unfold nI;rw[List.getElem?_map,List.getElem?_eq_getElem hi];rfl);have al:(⟨g,0,none⟩:Addr).add i=⟨g,0+i,none⟩:=by unfold Addr.add;split<;>simp_all
  rw[al]at hc;exact(World.cell?_of_block (a:=⟨g,0+i,none⟩) (V g (by omega))).trans hc
 refine⟨(k,T,(a,b,c,d),(mkL ix s ops).1),[zI k,zT T,zU a,zU b,zU c,zU d,.slice o (mkL ix s ops).1.length t],y,r,U,(mkL ix s ops).2,?_,⟨o,t,rfl,?_,ak⟩,?_,⟨HW _ hz,hz,hT,by omega⟩,ai,fun g I=>(h.q g I).imp id (fun h=>by omega),aj⟩
 ·rw[af]
 ·show(mkL ix s ops).1.length<=_
  omega
 ·rw[mkT,if_neg ac]
theorem y3E(ix:zA->Int)(k:Int)(T:zA)(a b c d:Int)(so:Option Addr)(n ae:Nat)(p:Int)(s:List RT)(Q:Nat->Prop)(B mB mp:Nat)(gv vn vr:Value)(ops:List Ox)(v:Value)(xs:List Value)(w0 W:World)(aI:(k == 5)=false)(HN:Hid (n=s.length))(hn:n<=1048576)(aJ:w0.heap.size<=mB)(aK:w0.heap.size<=mp)(ap:Hid (zB w0 W))(be:B<=W.heap.size)
  (HM:Hid (Mkr W Q B mB mp gv vn vr ops v xs))(HW:Hid (∀l:List Int,SbZ l->qW (k,T,(a,b,c,d),l)))(hT:T.size<=1073741824)(aL:ops.length+ndL s<=1048576)
  (HC:Hid (∀j (hj:j<s.length),∃g o,so=some ⟨g,o,none⟩/\g<w0.heap.size/\∃U V a1 Y c1 Z aa n1 ab p1,Rc w0 g (o+j*8) U V a1 Y c1 Z (.slice aa n1 ab) p1/\
    ∀(W1:World) (Q1:Nat->Prop) (ai:List Ox) (v1:Value) (aM:List Value),zB w0 W1->B<=W1.heap.size->Mkr W1 Q1 B mB mp gv vn vr ai v1 aM->ai.length+ndT s[j]<=1048576->Calls prog 30 #[zP mB 0,.agg #[zI U,zT V,zU a1,zU Y,zU c1,zU Z,.slice aa n1 ab,zI p1]] W1 (PlP ix s[j] Q1 B mB mp gv vn vr ai v1 W1))):
  Calls prog 52 #[zP mB 0,.agg #[zI k,zT T,zU a,zU b,zU c,zU d,.slice so n ae,zI p]] W (OnP ix (.mk k T a b c d s p) Q B mB mp gv vn vr ops v W):=by
 obtain⟨ag,e0,e1,e2,aN⟩:=y3D W (.cells #[zI k,zT T,zU a,zU b,zU c,zU d,.slice so n ae,zI p] 81) (.cells #[zI 0,zT {data:=#[]},zU 0,zU 0,zU 0,zU 0,.slice none 0 0] 56) (.cells #[zI k,zT T,zU a,zU b,zU c,zU d,.slice none 0 0] 56);obtain⟨W1,aj⟩:∃W1,W1=((W.alloc (.cells #[zI k,zT T,zU a,zU b,zU c,zU d,.slice so n ae,zI p] 81)).alloc (.cells #[zI 0,zT {data:=#[]},zU 0,zU 0,zU 0,zU 0,.slice none 0 0] 56)).alloc (.cells #[zI k,zT T,zU a,zU b,zU c,zU d,.slice none 0 0] 56):=⟨_,rfl⟩;rw[<-aj]at ag e0 e1 e2 aN;have aq:Hid (Oj ix k T a b c d #[zI k,zT T,zU a,zU b,zU c,zU d,.slice so n ae,zI p] s Q B mB mp gv vn vr ops v W 0 Q v xs (.slice none 0 0) W1):=hid ⟨e0,e1,e2,by rw[List.take_zero,mkL];exact World.ownsRow_nil _ _ _ _,by rw[List.take_zero,mkL];exact HM.out.below ag,fun g hg=>.inl hg,fun g hg=>(by cases hg),fun g hg=>.inl hg,Frm.of_below ag⟩;have bf:=hid ag;have ar:=hid aj;obtain⟨q1,q2,q3⟩:=Dw W (.cells #[zI k,zT T,zU a,zU b,zU c,zU d,.slice so n ae,zI p] 81) (.cells #[zI 0,zT {data:=#[]},zU 0,zU 0,zU 0,zU 0,.slice none 0 0] 56);obtain⟨⟨m0,m1,m2,m3,m4,m5,m6,m7⟩,_⟩:=Qg q2;have l0:=Qq q2;clear ag e0 e1 e2 aj q1 q3;go_enter func52,ntmps52
 go_wp2_with fail
 rw[<-ar.out];clear ar m0 m1 m2 m3 m4 m5 m6 m7 l0;obtain⟨iT,aO,aP,aQ,aR⟩:=info_parts Tryz.infoInt
 go_loopw [30] (fun i wr=>∃(j:Nat) (Q':Nat->Prop) (A:Value) (ak:List Value) (vs:Value),i=zI (j:Int)/\j<=n/\Hid (Oj ix k T a b c d #[zI k,zT T,zU a,zU b,zU c,zU d,.slice so n ae,zI p] s Q B mB mp gv vn vr ops v W j Q' A ak vs wr)) (fun i _=>n-(intOf i).toNat)
 case atStart=>exact⟨0,_,_,_,_,rfl,Nat.zero_le _,aq⟩
 case round=>
  obtain⟨j,Q',A,ak,vs,rfl,hj,t⟩:=hrel;clear aq;have lW:W.heap.size+3<=wr.heap.size:=by
   have h1:=Qq t.out.o;omega
  obtain⟨G,I,rfl⟩:=Vm t.out.own;have al:Hid (zB w0 wr):=hid (t.out.fr.below ap.out ap.out.size aJ aK (fun g e=>by have:=(HM.out.ho.lt g e).1;have:=HM.out.hmB;omega));by_cases hjn:j<n
  ·have bg:(j:Int)<(n:Int):=by omega
   have a0:decide ((j:Int)<(n:Int))=true:=by simp;omega
   have am:j<s.length:=by rw[<-HN.out];exact hjn
   obtain⟨g,o,rfl,hg,U,V,a1,Y,c1,Z,aa,n1,ab,p1,rc,au⟩:=HC.out j am;obtain⟨z0,z1,z2,z3,z4,z5,z6,z7⟩:=rc.below al.out hg;have av:zB wr (wr.alloc (.cells #[zI U,zT V,zU a1,zU Y,zU c1,zU Z,.slice aa n1 ab,zI p1] 81)):=(Below.refl _ wr).alloc L0q _;obtain⟨D,af⟩:∃D,D=(wr.alloc (.cells #[zI U,zT V,zU a1,zU Y,zU c1,zU Z,.slice aa n1 ab,zI p1] 81)).drew:=⟨_,rfl⟩;have ac:zB wr D:=by rw[af];exact av.drew
   have aw:D.heap.size=wr.heap.size+1:=by rw[af];exact World.size_alloc _ _
   have ax:D.heap[wr.heap.size]? =some (.cells #[zI U,zT V,zU a1,zU Y,zU c1,zU Z,.slice aa n1 ab,zI p1] 81):=by rw[af];exact Qx wr _ rfl
   have aS:=y3y s j am;have aT:=(Fw ix (s.take j) ops).1;have aU:=hid (au D Q' _ A ak (al.out.trans (ac.mono al.out.size)) (by omega) (t.out.hmk.below ac) (by omega));have HV:Hid (∀g,Value.ownBlock (.slice G j I)=some g->W.heap.size+3<=g/\g<wr.heap.size):=hid t.out.own.lt;have ay:∀g,A.ownBlock=some g->g<wr.heap.size:=fun g e=>(t.out.hmk.ho.lt g e).2
   have bh:mB<W.heap.size/\mp<W.heap.size:=⟨Qq HM.out.hm,HM.out.hmap.lt⟩;have az:∀g,W.heap.size<=g->g<W.heap.size+3->A.ownBlock≠some g:=fun g h1 h2 e=>by
    rcases t.out.vr' g e with h3|h3
    ·have:=(HM.out.ho.lt g h3).2;omega
    ·omega
   have ah:Hid (W.heap.size+1+1≠mB/\W.heap.size+1+1≠mp/\A.ownBlock≠some (W.heap.size+1+1)):=hid ⟨by omega,by omega,az _ (by omega) (by omega)⟩;have aV:Hid (wr.heap.size≠mB/\wr.heap.size≠mp/\A.ownBlock≠some wr.heap.size):=hid ⟨by omega,by omega,fun e=>by have:=ay _ e;omega⟩;have aA:Hid (some (W.heap.size+1+1)≠Value.ownBlock (.slice G j I)):=hid fun e=>by have:=HV.out _ e.symm;omega
   have aW:Hid (some wr.heap.size≠Value.ownBlock (.slice G j I)):=hid fun e=>by have:=HV.out _ e.symm;omega
   have aX:Hid (∀(r:World) (v2:Value),Frm mB mp D A r v2->r.ownsRow (W.heap.size+3) 3 1 (.slice G j I) j (nI (mkL ix (s.take j) ops).1)):=hid fun r v2 h=>Yc t.out.own fun g e=>by
    have h1:=HV.out g e;exact(h.block g (by omega) (by omega) (by omega) (t.out.row g e).2).trans (ac.block g h1.2)
   have aY:Hid (∀(r:World) (v2:Value),Frm mB mp D A r v2->W.heap.size+3<=(r.alloc (.cells #[(zI ((mkT ix s[j] (mkL ix (s.take j) ops).2).1:Nat))] 3)).heap.size):=hid fun r v2 h=>by have:=h.size;rw[World.size_alloc];omega
   have aZ:Hid (∀(r:World) (v2:Value),Frm mB mp D A r v2->W.heap.size+1+1<r.heap.size):=hid fun r v2 h=>by have:=h.size;omega
   have a2:Hid (∀(r:World) (v2:Value),Frm mB mp D A r v2->W.heap.size+1+1<(r.alloc (.cells #[(zI ((mkT ix s[j] (mkL ix (s.take j) ops).2).1:Nat))] 3)).heap.size):=hid fun r v2 h=>by have:=h.size;rw[World.size_alloc];omega
   have a3:Hid (∀(r:World) (v2:Value),Frm mB mp D A r v2->r.heap[W.heap.size+1+1]? =some (.cells #[zI k,zT T,zU a,zU b,zU c,zU d,.slice G j I] 56)):=hid fun r v2 h=>(h.block _ (by omega) ah.out.1 ah.out.2.1 ah.out.2.2).trans ((ac.block _ (by omega)).trans t.out.o)
   have a4:j+1<=maxLen:=by unfold maxLen;omega
   have a5:(j+1)*8<=140737488355328:=by omega
   have a6:Hid ((fun X:World=>zC X (W.heap.size+1+1) 6 (.slice G j I)/\zC X wr.heap.size 0 (zI U)/\zC X wr.heap.size 1 (zT V)/\zC X wr.heap.size 2 (zU a1)/\zC X wr.heap.size 3 (zU Y)/\zC X wr.heap.size 4 (zU c1)/\zC X wr.heap.size 5 (zU Z)/\zC X wr.heap.size 6 (.slice aa n1 ab)/\zC X wr.heap.size 7 (zI p1)) (wr.alloc (.cells #[zI U,zT V,zU a1,zU Y,zU c1,zU Z,.slice aa n1 ab,zI p1] 81)).drew):=by
    rw[<-af];obtain⟨⟨_,_,_,_,_,_,x6⟩,_⟩:=Yk ((ac.block _ (by omega)).trans t.out.o);obtain⟨⟨y0,y1,y2,y3,y4,y5,y6,y7⟩,_⟩:=Qg ax;exact⟨x6,y0,y1,y2,y3,y4,y5,y6,y7⟩
   have a7:=hid af;have a8:=hid aw;have a9:=hid ac;clear au rc av af ac ax aS aT ay az aw
   go_wp2_with fail
   refine Qc 8 (fun X:World=>zC X (W.heap.size+1+1) 6 (.slice G j I)/\zC X wr.heap.size 0 (zI U)/\zC X wr.heap.size 1 (zT V)/\zC X wr.heap.size 2 (zU a1)/\zC X wr.heap.size 3 (zU Y)/\zC X wr.heap.size 4 (zU c1)/\zC X wr.heap.size 5 (zU Z)/\zC X wr.heap.size 6 (.slice aa n1 ab)/\zC X wr.heap.size 7 (zI p1)) (by kernel_rfl) a6.out (fun y=> ?_);rw[<-a7.out]at y ⊢;refine Qz 0 y ?_;refine Qz 1 y ?_;refine Qz 2 y ?_;refine Qz 3 y ?_
   (refine Qf 4 (fun K E=> ?_);go_simp;refine aU.out.mono ?_;rintro e r ⟨Q2,v2,bi,rfl,aB,aC,aD⟩;have ba:=hid aB;have bb:=hid aC;have ad:=hid aD;clear aB aC aD;go_simp;replace y:=y3B y ad.out ah.out aV.out;refine E.out _ _ y ?_;clear E K)
   (try simp only[Act.put,zY])
   (refine Qf 5 (fun K E=> ?_);go_simp;replace y:=z4t y ((Below.refl _ r).alloc L0q (.cells #[(zI ((mkT ix s[j] (mkL ix (s.take j) ops).2).1:Nat))] 3));refine E.out _ _ y ?_;clear E K)
   (try simp only[Act.put,zY])
   (refine Qf 6 (fun K E=> ?_);refine step_append_lies _ rfl (.tmp 35) (.tmp 39) 24 rfl (W.heap.size+3) 3 iT (zI 0) 1 8 Tryz.underlying24 aO aP aQ aR rfl (by decide) (.slice G j I) j (nI (mkL ix (s.take j) ops).1) (by rfl) ((aX.out r v2 ad.out).alloc _) ⟨r.heap.size,0,none⟩ 1 1 [(zI ((mkT ix s[j] (mkL ix (s.take j) ops).2).1:Nat))] (by rfl) rfl (Ak _ _ _) (by simp[Value.oneCell']) (by decide) a4 a5 (aY.out r v2 ad.out) (r.heap.size+1) (World.size_alloc _ _) ?_;intro g6 bj w6 aE ao aF bk;replace y:=y3C y aA.out aW.out ao;have bc:=hid aE;have aG:=hid ao;have bd:=hid aF;clear aE ao aF;refine E.out _ _ y ?_;clear E K)
   (try simp only[Act.put,zY])
   refine Qz 7 y ?_;refine Yj (fun K E=> ?_);have aH:=hid ((aG.out.block _ (a2.out r v2 ad.out) aA.out).trans ((Below.heap_alloc _ _ _ (aZ.out r v2 ad.out)).trans (a3.out r v2 ad.out)));obtain⟨⟨s0,s1,s2,s3,s4,s5,s6⟩,f0,f1,f2,f3,f4,f5,f6⟩:=Yk aH.out;have ls:=Qq aH.out;clear y
   go_simp
   refine E.out _ _ ?_;clear E K s0 s1 s2 s3 s4 s5 s6 f0 f1 f2 f3 f4 f5 f6 ls
   go_wp2_with fail
   refine⟨⟨j+1,_,_,_,_,by go_num,by omega,hid (t.out.step HM.out am a9.out a8.out ba.out bb.out ad.out bc.out aG.out bd.out)⟩,by simp[intOf];omega⟩
  ·have a0:decide ((j:Int)<(n:Int))=false:=by simp;omega
   obtain rfl:j=n:=by omega
   obtain⟨⟨o0,o1,o2,o3,o4,o5,o6⟩,_⟩:=Yk t.out.o;obtain⟨⟨z0,z1,z2,z3,z4,z5,z6⟩,⟨f0,f1,f2,f3,f4,f5,f6⟩⟩:=Yk t.out.z;have lo:=Qq t.out.o;have lz:=Qq t.out.z
   go_wp2_with fail
   have hP:=Tz (v0:=zI k) (v1:=zT T) (v2:=zU a) (v3:=zU b) (v4:=zU c) (v5:=zU d) (v6:=.slice G j I) t.out.z;obtain⟨⟨r0,r1,r2,r3,r4,r5,r6⟩,_⟩:=Yk hP;refine bodyPost_ret (v:=.agg #[zI k,zT T,zU a,zU b,zU c,zU d,.slice G j I]) (by simp[results,Tryz.results52,go_sem,r0,r1,r2,r3,r4,r5,r6]) rfl ?_;exact t.out.fin HM.out HN.out hn (by simpa using aI) HW.out hT aL
section
mutual
def TrK:RT->Prop
 | .mk k T a b c d s _=>((Lit.int .i64 k).wf=true/\T.size<=1073741824/\(Lit.int .u64 a).wf=true/\(Lit.int .u64 b).wf=true/\(Lit.int .u64 c).wf=true/\(Lit.int .u64 d).wf=true/\s.length<=1048576)/\Gy s
def Gy:List RT->Prop
 |[]=>True
 |t::r=>TrK t/\Gy r
end
theorem Tw:∀{s:List RT},Gy s->∀j (o:j<s.length),TrK s[j]
 |t::r,h,0,_=>by rw[Gy]at h;exact h.1
 |t::r,h,j+1,o=>by rw[Gy]at h;exact Tw h.2 j (by simpa using o)
theorem y3F(T:zA)(l:List ByteArray)(h:l.length<=1048576): -1<=fdI T l/\fdI T l<=1048576:=by
 unfold fdI;split
 ·rename_i o
  have:=Gk T l o;omega
 ·omega
section
variable {w0:World} {rs:List Rr} {gso:Option Addr} {gn gcap B mB mp:Nat} {vn vr:Value}
theorem z4w(hR:Qb w0 w0.heap.size gso gn rs)(ac:rs.length<=1048576)(hP:Xm w0)(G:w0.heap.size<=mB)(I:w0.heap.size<=mp):∀(N:Nat) (t:RT) (U:List Value),SizeOf.sizeOf t<N->Qy w0 w0.heap.size t U->TrK t->
  ∀(W:World) (Q:Nat->Prop) (ops:List Ox) (v:Value) (xs:List Value),zB w0 W->B<=W.heap.size->Mkr W Q B mB mp (.slice gso gn gcap) vn vr ops v xs->ops.length+ndT t<=1048576->
  Calls prog 30 #[zP mB 0,.agg U.toArray] W (PlP (fun T=>fdI T (nmL rs)) t Q B mB mp (.slice gso gn gcap) vn vr ops v W)
 |0,t,_,h,_,_=>by omega
 |N+1,.mk k T a b c d s p,U,hN,y,hk=>fun W Q ops v xs V ad r ag=>by
  rw[Qy]at y;obtain⟨Y,Z,rfl,y⟩:=y;rw[TrK]at hk;obtain⟨⟨k1,k2,k3,k4,k5,k6,k7⟩,ah⟩:=hk;rw[ndT]at ag;refine y3x _ _ k T a b c d Y (Qv s) Z p Q B mB mp _ vn vr ops v w0 W G I (hid V) (hid hP) (Qq r.hm) r.hmap.lt (hid fun g e=>(r.ho.lt g e).1) r.hmB r.hmp ad (hid fun W1 aa=> ?_);have ab:zB w0 W1:=V.trans (aa.mono V.size);have ae:=r.below aa;by_cases A:k=5
  ·subst A
   refine y3A _ T a b c d Y (Qv s) Z p s Q B mB mp gso gn gcap vn vr ops v xs W1 (by omega) (y3F T _ (by unfold nmL;rw[List.length_map];exact ac)) (hid ae) (hid fun D ai=> ?_);have af:zB w0 D:=ab.trans (ai.mono ab.size);exact Sz T gso gn gcap rs w0.heap.size D (hR.below af) af.size
  ·refine y3E _ k T a b c d Y (Qv s) Z p s Q B mB mp _ vn vr ops v xs w0 W1 (by simpa using A) (hid (Zm s)) (by rw[Zm];exact k7) G I (hid ab) (Nat.le_trans ad aa.size) (hid ae) (hid fun l hl=>⟨k1,(show T.size<=maxLen by unfold maxLen;omega),k3,k4,k5,k6,(show(sbT l).length<=maxLen by have:=hl.2;unfold maxLen;omega)⟩) k2 (by omega) (hid fun j E=> ?_)
   rcases y with h1|⟨h1,g,o,rfl,hg,hm,hs⟩
   ·have aj:s=[]:=by simpa using h1
    subst aj;simp at E
   ·obtain⟨k1,T1,a1,b1,c1,d1,ak,n1,al,p1,r1,r2⟩:=Mk hs j E
    refine⟨g,o,rfl,hg,k1,T1,a1,b1,c1,d1,ak,n1,al,p1,r2,fun D Q2 am v2 ao h2 h3 h4 A=> ?_⟩;have ap:=List.sizeOf_lt_of_mem (List.getElem_mem E);simp only[RT.mk.sizeOf_spec]at hN;exact z4w hR ac hP G I N s[j] _ (by omega) r1 (Tw ah j E) D Q2 am v2 ao h2 h3 h4 A
end
end
def nS(l:List Rr):List Value:=l.map fun x=>zT x.1
def ndG:List Rr->Nat
 |[]=>0
 |x::r=>ndT x.2.1+ndG r
theorem Ty(a b:List Rr):ndG (a++b)=ndG a+ndG b:=by
 induction a with
 |nil=>rw[List.nil_append,ndG,Nat.zero_add]
 |cons t r ih=>rw[List.cons_append,ndG,ndG,ih,Nat.add_assoc]
theorem y3G(s:List Rr)(j:Nat)(o:j<s.length):ndG (s.take j)+ndT s[j].2.1<=ndG s:=by
 have h:ndG s=ndG (s.take (j+1))+ndG (s.drop (j+1)):=by rw[<-Ty,List.take_append_drop]
 rw[List.take_succ_eq_append_getElem o,Ty,ndG,ndG]at h;omega
theorem Vp(ix:zA->Int):∀(s:List Rr) (ops:List Ox),(mkG ix s ops).2.length<=ops.length+ndG s/\((mkG ix s ops).1.length=s.length/\∀x∈(mkG ix s ops).1,0<=x/\x<((mkG ix s ops).2.length:Int))/\∃l,(mkG ix s ops).2=ops++l
 |[],ops=>by
  rw[mkG,ndG];exact⟨Nat.le_refl _,⟨rfl,fun x hx=>by cases hx⟩,[],(List.append_nil _).symm⟩
 |t::r,ops=>by
  rw[mkG,ndG];dsimp only;obtain⟨E,G,l,o⟩:=Ix ix t.2.1 ops;obtain⟨I,⟨y,A⟩,D,h⟩:=Vp ix r (mkT ix t.2.1 ops).2;refine⟨by omega,⟨by rw[List.length_cons,List.length_cons,y],fun x hx=> ?_⟩,l++D,by rw[h,o,List.append_assoc]⟩;have U:(mkT ix t.2.1 ops).2.length<=(mkG ix r (mkT ix t.2.1 ops).2).2.length:=by rw[h,List.length_append];omega
  rcases List.mem_cons.1 hx with rfl|hx
  ·exact⟨by omega,by omega⟩
  ·exact A x hx
theorem z4x(ix:zA->Int)(t:Rr):∀(s:List Rr) (ops:List Ox),mkG ix (s++[t]) ops=((mkG ix s ops).1++[((mkT ix t.2.1 (mkG ix s ops).2).1:Int)],(mkT ix t.2.1 (mkG ix s ops).2).2)
 |[],ops=>by rw[List.nil_append,mkG,mkG,mkG,List.nil_append]
 |x::r,ops=>by rw[List.cons_append,mkG,mkG,z4x ix t r,List.cons_append]
theorem z4y(ix:zA->Int)(s:List Rr)(ops:List Ox)(j:Nat)(h:j<s.length):mkG ix (s.take (j+1)) ops=((mkG ix (s.take j) ops).1++[((mkT ix s[j].2.1 (mkG ix (s.take j) ops).2).1:Int)],(mkT ix s[j].2.1 (mkG ix (s.take j) ops).2).2):=by
 rw[List.take_succ_eq_append_getElem h,z4x]
theorem y3H(s:List Rr)(j:Nat)(h:j<s.length):nS (s.take (j+1))=nS (s.take j)++[zT s[j].1]:=by
 unfold nS;rw[List.take_succ_eq_append_getElem h,List.map_append];rfl
theorem Mkr.setN{W:World}{Q:Nat->Prop}{B mB mp:Nat}{r vn vr v u:Value}{ops:List Ox}{xs:List Value}(h:Mkr W Q B mB mp r vn vr ops v xs):Mkr (W.setCell ⟨mB,2,none⟩ u) Q B mB mp r u vr ops v xs:=
 ⟨Qw h.hm 2 u,ownsRow_setCell_below h.ho (a:=⟨mB,2,none⟩) h.hmB u,h.hops.keep fun g o=>⟨o,Below.heap_setCell _ _ _ _ (h.hq g o).2.1⟩,h.hmap.same (Below.heap_setCell _ _ _ _ h.hne.symm),fun g o=>⟨by rw[World.size_setCell];exact(h.hq g o).1,(h.hq g o).2⟩,h.hmB,h.hmp,h.hne⟩
theorem Mkr.setR{W:World}{Q:Nat->Prop}{B mB mp:Nat}{r vn vr v u:Value}{ops:List Ox}{xs:List Value}(h:Mkr W Q B mB mp r vn vr ops v xs):Mkr (W.setCell ⟨mB,3,none⟩ u) Q B mB mp r vn u ops v xs:=
 ⟨Qw h.hm 3 u,ownsRow_setCell_below h.ho (a:=⟨mB,3,none⟩) h.hmB u,h.hops.keep fun g o=>⟨o,Below.heap_setCell _ _ _ _ (h.hq g o).2.1⟩,h.hmap.same (Below.heap_setCell _ _ _ _ h.hne.symm),fun g o=>⟨by rw[World.size_setCell];exact(h.hq g o).1,(h.hq g o).2⟩,h.hmB,h.hmp,h.hne⟩
structure Gj (ix:zA->Int) (rs:List Rr) (gv:Value) (wc:World) (jn jr:Nat) (Q:Nat->Prop) (v:Value) (xs:List Value) (vn vr:Value) (wr:World):Prop where
 be:zB wc wr
 hmk:Mkr wr Q (wc.heap.size+2) (wc.heap.size+1) wc.heap.size gv vn vr (mkG ix (rs.take jr) []).2 v xs
 on:wr.ownsRow (wc.heap.size+2) 9 1 vn jn (nS (rs.take jn))
 or:wr.ownsRow (wc.heap.size+2) 3 1 vr jr (nI (mkG ix (rs.take jr) []).1)
 d1:∀g,vn.ownBlock=some g->¬Q g/\v.ownBlock≠some g/\vr.ownBlock≠some g
 d2:∀g,vr.ownBlock=some g->¬Q g/\v.ownBlock≠some g
 qb:∀g,Q g->wc.heap.size<=g
theorem Gj.below{ix:zA->Int}{rs:List Rr}{r:Value}{t:World}{y A:Nat}{Q:Nat->Prop}{v:Value}{xs:List Value}{vn vr:Value}{wr w':World}(h:Gj ix rs r t y A Q v xs vn vr wr)(o:zB wr w'):Gj ix rs r t y A Q v xs vn vr w':=
 ⟨h.be.trans (o.mono h.be.size),h.hmk.below o,Yc h.on fun g e=>o.block g (h.on.lt g e).2,Yc h.or fun g e=>o.block g (h.or.lt g e).2,h.d1,h.d2,h.qb⟩
theorem Gj.names{ix:zA->Int}{rs:List Rr}{E:Value}{o:World}{j:Nat}{Q:Nat->Prop}{v:Value}{xs:List Value}{vn vr:Value}{r A:World}{X:Obj}{t G:Nat}(h:Gj ix rs E o j j Q v xs vn vr r)(V:j<rs.length)
  (Y:A.ownsRow (o.heap.size+2) 9 1 (zS t (j+1) G) (j+1) (nS (rs.take j)++[zT rs[j].1]))(D:(r.alloc X).grownBy A vn.ownBlock)(Z:vn.ownBlock=some t∨t=r.heap.size+1):
  Gj ix rs E o (j+1) j Q v xs (zS t (j+1) G) vr (A.setCell ⟨o.heap.size+1,2,none⟩ (zS t (j+1) G)):=by
 have ha:=h.below ((Below.refl _ r).alloc L0q X);have hs:(r.alloc X).heap.size=r.heap.size+1:=World.size_alloc _ _;have I:∀g,vn.ownBlock=some g->o.heap.size+2<=g/\g<r.heap.size:=h.on.lt;have M6:Mkr A Q (o.heap.size+2) (o.heap.size+1) o.heap.size E vn vr (mkG ix (rs.take j) []).2 v xs:=ha.hmk.kept D.size (fun g=>vn.ownBlock=some g) (fun g h1 h2=>D.block g h1 (fun e=>h2 e.symm)) (fun e=>by have:=I _ e;omega) (fun e=>by have:=I _ e;omega) (fun g y e=>(h.d1 g e).2.1 y) (fun g y e=>(h.d1 g e).1 y);refine⟨?_,M6.setN,?_,?_,fun g y=> ?_,h.d2,h.qb⟩
 ·exact(ha.be.grown D ha.be.size (fun g e=>by have:=I g e;omega)).setCell (p:=⟨o.heap.size+1,2,none⟩) (show o.heap.size<=o.heap.size+1 by omega) _
 ·rw[y3H rs j V]
  exact ownsRow_setCell_below Y (a:=⟨o.heap.size+1,2,none⟩) (show o.heap.size+1<o.heap.size+2 by omega) _
 ·refine ownsRow_setCell_below (Yc ha.or fun g e=>D.block g (ha.or.lt g e).2 (fun e2=>(h.d1 g e2.symm).2.2 e)) (a:=⟨o.heap.size+1,2,none⟩) (show o.heap.size+1<o.heap.size+2 by omega) _
 ·obtain rfl:t=g:=Option.some.inj y
  rcases Z with U|U
  ·exact h.d1 _ U
  ·exact⟨fun hq=>by have:=(h.hmk.hq _ hq).1;omega,fun e=>by have:=(h.hmk.ho.lt _ e).2;omega,fun e=>by have:=(h.or.lt _ e).2;omega⟩
theorem Gj.roots{ix:zA->Int}{rs:List Rr}{V:Value}{o:World}{j:Nat}{Q:Nat->Prop}{v:Value}{xs:List Value}{vn vr:Value}{W D Y:World}{X:Obj}{E ab:Nat}{I:Nat->Prop}{v2:Value}{ac:List Value}(h:Gj ix rs V o (j+1) j Q v xs vn vr W)(hj:j<rs.length)
  (ad:Mkr D I (o.heap.size+2) (o.heap.size+1) o.heap.size V vn vr (mkT ix rs[j].2.1 (mkG ix (rs.take j) []).2).2 v2 ac)(af:∀g,I g->Q g∨W.heap.size<=g)(Z:Frm (o.heap.size+1) o.heap.size W v D v2)
  (ai:Y.ownsRow (o.heap.size+2) 3 1 (zS E (j+1) ab) (j+1) (nI (mkG ix (rs.take j) []).1++[zI ((mkT ix rs[j].2.1 (mkG ix (rs.take j) []).2).1:Nat)]))(aa:(D.alloc X).grownBy Y vr.ownBlock)(ag:vr.ownBlock=some E∨E=D.heap.size+1):
  Gj ix rs V o (j+1) (j+1) I v2 ac vn (zS E (j+1) ab) (Y.setCell ⟨o.heap.size+1,3,none⟩ (zS E (j+1) ab)):=by
 have hs:(D.alloc X).heap.size=D.heap.size+1:=World.size_alloc _ _;have G:∀g,vr.ownBlock=some g->o.heap.size+2<=g/\g<W.heap.size:=h.or.lt;have ah:∀g,vn.ownBlock=some g->o.heap.size+2<=g/\g<W.heap.size:=h.on.lt;have h8:=Z.size;have e1:∀g,g<W.heap.size->¬Q g->¬I g:=fun g r t U=>by
  rcases af g U with y|y
  ·exact t y
  ·omega
 have e2:∀g,g<W.heap.size->v.ownBlock≠some g->v2.ownBlock≠some g:=fun g r t U=>by
  rcases Z.row g U with y|y
  ·exact t y
  ·omega
 have M9:Mkr Y I (o.heap.size+2) (o.heap.size+1) o.heap.size V vn vr (mkT ix rs[j].2.1 (mkG ix (rs.take j) []).2).2 v2 ac:=(ad.below ((Below.refl _ D).alloc L0q X)).kept aa.size (fun g=>vr.ownBlock=some g) (fun g r t=>aa.block g r (fun e=>t e.symm)) (fun e=>by have:=G _ e;omega) (fun e=>by have:=G _ e;omega) (fun g A e=>e2 g (G g e).2 (h.d2 g e).2 A) (fun g A e=>e1 g (G g e).2 (h.d2 g e).1 A);have ae:zB o D:=Z.below h.be h.be.size (by omega) (by omega) (fun g e=>by have:=(h.hmk.ho.lt g e).1;omega);refine⟨?_,?_,?_,?_,fun g A=> ?_,fun g A=> ?_,fun g A=>(af g A).elim (h.qb g) (fun r=>Nat.le_trans h.be.size r)⟩
 ·exact((ae.alloc ae.size X).grown aa (Nat.le_trans ae.size (by omega)) (fun g e=>by have:=G g e;omega)).setCell (p:=⟨o.heap.size+1,3,none⟩) (show o.heap.size<=o.heap.size+1 by omega) _
 ·rw[z4y ix rs [] j hj]
  exact M9.setR
 ·refine ownsRow_setCell_below (Yc h.on fun g e=> ?_) (a:=⟨o.heap.size+1,3,none⟩) (show o.heap.size+1<o.heap.size+2 by omega) _
  have r:=ah g e;exact(aa.block g (by omega) (fun e3=>(h.d1 g e).2.2 e3.symm)).trans ((Below.heap_alloc _ _ _ (by omega)).trans (Z.block g r.2 (by omega) (by omega) (h.d1 g e).2.1))
 ·rw[z4y ix rs [] j hj,z4u]
  exact ownsRow_setCell_below ai (a:=⟨o.heap.size+1,3,none⟩) (show o.heap.size+1<o.heap.size+2 by omega) _
 ·have r:=ah g A
  have t:=h.d1 g A;refine⟨e1 g r.2 t.1,e2 g r.2 t.2.1,fun e=> ?_⟩;obtain rfl:E=g:=Option.some.inj e;rcases ag with y|y
  ·exact t.2.2 y
  ·omega
 ·obtain rfl:E=g:=Option.some.inj A
  rcases ag with y|y
  ·have r:=G _ y
   have t:=h.d2 _ y;exact⟨e1 _ r.2 t.1,e2 _ r.2 t.2⟩
  ·exact⟨fun U=>by have:=(ad.hq _ U).1;omega,fun e=>by have:=(ad.ho.lt _ e).2;omega⟩
end Go.Proofs.YtgnkkgcgbeianaaGreatDoor
