/- Lemmas for the last text. Conditions: those that each names. -/
import Derived.Test.YtlogolpcipiceaaGreatDoorVC5ToC6
import Derived.Test.YtlogolpcipiceaaGreatDoorVO18ToU1
set_option linter.unusedVariables false
set_option maxRecDepth 100000
set_option maxHeartbeats 16000000
namespace Go.Proofs.YtlogolpcipiceaaGreatDoor
open Go.Proofs.Tryz
open Go.RowKit Go.Shelf Go.Maps
theorem z4F{W W':World}{a0 a1 a2 a3 a4 a5 a6 a7 a8:Addr}{v0 v1 v2 v3 v4 v5 v6 v7 v8:Value}(h:W.cell? a0=some v0/\W.cell? a1=some v1/\W.cell? a2=some v2/\W.cell? a3=some v3/\W.cell? a4=some v4/\W.cell? a5=some v5/\W.cell? a6=some v6/\W.cell? a7=some v7/\W.cell? a8=some v8)(hb:Below W.heap.size W W'):W'.cell? a0=some v0/\W'.cell? a1=some v1/\W'.cell? a2=some v2/\W'.cell? a3=some v3/\W'.cell? a4=some v4/\W'.cell? a5=some v5/\W'.cell? a6=some v6/\W'.cell? a7=some v7/\W'.cell? a8=some v8:=by
 obtain⟨z0,z1,z2,z3,z4,z5,z6,z7,z8⟩:=h;have e:∀{a:Addr} {u:Value},W.cell? a=some u->W'.cell? a=some u:=fun{a u} h=>(hb.cell (p:=a) (World.block_lt_of_cell? W _ h)).trans h
 exact⟨e z0,e z1,e z2,e z3,e z4,e z5,e z6,e z7,e z8⟩
theorem y2Z{W W':World}{mB mp o r:Nat}{u u' v0 v1 v2 v3 v4 v5 v6 v7 v8:Value}(h:W.cell? ⟨o,6,none⟩=some v0/\W.cell? ⟨r,0,none⟩=some v1/\W.cell? ⟨r,1,none⟩=some v2/\W.cell? ⟨r,2,none⟩=some v3/\W.cell? ⟨r,3,none⟩=some v4/\W.cell? ⟨r,4,none⟩=some v5/\W.cell? ⟨r,5,none⟩=some v6/\W.cell? ⟨r,6,none⟩=some v7/\W.cell? ⟨r,7,none⟩=some v8)(hf:Frm mB mp W u W' u')(ho:o≠mB/\o≠mp/\u.ownBlock≠some o)(hr:r≠mB/\r≠mp/\u.ownBlock≠some r):W'.cell? ⟨o,6,none⟩=some v0/\W'.cell? ⟨r,0,none⟩=some v1/\W'.cell? ⟨r,1,none⟩=some v2/\W'.cell? ⟨r,2,none⟩=some v3/\W'.cell? ⟨r,3,none⟩=some v4/\W'.cell? ⟨r,4,none⟩=some v5/\W'.cell? ⟨r,5,none⟩=some v6/\W'.cell? ⟨r,6,none⟩=some v7/\W'.cell? ⟨r,7,none⟩=some v8:=by
 have eo:W'.heap[o]? =W.heap[o]? :=hf.block o (World.block_lt_of_cell? W _ h.1) ho.1 ho.2.1 ho.2.2;have er:W'.heap[r]? =W.heap[r]? :=hf.block r (World.block_lt_of_cell? W _ h.2.1) hr.1 hr.2.1 hr.2.2;exact⟨(World.cell?_of_block (a:=⟨o,6,none⟩) eo).trans h.1,(World.cell?_of_block (a:=⟨r,0,none⟩) er).trans h.2.1,(World.cell?_of_block (a:=⟨r,1,none⟩) er).trans h.2.2.1,(World.cell?_of_block (a:=⟨r,2,none⟩) er).trans h.2.2.2.1,(World.cell?_of_block (a:=⟨r,3,none⟩) er).trans h.2.2.2.2.1,(World.cell?_of_block (a:=⟨r,4,none⟩) er).trans h.2.2.2.2.2.1,(World.cell?_of_block (a:=⟨r,5,none⟩) er).trans h.2.2.2.2.2.2.1,(World.cell?_of_block (a:=⟨r,6,none⟩) er).trans h.2.2.2.2.2.2.2.1,(World.cell?_of_block (a:=⟨r,7,none⟩) er).trans h.2.2.2.2.2.2.2.2⟩
theorem y3a{W W':World}{o r:Nat}{row:Option Nat}{v0 v1 v2 v3 v4 v5 v6 v7 v8:Value}(h:W.cell? ⟨o,6,none⟩=some v0/\W.cell? ⟨r,0,none⟩=some v1/\W.cell? ⟨r,1,none⟩=some v2/\W.cell? ⟨r,2,none⟩=some v3/\W.cell? ⟨r,3,none⟩=some v4/\W.cell? ⟨r,4,none⟩=some v5/\W.cell? ⟨r,5,none⟩=some v6/\W.cell? ⟨r,6,none⟩=some v7/\W.cell? ⟨r,7,none⟩=some v8)(n0:some o≠row)(n1:some r≠row)(hg:W.grownBy W' row):W'.cell? ⟨o,6,none⟩=some v0/\W'.cell? ⟨r,0,none⟩=some v1/\W'.cell? ⟨r,1,none⟩=some v2/\W'.cell? ⟨r,2,none⟩=some v3/\W'.cell? ⟨r,3,none⟩=some v4/\W'.cell? ⟨r,4,none⟩=some v5/\W'.cell? ⟨r,5,none⟩=some v6/\W'.cell? ⟨r,6,none⟩=some v7/\W'.cell? ⟨r,7,none⟩=some v8:=
 ⟨hg.cell h.1 n0,hg.cell h.2.1 n1,hg.cell h.2.2.1 n1,hg.cell h.2.2.2.1 n1,hg.cell h.2.2.2.2.1 n1,hg.cell h.2.2.2.2.2.1 n1,hg.cell h.2.2.2.2.2.2.1 n1,hg.cell h.2.2.2.2.2.2.2.1 n1,hg.cell h.2.2.2.2.2.2.2.2 n1⟩
def nI(l:List Int):List Value:=l.map fun x=>.int .i64 x
theorem y3b(w:World)(A B C:Obj):Below w.heap.size w (((w.alloc A).alloc B).alloc C)/\(((w.alloc A).alloc B).alloc C).heap[w.heap.size]? =some A/\(((w.alloc A).alloc B).alloc C).heap[w.heap.size+1]? =some B/\(((w.alloc A).alloc B).alloc C).heap[w.heap.size+1+1]? =some C/\(((w.alloc A).alloc B).alloc C).heap.size=w.heap.size+3:=by
 obtain⟨h1,h2,h3⟩:=Fz w A B;have s2:((w.alloc A).alloc B).heap.size=w.heap.size+1+1:=by simp
 have b3:Below (w.heap.size+1+1) ((w.alloc A).alloc B) (((w.alloc A).alloc B).alloc C):=B0q.alloc (Nat.le_of_eq s2.symm) _;refine⟨h1.trans (b3.mono (by omega)),?_,?_,?_,by simp⟩
 ·rw[b3.block _ (by omega)];exact h2
 ·rw[b3.block _ (by omega)];exact h3
 ·exact Qx ((w.alloc A).alloc B) _ s2.symm
theorem Frm.more{mB mp:Nat}{W W1 W2:World}{v v1:Value}(h:Frm mB mp W v W1 v1)(h1:W2.os=W1.os)(h2:W2.tape=W1.tape)(h3:W2.output=W1.output)(h4:W1.heap.size<=W2.heap.size)(h5:∀k,k<W.heap.size->W2.heap[k]? =W1.heap[k]?):Frm mB mp W v W2 v1:=
 ⟨h1.trans h.os,h2.trans h.tape,h3.trans h.output,Nat.le_trans h.size h4,fun k hk h6 h7 h8=>(h5 k hk).trans (h.block k hk h6 h7 h8),h.row⟩
structure Oj (ix:ByteArray->Int) (k:Int) (T:ByteArray) (a b c d:Int) (nd:Array Value) (s:List RT) (Q:Nat->Prop) (B mB mp:Nat) (gv vn vr:Value) (ops:List Ox) (v:Value) (W:World) (j:Nat) (Q':Nat->Prop) (v':Value) (xs':List Value) (vs:Value) (wr:World):Prop where
 n:wr.heap[W.heap.size]? =some (.cells nd 71)
 z:wr.heap[W.heap.size+1]? =some (.cells #[.int .i64 0,.string ⟨#[]⟩,.int .u64 0,.int .u64 0,.int .u64 0,.int .u64 0,.slice none 0 0] 75)
 o:wr.heap[W.heap.size+1+1]? =some (.cells #[.int .i64 k,.string T,.int .u64 a,.int .u64 b,.int .u64 c,.int .u64 d,vs] 75)
 own:wr.ownsRow (W.heap.size+3) 3 1 vs j (nI (mkL ix (s.take j) ops).1)
 hmk:Mkr wr Q' B mB mp gv vn vr (mkL ix (s.take j) ops).2 v' xs'
 q:∀g,Q' g->Q g∨W.heap.size+3<=g
 row:∀g,vs.ownBlock=some g->¬Q' g/\v'.ownBlock≠some g
 vr':∀g,v'.ownBlock=some g->v.ownBlock=some g∨W.heap.size+3<=g
 fr:Frm mB mp W v wr v'
theorem z4G(a b:List Int):nI (a++b)=nI a++nI b:=List.map_append
theorem z4H(ix:ByteArray->Int)(s:List RT)(ops:List Ox)(j:Nat)(hj:j<s.length):mkL ix (s.take (j+1)) ops=((mkL ix (s.take j) ops).1++[((mkT ix s[j] (mkL ix (s.take j) ops).2).1:Int)],(mkT ix s[j] (mkL ix (s.take j) ops).2).2):=by
 rw[List.take_succ_eq_append_getElem hj,z4A]
theorem Oj.step{ix:ByteArray->Int}{k:Int}{T:ByteArray}{a b c d:Int}{nd:Array Value}{s:List RT}{Q:Nat->Prop}{B mB mp:Nat}{gv vn vr:Value}{ops:List Ox}{v:Value}{xs:List Value}{W:World}{j:Nat}{Q':Nat->Prop}{v':Value}{xs':List Value}{vso:Option Addr}{vcap:Nat}{wr Wd w3 w6:World}{Q2:Nat->Prop}{v2:Value}{xs2:List Value}{X:Obj}{g6 cap6:Nat}(HM:Mkr W Q B mB mp gv vn vr ops v xs)(h:Oj ix k T a b c d nd s Q B mB mp gv vn vr ops v W j Q' v' xs' (.slice vso j vcap) wr)(hj:j<s.length)(hbD:Below wr.heap.size wr Wd)(hsD:Wd.heap.size=wr.heap.size+1)
  (hM2:Mkr w3 Q2 B mB mp gv vn vr (mkT ix s[j] (mkL ix (s.take j) ops).2).2 v2 xs2)(hQ2:∀g,Q2 g->Q' g∨Wd.heap.size<=g)(hF2:Frm mB mp Wd v' w3 v2)(hown:w6.ownsRow (W.heap.size+3) 3 1 (.slice (some ⟨g6,0,none⟩) (j+1) cap6) (j+1) (nI (mkL ix (s.take j) ops).1++[(.int .i64 ((mkT ix s[j] (mkL ix (s.take j) ops).2).1:Nat))]))(hgr:(w3.alloc X).grownBy w6 (Value.ownBlock (.slice vso j vcap)))(hat:Value.ownBlock (.slice vso j vcap)=some g6∨g6=w3.heap.size+1):
  Oj ix k T a b c d nd s Q B mB mp gv vn vr ops v W (j+1) Q2 v2 xs2 (.slice (some ⟨g6,0,none⟩) (j+1) cap6) (w6.setCell ⟨W.heap.size+1+1,6,none⟩ (.slice (some ⟨g6,0,none⟩) (j+1) cap6)):=by
 have hV:∀g,Value.ownBlock (.slice vso j vcap)=some g->W.heap.size+3<=g/\g<wr.heap.size:=h.own.lt;have lo:=Qz h.o;have hmB:mB<W.heap.size:=Qz HM.hm;have hmp:mp<W.heap.size:=HM.hmap.lt;have hvn:∀g,W.heap.size<=g->g<W.heap.size+3->v'.ownBlock≠some g:=fun g h1 h2 e=>by
  rcases h.vr' g e with h3|h3
  ·have:=(HM.ho.lt g h3).2;omega
  ·omega
 have ha:(w3.alloc X).heap.size=w3.heap.size+1:=World.size_alloc _ _;have hs3:=hF2.size;have hs6:=hgr.size;have E6:∀g,g<w3.heap.size->Value.ownBlock (.slice vso j vcap)≠some g->w6.heap[g]? =w3.heap[g]? :=fun g h1 h2=>(hgr.block g (by omega) (fun e=>h2 e.symm)).trans (Below.heap_alloc _ _ _ h1)
 have E3:∀g,g<wr.heap.size->g≠mB->g≠mp->v'.ownBlock≠some g->w3.heap[g]? =wr.heap[g]? :=fun g h1 h2 h3 h4=>(hF2.block g (by omega) h2 h3 h4).trans (hbD.block g h1)
 have EV:∀g,g<W.heap.size+3->Value.ownBlock (.slice vso j vcap)≠some g:=fun g h1 e=>by have:=hV g e;omega
 have E0:∀g,W.heap.size<=g->g<W.heap.size+3->w6.heap[g]? =wr.heap[g]? :=fun g h1 h2=>(E6 g (by omega) (EV g h2)).trans (E3 g (by omega) (by omega) (by omega) (hvn g h1 h2))
 have hQn:∀g,Value.ownBlock (.slice vso j vcap)=some g->¬Q2 g/\v2.ownBlock≠some g:=fun g e=>by
  have h1:=hV g e;have h2:=h.row g e;refine⟨fun hq=> ?_,fun hv=> ?_⟩
  ·rcases hQ2 g hq with h3|h3
   ·exact h2.1 h3
   ·omega
  ·rcases hF2.row g hv with h3|h3
   ·exact h2.2 h3
   ·omega
 have M6:Mkr w6 Q2 B mB mp gv vn vr (mkT ix s[j] (mkL ix (s.take j) ops).2).2 v2 xs2:=
  (hM2.below ((Below.refl _ w3).alloc L0q X)).kept hs6 (fun g=>Value.ownBlock (.slice vso j vcap)=some g) (fun g h1 h2=>hgr.block g h1 (fun e=>h2 e.symm)) (EV mB (by omega)) (EV mp (by omega)) (fun g hg e=>(hQn g e).2 hg) (fun g hg e=>(hQn g e).1 hg)
 have hoQ:¬Q2 (W.heap.size+1+1):=fun hq=>by
  rcases hQ2 _ hq with h3|h3
  ·rcases h.q _ h3 with h4|h4
   ·have:=(HM.hq _ h4).1;omega
   ·omega
  ·omega
 have hoV:∀g,v2.ownBlock=some g->g≠W.heap.size+1+1:=fun g hg e=>by
  subst e;rcases hF2.row _ hg with h3|h3
  ·exact hvn _ (by omega) (by omega) h3
  ·omega
 refine⟨(Below.heap_setCell _ _ _ _ (show W.heap.size≠W.heap.size+1+1 by omega)).trans ((E0 _ (by omega) (by omega)).trans h.n),(Below.heap_setCell _ _ _ _ (show W.heap.size+1≠W.heap.size+1+1 by omega)).trans ((E0 _ (by omega) (by omega)).trans h.z),Qb ((E0 _ (by omega) (by omega)).trans h.o) 6 _,?_,?_,fun g hg=> ?_,fun g hg=> ?_,fun g hg=> ?_,?_⟩
 ·rw[z4H ix s ops j hj,z4G]
  exact ownsRow_setCell_below hown (a:=⟨W.heap.size+1+1,6,none⟩) (show W.heap.size+1+1<W.heap.size+3 by omega) _
 ·rw[z4H ix s ops j hj]
  exact M6.kept (by rw[World.size_setCell];exact Nat.le_refl _) (fun g=>g=W.heap.size+1+1) (fun g _ h2=>Below.heap_setCell _ _ _ _ h2) (by omega) (by omega) hoV (fun g hg e=>hoQ (e▸hg))
 ·rcases hQ2 g hg with h3|h3
  ·exact h.q g h3
  ·exact .inr (by omega)
 ·obtain rfl:g6=g:=Option.some.inj hg
  rcases hat with h3|h3
  ·exact hQn _ h3
  ·exact⟨fun hq=>by have:=(hM2.hq _ hq).1;omega,fun hv=>by have:=(hM2.ho.lt _ hv).2;omega⟩
 ·rcases hF2.row g hg with h3|h3
  ·exact h.vr' g h3
  ·exact .inr (by omega)
 ·refine((h.fr.trans (Frm.of_below hbD)).trans hF2).more (hgr.os.trans rfl) (hgr.tape.trans rfl) (hgr.output.trans rfl) (by rw[World.size_setCell];omega) (fun g hg=> ?_)
  exact(Below.heap_setCell _ _ _ _ (show g≠W.heap.size+1+1 by omega)).trans (E6 g (by have:=h.fr.size;omega) (EV g (by omega)))
theorem Oj.fin{ix:ByteArray->Int}{k:Int}{T:ByteArray}{a b c d p:Int}{nd:Array Value}{s:List RT}{Q:Nat->Prop}{B mB mp:Nat}{gv vn vr:Value}{ops:List Ox}{v:Value}{xs:List Value}{W:World}{j:Nat}{Q':Nat->Prop}{v':Value}{xs':List Value}{vso:Option Addr}{vcap:Nat}{wr:World}(HM:Mkr W Q B mB mp gv vn vr ops v xs)(h:Oj ix k T a b c d nd s Q B mB mp gv vn vr ops v W j Q' v' xs' (.slice vso j vcap) wr)(hj:j=s.length)(hj2:j<=1048576)(hk5:¬k=5)(HW:∀l:List Int,SbZ l->qW (k,T,(a,b,c,d),l))(hT:T.size<=1073741824)(hnd:ops.length+ndL s<=1048576):
  OnP ix (.mk k T a b c d s p) Q B mB mp gv vn vr ops v W (.returned (.agg #[.int .i64 k,.string T,.int .u64 a,.int .u64 b,.int .u64 c,.int .u64 d,.slice vso j vcap])) (((((((wr.setCell ⟨W.heap.size+1,0,none⟩ (.int .i64 k)).setCell ⟨W.heap.size+1,1,none⟩ (.string T)).setCell ⟨W.heap.size+1,2,none⟩ (.int .u64 a)).setCell ⟨W.heap.size+1,3,none⟩ (.int .u64 b)).setCell ⟨W.heap.size+1,4,none⟩ (.int .u64 c)).setCell ⟨W.heap.size+1,5,none⟩ (.int .u64 d)).setCell ⟨W.heap.size+1,6,none⟩ (.slice vso j vcap)):=by
 obtain⟨Wf,hWf⟩:∃Wf,Wf=((((((wr.setCell ⟨W.heap.size+1,0,none⟩ (.int .i64 k)).setCell ⟨W.heap.size+1,1,none⟩ (.string T)).setCell ⟨W.heap.size+1,2,none⟩ (.int .u64 a)).setCell ⟨W.heap.size+1,3,none⟩ (.int .u64 b)).setCell ⟨W.heap.size+1,4,none⟩ (.int .u64 c)).setCell ⟨W.heap.size+1,5,none⟩ (.int .u64 d)).setCell ⟨W.heap.size+1,6,none⟩ (.slice vso j vcap):=⟨_,rfl⟩;have hE:∀g,g≠W.heap.size+1->Wf.heap[g]? =wr.heap[g]? :=fun g hg=>by rw[hWf];exact z4C hg
 have hS:Wf.heap.size=wr.heap.size:=by rw[hWf];exact z4D
 have hb0:Below 0 wr Wf:=by rw[hWf];exact Hk (Below.refl 0 wr) (Nat.zero_le _)
 rw[<-hWf];clear hWf;have htk:s.take j=s:=List.take_of_length_le (by omega);obtain⟨l1,⟨l2,l3⟩,l4⟩:=Kd ix s ops;have hll:(mkL ix s ops).1.length=j:=by rw[l2];exact hj.symm
 have hMk:=h.hmk;have hOw:=h.own;rw[htk]at hMk hOw;have hm1:mB<W.heap.size:=Qz HM.hm;have hm2:mp<W.heap.size:=HM.hmap.lt;have hvn:∀g,v'.ownBlock=some g->¬g=W.heap.size+1:=fun g e e2=>by
  rcases h.vr' g e with h3|h3
  ·have:=(HM.ho.lt g h3).2;omega
  ·omega
 have hqn:∀g,Q' g->¬g=W.heap.size+1:=fun g e e2=>by
  rcases h.q g e with h3|h3
  ·have:=(HM.hq g h3).1;omega
  ·omega
 have hMf:Mkr Wf Q' B mB mp gv vn vr (mkL ix s ops).2 v' xs':=hMk.kept (Nat.le_of_eq hS.symm) (fun g=>g=W.heap.size+1) (fun g _ h2=>hE g h2) (show ¬mB=W.heap.size+1 by omega) (show ¬mp=W.heap.size+1 by omega) hvn hqn;have hFf:Frm mB mp W v Wf v':=h.fr.more hb0.os hb0.tape hb0.output (Nat.le_of_eq hS.symm) (fun g hg=>hE g (by omega));have hz:=y2X ix s ops (by omega) hnd;have hRw:RwC Wf (fun g=>W.heap.size<=g/\g<Wf.heap.size/\¬Q' g/\v'.ownBlock≠some g) vso (mkL ix s ops).1:=fun i hi=>by
  obtain⟨g,gc,e,hg1,hg2⟩:=hOw.form (by omega);injection e with e _ _
  subst e;have hrow:=h.row g rfl;refine⟨g,0,rfl,⟨by omega,by omega,hrow.1,hrow.2⟩,?_⟩;have hc:=hOw.cells (g:=g) rfl i (.int .i64 (mkL ix s ops).1[i]) (by unfold nI;rw[List.getElem?_map,List.getElem?_eq_getElem hi];rfl);have hadd:(⟨g,0,none⟩:Addr).add i=⟨g,0+i,none⟩:=by unfold Addr.add;split<;>simp_all
  rw[hadd]at hc;exact(World.cell?_of_block (a:=⟨g,0+i,none⟩) (hE g (by omega))).trans hc
 refine⟨(k,T,(a,b,c,d),(mkL ix s ops).1),[.int .i64 k,.string T,.int .u64 a,.int .u64 b,.int .u64 c,.int .u64 d,.slice vso (mkL ix s ops).1.length vcap],Q',v',xs',(mkL ix s ops).2,?_,⟨vso,vcap,rfl,?_,hRw⟩,?_,⟨HW _ hz,hz,hT,by omega⟩,hMf,fun g hg=>(h.q g hg).imp id (fun h=>by omega),hFf⟩
 ·rw[hll]
 ·show(mkL ix s ops).1.length<=_
  omega
 ·rw[mkT,if_neg hk5]
theorem y3c(ix:ByteArray->Int)(k:Int)(T:ByteArray)(a b c d:Int)(so:Option Addr)(n cap:Nat)(p:Int)(s:List RT)(Q:Nat->Prop)(B mB mp:Nat)(gv vn vr:Value)(ops:List Ox)(v:Value)(xs:List Value)(w0 W:World)(hk5:(k == 5)=false)(HN:Hid (n=s.length))(hn:n<=1048576)(hmB:w0.heap.size<=mB)(hmp:w0.heap.size<=mp)(HB0:Hid (Below w0.heap.size w0 W))(hBW:B<=W.heap.size)
  (HM:Hid (Mkr W Q B mB mp gv vn vr ops v xs))(HW:Hid (∀l:List Int,SbZ l->qW (k,T,(a,b,c,d),l)))(hT:T.size<=1073741824)(hnd:ops.length+ndL s<=1048576)
  (HC:Hid (∀j (hj:j<s.length),∃g o,so=some ⟨g,o,none⟩/\g<w0.heap.size/\∃k1 T1 a1 b1 c1 d1 so1 n1 cap1 p1,Rc w0 g (o+j*8) k1 T1 a1 b1 c1 d1 (.slice so1 n1 cap1) p1/\
    ∀(W1:World) (Q1:Nat->Prop) (ops1:List Ox) (v1:Value) (xs1:List Value),Below w0.heap.size w0 W1->B<=W1.heap.size->Mkr W1 Q1 B mB mp gv vn vr ops1 v1 xs1->ops1.length+ndT s[j]<=1048576->Calls prog 33 #[.pointer (some ⟨mB,0,none⟩),.agg #[.int .i64 k1,.string T1,.int .u64 a1,.int .u64 b1,.int .u64 c1,.int .u64 d1,.slice so1 n1 cap1,.int .i64 p1]] W1 (PlP ix s[j] Q1 B mB mp gv vn vr ops1 v1 W1))):
  Calls prog 60 #[.pointer (some ⟨mB,0,none⟩),.agg #[.int .i64 k,.string T,.int .u64 a,.int .u64 b,.int .u64 c,.int .u64 d,.slice so n cap,.int .i64 p]] W (OnP ix (.mk k T a b c d s p) Q B mB mp gv vn vr ops v W):=by
 obtain⟨hB1,e0,e1,e2,hs1⟩:=y3b W (.cells #[.int .i64 k,.string T,.int .u64 a,.int .u64 b,.int .u64 c,.int .u64 d,.slice so n cap,.int .i64 p] 71) (.cells #[.int .i64 0,.string ⟨#[]⟩,.int .u64 0,.int .u64 0,.int .u64 0,.int .u64 0,.slice none 0 0] 75) (.cells #[.int .i64 k,.string T,.int .u64 a,.int .u64 b,.int .u64 c,.int .u64 d,.slice none 0 0] 75);obtain⟨W1,hW1⟩:∃W1,W1=((W.alloc (.cells #[.int .i64 k,.string T,.int .u64 a,.int .u64 b,.int .u64 c,.int .u64 d,.slice so n cap,.int .i64 p] 71)).alloc (.cells #[.int .i64 0,.string ⟨#[]⟩,.int .u64 0,.int .u64 0,.int .u64 0,.int .u64 0,.slice none 0 0] 75)).alloc (.cells #[.int .i64 k,.string T,.int .u64 a,.int .u64 b,.int .u64 c,.int .u64 d,.slice none 0 0] 75):=⟨_,rfl⟩;rw[<-hW1]at hB1 e0 e1 e2 hs1;have HJ0:Hid (Oj ix k T a b c d #[.int .i64 k,.string T,.int .u64 a,.int .u64 b,.int .u64 c,.int .u64 d,.slice so n cap,.int .i64 p] s Q B mB mp gv vn vr ops v W 0 Q v xs (.slice none 0 0) W1):=hid ⟨e0,e1,e2,by rw[List.take_zero,mkL];exact World.ownsRow_nil _ _ _ _,by rw[List.take_zero,mkL];exact HM.out.below hB1,fun g hg=>.inl hg,fun g hg=>(by cases hg),fun g hg=>.inl hg,Frm.of_below hB1⟩;have HB1:=hid hB1;have HW1:=hid hW1;obtain⟨q1,q2,q3⟩:=Fz W (.cells #[.int .i64 k,.string T,.int .u64 a,.int .u64 b,.int .u64 c,.int .u64 d,.slice so n cap,.int .i64 p] 71) (.cells #[.int .i64 0,.string ⟨#[]⟩,.int .u64 0,.int .u64 0,.int .u64 0,.int .u64 0,.slice none 0 0] 75);obtain⟨⟨m0,m1,m2,m3,m4,m5,m6,m7⟩,_⟩:=Qw q2;have l0:=Qz q2;clear hB1 e0 e1 e2 hW1 q1 q3;go_enter func60,ntmps60
 go_wp2_with fail
 rw[<-HW1.out];clear HW1 m0 m1 m2 m3 m4 m5 m6 m7 l0;obtain⟨iT,hiT,hzT0,hzT1,hzT2⟩:=info_parts Tryz.infoInt
 go_loopw [30] (fun i wr=>∃(j:Nat) (Q':Nat->Prop) (v':Value) (xs':List Value) (vs:Value),i=.int .i64 j/\j<=n/\Hid (Oj ix k T a b c d #[.int .i64 k,.string T,.int .u64 a,.int .u64 b,.int .u64 c,.int .u64 d,.slice so n cap,.int .i64 p] s Q B mB mp gv vn vr ops v W j Q' v' xs' vs wr)) (fun i _=>n-(intOf i).toNat)
 case atStart=>exact⟨0,_,_,_,_,rfl,Nat.zero_le _,HJ0⟩
 case round=>
  obtain⟨j,Q',v',xs',vs,rfl,hj,HJ⟩:=hrel;clear HJ0;have lW:W.heap.size+3<=wr.heap.size:=by
   have h1:=Qz HJ.out.o;omega
  obtain⟨vso,vcap,rfl⟩:=Yh HJ.out.own;have HBr:Hid (Below w0.heap.size w0 wr):=hid (HJ.out.fr.below HB0.out HB0.out.size hmB hmp (fun g e=>by have:=(HM.out.ho.lt g e).1;have:=HM.out.hmB;omega));by_cases hjn:j<n
  ·have hjI:(j:Int)<(n:Int):=by omega
   have a0:decide ((j:Int)<(n:Int))=true:=by simp;omega
   have hjs:j<s.length:=by rw[<-HN.out];exact hjn
   obtain⟨g,o,rfl,hg,k1,T1,a1,b1,c1,d1,so1,n1,cap1,p1,rc,hcall⟩:=HC.out j hjs;obtain⟨z0,z1,z2,z3,z4,z5,z6,z7⟩:=rc.below HBr.out hg;have hbA:Below wr.heap.size wr (wr.alloc (.cells #[.int .i64 k1,.string T1,.int .u64 a1,.int .u64 b1,.int .u64 c1,.int .u64 d1,.slice so1 n1 cap1,.int .i64 p1] 71)):=(Below.refl _ wr).alloc L0q _;obtain⟨Wd,hWd⟩:∃Wd,Wd=(wr.alloc (.cells #[.int .i64 k1,.string T1,.int .u64 a1,.int .u64 b1,.int .u64 c1,.int .u64 d1,.slice so1 n1 cap1,.int .i64 p1] 71)).drew:=⟨_,rfl⟩;have hbD:Below wr.heap.size wr Wd:=by rw[hWd];exact hbA.drew
   have hsD:Wd.heap.size=wr.heap.size+1:=by rw[hWd];exact World.size_alloc _ _
   have hnD:Wd.heap[wr.heap.size]? =some (.cells #[.int .i64 k1,.string T1,.int .u64 a1,.int .u64 b1,.int .u64 c1,.int .u64 d1,.slice so1 n1 cap1,.int .i64 p1] 71):=by rw[hWd];exact Qx wr _ rfl
   have hnT:=Tf s j hjs;have hlT:=(Kd ix (s.take j) ops).1;have HPl:=hid (hcall Wd Q' _ v' xs' (HBr.out.trans (hbD.mono HBr.out.size)) (by omega) (HJ.out.hmk.below hbD) (by omega));have HV:Hid (∀g,Value.ownBlock (.slice vso j vcap)=some g->W.heap.size+3<=g/\g<wr.heap.size):=hid HJ.out.own.lt;have hvo:∀g,v'.ownBlock=some g->g<wr.heap.size:=fun g e=>(HJ.out.hmk.ho.lt g e).2
   have hmm:mB<W.heap.size/\mp<W.heap.size:=⟨Qz HM.out.hm,HM.out.hmap.lt⟩;have hvn:∀g,W.heap.size<=g->g<W.heap.size+3->v'.ownBlock≠some g:=fun g h1 h2 e=>by
    rcases HJ.out.vr' g e with h3|h3
    ·have:=(HM.out.ho.lt g h3).2;omega
    ·omega
   have HNo:Hid (W.heap.size+1+1≠mB/\W.heap.size+1+1≠mp/\v'.ownBlock≠some (W.heap.size+1+1)):=hid ⟨by omega,by omega,hvn _ (by omega) (by omega)⟩;have HNw:Hid (wr.heap.size≠mB/\wr.heap.size≠mp/\v'.ownBlock≠some wr.heap.size):=hid ⟨by omega,by omega,fun e=>by have:=hvo _ e;omega⟩;have HNv:Hid (some (W.heap.size+1+1)≠Value.ownBlock (.slice vso j vcap)):=hid fun e=>by have:=HV.out _ e.symm;omega
   have HNn:Hid (some wr.heap.size≠Value.ownBlock (.slice vso j vcap)):=hid fun e=>by have:=HV.out _ e.symm;omega
   have HOs:Hid (∀(w3:World) (v2:Value),Frm mB mp Wd v' w3 v2->w3.ownsRow (W.heap.size+3) 3 1 (.slice vso j vcap) j (nI (mkL ix (s.take j) ops).1)):=hid fun w3 v2 h=>Jz HJ.out.own fun g e=>by
    have h1:=HV.out g e;exact(h.block g (by omega) (by omega) (by omega) (HJ.out.row g e).2).trans (hbD.block g h1.2)
   have HSz:Hid (∀(w3:World) (v2:Value),Frm mB mp Wd v' w3 v2->W.heap.size+3<=(w3.alloc (.cells #[(.int .i64 ((mkT ix s[j] (mkL ix (s.take j) ops).2).1:Nat))] 3)).heap.size):=hid fun w3 v2 h=>by have:=h.size;rw[World.size_alloc];omega
   have HL4:Hid (∀(w3:World) (v2:Value),Frm mB mp Wd v' w3 v2->W.heap.size+1+1<w3.heap.size):=hid fun w3 v2 h=>by have:=h.size;omega
   have HL3:Hid (∀(w3:World) (v2:Value),Frm mB mp Wd v' w3 v2->W.heap.size+1+1<(w3.alloc (.cells #[(.int .i64 ((mkT ix s[j] (mkL ix (s.take j) ops).2).1:Nat))] 3)).heap.size):=hid fun w3 v2 h=>by have:=h.size;rw[World.size_alloc];omega
   have HOb:Hid (∀(w3:World) (v2:Value),Frm mB mp Wd v' w3 v2->w3.heap[W.heap.size+1+1]? =some (.cells #[.int .i64 k,.string T,.int .u64 a,.int .u64 b,.int .u64 c,.int .u64 d,.slice vso j vcap] 75)):=hid fun w3 v2 h=>(h.block _ (by omega) HNo.out.1 HNo.out.2.1 HNo.out.2.2).trans ((hbD.block _ (by omega)).trans HJ.out.o)
   have mm1:j+1<=maxLen:=by unfold maxLen;omega
   have mm2:(j+1)*8<=140737488355328:=by omega
   have HS7:Hid ((fun X:World=>X.cell? ⟨W.heap.size+1+1,6,none⟩=some (.slice vso j vcap)/\X.cell? ⟨wr.heap.size,0,none⟩=some (.int .i64 k1)/\X.cell? ⟨wr.heap.size,1,none⟩=some (.string T1)/\X.cell? ⟨wr.heap.size,2,none⟩=some (.int .u64 a1)/\X.cell? ⟨wr.heap.size,3,none⟩=some (.int .u64 b1)/\X.cell? ⟨wr.heap.size,4,none⟩=some (.int .u64 c1)/\X.cell? ⟨wr.heap.size,5,none⟩=some (.int .u64 d1)/\X.cell? ⟨wr.heap.size,6,none⟩=some (.slice so1 n1 cap1)/\X.cell? ⟨wr.heap.size,7,none⟩=some (.int .i64 p1)) (wr.alloc (.cells #[.int .i64 k1,.string T1,.int .u64 a1,.int .u64 b1,.int .u64 c1,.int .u64 d1,.slice so1 n1 cap1,.int .i64 p1] 71)).drew):=by
    rw[<-hWd];obtain⟨⟨_,_,_,_,_,_,x6⟩,_⟩:=Xb ((hbD.block _ (by omega)).trans HJ.out.o);obtain⟨⟨y0,y1,y2,y3,y4,y5,y6,y7⟩,_⟩:=Qw hnD;exact⟨x6,y0,y1,y2,y3,y4,y5,y6,y7⟩
   have HWd:=hid hWd;have HsD:=hid hsD;have HbD:=hid hbD;clear hcall rc hbA hWd hbD hnD hnT hlT hvo hvn hsD
   go_wp2_with fail
   refine Zl 8 (fun X:World=>X.cell? ⟨W.heap.size+1+1,6,none⟩=some (.slice vso j vcap)/\X.cell? ⟨wr.heap.size,0,none⟩=some (.int .i64 k1)/\X.cell? ⟨wr.heap.size,1,none⟩=some (.string T1)/\X.cell? ⟨wr.heap.size,2,none⟩=some (.int .u64 a1)/\X.cell? ⟨wr.heap.size,3,none⟩=some (.int .u64 b1)/\X.cell? ⟨wr.heap.size,4,none⟩=some (.int .u64 c1)/\X.cell? ⟨wr.heap.size,5,none⟩=some (.int .u64 d1)/\X.cell? ⟨wr.heap.size,6,none⟩=some (.slice so1 n1 cap1)/\X.cell? ⟨wr.heap.size,7,none⟩=some (.int .i64 p1)) (by kernel_rfl) HS7.out (fun hHeld=> ?_);rw[<-HWd.out]at hHeld ⊢;refine Qq 0 hHeld ?_;refine Qq 1 hHeld ?_;refine Qq 2 hHeld ?_;refine Qq 3 hHeld ?_
   (refine Qd 4 (fun K hK=> ?_);go_simp;refine HPl.out.mono ?_;rintro e w3 ⟨Q2,v2,xs2,rfl,hM2,hQ2,hF2⟩;have HM2:=hid hM2;have HQ2:=hid hQ2;have HF2:=hid hF2;clear hM2 hQ2 hF2;go_simp;replace hHeld:=y2Z hHeld HF2.out HNo.out HNw.out;refine hK.out _ _ hHeld ?_;clear hK K)
   (try simp only[Act.put,List.setIfInBounds_toArray,List.set_cons_zero,List.set_cons_succ])
   (refine Qd 5 (fun K hK=> ?_);go_simp;replace hHeld:=z4F hHeld ((Below.refl _ w3).alloc L0q (.cells #[(.int .i64 ((mkT ix s[j] (mkL ix (s.take j) ops).2).1:Nat))] 3));refine hK.out _ _ hHeld ?_;clear hK K)
   (try simp only[Act.put,List.setIfInBounds_toArray,List.set_cons_zero,List.set_cons_succ])
   (refine Qd 6 (fun K hK=> ?_);refine step_append_lies _ rfl (.tmp 35) (.tmp 39) 29 rfl (W.heap.size+3) 3 iT (.int .i64 0) 1 8 Tryz.underlying29 hiT hzT0 hzT1 hzT2 rfl (by decide) (.slice vso j vcap) j (nI (mkL ix (s.take j) ops).1) (by rfl) ((HOs.out w3 v2 HF2.out).alloc _) ⟨w3.heap.size,0,none⟩ 1 1 [(.int .i64 ((mkT ix s[j] (mkL ix (s.take j) ops).2).1:Nat))] (by rfl) rfl (Ax _ _ _) (by simp[Value.oneCell']) (by decide) mm1 mm2 (HSz.out w3 v2 HF2.out) (w3.heap.size+1) (World.size_alloc _ _) ?_;intro g6 cap6 w6 hown6 hgr6 hat6 hlt6;replace hHeld:=y3a hHeld HNv.out HNn.out hgr6;have HO6:=hid hown6;have HG6:=hid hgr6;have HA6:=hid hat6;clear hown6 hgr6 hat6;refine hK.out _ _ hHeld ?_;clear hK K)
   (try simp only[Act.put,List.setIfInBounds_toArray,List.set_cons_zero,List.set_cons_succ])
   refine Qq 7 hHeld ?_;refine Jh (fun K hK=> ?_);have HC6:=hid ((HG6.out.block _ (HL3.out w3 v2 HF2.out) HNv.out).trans ((Below.heap_alloc _ _ _ (HL4.out w3 v2 HF2.out)).trans (HOb.out w3 v2 HF2.out)));obtain⟨⟨s0,s1,s2,s3,s4,s5,s6⟩,f0,f1,f2,f3,f4,f5,f6⟩:=Xb HC6.out;have ls:=Qz HC6.out;clear hHeld
   go_simp
   refine hK.out _ _ ?_;clear hK K s0 s1 s2 s3 s4 s5 s6 f0 f1 f2 f3 f4 f5 f6 ls
   go_wp2_with fail
   refine⟨⟨j+1,_,_,_,_,by go_num,by omega,hid (HJ.out.step HM.out hjs HbD.out HsD.out HM2.out HQ2.out HF2.out HO6.out HG6.out HA6.out)⟩,by simp[intOf];omega⟩
  ·have a0:decide ((j:Int)<(n:Int))=false:=by simp;omega
   obtain rfl:j=n:=by omega
   obtain⟨⟨o0,o1,o2,o3,o4,o5,o6⟩,_⟩:=Xb HJ.out.o;obtain⟨⟨z0,z1,z2,z3,z4,z5,z6⟩,⟨f0,f1,f2,f3,f4,f5,f6⟩⟩:=Xb HJ.out.z;have lo:=Qz HJ.out.o;have lz:=Qz HJ.out.z
   go_wp2_with fail
   have hP:=Tv (v0:=.int .i64 k) (v1:=.string T) (v2:=.int .u64 a) (v3:=.int .u64 b) (v4:=.int .u64 c) (v5:=.int .u64 d) (v6:=.slice vso j vcap) HJ.out.z;obtain⟨⟨r0,r1,r2,r3,r4,r5,r6⟩,_⟩:=Xb hP;refine bodyPost_ret (v:=.agg #[.int .i64 k,.string T,.int .u64 a,.int .u64 b,.int .u64 c,.int .u64 d,.slice vso j vcap]) (by simp[results,Tryz.results60,go_sem,r0,r1,r2,r3,r4,r5,r6]) rfl ?_;exact HJ.out.fin HM.out HN.out hn (by simpa using hk5) HW.out hT hnd
section
mutual
def TrK:RT->Prop
 | .mk k T a b c d s _=>((Lit.int .i64 k).wf=true/\T.size<=1073741824/\(Lit.int .u64 a).wf=true/\(Lit.int .u64 b).wf=true/\(Lit.int .u64 c).wf=true/\(Lit.int .u64 d).wf=true/\s.length<=1048576)/\Fq s
def Fq:List RT->Prop
 |[]=>True
 |t::r=>TrK t/\Fq r
end
theorem z4I:∀{s:List RT},Fq s->∀j (hj:j<s.length),TrK s[j]
 |t::r,h,0,_=>by rw[Fq]at h;exact h.1
 |t::r,h,j+1,hj=>by rw[Fq]at h;exact z4I h.2 j (by simpa using hj)
theorem y3d(T:ByteArray)(l:List ByteArray)(h:l.length<=1048576): -1<=fdI T l/\fdI T l<=1048576:=by
 unfold fdI;split
 ·rename_i h1
  have:=Cp T l h1;omega
 ·omega
section
variable {w0:World} {rs:List Rr} {gso:Option Addr} {gn gcap B mB mp:Nat} {vn vr:Value}
theorem z4J(hR:Qv w0 w0.heap.size gso gn rs)(hrl:rs.length<=1048576)(hP:Yj w0)(hmB:w0.heap.size<=mB)(hmp:w0.heap.size<=mp):∀(N:Nat) (t:RT) (cs:List Value),SizeOf.sizeOf t<N->Qj w0 w0.heap.size t cs->TrK t->
  ∀(W:World) (Q:Nat->Prop) (ops:List Ox) (v:Value) (xs:List Value),Below w0.heap.size w0 W->B<=W.heap.size->Mkr W Q B mB mp (.slice gso gn gcap) vn vr ops v xs->ops.length+ndT t<=1048576->
  Calls prog 33 #[.pointer (some ⟨mB,0,none⟩),.agg cs.toArray] W (PlP (fun T=>fdI T (nmL rs)) t Q B mB mp (.slice gso gn gcap) vn vr ops v W)
 |0,t,_,h,_,_=>by omega
 |N+1,.mk k T a b c d s p,cs,hN,ht,hk=>fun W Q ops v xs hW hBW hM hnd=>by
  rw[Qj]at ht;obtain⟨so,cap,rfl,ht⟩:=ht;rw[TrK]at hk;obtain⟨⟨k1,k2,k3,k4,k5,k6,k7⟩,hks⟩:=hk;rw[ndT]at hnd;refine y2W _ _ k T a b c d so (Qp s) cap p Q B mB mp _ vn vr ops v w0 W hmB hmp (hid hW) (hid hP) (Qz hM.hm) hM.hmap.lt (hid fun g e=>(hM.ho.lt g e).1) hM.hmB hM.hmp hBW (hid fun W1 hW1=> ?_);have hb1:Below w0.heap.size w0 W1:=hW.trans (hW1.mono hW.size);have hM1:=hM.below hW1;by_cases h5:k=5
  ·subst h5
   refine y2Y _ T a b c d so (Qp s) cap p s Q B mB mp gso gn gcap vn vr ops v xs W1 (by omega) (y3d T _ (by unfold nmL;rw[List.length_map];exact hrl)) (hid hM1) (hid fun W2 hW2=> ?_);have hb2:Below w0.heap.size w0 W2:=hb1.trans (hW2.mono hb1.size);exact Sw T gso gn gcap rs w0.heap.size W2 (hR.below hb2) hb2.size
  ·refine y3c _ k T a b c d so (Qp s) cap p s Q B mB mp _ vn vr ops v xs w0 W1 (by simpa using h5) (hid (Xd s)) (by rw[Xd];exact k7) hmB hmp (hid hb1) (Nat.le_trans hBW hW1.size) (hid hM1) (hid fun l hl=>⟨k1,(show T.size<=maxLen by unfold maxLen;omega),k3,k4,k5,k6,(show(sbT l).length<=maxLen by have:=hl.2;unfold maxLen;omega)⟩) k2 (by omega) (hid fun j hj=> ?_)
   rcases ht with h1|⟨h1,g,o,rfl,hg,hm,hs⟩
   ·have hs0:s=[]:=by simpa using h1
    subst hs0;simp at hj
   ·obtain⟨k1,T1,a1,b1,c1,d1,so1,n1,cap1,p1,r1,r2⟩:=Dl hs j hj
    refine⟨g,o,rfl,hg,k1,T1,a1,b1,c1,d1,so1,n1,cap1,p1,r2,fun W2 Q2 ops2 v2 xs2 h2 h3 h4 h5=> ?_⟩;have hsz:=List.sizeOf_lt_of_mem (List.getElem_mem hj);simp only[RT.mk.sizeOf_spec]at hN;exact z4J hR hrl hP hmB hmp N s[j] _ (by omega) r1 (z4I hks j hj) W2 Q2 ops2 v2 xs2 h2 h3 h4 h5
end
end
def nS(l:List Rr):List Value:=l.map fun x=>.string x.1
def ndG:List Rr->Nat
 |[]=>0
 |x::r=>ndT x.2.1+ndG r
theorem Hw(a b:List Rr):ndG (a++b)=ndG a+ndG b:=by
 induction a with
 |nil=>rw[List.nil_append,ndG,Nat.zero_add]
 |cons t r ih=>rw[List.cons_append,ndG,ndG,ih,Nat.add_assoc]
theorem z4K(s:List Rr)(j:Nat)(hj:j<s.length):ndG (s.take j)+ndT s[j].2.1<=ndG s:=by
 have h:ndG s=ndG (s.take (j+1))+ndG (s.drop (j+1)):=by rw[<-Hw,List.take_append_drop]
 rw[List.take_succ_eq_append_getElem hj,Hw,ndG,ndG]at h;omega
theorem Km(ix:ByteArray->Int):∀(s:List Rr) (ops:List Ox),(mkG ix s ops).2.length<=ops.length+ndG s/\((mkG ix s ops).1.length=s.length/\∀x∈(mkG ix s ops).1,0<=x/\x<((mkG ix s ops).2.length:Int))/\∃l,(mkG ix s ops).2=ops++l
 |[],ops=>by
  rw[mkG,ndG];exact⟨Nat.le_refl _,⟨rfl,fun x hx=>by cases hx⟩,[],(List.append_nil _).symm⟩
 |t::r,ops=>by
  rw[mkG,ndG];dsimp only;obtain⟨h1,h2,l,h3⟩:=Tw ix t.2.1 ops;obtain⟨h4,⟨h5,h6⟩,l2,h7⟩:=Km ix r (mkT ix t.2.1 ops).2;refine⟨by omega,⟨by rw[List.length_cons,List.length_cons,h5],fun x hx=> ?_⟩,l++l2,by rw[h7,h3,List.append_assoc]⟩;have h8:(mkT ix t.2.1 ops).2.length<=(mkG ix r (mkT ix t.2.1 ops).2).2.length:=by rw[h7,List.length_append];omega
  rcases List.mem_cons.1 hx with rfl|hx
  ·exact⟨by omega,by omega⟩
  ·exact h6 x hx
theorem Tg(ix:ByteArray->Int)(t:Rr):∀(s:List Rr) (ops:List Ox),mkG ix (s++[t]) ops=((mkG ix s ops).1++[((mkT ix t.2.1 (mkG ix s ops).2).1:Int)],(mkT ix t.2.1 (mkG ix s ops).2).2)
 |[],ops=>by rw[List.nil_append,mkG,mkG,mkG,List.nil_append]
 |x::r,ops=>by rw[List.cons_append,mkG,mkG,Tg ix t r,List.cons_append]
theorem z4L(ix:ByteArray->Int)(s:List Rr)(ops:List Ox)(j:Nat)(hj:j<s.length):mkG ix (s.take (j+1)) ops=((mkG ix (s.take j) ops).1++[((mkT ix s[j].2.1 (mkG ix (s.take j) ops).2).1:Int)],(mkT ix s[j].2.1 (mkG ix (s.take j) ops).2).2):=by
 rw[List.take_succ_eq_append_getElem hj,Tg]
theorem y3e(s:List Rr)(j:Nat)(hj:j<s.length):nS (s.take (j+1))=nS (s.take j)++[.string s[j].1]:=by
 unfold nS;rw[List.take_succ_eq_append_getElem hj,List.map_append];rfl
theorem Mkr.setN{W:World}{Q:Nat->Prop}{B mB mp:Nat}{gv vn vr v u:Value}{ops:List Ox}{xs:List Value}(h:Mkr W Q B mB mp gv vn vr ops v xs):Mkr (W.setCell ⟨mB,2,none⟩ u) Q B mB mp gv u vr ops v xs:=
 ⟨Qb h.hm 2 u,ownsRow_setCell_below h.ho (a:=⟨mB,2,none⟩) h.hmB u,h.hops.keep fun g hg=>⟨hg,Below.heap_setCell _ _ _ _ (h.hq g hg).2.1⟩,h.hmap.same (Below.heap_setCell _ _ _ _ h.hne.symm),fun g hg=>⟨by rw[World.size_setCell];exact(h.hq g hg).1,(h.hq g hg).2⟩,h.hmB,h.hmp,h.hne⟩
theorem Mkr.setR{W:World}{Q:Nat->Prop}{B mB mp:Nat}{gv vn vr v u:Value}{ops:List Ox}{xs:List Value}(h:Mkr W Q B mB mp gv vn vr ops v xs):Mkr (W.setCell ⟨mB,3,none⟩ u) Q B mB mp gv vn u ops v xs:=
 ⟨Qb h.hm 3 u,ownsRow_setCell_below h.ho (a:=⟨mB,3,none⟩) h.hmB u,h.hops.keep fun g hg=>⟨hg,Below.heap_setCell _ _ _ _ (h.hq g hg).2.1⟩,h.hmap.same (Below.heap_setCell _ _ _ _ h.hne.symm),fun g hg=>⟨by rw[World.size_setCell];exact(h.hq g hg).1,(h.hq g hg).2⟩,h.hmB,h.hmp,h.hne⟩
structure Gj (ix:ByteArray->Int) (rs:List Rr) (gv:Value) (wc:World) (jn jr:Nat) (Q:Nat->Prop) (v:Value) (xs:List Value) (vn vr:Value) (wr:World):Prop where
 be:Below wc.heap.size wc wr
 hmk:Mkr wr Q (wc.heap.size+2) (wc.heap.size+1) wc.heap.size gv vn vr (mkG ix (rs.take jr) []).2 v xs
 on:wr.ownsRow (wc.heap.size+2) 9 1 vn jn (nS (rs.take jn))
 or:wr.ownsRow (wc.heap.size+2) 3 1 vr jr (nI (mkG ix (rs.take jr) []).1)
 d1:∀g,vn.ownBlock=some g->¬Q g/\v.ownBlock≠some g/\vr.ownBlock≠some g
 d2:∀g,vr.ownBlock=some g->¬Q g/\v.ownBlock≠some g
 qb:∀g,Q g->wc.heap.size<=g
theorem Gj.below{ix:ByteArray->Int}{rs:List Rr}{gv:Value}{wc:World}{jn jr:Nat}{Q:Nat->Prop}{v:Value}{xs:List Value}{vn vr:Value}{wr w':World}(h:Gj ix rs gv wc jn jr Q v xs vn vr wr)(hb:Below wr.heap.size wr w'):Gj ix rs gv wc jn jr Q v xs vn vr w':=
 ⟨h.be.trans (hb.mono h.be.size),h.hmk.below hb,Jz h.on fun g e=>hb.block g (h.on.lt g e).2,Jz h.or fun g e=>hb.block g (h.or.lt g e).2,h.d1,h.d2,h.qb⟩
theorem Gj.names{ix:ByteArray->Int}{rs:List Rr}{gv:Value}{wc:World}{j:Nat}{Q:Nat->Prop}{v:Value}{xs:List Value}{vn vr:Value}{w3 w6:World}{X:Obj}{g6 cap6:Nat}(h:Gj ix rs gv wc j j Q v xs vn vr w3)(hj:j<rs.length)
  (hown:w6.ownsRow (wc.heap.size+2) 9 1 (.slice (some ⟨g6,0,none⟩) (j+1) cap6) (j+1) (nS (rs.take j)++[.string rs[j].1]))(hgr:(w3.alloc X).grownBy w6 vn.ownBlock)(hat:vn.ownBlock=some g6∨g6=w3.heap.size+1):
  Gj ix rs gv wc (j+1) j Q v xs (.slice (some ⟨g6,0,none⟩) (j+1) cap6) vr (w6.setCell ⟨wc.heap.size+1,2,none⟩ (.slice (some ⟨g6,0,none⟩) (j+1) cap6)):=by
 have ha:=h.below ((Below.refl _ w3).alloc L0q X);have hs:(w3.alloc X).heap.size=w3.heap.size+1:=World.size_alloc _ _;have hv:∀g,vn.ownBlock=some g->wc.heap.size+2<=g/\g<w3.heap.size:=h.on.lt;have M6:Mkr w6 Q (wc.heap.size+2) (wc.heap.size+1) wc.heap.size gv vn vr (mkG ix (rs.take j) []).2 v xs:=ha.hmk.kept hgr.size (fun g=>vn.ownBlock=some g) (fun g h1 h2=>hgr.block g h1 (fun e=>h2 e.symm)) (fun e=>by have:=hv _ e;omega) (fun e=>by have:=hv _ e;omega) (fun g hg e=>(h.d1 g e).2.1 hg) (fun g hg e=>(h.d1 g e).1 hg);refine⟨?_,M6.setN,?_,?_,fun g hg=> ?_,h.d2,h.qb⟩
 ·exact(ha.be.grown hgr ha.be.size (fun g e=>by have:=hv g e;omega)).setCell (p:=⟨wc.heap.size+1,2,none⟩) (show wc.heap.size<=wc.heap.size+1 by omega) _
 ·rw[y3e rs j hj]
  exact ownsRow_setCell_below hown (a:=⟨wc.heap.size+1,2,none⟩) (show wc.heap.size+1<wc.heap.size+2 by omega) _
 ·refine ownsRow_setCell_below (Jz ha.or fun g e=>hgr.block g (ha.or.lt g e).2 (fun e2=>(h.d1 g e2.symm).2.2 e)) (a:=⟨wc.heap.size+1,2,none⟩) (show wc.heap.size+1<wc.heap.size+2 by omega) _
 ·obtain rfl:g6=g:=Option.some.inj hg
  rcases hat with h3|h3
  ·exact h.d1 _ h3
  ·exact⟨fun hq=>by have:=(h.hmk.hq _ hq).1;omega,fun e=>by have:=(h.hmk.ho.lt _ e).2;omega,fun e=>by have:=(h.or.lt _ e).2;omega⟩
theorem Gj.roots{ix:ByteArray->Int}{rs:List Rr}{gv:Value}{wc:World}{j:Nat}{Q:Nat->Prop}{v:Value}{xs:List Value}{vn vr:Value}{W w8 w9:World}{X:Obj}{g9 cap9:Nat}{Q2:Nat->Prop}{v2:Value}{xs2:List Value}(h:Gj ix rs gv wc (j+1) j Q v xs vn vr W)(hj:j<rs.length)
  (hM2:Mkr w8 Q2 (wc.heap.size+2) (wc.heap.size+1) wc.heap.size gv vn vr (mkT ix rs[j].2.1 (mkG ix (rs.take j) []).2).2 v2 xs2)(hQ2:∀g,Q2 g->Q g∨W.heap.size<=g)(hF2:Frm (wc.heap.size+1) wc.heap.size W v w8 v2)
  (hown:w9.ownsRow (wc.heap.size+2) 3 1 (.slice (some ⟨g9,0,none⟩) (j+1) cap9) (j+1) (nI (mkG ix (rs.take j) []).1++[.int .i64 ((mkT ix rs[j].2.1 (mkG ix (rs.take j) []).2).1:Nat)]))(hgr:(w8.alloc X).grownBy w9 vr.ownBlock)(hat:vr.ownBlock=some g9∨g9=w8.heap.size+1):
  Gj ix rs gv wc (j+1) (j+1) Q2 v2 xs2 vn (.slice (some ⟨g9,0,none⟩) (j+1) cap9) (w9.setCell ⟨wc.heap.size+1,3,none⟩ (.slice (some ⟨g9,0,none⟩) (j+1) cap9)):=by
 have hs:(w8.alloc X).heap.size=w8.heap.size+1:=World.size_alloc _ _;have hvr:∀g,vr.ownBlock=some g->wc.heap.size+2<=g/\g<W.heap.size:=h.or.lt;have hvn:∀g,vn.ownBlock=some g->wc.heap.size+2<=g/\g<W.heap.size:=h.on.lt;have h8:=hF2.size;have e1:∀g,g<W.heap.size->¬Q g->¬Q2 g:=fun g h1 h2 hq=>by
  rcases hQ2 g hq with h3|h3
  ·exact h2 h3
  ·omega
 have e2:∀g,g<W.heap.size->v.ownBlock≠some g->v2.ownBlock≠some g:=fun g h1 h2 hq=>by
  rcases hF2.row g hq with h3|h3
  ·exact h2 h3
  ·omega
 have M9:Mkr w9 Q2 (wc.heap.size+2) (wc.heap.size+1) wc.heap.size gv vn vr (mkT ix rs[j].2.1 (mkG ix (rs.take j) []).2).2 v2 xs2:=(hM2.below ((Below.refl _ w8).alloc L0q X)).kept hgr.size (fun g=>vr.ownBlock=some g) (fun g h1 h2=>hgr.block g h1 (fun e=>h2 e.symm)) (fun e=>by have:=hvr _ e;omega) (fun e=>by have:=hvr _ e;omega) (fun g hg e=>e2 g (hvr g e).2 (h.d2 g e).2 hg) (fun g hg e=>e1 g (hvr g e).2 (h.d2 g e).1 hg);have hb8:Below wc.heap.size wc w8:=hF2.below h.be h.be.size (by omega) (by omega) (fun g e=>by have:=(h.hmk.ho.lt g e).1;omega);refine⟨?_,?_,?_,?_,fun g hg=> ?_,fun g hg=> ?_,fun g hg=>(hQ2 g hg).elim (h.qb g) (fun h1=>Nat.le_trans h.be.size h1)⟩
 ·exact((hb8.alloc hb8.size X).grown hgr (Nat.le_trans hb8.size (by omega)) (fun g e=>by have:=hvr g e;omega)).setCell (p:=⟨wc.heap.size+1,3,none⟩) (show wc.heap.size<=wc.heap.size+1 by omega) _
 ·rw[z4L ix rs [] j hj]
  exact M9.setR
 ·refine ownsRow_setCell_below (Jz h.on fun g e=> ?_) (a:=⟨wc.heap.size+1,3,none⟩) (show wc.heap.size+1<wc.heap.size+2 by omega) _
  have h1:=hvn g e;exact(hgr.block g (by omega) (fun e3=>(h.d1 g e).2.2 e3.symm)).trans ((Below.heap_alloc _ _ _ (by omega)).trans (hF2.block g h1.2 (by omega) (by omega) (h.d1 g e).2.1))
 ·rw[z4L ix rs [] j hj,z4G]
  exact ownsRow_setCell_below hown (a:=⟨wc.heap.size+1,3,none⟩) (show wc.heap.size+1<wc.heap.size+2 by omega) _
 ·have h1:=hvn g hg
  have h2:=h.d1 g hg;refine⟨e1 g h1.2 h2.1,e2 g h1.2 h2.2.1,fun e=> ?_⟩;obtain rfl:g9=g:=Option.some.inj e;rcases hat with h3|h3
  ·exact h2.2.2 h3
  ·omega
 ·obtain rfl:g9=g:=Option.some.inj hg
  rcases hat with h3|h3
  ·have h1:=hvr _ h3
   have h2:=h.d2 _ h3;exact⟨e1 _ h1.2 h2.1,e2 _ h1.2 h2.2⟩
  ·exact⟨fun hq=>by have:=(hM2.hq _ hq).1;omega,fun e=>by have:=(hM2.ho.lt _ e).2;omega⟩
end Go.Proofs.YtlogolpcipiceaaGreatDoor
