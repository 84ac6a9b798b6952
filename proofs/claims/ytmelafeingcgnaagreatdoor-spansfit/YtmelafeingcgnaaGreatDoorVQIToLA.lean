/- Lemmas for the last text. Conditions: those that each names. -/
import Derived.Test.YtmelafeingcgnaaGreatDoorVQEToQH
import Derived.Test.YtmelafeingcgnaaGreatDoorVU9ToU14
import Derived.Test.YtmelafeingcgnaaGreatDoorVC10aToPF
set_option linter.unusedVariables false
set_option maxRecDepth 100000
set_option maxHeartbeats 32000000
namespace Go.Proofs.YtmelafeingcgnaaGreatDoor
open Go.Proofs.Tryz
section
open Go.RowKit Go.Shelf Go.Maps
section
variable {P:Program} {md:Region.Mode} {ops:Array Oper} {Q:Exit->Act->World->Prop} {S:World->Prop} {z:Nat}
theorem y5k(i j:Nat){o y:Oper}{n:Nat}{l:Array Bool}{a:Act}{w:World}
 (h:∀r:Act->World->Prop,Shut (∀a w,S w->Xd P md ops Q S z n (l.setIfInBounds i true) a w->r a w)->if Region.wanted o (yielded ops a.tmps)=true then Oper.wp P o a w r Q else r (a.put o.dst undef) w)
 (A:∀r:Act->World->Prop,Shut (∀a w,S w->Xd P md ops Q S z n (l.setIfInBounds j true) a w->r a w)->if Region.wanted y (yielded ops a.tmps)=true then Oper.wp P y a w r Q else r (a.put y.dst undef) w)
 (D:Jv ops.toList i=some o:=by exact rfl)(E:Jv ops.toList j=some y:=by exact rfl)(G:Region.ready md ops l=[i,j]:=by kernel_rfl):Xd P md ops Q S z (n+1) l a w:=y5h G (Md D) (Md E) h A
end
structure Uj (w:World) (k:Int) (T:zA) (a b c d:Int) (p nb B j:Nat) (pc oc:Obj) (v:Value) (xs:List Value) (acc:List RT) (wr:World):Prop where
 s:B<=wr.heap.size
 n:wr.heap[nb]? =some (.cells #[zI k,zT T,zU a,zU b,zU c,zU d,v,zI 0] 119)
 e0:wr.heap[p]? =some pc
 e1:wr.heap[p+1]? =some zNd
 e2:wr.heap[p+1+1]? =some oc
 o:wr.ownsRow B 119 8 v j xs
 l:acc.length=j
 r:Zx wr (fun g=>B<=g/\v.ownBlock≠some g) acc xs
 b:zB w wr
theorem Uj.step{w wr y A:World}{p nb B j D G:Nat}{k a b c d:Int}{T:zA}{pc oc:Obj}{v:Value}{xs Y:List Value}{acc:List RT}{t:RT}{X:Obj}
  (h:Uj w k T a b c d p nb B j pc oc v xs acc wr)(Z:p=w.heap.size)(hn:p+1+1<nb)(af:nb<B)(U:zB wr y)
  (E:Zw y (fun g=>wr.heap.size<=g) t Y)(ac:A.ownsRow B 119 8 (zS D (j+1) G) (j+1) (xs++Y))(V:(y.alloc X).grownBy A v.ownBlock)(ag:v.ownBlock=some D∨D=y.heap.size+1):
  Uj w k T a b c d p nb B (j+1) pc oc (zS D (j+1) G) (xs++Y) (acc++[t]) (A.setCell ⟨nb,6,none⟩ (zS D (j+1) G)):=by
 have ad:∀g,v.ownBlock=some g->B<=g/\g<wr.heap.size:=fun g e=>h.o.lt g e
 have h2:=U.size;have hs:=h.s;have ea:(y.alloc X).heap.size=y.heap.size+1:=World.size_alloc _ _;have h6:=V.size;have ae:zB w (y.alloc X):=(h.b.trans (U.mono h.b.size)).alloc (Nat.le_trans h.b.size h2) _;have ah:zB w A:=ae.grown V ae.size (fun g e=>by have:=ad g e;omega);have low:∀q,q<B->A.heap[q]? =wr.heap[q]? :=fun q E=>(V.block q (by omega) (fun e=>by have:=ad q e.symm;omega)).trans ((Below.heap_alloc _ _ _ (by omega)).trans (U.block q (by omega)))
 have aa:∀q,q<B->q≠nb->(A.setCell ⟨nb,6,none⟩ (zS D (j+1) G)).heap[q]? =wr.heap[q]? :=fun q E ab=>(Below.heap_setCell _ _ _ _ (by simpa using ab)).trans (low q E)
 have ai:=(low nb af).trans h.n;refine⟨by rw[World.size_setCell];omega,Qk ai 6 _,(aa p (by omega) (by omega)).trans h.e0,(aa (p+1) (by omega) (by omega)).trans h.e1,(aa (p+1+1) (by omega) (by omega)).trans h.e2,ac.kept (row:=some nb) ⟨rfl,rfl,rfl,by simp,fun i hi ab=>Below.heap_setCell _ _ _ _ (fun e=>ab (by rw[e]))⟩ (.inr (fun e=>by have:=(ac.lt _ e).1;omega)),by rw[List.length_append,h.l];rfl,?_,ah.setCell (p:=⟨nb,6,none⟩) (by show w.heap.size<=nb;omega) _⟩;refine Zx.kept (fun g aj Z E=>⟨Below.heap_setCell _ _ _ _ (fun e=>by have:=Z.1;simp at e;omega),Z⟩) _ _ (Rq.app2 (W4:=y.alloc X) h.o h.l h.r hs U E (by omega) (fun g hg=>Below.heap_alloc _ _ _ hg) V ?_);rcases ag with h|h
 ·exact .inl h.symm
 ·exact .inr (by rw[h,ea];rfl)
theorem Uj.fin{w wr:World}{p nb B j y:Nat}{A:Option Addr}{k a b c d:Int}{T:zA}{pc oc:Obj}{xs:List Value}{acc:List RT}(h:Uj w k T a b c d p nb B j pc oc (.slice A j y) xs acc wr)(hp:p=w.heap.size)(hn:p+1+1<nb)(ab:nb<B)(hj:j<=maxLen):
  CnA (.mk k T a b c d acc 0) w (.returned (.agg #[zI k,zT T,zU a,zU b,zU c,zU d,.slice A j y,zI 0])) (Vw wr (p+1) k T a b c d (.slice A j y) 0):=by
 have hW:=z6b wr (p+1) k T a b c d (.slice A j y) 0;refine⟨k,T,a,b,c,d,A,j,y,0,rfl,hid ?_,hid (z0f h.b (by omega))⟩;rw[Zw];refine⟨A,y,by rw[Xg,h.l],?_⟩;cases acc with
 |nil=>exact .inl rfl
 |cons t r=>
  refine .inr ⟨rfl,?_⟩;have hl:=h.l;obtain⟨_,⟨_,h0⟩|⟨g,ac,E,e1,aa,U,_,_,_,ht⟩⟩:=id h.o
  ·rw[h0]at hl;simp at hl
  ·obtain⟨rfl,_,_⟩:=Value.slice.inj e1
   have V:∀D,B<=D->∀Y,zH wr D (.cells Y 119)->(Vw wr (p+1) k T a b c d (zS g j y) 0).heap[D]? =wr.heap[D]? :=fun D h1 Y G=>hW.block D (Qq G) (fun e=>by have:=Option.some.inj e;omega)
   refine⟨g,E,rfl,by omega,(V g aa E U).trans U,by rw[Xg,hl];exact hj,?_⟩;have G:=Zx.more _ _ (E.toList.drop (j*8)) (Zx.kept (w':=Vw wr (p+1) k T a b c d (zS g j y) 0) (Q:=fun g=>w.heap.size<=g) (fun g E Z hq=>⟨V g Z.1 E hq,by have:=Z.1;omega⟩) _ _ h.r);rw[<-ht,List.take_append_drop]at G;exact G
theorem Id{w W W':World}{p q:Nat}{E oc:Obj}{y0 y1 y2 y3 G U:Value}(h:Hid (Below w.heap.size w W)/\Hid (W.heap[p]? =some E/\W.heap[p+1]? =some zNd/\W.heap[p+1+1]? =some oc)/\W.cell? ⟨q,0,none⟩=some y0/\W.cell? ⟨q,1,none⟩=some y1/\W.cell? ⟨q,2,none⟩=some y2/\W.cell? ⟨q,3,none⟩=some y3/\W.cell? ⟨q,4,none⟩=some G/\W.cell? ⟨q,5,none⟩=some U)(r:Below W.heap.size W W'):Hid (Below w.heap.size w W')/\Hid (W'.heap[p]? =some E/\W'.heap[p+1]? =some zNd/\W'.heap[p+1+1]? =some oc)/\W'.cell? ⟨q,0,none⟩=some y0/\W'.cell? ⟨q,1,none⟩=some y1/\W'.cell? ⟨q,2,none⟩=some y2/\W'.cell? ⟨q,3,none⟩=some y3/\W'.cell? ⟨q,4,none⟩=some G/\W'.cell? ⟨q,5,none⟩=some U:=by
 have k:∀{p:Addr} {u:Value},W.cell? p=some u->W'.cell? p=some u:=fun{p u} V=>(r.cell (p:=p) (World.block_lt_of_cell? W _ V)).trans V
 have m:∀{i:Nat} {o:Obj},W.heap[i]? =some o->W'.heap[i]? =some o:=fun{i o} y=>(r.block i (by
  rcases Nat.lt_or_ge i W.heap.size with A|A
  ·exact A
  ·rw[Array.getElem?_eq_none A]at y;cases y)).trans y
 obtain⟨Y,D,Z,k1,k2,k3,k4,k5⟩:=h;exact⟨hid (Y.out.trans (r.mono Y.out.size)),hid ⟨m D.out.1,m D.out.2.1,m D.out.2.2⟩,k Z,k k1,k k2,k k3,k k4,k k5⟩
theorem z6c{W W':World}{q p:Nat}{y0 y1 y2 y3:Value}(h:zC W q 6 y0/\zC W p 0 y1/\zC W p 1 y2/\zC W p 2 y3)(r:zB W W'):zC W' q 6 y0/\zC W' p 0 y1/\zC W' p 1 y2/\zC W' p 2 y3:=by
 have k:∀{p:Addr} {u:Value},W.cell? p=some u->W'.cell? p=some u:=fun{p u} o=>(r.cell (p:=p) (World.block_lt_of_cell? W _ o)).trans o
 exact⟨k h.1,k h.2.1,k h.2.2.1,k h.2.2.2⟩
theorem y5l{W W':World}{q p:Nat}{row:Option Nat}{y0 y1 y2 y3:Value}(h:zC W q 6 y0/\zC W p 0 y1/\zC W p 1 y2/\zC W p 2 y3)(y:some q≠row)(r:some p≠row)(o:W.grownBy W' row):zC W' q 6 y0/\zC W' p 0 y1/\zC W' p 1 y2/\zC W' p 2 y3:=
 ⟨o.cell h.1 y,o.cell h.2.1 r,o.cell h.2.2.1 r,o.cell h.2.2.2 r⟩
theorem y5m(g:Nat)(nso rso:Option Addr)(ol oc nl nc rl rc:Nat)(w:World)(k:Nat)(kd:Int)(M:zA)(x y z v:Int)(s:List Int)(so:Option Addr)(n am:Nat)(ts:List RT)(h5:kd≠5)(bc:k<ol)(hM:M.size<=1073741824)(hg:g<w.heap.size)
  (c0:zC w g (k*7) (zI kd))(c1:zC w g (k*7+1) (zT M))(c2:zC w g (k*7+2) (zU x))(c3:zC w g (k*7+3) (zU y))(c4:zC w g (k*7+4) (zU z))(c5:zC w g (k*7+5) (zU v))(c6:zC w g (k*7+6) (.slice so n am))
  (HN:Hid (n=s.length))(hn:n<=1048576)(HR:Hid (RwC w (· <w.heap.size) so s))(ax:Hid (ts.length=s.length))
  (HC:Hid (∀j (hj:j<s.length) (bd:j<ts.length) (W:World),zB w W->Calls prog 105 #[.agg #[zS g ol oc,.slice nso nl nc,.slice rso rl rc],zI s[j]] W (CnA ts[j] W))):
  Calls prog 105 #[.agg #[zS g ol oc,.slice nso nl nc,.slice rso rl rc],zI (k:Int)] w (CnA (.mk kd M x y z v ts 0) w):=by
 obtain⟨iT,aQ,aR,aS,aT⟩:=info_parts Tryz.infoNd;obtain⟨V,ay⟩:∃V,V=Obj.cells #[zS g ol oc,.slice nso nl nc,.slice rso rl rc] 26:=⟨_,rfl⟩;obtain⟨Y,ao⟩:∃Y,Y=Obj.cells #[zI kd,zT M,zU x,zU y,zU z,zU v,.slice so n am] 65:=⟨_,rfl⟩;obtain⟨W,hW⟩:∃W,W=((w.alloc V).alloc zNd).alloc Y:=⟨_,rfl⟩;have hB:zB w W:=by rw[hW];exact(((Below.refl _ w).alloc L0q _).alloc (by simp) _).alloc (by simp;omega) _
 have e0:W.heap[w.heap.size]? =some V:=by rw[hW];exact(Below.heap_alloc _ _ _ (by simp;omega)).trans ((Below.heap_alloc _ _ _ (by simp)).trans (Qx w _ rfl))
 have e1:W.heap[w.heap.size+1]? =some zNd:=by rw[hW];exact(Below.heap_alloc _ _ _ (by simp)).trans (Qx _ _ (by simp))
 have e2:W.heap[w.heap.size+1+1]? =some Y:=by rw[hW];exact Qx _ _ (by simp)
 have az:W.heap.size=w.heap.size+3:=by rw[hW];simp
 obtain⟨p,hp⟩:∃p,p=w.heap.size:=⟨_,rfl⟩;have Z:=e2;rw[ao]at Z;have aA:Hid (Hid (zB w W.drew)/\Hid (W.drew.heap[p]? =some V/\W.drew.heap[p+1]? =some zNd/\W.drew.heap[p+1+1]? =some Y)/\zC W.drew (p+1+1) 0 (zI kd)/\zC W.drew (p+1+1) 1 (zT M)/\zC W.drew (p+1+1) 2 (zU x)/\zC W.drew (p+1+1) 3 (zU y)/\zC W.drew (p+1+1) 4 (zU z)/\zC W.drew (p+1+1) 5 (zU v)):=by
  rw[hp];exact⟨hid hB.drew,hid ⟨e0,e1,e2⟩,(Qj Z 0 _ rfl).1,(Qj Z 1 _ rfl).1,(Qj Z 2 _ rfl).1,(Qj Z 3 _ rfl).1,(Qj Z 4 _ rfl).1,(Qj Z 5 _ rfl).1⟩
 have aB:=hid (fun w':World=>Dd M w' (by omega));have a5:(kd == 5)=false:=by simpa using h5
 have be:(k:Int)<(ol:Int):=by omega
 have aU:g<w.heap.size+1:=by omega
 have aV:g<w.heap.size+1+1:=by omega
 have HW:=hid hW;have Hp:=hid hp;have bf:=hid az;have aC:=hid ay;have aD:=hid ao;clear hW hp e0 e1 e2 Z hB az ay ao;go_enter func105,ntmps105
 go_wp2_with fail
 rw[<-aC.out,<-aD.out,<-HW.out,<-Hp.out];clear c0 c1 c2 c3 c4 c5 c6 aU aV HW;refine Qc 9 (fun X:World=>Hid (zB w X)/\Hid (zH X p V/\X.heap[p+1]? =some zNd/\X.heap[p+1+1]? =some Y)/\zC X (p+1+1) 0 (zI kd)/\zC X (p+1+1) 1 (zT M)/\zC X (p+1+1) 2 (zU x)/\zC X (p+1+1) 3 (zU y)/\zC X (p+1+1) 4 (zU z)/\zC X (p+1+1) 5 (zU v)) (by kernel_rfl) aA.out (fun r=> ?_);refine Qz 0 r ?_;refine Qz 1 r ?_;refine Qz 2 r ?_;refine Qz 3 r ?_;refine Qz 5 r ?_;refine Qz 6 r ?_;refine y5k 4 8 (fun K A=> ?brA) (fun K A=> ?brB)
 case' brA=>
  go_simp
  refine(aB.out _).mono ?_;rintro e w4 ⟨rfl,ac⟩
  go_simp
  replace r:=Id r ac;refine A.out _ _ r ?_;clear A K ac
  (try simp only[Act.put,zY])
  refine Qz 7 r ?_;refine Qv 8 (fun K A=> ?_);have aW:=r.1.out.size;have ab:Hid (p+1+1<w4.heap.size):=Qq r.2.1.out.2.2;replace r:=Id r ((Below.refl _ w4).alloc L0q zNd);have aa:Hid ((w4.alloc zNd).heap[w4.heap.size]? =some zNd):=Qx w4 _ rfl
  go_simp
  refine A.out _ _ r ?_;clear A K aW
  (try simp only[Act.put,zY])
  obtain⟨w5,aE⟩:∃w5,w5=w4.alloc zNd:=⟨_,rfl⟩;obtain⟨nb,ad⟩:∃nb,nb=w4.heap.size:=⟨_,rfl⟩;rw[<-aE]at r aa ⊢;rw[<-ad]at aa ab ⊢;clear aE ad
 case' brB=>
  have ab:Hid (p+1+1<W.heap.size):=Qq r.2.1.out.2.2;replace r:=Id r (B0q.alloc L0q zNd);have aF:Hid ((W.drew.alloc zNd).heap[W.heap.size]? =some zNd):=Qx W.drew _ rfl
  go_simp
  refine A.out _ _ r ?_;clear A K
  (try simp only[Act.put,zY])
  refine Qv 4 (fun K A=> ?_)
  go_simp
  refine(aB.out _).mono ?_;rintro e w5 ⟨rfl,ac⟩;have aa:Hid (w5.heap[W.heap.size]? =some zNd):=hid ((ac.block _ (by show W.heap.size<(W.alloc zNd).heap.size;rw[World.size_alloc];omega)).trans aF.out);replace r:=Id r ac
  go_simp
  refine A.out _ _ r ?_;clear A K ac aF
  (try simp only[Act.put,zY])
  refine Qz 7 r ?_;obtain⟨nb,ad⟩:∃nb,nb=W.heap.size:=⟨_,rfl⟩;rw[<-ad]at aa ab ⊢;clear ad
 all_goals
  refine Yj (fun K A=> ?_);obtain⟨⟨y0,y1,y2,y3,y4,y5,y6,y7⟩,yf⟩:=Qf aa.out;have ln:=Qq aa.out;have aG:=r.1;have aj:=r.2.1;obtain⟨W8,ae⟩:∃W8,W8=Vw w5 nb kd M x y z v (.slice none 0 0) 0:=⟨_,rfl⟩;have ak:∀q,q≠nb->W8.heap[q]? =w5.heap[q]? :=fun q hq=>by
   rcases Nat.lt_or_ge q w5.heap.size with h'|h'
   ·rw[ae];exact(z6b w5 nb kd M x y z v (.slice none 0 0) 0).block q h' (fun e=>hq (Option.some.inj e))
   ·rw[Array.getElem?_eq_none h',Array.getElem?_eq_none (by rw[ae];unfold Vw;simpa using h')]
  have hU:Uj w kd M x y z v p nb W8.heap.size 0 V Y (.slice none 0 0) [] [] W8:=by
   have ad:=ab.out;refine⟨Nat.le_refl _,by rw[ae];exact z0e aa.out,(ak p (by omega)).trans aj.out.1,(ak (p+1) (by omega)).trans aj.out.2.1,(ak (p+1+1) (by omega)).trans aj.out.2.2,World.ownsRow_nil _ _ _ _,rfl,by rw[Zx];trivial,by rw[ae];exact z0f aG.out (by have:=Hp.out;omega)⟩
  have HU:=hid hU;have af:Hid (nb<W8.heap.size):=Qq hU.n;have aH:=hid ae;clear ae ak hU
  go_simp
  refine A.out _ _ ?_;clear A K r aA aG aj aa y0 y1 y2 y3 y4 y5 y6 y7 yf ln;rw[<-Vw,<-aH.out];clear aH;have al:=HU.out.e2;rw[aD.out]at al;have g6:zC W8 (p+1+1) 6 (.slice so n am):=(Qj al 6 _ rfl).1;have aX:=Qq al;clear al
  go_wp2_with fail
  clear g6 aX;obtain⟨B,aI⟩:∃B,B=W8.heap.size:=⟨_,rfl⟩;rw[<-aI]at HU af;clear aI
  go_loopw [38] (fun i wr=>∃(j:Nat) (u:Value) (xs:List Value),i=zI (j:Int)/\j<=n/\Hid (Uj w kd M x y z v p nb B j V Y u xs (ts.take j) wr)) (fun i _=>n-(intOf i).toNat)
  case atStart=>exact⟨0,_,_,rfl,Nat.zero_le _,HU⟩
  case round=>
   obtain⟨j,u,xs,rfl,hj,D⟩:=hrel;obtain⟨G,U,rfl⟩:=Yd D.out.o;by_cases hjn:j<n
   rotate_left
   ·have a0:decide ((j:Int)<(n:Int))=false:=by simp;omega
    have a1:decide (j<n)=false:=by simp;omega
    have hF:=D.out.fin Hp.out ab.out af.out (by unfold maxLen;omega);rw[List.take_of_length_le (by rw[ax.out,<-HN.out];omega)]at hF;have HF:=hid hF;obtain⟨⟨y0,y1,y2,y3,y4,y5,y6,y7⟩,yf⟩:=Qf D.out.n;obtain⟨⟨q0,q1,q2,q3,q4,q5,q6,q7⟩,qf⟩:=Qf D.out.e1;have l0:=Qq D.out.n;have l1:=Qq D.out.e1;have aY:=hid (z0e (k:=kd) (T:=M) (a1:=x) (a2:=y) (a3:=z) (a4:=v) (v:=.slice G j U) (p:=0) D.out.e1);clear hF
    go_wp2_with fail
    (try simp only[Exit.inBlock,Exit.then])
    rw[<-Vw];clear y0 y1 y2 y3 y4 y5 y6 y7 yf q0 q1 q2 q3 q4 q5 q6 q7 qf l0 l1;obtain⟨⟨z0,z1,z2,z3,z4,z5,z6,z7⟩,_⟩:=Qf aY.out;refine bodyPost_ret (v:=.agg #[zI kd,zT M,zU x,zU y,zU z,zU v,.slice G j U,zI 0]) (by simp[results,Tryz.results105,go_sem,z0,z1,z2,z3,z4,z5,z6,z7]) rfl ?_;exact HF.out
   have ap:j<s.length:=by rw[<-HN.out];exact hjn
   have aJ:j<ts.length:=by rw[ax.out];exact ap
   obtain⟨g2,q2,rfl,ah,aq⟩:=HR.out j ap;have ah:g2<w.heap.size:=ah;obtain⟨e,he⟩:∃e,e=s[j]:=⟨_,rfl⟩;obtain⟨t,ht⟩:∃t,t=ts[j]:=⟨_,rfl⟩;have HG:=hid (HC.out j ap aJ wr.drew D.out.b.drew);rw[<-he]at aq HG;rw[<-ht]at HG;have HT:=hid ht;have d2:zC wr g2 (q2+j) (zI e):=(D.out.b.cell (p:=⟨g2,q2+j,none⟩) ah).trans aq;have bg:g2<wr.heap.size:=Nat.lt_of_lt_of_le ah D.out.b.size;obtain⟨⟨_,_,_,_,_,_,x6,_⟩,_⟩:=Qf D.out.n;have ai:=D.out.e0;rw[aC.out]at ai;have aK:Hid (zC wr.drew nb 6 (.slice G j U)/\zC wr.drew p 0 (zS g ol oc)/\zC wr.drew p 1 (.slice nso nl nc)/\zC wr.drew p 2 (.slice rso rl rc)):=⟨x6,(Qj ai 0 _ rfl).1,(Qj ai 1 _ rfl).1,(Qj ai 2 _ rfl).1⟩;have aL:Hid (some nb≠(Value.slice G j U).ownBlock):=fun e=>by have:=(D.out.o.lt _ e.symm).1;have:=af.out;omega
   have aZ:Hid (some p≠(Value.slice G j U).ownBlock):=fun e=>by have:=(D.out.o.lt _ e.symm).1;have:=af.out;have:=ab.out;omega
   have a6:Hid (∀E,Hid (Below wr.drew.heap.size wr.drew E)->E.ownsRow B 119 8 (.slice G j U) j xs/\zH E nb (.cells #[zI kd,zT M,zU x,zU y,zU z,zU v,.slice G j U,zI 0] 119)/\zB wr E/\B<=E.heap.size/\nb<E.heap.size):=fun E h=>by
    have hs:=h.out.size;have es:wr.drew.heap.size=wr.heap.size:=rfl;have h1:=D.out.s;have h2:=af.out;exact⟨Xf (show wr.drew.ownsRow B 119 8 (.slice G j U) j xs from D.out.o) h.out,(h.out.block nb (by omega)).trans D.out.n,(Below.refl _ wr).drew.trans (h.out.mono (by omega)),by omega,by omega⟩
   have a0:decide ((j:Int)<(n:Int))=true:=by simp;omega
   have a1:decide (j<n)=true:=by simp;omega
   have bh:(j:Int)<(n:Int):=by omega
   have bi:IntKind.i64.wrap ((j:Int)+1)=(j:Int)+1:=by rw[IntKind.wrap_i64];omega
   have m1:j+1<=maxLen:=by unfold maxLen;omega
   have m2:(j+1)*88<=140737488355328:=by omega
   clear he ht aq ah x6 ai
   go_wp2_with fail
   refine Qc 8 (fun X:World=>zC X nb 6 (.slice G j U)/\zC X p 0 (zS g ol oc)/\zC X p 1 (.slice nso nl nc)/\zC X p 2 (.slice rso rl rc)) (by kernel_rfl) aK.out (fun r=> ?_);refine Qz 0 r ?_;refine Qz 1 r ?_;refine Qz 2 r ?_;refine Qz 3 r ?_
   (refine Qv 4 (fun K A=> ?_);go_simp;refine HG.out.mono ?_;rintro e E ⟨k2,T2,a2,b2,c2,d2,ar,n2,au,p2,rfl,a7,aM⟩;have ag:=hid (a6.out E aM);go_simp;replace r:=z6c r aM.out;refine A.out _ _ r ?_;clear A K)
   (try simp only[Act.put,zY])
   (refine Qv 5 (fun K A=> ?_);go_simp;replace r:=z6c r ((Below.refl _ E).alloc L0q (.cells #[zI k2,zT T2,zU a2,zU b2,zU c2,zU d2,.slice ar n2 au,zI p2] 119));refine A.out _ _ r ?_;clear A K)
   (try simp only[Act.put,zY])
   (refine Qv 6 (fun K A=> ?_);refine step_append_lies _ rfl (.tmp 43) (.tmp 47) 117 rfl B 119 iT (.agg #[zI 0,zT {data:=#[]},zU 0,zU 0,zU 0,zU 0,.slice none 0 0,zI 0]) 8 88 Tryz.underlying117 aQ aR aS aT rfl (by decide) (.slice G j U) j xs (by rfl) (ag.out.1.alloc _) ⟨E.heap.size,0,none⟩ 1 1 [zI k2,zT T2,zU a2,zU b2,zU c2,zU d2,.slice ar n2 au,zI p2] (by rfl) rfl (Ok _ _ _ _ _ _ _ _ _ _) (Ov _ _ _ _ _ _ _ _ _ _) (by decide) m1 m2 (z2Y ag.out.2.2.2.1) (E.heap.size+1) (World.size_alloc _ _) ?_;intro g6 a8 w6 aN av aO bj;replace r:=y5l r aL.out aZ.out av;have a9:=hid aN;have aP:=hid av;have ba:=hid aO;clear aN av aO;refine A.out _ _ r ?_;clear A K)
   (try simp only[Act.put,zY])
   refine Qz 7 r ?_;refine Yj (fun K A=> ?_);have aw:=hid ((aP.out.block nb (by rw[World.size_alloc];have:=ag.out.2.2.2.2;omega) aL.out).trans ((Below.heap_alloc _ _ _ ag.out.2.2.2.2).trans ag.out.2.1));obtain⟨⟨y0,y1,y2,y3,y4,y5,y6,y7⟩,f0,f1,f2,f3,f4,f5,f6,f7⟩:=Qf aw.out;have ls:=Qq aw.out;clear r
   go_simp
   refine A.out _ _ ?_;clear A K y0 y1 y2 y3 y4 y5 y6 y7 f0 f1 f2 f3 f4 f5 f6 f7 ls aK aw
   go_wp2_with fail
   have bb:=hid (D.out.step Hp.out ab.out af.out ag.out.2.2.1 a7.out a9.out aP.out ba.out)
   go_roundw
   case rel=>
    refine⟨j+1,zS g6 (j+1) a8,xs++[zI k2,zT T2,zU a2,zU b2,zU c2,zU d2,.slice ar n2 au,zI p2],by simp,by omega,?_⟩;rw[List.take_succ_eq_append_getElem aJ,<-HT.out];exact bb
   case measure=>simp[intOf];omega
end
open Go.RowKit Go.Shelf Go.Maps
theorem y5n{a b c d:Int}(h:zc a b c d=true):a=0/\b=0/\c=0/\d=0:=by
 unfold zc at h;simp only[Bool.and_eq_true,beq_iff_eq]at h;exact h
theorem z6d{ix:zA->Int}{ops:List Ox}:∀{s:List RT} {l:List Int},DnL ix ops s l->l.length=s.length/\∀j (o:j<l.length) (y:j<s.length),Dn ix ops s[j] l[j]
 |[],l,h=>by rw[DnL]at h;subst h;exact⟨rfl,fun j o=>by simp at o⟩
 |t::r,l,h=>by
  rw[DnL]at h;obtain⟨n,l',rfl,A,D⟩:=h;obtain⟨E,G⟩:=z6d D;refine⟨by rw[List.length_cons,List.length_cons,E],fun j o y=> ?_⟩;cases j with
  |zero=>exact A
  |succ j=>exact G j (by simpa using o) (by simpa using y)
theorem z6e(rs:List Rr)(hl:rs.length<=64)(Y:∀x∈nmL rs,x.size<=32)(ops:List Ox)(ro:List Int)(oso nso rso:Option Addr)(ol oc nl nc rl rc:Nat)(w0:World)(A:ol=ops.length)(Z:nl=rs.length)(h:PgM ops (nmL rs) ro oso nso rso w0):∀(Q:Nat) (t:RT) (k:Int) (w:World),SizeOf.sizeOf t<Q->Ptt rs t->Dn (fun T=>fdI T (nmL rs)) ops t k->zB w0 w->
  Calls prog 105 #[.agg #[.slice oso ol oc,.slice nso nl nc,.slice rso rl rc],zI k] w (CnA (stT t) w)
 |0,t,k,w,h',_,_,_=>by omega
 |Q+1,.mk kd T a b c d s p,k,w,hQ,ht,hd,hb=>by
  have hw:=h.below hb;rw[Dn]at hd;obtain⟨k',rfl⟩:∃k':Nat,k=(k':Int):=⟨k.toNat,by omega⟩;rw[Int.toNat_natCast]at hd;rcases hd.2 with⟨rfl,D⟩|⟨h5,l,D,h2⟩
  ·obtain⟨y,E⟩:=List.getElem?_eq_some_iff.1 D
   have G:=ht.2.2.1 (T,p) (by rw[rfT,if_pos rfl];exact List.mem_singleton.2 rfl);have aa:=Gh T (nmL rs) G;have U:=z3B (nmL rs) G;have hs:=ok5 ht.1;have r:=ht.1;rw[okT,Bool.and_eq_true]at r;have r:=r.1;unfold okN at r;simp only[show ¬((5:Int)=1∨(5:Int)=4) by decide,show ¬((5:Int)=2) by decide,show ¬((5:Int)=3) by decide,if_false,if_true,Bool.and_eq_true]at r;obtain⟨rfl,rfl,rfl,rfl⟩:=y5n r.2.1;subst hs;have hN:(nmL rs)[ixN T (nmL rs)]=T:=(List.getElem?_eq_some_iff.1 U).2;have af:ops[k']=(5,{data:=#[]},(0,0,0,0),[((ixN T (nmL rs):Nat):Int)]):=by
    rw[E];unfold fdI;rw[if_pos G]
   have:=y5j ops (nmL rs) ro oso nso rso ol oc nl nc rl rc w A (by rw[Z,Vj]) hw k' y {data:=#[]} 0 0 0 0 (ixN T (nmL rs)) af aa (Y _ (List.getElem_mem aa));rw[hN]at this;exact this
  ·obtain⟨y,E⟩:=List.getElem?_eq_some_iff.1 D
   obtain⟨g,rfl,U,so,ag,⟨c0,c1,c2,c3,c4,c5,c6⟩,ab,ac⟩:=hw.o k' y;rw[E]at c0 c1 c2 c3 c4 c5 c6 ab ac;obtain⟨ad,ah⟩:=z6d h2;have ae:=ht.2.2.2;rw[TrK]at ae;rw[stT];refine y5m g nso rso ol oc nl nc rl rc w k' kd T a b c d l so l.length ag (stL s) h5 (by rw[A];exact y) ae.1.2.1 U c0 c1 c2 c3 c4 c5 c6 (hid rfl) ab (hid ac) (hid (by rw[Wg,ad])) (hid fun j hj ai W hW=> ?_);have V:j<s.length:=by rw[<-ad];exact hj
   have e:(stL s)[j]=stT s[j]:=by
    have:=z5n s;simp only[this,List.getElem_map]
   rw[e];refine z6e rs hl Y ops ro (some ⟨g,0,none⟩) nso rso ol oc nl nc rl rc w0 A Z h Q s[j] l[j] W ?_ (Aw _ _ _ _ _ _ _ _ ht _ (List.getElem_mem V)) (ah j hj V) (hb.trans (hW.mono hb.size));have:=List.sizeOf_lt_of_mem (List.getElem_mem V);simp at hQ;omega
theorem z0g{W W':World}{p q i:Nat}{y0 y1 y2 y3:Value}(h:zC W p 0 y0/\zC W p 1 y1/\zC W p 2 y2/\zC W q i y3)(r:zB W W'):zC W' p 0 y0/\zC W' p 1 y1/\zC W' p 2 y2/\zC W' q i y3:=by
 have k:∀{p:Addr} {u:Value},W.cell? p=some u->W'.cell? p=some u:=fun{p u} o=>(r.cell (p:=p) (World.block_lt_of_cell? W _ o)).trans o
 exact⟨k h.1,k h.2.1,k h.2.2.1,k h.2.2.2⟩
theorem y5o{W W':World}{p q i:Nat}{row:Option Nat}{y0 y1 y2 y3:Value}(h:zC W p 0 y0/\zC W p 1 y1/\zC W p 2 y2/\zC W q i y3)(r:some p≠row)(y:some q≠row)(o:W.grownBy W' row):zC W' p 0 y0/\zC W' p 1 y1/\zC W' p 2 y2/\zC W' q i y3:=
 ⟨o.cell h.1 r,o.cell h.2.1 r,o.cell h.2.2.1 r,o.cell h.2.2.2 y⟩
theorem y5p(rs:List Rr)(ops:List Ox)(ro:List Int)(oso nso rso:Option Addr)(ol oc nl nc rl rc:Nat)(w:World)(ac:nl=rs.length)(ai:rl=ro.length)(h:PgM ops (nmL rs) ro oso nso rso w)(hz:∀x∈nmL rs,x.size<=32)
  (HC:Hid (∀j (hj:j<ro.length) (bm:j<rs.length) (W:World),zB w W->Calls prog 105 #[.agg #[.slice oso ol oc,.slice nso nl nc,.slice rso rl rc],zI ro[j]] W (CnA (stT rs[j].2.1) W))):
  Calls prog 65 #[.agg #[.slice oso ol oc,.slice nso nl nc,.slice rso rl rc]] w fun e w'=>∃aj ay,e=.returned (.agg #[.slice aj nl ay])/\Hid (Qg w' w'.heap.size aj nl (stG rs))/\Hid (zB w w'):=by
 obtain⟨iT,aS,aT,aU,aV⟩:=info_parts Tryz.infoRl;obtain⟨pc,az⟩:∃pc,pc=Obj.cells #[.slice oso ol oc,.slice nso nl nc,.slice rso rl rc] 26:=⟨_,rfl⟩;obtain⟨y,Z⟩:∃y,y=(w.alloc pc).alloc (.cells #[.slice none 0 0] 51):=⟨_,rfl⟩;have aA:zB w y:=by rw[Z];exact((Below.refl _ w).alloc L0q _).alloc (by simp) _
 obtain⟨p,Y⟩:∃p,p=w.heap.size:=⟨_,rfl⟩;have ad:Hid (y.heap[p+1]? =some (.cells #[.slice none 0 0] 51)):=by rw[Z,Y];exact Qx _ _ (by simp)
 have ae:Hid (zH y p pc):=by rw[Z,Y];exact(Below.heap_alloc _ _ _ (by simp)).trans (Qx w _ rfl)
 have ak:(nmL rs).length=rs.length:=Vj rs;have bn:nl<=64:=by rw[ac,<-ak];exact h.l6
 have aB:rl=nl:=by rw[ai,h.lr,ak,ac]
 have aW:=y1X nl (by omega);have HM:=hid h;have aC:Hid (nl=rs.length):=ac;have aX:Hid (rl=ro.length):=ai;have HZ:=hid hz;have al:=hid aA;have aD:=hid Z;have Hp:=hid Y;have am:=hid az;have aE:=hid aB;have U:=ae.out;rw[am.out]at U;have g1:zC y p 1 (.slice nso nl nc):=(Qj U 1 _ rfl).1;have lp:=Qq U;obtain⟨W3,ao⟩:∃W3,W3=y.alloc (.cells (madeCells #[zT {data:=#[]},zI 0,zT {data:=#[]},zU 0,zU 0,zU 0,zU 0,.slice none 0 0,zI 0,zI 0] (nl*10)) 121):=⟨_,rfl⟩;have aF:y.heap.size=p+1+1:=by rw[Z,Y];simp
 have aG:Hid (PqR y 0 (stG rs) [] (zS (p+1+1) 0 nl) W3):=by
  rw[ao,<-aF];exact⟨B0q.alloc L0q _,World.ownsRow_made y _ nl L0q (by unfold maxLen;omega) (size_madeCells _ _),by rw[List.take_zero,Zv];trivial⟩
 have aH:=hid ao;clear Z aA Y az U h ac ai aB hz ak ao aF;go_enter func65,ntmps65
 go_wp2_with fail
 rw[<-am.out,<-aD.out,<-Hp.out,<-aH.out];clear aW g1 lp aD aH
 go_loopw [3,13] (fun a i wr=>∃(j:Nat) (xs:List Value),i=zI (j:Int)/\j<=nl/\Hid (PqR y j (stG rs) xs a wr)) (fun a i _=>nl-(intOf i).toNat)
 case atStart=>exact⟨0,[],rfl,Nat.zero_le _,aG⟩
 case round=>
  obtain⟨j,xs,rfl,hj,D⟩:=hrel;clear aG;have af:=hid (al.out.trans (D.out.be.mono al.out.size));obtain⟨A,E,rfl⟩:=Yd D.out.ow;by_cases hjn:j<nl
  rotate_left
  ·have a0:decide ((j:Int)<(nl:Int))=false:=by simp;omega
   have a1:decide (j<nl)=false:=by simp;omega
   obtain rfl:j=nl:=by omega
   have ap:(stG rs).length=j:=by rw[Ay];exact aC.out.symm
   have hq:=D.out.rq;rw[List.take_of_length_le (by rw[ap];exact Nat.le_refl _)]at hq;have ag:=(D.out.be.block _ (Qq ad.out)).trans ad.out;obtain⟨u0,f0⟩:=Qy ag;have lr:=Qq ag;have aY:=hid ag;have aI:wr.grownBy (wr.setCell ⟨p+1,0,none⟩ (.slice A j E)) (some (p+1)):=grownBy_setCell' _ _ _;have aZ:Hid (Qg (wr.setCell ⟨p+1,0,none⟩ (.slice A j E)) (wr.setCell ⟨p+1,0,none⟩ (.slice A j E)).heap.size A j (stG rs)):=by
    have a2:=D.out.ow.kept aI (.inr (fun e=>by have:=(D.out.ow.lt _ e).1;have:=Qq ad.out;omega));have a4:Zv (wr.setCell ⟨p+1,0,none⟩ (.slice A j E)) (fun g=>y.heap.size<=g) (stG rs) xs:=Zv.kept (fun g a5 Y _=>⟨Below.heap_setCell _ _ _ _ (fun e=>by have e2:g=p+1:=e;have:=Qq ad.out;omega),Y⟩) _ _ hq;obtain⟨aj,ay,ea,a6⟩:=Zv.is a2 ap.symm a4;simp only[Value.slice.injEq]at ea;obtain⟨rfl,-,rfl⟩:=ea;exact a6
   have a7:Hid (zB w (wr.setCell ⟨p+1,0,none⟩ (.slice A j E))):=af.out.setCell (p:=⟨p+1,0,none⟩) (by show w.heap.size<=p+1;have:=Hp.out;omega) _;clear hq aI ag ap
   go_wp2_with fail
   (try simp only[Exit.inBlock,Exit.then])
   have r0:=(Qy (Qk aY.out 0 (.slice A j E))).1;refine bodyPost_ret (v:=.agg #[.slice A j E]) (by simp[results,Tryz.results65,go_sem,r0]) rfl ?_;exact⟨A,E,rfl,aZ,a7⟩
  have aq:j<rs.length:=by rw[<-aC.out];exact hjn
  have ar:j<ro.length:=by rw[<-aX.out,aE.out];exact hjn
  have a8:j<(stG rs).length:=by rw[Ay];exact aq
  have aJ:j<(nmL rs).length:=by rw[Vj];exact aq
  have au:=HM.out.below af.out;obtain⟨gn,rfl,bo,aK⟩:=au.n j aJ;obtain⟨gr,rfl,bp,av⟩:=au.r j ar;obtain⟨N,hN⟩:∃N,N=(nmL rs)[j]:=⟨_,rfl⟩;obtain⟨e,he⟩:∃e,e=ro[j]:=⟨_,rfl⟩;obtain⟨t,ht⟩:∃t,t=stT rs[j].2.1:=⟨_,rfl⟩;have a9:=HZ.out _ (List.getElem_mem aJ);rw[<-hN]at aK a9;rw[<-he]at av;have HG:=hid (fun(W:World) (hW:zB w W)=>HC.out j ar aq W hW);rw[<-he,<-ht]at HG;have ba:Hid ((N,t,(0:Int))=(stG rs)[j]):=by
   show _=_;have e1:(stG rs)[j]=stR rs[j]:=List.getElem_map ..;have e2:(nmL rs)[j]=rs[j].1:=List.getElem_map ..;rw[e1,hN,e2,ht];rfl
  have bb:=hid (fun w':World=>Dd N w' (by omega));have U:=(D.out.be.block _ (Qq ae.out)).trans ae.out;rw[am.out]at U;have q1:zC wr p 1 (zS gn nl nc):=(Qj U 1 _ rfl).1;have lq:=Qq U;have aL:Hid (zC wr.drew p 0 (.slice oso ol oc)/\zC wr.drew p 1 (zS gn nl nc)/\zC wr.drew p 2 (zS gr rl rc)/\zC wr.drew gr j (zI e)):=⟨(Qj U 0 _ rfl).1,q1,(Qj U 2 _ rfl).1,av⟩;have bc:Hid (some p≠(Value.slice A j E).ownBlock):=fun e=>by have:=(D.out.ow.lt _ e.symm).1;have:=Qq ae.out;omega
  have bd:gr<w.heap.size:=by
   obtain⟨bq,e',br,_⟩:=HM.out.r j ar;injection e' with e'
   injection e' with e' _ _
   omega
  have bf:Hid (some gr≠(Value.slice A j E).ownBlock):=fun e=>by have:=(D.out.ow.lt _ e.symm).1;have:=al.out.size;omega
  have bg:Hid (∀G,zB wr G->G.ownsRow y.heap.size 121 10 (.slice A j E) j xs/\y.heap.size<=G.heap.size):=fun G h=>⟨Xf D.out.ow h,Nat.le_trans D.out.be.size h.size⟩
  have a0:decide ((j:Int)<(nl:Int))=true:=by simp;omega
  have a1:decide (j<nl)=true:=by simp;omega
  have bs:(j:Int)<(nl:Int):=by omega
  have bt:(j:Int)<(rl:Int):=by have:=aE.out;omega
  have bu:IntKind.i64.wrap ((j:Int)+1)=(j:Int)+1:=by rw[IntKind.wrap_i64];omega
  have m1:j+1<=maxLen:=by unfold maxLen;omega
  have m2:(j+1)*112<=140737488355328:=by omega
  clear hN he ht au av U bd
  go_wp2_with fail
  clear q1 aK;refine Qc 99 (fun X:World=>zC X p 0 (.slice oso ol oc)/\zC X p 1 (zS gn nl nc)/\zC X p 2 (zS gr rl rc)/\zC X gr j (zI e)) (by kernel_rfl) aL.out (fun o=> ?_);refine Qz 0 o ?_;refine Qz 1 o ?_;refine Qz 3 o ?_;refine Qz 4 o ?_;refine Qz 5 o ?_;refine Qz 6 o ?_;refine Qz 7 o ?_;refine Qz 8 o ?_
  (refine Qv 2 (fun K V=> ?_);go_simp;refine(bb.out _).mono ?_;rintro e' w2 ⟨rfl,aw⟩;have aM:zB wr w2:=(Below.refl _ wr).drew.trans aw;have ah:=hid aM;go_simp;replace o:=z0g o aw;clear aw aM;refine V.out _ _ o ?_;clear V K)
  (try simp only[Act.put,zY])
  (refine Qv 9 (fun K V=> ?_);go_simp;refine(HG.out w2 (af.out.trans (ah.out.mono af.out.size))).mono ?_;rintro e' G ⟨k3,T3,a3,b3,c3,d3,aa,n3,ab,p3,rfl,bh,aN⟩;have aO:=hid (ah.out.trans (aN.out.mono ah.out.size));have aP:=hid (bg.out G aO.out);go_simp;replace o:=z0g o aN.out;refine V.out _ _ o ?_;clear V K)
  (try simp only[Act.put,zY])
  refine Qz 10 o ?_
  (refine Qv 11 (fun K V=> ?_);go_simp;replace o:=z0g o ((Below.refl _ G).alloc L0q (.cells #[zT N,zI k3,zT T3,zU a3,zU b3,zU c3,zU d3,.slice aa n3 ab,zI p3,zI 0] 121));refine V.out _ _ o ?_;clear V K)
  (try simp only[Act.put,zY])
  (refine Qv 12 (fun K V=> ?_);refine step_append_lies _ rfl (.tmp 18) (.tmp 29) 49 rfl y.heap.size 121 iT (.agg #[zT {data:=#[]},zI 0,zT {data:=#[]},zU 0,zU 0,zU 0,zU 0,.slice none 0 0,zI 0,zI 0]) 10 112 Tryz.underlying49 aS aT aU aV rfl (by decide) (.slice A j E) j xs (by rfl) (aP.out.1.alloc _) ⟨G.heap.size,0,none⟩ 1 1 [zT N,zI k3,zT T3,zU a3,zU b3,zU c3,zU d3,.slice aa n3 ab,zI p3,zI 0] (by rfl) rfl (Ow G (zT N) (zI k3) (zT T3) (zU a3) (zU b3) (zU c3) (zU d3) (.slice aa n3 ab) (zI p3) (zI 0) 121) (z2Z _ _ _ _ _ _ _ _ _ _ _ _) (by decide) m1 m2 (z2Y aP.out.2) (G.heap.size+1) (World.size_alloc _ _) ?_;intro g6 bv w6 aQ ax bi bw;replace o:=y5o o bc.out bf.out ax;have bj:=hid aQ;have bk:=hid ax;clear aQ ax bi;refine V.out _ _ o ?_;clear V K)
  (try simp only[Act.put,zY])
  refine Qz 13 o ?_;refine⟨by kernel_rfl,?_⟩;clear o aL;have aR:=PqR.step D.out a8 ba.out aO.out ⟨r8 k3 T3 a3 b3 c3 d3 aa n3 ab p3,rfl,Zw.kept (w':=G) (Q:=fun g=>wr.heap.size<=g) (fun g a5 Y _=>⟨rfl,Nat.le_trans ah.out.size Y⟩) _ _ bh.out⟩ ((Below.refl _ G).alloc L0q _) bj.out bk.out;have bl:=hid aR;clear aR
  go_wp2_with fail
  go_roundw
  case rel=>exact⟨j+1,xs++[zT N,zI k3,zT T3,zU a3,zU b3,zU c3,zU d3,.slice aa n3 ab,zI p3,zI 0],by simp,by omega,bl⟩
  case measure=>simp[intOf];omega
theorem y5q(oso nso rso:Option Addr)(ol oc nl nc rl rc:Nat)(w:World)
  (HU:Hid (∀W:World,zB w W->Calls prog 64 #[.agg #[.slice oso ol oc,.slice nso nl nc,.slice rso rl rc]] W (zR W (.bool true))))
  (HF:Hid (∀W:World,zB w W->Calls prog 65 #[.agg #[.slice oso ol oc,.slice nso nl nc,.slice rso rl rc]] W fun e w'=>∃h o,e=.returned (.agg #[.slice h nl o])/\Hid (zB W w')/\
    Hid (∀r:World,zB w' r->Calls prog 19 #[.agg #[.slice h nl o]] r fun e A=>∃Y Z aa ab ac ad,e=.returned (.tuple #[.agg #[.slice Y ol Z,.slice aa nl ab,.slice ac rl ad],.nilIface])/\Hid (zB r A)/\
     Hid (∀y:World,zB A y->Calls prog 67 #[.agg #[.slice Y ol Z,.slice aa nl ab,.slice ac rl ad],.agg #[.slice oso ol oc,.slice nso nl nc,.slice rso rl rc]] y (zR y (.bool true)))))):
  Calls prog 34 #[.agg #[.slice oso ol oc,.slice nso nl nc,.slice rso rl rc]] w fun e w'=>∃h o,e=.returned (.tuple #[.agg #[.slice h nl o],.nilIface])/\Hid (zB w w'):=by
 obtain⟨pc,aw⟩:∃pc,pc=Obj.cells #[.slice oso ol oc,.slice nso nl nc,.slice rso rl rc] 26:=⟨_,rfl⟩;obtain⟨D,U⟩:∃D,D=(w.alloc pc).alloc (.cells #[.slice none 0 0] 51):=⟨_,rfl⟩;have ak:zB w D:=by rw[U];exact((Below.refl _ w).alloc L0q _).alloc (by simp) _
 obtain⟨p,hp⟩:∃p,p=w.heap.size:=⟨_,rfl⟩;have ax:Hid (D.heap[p+1]? =some (.cells #[.slice none 0 0] 51)):=by rw[U,hp];exact Qx _ _ (by simp)
 have ay:Hid (zH D p pc):=by rw[U,hp];exact(Below.heap_alloc _ _ _ (by simp)).trans (Qx w _ rfl)
 have ae:=hid ak;have az:=hid U;have Hp:=hid hp;have aA:=hid aw;have aB:=hid (HU.out D ak);have HK:=hid (fun(W:World) (E:zB D W)=>show(zC W p 0 (.slice oso ol oc)/\zC W p 1 (.slice nso nl nc)/\zC W p 2 (.slice rso rl rc)/\p<W.heap.size/\W.heap[p+1]? =some (.cells #[.slice none 0 0] 51))from by
  have V:=(E.block _ (Qq ay.out)).trans ay.out;rw[aA.out]at V;exact⟨(Qj V 0 _ rfl).1,(Qj V 1 _ rfl).1,(Qj V 2 _ rfl).1,Qq V,(E.block _ (Qq ax.out)).trans ax.out⟩)
 clear aw U ak hp HU;go_enter func34,ntmps34
 go_wp2_with fail
 rw[<-aA.out,<-az.out,<-Hp.out];refine aB.out.mono ?_;rintro e w1 ⟨rfl,af⟩;obtain⟨q0,q1,q2,lq,_⟩:=HK.out w1 af;have aC:=hid af;have aD:=hid (HF.out w1 (ae.out.trans (af.mono ae.out.size)));clear af aB HF az
 go_wp2_with fail
 refine aD.out.mono ?_;rintro e G ⟨h,o,rfl,aE,HM⟩;have aF:=hid (aC.out.trans (aE.out.mono aC.out.size));obtain⟨r,ag⟩:∃r,r=G.alloc (.cells #[.slice h nl o] 51):=⟨_,rfl⟩;have al:zB G r:=by rw[ag];exact(Below.refl _ G).alloc L0q _
 have ah:Hid (r.heap[G.heap.size]? =some (.cells #[.slice h nl o] 51)):=by rw[ag];exact Qx G _ rfl
 have aG:=hid (HM.out r al);have aH:=hid (aF.out.trans (al.mono aF.out.size));have aI:=hid ag;obtain⟨b,E⟩:∃b,b=G.heap.size:=⟨_,rfl⟩;rw[<-E]at ah;have aN:=hid E;clear al ag q0 q1 q2 lq aD HM E aE
 go_wp2_with fail
 rw[<-aI.out,<-aN.out];clear aI;refine aG.out.mono ?_;rintro e A ⟨Y,Z,aa,ab,ac,ad,rfl,am,HS⟩;have ao:=hid (aH.out.trans (am.out.mono aH.out.size));obtain⟨y,ap⟩:∃y,y=A.alloc (.cells #[.slice Y ol Z,.slice aa nl ab,.slice ac rl ad] 26):=⟨_,rfl⟩;have ai:zB A y:=by rw[ap];exact(Below.refl _ A).alloc L0q _
 have aJ:=hid (HS.out y ai);have aq:=hid ((am.out.block _ (Qq ah.out)).trans ah.out);obtain⟨q0,q1,q2,lq,_⟩:=HK.out A ao.out;have aK:=hid ap;have aL:=hid (ao.out.trans (ai.mono ao.out.size));have ar:=hid ((ai.block _ (Qq aq.out)).trans aq.out);clear ap ai aG am ah
 go_wp2_with fail
 rw[<-aK.out];clear aK q0 q1 q2 lq;refine aJ.out.mono ?_;rintro e w4 ⟨rfl,au⟩;have aM:=hid (aL.out.trans (au.mono aL.out.size));obtain⟨_,_,_,lq,aj⟩:=HK.out w4 aM.out;have av:=(au.block _ (Qq ar.out)).trans ar.out;have g5:=(Qy av).1;have aQ:=Qq av;obtain⟨u0,f0⟩:=Qy aj;have lr:=Qq aj;have aO:=hid aj;have aP:Hid (zB w (w4.setCell ⟨p+1,0,none⟩ (.slice h nl o))):=by
  have h1:=ae.out.trans (aM.out.mono ae.out.size);exact h1.setCell (p:=⟨p+1,0,none⟩) (by show w.heap.size<=p+1;have:=Hp.out;omega) _
 clear au av aj aJ HS aq ar
 go_wp2_with fail
 have r0:=(Qy (Qk aO.out 0 (.slice h nl o))).1;refine bodyPost_ret (v:=.tuple #[.agg #[.slice h nl o],.nilIface]) (by simp[results,Tryz.results34,go_sem,r0]) rfl ?_;exact⟨h,o,rfl,aP⟩
theorem y5r(rs:List Rr)(oso nso rso:Option Addr)(ol oc nl nc rl rc:Nat)(Y:Addr)(w:World)(G:ol=(pgG rs).2.length)(U:nl=rs.length)(ad:rl=rs.length)(o:Snd rs)(Z:PrG rs)(V:PgM (pgG rs).2 (nmL rs) (pgG rs).1 oso nso rso w)(hz:RgZ rs)(hu:RgU rs)(hT:TabIs w)(hF:zC w (1) 0 (.iface 405 (.pointer (some Y))))(aw:Xm w):
  Calls prog 34 #[.agg #[.slice oso ol oc,.slice nso nl nc,.slice rso rl rc]] w fun e w'=>∃r y,e=.returned (.tuple #[.agg #[.slice r nl y],.nilIface])/\Hid (zB w w'):=by
 have aa:=o.unf Z;obtain⟨aD,ax⟩:=o.src;have ay:(pgG rs).1.length=rs.length:=(Vv (fun T=>fdI T (nmL rs)) rs []).2.1.1;have az:=Vj rs;have ae:nl=(nmL rs).length:=by rw[U,az]
 have ab:rl=(pgG rs).1.length:=by rw[ad,ay]
 refine y5q oso nso rso ol oc nl nc rl rc w (hid fun W A=>y5a _ _ _ oso nso rso ol oc nl nc rl rc W G ae ab (V.below A) aa) (hid fun W A=> ?_);have af:=V.below A;refine(y5p rs (pgG rs).2 (pgG rs).1 oso nso rso ol oc nl nc rl rc W U ab af aa.nm (hid fun j hj ag W2 D=> ?_)).mono ?_
 ·obtain⟨q,hq,hd⟩:=ax j ag
  have e:(pgG rs).1[j]=q:=(List.getElem?_eq_some_iff.1 hq).2;rw[e];exact z6e rs o.len aa.nm (pgG rs).2 (pgG rs).1 oso nso rso ol oc nl nc rl rc W G U af (SizeOf.sizeOf rs[j].2.1+1) _ q W2 (Nat.lt_succ_self _) (o.pt (List.getElem_mem ag)) hd D
 ·rintro e w1 ⟨r,y,rfl,hR,ah⟩
  refine⟨r,y,rfl,ah,hid fun W2 D=> ?_⟩;have E:zB w w1:=A.trans (ah.out.mono A.size);have ai:=hT.below E hT.lt;have aA:zC w1 (1) 0 (.iface 405 (.pointer (some Y))):=(E.cell (World.block_lt_of_cell? w _ hF)).trans hF;have aB:=aw.below E;obtain⟨hX,hC⟩:=Sx r nl y (stG rs) w1.heap.size w1 (z5L hz) hR.out L0q ai (z5K Z) (y4J o.ck);refine(Wc r nl y (stG rs) none w1.heap.size Y w1 hX (fun _=>z5K Z) hC (z5L hz) (y4O hu) hR.out L0q ai aA aB W2 D).mono ?_;rintro e w3 ⟨aj,ak,al,am,ao,ap,aq,ar,au,ev,rfl,ac,⟨tt,uu,rfl,_,_,_,_,_,_,_,_,_,h|h⟩|⟨rfl,h⟩⟩
  ·exact absurd (y4N o.so) h
  ·rw[Wh]at h
   exact absurd V.l2 (by omega)
  ·obtain⟨h1,h2,h3,_,_,_,h4⟩:=h.out
   rw[Wh,Af]at h4;rw[Wh]at h1;rw[Ay]at h2 h3;obtain rfl:ak=ol:=h1.trans G.symm;obtain rfl:ao=nl:=h2.trans U.symm;obtain rfl:ar=rl:=h3.trans ad.symm;refine⟨aj,al,am,ap,aq,au,rfl,ac,hid fun W3 av=> ?_⟩;have aC:zB w W3:=E.trans ((D.trans ((ac.out.trans (av.mono ac.out.size)).mono D.size)).mono E.size);exact y5g (pgG rs).2 (nmL rs) (pgG rs).1 aj am aq oso nso rso ak al ao ap ar au oc nc rc W3 G ae ab (h4.below av) (V.below aC)
theorem z6f(ops:List Ox)(ns:List ByteArray)(ro:List Int)(oso nso rso:Option Addr)(ol oc nl nc rl rc:Nat)(M:Nat)(w:World)(Z:ol=ops.length)(aa:rl=ro.length)(h:PgM ops ns ro oso nso rso w)
  (m0:zC w M 0 (.slice oso ol oc))(m2:zC w M 2 (.slice rso rl rc))(k:Nat)(U:k<ops.length)(j:Nat)(E:j<ops[k].2.2.2.length)(D:ops[k].1=5->0<=ops[k].2.2.2[j]/\ops[k].2.2.2[j]<(ro.length:Int)):
  Calls prog 88 #[zP M 0,zI k,zI j] w fun e w'=>e=.returned (zI (prt ro ops[k] j))/\zB w w':=by
 obtain⟨g,rfl,hg,so,ah,⟨c0,c1,c2,c3,c4,c5,c6⟩,ae,ab⟩:=h.o k U;obtain⟨b,ai,rfl,hb,hx⟩:=ab j E;have ac:=h.l2;have aj:(k:Int)<(ol:Int):=by omega
 have af:(j:Int)<(ops[k].2.2.2.length:Int):=by omega
 have hm:=World.block_lt_of_cell? w _ m0;obtain⟨x,V⟩:∃x,x=ops[k].2.2.2[j]:=⟨_,rfl⟩;have ad:ops[k].2.2.2.getD j 0=x:=by rw[V,List.getD_eq_getElem?_getD,List.getElem?_eq_getElem E];rfl
 rw[<-V]at hx D;obtain⟨kd,G⟩:∃kd,kd=ops[k].1:=⟨_,rfl⟩;obtain⟨r,A⟩:∃r,r=prt ro ops[k] j:=⟨_,rfl⟩;have HP:Hid (r=prt ro ops[k] j):=A;rw[<-A];unfold prt at A;rw[ad,<-G]at A;rw[<-G]at D c0;obtain⟨L,hL⟩:∃L,L=ops[k].2.2.2.length:=⟨_,rfl⟩;rw[<-hL]at c6 af;clear ad HP hL ae c1 c2 c3 c4 c5 V ab;by_cases h5:kd=5
 ·subst h5
  obtain⟨x1,x2⟩:=D rfl;obtain⟨y,rfl⟩:∃y:Nat,x=(y:Int):=⟨x.toNat,by omega⟩;have Y:y<ro.length:=by omega
  obtain⟨gr,rfl,ak,ag⟩:=h.r y Y;rw[if_pos rfl,Int.toNat_natCast,List.getD_eq_getElem?_getD,List.getElem?_eq_getElem Y]at A;have al:(y:Int)<(rl:Int):=by omega
  have e:r=ro[y]:=A;rw[<-e]at ag;clear e A D x1 x2 Y G h E U hb hg ac Z aa;go_enter func88,ntmps88
  go_wp2_with fail
  (try simp only[Exit.inBlock,Exit.then])
  refine bodyPost_ret (v:=zI r) (by simp[results,Tryz.results88,go_sem]) rfl ?_;exact⟨rfl,Below.refl _ w⟩
 ·rw[if_neg h5]at A
  subst A;have a0:(kd == 5)=false:=by simpa using h5
  clear D G h E U hb hg ac Z aa m2;go_enter func88,ntmps88
  go_wp2_with fail
  (try simp only[Exit.inBlock,Exit.then])
  refine bodyPost_ret (v:=zI r) (by simp[results,Tryz.results88,go_sem]) rfl ?_;exact⟨rfl,Below.refl _ w⟩
theorem y5s(M NB h nc:Nat)(k at':Nat)(w:World)(y:zC w M 4 (zS NB h nc))(ha:at'<h)(A:zC w NB at' (.slice none 0 0)):
  Calls prog 82 #[zP M 0,zI k,zI at'] w fun e w'=>e=.returned (.tuple #[zI 0,.bool false])/\zB w w':=by
 have D:=World.block_lt_of_cell? w _ y;have E:(at':Int)<(h:Int):=by omega
 have q:∀(w:World) (a:Option Addr) (n c o r:Nat),(binOp .eql 240 (.slice a n c) (.slice none o r)).run prog w=.ok (.bool a.isNone) w:=fun w a n c o r=>Lib.run_eql_slice_nil w _ _ a n c o r Tryz.underlying240
 go_enter func82,ntmps82
 go_wp2_with fail
 (try simp only[Exit.inBlock,Exit.then])
 refine bodyPost_ret (v:=.tuple #[zI 0,.bool false]) (by simp[results,Tryz.results82,go_sem]) rfl ?_;exact⟨rfl,Below.refl _ w⟩
theorem y5t(M NB r nc:Nat)(g ol U:Nat)(k at':Nat)(b:Bool)(x:Int)(hx:x<2147483648/\ -2147483648<=x)(w:World)(E:zC w M 4 (zS NB r nc))(ha:at'<r)(V:zC w NB at' (zS g ol U))(Y:k<ol)(Z:zC w g (k*2) (.bool b))(h1:zC w g (k*2+1) (.int .i32 x)):
  Calls prog 82 #[zP M 0,zI k,zI at'] w fun e w'=>e=.returned (.tuple #[zI x,.bool b])/\zB w w':=by
 have hm:=World.block_lt_of_cell? w _ E;have aa:(at':Int)<(r:Int):=by omega
 have ab:(k:Int)<(ol:Int):=by omega
 have q:∀(w:World) (a:Option Addr) (n c y A:Nat),(binOp .eql 240 (.slice a n c) (.slice none y A)).run prog w=.ok (.bool a.isNone) w:=fun w a n c y A=>Lib.run_eql_slice_nil w _ _ a n c y A Tryz.underlying240
 go_enter func82,ntmps82
 go_wp2_with fail
 have hw:IntKind.i64.wrap x=x:=by rw[IntKind.wrap_i64];omega
 obtain⟨W,o⟩:∃W,W=w.alloc (.cells #[.bool b,.int .i32 x] 242):=⟨_,rfl⟩;have D:W.heap[w.heap.size]? =some (.cells #[.bool b,.int .i32 x] 242):=by rw[o];exact Qx w _ rfl
 have G:zB w W:=by rw[o];exact(Below.refl _ w).alloc L0q _
 have HS:Hid (zC W.drew w.heap.size 0 (.bool b)/\zC W.drew w.heap.size 1 (.int .i32 x)):=⟨(Qj D 0 _ rfl).1,(Qj D 1 _ rfl).1⟩;rw[<-o];have HB:=hid G;clear o D G E V Z h1 q Y ha;refine Qc 99 (fun X:World=>zC X w.heap.size 0 (.bool b)/\zC X w.heap.size 1 (.int .i32 x)) (by kernel_rfl) HS.out (fun h=> ?_);refine Qz 0 h ?_;refine Qz 1 h ?_;refine Qz 2 h ?_;refine Qz 3 h ?_;refine Qz 4 h ?_;refine Qz 5 h ?_;refine Qz 6 h ?_;refine⟨by kernel_rfl,?_⟩;clear h
 go_wp2_with fail
 (try simp only[Exit.inBlock,Exit.then])
 refine bodyPost_ret (v:=.tuple #[zI x,.bool b]) (by simp[results,Tryz.results82,go_sem]) rfl ?_;exact⟨rfl,HB.out.drew⟩
end Go.Proofs.YtmelafeingcgnaaGreatDoor
