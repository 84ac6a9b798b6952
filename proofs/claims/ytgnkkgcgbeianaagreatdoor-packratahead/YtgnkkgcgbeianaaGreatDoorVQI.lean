/- Lemmas for the last text. Conditions: those that each names. -/
import Derived.Test.YtgnkkgcgbeianaaGreatDoorVQEToQH
set_option linter.unusedVariables false
set_option maxRecDepth 100000
set_option maxHeartbeats 32000000
namespace Go.Proofs.YtgnkkgcgbeianaaGreatDoor
open Go.Proofs.Tryz
section
open Go.RowKit Go.Shelf Go.Maps
section
variable {P:Program} {md:Region.Mode} {ops:Array Oper} {Q:Exit->Act->World->Prop} {S:World->Prop} {z:Nat}
theorem y7z(i j:Nat){o t:Oper}{n:Nat}{l:Array Bool}{a:Act}{w:World}
 (h:∀r:Act->World->Prop,Shut (∀a w,S w->Yx P md ops Q S z n (l.setIfInBounds i true) a w->r a w)->if Region.wanted o (yielded ops a.tmps)=true then Oper.wp P o a w r Q else r (a.put o.dst undef) w)
 (y:∀r:Act->World->Prop,Shut (∀a w,S w->Yx P md ops Q S z n (l.setIfInBounds j true) a w->r a w)->if Region.wanted t (yielded ops a.tmps)=true then Oper.wp P t a w r Q else r (a.put t.dst undef) w)
 (A:Jc ops.toList i=some o:=by exact rfl)(D:Jc ops.toList j=some t:=by exact rfl)(E:Region.ready md ops l=[i,j]:=by kernel_rfl):Yx P md ops Q S z (n+1) l a w:=y7w E (Ah A) (Ah D) h y
end
structure Uj (w:World) (k:Int) (T:ByteArray) (a b c d:Int) (p nb B j:Nat) (pc oc:Obj) (v:Value) (xs:List Value) (acc:List RT) (wr:World):Prop where
 s:B<=wr.heap.size
 n:wr.heap[nb]? =some (.cells #[.int .i64 k,.string T,.int .u64 a,.int .u64 b,.int .u64 c,.int .u64 d,v,.int .i64 0] 81)
 e0:wr.heap[p]? =some pc
 e1:wr.heap[p+1]? =some zNd
 e2:wr.heap[p+1+1]? =some oc
 o:wr.ownsRow B 81 8 v j xs
 l:acc.length=j
 r:Zq wr (fun g=>B<=g/\v.ownBlock≠some g) acc xs
 b:Below w.heap.size w wr
theorem Uj.step{w wr y A:World}{p nb B j D G:Nat}{k a b c d:Int}{T:ByteArray}{pc oc:Obj}{v:Value}{xs V:List Value}{acc:List RT}{t:RT}{X:Obj}
  (h:Uj w k T a b c d p nb B j pc oc v xs acc wr)(Y:p=w.heap.size)(hn:p+1+1<nb)(ae:nb<B)(I:Below wr.heap.size wr y)
  (E:Zf y (fun g=>wr.heap.size<=g) t V)(ab:A.ownsRow B 81 8 (.slice (some ⟨D,0,none⟩) (j+1) G) (j+1) (xs++V))(U:(y.alloc X).grownBy A v.ownBlock)(af:v.ownBlock=some D∨D=y.heap.size+1):
  Uj w k T a b c d p nb B (j+1) pc oc (.slice (some ⟨D,0,none⟩) (j+1) G) (xs++V) (acc++[t]) (A.setCell ⟨nb,6,none⟩ (.slice (some ⟨D,0,none⟩) (j+1) G)):=by
 have ac:∀g,v.ownBlock=some g->B<=g/\g<wr.heap.size:=fun g e=>h.o.lt g e
 have h2:=I.size;have hs:=h.s;have ea:(y.alloc X).heap.size=y.heap.size+1:=World.size_alloc _ _;have h6:=U.size;have ad:Below w.heap.size w (y.alloc X):=(h.b.trans (I.mono h.b.size)).alloc (Nat.le_trans h.b.size h2) _;have ag:Below w.heap.size w A:=ad.grown U ad.size (fun g e=>by have:=ac g e;omega);have low:∀q,q<B->A.heap[q]? =wr.heap[q]? :=fun q E=>(U.block q (by omega) (fun e=>by have:=ac q e.symm;omega)).trans ((Below.heap_alloc _ _ _ (by omega)).trans (I.block q (by omega)))
 have Z:∀q,q<B->q≠nb->(A.setCell ⟨nb,6,none⟩ (.slice (some ⟨D,0,none⟩) (j+1) G)).heap[q]? =wr.heap[q]? :=fun q E aa=>(Below.heap_setCell _ _ _ _ (by simpa using aa)).trans (low q E)
 have ah:=(low nb ae).trans h.n;refine⟨by rw[World.size_setCell];omega,Qk ah 6 _,(Z p (by omega) (by omega)).trans h.e0,(Z (p+1) (by omega) (by omega)).trans h.e1,(Z (p+1+1) (by omega) (by omega)).trans h.e2,ab.kept (row:=some nb) ⟨rfl,rfl,rfl,by simp,fun i hi aa=>Below.heap_setCell _ _ _ _ (fun e=>aa (by rw[e]))⟩ (.inr (fun e=>by have:=(ab.lt _ e).1;omega)),by rw[List.length_append,h.l];rfl,?_,ag.setCell (p:=⟨nb,6,none⟩) (by show w.heap.size<=nb;omega) _⟩;refine Zq.kept (fun g cur Y E=>⟨Below.heap_setCell _ _ _ _ (fun e=>by have:=Y.1;simp at e;omega),Y⟩) _ _ (Rq.app2 (W4:=y.alloc X) h.o h.l h.r hs I E (by omega) (fun g hg=>Below.heap_alloc _ _ _ hg) U ?_);rcases af with h|h
 ·exact .inl h.symm
 ·exact .inr (by rw[h,ea];rfl)
theorem Uj.fin{w wr:World}{p nb B j y:Nat}{A:Option Addr}{k a b c d:Int}{T:ByteArray}{Y oc:Obj}{xs:List Value}{acc:List RT}(h:Uj w k T a b c d p nb B j Y oc (.slice A j y) xs acc wr)(hp:p=w.heap.size)(hn:p+1+1<nb)(ab:nb<B)(Z:j<=maxLen):
  CnA (.mk k T a b c d acc 0) w (.returned (.agg #[.int .i64 k,.string T,.int .u64 a,.int .u64 b,.int .u64 c,.int .u64 d,.slice A j y,.int .i64 0])) (Vp wr (p+1) k T a b c d (.slice A j y) 0):=by
 have hW:=z7U wr (p+1) k T a b c d (.slice A j y) 0;refine⟨k,T,a,b,c,d,A,j,y,0,rfl,hid ?_,hid (z1d h.b (by omega))⟩;rw[Zf];refine⟨A,y,by rw[Xc,h.l],?_⟩;cases acc with
 |nil=>exact .inl rfl
 |cons t r=>
  refine .inr ⟨rfl,?_⟩;have hl:=h.l;obtain⟨_,⟨_,h0⟩|⟨g,ac,cur,e1,aa,G,_,_,_,ht⟩⟩:=id h.o
  ·rw[h0]at hl;simp at hl
  ·obtain⟨rfl,_,_⟩:=Value.slice.inj e1
   have I:∀D,B<=D->∀U,wr.heap[D]? =some (.cells U 81)->(Vp wr (p+1) k T a b c d (.slice (some ⟨g,0,none⟩) j y) 0).heap[D]? =wr.heap[D]? :=fun D h1 U E=>hW.block D (Qq E) (fun e=>by have:=Option.some.inj e;omega)
   refine⟨g,cur,rfl,by omega,(I g aa cur G).trans G,by rw[Xc,hl];exact Z,?_⟩;have E:=Zq.more _ _ (cur.toList.drop (j*8)) (Zq.kept (w':=Vp wr (p+1) k T a b c d (.slice (some ⟨g,0,none⟩) j y) 0) (Q:=fun g=>w.heap.size<=g) (fun g cur V hq=>⟨I g V.1 cur hq,by have:=V.1;omega⟩) _ _ h.r);rw[<-ht,List.take_append_drop]at E;exact E
theorem Oq{w W W':World}{p q:Nat}{D oc:Obj}{y0 y1 y2 y3 E G:Value}(h:Hid (Below w.heap.size w W)/\Hid (W.heap[p]? =some D/\W.heap[p+1]? =some zNd/\W.heap[p+1+1]? =some oc)/\W.cell? ⟨q,0,none⟩=some y0/\W.cell? ⟨q,1,none⟩=some y1/\W.cell? ⟨q,2,none⟩=some y2/\W.cell? ⟨q,3,none⟩=some y3/\W.cell? ⟨q,4,none⟩=some E/\W.cell? ⟨q,5,none⟩=some G)(r:Below W.heap.size W W'):Hid (Below w.heap.size w W')/\Hid (W'.heap[p]? =some D/\W'.heap[p+1]? =some zNd/\W'.heap[p+1+1]? =some oc)/\W'.cell? ⟨q,0,none⟩=some y0/\W'.cell? ⟨q,1,none⟩=some y1/\W'.cell? ⟨q,2,none⟩=some y2/\W'.cell? ⟨q,3,none⟩=some y3/\W'.cell? ⟨q,4,none⟩=some E/\W'.cell? ⟨q,5,none⟩=some G:=by
 have k:∀{p:Addr} {u:Value},W.cell? p=some u->W'.cell? p=some u:=fun{p u} I=>(r.cell (p:=p) (World.block_lt_of_cell? W _ I)).trans I
 have m:∀{i:Nat} {o:Obj},W.heap[i]? =some o->W'.heap[i]? =some o:=fun{i o} t=>(r.block i (by
  rcases Nat.lt_or_ge i W.heap.size with y|y
  ·exact y
  ·rw[Array.getElem?_eq_none y]at t;cases t)).trans t
 obtain⟨U,A,V,Y,Z,k3,k4,k5⟩:=h;exact⟨hid (U.out.trans (r.mono U.out.size)),hid ⟨m A.out.1,m A.out.2.1,m A.out.2.2⟩,k V,k Y,k Z,k k3,k k4,k k5⟩
theorem z7V{W W':World}{q p:Nat}{y0 y1 y2 y3:Value}(h:W.cell? ⟨q,6,none⟩=some y0/\W.cell? ⟨p,0,none⟩=some y1/\W.cell? ⟨p,1,none⟩=some y2/\W.cell? ⟨p,2,none⟩=some y3)(r:Below W.heap.size W W'):W'.cell? ⟨q,6,none⟩=some y0/\W'.cell? ⟨p,0,none⟩=some y1/\W'.cell? ⟨p,1,none⟩=some y2/\W'.cell? ⟨p,2,none⟩=some y3:=by
 have k:∀{p:Addr} {u:Value},W.cell? p=some u->W'.cell? p=some u:=fun{p u} o=>(r.cell (p:=p) (World.block_lt_of_cell? W _ o)).trans o
 exact⟨k h.1,k h.2.1,k h.2.2.1,k h.2.2.2⟩
theorem y7A{W W':World}{q p:Nat}{row:Option Nat}{y0 y1 y2 y3:Value}(h:W.cell? ⟨q,6,none⟩=some y0/\W.cell? ⟨p,0,none⟩=some y1/\W.cell? ⟨p,1,none⟩=some y2/\W.cell? ⟨p,2,none⟩=some y3)(t:some q≠row)(r:some p≠row)(o:W.grownBy W' row):W'.cell? ⟨q,6,none⟩=some y0/\W'.cell? ⟨p,0,none⟩=some y1/\W'.cell? ⟨p,1,none⟩=some y2/\W'.cell? ⟨p,2,none⟩=some y3:=
 ⟨o.cell h.1 t,o.cell h.2.1 r,o.cell h.2.2.1 r,o.cell h.2.2.2 r⟩
theorem y7B(g:Nat)(nso rso:Option Addr)(ol oc nl nc rl rc:Nat)(w:World)(k:Nat)(kd:Int)(M:ByteArray)(x y z v:Int)(s:List Int)(so:Option Addr)(n al:Nat)(ts:List RT)(h5:kd≠5)(bb:k<ol)(hM:M.size<=1073741824)(hg:g<w.heap.size)
  (c0:w.cell? ⟨g,k*7,none⟩=some (.int .i64 kd))(c1:w.cell? ⟨g,k*7+1,none⟩=some (.string M))(c2:w.cell? ⟨g,k*7+2,none⟩=some (.int .u64 x))(c3:w.cell? ⟨g,k*7+3,none⟩=some (.int .u64 y))(c4:w.cell? ⟨g,k*7+4,none⟩=some (.int .u64 z))(c5:w.cell? ⟨g,k*7+5,none⟩=some (.int .u64 v))(c6:w.cell? ⟨g,k*7+6,none⟩=some (.slice so n al))
  (HN:Hid (n=s.length))(hn:n<=1048576)(HR:Hid (RwC w (· <w.heap.size) so s))(aw:Hid (ts.length=s.length))
  (HC:Hid (∀j (hj:j<s.length) (bc:j<ts.length) (W:World),Below w.heap.size w W->Calls prog 65 #[.agg #[.slice (some ⟨g,0,none⟩) ol oc,.slice nso nl nc,.slice rso rl rc],.int .i64 s[j]] W (CnA ts[j] W))):
  Calls prog 65 #[.agg #[.slice (some ⟨g,0,none⟩) ol oc,.slice nso nl nc,.slice rso rl rc],.int .i64 k] w (CnA (.mk kd M x y z v ts 0) w):=by
 obtain⟨iT,aP,aQ,aR,aS⟩:=info_parts Tryz.infoNd;obtain⟨U,ax⟩:∃U,U=Obj.cells #[.slice (some ⟨g,0,none⟩) ol oc,.slice nso nl nc,.slice rso rl rc] 26:=⟨_,rfl⟩;obtain⟨V,am⟩:∃V,V=Obj.cells #[.int .i64 kd,.string M,.int .u64 x,.int .u64 y,.int .u64 z,.int .u64 v,.slice so n al] 56:=⟨_,rfl⟩;obtain⟨W,hW⟩:∃W,W=((w.alloc U).alloc zNd).alloc V:=⟨_,rfl⟩;have hB:Below w.heap.size w W:=by rw[hW];exact(((Below.refl _ w).alloc L0q _).alloc (by simp) _).alloc (by simp;omega) _
 have e0:W.heap[w.heap.size]? =some U:=by rw[hW];exact(Below.heap_alloc _ _ _ (by simp;omega)).trans ((Below.heap_alloc _ _ _ (by simp)).trans (Qx w _ rfl))
 have e1:W.heap[w.heap.size+1]? =some zNd:=by rw[hW];exact(Below.heap_alloc _ _ _ (by simp)).trans (Qx _ _ (by simp))
 have e2:W.heap[w.heap.size+1+1]? =some V:=by rw[hW];exact Qx _ _ (by simp)
 have ay:W.heap.size=w.heap.size+3:=by rw[hW];simp
 obtain⟨p,hp⟩:∃p,p=w.heap.size:=⟨_,rfl⟩;have Y:=e2;rw[am]at Y;have az:Hid (Hid (Below w.heap.size w W.drew)/\Hid (W.drew.heap[p]? =some U/\W.drew.heap[p+1]? =some zNd/\W.drew.heap[p+1+1]? =some V)/\W.drew.cell? ⟨p+1+1,0,none⟩=some (.int .i64 kd)/\W.drew.cell? ⟨p+1+1,1,none⟩=some (.string M)/\W.drew.cell? ⟨p+1+1,2,none⟩=some (.int .u64 x)/\W.drew.cell? ⟨p+1+1,3,none⟩=some (.int .u64 y)/\W.drew.cell? ⟨p+1+1,4,none⟩=some (.int .u64 z)/\W.drew.cell? ⟨p+1+1,5,none⟩=some (.int .u64 v)):=by
  rw[hp];exact⟨hid hB.drew,hid ⟨e0,e1,e2⟩,(Qj Y 0 _ rfl).1,(Qj Y 1 _ rfl).1,(Qj Y 2 _ rfl).1,(Qj Y 3 _ rfl).1,(Qj Y 4 _ rfl).1,(Qj Y 5 _ rfl).1⟩
 have aA:=hid (fun w':World=>Kh M w' (by omega));have a5:(kd == 5)=false:=by simpa using h5
 have bd:(k:Int)<(ol:Int):=by omega
 have aT:g<w.heap.size+1:=by omega
 have aU:g<w.heap.size+1+1:=by omega
 have HW:=hid hW;have Hp:=hid hp;have be:=hid ay;have aB:=hid ax;have aC:=hid am;clear hW hp e0 e1 e2 Y hB ay ax am;go_enter func65,ntmps65
 go_wp2_with fail
 rw[<-aB.out,<-aC.out,<-HW.out,<-Hp.out];clear c0 c1 c2 c3 c4 c5 c6 aT aU HW;refine Zj 9 (fun X:World=>Hid (Below w.heap.size w X)/\Hid (X.heap[p]? =some U/\X.heap[p+1]? =some zNd/\X.heap[p+1+1]? =some V)/\X.cell? ⟨p+1+1,0,none⟩=some (.int .i64 kd)/\X.cell? ⟨p+1+1,1,none⟩=some (.string M)/\X.cell? ⟨p+1+1,2,none⟩=some (.int .u64 x)/\X.cell? ⟨p+1+1,3,none⟩=some (.int .u64 y)/\X.cell? ⟨p+1+1,4,none⟩=some (.int .u64 z)/\X.cell? ⟨p+1+1,5,none⟩=some (.int .u64 v)) (by kernel_rfl) az.out (fun r=> ?_);refine Qz 0 r ?_;refine Qz 1 r ?_;refine Qz 2 r ?_;refine Qz 3 r ?_;refine Qz 5 r ?_;refine Qz 6 r ?_;refine y7z 4 8 (fun K A=> ?brA) (fun K A=> ?brB)
 case' brA=>
  go_simp
  refine(aA.out _).mono ?_;rintro e w4 ⟨rfl,ab⟩
  go_simp
  replace r:=Oq r ab;refine A.out _ _ r ?_;clear A K ab
  (try simp only[Act.put,List.setIfInBounds_toArray,List.set_cons_zero,List.set_cons_succ])
  refine Qz 7 r ?_;refine Qg 8 (fun K A=> ?_);have aV:=r.1.out.size;have aa:Hid (p+1+1<w4.heap.size):=Qq r.2.1.out.2.2;replace r:=Oq r ((Below.refl _ w4).alloc L0q zNd);have Z:Hid ((w4.alloc zNd).heap[w4.heap.size]? =some zNd):=Qx w4 _ rfl
  go_simp
  refine A.out _ _ r ?_;clear A K aV
  (try simp only[Act.put,List.setIfInBounds_toArray,List.set_cons_zero,List.set_cons_succ])
  obtain⟨w5,aD⟩:∃w5,w5=w4.alloc zNd:=⟨_,rfl⟩;obtain⟨nb,ac⟩:∃nb,nb=w4.heap.size:=⟨_,rfl⟩;rw[<-aD]at r Z ⊢;rw[<-ac]at Z aa ⊢;clear aD ac
 case' brB=>
  have aa:Hid (p+1+1<W.heap.size):=Qq r.2.1.out.2.2;replace r:=Oq r (B0q.alloc L0q zNd);have aE:Hid ((W.drew.alloc zNd).heap[W.heap.size]? =some zNd):=Qx W.drew _ rfl
  go_simp
  refine A.out _ _ r ?_;clear A K
  (try simp only[Act.put,List.setIfInBounds_toArray,List.set_cons_zero,List.set_cons_succ])
  refine Qg 4 (fun K A=> ?_)
  go_simp
  refine(aA.out _).mono ?_;rintro e w5 ⟨rfl,ab⟩;have Z:Hid (w5.heap[W.heap.size]? =some zNd):=hid ((ab.block _ (by show W.heap.size<(W.alloc zNd).heap.size;rw[World.size_alloc];omega)).trans aE.out);replace r:=Oq r ab
  go_simp
  refine A.out _ _ r ?_;clear A K ab aE
  (try simp only[Act.put,List.setIfInBounds_toArray,List.set_cons_zero,List.set_cons_succ])
  refine Qz 7 r ?_;obtain⟨nb,ac⟩:∃nb,nb=W.heap.size:=⟨_,rfl⟩;rw[<-ac]at Z aa ⊢;clear ac
 all_goals
  refine Vw (fun K A=> ?_);obtain⟨⟨y0,y1,y2,y3,y4,y5,y6,y7⟩,yf⟩:=Qy Z.out;have ln:=Qq Z.out;have aF:=r.1;have ai:=r.2.1;obtain⟨W8,ad⟩:∃W8,W8=Vp w5 nb kd M x y z v (.slice none 0 0) 0:=⟨_,rfl⟩;have aj:∀q,q≠nb->W8.heap[q]? =w5.heap[q]? :=fun q hq=>by
   rcases Nat.lt_or_ge q w5.heap.size with h'|h'
   ·rw[ad];exact(z7U w5 nb kd M x y z v (.slice none 0 0) 0).block q h' (fun e=>hq (Option.some.inj e))
   ·rw[Array.getElem?_eq_none h',Array.getElem?_eq_none (by rw[ad];unfold Vp;simpa using h')]
  have hU:Uj w kd M x y z v p nb W8.heap.size 0 U V (.slice none 0 0) [] [] W8:=by
   have ac:=aa.out;refine⟨Nat.le_refl _,by rw[ad];exact z1c Z.out,(aj p (by omega)).trans ai.out.1,(aj (p+1) (by omega)).trans ai.out.2.1,(aj (p+1+1) (by omega)).trans ai.out.2.2,World.ownsRow_nil _ _ _ _,rfl,by rw[Zq];trivial,by rw[ad];exact z1d aF.out (by have:=Hp.out;omega)⟩
  have HU:=hid hU;have ae:Hid (nb<W8.heap.size):=Qq hU.n;have aG:=hid ad;clear ad aj hU
  go_simp
  refine A.out _ _ ?_;clear A K r az aF ai Z y0 y1 y2 y3 y4 y5 y6 y7 yf ln;rw[<-Vp,<-aG.out];clear aG;have ak:=HU.out.e2;rw[aC.out]at ak;have g6:W8.cell? ⟨p+1+1,6,none⟩=some (.slice so n al):=(Qj ak 6 _ rfl).1;have aW:=Qq ak;clear ak
  go_wp2_with fail
  clear g6 aW;obtain⟨B,aH⟩:∃B,B=W8.heap.size:=⟨_,rfl⟩;rw[<-aH]at HU ae;clear aH
  go_loopw [38] (fun i wr=>∃(j:Nat) (u:Value) (xs:List Value),i=.int .i64 j/\j<=n/\Hid (Uj w kd M x y z v p nb B j U V u xs (ts.take j) wr)) (fun i _=>n-(intOf i).toNat)
  case atStart=>exact⟨0,_,_,rfl,Nat.zero_le _,HU⟩
  case round=>
   obtain⟨j,u,xs,rfl,hj,D⟩:=hrel;obtain⟨G,I,rfl⟩:=Mw D.out.o;by_cases hjn:j<n
   rotate_left
   ·have a0:decide ((j:Int)<(n:Int))=false:=by simp;omega
    have a1:decide (j<n)=false:=by simp;omega
    have hF:=D.out.fin Hp.out aa.out ae.out (by unfold maxLen;omega);rw[List.take_of_length_le (by rw[aw.out,<-HN.out];omega)]at hF;have HF:=hid hF;obtain⟨⟨y0,y1,y2,y3,y4,y5,y6,y7⟩,yf⟩:=Qy D.out.n;obtain⟨⟨q0,q1,q2,q3,q4,q5,q6,q7⟩,qf⟩:=Qy D.out.e1;have l0:=Qq D.out.n;have l1:=Qq D.out.e1;have aX:=hid (z1c (k:=kd) (T:=M) (a1:=x) (a2:=y) (a3:=z) (a4:=v) (v:=.slice G j I) (p:=0) D.out.e1);clear hF
    go_wp2_with fail
    (try simp only[Exit.inBlock,Exit.then])
    rw[<-Vp];clear y0 y1 y2 y3 y4 y5 y6 y7 yf q0 q1 q2 q3 q4 q5 q6 q7 qf l0 l1;obtain⟨⟨z0,z1,z2,z3,z4,z5,z6,z7⟩,_⟩:=Qy aX.out;refine bodyPost_ret (v:=.agg #[.int .i64 kd,.string M,.int .u64 x,.int .u64 y,.int .u64 z,.int .u64 v,.slice G j I,.int .i64 0]) (by simp[results,Tryz.results65,go_sem,z0,z1,z2,z3,z4,z5,z6,z7]) rfl ?_;exact HF.out
   have ao:j<s.length:=by rw[<-HN.out];exact hjn
   have aI:j<ts.length:=by rw[aw.out];exact ao
   obtain⟨g2,q2,rfl,ag,ap⟩:=HR.out j ao;have ag:g2<w.heap.size:=ag;obtain⟨e,he⟩:∃e,e=s[j]:=⟨_,rfl⟩;obtain⟨t,ht⟩:∃t,t=ts[j]:=⟨_,rfl⟩;have HG:=hid (HC.out j ao aI wr.drew D.out.b.drew);rw[<-he]at ap HG;rw[<-ht]at HG;have HT:=hid ht;have d2:wr.cell? ⟨g2,q2+j,none⟩=some (.int .i64 e):=(D.out.b.cell (p:=⟨g2,q2+j,none⟩) ag).trans ap;have bf:g2<wr.heap.size:=Nat.lt_of_lt_of_le ag D.out.b.size;obtain⟨⟨_,_,_,_,_,_,x6,_⟩,_⟩:=Qy D.out.n;have ah:=D.out.e0;rw[aB.out]at ah;have aJ:Hid (wr.drew.cell? ⟨nb,6,none⟩=some (.slice G j I)/\wr.drew.cell? ⟨p,0,none⟩=some (.slice (some ⟨g,0,none⟩) ol oc)/\wr.drew.cell? ⟨p,1,none⟩=some (.slice nso nl nc)/\wr.drew.cell? ⟨p,2,none⟩=some (.slice rso rl rc)):=⟨x6,(Qj ah 0 _ rfl).1,(Qj ah 1 _ rfl).1,(Qj ah 2 _ rfl).1⟩;have aK:Hid (some nb≠(Value.slice G j I).ownBlock):=fun e=>by have:=(D.out.o.lt _ e.symm).1;have:=ae.out;omega
   have aY:Hid (some p≠(Value.slice G j I).ownBlock):=fun e=>by have:=(D.out.o.lt _ e.symm).1;have:=ae.out;have:=aa.out;omega
   have aZ:Hid (∀E,Hid (Below wr.drew.heap.size wr.drew E)->E.ownsRow B 81 8 (.slice G j I) j xs/\E.heap[nb]? =some (.cells #[.int .i64 kd,.string M,.int .u64 x,.int .u64 y,.int .u64 z,.int .u64 v,.slice G j I,.int .i64 0] 81)/\Below wr.heap.size wr E/\B<=E.heap.size/\nb<E.heap.size):=fun E h=>by
    have hs:=h.out.size;have es:wr.drew.heap.size=wr.heap.size:=rfl;have h1:=D.out.s;have h2:=ae.out;exact⟨Yf (show wr.drew.ownsRow B 81 8 (.slice G j I) j xs from D.out.o) h.out,(h.out.block nb (by omega)).trans D.out.n,(Below.refl _ wr).drew.trans (h.out.mono (by omega)),by omega,by omega⟩
   have a0:decide ((j:Int)<(n:Int))=true:=by simp;omega
   have a1:decide (j<n)=true:=by simp;omega
   have bg:(j:Int)<(n:Int):=by omega
   have bh:IntKind.i64.wrap ((j:Int)+1)=(j:Int)+1:=by rw[IntKind.wrap_i64];omega
   have m1:j+1<=maxLen:=by unfold maxLen;omega
   have m2:(j+1)*88<=140737488355328:=by omega
   clear he ht ap ag x6 ah
   go_wp2_with fail
   refine Zj 8 (fun X:World=>X.cell? ⟨nb,6,none⟩=some (.slice G j I)/\X.cell? ⟨p,0,none⟩=some (.slice (some ⟨g,0,none⟩) ol oc)/\X.cell? ⟨p,1,none⟩=some (.slice nso nl nc)/\X.cell? ⟨p,2,none⟩=some (.slice rso rl rc)) (by kernel_rfl) aJ.out (fun r=> ?_);refine Qz 0 r ?_;refine Qz 1 r ?_;refine Qz 2 r ?_;refine Qz 3 r ?_
   (refine Qg 4 (fun K A=> ?_);go_simp;refine HG.out.mono ?_;rintro e E ⟨k2,T2,a2,b2,c2,d2,aq,n2,ar,p2,rfl,a6,aL⟩;have af:=hid (aZ.out E aL);go_simp;replace r:=z7V r aL.out;refine A.out _ _ r ?_;clear A K)
   (try simp only[Act.put,List.setIfInBounds_toArray,List.set_cons_zero,List.set_cons_succ])
   (refine Qg 5 (fun K A=> ?_);go_simp;replace r:=z7V r ((Below.refl _ E).alloc L0q (.cells #[.int .i64 k2,.string T2,.int .u64 a2,.int .u64 b2,.int .u64 c2,.int .u64 d2,.slice aq n2 ar,.int .i64 p2] 81));refine A.out _ _ r ?_;clear A K)
   (try simp only[Act.put,List.setIfInBounds_toArray,List.set_cons_zero,List.set_cons_succ])
   (refine Qg 6 (fun K A=> ?_);refine step_append_lies _ rfl (.tmp 43) (.tmp 47) 79 rfl B 81 iT (.agg #[.int .i64 0,.string ⟨#[]⟩,.int .u64 0,.int .u64 0,.int .u64 0,.int .u64 0,.slice none 0 0,.int .i64 0]) 8 88 Tryz.underlying79 aP aQ aR aS rfl (by decide) (.slice G j I) j xs (by rfl) (af.out.1.alloc _) ⟨E.heap.size,0,none⟩ 1 1 [.int .i64 k2,.string T2,.int .u64 a2,.int .u64 b2,.int .u64 c2,.int .u64 d2,.slice aq n2 ar,.int .i64 p2] (by rfl) rfl (Rx _ _ _ _ _ _ _ _ _ _) (Rj _ _ _ _ _ _ _ _ _ _) (by decide) m1 m2 (z4G af.out.2.2.2.1) (E.heap.size+1) (World.size_alloc _ _) ?_;intro g6 a7 w6 aM au aN bi;replace r:=y7A r aK.out aY.out au;have a8:=hid aM;have aO:=hid au;have a9:=hid aN;clear aM au aN;refine A.out _ _ r ?_;clear A K)
   (try simp only[Act.put,List.setIfInBounds_toArray,List.set_cons_zero,List.set_cons_succ])
   refine Qz 7 r ?_;refine Vw (fun K A=> ?_);have av:=hid ((aO.out.block nb (by rw[World.size_alloc];have:=af.out.2.2.2.2;omega) aK.out).trans ((Below.heap_alloc _ _ _ af.out.2.2.2.2).trans af.out.2.1));obtain⟨⟨y0,y1,y2,y3,y4,y5,y6,y7⟩,f0,f1,f2,f3,f4,f5,f6,f7⟩:=Qy av.out;have ls:=Qq av.out;clear r
   go_simp
   refine A.out _ _ ?_;clear A K y0 y1 y2 y3 y4 y5 y6 y7 f0 f1 f2 f3 f4 f5 f6 f7 ls aJ av
   go_wp2_with fail
   have ba:=hid (D.out.step Hp.out aa.out ae.out af.out.2.2.1 a6.out a8.out aO.out a9.out)
   go_roundw
   case rel=>
    refine⟨j+1,.slice (some ⟨g6,0,none⟩) (j+1) a7,xs++[.int .i64 k2,.string T2,.int .u64 a2,.int .u64 b2,.int .u64 c2,.int .u64 d2,.slice aq n2 ar,.int .i64 p2],by simp,by omega,?_⟩;rw[List.take_succ_eq_append_getElem aI,<-HT.out];exact ba
   case measure=>simp[intOf];omega
end
end Go.Proofs.YtgnkkgcgbeianaaGreatDoor
