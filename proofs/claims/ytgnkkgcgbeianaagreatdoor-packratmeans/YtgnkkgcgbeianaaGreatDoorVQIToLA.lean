/- Lemmas for the last text. Conditions: those that each names. -/
import Derived.Test.YtgnkkgcgbeianaaGreatDoorVQEToQH
import Derived.Test.YtgnkkgcgbeianaaGreatDoorVU9ToU14
import Derived.Test.YtgnkkgcgbeianaaGreatDoorVPEToQD
set_option linter.unusedVariables false
set_option maxRecDepth 100000
set_option maxHeartbeats 32000000
namespace Go.Proofs.YtgnkkgcgbeianaaGreatDoor
open Go.Proofs.Tryz
section
open Go.RowKit Go.Shelf Go.Maps
section
variable {P:Program} {md:Region.Mode} {ops:Array Oper} {Q:Exit->Act->World->Prop} {S:World->Prop} {z:Nat}
theorem y4Y(i j:Nat){o t:Oper}{n:Nat}{l:Array Bool}{a:Act}{w:World}
 (h:∀r:Act->World->Prop,Shut (∀a w,S w->Xb P md ops Q S z n (l.setIfInBounds i true) a w->r a w)->if Region.wanted o (yielded ops a.tmps)=true then Oper.wp P o a w r Q else r (a.put o.dst undef) w)
 (y:∀r:Act->World->Prop,Shut (∀a w,S w->Xb P md ops Q S z n (l.setIfInBounds j true) a w->r a w)->if Region.wanted t (yielded ops a.tmps)=true then Oper.wp P t a w r Q else r (a.put t.dst undef) w)
 (A:Jq ops.toList i=some o:=by exact rfl)(D:Jq ops.toList j=some t:=by exact rfl)(E:Region.ready md ops l=[i,j]:=by kernel_rfl):Xb P md ops Q S z (n+1) l a w:=y4V E (Mp A) (Mp D) h y
end
structure Uj (w:World) (k:Int) (T:ByteArray) (a b c d:Int) (p nb B j:Nat) (pc oc:Obj) (v:Value) (xs:List Value) (acc:List RT) (wr:World):Prop where
 s:B<=wr.heap.size
 n:wr.heap[nb]? =some (.cells #[.int .i64 k,.string T,.int .u64 a,.int .u64 b,.int .u64 c,.int .u64 d,v,.int .i64 0] 81)
 e0:wr.heap[p]? =some pc
 e1:wr.heap[p+1]? =some zNd
 e2:wr.heap[p+1+1]? =some oc
 o:wr.ownsRow B 81 8 v j xs
 l:acc.length=j
 r:Zx wr (fun g=>B<=g/\v.ownBlock≠some g) acc xs
 b:Below w.heap.size w wr
theorem Uj.step{w wr y A:World}{p nb B j D G:Nat}{k a b c d:Int}{T:ByteArray}{pc oc:Obj}{v:Value}{xs V:List Value}{acc:List RT}{t:RT}{X:Obj}
  (h:Uj w k T a b c d p nb B j pc oc v xs acc wr)(Y:p=w.heap.size)(hn:p+1+1<nb)(ae:nb<B)(I:Below wr.heap.size wr y)
  (E:Zv y (fun g=>wr.heap.size<=g) t V)(ab:A.ownsRow B 81 8 (.slice (some ⟨D,0,none⟩) (j+1) G) (j+1) (xs++V))(U:(y.alloc X).grownBy A v.ownBlock)(af:v.ownBlock=some D∨D=y.heap.size+1):
  Uj w k T a b c d p nb B (j+1) pc oc (.slice (some ⟨D,0,none⟩) (j+1) G) (xs++V) (acc++[t]) (A.setCell ⟨nb,6,none⟩ (.slice (some ⟨D,0,none⟩) (j+1) G)):=by
 have ac:∀g,v.ownBlock=some g->B<=g/\g<wr.heap.size:=fun g e=>h.o.lt g e
 have h2:=I.size;have hs:=h.s;have ea:(y.alloc X).heap.size=y.heap.size+1:=World.size_alloc _ _;have h6:=U.size;have ad:Below w.heap.size w (y.alloc X):=(h.b.trans (I.mono h.b.size)).alloc (Nat.le_trans h.b.size h2) _;have ag:Below w.heap.size w A:=ad.grown U ad.size (fun g e=>by have:=ac g e;omega);have low:∀q,q<B->A.heap[q]? =wr.heap[q]? :=fun q E=>(U.block q (by omega) (fun e=>by have:=ac q e.symm;omega)).trans ((Below.heap_alloc _ _ _ (by omega)).trans (I.block q (by omega)))
 have Z:∀q,q<B->q≠nb->(A.setCell ⟨nb,6,none⟩ (.slice (some ⟨D,0,none⟩) (j+1) G)).heap[q]? =wr.heap[q]? :=fun q E aa=>(Below.heap_setCell _ _ _ _ (by simpa using aa)).trans (low q E)
 have ah:=(low nb ae).trans h.n;refine⟨by rw[World.size_setCell];omega,Qw ah 6 _,(Z p (by omega) (by omega)).trans h.e0,(Z (p+1) (by omega) (by omega)).trans h.e1,(Z (p+1+1) (by omega) (by omega)).trans h.e2,ab.kept (row:=some nb) ⟨rfl,rfl,rfl,by simp,fun i hi aa=>Below.heap_setCell _ _ _ _ (fun e=>aa (by rw[e]))⟩ (.inr (fun e=>by have:=(ab.lt _ e).1;omega)),by rw[List.length_append,h.l];rfl,?_,ag.setCell (p:=⟨nb,6,none⟩) (by show w.heap.size<=nb;omega) _⟩;refine Zx.kept (fun g ai Y E=>⟨Below.heap_setCell _ _ _ _ (fun e=>by have:=Y.1;simp at e;omega),Y⟩) _ _ (Rq.app2 (W4:=y.alloc X) h.o h.l h.r hs I E (by omega) (fun g hg=>Below.heap_alloc _ _ _ hg) U ?_);rcases af with h|h
 ·exact .inl h.symm
 ·exact .inr (by rw[h,ea];rfl)
theorem Uj.fin{w wr:World}{p nb B j y:Nat}{A:Option Addr}{k a b c d:Int}{T:ByteArray}{Z oc:Obj}{xs:List Value}{acc:List RT}(h:Uj w k T a b c d p nb B j Z oc (.slice A j y) xs acc wr)(hp:p=w.heap.size)(hn:p+1+1<nb)(ab:nb<B)(hj:j<=maxLen):
  CnA (.mk k T a b c d acc 0) w (.returned (.agg #[.int .i64 k,.string T,.int .u64 a,.int .u64 b,.int .u64 c,.int .u64 d,.slice A j y,.int .i64 0])) (Vz wr (p+1) k T a b c d (.slice A j y) 0):=by
 have hW:=z5Z wr (p+1) k T a b c d (.slice A j y) 0;refine⟨k,T,a,b,c,d,A,j,y,0,rfl,hid ?_,hid (z0h h.b (by omega))⟩;rw[Zv];refine⟨A,y,by rw[Zm,h.l],?_⟩;cases acc with
 |nil=>exact .inl rfl
 |cons t r=>
  refine .inr ⟨rfl,?_⟩;have hl:=h.l;obtain⟨_,⟨_,h0⟩|⟨g,ac,E,e1,aa,I,_,_,_,ht⟩⟩:=id h.o
  ·rw[h0]at hl;simp at hl
  ·obtain⟨rfl,_,_⟩:=Value.slice.inj e1
   have U:∀D,B<=D->∀V,wr.heap[D]? =some (.cells V 81)->(Vz wr (p+1) k T a b c d (.slice (some ⟨g,0,none⟩) j y) 0).heap[D]? =wr.heap[D]? :=fun D h1 V G=>hW.block D (Qq G) (fun e=>by have:=Option.some.inj e;omega)
   refine⟨g,E,rfl,by omega,(U g aa E I).trans I,by rw[Zm,hl];exact hj,?_⟩;have G:=Zx.more _ _ (E.toList.drop (j*8)) (Zx.kept (w':=Vz wr (p+1) k T a b c d (.slice (some ⟨g,0,none⟩) j y) 0) (Q:=fun g=>w.heap.size<=g) (fun g E Y hq=>⟨U g Y.1 E hq,by have:=Y.1;omega⟩) _ _ h.r);rw[<-ht,List.take_append_drop]at G;exact G
theorem Ic{w W W':World}{p q:Nat}{D oc:Obj}{y0 y1 y2 y3 E G:Value}(h:Hid (Below w.heap.size w W)/\Hid (W.heap[p]? =some D/\W.heap[p+1]? =some zNd/\W.heap[p+1+1]? =some oc)/\W.cell? ⟨q,0,none⟩=some y0/\W.cell? ⟨q,1,none⟩=some y1/\W.cell? ⟨q,2,none⟩=some y2/\W.cell? ⟨q,3,none⟩=some y3/\W.cell? ⟨q,4,none⟩=some E/\W.cell? ⟨q,5,none⟩=some G)(r:Below W.heap.size W W'):Hid (Below w.heap.size w W')/\Hid (W'.heap[p]? =some D/\W'.heap[p+1]? =some zNd/\W'.heap[p+1+1]? =some oc)/\W'.cell? ⟨q,0,none⟩=some y0/\W'.cell? ⟨q,1,none⟩=some y1/\W'.cell? ⟨q,2,none⟩=some y2/\W'.cell? ⟨q,3,none⟩=some y3/\W'.cell? ⟨q,4,none⟩=some E/\W'.cell? ⟨q,5,none⟩=some G:=by
 have k:∀{p:Addr} {u:Value},W.cell? p=some u->W'.cell? p=some u:=fun{p u} I=>(r.cell (p:=p) (World.block_lt_of_cell? W _ I)).trans I
 have m:∀{i:Nat} {o:Obj},W.heap[i]? =some o->W'.heap[i]? =some o:=fun{i o} t=>(r.block i (by
  rcases Nat.lt_or_ge i W.heap.size with y|y
  ·exact y
  ·rw[Array.getElem?_eq_none y]at t;cases t)).trans t
 obtain⟨U,A,k0,V,Y,Z,k4,k5⟩:=h;exact⟨hid (U.out.trans (r.mono U.out.size)),hid ⟨m A.out.1,m A.out.2.1,m A.out.2.2⟩,k k0,k V,k Y,k Z,k k4,k k5⟩
theorem z6a{W W':World}{q p:Nat}{y0 y1 y2 y3:Value}(h:W.cell? ⟨q,6,none⟩=some y0/\W.cell? ⟨p,0,none⟩=some y1/\W.cell? ⟨p,1,none⟩=some y2/\W.cell? ⟨p,2,none⟩=some y3)(r:Below W.heap.size W W'):W'.cell? ⟨q,6,none⟩=some y0/\W'.cell? ⟨p,0,none⟩=some y1/\W'.cell? ⟨p,1,none⟩=some y2/\W'.cell? ⟨p,2,none⟩=some y3:=by
 have k:∀{p:Addr} {u:Value},W.cell? p=some u->W'.cell? p=some u:=fun{p u} o=>(r.cell (p:=p) (World.block_lt_of_cell? W _ o)).trans o
 exact⟨k h.1,k h.2.1,k h.2.2.1,k h.2.2.2⟩
theorem y4Z{W W':World}{q p:Nat}{row:Option Nat}{y0 y1 y2 y3:Value}(h:W.cell? ⟨q,6,none⟩=some y0/\W.cell? ⟨p,0,none⟩=some y1/\W.cell? ⟨p,1,none⟩=some y2/\W.cell? ⟨p,2,none⟩=some y3)(t:some q≠row)(r:some p≠row)(o:W.grownBy W' row):W'.cell? ⟨q,6,none⟩=some y0/\W'.cell? ⟨p,0,none⟩=some y1/\W'.cell? ⟨p,1,none⟩=some y2/\W'.cell? ⟨p,2,none⟩=some y3:=
 ⟨o.cell h.1 t,o.cell h.2.1 r,o.cell h.2.2.1 r,o.cell h.2.2.2 r⟩
theorem y5a(g:Nat)(nso rso:Option Addr)(ol oc nl nc rl rc:Nat)(w:World)(k:Nat)(kd:Int)(M:ByteArray)(x y z v:Int)(s:List Int)(so:Option Addr)(n al:Nat)(ts:List RT)(h5:kd≠5)(bb:k<ol)(hM:M.size<=1073741824)(hg:g<w.heap.size)
  (c0:w.cell? ⟨g,k*7,none⟩=some (.int .i64 kd))(c1:w.cell? ⟨g,k*7+1,none⟩=some (.string M))(c2:w.cell? ⟨g,k*7+2,none⟩=some (.int .u64 x))(c3:w.cell? ⟨g,k*7+3,none⟩=some (.int .u64 y))(c4:w.cell? ⟨g,k*7+4,none⟩=some (.int .u64 z))(c5:w.cell? ⟨g,k*7+5,none⟩=some (.int .u64 v))(c6:w.cell? ⟨g,k*7+6,none⟩=some (.slice so n al))
  (HN:Hid (n=s.length))(hn:n<=1048576)(HR:Hid (RwC w (· <w.heap.size) so s))(aw:Hid (ts.length=s.length))
  (HC:Hid (∀j (hj:j<s.length) (bc:j<ts.length) (W:World),Below w.heap.size w W->Calls prog 65 #[.agg #[.slice (some ⟨g,0,none⟩) ol oc,.slice nso nl nc,.slice rso rl rc],.int .i64 s[j]] W (CnA ts[j] W))):
  Calls prog 65 #[.agg #[.slice (some ⟨g,0,none⟩) ol oc,.slice nso nl nc,.slice rso rl rc],.int .i64 k] w (CnA (.mk kd M x y z v ts 0) w):=by
 obtain⟨iT,aP,aQ,aR,aS⟩:=info_parts Tryz.infoNd;obtain⟨U,ax⟩:∃U,U=Obj.cells #[.slice (some ⟨g,0,none⟩) ol oc,.slice nso nl nc,.slice rso rl rc] 26:=⟨_,rfl⟩;obtain⟨V,am⟩:∃V,V=Obj.cells #[.int .i64 kd,.string M,.int .u64 x,.int .u64 y,.int .u64 z,.int .u64 v,.slice so n al] 56:=⟨_,rfl⟩;obtain⟨W,hW⟩:∃W,W=((w.alloc U).alloc zNd).alloc V:=⟨_,rfl⟩;have hB:Below w.heap.size w W:=by rw[hW];exact(((Below.refl _ w).alloc L0q _).alloc (by simp) _).alloc (by simp;omega) _
 have e0:W.heap[w.heap.size]? =some U:=by rw[hW];exact(Below.heap_alloc _ _ _ (by simp;omega)).trans ((Below.heap_alloc _ _ _ (by simp)).trans (Qx w _ rfl))
 have e1:W.heap[w.heap.size+1]? =some zNd:=by rw[hW];exact(Below.heap_alloc _ _ _ (by simp)).trans (Qx _ _ (by simp))
 have e2:W.heap[w.heap.size+1+1]? =some V:=by rw[hW];exact Qx _ _ (by simp)
 have ay:W.heap.size=w.heap.size+3:=by rw[hW];simp
 obtain⟨p,hp⟩:∃p,p=w.heap.size:=⟨_,rfl⟩;have Y:=e2;rw[am]at Y;have az:Hid (Hid (Below w.heap.size w W.drew)/\Hid (W.drew.heap[p]? =some U/\W.drew.heap[p+1]? =some zNd/\W.drew.heap[p+1+1]? =some V)/\W.drew.cell? ⟨p+1+1,0,none⟩=some (.int .i64 kd)/\W.drew.cell? ⟨p+1+1,1,none⟩=some (.string M)/\W.drew.cell? ⟨p+1+1,2,none⟩=some (.int .u64 x)/\W.drew.cell? ⟨p+1+1,3,none⟩=some (.int .u64 y)/\W.drew.cell? ⟨p+1+1,4,none⟩=some (.int .u64 z)/\W.drew.cell? ⟨p+1+1,5,none⟩=some (.int .u64 v)):=by
  rw[hp];exact⟨hid hB.drew,hid ⟨e0,e1,e2⟩,(Qj Y 0 _ rfl).1,(Qj Y 1 _ rfl).1,(Qj Y 2 _ rfl).1,(Qj Y 3 _ rfl).1,(Qj Y 4 _ rfl).1,(Qj Y 5 _ rfl).1⟩
 have aA:=hid (fun w':World=>Dh M w' (by omega));have a5:(kd == 5)=false:=by simpa using h5
 have bd:(k:Int)<(ol:Int):=by omega
 have aT:g<w.heap.size+1:=by omega
 have aU:g<w.heap.size+1+1:=by omega
 have HW:=hid hW;have Hp:=hid hp;have be:=hid ay;have aB:=hid ax;have aC:=hid am;clear hW hp e0 e1 e2 Y hB ay ax am;go_enter func65,ntmps65
 go_wp2_with fail
 rw[<-aB.out,<-aC.out,<-HW.out,<-Hp.out];clear c0 c1 c2 c3 c4 c5 c6 aT aU HW;refine Qc 9 (fun X:World=>Hid (Below w.heap.size w X)/\Hid (X.heap[p]? =some U/\X.heap[p+1]? =some zNd/\X.heap[p+1+1]? =some V)/\X.cell? ⟨p+1+1,0,none⟩=some (.int .i64 kd)/\X.cell? ⟨p+1+1,1,none⟩=some (.string M)/\X.cell? ⟨p+1+1,2,none⟩=some (.int .u64 x)/\X.cell? ⟨p+1+1,3,none⟩=some (.int .u64 y)/\X.cell? ⟨p+1+1,4,none⟩=some (.int .u64 z)/\X.cell? ⟨p+1+1,5,none⟩=some (.int .u64 v)) (by kernel_rfl) az.out (fun r=> ?_);refine Qz 0 r ?_;refine Qz 1 r ?_;refine Qz 2 r ?_;refine Qz 3 r ?_;refine Qz 5 r ?_;refine Qz 6 r ?_;refine y4Y 4 8 (fun K A=> ?brA) (fun K A=> ?brB)
 case' brA=>
  go_simp
  refine(aA.out _).mono ?_;rintro e w4 ⟨rfl,ab⟩
  go_simp
  replace r:=Ic r ab;refine A.out _ _ r ?_;clear A K ab
  (try simp only[Act.put,List.setIfInBounds_toArray,List.set_cons_zero,List.set_cons_succ])
  refine Qz 7 r ?_;refine Qf 8 (fun K A=> ?_);have aV:=r.1.out.size;have aa:Hid (p+1+1<w4.heap.size):=Qq r.2.1.out.2.2;replace r:=Ic r ((Below.refl _ w4).alloc L0q zNd);have Z:Hid ((w4.alloc zNd).heap[w4.heap.size]? =some zNd):=Qx w4 _ rfl
  go_simp
  refine A.out _ _ r ?_;clear A K aV
  (try simp only[Act.put,List.setIfInBounds_toArray,List.set_cons_zero,List.set_cons_succ])
  obtain⟨w5,aD⟩:∃w5,w5=w4.alloc zNd:=⟨_,rfl⟩;obtain⟨nb,ac⟩:∃nb,nb=w4.heap.size:=⟨_,rfl⟩;rw[<-aD]at r Z ⊢;rw[<-ac]at Z aa ⊢;clear aD ac
 case' brB=>
  have aa:Hid (p+1+1<W.heap.size):=Qq r.2.1.out.2.2;replace r:=Ic r (B0q.alloc L0q zNd);have aE:Hid ((W.drew.alloc zNd).heap[W.heap.size]? =some zNd):=Qx W.drew _ rfl
  go_simp
  refine A.out _ _ r ?_;clear A K
  (try simp only[Act.put,List.setIfInBounds_toArray,List.set_cons_zero,List.set_cons_succ])
  refine Qf 4 (fun K A=> ?_)
  go_simp
  refine(aA.out _).mono ?_;rintro e w5 ⟨rfl,ab⟩;have Z:Hid (w5.heap[W.heap.size]? =some zNd):=hid ((ab.block _ (by show W.heap.size<(W.alloc zNd).heap.size;rw[World.size_alloc];omega)).trans aE.out);replace r:=Ic r ab
  go_simp
  refine A.out _ _ r ?_;clear A K ab aE
  (try simp only[Act.put,List.setIfInBounds_toArray,List.set_cons_zero,List.set_cons_succ])
  refine Qz 7 r ?_;obtain⟨nb,ac⟩:∃nb,nb=W.heap.size:=⟨_,rfl⟩;rw[<-ac]at Z aa ⊢;clear ac
 all_goals
  refine Yj (fun K A=> ?_);obtain⟨⟨y0,y1,y2,y3,y4,y5,y6,y7⟩,yf⟩:=Qg Z.out;have ln:=Qq Z.out;have aF:=r.1;have ai:=r.2.1;obtain⟨W8,ad⟩:∃W8,W8=Vz w5 nb kd M x y z v (.slice none 0 0) 0:=⟨_,rfl⟩;have aj:∀q,q≠nb->W8.heap[q]? =w5.heap[q]? :=fun q hq=>by
   rcases Nat.lt_or_ge q w5.heap.size with h'|h'
   ·rw[ad];exact(z5Z w5 nb kd M x y z v (.slice none 0 0) 0).block q h' (fun e=>hq (Option.some.inj e))
   ·rw[Array.getElem?_eq_none h',Array.getElem?_eq_none (by rw[ad];unfold Vz;simpa using h')]
  have hU:Uj w kd M x y z v p nb W8.heap.size 0 U V (.slice none 0 0) [] [] W8:=by
   have ac:=aa.out;refine⟨Nat.le_refl _,by rw[ad];exact z0g Z.out,(aj p (by omega)).trans ai.out.1,(aj (p+1) (by omega)).trans ai.out.2.1,(aj (p+1+1) (by omega)).trans ai.out.2.2,World.ownsRow_nil _ _ _ _,rfl,by rw[Zx];trivial,by rw[ad];exact z0h aF.out (by have:=Hp.out;omega)⟩
  have HU:=hid hU;have ae:Hid (nb<W8.heap.size):=Qq hU.n;have aG:=hid ad;clear ad aj hU
  go_simp
  refine A.out _ _ ?_;clear A K r az aF ai Z y0 y1 y2 y3 y4 y5 y6 y7 yf ln;rw[<-Vz,<-aG.out];clear aG;have ak:=HU.out.e2;rw[aC.out]at ak;have g6:W8.cell? ⟨p+1+1,6,none⟩=some (.slice so n al):=(Qj ak 6 _ rfl).1;have aW:=Qq ak;clear ak
  go_wp2_with fail
  clear g6 aW;obtain⟨B,aH⟩:∃B,B=W8.heap.size:=⟨_,rfl⟩;rw[<-aH]at HU ae;clear aH
  go_loopw [38] (fun i wr=>∃(j:Nat) (u:Value) (xs:List Value),i=.int .i64 j/\j<=n/\Hid (Uj w kd M x y z v p nb B j U V u xs (ts.take j) wr)) (fun i _=>n-(intOf i).toNat)
  case atStart=>exact⟨0,_,_,rfl,Nat.zero_le _,HU⟩
  case round=>
   obtain⟨j,u,xs,rfl,hj,D⟩:=hrel;obtain⟨G,I,rfl⟩:=Dd D.out.o;by_cases hjn:j<n
   rotate_left
   ·have a0:decide ((j:Int)<(n:Int))=false:=by simp;omega
    have a1:decide (j<n)=false:=by simp;omega
    have hF:=D.out.fin Hp.out aa.out ae.out (by unfold maxLen;omega);rw[List.take_of_length_le (by rw[aw.out,<-HN.out];omega)]at hF;have HF:=hid hF;obtain⟨⟨y0,y1,y2,y3,y4,y5,y6,y7⟩,yf⟩:=Qg D.out.n;obtain⟨⟨q0,q1,q2,q3,q4,q5,q6,q7⟩,qf⟩:=Qg D.out.e1;have l0:=Qq D.out.n;have l1:=Qq D.out.e1;have aX:=hid (z0g (k:=kd) (T:=M) (a1:=x) (a2:=y) (a3:=z) (a4:=v) (v:=.slice G j I) (p:=0) D.out.e1);clear hF
    go_wp2_with fail
    (try simp only[Exit.inBlock,Exit.then])
    rw[<-Vz];clear y0 y1 y2 y3 y4 y5 y6 y7 yf q0 q1 q2 q3 q4 q5 q6 q7 qf l0 l1;obtain⟨⟨z0,z1,z2,z3,z4,z5,z6,z7⟩,_⟩:=Qg aX.out;refine bodyPost_ret (v:=.agg #[.int .i64 kd,.string M,.int .u64 x,.int .u64 y,.int .u64 z,.int .u64 v,.slice G j I,.int .i64 0]) (by simp[results,Tryz.results65,go_sem,z0,z1,z2,z3,z4,z5,z6,z7]) rfl ?_;exact HF.out
   have ao:j<s.length:=by rw[<-HN.out];exact hjn
   have aI:j<ts.length:=by rw[aw.out];exact ao
   obtain⟨g2,q2,rfl,ag,ap⟩:=HR.out j ao;have ag:g2<w.heap.size:=ag;obtain⟨e,he⟩:∃e,e=s[j]:=⟨_,rfl⟩;obtain⟨t,ht⟩:∃t,t=ts[j]:=⟨_,rfl⟩;have HG:=hid (HC.out j ao aI wr.drew D.out.b.drew);rw[<-he]at ap HG;rw[<-ht]at HG;have HT:=hid ht;have d2:wr.cell? ⟨g2,q2+j,none⟩=some (.int .i64 e):=(D.out.b.cell (p:=⟨g2,q2+j,none⟩) ag).trans ap;have bf:g2<wr.heap.size:=Nat.lt_of_lt_of_le ag D.out.b.size;obtain⟨⟨_,_,_,_,_,_,x6,_⟩,_⟩:=Qg D.out.n;have ah:=D.out.e0;rw[aB.out]at ah;have aJ:Hid (wr.drew.cell? ⟨nb,6,none⟩=some (.slice G j I)/\wr.drew.cell? ⟨p,0,none⟩=some (.slice (some ⟨g,0,none⟩) ol oc)/\wr.drew.cell? ⟨p,1,none⟩=some (.slice nso nl nc)/\wr.drew.cell? ⟨p,2,none⟩=some (.slice rso rl rc)):=⟨x6,(Qj ah 0 _ rfl).1,(Qj ah 1 _ rfl).1,(Qj ah 2 _ rfl).1⟩;have aK:Hid (some nb≠(Value.slice G j I).ownBlock):=fun e=>by have:=(D.out.o.lt _ e.symm).1;have:=ae.out;omega
   have aY:Hid (some p≠(Value.slice G j I).ownBlock):=fun e=>by have:=(D.out.o.lt _ e.symm).1;have:=ae.out;have:=aa.out;omega
   have aZ:Hid (∀E,Hid (Below wr.drew.heap.size wr.drew E)->E.ownsRow B 81 8 (.slice G j I) j xs/\E.heap[nb]? =some (.cells #[.int .i64 kd,.string M,.int .u64 x,.int .u64 y,.int .u64 z,.int .u64 v,.slice G j I,.int .i64 0] 81)/\Below wr.heap.size wr E/\B<=E.heap.size/\nb<E.heap.size):=fun E h=>by
    have hs:=h.out.size;have es:wr.drew.heap.size=wr.heap.size:=rfl;have h1:=D.out.s;have h2:=ae.out;exact⟨Xh (show wr.drew.ownsRow B 81 8 (.slice G j I) j xs from D.out.o) h.out,(h.out.block nb (by omega)).trans D.out.n,(Below.refl _ wr).drew.trans (h.out.mono (by omega)),by omega,by omega⟩
   have a0:decide ((j:Int)<(n:Int))=true:=by simp;omega
   have a1:decide (j<n)=true:=by simp;omega
   have bg:(j:Int)<(n:Int):=by omega
   have bh:IntKind.i64.wrap ((j:Int)+1)=(j:Int)+1:=by rw[IntKind.wrap_i64];omega
   have m1:j+1<=maxLen:=by unfold maxLen;omega
   have m2:(j+1)*88<=140737488355328:=by omega
   clear he ht ap ag x6 ah
   go_wp2_with fail
   refine Qc 8 (fun X:World=>X.cell? ⟨nb,6,none⟩=some (.slice G j I)/\X.cell? ⟨p,0,none⟩=some (.slice (some ⟨g,0,none⟩) ol oc)/\X.cell? ⟨p,1,none⟩=some (.slice nso nl nc)/\X.cell? ⟨p,2,none⟩=some (.slice rso rl rc)) (by kernel_rfl) aJ.out (fun r=> ?_);refine Qz 0 r ?_;refine Qz 1 r ?_;refine Qz 2 r ?_;refine Qz 3 r ?_
   (refine Qf 4 (fun K A=> ?_);go_simp;refine HG.out.mono ?_;rintro e E ⟨k2,T2,a2,b2,c2,d2,aq,n2,ar,p2,rfl,a6,aL⟩;have af:=hid (aZ.out E aL);go_simp;replace r:=z6a r aL.out;refine A.out _ _ r ?_;clear A K)
   (try simp only[Act.put,List.setIfInBounds_toArray,List.set_cons_zero,List.set_cons_succ])
   (refine Qf 5 (fun K A=> ?_);go_simp;replace r:=z6a r ((Below.refl _ E).alloc L0q (.cells #[.int .i64 k2,.string T2,.int .u64 a2,.int .u64 b2,.int .u64 c2,.int .u64 d2,.slice aq n2 ar,.int .i64 p2] 81));refine A.out _ _ r ?_;clear A K)
   (try simp only[Act.put,List.setIfInBounds_toArray,List.set_cons_zero,List.set_cons_succ])
   (refine Qf 6 (fun K A=> ?_);refine step_append_lies _ rfl (.tmp 43) (.tmp 47) 79 rfl B 81 iT (.agg #[.int .i64 0,.string ⟨#[]⟩,.int .u64 0,.int .u64 0,.int .u64 0,.int .u64 0,.slice none 0 0,.int .i64 0]) 8 88 Tryz.underlying79 aP aQ aR aS rfl (by decide) (.slice G j I) j xs (by rfl) (af.out.1.alloc _) ⟨E.heap.size,0,none⟩ 1 1 [.int .i64 k2,.string T2,.int .u64 a2,.int .u64 b2,.int .u64 c2,.int .u64 d2,.slice aq n2 ar,.int .i64 p2] (by rfl) rfl (Oy _ _ _ _ _ _ _ _ _ _) (Of _ _ _ _ _ _ _ _ _ _) (by decide) m1 m2 (z2M af.out.2.2.2.1) (E.heap.size+1) (World.size_alloc _ _) ?_;intro g6 a7 w6 aM au aN bi;replace r:=y4Z r aK.out aY.out au;have a8:=hid aM;have aO:=hid au;have a9:=hid aN;clear aM au aN;refine A.out _ _ r ?_;clear A K)
   (try simp only[Act.put,List.setIfInBounds_toArray,List.set_cons_zero,List.set_cons_succ])
   refine Qz 7 r ?_;refine Yj (fun K A=> ?_);have av:=hid ((aO.out.block nb (by rw[World.size_alloc];have:=af.out.2.2.2.2;omega) aK.out).trans ((Below.heap_alloc _ _ _ af.out.2.2.2.2).trans af.out.2.1));obtain⟨⟨y0,y1,y2,y3,y4,y5,y6,y7⟩,f0,f1,f2,f3,f4,f5,f6,f7⟩:=Qg av.out;have ls:=Qq av.out;clear r
   go_simp
   refine A.out _ _ ?_;clear A K y0 y1 y2 y3 y4 y5 y6 y7 f0 f1 f2 f3 f4 f5 f6 f7 ls aJ av
   go_wp2_with fail
   have ba:=hid (D.out.step Hp.out aa.out ae.out af.out.2.2.1 a6.out a8.out aO.out a9.out)
   go_roundw
   case rel=>
    refine⟨j+1,.slice (some ⟨g6,0,none⟩) (j+1) a7,xs++[.int .i64 k2,.string T2,.int .u64 a2,.int .u64 b2,.int .u64 c2,.int .u64 d2,.slice aq n2 ar,.int .i64 p2],by simp,by omega,?_⟩;rw[List.take_succ_eq_append_getElem aI,<-HT.out];exact ba
   case measure=>simp[intOf];omega
end
open Go.RowKit Go.Shelf Go.Maps
theorem y5b{a b c d:Int}(h:zc a b c d=true):a=0/\b=0/\c=0/\d=0:=by
 unfold zc at h;simp only[Bool.and_eq_true,beq_iff_eq]at h;exact h
theorem z6b{ix:zA->Int}{ops:List Ox}:∀{s:List RT} {l:List Int},DnL ix ops s l->l.length=s.length/\∀j (o:j<l.length) (y:j<s.length),Dn ix ops s[j] l[j]
 |[],l,h=>by rw[DnL]at h;subst h;exact⟨rfl,fun j o=>by simp at o⟩
 |t::r,l,h=>by
  rw[DnL]at h;obtain⟨n,l',rfl,A,D⟩:=h;obtain⟨E,G⟩:=z6b D;refine⟨by rw[List.length_cons,List.length_cons,E],fun j o y=> ?_⟩;cases j with
  |zero=>exact A
  |succ j=>exact G j (by simpa using o) (by simpa using y)
theorem z6c(rs:List Rr)(hl:rs.length<=64)(aa:∀x∈nmL rs,x.size<=32)(ops:List Ox)(ro:List Int)(oso nso rso:Option Addr)(y oc A nc D rc:Nat)(w0:World)(G:y=ops.length)(ab:A=rs.length)(h:PgM ops (nmL rs) ro oso nso rso w0):∀(Q:Nat) (t:RT) (k:Int) (w:World),SizeOf.sizeOf t<Q->Ptt rs t->Dn (fun T=>fdI T (nmL rs)) ops t k->zB w0 w->
  Calls prog 65 #[.agg #[.slice oso y oc,.slice nso A nc,.slice rso D rc],zI k] w (CnA (stT t) w)
 |0,t,k,w,h',_,_,_=>by omega
 |Q+1,.mk kd T a b c d s p,k,w,hQ,ht,hd,hb=>by
  have hw:=h.below hb;rw[Dn]at hd;obtain⟨k',rfl⟩:∃k':Nat,k=(k':Int):=⟨k.toNat,by omega⟩;rw[Int.toNat_natCast]at hd;rcases hd.2 with⟨rfl,I⟩|⟨h5,l,I,h2⟩
  ·obtain⟨E,U⟩:=List.getElem?_eq_some_iff.1 I
   have V:=ht.2.2.1 (T,p) (by rw[rfT,if_pos rfl];exact List.mem_singleton.2 rfl);have ac:=Gk T (nmL rs) V;have Y:=z3x (nmL rs) V;have hs:=ok5 ht.1;have r:=ht.1;rw[okT,Bool.and_eq_true]at r;have r:=r.1;unfold okN at r;simp only[show ¬((5:Int)=1∨(5:Int)=4) by decide,show ¬((5:Int)=2) by decide,show ¬((5:Int)=3) by decide,if_false,if_true,Bool.and_eq_true]at r;obtain⟨rfl,rfl,rfl,rfl⟩:=y5b r.2.1;subst hs;have hN:(nmL rs)[ixN T (nmL rs)]=T:=(List.getElem?_eq_some_iff.1 Y).2;have ah:ops[k']=(5,{data:=#[]},(0,0,0,0),[((ixN T (nmL rs):Nat):Int)]):=by
    rw[U];unfold fdI;rw[if_pos V]
   have:=y4X ops (nmL rs) ro oso nso rso y oc A nc D rc w G (by rw[ab,Uy]) hw k' E {data:=#[]} 0 0 0 0 (ixN T (nmL rs)) ah ac (aa _ (List.getElem_mem ac));rw[hN]at this;exact this
  ·obtain⟨E,U⟩:=List.getElem?_eq_some_iff.1 I
   obtain⟨g,rfl,Y,so,ai,⟨c0,c1,c2,c3,c4,c5,c6⟩,ad,ae⟩:=hw.o k' E;rw[U]at c0 c1 c2 c3 c4 c5 c6 ad ae;obtain⟨af,aj⟩:=z6b h2;have ag:=ht.2.2.2;rw[TrK]at ag;rw[stT];refine y5a g nso rso y oc A nc D rc w k' kd T a b c d l so l.length ai (stL s) h5 (by rw[G];exact E) ag.1.2.1 Y c0 c1 c2 c3 c4 c5 c6 (hid rfl) ad (hid ae) (hid (by rw[Wh,af])) (hid fun j hj ak W hW=> ?_);have Z:j<s.length:=by rw[<-af];exact hj
   have e:(stL s)[j]=stT s[j]:=by
    have:=z5l s;simp only[this,List.getElem_map]
   rw[e];refine z6c rs hl aa ops ro (some ⟨g,0,none⟩) nso rso y oc A nc D rc w0 G ab h Q s[j] l[j] W ?_ (Id _ _ _ _ _ _ _ _ ht _ (List.getElem_mem Z)) (aj j hj Z) (hb.trans (hW.mono hb.size));have:=List.sizeOf_lt_of_mem (List.getElem_mem Z);simp at hQ;omega
theorem z0i{W W':World}{p q i:Nat}{y0 y1 y2 y3:Value}(h:zC W p 0 y0/\zC W p 1 y1/\zC W p 2 y2/\zC W q i y3)(r:zB W W'):zC W' p 0 y0/\zC W' p 1 y1/\zC W' p 2 y2/\zC W' q i y3:=by
 have k:∀{p:Addr} {u:Value},W.cell? p=some u->W'.cell? p=some u:=fun{p u} o=>(r.cell (p:=p) (World.block_lt_of_cell? W _ o)).trans o
 exact⟨k h.1,k h.2.1,k h.2.2.1,k h.2.2.2⟩
theorem y5c{W W':World}{p q i:Nat}{row:Option Nat}{y0 y1 y2 y3:Value}(h:zC W p 0 y0/\zC W p 1 y1/\zC W p 2 y2/\zC W q i y3)(r:some p≠row)(t:some q≠row)(o:W.grownBy W' row):zC W' p 0 y0/\zC W' p 1 y1/\zC W' p 2 y2/\zC W' q i y3:=
 ⟨o.cell h.1 r,o.cell h.2.1 r,o.cell h.2.2.1 r,o.cell h.2.2.2 t⟩
theorem y5d(rs:List Rr)(ops:List Ox)(ro:List Int)(oso nso rso:Option Addr)(ol oc o nc Y rc:Nat)(w:World)(ad:o=rs.length)(aj:Y=ro.length)(h:PgM ops (nmL rs) ro oso nso rso w)(hz:∀x∈nmL rs,x.size<=32)
  (HC:Hid (∀j (hj:j<ro.length) (bn:j<rs.length) (W:World),zB w W->Calls prog 65 #[.agg #[.slice oso ol oc,.slice nso o nc,.slice rso Y rc],zI ro[j]] W (CnA (stT rs[j].2.1) W))):
  Calls prog 37 #[.agg #[.slice oso ol oc,.slice nso o nc,.slice rso Y rc]] w fun e w'=>∃ak az,e=.returned (.agg #[.slice ak o az])/\Hid (Qb w' w'.heap.size ak o (stG rs))/\Hid (zB w w'):=by
 obtain⟨iT,aT,aU,aV,aW⟩:=info_parts Tryz.infoRl;obtain⟨pc,aA⟩:∃pc,pc=Obj.cells #[.slice oso ol oc,.slice nso o nc,.slice rso Y rc] 26:=⟨_,rfl⟩;obtain⟨A,aa⟩:∃A,A=(w.alloc pc).alloc (.cells #[.slice none 0 0] 43):=⟨_,rfl⟩;have aB:zB w A:=by rw[aa];exact((Below.refl _ w).alloc L0q _).alloc (by simp) _
 obtain⟨p,Z⟩:∃p,p=w.heap.size:=⟨_,rfl⟩;have ae:Hid (A.heap[p+1]? =some (.cells #[.slice none 0 0] 43)):=by rw[aa,Z];exact Qx _ _ (by simp)
 have af:Hid (zH A p pc):=by rw[aa,Z];exact(Below.heap_alloc _ _ _ (by simp)).trans (Qx w _ rfl)
 have al:(nmL rs).length=rs.length:=Uy rs;have bo:o<=64:=by rw[ad,<-al];exact h.l6
 have aC:Y=o:=by rw[aj,h.lr,al,ad]
 have aX:=y1K o (by omega);have HM:=hid h;have aD:Hid (o=rs.length):=ad;have aY:Hid (Y=ro.length):=aj;have HZ:=hid hz;have am:=hid aB;have aE:=hid aa;have Hp:=hid Z;have ao:=hid aA;have aF:=hid aC;have U:=af.out;rw[ao.out]at U;have g1:zC A p 1 (.slice nso o nc):=(Qj U 1 _ rfl).1;have lp:=Qq U;obtain⟨W3,ap⟩:∃W3,W3=A.alloc (.cells (madeCells #[zT {data:=#[]},zI 0,zT {data:=#[]},zU 0,zU 0,zU 0,zU 0,.slice none 0 0,zI 0,zI 0] (o*10)) 83):=⟨_,rfl⟩;have aG:A.heap.size=p+1+1:=by rw[aa,Z];simp
 have aH:Hid (PqR A 0 (stG rs) [] (zS (p+1+1) 0 o) W3):=by
  rw[ap,<-aG];exact⟨B0q.alloc L0q _,World.ownsRow_made A _ o L0q (by unfold maxLen;omega) (size_madeCells _ _),by rw[List.take_zero,Zk];trivial⟩
 have aI:=hid ap;clear aa aB Z aA U h ad aj aC hz al ap aG;go_enter func37,ntmps37
 go_wp2_with fail
 rw[<-ao.out,<-aE.out,<-Hp.out,<-aI.out];clear aX g1 lp aE aI
 go_loopw [3,13] (fun a i wr=>∃(j:Nat) (xs:List Value),i=zI (j:Int)/\j<=o/\Hid (PqR A j (stG rs) xs a wr)) (fun a i _=>o-(intOf i).toNat)
 case atStart=>exact⟨0,[],rfl,Nat.zero_le _,aH⟩
 case round=>
  obtain⟨j,xs,rfl,hj,E⟩:=hrel;clear aH;have ag:=hid (am.out.trans (E.out.be.mono am.out.size));obtain⟨D,G,rfl⟩:=Dd E.out.ow;by_cases hjn:j<o
  rotate_left
  ·have a0:decide ((j:Int)<(o:Int))=false:=by simp;omega
   have a1:decide (j<o)=false:=by simp;omega
   obtain rfl:j=o:=by omega
   have aq:(stG rs).length=j:=by rw[Ay];exact aD.out.symm
   have hq:=E.out.rq;rw[List.take_of_length_le (by rw[aq];exact Nat.le_refl _)]at hq;have ah:=(E.out.be.block _ (Qq ae.out)).trans ae.out;obtain⟨u0,f0⟩:=Qk ah;have lr:=Qq ah;have aZ:=hid ah;have aJ:wr.grownBy (wr.setCell ⟨p+1,0,none⟩ (.slice D j G)) (some (p+1)):=grownBy_setCell' _ _ _;have a2:Hid (Qb (wr.setCell ⟨p+1,0,none⟩ (.slice D j G)) (wr.setCell ⟨p+1,0,none⟩ (.slice D j G)).heap.size D j (stG rs)):=by
    have a4:=E.out.ow.kept aJ (.inr (fun e=>by have:=(E.out.ow.lt _ e).1;have:=Qq ae.out;omega));have a5:Zk (wr.setCell ⟨p+1,0,none⟩ (.slice D j G)) (fun g=>A.heap.size<=g) (stG rs) xs:=Zk.kept (fun g a6 Z _=>⟨Below.heap_setCell _ _ _ _ (fun e=>by have e2:g=p+1:=e;have:=Qq ae.out;omega),Z⟩) _ _ hq;obtain⟨ak,az,ea,a7⟩:=Zk.is a4 aq.symm a5;simp only[Value.slice.injEq]at ea;obtain⟨rfl,-,rfl⟩:=ea;exact a7
   have a8:Hid (zB w (wr.setCell ⟨p+1,0,none⟩ (.slice D j G))):=ag.out.setCell (p:=⟨p+1,0,none⟩) (by show w.heap.size<=p+1;have:=Hp.out;omega) _;clear hq aJ ah aq
   go_wp2_with fail
   (try simp only[Exit.inBlock,Exit.then])
   have r0:=(Qk (Qw aZ.out 0 (.slice D j G))).1;refine bodyPost_ret (v:=.agg #[.slice D j G]) (by simp[results,Tryz.results37,go_sem,r0]) rfl ?_;exact⟨D,G,rfl,a2,a8⟩
  have ar:j<rs.length:=by rw[<-aD.out];exact hjn
  have au:j<ro.length:=by rw[<-aY.out,aF.out];exact hjn
  have a9:j<(stG rs).length:=by rw[Ay];exact ar
  have aK:j<(nmL rs).length:=by rw[Uy];exact ar
  have av:=HM.out.below ag.out;obtain⟨gn,rfl,bp,aL⟩:=av.n j aK;obtain⟨gr,rfl,bq,aw⟩:=av.r j au;obtain⟨N,hN⟩:∃N,N=(nmL rs)[j]:=⟨_,rfl⟩;obtain⟨e,he⟩:∃e,e=ro[j]:=⟨_,rfl⟩;obtain⟨t,ht⟩:∃t,t=stT rs[j].2.1:=⟨_,rfl⟩;have ba:=HZ.out _ (List.getElem_mem aK);rw[<-hN]at aL ba;rw[<-he]at aw;have HG:=hid (fun(W:World) (hW:zB w W)=>HC.out j au ar W hW);rw[<-he,<-ht]at HG;have bb:Hid ((N,t,(0:Int))=(stG rs)[j]):=by
   show _=_;have e1:(stG rs)[j]=stR rs[j]:=List.getElem_map ..;have e2:(nmL rs)[j]=rs[j].1:=List.getElem_map ..;rw[e1,hN,e2,ht];rfl
  have bc:=hid (fun w':World=>Dh N w' (by omega));have U:=(E.out.be.block _ (Qq af.out)).trans af.out;rw[ao.out]at U;have q1:zC wr p 1 (zS gn o nc):=(Qj U 1 _ rfl).1;have lq:=Qq U;have aM:Hid (zC wr.drew p 0 (.slice oso ol oc)/\zC wr.drew p 1 (zS gn o nc)/\zC wr.drew p 2 (zS gr Y rc)/\zC wr.drew gr j (zI e)):=⟨(Qj U 0 _ rfl).1,q1,(Qj U 2 _ rfl).1,aw⟩;have bd:Hid (some p≠(Value.slice D j G).ownBlock):=fun e=>by have:=(E.out.ow.lt _ e.symm).1;have:=Qq af.out;omega
  have bf:gr<w.heap.size:=by
   obtain⟨br,e',bs,_⟩:=HM.out.r j au;injection e' with e'
   injection e' with e' _ _
   omega
  have bg:Hid (some gr≠(Value.slice D j G).ownBlock):=fun e=>by have:=(E.out.ow.lt _ e.symm).1;have:=am.out.size;omega
  have bh:Hid (∀I,zB wr I->I.ownsRow A.heap.size 83 10 (.slice D j G) j xs/\A.heap.size<=I.heap.size):=fun I h=>⟨Xh E.out.ow h,Nat.le_trans E.out.be.size h.size⟩
  have a0:decide ((j:Int)<(o:Int))=true:=by simp;omega
  have a1:decide (j<o)=true:=by simp;omega
  have bt:(j:Int)<(o:Int):=by omega
  have bu:(j:Int)<(Y:Int):=by have:=aF.out;omega
  have bv:IntKind.i64.wrap ((j:Int)+1)=(j:Int)+1:=by rw[IntKind.wrap_i64];omega
  have m1:j+1<=maxLen:=by unfold maxLen;omega
  have m2:(j+1)*112<=140737488355328:=by omega
  clear hN he ht av aw U bf
  go_wp2_with fail
  clear q1 aL;refine Qc 99 (fun X:World=>zC X p 0 (.slice oso ol oc)/\zC X p 1 (zS gn o nc)/\zC X p 2 (zS gr Y rc)/\zC X gr j (zI e)) (by kernel_rfl) aM.out (fun y=> ?_);refine Qz 0 y ?_;refine Qz 1 y ?_;refine Qz 3 y ?_;refine Qz 4 y ?_;refine Qz 5 y ?_;refine Qz 6 y ?_;refine Qz 7 y ?_;refine Qz 8 y ?_
  (refine Qf 2 (fun K V=> ?_);go_simp;refine(bc.out _).mono ?_;rintro e' w2 ⟨rfl,ax⟩;have aN:zB wr w2:=(Below.refl _ wr).drew.trans ax;have ai:=hid aN;go_simp;replace y:=z0i y ax;clear ax aN;refine V.out _ _ y ?_;clear V K)
  (try simp only[Act.put,zY])
  (refine Qf 9 (fun K V=> ?_);go_simp;refine(HG.out w2 (ag.out.trans (ai.out.mono ag.out.size))).mono ?_;rintro e' I ⟨k3,T3,a3,b3,c3,d3,ab,n3,ac,p3,rfl,bi,aO⟩;have aP:=hid (ai.out.trans (aO.out.mono ai.out.size));have aQ:=hid (bh.out I aP.out);go_simp;replace y:=z0i y aO.out;refine V.out _ _ y ?_;clear V K)
  (try simp only[Act.put,zY])
  refine Qz 10 y ?_
  (refine Qf 11 (fun K V=> ?_);go_simp;replace y:=z0i y ((Below.refl _ I).alloc L0q (.cells #[zT N,zI k3,zT T3,zU a3,zU b3,zU c3,zU d3,.slice ab n3 ac,zI p3,zI 0] 83));refine V.out _ _ y ?_;clear V K)
  (try simp only[Act.put,zY])
  (refine Qf 12 (fun K V=> ?_);refine step_append_lies _ rfl (.tmp 18) (.tmp 29) 41 rfl A.heap.size 83 iT (.agg #[zT {data:=#[]},zI 0,zT {data:=#[]},zU 0,zU 0,zU 0,zU 0,.slice none 0 0,zI 0,zI 0]) 10 112 Tryz.underlying41 aT aU aV aW rfl (by decide) (.slice D j G) j xs (by rfl) (aQ.out.1.alloc _) ⟨I.heap.size,0,none⟩ 1 1 [zT N,zI k3,zT T3,zU a3,zU b3,zU c3,zU d3,.slice ab n3 ac,zI p3,zI 0] (by rfl) rfl (Og I (zT N) (zI k3) (zT T3) (zU a3) (zU b3) (zU c3) (zU d3) (.slice ab n3 ac) (zI p3) (zI 0) 83) (z2N _ _ _ _ _ _ _ _ _ _ _ _) (by decide) m1 m2 (z2M aQ.out.2) (I.heap.size+1) (World.size_alloc _ _) ?_;intro g6 bw w6 aR ay bj bx;replace y:=y5c y bd.out bg.out ay;have bk:=hid aR;have bl:=hid ay;clear aR ay bj;refine V.out _ _ y ?_;clear V K)
  (try simp only[Act.put,zY])
  refine Qz 13 y ?_;refine⟨by kernel_rfl,?_⟩;clear y aM;have aS:=PqR.step E.out a9 bb.out aP.out ⟨r8 k3 T3 a3 b3 c3 d3 ab n3 ac p3,rfl,Zv.kept (w':=I) (Q:=fun g=>wr.heap.size<=g) (fun g a6 Z _=>⟨rfl,Nat.le_trans ai.out.size Z⟩) _ _ bi.out⟩ ((Below.refl _ I).alloc L0q _) bk.out bl.out;have bm:=hid aS;clear aS
  go_wp2_with fail
  go_roundw
  case rel=>exact⟨j+1,xs++[zT N,zI k3,zT T3,zU a3,zU b3,zU c3,zU d3,.slice ab n3 ac,zI p3,zI 0],by simp,by omega,bm⟩
  case measure=>simp[intOf];omega
theorem y5e(oso nso rso:Option Addr)(t oc h nc y rc:Nat)(w:World)
  (HU:Hid (∀W:World,zB w W->Calls prog 36 #[.agg #[.slice oso t oc,.slice nso h nc,.slice rso y rc]] W (zR W (.bool true))))
  (HF:Hid (∀W:World,zB w W->Calls prog 37 #[.agg #[.slice oso t oc,.slice nso h nc,.slice rso y rc]] W fun e w'=>∃o r,e=.returned (.agg #[.slice o h r])/\Hid (zB W w')/\
    Hid (∀A:World,zB w' A->Calls prog 15 #[.agg #[.slice o h r]] A fun e E=>∃Z aa ab ac ad ae,e=.returned (.tuple #[.agg #[.slice Z t aa,.slice ab h ac,.slice ad y ae],.nilIface])/\Hid (zB A E)/\
     Hid (∀D:World,zB E D->Calls prog 39 #[.agg #[.slice Z t aa,.slice ab h ac,.slice ad y ae],.agg #[.slice oso t oc,.slice nso h nc,.slice rso y rc]] D (zR D (.bool true)))))):
  Calls prog 18 #[.agg #[.slice oso t oc,.slice nso h nc,.slice rso y rc]] w fun e w'=>∃o r,e=.returned (.tuple #[.agg #[.slice o h r],.nilIface])/\Hid (zB w w'):=by
 obtain⟨pc,ax⟩:∃pc,pc=Obj.cells #[.slice oso t oc,.slice nso h nc,.slice rso y rc] 26:=⟨_,rfl⟩;obtain⟨G,V⟩:∃G,G=(w.alloc pc).alloc (.cells #[.slice none 0 0] 43):=⟨_,rfl⟩;have al:zB w G:=by rw[V];exact((Below.refl _ w).alloc L0q _).alloc (by simp) _
 obtain⟨p,hp⟩:∃p,p=w.heap.size:=⟨_,rfl⟩;have ay:Hid (G.heap[p+1]? =some (.cells #[.slice none 0 0] 43)):=by rw[V,hp];exact Qx _ _ (by simp)
 have az:Hid (zH G p pc):=by rw[V,hp];exact(Below.heap_alloc _ _ _ (by simp)).trans (Qx w _ rfl)
 have af:=hid al;have aA:=hid V;have Hp:=hid hp;have aB:=hid ax;have aC:=hid (HU.out G al);have HK:=hid (fun(W:World) (I:zB G W)=>show(zC W p 0 (.slice oso t oc)/\zC W p 1 (.slice nso h nc)/\zC W p 2 (.slice rso y rc)/\p<W.heap.size/\W.heap[p+1]? =some (.cells #[.slice none 0 0] 43))from by
  have Y:=(I.block _ (Qq az.out)).trans az.out;rw[aB.out]at Y;exact⟨(Qj Y 0 _ rfl).1,(Qj Y 1 _ rfl).1,(Qj Y 2 _ rfl).1,Qq Y,(I.block _ (Qq ay.out)).trans ay.out⟩)
 clear ax V al hp HU;go_enter func18,ntmps18
 go_wp2_with fail
 rw[<-aB.out,<-aA.out,<-Hp.out];refine aC.out.mono ?_;rintro e w1 ⟨rfl,ag⟩;obtain⟨q0,q1,q2,lq,_⟩:=HK.out w1 ag;have aD:=hid ag;have aE:=hid (HF.out w1 (af.out.trans (ag.mono af.out.size)));clear ag aC HF aA
 go_wp2_with fail
 refine aE.out.mono ?_;rintro e U ⟨o,r,rfl,aF,HM⟩;have aG:=hid (aD.out.trans (aF.out.mono aD.out.size));obtain⟨A,ah⟩:∃A,A=U.alloc (.cells #[.slice o h r] 43):=⟨_,rfl⟩;have am:zB U A:=by rw[ah];exact(Below.refl _ U).alloc L0q _
 have ai:Hid (A.heap[U.heap.size]? =some (.cells #[.slice o h r] 43)):=by rw[ah];exact Qx U _ rfl
 have aH:=hid (HM.out A am);have aI:=hid (aG.out.trans (am.mono aG.out.size));have aJ:=hid ah;obtain⟨b,I⟩:∃b,b=U.heap.size:=⟨_,rfl⟩;rw[<-I]at ai;have aO:=hid I;clear am ah q0 q1 q2 lq aE HM I aF
 go_wp2_with fail
 rw[<-aJ.out,<-aO.out];clear aJ;refine aH.out.mono ?_;rintro e E ⟨Z,aa,ab,ac,ad,ae,rfl,ao,HS⟩;have ap:=hid (aI.out.trans (ao.out.mono aI.out.size));obtain⟨D,aq⟩:∃D,D=E.alloc (.cells #[.slice Z t aa,.slice ab h ac,.slice ad y ae] 26):=⟨_,rfl⟩;have aj:zB E D:=by rw[aq];exact(Below.refl _ E).alloc L0q _
 have aK:=hid (HS.out D aj);have ar:=hid ((ao.out.block _ (Qq ai.out)).trans ai.out);obtain⟨q0,q1,q2,lq,_⟩:=HK.out E ap.out;have aL:=hid aq;have aM:=hid (ap.out.trans (aj.mono ap.out.size));have au:=hid ((aj.block _ (Qq ar.out)).trans ar.out);clear aq aj aH ao ai
 go_wp2_with fail
 rw[<-aL.out];clear aL q0 q1 q2 lq;refine aK.out.mono ?_;rintro e w4 ⟨rfl,av⟩;have aN:=hid (aM.out.trans (av.mono aM.out.size));obtain⟨_,_,_,lq,ak⟩:=HK.out w4 aN.out;have aw:=(av.block _ (Qq au.out)).trans au.out;have g5:=(Qk aw).1;have aR:=Qq aw;obtain⟨u0,f0⟩:=Qk ak;have lr:=Qq ak;have aP:=hid ak;have aQ:Hid (zB w (w4.setCell ⟨p+1,0,none⟩ (.slice o h r))):=by
  have h1:=af.out.trans (aN.out.mono af.out.size);exact h1.setCell (p:=⟨p+1,0,none⟩) (by show w.heap.size<=p+1;have:=Hp.out;omega) _
 clear av aw ak aK HS ar au
 go_wp2_with fail
 have r0:=(Qk (Qw aP.out 0 (.slice o h r))).1;refine bodyPost_ret (v:=.tuple #[.agg #[.slice o h r],.nilIface]) (by simp[results,Tryz.results18,go_sem,r0]) rfl ?_;exact⟨o,r,rfl,aQ⟩
theorem y5f(rs:List Rr)(oso nso rso:Option Addr)(t oc o nc r rc:Nat)(fp:Addr)(w:World)(V:t=(pgG rs).2.length)(Y:o=rs.length)(ad:r=rs.length)(y:Snd rs)(hp:PrG rs)(Z:PgM (pgG rs).2 (nmL rs) (pgG rs).1 oso nso rso w)(hz:RgZ rs)(hu:RgU rs)(hT:TabIs w)(hF:zC w (1) 0 (.iface 363 (.pointer (some fp))))(aw:Xm w):
  Calls prog 18 #[.agg #[.slice oso t oc,.slice nso o nc,.slice rso r rc]] w fun e w'=>∃D E,e=.returned (.tuple #[.agg #[.slice D o E],.nilIface])/\Hid (zB w w'):=by
 have aa:=y.unf hp;obtain⟨aD,ax⟩:=y.src;have ay:(pgG rs).1.length=rs.length:=(Vp (fun T=>fdI T (nmL rs)) rs []).2.1.1;have az:=Uy rs;have ae:o=(nmL rs).length:=by rw[Y,az]
 have ab:r=(pgG rs).1.length:=by rw[ad,ay]
 refine y5e oso nso rso t oc o nc r rc w (hid fun W G=>y4O _ _ _ oso nso rso t oc o nc r rc W V ae ab (Z.below G) aa) (hid fun W G=> ?_);have af:=Z.below G;refine(y5d rs (pgG rs).2 (pgG rs).1 oso nso rso t oc o nc r rc W Y ab af aa.nm (hid fun j hj ag W2 I=> ?_)).mono ?_
 ·obtain⟨q,hq,hd⟩:=ax j ag
  have e:(pgG rs).1[j]=q:=(List.getElem?_eq_some_iff.1 hq).2;rw[e];exact z6c rs y.len aa.nm (pgG rs).2 (pgG rs).1 oso nso rso t oc o nc r rc W V Y af (SizeOf.sizeOf rs[j].2.1+1) _ q W2 (Nat.lt_succ_self _) (y.pt (List.getElem_mem ag)) hd I
 ·rintro e A ⟨D,E,rfl,hR,ah⟩
  refine⟨D,E,rfl,ah,hid fun W2 I=> ?_⟩;have U:zB w A:=G.trans (ah.out.mono G.size);have ai:=hT.below U hT.lt;have aA:zC A (1) 0 (.iface 363 (.pointer (some fp))):=(U.cell (World.block_lt_of_cell? w _ hF)).trans hF;have aB:=aw.below U;obtain⟨hX,hC⟩:=Sk D o E (stG rs) A.heap.size A (z5J hz) hR.out L0q ai (z5I hp) (y4x y.ck);refine(z0a D o E (stG rs) none A.heap.size fp A hX (fun _=>z5I hp) hC (z5J hz) (y4C hu) hR.out L0q ai aA aB W2 I).mono ?_;rintro e w3 ⟨aj,ak,al,am,ao,ap,aq,ar,au,ev,rfl,ac,⟨tt,uu,rfl,_,_,_,_,_,_,_,_,_,h|h⟩|⟨rfl,h⟩⟩
  ·exact absurd (y4B y.so) h
  ·rw[Wp]at h
   exact absurd Z.l2 (by omega)
  ·obtain⟨h1,h2,h3,_,_,_,h4⟩:=h.out
   rw[Wp,Af]at h4;rw[Wp]at h1;rw[Ay]at h2 h3;obtain rfl:ak=t:=h1.trans V.symm;obtain rfl:ao=o:=h2.trans Y.symm;obtain rfl:ar=r:=h3.trans ad.symm;refine⟨aj,al,am,ap,aq,au,rfl,ac,hid fun W3 av=> ?_⟩;have aC:zB w W3:=U.trans ((I.trans ((ac.out.trans (av.mono ac.out.size)).mono I.size)).mono U.size);exact y4U (pgG rs).2 (nmL rs) (pgG rs).1 aj am aq oso nso rso ak al ao ap ar au oc nc rc W3 V ae ab (h4.below av) (Z.below aC)
theorem z6d(ops:List Ox)(ns:List ByteArray)(ro:List Int)(oso nso rso:Option Addr)(G oc nl nc I rc:Nat)(M:Nat)(w:World)(Z:G=ops.length)(aa:I=ro.length)(h:PgM ops ns ro oso nso rso w)
  (m0:zC w M 0 (.slice oso G oc))(m2:zC w M 2 (.slice rso I rc))(k:Nat)(U:k<ops.length)(j:Nat)(D:j<ops[k].2.2.2.length)(A:ops[k].1=5->0<=ops[k].2.2.2[j]/\ops[k].2.2.2[j]<(ro.length:Int)):
  Calls prog 70 #[zP M 0,zI k,zI j] w fun e w'=>e=.returned (zI (prt ro ops[k] j))/\zB w w':=by
 obtain⟨g,rfl,hg,so,ah,⟨c0,c1,c2,c3,c4,c5,c6⟩,ae,ab⟩:=h.o k U;obtain⟨b,ai,rfl,hb,hx⟩:=ab j D;have ac:=h.l2;have aj:(k:Int)<(G:Int):=by omega
 have af:(j:Int)<(ops[k].2.2.2.length:Int):=by omega
 have hm:=World.block_lt_of_cell? w _ m0;obtain⟨x,V⟩:∃x,x=ops[k].2.2.2[j]:=⟨_,rfl⟩;have ad:ops[k].2.2.2.getD j 0=x:=by rw[V,List.getD_eq_getElem?_getD,List.getElem?_eq_getElem D];rfl
 rw[<-V]at hx A;obtain⟨kd,E⟩:∃kd,kd=ops[k].1:=⟨_,rfl⟩;obtain⟨r,t⟩:∃r,r=prt ro ops[k] j:=⟨_,rfl⟩;have HP:Hid (r=prt ro ops[k] j):=t;rw[<-t];unfold prt at t;rw[ad,<-E]at t;rw[<-E]at A c0;obtain⟨L,hL⟩:∃L,L=ops[k].2.2.2.length:=⟨_,rfl⟩;rw[<-hL]at c6 af;clear ad HP hL ae c1 c2 c3 c4 c5 V ab;by_cases h5:kd=5
 ·subst h5
  obtain⟨x1,x2⟩:=A rfl;obtain⟨y,rfl⟩:∃y:Nat,x=(y:Int):=⟨x.toNat,by omega⟩;have Y:y<ro.length:=by omega
  obtain⟨gr,rfl,ak,ag⟩:=h.r y Y;rw[if_pos rfl,Int.toNat_natCast,List.getD_eq_getElem?_getD,List.getElem?_eq_getElem Y]at t;have al:(y:Int)<(I:Int):=by omega
  have e:r=ro[y]:=t;rw[<-e]at ag;clear e t A x1 x2 Y E h D U hb hg ac Z aa;go_enter func70,ntmps70
  go_wp2_with fail
  (try simp only[Exit.inBlock,Exit.then])
  refine bodyPost_ret (v:=zI r) (by simp[results,Tryz.results70,go_sem]) rfl ?_;exact⟨rfl,Below.refl _ w⟩
 ·rw[if_neg h5]at t
  subst t;have a0:(kd == 5)=false:=by simpa using h5
  clear A E h D U hb hg ac Z aa m2;go_enter func70,ntmps70
  go_wp2_with fail
  (try simp only[Exit.inBlock,Exit.then])
  refine bodyPost_ret (v:=zI r) (by simp[results,Tryz.results70,go_sem]) rfl ?_;exact⟨rfl,Below.refl _ w⟩
theorem y5g(M NB h nc:Nat)(k at':Nat)(w:World)(t:zC w M 4 (zS NB h nc))(ha:at'<h)(y:zC w NB at' (.slice none 0 0)):
  Calls prog 41 #[zP M 0,zI k,zI at'] w fun e w'=>e=.returned (.tuple #[zI 0,.bool false])/\zB w w':=by
 have A:=World.block_lt_of_cell? w _ t;have D:(at':Int)<(h:Int):=by omega
 have q:∀(w:World) (a:Option Addr) (n c o r:Nat),(binOp .eql 158 (.slice a n c) (.slice none o r)).run prog w=.ok (.bool a.isNone) w:=fun w a n c o r=>Lib.run_eql_slice_nil w _ _ a n c o r Tryz.underlying158
 go_enter func41,ntmps41
 go_wp2_with fail
 (try simp only[Exit.inBlock,Exit.then])
 refine bodyPost_ret (v:=.tuple #[zI 0,.bool false]) (by simp[results,Tryz.results41,go_sem]) rfl ?_;exact⟨rfl,Below.refl _ w⟩
theorem y5h(M NB r nc:Nat)(g t I:Nat)(k at':Nat)(b:Bool)(x:Int)(hx:x<2147483648/\ -2147483648<=x)(w:World)(E:zC w M 4 (zS NB r nc))(ha:at'<r)(U:zC w NB at' (zS g t I))(V:k<t)(Y:zC w g (k*2) (.bool b))(Z:zC w g (k*2+1) (.int .i32 x)):
  Calls prog 41 #[zP M 0,zI k,zI at'] w fun e w'=>e=.returned (.tuple #[zI x,.bool b])/\zB w w':=by
 have hm:=World.block_lt_of_cell? w _ E;have aa:(at':Int)<(r:Int):=by omega
 have ab:(k:Int)<(t:Int):=by omega
 have q:∀(w:World) (a:Option Addr) (n c y A:Nat),(binOp .eql 158 (.slice a n c) (.slice none y A)).run prog w=.ok (.bool a.isNone) w:=fun w a n c y A=>Lib.run_eql_slice_nil w _ _ a n c y A Tryz.underlying158
 go_enter func41,ntmps41
 go_wp2_with fail
 have hw:IntKind.i64.wrap x=x:=by rw[IntKind.wrap_i64];omega
 obtain⟨W,o⟩:∃W,W=w.alloc (.cells #[.bool b,.int .i32 x] 160):=⟨_,rfl⟩;have D:W.heap[w.heap.size]? =some (.cells #[.bool b,.int .i32 x] 160):=by rw[o];exact Qx w _ rfl
 have G:zB w W:=by rw[o];exact(Below.refl _ w).alloc L0q _
 have HS:Hid (zC W.drew w.heap.size 0 (.bool b)/\zC W.drew w.heap.size 1 (.int .i32 x)):=⟨(Qj D 0 _ rfl).1,(Qj D 1 _ rfl).1⟩;rw[<-o];have HB:=hid G;clear o D G E U Y Z q V ha;refine Qc 99 (fun X:World=>zC X w.heap.size 0 (.bool b)/\zC X w.heap.size 1 (.int .i32 x)) (by kernel_rfl) HS.out (fun h=> ?_);refine Qz 0 h ?_;refine Qz 1 h ?_;refine Qz 2 h ?_;refine Qz 3 h ?_;refine Qz 4 h ?_;refine Qz 5 h ?_;refine Qz 6 h ?_;refine⟨by kernel_rfl,?_⟩;clear h
 go_wp2_with fail
 (try simp only[Exit.inBlock,Exit.then])
 refine bodyPost_ret (v:=.tuple #[zI x,.bool b]) (by simp[results,Tryz.results41,go_sem]) rfl ?_;exact⟨rfl,HB.out.drew⟩
end Go.Proofs.YtgnkkgcgbeianaaGreatDoor
