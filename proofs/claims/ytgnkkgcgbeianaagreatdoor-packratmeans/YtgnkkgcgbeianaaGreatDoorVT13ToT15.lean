/- Lemmas for the last text. Conditions: those that each names. -/
import Derived.Test.YtgnkkgcgbeianaaGreatDoorVU15ToT11
import Derived.Test.YtgnkkgcgbeianaaGreatDoorVU3ToU8
set_option linter.unusedVariables false
set_option maxRecDepth 100000
set_option maxHeartbeats 8000000
namespace Go.Proofs.YtgnkkgcgbeianaaGreatDoor
open Go.Proofs.Tryz
open Go.RowKit Go.Shelf Go.Maps
variable {x:Rr}
theorem Hg{W:World}{R:Nat}{y a1 a2 a3 a4 t r o v0 v1 v2 v3 v4 v5 v6 v7:Value}(h:zH W R (.cells #[y,a1,a2,a3,a4,t,r,o] 81)):((((((((W.setCell ⟨R,0,none⟩ v0).setCell ⟨R,1,none⟩ v1).setCell ⟨R,2,none⟩ v2).setCell ⟨R,3,none⟩ v3).setCell ⟨R,4,none⟩ v4).setCell ⟨R,5,none⟩ v5).setCell ⟨R,6,none⟩ v6).setCell ⟨R,7,none⟩ v7).heap[R]? =some (.cells #[v0,v1,v2,v3,v4,v5,v6,v7] 81):=by
 have A:(W.setCell ⟨R,0,none⟩ v0).heap[R]? =some (.cells #[v0,a1,a2,a3,a4,t,r,o] 81):=Qw h 0 v0;have D:((W.setCell ⟨R,0,none⟩ v0).setCell ⟨R,1,none⟩ v1).heap[R]? =some (.cells #[v0,v1,a2,a3,a4,t,r,o] 81):=Qw A 1 v1;have E:(((W.setCell ⟨R,0,none⟩ v0).setCell ⟨R,1,none⟩ v1).setCell ⟨R,2,none⟩ v2).heap[R]? =some (.cells #[v0,v1,v2,a3,a4,t,r,o] 81):=Qw D 2 v2;have G:((((W.setCell ⟨R,0,none⟩ v0).setCell ⟨R,1,none⟩ v1).setCell ⟨R,2,none⟩ v2).setCell ⟨R,3,none⟩ v3).heap[R]? =some (.cells #[v0,v1,v2,v3,a4,t,r,o] 81):=Qw E 3 v3;have I:(((((W.setCell ⟨R,0,none⟩ v0).setCell ⟨R,1,none⟩ v1).setCell ⟨R,2,none⟩ v2).setCell ⟨R,3,none⟩ v3).setCell ⟨R,4,none⟩ v4).heap[R]? =some (.cells #[v0,v1,v2,v3,v4,t,r,o] 81):=Qw G 4 v4;have U:((((((W.setCell ⟨R,0,none⟩ v0).setCell ⟨R,1,none⟩ v1).setCell ⟨R,2,none⟩ v2).setCell ⟨R,3,none⟩ v3).setCell ⟨R,4,none⟩ v4).setCell ⟨R,5,none⟩ v5).heap[R]? =some (.cells #[v0,v1,v2,v3,v4,v5,r,o] 81):=Qw I 5 v5;have V:(((((((W.setCell ⟨R,0,none⟩ v0).setCell ⟨R,1,none⟩ v1).setCell ⟨R,2,none⟩ v2).setCell ⟨R,3,none⟩ v3).setCell ⟨R,4,none⟩ v4).setCell ⟨R,5,none⟩ v5).setCell ⟨R,6,none⟩ v6).heap[R]? =some (.cells #[v0,v1,v2,v3,v4,v5,v6,o] 81):=Qw U 6 v6;have Y:((((((((W.setCell ⟨R,0,none⟩ v0).setCell ⟨R,1,none⟩ v1).setCell ⟨R,2,none⟩ v2).setCell ⟨R,3,none⟩ v3).setCell ⟨R,4,none⟩ v4).setCell ⟨R,5,none⟩ v5).setCell ⟨R,6,none⟩ v6).setCell ⟨R,7,none⟩ v7).heap[R]? =some (.cells #[v0,v1,v2,v3,v4,v5,v6,v7] 81):=Qw V 7 v7;exact Y
theorem Hh(W:World)(R:Nat)(v0 v1 v2 v3 v4 v5 v6 v7:Value):W.grownBy ((((((((W.setCell ⟨R,0,none⟩ v0).setCell ⟨R,1,none⟩ v1).setCell ⟨R,2,none⟩ v2).setCell ⟨R,3,none⟩ v3).setCell ⟨R,4,none⟩ v4).setCell ⟨R,5,none⟩ v5).setCell ⟨R,6,none⟩ v6).setCell ⟨R,7,none⟩ v7) (some R):=G.setR (G.setR (G.setR (G.setR (G.setR (G.setR (G.setR (G.setR (G.refl _ _))))))))
theorem Gw(w:World)(P:Nat->Prop)(k:Int)(T:zA):Zv w P (.mk k T 0 0 0 0 [] 0) (r8 k T 0 0 0 0 none 0 0 0):=by
 rw[Zv];exact⟨none,0,rfl,.inl rfl⟩
theorem Ax{w:World}{P:Nat->Prop}{t:RT}{c:List Value}(k:Int)(g:Nat)(h:Zv w P t c)(o:P g)(r:zH w g (.cells c.toArray 81)):Zv w P (.mk k bE0 0 0 0 0 [t] 0) (r8 k bE0 0 0 0 0 (some ⟨g,0,none⟩) 1 1 0):=by
 rw[Zv];refine⟨some ⟨g,0,none⟩,1,rfl,.inr ⟨rfl,g,c.toArray,rfl,o,r,by rw[Qv,Qv];unfold maxLen;omega,?_⟩⟩;rw[Zx];exact⟨c,[],by simp,h,by rw[Zx];trivial⟩
theorem y2e{w:World}{P:Nat->Prop}{t u:RT}{c d:List Value}(k:Int)(g:Nat)(h:Zv w P t c)(o:Zv w P u d)(r:P g)(y:zH w g (.cells (c++d).toArray 81)):Zv w P (.mk k bE0 0 0 0 0 [t,u] 0) (r8 k bE0 0 0 0 0 (some ⟨g,0,none⟩) 2 2 0):=by
 rw[Zv];refine⟨some ⟨g,0,none⟩,2,rfl,.inr ⟨rfl,g,(c++d).toArray,rfl,r,y,by rw[Qv,Qv,Qv];unfold maxLen;omega,?_⟩⟩;rw[Zx];refine⟨c,d,rfl,h,?_⟩;rw[Zx];exact⟨d,[],by simp,o,by rw[Zx];trivial⟩
theorem y2f(nm:zA)(w:World):Calls prog 109 #[zT nm,.agg #[.bool true,.bool false,.bool false]] w (CnA (.mk 1 bE0 0 0 0 0 [] 0) w):=by
 go_enter func109,ntmps109
 go_wp2_with fail
 refine bodyPost_ret (v:=.agg #[zI 1,zT {data:=#[]},zU 0,zU 0,zU 0,zU 0,.slice none 0 0,zI 0]) (by simp[results,Tryz.results109,go_sem]) rfl ?_;refine⟨1,bE0,0,0,0,0,none,0,0,0,rfl,hid (Gw _ _ _ _),hid ?_⟩;exact(((Below.refl _ w).alloc L0q _).alloc (by simp) _).alloc (by simp<;>omega) _
theorem y2g(nm:zA)(w:World):Calls prog 109 #[zT nm,.agg #[.bool false,.bool false,.bool true]] w (CnA (.mk 3 bE0 0 0 0 0 [] 0) w):=by
 go_enter func109,ntmps109
 go_wp2_with fail
 refine bodyPost_ret (v:=.agg #[zI 3,zT {data:=#[]},zU 0,zU 0,zU 0,zU 0,.slice none 0 0,zI 0]) (by simp[results,Tryz.results109,go_sem]) rfl ?_;refine⟨3,bE0,0,0,0,0,none,0,0,0,rfl,hid (Gw _ _ _ _),hid ?_⟩;exact(((Below.refl _ w).alloc L0q _).alloc (by simp) _).alloc (by simp<;>omega) _
theorem y2h(nm:zA)(w:World):Calls prog 109 #[zT nm,.agg #[.bool false,.bool true,.bool true]] w (CnA (.mk 4 bE0 0 0 0 0 [] 0) w):=by
 go_enter func109,ntmps109
 go_wp2_with fail
 refine bodyPost_ret (v:=.agg #[zI 4,zT {data:=#[]},zU 0,zU 0,zU 0,zU 0,.slice none 0 0,zI 0]) (by simp[results,Tryz.results109,go_sem]) rfl ?_;refine⟨4,bE0,0,0,0,0,none,0,0,0,rfl,hid (Gw _ _ _ _),hid ?_⟩;exact(((Below.refl _ w).alloc L0q _).alloc (by simp) _).alloc (by simp<;>omega) _
theorem y2i(nm:zA)(w:World):Calls prog 109 #[zT nm,.agg #[.bool false,.bool false,.bool false]] w (CnA (.mk 5 nm 0 0 0 0 [] 0) w):=by
 go_enter func109,ntmps109
 go_wp2_with fail
 refine bodyPost_ret (v:=.agg #[zI 5,zT nm,zU 0,zU 0,zU 0,zU 0,.slice none 0 0,zI 0]) (by simp[results,Tryz.results109,go_sem]) rfl ?_;refine⟨5,nm,0,0,0,0,none,0,0,0,rfl,hid (Gw _ _ _ _),hid ?_⟩;exact(((Below.refl _ w).alloc L0q _).alloc (by simp) _).alloc (by simp<;>omega) _
theorem y2j(nm:zA)(w:World):Calls prog 109 #[zT nm,.agg #[.bool true,.bool true,.bool false]] w (CnA (.mk 8 bE0 0 0 0 0 [.mk 4 bE0 0 0 0 0 [] 0] 0) w):=by
 obtain⟨h,o⟩:∃h,h=(((w.alloc (.cells #[.bool true,.bool true,.bool false] 210)).alloc (.cells #[zI 0,zT {data:=#[]},zU 0,zU 0,zU 0,zU 0,.slice none 0 0,zI 0] 81)).alloc (.cells #[zI 4,zT {data:=#[]},zU 0,zU 0,zU 0,zU 0,.slice none 0 0,zI 0] 81)).alloc (.cells #[zI 4,zT {data:=#[]},zU 0,zU 0,zU 0,zU 0,.slice none 0 0,zI 0] 81):=⟨_,rfl⟩;have E:zB w h:=by rw[o];exact((((Below.refl _ w).alloc L0q _).alloc (by simp) _).alloc (by simp;omega) _).alloc (by simp;omega) _
 have G:h.heap[w.heap.size+1]? =some (.cells #[zI 0,zT {data:=#[]},zU 0,zU 0,zU 0,zU 0,.slice none 0 0,zI 0] 81):=by rw[o];exact(Below.heap_alloc _ _ _ (by simp<;>omega)).trans ((Below.heap_alloc _ _ _ (by simp)).trans (Qx _ _ (by simp)))
 have I:h.heap[w.heap.size+1+1+1]? =some (.cells #[zI 4,zT {data:=#[]},zU 0,zU 0,zU 0,zU 0,.slice none 0 0,zI 0] 81):=by rw[o];exact Qx _ _ (by simp)
 have t:=hid E;have y:=hid G;have A:=hid I;have U:=hid o;clear E G I o;go_enter func109,ntmps109
 go_wp2_with fail
 rw[<-U.out];refine(Kf 8 _ 1 1 h).mono ?_;rintro e w2 ⟨rfl,r⟩;have V:=hid (t.out.trans (r.mono t.out.size));have D:=hid ((r.block _ (Qq y.out)).trans y.out);have Y:=hid ((r.block _ (Qq A.out)).trans A.out);obtain⟨⟨y0,y1,y2,y3,y4,y5,y6,y7⟩,f0,f1,f2,f3,f4,f5,f6,f7⟩:=Qg D.out;have lr:=Qq D.out;clear r y A t U
 go_wp2_with fail
 have hE:=Hg (v0:=zI 8) (v1:=zT {data:=#[]}) (v2:=zU 0) (v3:=zU 0) (v4:=zU 0) (v5:=zU 0) (v6:=zS (w.heap.size+1+1+1) 1 1) (v7:=zI 0) D.out;obtain⟨⟨r0,r1,r2,r3,r4,r5,r6,r7⟩,_⟩:=Qg hE;refine bodyPost_ret (v:=.agg #[zI 8,zT {data:=#[]},zU 0,zU 0,zU 0,zU 0,zS (w.heap.size+1+1+1) 1 1,zI 0]) (by simp[results,Tryz.results109,go_sem,r0,r1,r2,r3,r4,r5,r6,r7]) rfl ?_;have Z:=Hh w2 (w.heap.size+1) (zI 8) (zT {data:=#[]}) (zU 0) (zU 0) (zU 0) (zU 0) (zS (w.heap.size+1+1+1) 1 1) (zI 0);refine⟨8,bE0,0,0,0,0,_,1,1,0,rfl,hid (Ax _ _ (Gw _ _ 4 bE0) (by show w.heap.size<=_;omega) ((Z.block _ (Qq Y.out) (fun e=>by have:=Option.some.inj e;omega)).trans Y.out)),hid (V.out.grown Z V.out.size (fun g e=>by have:=Option.some.inj e;omega))⟩
theorem y2k(nm:zA)(w:World):Calls prog 109 #[zT nm,.agg #[.bool true,.bool false,.bool true]] w (CnA (.mk 12 bE0 0 0 0 0 [.mk 4 bE0 0 0 0 0 [] 0] 0) w):=by
 obtain⟨h,o⟩:∃h,h=(((w.alloc (.cells #[.bool true,.bool false,.bool true] 210)).alloc (.cells #[zI 0,zT {data:=#[]},zU 0,zU 0,zU 0,zU 0,.slice none 0 0,zI 0] 81)).alloc (.cells #[zI 4,zT {data:=#[]},zU 0,zU 0,zU 0,zU 0,.slice none 0 0,zI 0] 81)).alloc (.cells #[zI 4,zT {data:=#[]},zU 0,zU 0,zU 0,zU 0,.slice none 0 0,zI 0] 81):=⟨_,rfl⟩;have E:zB w h:=by rw[o];exact((((Below.refl _ w).alloc L0q _).alloc (by simp) _).alloc (by simp;omega) _).alloc (by simp;omega) _
 have G:h.heap[w.heap.size+1]? =some (.cells #[zI 0,zT {data:=#[]},zU 0,zU 0,zU 0,zU 0,.slice none 0 0,zI 0] 81):=by rw[o];exact(Below.heap_alloc _ _ _ (by simp<;>omega)).trans ((Below.heap_alloc _ _ _ (by simp)).trans (Qx _ _ (by simp)))
 have I:h.heap[w.heap.size+1+1+1]? =some (.cells #[zI 4,zT {data:=#[]},zU 0,zU 0,zU 0,zU 0,.slice none 0 0,zI 0] 81):=by rw[o];exact Qx _ _ (by simp)
 have t:=hid E;have y:=hid G;have A:=hid I;have U:=hid o;clear E G I o;go_enter func109,ntmps109
 go_wp2_with fail
 rw[<-U.out];refine(Kf 12 _ 1 1 h).mono ?_;rintro e w2 ⟨rfl,r⟩;have V:=hid (t.out.trans (r.mono t.out.size));have D:=hid ((r.block _ (Qq y.out)).trans y.out);have Y:=hid ((r.block _ (Qq A.out)).trans A.out);obtain⟨⟨y0,y1,y2,y3,y4,y5,y6,y7⟩,f0,f1,f2,f3,f4,f5,f6,f7⟩:=Qg D.out;have lr:=Qq D.out;clear r y A t U
 go_wp2_with fail
 have hE:=Hg (v0:=zI 12) (v1:=zT {data:=#[]}) (v2:=zU 0) (v3:=zU 0) (v4:=zU 0) (v5:=zU 0) (v6:=zS (w.heap.size+1+1+1) 1 1) (v7:=zI 0) D.out;obtain⟨⟨r0,r1,r2,r3,r4,r5,r6,r7⟩,_⟩:=Qg hE;refine bodyPost_ret (v:=.agg #[zI 12,zT {data:=#[]},zU 0,zU 0,zU 0,zU 0,zS (w.heap.size+1+1+1) 1 1,zI 0]) (by simp[results,Tryz.results109,go_sem,r0,r1,r2,r3,r4,r5,r6,r7]) rfl ?_;have Z:=Hh w2 (w.heap.size+1) (zI 12) (zT {data:=#[]}) (zU 0) (zU 0) (zU 0) (zU 0) (zS (w.heap.size+1+1+1) 1 1) (zI 0);refine⟨12,bE0,0,0,0,0,_,1,1,0,rfl,hid (Ax _ _ (Gw _ _ 4 bE0) (by show w.heap.size<=_;omega) ((Z.block _ (Qq Y.out) (fun e=>by have:=Option.some.inj e;omega)).trans Y.out)),hid (V.out.grown Z V.out.size (fun g e=>by have:=Option.some.inj e;omega))⟩
theorem y2l(nm:zA)(w:World):Calls prog 109 #[zT nm,.agg #[.bool false,.bool true,.bool false]] w (CnA (.mk 10 bE0 0 0 0 0 [.mk 8 bE0 0 0 0 0 [.mk 4 bE0 0 0 0 0 [] 0] 0] 0) w):=by
 obtain⟨r,y⟩:∃r,r=(((w.alloc (.cells #[.bool false,.bool true,.bool false] 210)).alloc (.cells #[zI 0,zT {data:=#[]},zU 0,zU 0,zU 0,zU 0,.slice none 0 0,zI 0] 81)).alloc (.cells #[zI 4,zT {data:=#[]},zU 0,zU 0,zU 0,zU 0,.slice none 0 0,zI 0] 81)).alloc (.cells #[zI 4,zT {data:=#[]},zU 0,zU 0,zU 0,zU 0,.slice none 0 0,zI 0] 81):=⟨_,rfl⟩;have hB:zB w r:=by rw[y];exact((((Below.refl _ w).alloc L0q _).alloc (by simp) _).alloc (by simp;omega) _).alloc (by simp;omega) _
 have hR:r.heap[w.heap.size+1]? =some (.cells #[zI 0,zT {data:=#[]},zU 0,zU 0,zU 0,zU 0,.slice none 0 0,zI 0] 81):=by rw[y];exact(Below.heap_alloc _ _ _ (by simp<;>omega)).trans ((Below.heap_alloc _ _ _ (by simp)).trans (Qx _ _ (by simp)))
 have hD:r.heap[w.heap.size+1+1+1]? =some (.cells #[zI 4,zT {data:=#[]},zU 0,zU 0,zU 0,zU 0,.slice none 0 0,zI 0] 81):=by rw[y];exact Qx _ _ (by simp)
 have G:=hid hB;have I:=hid hR;have A:=hid hD;have ad:=hid y;clear hB hR hD y;go_enter func109,ntmps109
 go_wp2_with fail
 rw[<-ad.out];refine(Kf 8 _ 1 1 r).mono ?_;rintro e U ⟨rfl,h⟩;obtain⟨o,t⟩:∃o,o=U.alloc (.cells #[zI 8,zT {data:=#[]},zU 0,zU 0,zU 0,zU 0,zS (w.heap.size+1+1+1) 1 1,zI 0] 81):=⟨_,rfl⟩;have V:Hid (zB w o):=by rw[t];exact(G.out.trans (h.mono G.out.size)).alloc (Nat.le_trans G.out.size h.size) _
 have Y:Hid (o.heap[w.heap.size+1]? =some (.cells #[zI 0,zT {data:=#[]},zU 0,zU 0,zU 0,zU 0,.slice none 0 0,zI 0] 81)):=by rw[t];exact(Below.heap_alloc _ _ _ (Nat.lt_of_lt_of_le (Qq I.out) h.size)).trans ((h.block _ (Qq I.out)).trans I.out)
 have Z:Hid (o.heap[w.heap.size+1+1+1]? =some (.cells #[zI 4,zT {data:=#[]},zU 0,zU 0,zU 0,zU 0,.slice none 0 0,zI 0] 81)):=by rw[t];exact(Below.heap_alloc _ _ _ (Nat.lt_of_lt_of_le (Qq A.out) h.size)).trans ((h.block _ (Qq A.out)).trans A.out)
 have aa:Hid (o.heap[U.heap.size]? =some (.cells #[zI 8,zT {data:=#[]},zU 0,zU 0,zU 0,zU 0,zS (w.heap.size+1+1+1) 1 1,zI 0] 81)):=by rw[t];exact Qx _ _ rfl
 have ai:w.heap.size+1+1+1<U.heap.size:=Nat.lt_of_lt_of_le (Qq A.out) h.size;have ae:=hid t;clear h I A G ad t
 go_wp2_with fail
 rw[<-ae.out];refine(Kf 10 _ 1 1 o).mono ?_;rintro e w4 ⟨rfl,D⟩;have af:=hid (V.out.trans (D.mono V.out.size));have ab:=hid ((D.block _ (Qq Y.out)).trans Y.out);have ag:=hid ((D.block _ (Qq Z.out)).trans Z.out);have ac:=hid ((D.block _ (Qq aa.out)).trans aa.out);obtain⟨⟨y0,y1,y2,y3,y4,y5,y6,y7⟩,f0,f1,f2,f3,f4,f5,f6,f7⟩:=Qg ab.out;have lr:=Qq ab.out;obtain⟨E,ah⟩:∃E,E=U.heap.size:=⟨_,rfl⟩;rw[<-ah]at ac ai ⊢;clear D Y Z aa V ae ah
 go_wp2_with fail
 have hE:=Hg (v0:=zI 10) (v1:=zT {data:=#[]}) (v2:=zU 0) (v3:=zU 0) (v4:=zU 0) (v5:=zU 0) (v6:=zS E 1 1) (v7:=zI 0) ab.out;obtain⟨⟨r0,r1,r2,r3,r4,r5,r6,r7⟩,_⟩:=Qg hE;refine bodyPost_ret (v:=.agg #[zI 10,zT {data:=#[]},zU 0,zU 0,zU 0,zU 0,zS E 1 1,zI 0]) (by simp[results,Tryz.results109,go_sem,r0,r1,r2,r3,r4,r5,r6,r7]) rfl ?_;have hg:=Hh w4 (w.heap.size+1) (zI 10) (zT {data:=#[]}) (zU 0) (zU 0) (zU 0) (zU 0) (zS E 1 1) (zI 0);refine⟨10,bE0,0,0,0,0,_,1,1,0,rfl,hid (Ax _ _ (Ax _ _ (Gw _ _ 4 bE0) (by show w.heap.size<=_;omega) ((hg.block _ (Qq ag.out) (fun e=>by have:=Option.some.inj e;omega)).trans ag.out)) (by show w.heap.size<=_;omega) ((hg.block _ (Qq ac.out) (fun e=>by have:=Option.some.inj e;omega)).trans ac.out)),hid (af.out.grown hg af.out.size (fun g e=>by have:=Option.some.inj e;omega))⟩
theorem y2m(nm:zA)(w:World):Calls prog 109 #[zT nm,.agg #[.bool true,.bool true,.bool true]] w (CnA (.mk 7 bE0 0 0 0 0 [.mk 4 bE0 0 0 0 0 [] 0,.mk 12 bE0 0 0 0 0 [.mk 4 bE0 0 0 0 0 [] 0] 0] 0) w):=by
 obtain⟨h,D⟩:∃h,h=((w.alloc (.cells #[.bool true,.bool true,.bool true] 210)).alloc (.cells #[zI 0,zT {data:=#[]},zU 0,zU 0,zU 0,zU 0,.slice none 0 0,zI 0] 81)).alloc (.cells #[zI 4,zT {data:=#[]},zU 0,zU 0,zU 0,zU 0,.slice none 0 0,zI 0] 81):=⟨_,rfl⟩;have hB:zB w h:=by rw[D];exact(((Below.refl _ w).alloc L0q _).alloc (by simp) _).alloc (by simp;omega) _
 have hR:h.heap[w.heap.size+1]? =some (.cells #[zI 0,zT {data:=#[]},zU 0,zU 0,zU 0,zU 0,.slice none 0 0,zI 0] 81):=by rw[D];exact(Below.heap_alloc _ _ _ (by simp)).trans (Qx _ _ (by simp))
 have hD:h.drew.heap[w.heap.size+1+1]? =some (.cells #[zI 4,zT {data:=#[]},zU 0,zU 0,zU 0,zU 0,.slice none 0 0,zI 0] 81):=by rw[D];exact Qx _ _ (by simp)
 have ad:h.heap.size=w.heap.size+1+1+1:=by rw[D];simp
 obtain⟨y,ae⟩:∃y,y=w.heap.size+1+1+1:=⟨_,rfl⟩;obtain⟨o,hdB⟩:∃o,o=w.heap.size+1+1:=⟨_,rfl⟩;have E:Hid (h.heap.size=y):=ad.trans ae.symm;have aj:Hid (zC h.drew o 0 (zI 4)/\zC h.drew o 1 (zT {data:=#[]})/\zC h.drew o 2 (zU 0)/\zC h.drew o 3 (zU 0)/\zC h.drew o 4 (zU 0)/\zC h.drew o 5 (zU 0)/\zC h.drew o 6 (.slice none 0 0)/\zC h.drew o 7 (zI 0)):=by
  rw[hdB];exact(Qg hD).1
 have HB:=hid hB;have HR:=hid hR;have ak:=hid D;have al:w.heap.size+1+1<y:=by omega
 have am:Hid (o=w.heap.size+1+1):=hdB;clear hB hR hD D ad ae;go_enter func109,ntmps109
 go_wp2_with fail
 rw[<-ak.out,<-hdB];clear hdB;refine Qc 6 (fun W:World=>zC W o 0 (zI 4)/\zC W o 1 (zT {data:=#[]})/\zC W o 2 (zU 0)/\zC W o 3 (zU 0)/\zC W o 4 (zU 0)/\zC W o 5 (zU 0)/\zC W o 6 (.slice none 0 0)/\zC W o 7 (zI 0)) (by kernel_rfl) aj.out (fun r=> ?_);refine Qz 0 r ?_;refine Qz 1 r ?_
 (refine Qf 2 (fun K t=> ?_);go_simp;replace r:=Kk r ((Below.refl _ h.drew).alloc L0q (.cells #[zI 4,zT {data:=#[]},zU 0,zU 0,zU 0,zU 0,.slice none 0 0,zI 0] 81));refine t.out _ _ r ?_;clear t K)
 (try simp only[Act.put,zY])
 (refine Qf 3 (fun K t=> ?_);go_simp;rw[E.out];refine(Kf 12 _ 1 1 _).mono ?_;rintro e A ⟨rfl,G⟩;go_simp;replace r:=Kk r G;refine t.out _ _ r ?_;clear t K)
 (try simp only[Act.put,zY])
 (refine Qf 4 (fun K t=> ?_);go_simp;replace r:=Kk r ((Below.refl _ A).alloc L0q (.cells #[zI 4,zT {data:=#[]},zU 0,zU 0,zU 0,zU 0,.slice none 0 0,zI 0,zI 12,zT {data:=#[]},zU 0,zU 0,zU 0,zU 0,zS y 1 1,zI 0] 81));refine t.out _ _ r ?_;clear t K)
 (try simp only[Act.put,zY])
 (refine Qf 5 (fun K t=> ?_);go_simp;refine(Kf 7 _ 2 2 _).mono ?_;rintro e Y ⟨rfl,I⟩;go_simp;replace r:=Kk r I;refine t.out _ _ r ?_;clear t K)
 (try simp only[Act.put,zY])
 refine Yj (fun K t=> ?_);have af:y<A.heap.size:=by
  have V:=G.size;have e:(h.alloc (.cells #[zI 4,zT {data:=#[]},zU 0,zU 0,zU 0,zU 0,.slice none 0 0,zI 0] 81)).drew.heap.size=h.heap.size+1:=World.size_alloc _ _;rw[e,E.out]at V;omega
 have Z:∀q,q<=y->A.heap[q]? =(h.alloc (.cells #[zI 4,zT {data:=#[]},zU 0,zU 0,zU 0,zU 0,.slice none 0 0,zI 0] 81)).heap[q]? :=fun q hq=>G.block q (by show q<(h.alloc _).heap.size;rw[World.size_alloc,E.out];omega)
 have aa:∀q,q<A.heap.size->Y.heap[q]? =A.heap[q]? :=fun q hq=>(I.block q (by rw[World.size_alloc];omega)).trans (Below.heap_alloc _ _ _ hq)
 have ab:=hid ((aa _ (by omega)).trans ((Z _ (by omega)).trans ((Below.heap_alloc _ _ _ (by rw[E.out];omega)).trans HR.out)));have ag:=hid ((aa y af).trans ((Z y L0q).trans (Qx h (.cells #[zI 4,zT {data:=#[]},zU 0,zU 0,zU 0,zU 0,.slice none 0 0,zI 0] 81) E.out.symm)));have ac:=hid ((I.block A.heap.size (by rw[World.size_alloc];omega)).trans (Qx A (.cells #[zI 4,zT {data:=#[]},zU 0,zU 0,zU 0,zU 0,.slice none 0 0,zI 0,zI 12,zT {data:=#[]},zU 0,zU 0,zU 0,zU 0,zS y 1 1,zI 0] 81) rfl));have ah:Hid (zB w Y):=by
  have V:=(HB.out.alloc HB.out.size (.cells #[zI 4,zT {data:=#[]},zU 0,zU 0,zU 0,zU 0,.slice none 0 0,zI 0] 81)).drew;have h2:=V.trans (G.mono V.size);have h3:=h2.alloc h2.size (.cells #[zI 4,zT {data:=#[]},zU 0,zU 0,zU 0,zU 0,.slice none 0 0,zI 0,zI 12,zT {data:=#[]},zU 0,zU 0,zU 0,zU 0,zS y 1 1,zI 0] 81);exact h3.trans (I.mono h3.size)
 obtain⟨U,ai⟩:∃U,U=A.heap.size:=⟨_,rfl⟩;rw[<-ai]at ac af ⊢;obtain⟨⟨y0,y1,y2,y3,y4,y5,y6,y7⟩,f0,f1,f2,f3,f4,f5,f6,f7⟩:=Qg ab.out;have lr:=Qq ab.out;clear r G I ai Z aa
 go_simp
 refine t.out _ _ ?_;clear t K;have hE:=Hg (v0:=zI 7) (v1:=zT {data:=#[]}) (v2:=zU 0) (v3:=zU 0) (v4:=zU 0) (v5:=zU 0) (v6:=zS U 2 2) (v7:=zI 0) ab.out;obtain⟨⟨r0,r1,r2,r3,r4,r5,r6,r7⟩,_⟩:=Qg hE
 go_wp2_with fail
 refine bodyPost_ret (v:=.agg #[zI 7,zT {data:=#[]},zU 0,zU 0,zU 0,zU 0,zS U 2 2,zI 0]) (by simp[results,Tryz.results109,go_sem,r0,r1,r2,r3,r4,r5,r6,r7]) rfl ?_;have hg:=Hh Y (w.heap.size+1) (zI 7) (zT {data:=#[]}) (zU 0) (zU 0) (zU 0) (zU 0) (zS U 2 2) (zI 0);refine⟨7,bE0,0,0,0,0,_,2,2,0,rfl,hid (y2e _ _ (Gw _ _ 4 bE0) (Ax _ _ (Gw _ _ 4 bE0) (by show w.heap.size<=_;omega) ((hg.block _ (Qq ag.out) (fun e=>by have:=Option.some.inj e;omega)).trans ag.out)) (by show w.heap.size<=_;omega) ((hg.block _ (Qq ac.out) (fun e=>by have:=Option.some.inj e;omega)).trans ac.out)),hid (ah.out.grown hg ah.out.size (fun g e=>by have:=Option.some.inj e;omega))⟩
mutual
def flT(K:zA->Ot):RT->Option Int
 | .mk k T a b c d s p=>if(k=9∨k=10)/\(ofH K s).1=true then some p else flL K s
def flL(K:zA->Ot):List RT->Option Int
 |[]=>none
 |t::r=>match flT K t with
  |some p=>some p
  |none=>flL K r
end
def flG(K:zA->Ot):List Rr->Option Int
 |[]=>none
 |x::r=>match flT K x.2.1 with
  |some p=>some p
  |none=>flG K r
mutual
def fbT(K:zA->Ot):RT->List ByteArray
 | .mk k T a b c d s p=>(if k=5 then [T]else [])++fbL K (decide (k=6)) s
def fbL(K:zA->Ot)(sq:Bool):List RT->List ByteArray
 |[]=>[]
 |t::r=>fbT K t++(if sq&& !(ofT K t).1 then []else fbL K sq r)
end
theorem z3H{K:zA->Ot}{o:Bool}:∀{s:List RT} {x:zA},x∈fbL K o s->∃t∈s,x∈fbT K t
 |[],x,h=>by simp[fbL]at h
 |t::r,x,h=>by
  rw[fbL,List.mem_append]at h;rcases h with h|h
  ·exact⟨t,by simp,h⟩
  ·by_cases e:(o&& !(ofT K t).1)=true
   ·rw[if_pos e]at h;simp at h
   ·rw[if_neg e]at h
    obtain⟨u,y,hx⟩:=z3H h;exact⟨u,by simp[y],hx⟩
theorem Aj{y:zA×Int}:∀{s:List RT} {t:RT},t∈s->y∈rfT t->y∈rfL s
 |a::r,t,h,hy=>by
  rw[rfL,List.mem_append];rcases List.mem_cons.1 h with rfl|h
  ·exact .inl hy
  ·exact .inr (Aj h hy)
theorem Sw{K:zA->Ot}:∀(Q:Nat) (t:RT),SizeOf.sizeOf t<Q->okT t=true->∀x∈fbT K t,∃y∈rfT t,y.1=x
 |0,t,h=>by omega
 |Q+1,.mk k T a b c d s p,h=>by
  intro r x hx;rw[okT,Bool.and_eq_true]at r;rw[fbT,List.mem_append]at hx;rw[rfT];by_cases h5:k=5
  ·subst h5
   have o:Qv s=0:=by
    have:=r.1;unfold okN at this;rw[if_neg (by decide),if_neg (by decide),if_neg (by decide),if_pos rfl,Bool.and_eq_true,Bool.and_eq_true]at this;have D:=this.2.2;simp at D;omega
   rw[Zm]at o;have o:s=[]:=List.eq_nil_of_length_eq_zero o;subst o;rw[if_pos rfl]at hx ⊢;rcases hx with hx|hx
   ·exact⟨(T,p),by simp,(by simpa using hx:x=T).symm⟩
   ·simp[fbL]at hx
  ·rw[if_neg h5]at hx ⊢
   rcases hx with hx|hx
   ·simp at hx
   ·obtain⟨t,E,hx⟩:=z3H hx
    obtain⟨j,A,rfl⟩:=List.getElem_of_mem E;have I:=List.sizeOf_lt_of_mem (List.getElem_mem A);simp only[RT.mk.sizeOf_spec]at h;obtain⟨y,G,e⟩:=Sw Q s[j] (by omega) (Ew r.2 j A) x hx;exact⟨y,Aj (List.getElem_mem A) G,e⟩
def bgR(rs:List Rr)(K:zA->Ot)(x:Rr):List Int:=Lib.compact (srt ((fbT K x.2.1).map fun s=>fdI s (nmL rs)))
theorem y2n{rs:List Rr}{s:zA}(h:inN s (nmL rs)=true):fdI s (nmL rs)=(ixV (nmL rs) s:Int):=by
 unfold fdI ixV;rw[if_pos h,if_pos h]
theorem Sy{rs:List Rr}{K:zA->Ot}{i:Int}:i∈bgR rs K x↔∃s∈fbT K x.2.1,fdI s (nmL rs)=i:=by
 unfold bgR;refine⟨fun h=> ?_,fun⟨s,o,e⟩=> ?_⟩
 ·have:=(Mf _).mem_iff.1 (Rp h)
  exact List.mem_map.1 this
 ·exact z2F ((Mf _).mem_iff.2 (List.mem_map.2 ⟨s,o,e⟩))
theorem y2o{rs:List Rr}{K:zA->Ot}(o:okG rs=true)(r:ckR rs=none)(hx:x∈rs):∀i∈bgR rs K x,i∈usR (nmL rs) x:=fun i t=>by
 obtain⟨s,A,e⟩:=Sy.1 t;obtain⟨y,h,rfl⟩:=Sw _ x.2.1 (Nat.lt_succ_self _) (Fk o x hx).2 s A;have D:=Aq (Hy r) y (Ky.2 ⟨x,hx,h⟩);refine y0y.2 ?_;unfold ixL;exact List.mem_map.2 ⟨y,h,by rw[<-e,y2n D]⟩
theorem y2p{rs:List Rr}{K:zA->Ot}(h:okG rs=true)(o:ckR rs=none)(hx:x∈rs):∀i∈bgR rs K x,∃m:Nat,m<rs.length/\i=(m:Int):=fun i r=>by
 have hl:(nmL rs).length=rs.length:=List.length_map _;have:=y0x (l:=nmL rs) (y:=x) (by rw[hl];exact(Jm h).1) (y2o h o hx i r);rw[hl]at this;exact this
theorem z3I(over:Nat)(o:zA){n:Nd}:∀{s:List Nd},n∈s->sz (pN qT cT n)<=sz (pB qT cT over o s)
 |a::r,h=>by
  have e:sz (pB qT cT over o (a::r))=o.size+(sz (pP qT cT over a)+sz (pB qT cT over o r)):=by rw[pB,sz,Xy];rfl
  rcases List.mem_cons.1 h with rfl|h
  ·have:=Dx over n
   omega
  ·have:=z3I over o h
   omega
theorem Sf(over:Nat)(o:zA){n:Nd}:∀{s:List Nd},n∈s->sz (pN qT cT n)<=sz (pS qT cT over o s)
 |a::r,h=>by
  have e:sz (pS qT cT over o (a::r))=sz (pP qT cT over a)+sz (pB qT cT over o r):=by rw[pS,Xy];rfl
  rcases List.mem_cons.1 h with rfl|h
  ·have:=Dx over n
   omega
  ·have:=z3I over o h
   omega
theorem Hd(over:Nat){n:Nd}:∀{s:List Nd},n∈s->dN n<=dS over s
 |a::r,h=>by
  rw[Ob];rcases List.mem_cons.1 h with rfl|h
  ·have:dN n<=dP over n:=by unfold dP;split<;>omega
   omega
  ·have:=Hd over h
   omega
theorem y2q{kd:Nat}{T:zA}{C p:Nat}{s:List Nd}(o:Vk (.mk kd T C s p)){n:Nd}(h:n∈s):sz (pN qT cT n)<=sz (pN qT cT (.mk kd T C s p))/\dN n<=dN (.mk kd T C s p):=by
 rw[Vk]at o;rw[pN,dN];rcases o.1 with⟨_,_,_,rfl⟩|⟨_,_,rfl⟩|⟨_,_,rfl⟩|⟨_,_,_,rfl⟩|⟨_,_,rfl⟩|⟨r,_,_,U⟩|⟨V,Y,_,_,Z⟩
 ·simp at h
 ·simp at h
 ·simp at h
 ·simp at h
 ·simp at h
 ·rcases r with rfl|rfl
  ·simp only[Nat.reduceEqDiff,if_false,if_true]
   exact⟨Sf 6 bSp h,Hd 6 h⟩
  ·simp only[Nat.reduceEqDiff,if_false,if_true]
   exact⟨Sf 7 bSl h,Hd 7 h⟩
 ·have t:¬kd=1:=by omega
  have y:¬kd=2:=by omega
  have A:¬kd=3:=by omega
  have D:¬kd=4:=by omega
  have E:¬kd=5:=by omega
  have G:¬kd=6:=by omega
  have I:¬kd=7:=by omega
  simp only[if_neg t,if_neg y,if_neg A,if_neg D,if_neg E,if_neg G,if_neg I];have h3:=Sf kd bE h;refine⟨?_,Hd kd h⟩;by_cases h11:kd=11∨kd=12
  ·rw[if_pos h11,sz];omega
  ·rw[if_neg h11,Xy];omega
theorem z3J{n:Nat}:∀{s:List RT} {q:List Nd},TqL s q->∀(j:Nat) (o:j<s.length),∃y:j<q.length,Tq s[j] q[j]
 |[],_,_,j,o=>by simp at o
 |_::_,[],h,_,_=>by simp[TqL]at h
 |t::r,n::q,h,0,_=>by rw[TqL]at h;exact⟨by simp,h.1⟩
 |t::r,a::q,h,j+1,o=>by
  rw[TqL]at h;obtain⟨y,A⟩:=z3J (n:=n) h.2 j (by simpa using o);exact⟨by simpa using y,A⟩
theorem z3K{Nm:zA->Prop}:∀{s:List Nd},WfL Nm s->∀n∈s,Wf Nm n
 |[],_,n,h=>by simp at h
 |a::r,h,n,o=>by
  rw[WfL]at h;rcases List.mem_cons.1 o with rfl|o
  ·exact h.1
  ·exact z3K h.2 n o
theorem z3L:∀{s:List RT},Xj s->∀(j:Nat) (o:j<s.length),RtU s[j]
 |t::r,h,0,_=>by rw[Xj]at h;exact h.1
 |t::r,h,j+1,o=>by rw[Xj]at h;exact z3L h.2 j (by simpa using o)
structure Fit (l:List ByteArray) (t:RT):Prop where
 ok:okT t=true
 z:RtZ t
 txt:∃nd,Tq t nd/\Vk nd/\Wf Nmq nd/\sz (pN qT cT nd)<=8186/\dN nd<=24
 rf:∀y∈rfT t,inN y.1 l=true
theorem Sg{T:zA}{a b c d p:Int}{s:List RT}(h:okT (.mk 5 T a b c d s p)=true):s=[]:=by
 rw[okT,Bool.and_eq_true]at h;have:=h.1;unfold okN at this;rw[if_neg (by decide),if_neg (by decide),if_neg (by decide),if_pos rfl,Bool.and_eq_true,Bool.and_eq_true]at this;have r:=this.2.2;simp at r;have o:Qv s=0:=by omega
 rw[Zm]at o;exact List.eq_nil_of_length_eq_zero o
theorem Fit.sub{l:List ByteArray}{k a b c d p:Int}{T:zA}{s:List RT}(h:Fit l (.mk k T a b c d s p))(j:Nat)(o:j<s.length):Fit l s[j]:=by
 obtain⟨t,E,⟨I,G,A,r,hs,hd⟩,U⟩:=h;obtain⟨kd,T',C,V,p'⟩:=I;have Y:k≠5:=fun e=>by
  subst e;have:=Sg t;subst this;simp at o
 rw[okT,Bool.and_eq_true]at t;rw[RtZ]at E;rw[Tq]at G;obtain⟨D,Z⟩:=z3J (n:=0) G.2.2.2.2.2.2 j o;have aa:=y2q A (List.getElem_mem D);rw[Vk]at A;rw[Wf]at r;refine⟨Ew t.2 j o,E.2.get j o,⟨V[j],Z,A.2.mem _ (List.getElem_mem D),z3K (by first|exact r.2.2|exact r.2.2.2|exact r.2) _ (List.getElem_mem D),by omega,by omega⟩,fun y hy=>U y ?_⟩;rw[rfT,if_neg Y];exact Aj (List.getElem_mem o) hy
theorem z3M{x:Rl}(hx:1<=x.1.size):∀{ns:List Rl},x∈ns->sz (pN qT cT x.2.1)+6<=sz (pR qT cT ns)
 |y::r,h=>by
  have o:bAr.size=4:=by decide
  have t:bNl.size=1:=by decide
  rw[pR,sz,sz,Xy,sz];rcases List.mem_cons.1 h with rfl|h
  ·omega
  ·have:=z3M hx h
   omega
theorem z3N{x:Rl}:∀{ns:List Rl},x∈ns->dN x.2.1<=dR ns
 |y::r,h=>by
  rw[dR];rcases List.mem_cons.1 h with rfl|h
  ·omega
  ·have:=z3N h
   omega
theorem Hc{rs:List Rr}(t:PrG rs)(A:ckR rs=none)(D:RgZ rs)(hx:x∈rs):Fit (nmL rs) x.2.1:=by
 obtain⟨E,ns,r,G,hs,hd⟩:=t;obtain⟨j,h,rfl⟩:=List.getElem_of_mem hx;have o:j<ns.length:=by rw[r.len];exact h
 have I:=r.get j h o;have U:=Fk E _ (List.getElem_mem h);obtain⟨V,Y,Z⟩:=G _ (List.getElem_mem o);have h6:=z3M (Rg V) (List.getElem_mem o);have h7:=z3N (List.getElem_mem o);exact⟨U.2,(D _ (List.getElem_mem h)).2,⟨_,I.2,Y,Z,by omega,by omega⟩,fun y hy=>Aq (Hy A) y (Ky.2 ⟨_,List.getElem_mem h,hy⟩)⟩
theorem y2r{h:Nd}(o:Vk h)(r:Wf Nmq h)(t:sz (pN qT cT h)<=8186)(y:dN h<=24):(exS h).size≠0:=by
 have A:sz (pR qT cT [(bA,h,0)])<=8192:=by
  rw[pR,pR];simp only[sz,Xy];have D:bA.size=1:=rfl;have E:bAr.size=4:=by decide
  have G:bNl.size=1:=by decide
  omega
 have I:dR [(bA,h,0)]<=24:=by
  rw[dR,dR];simp only;omega
 unfold exS;rw[if_neg (by omega)];have U:=Pq (pN qT cT h);have V:=z3F h o r;omega
mutual
theorem z3O{l:List ByteArray}:∀t:RT,(∀y∈rfT t,inN y.1 l=true)->hrT l t=true
 | .mk k T a b c d s p,h=>by
   rw[hrT];rw[rfT]at h;by_cases h5:k=5
   ·rw[if_pos h5]at h ⊢
    exact h (T,p) (by simp)
   ·rw[if_neg h5]at h ⊢
    exact z3P s h
theorem z3P{l:List ByteArray}:∀s:List RT,(∀y∈rfL s,inN y.1 l=true)->hrL l s=true
 |[],_=>by rw[hrL]
 |t::r,h=>by
  rw[rfL]at h;rw[hrL,z3O t (fun y o=>h y (List.mem_append.2 (.inl o))),z3P r (fun y o=>h y (List.mem_append.2 (.inr o)))];rfl
end
theorem y2s(y:Option Addr)(n A:Nat)(rs:List Rr)(K:zA->Ot)(k:Int)(T:zA)(a b c d p:Int)(D:Option Addr)(E G:Nat)(t:RT)(B B1:Nat)(w:World)(h:Qb w B y n (bG rs K))(U:B<=w.heap.size)(aa:okG rs=true)(ab:ckR rs=none)(hz:RgZ rs)(Y:TabIs w)(V:Qy w B1 t (r8 k T a b c d D E G p))(ag:B1<=w.heap.size)(hf:Fit (nmL rs) t):
  ∀W:World,zB w W->Calls prog 155 #[.agg #[.slice y n A],.agg (r8 k T a b c d D E G p).toArray] W fun e w'=>e=.returned (.tuple #[ov (ofT K t),.nilIface])/\zB W w':=fun W hW=>by
 obtain⟨ah,ac,⟨Z,hq,hv,hw,hs,hd⟩,ad⟩:=hf;have ae:=y1Y K hz;have af:=y1X K ab;have ai:=z3B K aa;obtain⟨hX,hC⟩:=Sk y n A (bG rs K) B w ae h U Y (y2c K aa) af;have V:=Qy.upto ag t _ V;have r:∀{W'},zB W W'->zB w W':=fun o=>hW.trans (o.mono hW.size)
 have hN:∀W':World,zB W W'->Calls prog 152 #[.agg #[.slice y n A]] W' fun e w'=>e=.returned .nilIface/\zB W' w':=fun W' o=>(z2C y n A (bG rs K) none W' (hC.from (r o))).mono fun e w' he=>by
  obtain⟨v,h1,I,h3⟩:=he;have I:v=.nilIface:=I;rw[h1,I];exact⟨rfl,h3⟩
 have hE:∀W':World,zB W W'->Calls prog 192 #[.agg (r8 k T a b c d D E G p).toArray] W' fun e w'=>e=.returned (zT (exS Z))/\zB W' w':=fun W' o=>
  y1G k T a b c d p D E G t Z W' (Y.below (r o) Y.lt) (Qy.upto (r o).size t _ (V.below (r o))) ac hq hv hw
 have hH:∀W':World,zB W W'->Calls prog 193 #[.agg #[.slice y n A],.agg (r8 k T a b c d D E G p).toArray] W' fun e w'=>e=.returned (.bool true)/\zB W' w':=fun W' o=>by
  have:=z3n (nmL (bG rs K)) (bG rs K) rfl y n A B _ t _ w.heap.size W' (Nat.lt_succ_self _) (V.below (r o)) (r o).size (h.below ((r o).mono U)) (Nat.le_trans U (r o).size);rw[Sv,z3O t ad]at this;exact this
 refine(y1J y n A (bG rs K) k T a b c d D E G p t W (exS Z) (y1L (y2r hv hw hs hd)) hN hE hH (fun W' o=>z3r y n A (bG rs K) B W' (h.below ((r o).mono U)) (Nat.le_trans U (r o).size) ae ai af) (fun W' M nn m o aj=>z3h M nn (itr (bG rs K) m) t _ W' w.heap.size (V.below (r o)) (r o).size ac ah aj)).mono fun e w' he=> ?_
 obtain⟨m,h1,I,h3⟩:=he;rw[y2a ab h1 t ad]at I;exact⟨I,h3⟩
theorem y2t(t:Option Addr)(n A:Nat)(k:Int)(T:zA)(a b c d p:Int)(D:Option Addr)(E G:Nat)(y:Ot)(w:World)
  (HE:Hid (∀W:World,zB w W->Calls prog 155 #[.agg #[.slice t n A],.agg #[zI k,zT T,zU a,zU b,zU c,zU d,.slice D E G,zI p]] W (zR W (.tuple #[ov y,.nilIface])))):
  Calls prog 112 #[.agg #[.slice t n A],.agg #[zI k,zT T,zU a,zU b,zU c,zU d,.slice D E G,zI p]] w fun e w'=>e=.returned (ov y)/\zB w w':=by
 obtain⟨y1,y2,y3⟩:=y;obtain⟨h,o⟩:∃h,h=((w.alloc (.cells #[.slice t n A] 43)).alloc (.cells #[zI k,zT T,zU a,zU b,zU c,zU d,.slice D E G,zI p] 81)).alloc (.cells #[.bool false,.bool false,.bool false] 210):=⟨_,rfl⟩;have I:zB w h:=by rw[o];exact(((Below.refl _ w).alloc L0q _).alloc (by simp) _).alloc (by simp;omega) _
 have U:Hid (h.heap[w.heap.size+1+1]? =some (.cells #[.bool false,.bool false,.bool false] 210)):=by rw[o];exact Qx _ _ (by simp)
 have V:=hid (HE.out h I);have Y:=hid I;have aa:=hid o;dsimp only[ov]at V;clear o I HE;go_enter func112,ntmps112
 go_wp2_with fail
 rw[<-aa.out];refine V.out.mono ?_;rintro e w2 ⟨rfl,Z⟩;have ab:=hid (Y.out.trans (Z.mono Y.out.size));have r:=(Z.block _ (Qq U.out)).trans U.out;obtain⟨⟨u0,u1,u2⟩,f0,f1,f2⟩:=Zz r;have lr:=Qq r;have ad:=hid r;clear Z V aa U Y r
 go_wp2_with fail
 have hP:=Ym (v0:=.bool y1) (v1:=.bool y2) (v2:=.bool y3) ad.out;have ae:((((w2.setCell ⟨w.heap.size+1+1,0,none⟩ (.bool y1)).setCell ⟨w.heap.size+1+1,1,none⟩ (.bool y2)).setCell ⟨w.heap.size+1+1,2,none⟩ (.bool y3)).alloc (.cells #[.bool y1,.bool y2,.bool y3] 210)).heap[w.heap.size+1+1]? =some (.cells #[.bool y1,.bool y2,.bool y3] 210):=(Below.heap_alloc _ _ _ (Qq hP)).trans hP;obtain⟨⟨r0,r1,r2⟩,_⟩:=Zz ae;refine bodyPost_ret (v:=.agg #[.bool y1,.bool y2,.bool y3]) (by simp[results,Tryz.results112,go_sem,r0,r1,r2]) rfl ?_;have ac:=ab.out.grown (Xv w2 (w.heap.size+1+1) (.bool y1) (.bool y2) (.bool y3)) ab.out.size (fun g e=>by have:=Option.some.inj e;omega);exact⟨rfl,ac.alloc ac.size _⟩
theorem z3Q(o:Option Addr)(n D:Nat)(rs:List Rr)(K:zA->Ot)(k:Int)(T:zA)(a b c d p:Int)(r:Option Addr)(y A:Nat)(t:RT)(B E:Nat)(w:World)(h:Qb w B o n (bG rs K))(G:B<=w.heap.size)(I:okG rs=true)(U:ckR rs=none)(V:RgZ rs)(Y:TabIs w)(Z:Qy w E t (r8 k T a b c d r y A p))(aa:E<=w.heap.size)(hf:Fit (nmL rs) t):
  Calls prog 112 #[.agg #[.slice o n D],.agg #[zI k,zT T,zU a,zU b,zU c,zU d,.slice r y A,zI p]] w fun e w'=>e=.returned (ov (ofT K t))/\zB w w':=
 y2t o n D k T a b c d p r y A _ w (hid (y2s o n D rs K k T a b c d p r y A t B E w h G I U V Y Z aa hf))
end Go.Proofs.YtgnkkgcgbeianaaGreatDoor
