/- Lemmas for the last text. Conditions: those that each names. -/
import Derived.Test.YtmelafeingcgnaaGreatDoorVU15ToT11
import Derived.Test.YtmelafeingcgnaaGreatDoorVU3ToU8
set_option linter.unusedVariables false
set_option maxRecDepth 100000
set_option maxHeartbeats 8000000
namespace Go.Proofs.YtmelafeingcgnaaGreatDoor
open Go.Proofs.Tryz
open Go.RowKit Go.Shelf Go.Maps
variable {x:Rr}
theorem Hf{W:World}{R:Nat}{A a1 a2 a3 a4 y r o v0 v1 v2 v3 v4 v5 v6 v7:Value}(h:zH W R (.cells #[A,a1,a2,a3,a4,y,r,o] 119)):((((((((W.setCell ⟨R,0,none⟩ v0).setCell ⟨R,1,none⟩ v1).setCell ⟨R,2,none⟩ v2).setCell ⟨R,3,none⟩ v3).setCell ⟨R,4,none⟩ v4).setCell ⟨R,5,none⟩ v5).setCell ⟨R,6,none⟩ v6).setCell ⟨R,7,none⟩ v7).heap[R]? =some (.cells #[v0,v1,v2,v3,v4,v5,v6,v7] 119):=by
 have D:(W.setCell ⟨R,0,none⟩ v0).heap[R]? =some (.cells #[v0,a1,a2,a3,a4,y,r,o] 119):=Qk h 0 v0;have E:((W.setCell ⟨R,0,none⟩ v0).setCell ⟨R,1,none⟩ v1).heap[R]? =some (.cells #[v0,v1,a2,a3,a4,y,r,o] 119):=Qk D 1 v1;have G:(((W.setCell ⟨R,0,none⟩ v0).setCell ⟨R,1,none⟩ v1).setCell ⟨R,2,none⟩ v2).heap[R]? =some (.cells #[v0,v1,v2,a3,a4,y,r,o] 119):=Qk E 2 v2;have U:((((W.setCell ⟨R,0,none⟩ v0).setCell ⟨R,1,none⟩ v1).setCell ⟨R,2,none⟩ v2).setCell ⟨R,3,none⟩ v3).heap[R]? =some (.cells #[v0,v1,v2,v3,a4,y,r,o] 119):=Qk G 3 v3;have V:(((((W.setCell ⟨R,0,none⟩ v0).setCell ⟨R,1,none⟩ v1).setCell ⟨R,2,none⟩ v2).setCell ⟨R,3,none⟩ v3).setCell ⟨R,4,none⟩ v4).heap[R]? =some (.cells #[v0,v1,v2,v3,v4,y,r,o] 119):=Qk U 4 v4;have Y:((((((W.setCell ⟨R,0,none⟩ v0).setCell ⟨R,1,none⟩ v1).setCell ⟨R,2,none⟩ v2).setCell ⟨R,3,none⟩ v3).setCell ⟨R,4,none⟩ v4).setCell ⟨R,5,none⟩ v5).heap[R]? =some (.cells #[v0,v1,v2,v3,v4,v5,r,o] 119):=Qk V 5 v5;have Z:(((((((W.setCell ⟨R,0,none⟩ v0).setCell ⟨R,1,none⟩ v1).setCell ⟨R,2,none⟩ v2).setCell ⟨R,3,none⟩ v3).setCell ⟨R,4,none⟩ v4).setCell ⟨R,5,none⟩ v5).setCell ⟨R,6,none⟩ v6).heap[R]? =some (.cells #[v0,v1,v2,v3,v4,v5,v6,o] 119):=Qk Y 6 v6;have h7:((((((((W.setCell ⟨R,0,none⟩ v0).setCell ⟨R,1,none⟩ v1).setCell ⟨R,2,none⟩ v2).setCell ⟨R,3,none⟩ v3).setCell ⟨R,4,none⟩ v4).setCell ⟨R,5,none⟩ v5).setCell ⟨R,6,none⟩ v6).setCell ⟨R,7,none⟩ v7).heap[R]? =some (.cells #[v0,v1,v2,v3,v4,v5,v6,v7] 119):=Qk Z 7 v7;exact h7
theorem Hg(W:World)(R:Nat)(v0 v1 v2 v3 v4 v5 v6 v7:Value):W.grownBy ((((((((W.setCell ⟨R,0,none⟩ v0).setCell ⟨R,1,none⟩ v1).setCell ⟨R,2,none⟩ v2).setCell ⟨R,3,none⟩ v3).setCell ⟨R,4,none⟩ v4).setCell ⟨R,5,none⟩ v5).setCell ⟨R,6,none⟩ v6).setCell ⟨R,7,none⟩ v7) (some R):=G.setR (G.setR (G.setR (G.setR (G.setR (G.setR (G.setR (G.setR (G.refl _ _))))))))
theorem Gq(w:World)(P:Nat->Prop)(k:Int)(T:zA):Zw w P (.mk k T 0 0 0 0 [] 0) (r8 k T 0 0 0 0 none 0 0 0):=by
 rw[Zw];exact⟨none,0,rfl,.inl rfl⟩
theorem Ax{w:World}{P:Nat->Prop}{t:RT}{c:List Value}(k:Int)(g:Nat)(h:Zw w P t c)(o:P g)(r:zH w g (.cells c.toArray 119)):Zw w P (.mk k bE0 0 0 0 0 [t] 0) (r8 k bE0 0 0 0 0 (some ⟨g,0,none⟩) 1 1 0):=by
 rw[Zw];refine⟨some ⟨g,0,none⟩,1,rfl,.inr ⟨rfl,g,c.toArray,rfl,o,r,by rw[Qb,Qb];unfold maxLen;omega,?_⟩⟩;rw[Zx];exact⟨c,[],by simp,h,by rw[Zx];trivial⟩
theorem y2r{w:World}{P:Nat->Prop}{t u:RT}{c d:List Value}(k:Int)(g:Nat)(h:Zw w P t c)(o:Zw w P u d)(r:P g)(y:zH w g (.cells (c++d).toArray 119)):Zw w P (.mk k bE0 0 0 0 0 [t,u] 0) (r8 k bE0 0 0 0 0 (some ⟨g,0,none⟩) 2 2 0):=by
 rw[Zw];refine⟨some ⟨g,0,none⟩,2,rfl,.inr ⟨rfl,g,(c++d).toArray,rfl,r,y,by rw[Qb,Qb,Qb];unfold maxLen;omega,?_⟩⟩;rw[Zx];refine⟨c,d,rfl,h,?_⟩;rw[Zx];exact⟨d,[],by simp,o,by rw[Zx];trivial⟩
theorem y2s(nm:zA)(w:World):Calls prog 145 #[zT nm,.agg #[.bool true,.bool false,.bool false]] w (CnA (.mk 1 bE0 0 0 0 0 [] 0) w):=by
 go_enter func145,ntmps145
 go_wp2_with fail
 refine bodyPost_ret (v:=.agg #[zI 1,zT {data:=#[]},zU 0,zU 0,zU 0,zU 0,.slice none 0 0,zI 0]) (by simp[results,Tryz.results145,go_sem]) rfl ?_;refine⟨1,bE0,0,0,0,0,none,0,0,0,rfl,hid (Gq _ _ _ _),hid ?_⟩;exact(((Below.refl _ w).alloc L0q _).alloc (by simp) _).alloc (by simp<;>omega) _
theorem y2t(nm:zA)(w:World):Calls prog 145 #[zT nm,.agg #[.bool false,.bool false,.bool true]] w (CnA (.mk 3 bE0 0 0 0 0 [] 0) w):=by
 go_enter func145,ntmps145
 go_wp2_with fail
 refine bodyPost_ret (v:=.agg #[zI 3,zT {data:=#[]},zU 0,zU 0,zU 0,zU 0,.slice none 0 0,zI 0]) (by simp[results,Tryz.results145,go_sem]) rfl ?_;refine⟨3,bE0,0,0,0,0,none,0,0,0,rfl,hid (Gq _ _ _ _),hid ?_⟩;exact(((Below.refl _ w).alloc L0q _).alloc (by simp) _).alloc (by simp<;>omega) _
theorem y2u(nm:zA)(w:World):Calls prog 145 #[zT nm,.agg #[.bool false,.bool true,.bool true]] w (CnA (.mk 4 bE0 0 0 0 0 [] 0) w):=by
 go_enter func145,ntmps145
 go_wp2_with fail
 refine bodyPost_ret (v:=.agg #[zI 4,zT {data:=#[]},zU 0,zU 0,zU 0,zU 0,.slice none 0 0,zI 0]) (by simp[results,Tryz.results145,go_sem]) rfl ?_;refine⟨4,bE0,0,0,0,0,none,0,0,0,rfl,hid (Gq _ _ _ _),hid ?_⟩;exact(((Below.refl _ w).alloc L0q _).alloc (by simp) _).alloc (by simp<;>omega) _
theorem y2v(nm:zA)(w:World):Calls prog 145 #[zT nm,.agg #[.bool false,.bool false,.bool false]] w (CnA (.mk 5 nm 0 0 0 0 [] 0) w):=by
 go_enter func145,ntmps145
 go_wp2_with fail
 refine bodyPost_ret (v:=.agg #[zI 5,zT nm,zU 0,zU 0,zU 0,zU 0,.slice none 0 0,zI 0]) (by simp[results,Tryz.results145,go_sem]) rfl ?_;refine⟨5,nm,0,0,0,0,none,0,0,0,rfl,hid (Gq _ _ _ _),hid ?_⟩;exact(((Below.refl _ w).alloc L0q _).alloc (by simp) _).alloc (by simp<;>omega) _
theorem y2w(nm:zA)(w:World):Calls prog 145 #[zT nm,.agg #[.bool true,.bool true,.bool false]] w (CnA (.mk 8 bE0 0 0 0 0 [.mk 4 bE0 0 0 0 0 [] 0] 0) w):=by
 obtain⟨h,o⟩:∃h,h=(((w.alloc (.cells #[.bool true,.bool true,.bool false] 264)).alloc (.cells #[zI 0,zT {data:=#[]},zU 0,zU 0,zU 0,zU 0,.slice none 0 0,zI 0] 119)).alloc (.cells #[zI 4,zT {data:=#[]},zU 0,zU 0,zU 0,zU 0,.slice none 0 0,zI 0] 119)).alloc (.cells #[zI 4,zT {data:=#[]},zU 0,zU 0,zU 0,zU 0,.slice none 0 0,zI 0] 119):=⟨_,rfl⟩;have G:zB w h:=by rw[o];exact((((Below.refl _ w).alloc L0q _).alloc (by simp) _).alloc (by simp;omega) _).alloc (by simp;omega) _
 have U:h.heap[w.heap.size+1]? =some (.cells #[zI 0,zT {data:=#[]},zU 0,zU 0,zU 0,zU 0,.slice none 0 0,zI 0] 119):=by rw[o];exact(Below.heap_alloc _ _ _ (by simp<;>omega)).trans ((Below.heap_alloc _ _ _ (by simp)).trans (Qx _ _ (by simp)))
 have V:h.heap[w.heap.size+1+1+1]? =some (.cells #[zI 4,zT {data:=#[]},zU 0,zU 0,zU 0,zU 0,.slice none 0 0,zI 0] 119):=by rw[o];exact Qx _ _ (by simp)
 have y:=hid G;have A:=hid U;have D:=hid V;have Y:=hid o;clear G U V o;go_enter func145,ntmps145
 go_wp2_with fail
 rw[<-Y.out];refine(Kf 8 _ 1 1 h).mono ?_;rintro e w2 ⟨rfl,r⟩;have Z:=hid (y.out.trans (r.mono y.out.size));have E:=hid ((r.block _ (Qq A.out)).trans A.out);have aa:=hid ((r.block _ (Qq D.out)).trans D.out);obtain⟨⟨y0,y1,y2,y3,y4,y5,y6,y7⟩,f0,f1,f2,f3,f4,f5,f6,f7⟩:=Qf E.out;have lr:=Qq E.out;clear r A D y Y
 go_wp2_with fail
 have hE:=Hf (v0:=zI 8) (v1:=zT {data:=#[]}) (v2:=zU 0) (v3:=zU 0) (v4:=zU 0) (v5:=zU 0) (v6:=zS (w.heap.size+1+1+1) 1 1) (v7:=zI 0) E.out;obtain⟨⟨r0,r1,r2,r3,r4,r5,r6,r7⟩,_⟩:=Qf hE;refine bodyPost_ret (v:=.agg #[zI 8,zT {data:=#[]},zU 0,zU 0,zU 0,zU 0,zS (w.heap.size+1+1+1) 1 1,zI 0]) (by simp[results,Tryz.results145,go_sem,r0,r1,r2,r3,r4,r5,r6,r7]) rfl ?_;have hg:=Hg w2 (w.heap.size+1) (zI 8) (zT {data:=#[]}) (zU 0) (zU 0) (zU 0) (zU 0) (zS (w.heap.size+1+1+1) 1 1) (zI 0);refine⟨8,bE0,0,0,0,0,_,1,1,0,rfl,hid (Ax _ _ (Gq _ _ 4 bE0) (by show w.heap.size<=_;omega) ((hg.block _ (Qq aa.out) (fun e=>by have:=Option.some.inj e;omega)).trans aa.out)),hid (Z.out.grown hg Z.out.size (fun g e=>by have:=Option.some.inj e;omega))⟩
theorem y2x(nm:zA)(w:World):Calls prog 145 #[zT nm,.agg #[.bool true,.bool false,.bool true]] w (CnA (.mk 12 bE0 0 0 0 0 [.mk 4 bE0 0 0 0 0 [] 0] 0) w):=by
 obtain⟨h,o⟩:∃h,h=(((w.alloc (.cells #[.bool true,.bool false,.bool true] 264)).alloc (.cells #[zI 0,zT {data:=#[]},zU 0,zU 0,zU 0,zU 0,.slice none 0 0,zI 0] 119)).alloc (.cells #[zI 4,zT {data:=#[]},zU 0,zU 0,zU 0,zU 0,.slice none 0 0,zI 0] 119)).alloc (.cells #[zI 4,zT {data:=#[]},zU 0,zU 0,zU 0,zU 0,.slice none 0 0,zI 0] 119):=⟨_,rfl⟩;have G:zB w h:=by rw[o];exact((((Below.refl _ w).alloc L0q _).alloc (by simp) _).alloc (by simp;omega) _).alloc (by simp;omega) _
 have U:h.heap[w.heap.size+1]? =some (.cells #[zI 0,zT {data:=#[]},zU 0,zU 0,zU 0,zU 0,.slice none 0 0,zI 0] 119):=by rw[o];exact(Below.heap_alloc _ _ _ (by simp<;>omega)).trans ((Below.heap_alloc _ _ _ (by simp)).trans (Qx _ _ (by simp)))
 have V:h.heap[w.heap.size+1+1+1]? =some (.cells #[zI 4,zT {data:=#[]},zU 0,zU 0,zU 0,zU 0,.slice none 0 0,zI 0] 119):=by rw[o];exact Qx _ _ (by simp)
 have y:=hid G;have A:=hid U;have D:=hid V;have Y:=hid o;clear G U V o;go_enter func145,ntmps145
 go_wp2_with fail
 rw[<-Y.out];refine(Kf 12 _ 1 1 h).mono ?_;rintro e w2 ⟨rfl,r⟩;have Z:=hid (y.out.trans (r.mono y.out.size));have E:=hid ((r.block _ (Qq A.out)).trans A.out);have aa:=hid ((r.block _ (Qq D.out)).trans D.out);obtain⟨⟨y0,y1,y2,y3,y4,y5,y6,y7⟩,f0,f1,f2,f3,f4,f5,f6,f7⟩:=Qf E.out;have lr:=Qq E.out;clear r A D y Y
 go_wp2_with fail
 have hE:=Hf (v0:=zI 12) (v1:=zT {data:=#[]}) (v2:=zU 0) (v3:=zU 0) (v4:=zU 0) (v5:=zU 0) (v6:=zS (w.heap.size+1+1+1) 1 1) (v7:=zI 0) E.out;obtain⟨⟨r0,r1,r2,r3,r4,r5,r6,r7⟩,_⟩:=Qf hE;refine bodyPost_ret (v:=.agg #[zI 12,zT {data:=#[]},zU 0,zU 0,zU 0,zU 0,zS (w.heap.size+1+1+1) 1 1,zI 0]) (by simp[results,Tryz.results145,go_sem,r0,r1,r2,r3,r4,r5,r6,r7]) rfl ?_;have hg:=Hg w2 (w.heap.size+1) (zI 12) (zT {data:=#[]}) (zU 0) (zU 0) (zU 0) (zU 0) (zS (w.heap.size+1+1+1) 1 1) (zI 0);refine⟨12,bE0,0,0,0,0,_,1,1,0,rfl,hid (Ax _ _ (Gq _ _ 4 bE0) (by show w.heap.size<=_;omega) ((hg.block _ (Qq aa.out) (fun e=>by have:=Option.some.inj e;omega)).trans aa.out)),hid (Z.out.grown hg Z.out.size (fun g e=>by have:=Option.some.inj e;omega))⟩
theorem y2y(nm:zA)(w:World):Calls prog 145 #[zT nm,.agg #[.bool false,.bool true,.bool false]] w (CnA (.mk 10 bE0 0 0 0 0 [.mk 8 bE0 0 0 0 0 [.mk 4 bE0 0 0 0 0 [] 0] 0] 0) w):=by
 obtain⟨r,A⟩:∃r,r=(((w.alloc (.cells #[.bool false,.bool true,.bool false] 264)).alloc (.cells #[zI 0,zT {data:=#[]},zU 0,zU 0,zU 0,zU 0,.slice none 0 0,zI 0] 119)).alloc (.cells #[zI 4,zT {data:=#[]},zU 0,zU 0,zU 0,zU 0,.slice none 0 0,zI 0] 119)).alloc (.cells #[zI 4,zT {data:=#[]},zU 0,zU 0,zU 0,zU 0,.slice none 0 0,zI 0] 119):=⟨_,rfl⟩;have hB:zB w r:=by rw[A];exact((((Below.refl _ w).alloc L0q _).alloc (by simp) _).alloc (by simp;omega) _).alloc (by simp;omega) _
 have hR:r.heap[w.heap.size+1]? =some (.cells #[zI 0,zT {data:=#[]},zU 0,zU 0,zU 0,zU 0,.slice none 0 0,zI 0] 119):=by rw[A];exact(Below.heap_alloc _ _ _ (by simp<;>omega)).trans ((Below.heap_alloc _ _ _ (by simp)).trans (Qx _ _ (by simp)))
 have hD:r.heap[w.heap.size+1+1+1]? =some (.cells #[zI 4,zT {data:=#[]},zU 0,zU 0,zU 0,zU 0,.slice none 0 0,zI 0] 119):=by rw[A];exact Qx _ _ (by simp)
 have U:=hid hB;have V:=hid hR;have D:=hid hD;have af:=hid A;clear hB hR hD A;go_enter func145,ntmps145
 go_wp2_with fail
 rw[<-af.out];refine(Kf 8 _ 1 1 r).mono ?_;rintro e Y ⟨rfl,h⟩;obtain⟨o,y⟩:∃o,o=Y.alloc (.cells #[zI 8,zT {data:=#[]},zU 0,zU 0,zU 0,zU 0,zS (w.heap.size+1+1+1) 1 1,zI 0] 119):=⟨_,rfl⟩;have Z:Hid (zB w o):=by rw[y];exact(U.out.trans (h.mono U.out.size)).alloc (Nat.le_trans U.out.size h.size) _
 have aa:Hid (o.heap[w.heap.size+1]? =some (.cells #[zI 0,zT {data:=#[]},zU 0,zU 0,zU 0,zU 0,.slice none 0 0,zI 0] 119)):=by rw[y];exact(Below.heap_alloc _ _ _ (Nat.lt_of_lt_of_le (Qq V.out) h.size)).trans ((h.block _ (Qq V.out)).trans V.out)
 have ab:Hid (o.heap[w.heap.size+1+1+1]? =some (.cells #[zI 4,zT {data:=#[]},zU 0,zU 0,zU 0,zU 0,.slice none 0 0,zI 0] 119)):=by rw[y];exact(Below.heap_alloc _ _ _ (Nat.lt_of_lt_of_le (Qq D.out) h.size)).trans ((h.block _ (Qq D.out)).trans D.out)
 have ac:Hid (o.heap[Y.heap.size]? =some (.cells #[zI 8,zT {data:=#[]},zU 0,zU 0,zU 0,zU 0,zS (w.heap.size+1+1+1) 1 1,zI 0] 119)):=by rw[y];exact Qx _ _ rfl
 have ak:w.heap.size+1+1+1<Y.heap.size:=Nat.lt_of_lt_of_le (Qq D.out) h.size;have ag:=hid y;clear h V D U af y
 go_wp2_with fail
 rw[<-ag.out];refine(Kf 10 _ 1 1 o).mono ?_;rintro e w4 ⟨rfl,E⟩;have ah:=hid (Z.out.trans (E.mono Z.out.size));have ad:=hid ((E.block _ (Qq aa.out)).trans aa.out);have ai:=hid ((E.block _ (Qq ab.out)).trans ab.out);have ae:=hid ((E.block _ (Qq ac.out)).trans ac.out);obtain⟨⟨y0,y1,y2,y3,y4,y5,y6,y7⟩,f0,f1,f2,f3,f4,f5,f6,f7⟩:=Qf ad.out;have lr:=Qq ad.out;obtain⟨G,aj⟩:∃G,G=Y.heap.size:=⟨_,rfl⟩;rw[<-aj]at ae ak ⊢;clear E aa ab ac Z ag aj
 go_wp2_with fail
 have hE:=Hf (v0:=zI 10) (v1:=zT {data:=#[]}) (v2:=zU 0) (v3:=zU 0) (v4:=zU 0) (v5:=zU 0) (v6:=zS G 1 1) (v7:=zI 0) ad.out;obtain⟨⟨r0,r1,r2,r3,r4,r5,r6,r7⟩,_⟩:=Qf hE;refine bodyPost_ret (v:=.agg #[zI 10,zT {data:=#[]},zU 0,zU 0,zU 0,zU 0,zS G 1 1,zI 0]) (by simp[results,Tryz.results145,go_sem,r0,r1,r2,r3,r4,r5,r6,r7]) rfl ?_;have hg:=Hg w4 (w.heap.size+1) (zI 10) (zT {data:=#[]}) (zU 0) (zU 0) (zU 0) (zU 0) (zS G 1 1) (zI 0);refine⟨10,bE0,0,0,0,0,_,1,1,0,rfl,hid (Ax _ _ (Ax _ _ (Gq _ _ 4 bE0) (by show w.heap.size<=_;omega) ((hg.block _ (Qq ai.out) (fun e=>by have:=Option.some.inj e;omega)).trans ai.out)) (by show w.heap.size<=_;omega) ((hg.block _ (Qq ae.out) (fun e=>by have:=Option.some.inj e;omega)).trans ae.out)),hid (ah.out.grown hg ah.out.size (fun g e=>by have:=Option.some.inj e;omega))⟩
theorem y2z(nm:zA)(w:World):Calls prog 145 #[zT nm,.agg #[.bool true,.bool true,.bool true]] w (CnA (.mk 7 bE0 0 0 0 0 [.mk 4 bE0 0 0 0 0 [] 0,.mk 12 bE0 0 0 0 0 [.mk 4 bE0 0 0 0 0 [] 0] 0] 0) w):=by
 obtain⟨h,E⟩:∃h,h=((w.alloc (.cells #[.bool true,.bool true,.bool true] 264)).alloc (.cells #[zI 0,zT {data:=#[]},zU 0,zU 0,zU 0,zU 0,.slice none 0 0,zI 0] 119)).alloc (.cells #[zI 4,zT {data:=#[]},zU 0,zU 0,zU 0,zU 0,.slice none 0 0,zI 0] 119):=⟨_,rfl⟩;have hB:zB w h:=by rw[E];exact(((Below.refl _ w).alloc L0q _).alloc (by simp) _).alloc (by simp;omega) _
 have hR:h.heap[w.heap.size+1]? =some (.cells #[zI 0,zT {data:=#[]},zU 0,zU 0,zU 0,zU 0,.slice none 0 0,zI 0] 119):=by rw[E];exact(Below.heap_alloc _ _ _ (by simp)).trans (Qx _ _ (by simp))
 have hD:h.drew.heap[w.heap.size+1+1]? =some (.cells #[zI 4,zT {data:=#[]},zU 0,zU 0,zU 0,zU 0,.slice none 0 0,zI 0] 119):=by rw[E];exact Qx _ _ (by simp)
 have ae:h.heap.size=w.heap.size+1+1+1:=by rw[E];simp
 obtain⟨A,af⟩:∃A,A=w.heap.size+1+1+1:=⟨_,rfl⟩;obtain⟨o,hdB⟩:∃o,o=w.heap.size+1+1:=⟨_,rfl⟩;have G:Hid (h.heap.size=A):=ae.trans af.symm;have ak:Hid (zC h.drew o 0 (zI 4)/\zC h.drew o 1 (zT {data:=#[]})/\zC h.drew o 2 (zU 0)/\zC h.drew o 3 (zU 0)/\zC h.drew o 4 (zU 0)/\zC h.drew o 5 (zU 0)/\zC h.drew o 6 (.slice none 0 0)/\zC h.drew o 7 (zI 0)):=by
  rw[hdB];exact(Qf hD).1
 have HB:=hid hB;have HR:=hid hR;have al:=hid E;have am:w.heap.size+1+1<A:=by omega
 have ao:Hid (o=w.heap.size+1+1):=hdB;clear hB hR hD E ae af;go_enter func145,ntmps145
 go_wp2_with fail
 rw[<-al.out,<-hdB];clear hdB;refine Qc 6 (fun W:World=>zC W o 0 (zI 4)/\zC W o 1 (zT {data:=#[]})/\zC W o 2 (zU 0)/\zC W o 3 (zU 0)/\zC W o 4 (zU 0)/\zC W o 5 (zU 0)/\zC W o 6 (.slice none 0 0)/\zC W o 7 (zI 0)) (by kernel_rfl) ak.out (fun r=> ?_);refine Qz 0 r ?_;refine Qz 1 r ?_
 (refine Qv 2 (fun K y=> ?_);go_simp;replace r:=Kv r ((Below.refl _ h.drew).alloc L0q (.cells #[zI 4,zT {data:=#[]},zU 0,zU 0,zU 0,zU 0,.slice none 0 0,zI 0] 119));refine y.out _ _ r ?_;clear y K)
 (try simp only[Act.put,zY])
 (refine Qv 3 (fun K y=> ?_);go_simp;rw[G.out];refine(Kf 12 _ 1 1 _).mono ?_;rintro e D ⟨rfl,U⟩;go_simp;replace r:=Kv r U;refine y.out _ _ r ?_;clear y K)
 (try simp only[Act.put,zY])
 (refine Qv 4 (fun K y=> ?_);go_simp;replace r:=Kv r ((Below.refl _ D).alloc L0q (.cells #[zI 4,zT {data:=#[]},zU 0,zU 0,zU 0,zU 0,.slice none 0 0,zI 0,zI 12,zT {data:=#[]},zU 0,zU 0,zU 0,zU 0,zS A 1 1,zI 0] 119));refine y.out _ _ r ?_;clear y K)
 (try simp only[Act.put,zY])
 (refine Qv 5 (fun K y=> ?_);go_simp;refine(Kf 7 _ 2 2 _).mono ?_;rintro e w5 ⟨rfl,V⟩;go_simp;replace r:=Kv r V;refine y.out _ _ r ?_;clear y K)
 (try simp only[Act.put,zY])
 refine Yj (fun K y=> ?_);have ag:A<D.heap.size:=by
  have Z:=U.size;have e:(h.alloc (.cells #[zI 4,zT {data:=#[]},zU 0,zU 0,zU 0,zU 0,.slice none 0 0,zI 0] 119)).drew.heap.size=h.heap.size+1:=World.size_alloc _ _;rw[e,G.out]at Z;omega
 have aa:∀q,q<=A->D.heap[q]? =(h.alloc (.cells #[zI 4,zT {data:=#[]},zU 0,zU 0,zU 0,zU 0,.slice none 0 0,zI 0] 119)).heap[q]? :=fun q hq=>U.block q (by show q<(h.alloc _).heap.size;rw[World.size_alloc,G.out];omega)
 have ab:∀q,q<D.heap.size->w5.heap[q]? =D.heap[q]? :=fun q hq=>(V.block q (by rw[World.size_alloc];omega)).trans (Below.heap_alloc _ _ _ hq)
 have ac:=hid ((ab _ (by omega)).trans ((aa _ (by omega)).trans ((Below.heap_alloc _ _ _ (by rw[G.out];omega)).trans HR.out)));have ah:=hid ((ab A ag).trans ((aa A L0q).trans (Qx h (.cells #[zI 4,zT {data:=#[]},zU 0,zU 0,zU 0,zU 0,.slice none 0 0,zI 0] 119) G.out.symm)));have ad:=hid ((V.block D.heap.size (by rw[World.size_alloc];omega)).trans (Qx D (.cells #[zI 4,zT {data:=#[]},zU 0,zU 0,zU 0,zU 0,.slice none 0 0,zI 0,zI 12,zT {data:=#[]},zU 0,zU 0,zU 0,zU 0,zS A 1 1,zI 0] 119) rfl));have ai:Hid (zB w w5):=by
  have Z:=(HB.out.alloc HB.out.size (.cells #[zI 4,zT {data:=#[]},zU 0,zU 0,zU 0,zU 0,.slice none 0 0,zI 0] 119)).drew;have h2:=Z.trans (U.mono Z.size);have h3:=h2.alloc h2.size (.cells #[zI 4,zT {data:=#[]},zU 0,zU 0,zU 0,zU 0,.slice none 0 0,zI 0,zI 12,zT {data:=#[]},zU 0,zU 0,zU 0,zU 0,zS A 1 1,zI 0] 119);exact h3.trans (V.mono h3.size)
 obtain⟨Y,aj⟩:∃Y,Y=D.heap.size:=⟨_,rfl⟩;rw[<-aj]at ad ag ⊢;obtain⟨⟨y0,y1,y2,y3,y4,y5,y6,y7⟩,f0,f1,f2,f3,f4,f5,f6,f7⟩:=Qf ac.out;have lr:=Qq ac.out;clear r U V aj aa ab
 go_simp
 refine y.out _ _ ?_;clear y K;have hE:=Hf (v0:=zI 7) (v1:=zT {data:=#[]}) (v2:=zU 0) (v3:=zU 0) (v4:=zU 0) (v5:=zU 0) (v6:=zS Y 2 2) (v7:=zI 0) ac.out;obtain⟨⟨r0,r1,r2,r3,r4,r5,r6,r7⟩,_⟩:=Qf hE
 go_wp2_with fail
 refine bodyPost_ret (v:=.agg #[zI 7,zT {data:=#[]},zU 0,zU 0,zU 0,zU 0,zS Y 2 2,zI 0]) (by simp[results,Tryz.results145,go_sem,r0,r1,r2,r3,r4,r5,r6,r7]) rfl ?_;have hg:=Hg w5 (w.heap.size+1) (zI 7) (zT {data:=#[]}) (zU 0) (zU 0) (zU 0) (zU 0) (zS Y 2 2) (zI 0);refine⟨7,bE0,0,0,0,0,_,2,2,0,rfl,hid (y2r _ _ (Gq _ _ 4 bE0) (Ax _ _ (Gq _ _ 4 bE0) (by show w.heap.size<=_;omega) ((hg.block _ (Qq ah.out) (fun e=>by have:=Option.some.inj e;omega)).trans ah.out)) (by show w.heap.size<=_;omega) ((hg.block _ (Qq ad.out) (fun e=>by have:=Option.some.inj e;omega)).trans ad.out)),hid (ai.out.grown hg ai.out.size (fun g e=>by have:=Option.some.inj e;omega))⟩
mutual
def flT(K:zA->Ot):RT->Option Int
 | .mk k T a b c d s p=>if(k=9∨k=10)/\(ofH K s).1=true then some p else flL K s
def flL(K:zA->Ot):List RT->Option Int
 |[]=>none
 |t::r=>match flT K t with
  |some p=>some p
  |none=>flL K r
end
def flG(K:zA->Ot):List Rr->Option Int
 |[]=>none
 |x::r=>match flT K x.2.1 with
  |some p=>some p
  |none=>flG K r
mutual
def fbT(K:zA->Ot):RT->List ByteArray
 | .mk k T a b c d s p=>(if k=5 then [T]else [])++fbL K (decide (k=6)) s
def fbL(K:zA->Ot)(sq:Bool):List RT->List ByteArray
 |[]=>[]
 |t::r=>fbT K t++(if sq&& !(ofT K t).1 then []else fbL K sq r)
end
theorem z3L{K:zA->Ot}{o:Bool}:∀{s:List RT} {x:zA},x∈fbL K o s->∃t∈s,x∈fbT K t
 |[],x,h=>by simp[fbL]at h
 |t::r,x,h=>by
  rw[fbL,List.mem_append]at h;rcases h with h|h
  ·exact⟨t,by simp,h⟩
  ·by_cases e:(o&& !(ofT K t).1)=true
   ·rw[if_pos e]at h;simp at h
   ·rw[if_neg e]at h
    obtain⟨u,y,hx⟩:=z3L h;exact⟨u,by simp[y],hx⟩
theorem Aj{y:zA×Int}:∀{s:List RT} {t:RT},t∈s->y∈rfT t->y∈rfL s
 |a::r,t,h,hy=>by
  rw[rfL,List.mem_append];rcases List.mem_cons.1 h with rfl|h
  ·exact .inl hy
  ·exact .inr (Aj h hy)
theorem Sk{K:zA->Ot}:∀(Q:Nat) (t:RT),SizeOf.sizeOf t<Q->okT t=true->∀x∈fbT K t,∃y∈rfT t,y.1=x
 |0,t,h=>by omega
 |Q+1,.mk k T a b c d s p,h=>by
  intro r x hx;rw[okT,Bool.and_eq_true]at r;rw[fbT,List.mem_append]at hx;rw[rfT];by_cases h5:k=5
  ·subst h5
   have o:Qb s=0:=by
    have:=r.1;unfold okN at this;rw[if_neg (by decide),if_neg (by decide),if_neg (by decide),if_pos rfl,Bool.and_eq_true,Bool.and_eq_true]at this;have D:=this.2.2;simp at D;omega
   rw[Xg]at o;have o:s=[]:=List.eq_nil_of_length_eq_zero o;subst o;rw[if_pos rfl]at hx ⊢;rcases hx with hx|hx
   ·exact⟨(T,p),by simp,(by simpa using hx:x=T).symm⟩
   ·simp[fbL]at hx
  ·rw[if_neg h5]at hx ⊢
   rcases hx with hx|hx
   ·simp at hx
   ·obtain⟨t,E,hx⟩:=z3L hx
    obtain⟨j,A,rfl⟩:=List.getElem_of_mem E;have U:=List.sizeOf_lt_of_mem (List.getElem_mem A);simp only[RT.mk.sizeOf_spec]at h;obtain⟨y,G,e⟩:=Sk Q s[j] (by omega) (Eg r.2 j A) x hx;exact⟨y,Aj (List.getElem_mem A) G,e⟩
def bgR(rs:List Rr)(K:zA->Ot)(x:Rr):List Int:=Lib.compact (srt ((fbT K x.2.1).map fun s=>fdI s (nmL rs)))
theorem y2A{rs:List Rr}{s:zA}(h:inN s (nmL rs)=true):fdI s (nmL rs)=(ixV (nmL rs) s:Int):=by
 unfold fdI ixV;rw[if_pos h,if_pos h]
theorem Sv{rs:List Rr}{K:zA->Ot}{i:Int}:i∈bgR rs K x↔∃s∈fbT K x.2.1,fdI s (nmL rs)=i:=by
 unfold bgR;refine⟨fun h=> ?_,fun⟨s,o,e⟩=> ?_⟩
 ·have:=(Mf _).mem_iff.1 (Rh h)
  exact List.mem_map.1 this
 ·exact z2R ((Mf _).mem_iff.2 (List.mem_map.2 ⟨s,o,e⟩))
theorem y2B{rs:List Rr}{K:zA->Ot}(o:okG rs=true)(r:ckR rs=none)(hx:x∈rs):∀i∈bgR rs K x,i∈usR (nmL rs) x:=fun i A=>by
 obtain⟨s,D,e⟩:=Sv.1 A;obtain⟨y,h,rfl⟩:=Sk _ x.2.1 (Nat.lt_succ_self _) (Gc o x hx).2 s D;have E:=Aq (Hw r) y (Ky.2 ⟨x,hx,h⟩);refine y0R.2 ?_;unfold ixL;exact List.mem_map.2 ⟨y,h,by rw[<-e,y2A E]⟩
theorem y2C{rs:List Rr}{K:zA->Ot}(h:okG rs=true)(o:ckR rs=none)(hx:x∈rs):∀i∈bgR rs K x,∃m:Nat,m<rs.length/\i=(m:Int):=fun i r=>by
 have hl:(nmL rs).length=rs.length:=List.length_map _;have:=y0P (l:=nmL rs) (y:=x) (by rw[hl];exact(Gz h).1) (y2B h o hx i r);rw[hl]at this;exact this
theorem z3M(o:Nat)(y:zA){n:Nd}:∀{s:List Nd},n∈s->sz (pN qT cT n)<=sz (pB qT cT o y s)
 |a::r,h=>by
  have e:sz (pB qT cT o y (a::r))=y.size+(sz (pP qT cT o a)+sz (pB qT cT o y r)):=by rw[pB,sz,Xv];rfl
  rcases List.mem_cons.1 h with rfl|h
  ·have:=Dq o n
   omega
  ·have:=z3M o y h
   omega
theorem Sw(o:Nat)(y:zA){n:Nd}:∀{s:List Nd},n∈s->sz (pN qT cT n)<=sz (pS qT cT o y s)
 |a::r,h=>by
  have e:sz (pS qT cT o y (a::r))=sz (pP qT cT o a)+sz (pB qT cT o y r):=by rw[pS,Xv];rfl
  rcases List.mem_cons.1 h with rfl|h
  ·have:=Dq o n
   omega
  ·have:=z3M o y h
   omega
theorem Hb(o:Nat){n:Nd}:∀{s:List Nd},n∈s->dN n<=dS o s
 |a::r,h=>by
  rw[Oy];rcases List.mem_cons.1 h with rfl|h
  ·have:dN n<=dP o n:=by unfold dP;split<;>omega
   omega
  ·have:=Hb o h
   omega
theorem y2D{kd:Nat}{T:zA}{C p:Nat}{s:List Nd}(o:Vk (.mk kd T C s p)){n:Nd}(h:n∈s):sz (pN qT cT n)<=sz (pN qT cT (.mk kd T C s p))/\dN n<=dN (.mk kd T C s p):=by
 rw[Vk]at o;rw[pN,dN];rcases o.1 with⟨_,_,_,rfl⟩|⟨_,_,rfl⟩|⟨_,_,rfl⟩|⟨_,_,_,rfl⟩|⟨_,_,rfl⟩|⟨r,_,_,Y⟩|⟨Z,aa,_,_,h1⟩
 ·simp at h
 ·simp at h
 ·simp at h
 ·simp at h
 ·simp at h
 ·rcases r with rfl|rfl
  ·simp only[Nat.reduceEqDiff,if_false,if_true]
   exact⟨Sw 6 bSp h,Hb 6 h⟩
  ·simp only[Nat.reduceEqDiff,if_false,if_true]
   exact⟨Sw 7 bSl h,Hb 7 h⟩
 ·have y:¬kd=1:=by omega
  have A:¬kd=2:=by omega
  have D:¬kd=3:=by omega
  have E:¬kd=4:=by omega
  have G:¬kd=5:=by omega
  have U:¬kd=6:=by omega
  have V:¬kd=7:=by omega
  simp only[if_neg y,if_neg A,if_neg D,if_neg E,if_neg G,if_neg U,if_neg V];have h3:=Sw kd bE h;refine⟨?_,Hb kd h⟩;by_cases h11:kd=11∨kd=12
  ·rw[if_pos h11,sz];omega
  ·rw[if_neg h11,Xv];omega
theorem z3N{n:Nat}:∀{s:List RT} {q:List Nd},TqL s q->∀(j:Nat) (o:j<s.length),∃y:j<q.length,Tq s[j] q[j]
 |[],_,_,j,o=>by simp at o
 |_::_,[],h,_,_=>by simp[TqL]at h
 |t::r,n::q,h,0,_=>by rw[TqL]at h;exact⟨by simp,h.1⟩
 |t::r,a::q,h,j+1,o=>by
  rw[TqL]at h;obtain⟨y,A⟩:=z3N (n:=n) h.2 j (by simpa using o);exact⟨by simpa using y,A⟩
theorem z3O{Nm:zA->Prop}:∀{s:List Nd},WfL Nm s->∀n∈s,Wf Nm n
 |[],_,n,h=>by simp at h
 |a::r,h,n,o=>by
  rw[WfL]at h;rcases List.mem_cons.1 o with rfl|o
  ·exact h.1
  ·exact z3O h.2 n o
structure Fit (l:List ByteArray) (t:RT):Prop where
 ok:okT t=true
 z:RtZ t
 txt:∃nd,Tq t nd/\Vk nd/\Wf Nmq nd/\sz (pN qT cT nd)<=8186/\dN nd<=24
 rf:∀y∈rfT t,inN y.1 l=true
theorem Sy{T:zA}{a b c d p:Int}{s:List RT}(h:okT (.mk 5 T a b c d s p)=true):s=[]:=by
 rw[okT,Bool.and_eq_true]at h;have:=h.1;unfold okN at this;rw[if_neg (by decide),if_neg (by decide),if_neg (by decide),if_pos rfl,Bool.and_eq_true,Bool.and_eq_true]at this;have r:=this.2.2;simp at r;have o:Qb s=0:=by omega
 rw[Xg]at o;exact List.eq_nil_of_length_eq_zero o
theorem Fit.sub{l:List ByteArray}{k a b c d p:Int}{T:zA}{s:List RT}(h:Fit l (.mk k T a b c d s p))(j:Nat)(o:j<s.length):Fit l s[j]:=by
 obtain⟨A,G,⟨V,U,D,r,hs,hd⟩,Y⟩:=h;obtain⟨kd,T',C,Z,p'⟩:=V;have aa:k≠5:=fun e=>by
  subst e;have:=Sy A;subst this;simp at o
 rw[okT,Bool.and_eq_true]at A;rw[RtZ]at G;rw[Tq]at U;obtain⟨E,h3⟩:=z3N (n:=0) U.2.2.2.2.2.2 j o;have ab:=y2D D (List.getElem_mem E);rw[Vk]at D;rw[Wf]at r;refine⟨Eg A.2 j o,G.2.get j o,⟨Z[j],h3,D.2.mem _ (List.getElem_mem E),z3O (by first|exact r.2.2|exact r.2.2.2|exact r.2) _ (List.getElem_mem E),by omega,by omega⟩,fun y hy=>Y y ?_⟩;rw[rfT,if_neg aa];exact Aj (List.getElem_mem o) hy
theorem z3P{x:Rl}(hx:1<=x.1.size):∀{ns:List Rl},x∈ns->sz (pN qT cT x.2.1)+6<=sz (pR qT cT ns)
 |y::r,h=>by
  have o:bAr.size=4:=by decide
  have A:bNl.size=1:=by decide
  rw[pR,sz,sz,Xv,sz];rcases List.mem_cons.1 h with rfl|h
  ·omega
  ·have:=z3P hx h
   omega
theorem z3Q{x:Rl}:∀{ns:List Rl},x∈ns->dN x.2.1<=dR ns
 |y::r,h=>by
  rw[dR];rcases List.mem_cons.1 h with rfl|h
  ·omega
  ·have:=z3Q h
   omega
theorem Sf{rs:List Rr}(A:PrG rs)(D:ckR rs=none)(E:RgZ rs)(hx:x∈rs):Fit (nmL rs) x.2.1:=by
 obtain⟨G,ns,r,U,hs,hd⟩:=A;obtain⟨j,h,rfl⟩:=List.getElem_of_mem hx;have o:j<ns.length:=by rw[r.len];exact h
 have V:=r.get j h o;have Y:=Gc G _ (List.getElem_mem h);obtain⟨Z,r2,r3⟩:=U _ (List.getElem_mem o);have h6:=z3P (Ry Z) (List.getElem_mem o);have h7:=z3Q (List.getElem_mem o);exact⟨Y.2,(E _ (List.getElem_mem h)).2,⟨_,V.2,r2,r3,by omega,by omega⟩,fun y hy=>Aq (Hw D) y (Ky.2 ⟨_,List.getElem_mem h,hy⟩)⟩
theorem y2E{h:Nd}(o:Vk h)(r:Wf Nmq h)(y:sz (pN qT cT h)<=8186)(A:dN h<=24):(exS h).size≠0:=by
 have D:sz (pR qT cT [(bA,h,0)])<=8192:=by
  rw[pR,pR];simp only[sz,Xv];have E:bA.size=1:=rfl;have G:bAr.size=4:=by decide
  have U:bNl.size=1:=by decide
  omega
 have V:dR [(bA,h,0)]<=24:=by
  rw[dR,dR];simp only;omega
 unfold exS;rw[if_neg (by omega)];have Y:=Om (pN qT cT h);have Z:=z3J h o r;omega
mutual
theorem z3R{l:List ByteArray}:∀t:RT,(∀y∈rfT t,inN y.1 l=true)->hrT l t=true
 | .mk k T a b c d s p,h=>by
   rw[hrT];rw[rfT]at h;by_cases h5:k=5
   ·rw[if_pos h5]at h ⊢
    exact h (T,p) (by simp)
   ·rw[if_neg h5]at h ⊢
    exact z3S s h
theorem z3S{l:List ByteArray}:∀s:List RT,(∀y∈rfL s,inN y.1 l=true)->hrL l s=true
 |[],_=>by rw[hrL]
 |t::r,h=>by
  rw[rfL]at h;rw[hrL,z3R t (fun y o=>h y (List.mem_append.2 (.inl o))),z3S r (fun y o=>h y (List.mem_append.2 (.inr o)))];rfl
end
theorem y2F(y:Option Addr)(n A:Nat)(rs:List Rr)(K:zA->Ot)(k:Int)(T:zA)(a b c d p:Int)(D:Option Addr)(E G:Nat)(t:RT)(B B1:Nat)(w:World)(h:Qg w B y n (bG rs K))(V:B<=w.heap.size)(aa:okG rs=true)(ab:ckR rs=none)(hz:RgZ rs)(Z:TabIs w)(Y:Qw w B1 t (r8 k T a b c d D E G p))(ag:B1<=w.heap.size)(hf:Fit (nmL rs) t):
  ∀W:World,zB w W->Calls prog 177 #[.agg #[.slice y n A],.agg (r8 k T a b c d D E G p).toArray] W fun e w'=>e=.returned (.tuple #[ov (ofT K t),.nilIface])/\zB W w':=fun W hW=>by
 obtain⟨ah,ac,⟨nd,hq,hv,hw,hs,hd⟩,ad⟩:=hf;have ae:=y2l K hz;have af:=y2k K ab;have ai:=z3F K aa;obtain⟨hX,hC⟩:=Sx y n A (bG rs K) B w ae h V Z (y2p K aa) af;have Y:=Qw.upto ag t _ Y;have r:∀{W'},zB W W'->zB w W':=fun o=>hW.trans (o.mono hW.size)
 have hN:∀W':World,zB W W'->Calls prog 174 #[.agg #[.slice y n A]] W' fun e w'=>e=.returned .nilIface/\zB W' w':=fun W' o=>(z2O y n A (bG rs K) none W' (hC.from (r o))).mono fun e w' he=>by
  obtain⟨v,h1,U,h3⟩:=he;have U:v=.nilIface:=U;rw[h1,U];exact⟨rfl,h3⟩
 have hE:∀W':World,zB W W'->Calls prog 204 #[.agg (r8 k T a b c d D E G p).toArray] W' fun e w'=>e=.returned (zT (exS nd))/\zB W' w':=fun W' o=>
  y1T k T a b c d p D E G t nd W' (Z.below (r o) Z.lt) (Qw.upto (r o).size t _ (Y.below (r o))) ac hq hv hw
 have hH:∀W':World,zB W W'->Calls prog 205 #[.agg #[.slice y n A],.agg (r8 k T a b c d D E G p).toArray] W' fun e w'=>e=.returned (.bool true)/\zB W' w':=fun W' o=>by
  have:=z3q (nmL (bG rs K)) (bG rs K) rfl y n A B _ t _ w.heap.size W' (Nat.lt_succ_self _) (Y.below (r o)) (r o).size (h.below ((r o).mono V)) (Nat.le_trans V (r o).size);rw[Sj,z3R t ad]at this;exact this
 refine(y1W y n A (bG rs K) k T a b c d D E G p t W (exS nd) (y1Y (y2E hv hw hs hd)) hN hE hH (fun W' o=>z3u y n A (bG rs K) B W' (h.below ((r o).mono V)) (Nat.le_trans V (r o).size) ae ai af) (fun W' M nn m o aj=>z3k M nn (itr (bG rs K) m) t _ W' w.heap.size (Y.below (r o)) (r o).size ac ah aj)).mono fun e w' he=> ?_
 obtain⟨m,h1,U,h3⟩:=he;rw[y2n ab h1 t ad]at U;exact⟨U,h3⟩
theorem y2G(A:Option Addr)(n D:Nat)(k:Int)(T:zA)(a b c d p:Int)(E:Option Addr)(G U:Nat)(y:Ot)(w:World)
  (HE:Hid (∀W:World,zB w W->Calls prog 177 #[.agg #[.slice A n D],.agg #[zI k,zT T,zU a,zU b,zU c,zU d,.slice E G U,zI p]] W (zR W (.tuple #[ov y,.nilIface])))):
  Calls prog 148 #[.agg #[.slice A n D],.agg #[zI k,zT T,zU a,zU b,zU c,zU d,.slice E G U,zI p]] w fun e w'=>e=.returned (ov y)/\zB w w':=by
 obtain⟨y1,y2,y3⟩:=y;obtain⟨h,o⟩:∃h,h=((w.alloc (.cells #[.slice A n D] 51)).alloc (.cells #[zI k,zT T,zU a,zU b,zU c,zU d,.slice E G U,zI p] 119)).alloc (.cells #[.bool false,.bool false,.bool false] 264):=⟨_,rfl⟩;have V:zB w h:=by rw[o];exact(((Below.refl _ w).alloc L0q _).alloc (by simp) _).alloc (by simp;omega) _
 have Y:Hid (h.heap[w.heap.size+1+1]? =some (.cells #[.bool false,.bool false,.bool false] 264)):=by rw[o];exact Qx _ _ (by simp)
 have Z:=hid (HE.out h V);have aa:=hid V;have ac:=hid o;dsimp only[ov]at Z;clear o V HE;go_enter func148,ntmps148
 go_wp2_with fail
 rw[<-ac.out];refine Z.out.mono ?_;rintro e w2 ⟨rfl,ab⟩;have ad:=hid (aa.out.trans (ab.mono aa.out.size));have r:=(ab.block _ (Qq Y.out)).trans Y.out;obtain⟨⟨u0,u1,u2⟩,f0,f1,f2⟩:=Zz r;have lr:=Qq r;have af:=hid r;clear ab Z ac Y aa r
 go_wp2_with fail
 have hP:=Vx (v0:=.bool y1) (v1:=.bool y2) (v2:=.bool y3) af.out;have ag:((((w2.setCell ⟨w.heap.size+1+1,0,none⟩ (.bool y1)).setCell ⟨w.heap.size+1+1,1,none⟩ (.bool y2)).setCell ⟨w.heap.size+1+1,2,none⟩ (.bool y3)).alloc (.cells #[.bool y1,.bool y2,.bool y3] 264)).heap[w.heap.size+1+1]? =some (.cells #[.bool y1,.bool y2,.bool y3] 264):=(Below.heap_alloc _ _ _ (Qq hP)).trans hP;obtain⟨⟨r0,r1,r2⟩,_⟩:=Zz ag;refine bodyPost_ret (v:=.agg #[.bool y1,.bool y2,.bool y3]) (by simp[results,Tryz.results148,go_sem,r0,r1,r2]) rfl ?_;have ae:=ad.out.grown (Xj w2 (w.heap.size+1+1) (.bool y1) (.bool y2) (.bool y3)) ad.out.size (fun g e=>by have:=Option.some.inj e;omega);exact⟨rfl,ae.alloc ae.size _⟩
theorem z3T(o:Option Addr)(n D:Nat)(rs:List Rr)(K:zA->Ot)(k:Int)(T:zA)(a b c d p:Int)(r:Option Addr)(y A:Nat)(t:RT)(B E:Nat)(w:World)(h:Qg w B o n (bG rs K))(G:B<=w.heap.size)(U:okG rs=true)(V:ckR rs=none)(Y:RgZ rs)(Z:TabIs w)(ht:Qw w E t (r8 k T a b c d r y A p))(aa:E<=w.heap.size)(hf:Fit (nmL rs) t):
  Calls prog 148 #[.agg #[.slice o n D],.agg #[zI k,zT T,zU a,zU b,zU c,zU d,.slice r y A,zI p]] w fun e w'=>e=.returned (ov (ofT K t))/\zB w w':=
 y2G o n D k T a b c d p r y A _ w (hid (y2F o n D rs K k T a b c d p r y A t B E w h G U V Y Z ht aa hf))
end Go.Proofs.YtmelafeingcgnaaGreatDoor
