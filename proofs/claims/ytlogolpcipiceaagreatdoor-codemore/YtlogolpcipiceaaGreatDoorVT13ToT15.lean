/- Lemmas for the last text. Conditions: those that each names. -/
import Derived.Test.YtlogolpcipiceaaGreatDoorVPR1ToT11
import Derived.Test.YtlogolpcipiceaaGreatDoorVU3ToU5
set_option linter.unusedVariables false
set_option maxRecDepth 100000
set_option maxHeartbeats 8000000
namespace Go.Proofs.YtlogolpcipiceaaGreatDoor
open Go.Proofs.Tryz
open Go.RowKit Go.Shelf Go.Maps
variable {rs:List Rr} {x:Rr} {T:ByteArray}
theorem Hl{W:World}{R:Nat}{a0 a1 a2 a3 a4 a5 a6 a7 v0 v1 v2 v3 v4 v5 v6 v7:Value}(h:W.heap[R]? =some (.cells #[a0,a1,a2,a3,a4,a5,a6,a7] 71)):((((((((W.setCell ⟨R,0,none⟩ v0).setCell ⟨R,1,none⟩ v1).setCell ⟨R,2,none⟩ v2).setCell ⟨R,3,none⟩ v3).setCell ⟨R,4,none⟩ v4).setCell ⟨R,5,none⟩ v5).setCell ⟨R,6,none⟩ v6).setCell ⟨R,7,none⟩ v7).heap[R]? =some (.cells #[v0,v1,v2,v3,v4,v5,v6,v7] 71):=by
 have h0:(W.setCell ⟨R,0,none⟩ v0).heap[R]? =some (.cells #[v0,a1,a2,a3,a4,a5,a6,a7] 71):=Qh h 0 v0;have h1:((W.setCell ⟨R,0,none⟩ v0).setCell ⟨R,1,none⟩ v1).heap[R]? =some (.cells #[v0,v1,a2,a3,a4,a5,a6,a7] 71):=Qh h0 1 v1;have h2:(((W.setCell ⟨R,0,none⟩ v0).setCell ⟨R,1,none⟩ v1).setCell ⟨R,2,none⟩ v2).heap[R]? =some (.cells #[v0,v1,v2,a3,a4,a5,a6,a7] 71):=Qh h1 2 v2;have h3:((((W.setCell ⟨R,0,none⟩ v0).setCell ⟨R,1,none⟩ v1).setCell ⟨R,2,none⟩ v2).setCell ⟨R,3,none⟩ v3).heap[R]? =some (.cells #[v0,v1,v2,v3,a4,a5,a6,a7] 71):=Qh h2 3 v3;have h4:(((((W.setCell ⟨R,0,none⟩ v0).setCell ⟨R,1,none⟩ v1).setCell ⟨R,2,none⟩ v2).setCell ⟨R,3,none⟩ v3).setCell ⟨R,4,none⟩ v4).heap[R]? =some (.cells #[v0,v1,v2,v3,v4,a5,a6,a7] 71):=Qh h3 4 v4;have h5:((((((W.setCell ⟨R,0,none⟩ v0).setCell ⟨R,1,none⟩ v1).setCell ⟨R,2,none⟩ v2).setCell ⟨R,3,none⟩ v3).setCell ⟨R,4,none⟩ v4).setCell ⟨R,5,none⟩ v5).heap[R]? =some (.cells #[v0,v1,v2,v3,v4,v5,a6,a7] 71):=Qh h4 5 v5;have h6:(((((((W.setCell ⟨R,0,none⟩ v0).setCell ⟨R,1,none⟩ v1).setCell ⟨R,2,none⟩ v2).setCell ⟨R,3,none⟩ v3).setCell ⟨R,4,none⟩ v4).setCell ⟨R,5,none⟩ v5).setCell ⟨R,6,none⟩ v6).heap[R]? =some (.cells #[v0,v1,v2,v3,v4,v5,v6,a7] 71):=Qh h5 6 v6;have h7:((((((((W.setCell ⟨R,0,none⟩ v0).setCell ⟨R,1,none⟩ v1).setCell ⟨R,2,none⟩ v2).setCell ⟨R,3,none⟩ v3).setCell ⟨R,4,none⟩ v4).setCell ⟨R,5,none⟩ v5).setCell ⟨R,6,none⟩ v6).setCell ⟨R,7,none⟩ v7).heap[R]? =some (.cells #[v0,v1,v2,v3,v4,v5,v6,v7] 71):=Qh h6 7 v7;exact h7
theorem Iz(W:World)(R:Nat)(v0 v1 v2 v3 v4 v5 v6 v7:Value):W.grownBy ((((((((W.setCell ⟨R,0,none⟩ v0).setCell ⟨R,1,none⟩ v1).setCell ⟨R,2,none⟩ v2).setCell ⟨R,3,none⟩ v3).setCell ⟨R,4,none⟩ v4).setCell ⟨R,5,none⟩ v5).setCell ⟨R,6,none⟩ v6).setCell ⟨R,7,none⟩ v7) (some R):=G.setR (G.setR (G.setR (G.setR (G.setR (G.setR (G.setR (G.setR (G.refl _ _))))))))
theorem Gh(w:World)(P:Nat->Prop)(k:Int)(T:ByteArray):Zm w P (.mk k T 0 0 0 0 [] 0) (r8 k T 0 0 0 0 none 0 0 0):=by
 rw[Zm];exact⟨none,0,rfl,.inl rfl⟩
theorem Ad{w:World}{P:Nat->Prop}{t:RT}{c:List Value}(k:Int)(g:Nat)(h:Zm w P t c)(hP:P g)(hg:w.heap[g]? =some (.cells c.toArray 71)):Zm w P (.mk k bE0 0 0 0 0 [t] 0) (r8 k bE0 0 0 0 0 (some ⟨g,0,none⟩) 1 1 0):=by
 rw[Zm];refine⟨some ⟨g,0,none⟩,1,rfl,.inr ⟨rfl,g,c.toArray,rfl,hP,hg,by rw[Qp,Qp];unfold maxLen;omega,?_⟩⟩;rw[Xk];exact⟨c,[],by simp,h,by rw[Xk];trivial⟩
theorem y2r{w:World}{P:Nat->Prop}{t u:RT}{c d:List Value}(k:Int)(g:Nat)(h:Zm w P t c)(h2:Zm w P u d)(hP:P g)(hg:w.heap[g]? =some (.cells (c++d).toArray 71)):Zm w P (.mk k bE0 0 0 0 0 [t,u] 0) (r8 k bE0 0 0 0 0 (some ⟨g,0,none⟩) 2 2 0):=by
 rw[Zm];refine⟨some ⟨g,0,none⟩,2,rfl,.inr ⟨rfl,g,(c++d).toArray,rfl,hP,hg,by rw[Qp,Qp,Qp];unfold maxLen;omega,?_⟩⟩;rw[Xk];refine⟨c,d,rfl,h,?_⟩;rw[Xk];exact⟨d,[],by simp,h2,by rw[Xk];trivial⟩
theorem y2s(nm:ByteArray)(w:World):Calls prog 134 #[.string nm,.agg #[.bool true,.bool false,.bool false]] w (CnA (.mk 1 bE0 0 0 0 0 [] 0) w):=by
 go_enter func134,ntmps134
 go_wp2_with fail
 refine bodyPost_ret (v:=.agg #[.int .i64 1,.string ⟨#[]⟩,.int .u64 0,.int .u64 0,.int .u64 0,.int .u64 0,.slice none 0 0,.int .i64 0]) (by simp[results,Tryz.results134,go_sem]) rfl ?_;refine⟨1,bE0,0,0,0,0,none,0,0,0,rfl,hid (Gh _ _ _ _),hid ?_⟩;exact(((Below.refl _ w).alloc L0q _).alloc (by simp) _).alloc (by simp<;>omega) _
theorem y2t(nm:ByteArray)(w:World):Calls prog 134 #[.string nm,.agg #[.bool false,.bool false,.bool true]] w (CnA (.mk 3 bE0 0 0 0 0 [] 0) w):=by
 go_enter func134,ntmps134
 go_wp2_with fail
 refine bodyPost_ret (v:=.agg #[.int .i64 3,.string ⟨#[]⟩,.int .u64 0,.int .u64 0,.int .u64 0,.int .u64 0,.slice none 0 0,.int .i64 0]) (by simp[results,Tryz.results134,go_sem]) rfl ?_;refine⟨3,bE0,0,0,0,0,none,0,0,0,rfl,hid (Gh _ _ _ _),hid ?_⟩;exact(((Below.refl _ w).alloc L0q _).alloc (by simp) _).alloc (by simp<;>omega) _
theorem y2u(nm:ByteArray)(w:World):Calls prog 134 #[.string nm,.agg #[.bool false,.bool true,.bool true]] w (CnA (.mk 4 bE0 0 0 0 0 [] 0) w):=by
 go_enter func134,ntmps134
 go_wp2_with fail
 refine bodyPost_ret (v:=.agg #[.int .i64 4,.string ⟨#[]⟩,.int .u64 0,.int .u64 0,.int .u64 0,.int .u64 0,.slice none 0 0,.int .i64 0]) (by simp[results,Tryz.results134,go_sem]) rfl ?_;refine⟨4,bE0,0,0,0,0,none,0,0,0,rfl,hid (Gh _ _ _ _),hid ?_⟩;exact(((Below.refl _ w).alloc L0q _).alloc (by simp) _).alloc (by simp<;>omega) _
theorem y2v(nm:ByteArray)(w:World):Calls prog 134 #[.string nm,.agg #[.bool false,.bool false,.bool false]] w (CnA (.mk 5 nm 0 0 0 0 [] 0) w):=by
 go_enter func134,ntmps134
 go_wp2_with fail
 refine bodyPost_ret (v:=.agg #[.int .i64 5,.string nm,.int .u64 0,.int .u64 0,.int .u64 0,.int .u64 0,.slice none 0 0,.int .i64 0]) (by simp[results,Tryz.results134,go_sem]) rfl ?_;refine⟨5,nm,0,0,0,0,none,0,0,0,rfl,hid (Gh _ _ _ _),hid ?_⟩;exact(((Below.refl _ w).alloc L0q _).alloc (by simp) _).alloc (by simp<;>omega) _
theorem y2w(nm:ByteArray)(w:World):Calls prog 134 #[.string nm,.agg #[.bool true,.bool true,.bool false]] w (CnA (.mk 8 bE0 0 0 0 0 [.mk 4 bE0 0 0 0 0 [] 0] 0) w):=by
 obtain⟨W1,hW1⟩:∃W1,W1=(((w.alloc (.cells #[.bool true,.bool true,.bool false] 199)).alloc (.cells #[.int .i64 0,.string ⟨#[]⟩,.int .u64 0,.int .u64 0,.int .u64 0,.int .u64 0,.slice none 0 0,.int .i64 0] 71)).alloc (.cells #[.int .i64 4,.string ⟨#[]⟩,.int .u64 0,.int .u64 0,.int .u64 0,.int .u64 0,.slice none 0 0,.int .i64 0] 71)).alloc (.cells #[.int .i64 4,.string ⟨#[]⟩,.int .u64 0,.int .u64 0,.int .u64 0,.int .u64 0,.slice none 0 0,.int .i64 0] 71):=⟨_,rfl⟩;have hB:Below w.heap.size w W1:=by rw[hW1];exact((((Below.refl _ w).alloc L0q _).alloc (by simp) _).alloc (by simp;omega) _).alloc (by simp;omega) _
 have hR:W1.heap[w.heap.size+1]? =some (.cells #[.int .i64 0,.string ⟨#[]⟩,.int .u64 0,.int .u64 0,.int .u64 0,.int .u64 0,.slice none 0 0,.int .i64 0] 71):=by rw[hW1];exact(Below.heap_alloc _ _ _ (by simp<;>omega)).trans ((Below.heap_alloc _ _ _ (by simp)).trans (Qx _ _ (by simp)))
 have hD:W1.heap[w.heap.size+1+1+1]? =some (.cells #[.int .i64 4,.string ⟨#[]⟩,.int .u64 0,.int .u64 0,.int .u64 0,.int .u64 0,.slice none 0 0,.int .i64 0] 71):=by rw[hW1];exact Qx _ _ (by simp)
 have HB:=hid hB;have HR:=hid hR;have HD:=hid hD;have HW1:=hid hW1;clear hB hR hD hW1;go_enter func134,ntmps134
 go_wp2_with fail
 rw[<-HW1.out];refine(Ny 8 _ 1 1 W1).mono ?_;rintro e w2 ⟨rfl,hb2⟩;have HB2:=hid (HB.out.trans (hb2.mono HB.out.size));have HR2:=hid ((hb2.block _ (Qq HR.out)).trans HR.out);have HD2:=hid ((hb2.block _ (Qq HD.out)).trans HD.out);obtain⟨⟨y0,y1,y2,y3,y4,y5,y6,y7⟩,f0,f1,f2,f3,f4,f5,f6,f7⟩:=Qw HR2.out;have lr:=Qq HR2.out;clear hb2 HR HD HB HW1
 go_wp2_with fail
 have hE:=Hl (v0:=.int .i64 8) (v1:=.string ⟨#[]⟩) (v2:=.int .u64 0) (v3:=.int .u64 0) (v4:=.int .u64 0) (v5:=.int .u64 0) (v6:=.slice (some ⟨w.heap.size+1+1+1,0,none⟩) 1 1) (v7:=.int .i64 0) HR2.out;obtain⟨⟨r0,r1,r2,r3,r4,r5,r6,r7⟩,_⟩:=Qw hE;refine bodyPost_ret (v:=.agg #[.int .i64 8,.string ⟨#[]⟩,.int .u64 0,.int .u64 0,.int .u64 0,.int .u64 0,.slice (some ⟨w.heap.size+1+1+1,0,none⟩) 1 1,.int .i64 0]) (by simp[results,Tryz.results134,go_sem,r0,r1,r2,r3,r4,r5,r6,r7]) rfl ?_;have hg:=Iz w2 (w.heap.size+1) (.int .i64 8) (.string ⟨#[]⟩) (.int .u64 0) (.int .u64 0) (.int .u64 0) (.int .u64 0) (.slice (some ⟨w.heap.size+1+1+1,0,none⟩) 1 1) (.int .i64 0);refine⟨8,bE0,0,0,0,0,_,1,1,0,rfl,hid (Ad _ _ (Gh _ _ 4 bE0) (by show w.heap.size<=_;omega) ((hg.block _ (Qq HD2.out) (fun e=>by have:=Option.some.inj e;omega)).trans HD2.out)),hid (HB2.out.grown hg HB2.out.size (fun g e=>by have:=Option.some.inj e;omega))⟩
theorem y2x(nm:ByteArray)(w:World):Calls prog 134 #[.string nm,.agg #[.bool true,.bool false,.bool true]] w (CnA (.mk 12 bE0 0 0 0 0 [.mk 4 bE0 0 0 0 0 [] 0] 0) w):=by
 obtain⟨W1,hW1⟩:∃W1,W1=(((w.alloc (.cells #[.bool true,.bool false,.bool true] 199)).alloc (.cells #[.int .i64 0,.string ⟨#[]⟩,.int .u64 0,.int .u64 0,.int .u64 0,.int .u64 0,.slice none 0 0,.int .i64 0] 71)).alloc (.cells #[.int .i64 4,.string ⟨#[]⟩,.int .u64 0,.int .u64 0,.int .u64 0,.int .u64 0,.slice none 0 0,.int .i64 0] 71)).alloc (.cells #[.int .i64 4,.string ⟨#[]⟩,.int .u64 0,.int .u64 0,.int .u64 0,.int .u64 0,.slice none 0 0,.int .i64 0] 71):=⟨_,rfl⟩;have hB:Below w.heap.size w W1:=by rw[hW1];exact((((Below.refl _ w).alloc L0q _).alloc (by simp) _).alloc (by simp;omega) _).alloc (by simp;omega) _
 have hR:W1.heap[w.heap.size+1]? =some (.cells #[.int .i64 0,.string ⟨#[]⟩,.int .u64 0,.int .u64 0,.int .u64 0,.int .u64 0,.slice none 0 0,.int .i64 0] 71):=by rw[hW1];exact(Below.heap_alloc _ _ _ (by simp<;>omega)).trans ((Below.heap_alloc _ _ _ (by simp)).trans (Qx _ _ (by simp)))
 have hD:W1.heap[w.heap.size+1+1+1]? =some (.cells #[.int .i64 4,.string ⟨#[]⟩,.int .u64 0,.int .u64 0,.int .u64 0,.int .u64 0,.slice none 0 0,.int .i64 0] 71):=by rw[hW1];exact Qx _ _ (by simp)
 have HB:=hid hB;have HR:=hid hR;have HD:=hid hD;have HW1:=hid hW1;clear hB hR hD hW1;go_enter func134,ntmps134
 go_wp2_with fail
 rw[<-HW1.out];refine(Ny 12 _ 1 1 W1).mono ?_;rintro e w2 ⟨rfl,hb2⟩;have HB2:=hid (HB.out.trans (hb2.mono HB.out.size));have HR2:=hid ((hb2.block _ (Qq HR.out)).trans HR.out);have HD2:=hid ((hb2.block _ (Qq HD.out)).trans HD.out);obtain⟨⟨y0,y1,y2,y3,y4,y5,y6,y7⟩,f0,f1,f2,f3,f4,f5,f6,f7⟩:=Qw HR2.out;have lr:=Qq HR2.out;clear hb2 HR HD HB HW1
 go_wp2_with fail
 have hE:=Hl (v0:=.int .i64 12) (v1:=.string ⟨#[]⟩) (v2:=.int .u64 0) (v3:=.int .u64 0) (v4:=.int .u64 0) (v5:=.int .u64 0) (v6:=.slice (some ⟨w.heap.size+1+1+1,0,none⟩) 1 1) (v7:=.int .i64 0) HR2.out;obtain⟨⟨r0,r1,r2,r3,r4,r5,r6,r7⟩,_⟩:=Qw hE;refine bodyPost_ret (v:=.agg #[.int .i64 12,.string ⟨#[]⟩,.int .u64 0,.int .u64 0,.int .u64 0,.int .u64 0,.slice (some ⟨w.heap.size+1+1+1,0,none⟩) 1 1,.int .i64 0]) (by simp[results,Tryz.results134,go_sem,r0,r1,r2,r3,r4,r5,r6,r7]) rfl ?_;have hg:=Iz w2 (w.heap.size+1) (.int .i64 12) (.string ⟨#[]⟩) (.int .u64 0) (.int .u64 0) (.int .u64 0) (.int .u64 0) (.slice (some ⟨w.heap.size+1+1+1,0,none⟩) 1 1) (.int .i64 0);refine⟨12,bE0,0,0,0,0,_,1,1,0,rfl,hid (Ad _ _ (Gh _ _ 4 bE0) (by show w.heap.size<=_;omega) ((hg.block _ (Qq HD2.out) (fun e=>by have:=Option.some.inj e;omega)).trans HD2.out)),hid (HB2.out.grown hg HB2.out.size (fun g e=>by have:=Option.some.inj e;omega))⟩
theorem y2y(nm:ByteArray)(w:World):Calls prog 134 #[.string nm,.agg #[.bool false,.bool true,.bool false]] w (CnA (.mk 10 bE0 0 0 0 0 [.mk 8 bE0 0 0 0 0 [.mk 4 bE0 0 0 0 0 [] 0] 0] 0) w):=by
 obtain⟨W1,hW1⟩:∃W1,W1=(((w.alloc (.cells #[.bool false,.bool true,.bool false] 199)).alloc (.cells #[.int .i64 0,.string ⟨#[]⟩,.int .u64 0,.int .u64 0,.int .u64 0,.int .u64 0,.slice none 0 0,.int .i64 0] 71)).alloc (.cells #[.int .i64 4,.string ⟨#[]⟩,.int .u64 0,.int .u64 0,.int .u64 0,.int .u64 0,.slice none 0 0,.int .i64 0] 71)).alloc (.cells #[.int .i64 4,.string ⟨#[]⟩,.int .u64 0,.int .u64 0,.int .u64 0,.int .u64 0,.slice none 0 0,.int .i64 0] 71):=⟨_,rfl⟩;have hB:Below w.heap.size w W1:=by rw[hW1];exact((((Below.refl _ w).alloc L0q _).alloc (by simp) _).alloc (by simp;omega) _).alloc (by simp;omega) _
 have hR:W1.heap[w.heap.size+1]? =some (.cells #[.int .i64 0,.string ⟨#[]⟩,.int .u64 0,.int .u64 0,.int .u64 0,.int .u64 0,.slice none 0 0,.int .i64 0] 71):=by rw[hW1];exact(Below.heap_alloc _ _ _ (by simp<;>omega)).trans ((Below.heap_alloc _ _ _ (by simp)).trans (Qx _ _ (by simp)))
 have hD:W1.heap[w.heap.size+1+1+1]? =some (.cells #[.int .i64 4,.string ⟨#[]⟩,.int .u64 0,.int .u64 0,.int .u64 0,.int .u64 0,.slice none 0 0,.int .i64 0] 71):=by rw[hW1];exact Qx _ _ (by simp)
 have HB:=hid hB;have HR:=hid hR;have HD:=hid hD;have HW1:=hid hW1;clear hB hR hD hW1;go_enter func134,ntmps134
 go_wp2_with fail
 rw[<-HW1.out];refine(Ny 8 _ 1 1 W1).mono ?_;rintro e w2 ⟨rfl,hb2⟩;obtain⟨W3,hW3⟩:∃W3,W3=w2.alloc (.cells #[.int .i64 8,.string ⟨#[]⟩,.int .u64 0,.int .u64 0,.int .u64 0,.int .u64 0,.slice (some ⟨w.heap.size+1+1+1,0,none⟩) 1 1,.int .i64 0] 71):=⟨_,rfl⟩;have HB3:Hid (Below w.heap.size w W3):=by rw[hW3];exact(HB.out.trans (hb2.mono HB.out.size)).alloc (Nat.le_trans HB.out.size hb2.size) _
 have HR3:Hid (W3.heap[w.heap.size+1]? =some (.cells #[.int .i64 0,.string ⟨#[]⟩,.int .u64 0,.int .u64 0,.int .u64 0,.int .u64 0,.slice none 0 0,.int .i64 0] 71)):=by rw[hW3];exact(Below.heap_alloc _ _ _ (Nat.lt_of_lt_of_le (Qq HR.out) hb2.size)).trans ((hb2.block _ (Qq HR.out)).trans HR.out)
 have HD3:Hid (W3.heap[w.heap.size+1+1+1]? =some (.cells #[.int .i64 4,.string ⟨#[]⟩,.int .u64 0,.int .u64 0,.int .u64 0,.int .u64 0,.slice none 0 0,.int .i64 0] 71)):=by rw[hW3];exact(Below.heap_alloc _ _ _ (Nat.lt_of_lt_of_le (Qq HD.out) hb2.size)).trans ((hb2.block _ (Qq HD.out)).trans HD.out)
 have HE3:Hid (W3.heap[w2.heap.size]? =some (.cells #[.int .i64 8,.string ⟨#[]⟩,.int .u64 0,.int .u64 0,.int .u64 0,.int .u64 0,.slice (some ⟨w.heap.size+1+1+1,0,none⟩) 1 1,.int .i64 0] 71)):=by rw[hW3];exact Qx _ _ rfl
 have hs2:w.heap.size+1+1+1<w2.heap.size:=Nat.lt_of_lt_of_le (Qq HD.out) hb2.size;have HW3:=hid hW3;clear hb2 HR HD HB HW1 hW3
 go_wp2_with fail
 rw[<-HW3.out];refine(Ny 10 _ 1 1 W3).mono ?_;rintro e w4 ⟨rfl,hb4⟩;have HB4:=hid (HB3.out.trans (hb4.mono HB3.out.size));have HR4:=hid ((hb4.block _ (Qq HR3.out)).trans HR3.out);have HD4:=hid ((hb4.block _ (Qq HD3.out)).trans HD3.out);have HE4:=hid ((hb4.block _ (Qq HE3.out)).trans HE3.out);obtain⟨⟨y0,y1,y2,y3,y4,y5,y6,y7⟩,f0,f1,f2,f3,f4,f5,f6,f7⟩:=Qw HR4.out;have lr:=Qq HR4.out;obtain⟨g2,hg2⟩:∃g2,g2=w2.heap.size:=⟨_,rfl⟩;rw[<-hg2]at HE4 hs2 ⊢;clear hb4 HR3 HD3 HE3 HB3 HW3 hg2
 go_wp2_with fail
 have hE:=Hl (v0:=.int .i64 10) (v1:=.string ⟨#[]⟩) (v2:=.int .u64 0) (v3:=.int .u64 0) (v4:=.int .u64 0) (v5:=.int .u64 0) (v6:=.slice (some ⟨g2,0,none⟩) 1 1) (v7:=.int .i64 0) HR4.out;obtain⟨⟨r0,r1,r2,r3,r4,r5,r6,r7⟩,_⟩:=Qw hE;refine bodyPost_ret (v:=.agg #[.int .i64 10,.string ⟨#[]⟩,.int .u64 0,.int .u64 0,.int .u64 0,.int .u64 0,.slice (some ⟨g2,0,none⟩) 1 1,.int .i64 0]) (by simp[results,Tryz.results134,go_sem,r0,r1,r2,r3,r4,r5,r6,r7]) rfl ?_;have hg:=Iz w4 (w.heap.size+1) (.int .i64 10) (.string ⟨#[]⟩) (.int .u64 0) (.int .u64 0) (.int .u64 0) (.int .u64 0) (.slice (some ⟨g2,0,none⟩) 1 1) (.int .i64 0);refine⟨10,bE0,0,0,0,0,_,1,1,0,rfl,hid (Ad _ _ (Ad _ _ (Gh _ _ 4 bE0) (by show w.heap.size<=_;omega) ((hg.block _ (Qq HD4.out) (fun e=>by have:=Option.some.inj e;omega)).trans HD4.out)) (by show w.heap.size<=_;omega) ((hg.block _ (Qq HE4.out) (fun e=>by have:=Option.some.inj e;omega)).trans HE4.out)),hid (HB4.out.grown hg HB4.out.size (fun g e=>by have:=Option.some.inj e;omega))⟩
theorem y2z(nm:ByteArray)(w:World):Calls prog 134 #[.string nm,.agg #[.bool true,.bool true,.bool true]] w (CnA (.mk 7 bE0 0 0 0 0 [.mk 4 bE0 0 0 0 0 [] 0,.mk 12 bE0 0 0 0 0 [.mk 4 bE0 0 0 0 0 [] 0] 0] 0) w):=by
 obtain⟨W1,hW1⟩:∃W1,W1=((w.alloc (.cells #[.bool true,.bool true,.bool true] 199)).alloc (.cells #[.int .i64 0,.string ⟨#[]⟩,.int .u64 0,.int .u64 0,.int .u64 0,.int .u64 0,.slice none 0 0,.int .i64 0] 71)).alloc (.cells #[.int .i64 4,.string ⟨#[]⟩,.int .u64 0,.int .u64 0,.int .u64 0,.int .u64 0,.slice none 0 0,.int .i64 0] 71):=⟨_,rfl⟩;have hB:Below w.heap.size w W1:=by rw[hW1];exact(((Below.refl _ w).alloc L0q _).alloc (by simp) _).alloc (by simp;omega) _
 have hR:W1.heap[w.heap.size+1]? =some (.cells #[.int .i64 0,.string ⟨#[]⟩,.int .u64 0,.int .u64 0,.int .u64 0,.int .u64 0,.slice none 0 0,.int .i64 0] 71):=by rw[hW1];exact(Below.heap_alloc _ _ _ (by simp)).trans (Qx _ _ (by simp))
 have hD:W1.drew.heap[w.heap.size+1+1]? =some (.cells #[.int .i64 4,.string ⟨#[]⟩,.int .u64 0,.int .u64 0,.int .u64 0,.int .u64 0,.slice none 0 0,.int .i64 0] 71):=by rw[hW1];exact Qx _ _ (by simp)
 have hs1:W1.heap.size=w.heap.size+1+1+1:=by rw[hW1];simp
 obtain⟨g1,hg1⟩:∃g1,g1=w.heap.size+1+1+1:=⟨_,rfl⟩;obtain⟨dB,hdB⟩:∃dB,dB=w.heap.size+1+1:=⟨_,rfl⟩;have Hg1:Hid (W1.heap.size=g1):=hs1.trans hg1.symm;have HS0:Hid (W1.drew.cell? ⟨dB,0,none⟩=some (.int .i64 4)/\W1.drew.cell? ⟨dB,1,none⟩=some (.string ⟨#[]⟩)/\W1.drew.cell? ⟨dB,2,none⟩=some (.int .u64 0)/\W1.drew.cell? ⟨dB,3,none⟩=some (.int .u64 0)/\W1.drew.cell? ⟨dB,4,none⟩=some (.int .u64 0)/\W1.drew.cell? ⟨dB,5,none⟩=some (.int .u64 0)/\W1.drew.cell? ⟨dB,6,none⟩=some (.slice none 0 0)/\W1.drew.cell? ⟨dB,7,none⟩=some (.int .i64 0)):=by
  rw[hdB];exact(Qw hD).1
 have HB:=hid hB;have HR:=hid hR;have HW1:=hid hW1;have hlg:w.heap.size+1+1<g1:=by omega
 have HdB:Hid (dB=w.heap.size+1+1):=hdB;clear hB hR hD hW1 hs1 hg1;go_enter func134,ntmps134
 go_wp2_with fail
 rw[<-HW1.out,<-hdB];clear hdB;refine Xd 6 (fun W:World=>W.cell? ⟨dB,0,none⟩=some (.int .i64 4)/\W.cell? ⟨dB,1,none⟩=some (.string ⟨#[]⟩)/\W.cell? ⟨dB,2,none⟩=some (.int .u64 0)/\W.cell? ⟨dB,3,none⟩=some (.int .u64 0)/\W.cell? ⟨dB,4,none⟩=some (.int .u64 0)/\W.cell? ⟨dB,5,none⟩=some (.int .u64 0)/\W.cell? ⟨dB,6,none⟩=some (.slice none 0 0)/\W.cell? ⟨dB,7,none⟩=some (.int .i64 0)) (by kernel_rfl) HS0.out (fun hHeld=> ?_)
 (refine Qz (i:=0) (oi:=({dst:=some 43,op:=Op.load 71 (Operand.tmp 5),type:=71,pos:="brief.go:47",after:=#[],guard:=none}:Oper)) (v:= ?_) rfl (by kernel_rfl) (by kernel_rfl) (by kernel_rfl) (fun _ _ _ h=>h) (Or.inl ⟨by rfl,?_⟩) hHeld ?_;rotate_left;(intro w hSw;(try dsimp only at hSw);go_simp;(try with_reducible rfl));skip)
 (try simp only[Act.put,List.setIfInBounds_toArray,List.set_cons_zero,List.set_cons_succ])
 (refine Qz (i:=1) (oi:=({dst:=some 44,op:=Op.load 71 (Operand.tmp 5),type:=71,pos:="brief.go:47",after:=#[],guard:=none}:Oper)) (v:= ?_) rfl (by kernel_rfl) (by kernel_rfl) (by kernel_rfl) (fun _ _ _ h=>h) (Or.inl ⟨by rfl,?_⟩) hHeld ?_;rotate_left;(intro w hSw;(try dsimp only at hSw);go_simp;(try with_reducible rfl));skip)
 (try simp only[Act.put,List.setIfInBounds_toArray,List.set_cons_zero,List.set_cons_succ])
 (refine Zz (i:=2) (o:=({dst:=some 45,op:=Op.buildSlice 69 1 #[(0,Operand.tmp 44)],type:=69,pos:="brief.go:47",after:=#[{on:=1,ground:=Ground.data}],guard:=none}:Oper)) (by kernel_rfl) rfl (fun K hK=> ?_);go_simp;replace hHeld:=Nx hHeld ((Below.refl _ W1.drew).alloc L0q (.cells #[.int .i64 4,.string ⟨#[]⟩,.int .u64 0,.int .u64 0,.int .u64 0,.int .u64 0,.slice none 0 0,.int .i64 0] 71));refine hK.out _ _ hHeld ?_;clear hK K)
 (try simp only[Act.put,List.setIfInBounds_toArray,List.set_cons_zero,List.set_cons_succ])
 (refine Zz (i:=3) (o:=({dst:=some 46,op:=Op.call {callee:=Callee.value (Operand.func 169),args:=#[Operand.const (Value.int IntKind.i64 12),Operand.tmp 45],argTypes:=#[3,69]},type:=71,pos:="brief.go:47",after:=#[{on:=2,ground:=Ground.data}],guard:=none}:Oper)) (by kernel_rfl) rfl (fun K hK=> ?_);go_simp;rw[Hg1.out];refine(Ny 12 _ 1 1 _).mono ?_;rintro e w3 ⟨rfl,hb3⟩;go_simp;replace hHeld:=Nx hHeld hb3;refine hK.out _ _ hHeld ?_;clear hK K)
 (try simp only[Act.put,List.setIfInBounds_toArray,List.set_cons_zero,List.set_cons_succ])
 (refine Zz (i:=4) (o:=({dst:=some 47,op:=Op.buildSlice 69 2 #[(0,Operand.tmp 43),(1,Operand.tmp 46)],type:=69,pos:="brief.go:47",after:=#[{on:=0,ground:=Ground.data},{on:=3,ground:=Ground.data}],guard:=none}:Oper)) (by kernel_rfl) rfl (fun K hK=> ?_);go_simp;replace hHeld:=Nx hHeld ((Below.refl _ w3).alloc L0q (.cells #[.int .i64 4,.string ⟨#[]⟩,.int .u64 0,.int .u64 0,.int .u64 0,.int .u64 0,.slice none 0 0,.int .i64 0,.int .i64 12,.string ⟨#[]⟩,.int .u64 0,.int .u64 0,.int .u64 0,.int .u64 0,.slice (some ⟨g1,0,none⟩) 1 1,.int .i64 0] 71));refine hK.out _ _ hHeld ?_;clear hK K)
 (try simp only[Act.put,List.setIfInBounds_toArray,List.set_cons_zero,List.set_cons_succ])
 (refine Zz (i:=5) (o:=({dst:=some 48,op:=Op.call {callee:=Callee.value (Operand.func 169),args:=#[Operand.const (Value.int IntKind.i64 7),Operand.tmp 47],argTypes:=#[3,69]},type:=71,pos:="brief.go:47",after:=#[{on:=4,ground:=Ground.data},{on:=3,ground:=Ground.chain}],guard:=none}:Oper)) (by kernel_rfl) rfl (fun K hK=> ?_);go_simp;refine(Ny 7 _ 2 2 _).mono ?_;rintro e w5 ⟨rfl,hb5⟩;go_simp;replace hHeld:=Nx hHeld hb5;refine hK.out _ _ hHeld ?_;clear hK K)
 (try simp only[Act.put,List.setIfInBounds_toArray,List.set_cons_zero,List.set_cons_succ])
 refine Gz (o:=({dst:=none,op:=Op.store 71 (Operand.tmp 4) (Operand.tmp 48),type:=0,pos:="brief.go:47",after:=#[{on:=5,ground:=Ground.data},{on:=5,ground:=Ground.chain},{on:=0,ground:=Ground.phase},{on:=1,ground:=Ground.phase},{on:=2,ground:=Ground.phase},{on:=3,ground:=Ground.phase},{on:=4,ground:=Ground.phase},{on:=5,ground:=Ground.phase}],guard:=none}:Oper)) (by kernel_rfl) (by kernel_rfl) rfl (fun K hK=> ?_);have hs3:g1<w3.heap.size:=by
  have h1:=hb3.size;have e:(W1.alloc (.cells #[.int .i64 4,.string ⟨#[]⟩,.int .u64 0,.int .u64 0,.int .u64 0,.int .u64 0,.slice none 0 0,.int .i64 0] 71)).drew.heap.size=W1.heap.size+1:=World.size_alloc _ _;rw[e,Hg1.out]at h1;omega
 have hk3:∀q,q<=g1->w3.heap[q]? =(W1.alloc (.cells #[.int .i64 4,.string ⟨#[]⟩,.int .u64 0,.int .u64 0,.int .u64 0,.int .u64 0,.slice none 0 0,.int .i64 0] 71)).heap[q]? :=fun q hq=>hb3.block q (by show q<(W1.alloc _).heap.size;rw[World.size_alloc,Hg1.out];omega)
 have hk5:∀q,q<w3.heap.size->w5.heap[q]? =w3.heap[q]? :=fun q hq=>(hb5.block q (by rw[World.size_alloc];omega)).trans (Below.heap_alloc _ _ _ hq)
 have HR5:=hid ((hk5 _ (by omega)).trans ((hk3 _ (by omega)).trans ((Below.heap_alloc _ _ _ (by rw[Hg1.out];omega)).trans HR.out)));have HD5:=hid ((hk5 g1 hs3).trans ((hk3 g1 L0q).trans (Qx W1 (.cells #[.int .i64 4,.string ⟨#[]⟩,.int .u64 0,.int .u64 0,.int .u64 0,.int .u64 0,.slice none 0 0,.int .i64 0] 71) Hg1.out.symm)));have HE5:=hid ((hb5.block w3.heap.size (by rw[World.size_alloc];omega)).trans (Qx w3 (.cells #[.int .i64 4,.string ⟨#[]⟩,.int .u64 0,.int .u64 0,.int .u64 0,.int .u64 0,.slice none 0 0,.int .i64 0,.int .i64 12,.string ⟨#[]⟩,.int .u64 0,.int .u64 0,.int .u64 0,.int .u64 0,.slice (some ⟨g1,0,none⟩) 1 1,.int .i64 0] 71) rfl));have HB5:Hid (Below w.heap.size w w5):=by
  have h1:=(HB.out.alloc HB.out.size (.cells #[.int .i64 4,.string ⟨#[]⟩,.int .u64 0,.int .u64 0,.int .u64 0,.int .u64 0,.slice none 0 0,.int .i64 0] 71)).drew;have h2:=h1.trans (hb3.mono h1.size);have h3:=h2.alloc h2.size (.cells #[.int .i64 4,.string ⟨#[]⟩,.int .u64 0,.int .u64 0,.int .u64 0,.int .u64 0,.slice none 0 0,.int .i64 0,.int .i64 12,.string ⟨#[]⟩,.int .u64 0,.int .u64 0,.int .u64 0,.int .u64 0,.slice (some ⟨g1,0,none⟩) 1 1,.int .i64 0] 71);exact h3.trans (hb5.mono h3.size)
 obtain⟨g2,hg2⟩:∃g2,g2=w3.heap.size:=⟨_,rfl⟩;rw[<-hg2]at HE5 hs3 ⊢;obtain⟨⟨y0,y1,y2,y3,y4,y5,y6,y7⟩,f0,f1,f2,f3,f4,f5,f6,f7⟩:=Qw HR5.out;have lr:=Qq HR5.out;clear hHeld hb3 hb5 hg2 hk3 hk5
 go_simp
 refine hK.out _ _ ?_;clear hK K;have hE:=Hl (v0:=.int .i64 7) (v1:=.string ⟨#[]⟩) (v2:=.int .u64 0) (v3:=.int .u64 0) (v4:=.int .u64 0) (v5:=.int .u64 0) (v6:=.slice (some ⟨g2,0,none⟩) 2 2) (v7:=.int .i64 0) HR5.out;obtain⟨⟨r0,r1,r2,r3,r4,r5,r6,r7⟩,_⟩:=Qw hE
 go_wp2_with fail
 refine bodyPost_ret (v:=.agg #[.int .i64 7,.string ⟨#[]⟩,.int .u64 0,.int .u64 0,.int .u64 0,.int .u64 0,.slice (some ⟨g2,0,none⟩) 2 2,.int .i64 0]) (by simp[results,Tryz.results134,go_sem,r0,r1,r2,r3,r4,r5,r6,r7]) rfl ?_;have hg:=Iz w5 (w.heap.size+1) (.int .i64 7) (.string ⟨#[]⟩) (.int .u64 0) (.int .u64 0) (.int .u64 0) (.int .u64 0) (.slice (some ⟨g2,0,none⟩) 2 2) (.int .i64 0);refine⟨7,bE0,0,0,0,0,_,2,2,0,rfl,hid (y2r _ _ (Gh _ _ 4 bE0) (Ad _ _ (Gh _ _ 4 bE0) (by show w.heap.size<=_;omega) ((hg.block _ (Qq HD5.out) (fun e=>by have:=Option.some.inj e;omega)).trans HD5.out)) (by show w.heap.size<=_;omega) ((hg.block _ (Qq HE5.out) (fun e=>by have:=Option.some.inj e;omega)).trans HE5.out)),hid (HB5.out.grown hg HB5.out.size (fun g e=>by have:=Option.some.inj e;omega))⟩
mutual
def flT(K:ByteArray->Ot):RT->Option Int
 | .mk k T a b c d s p=>if(k=9∨k=10)/\(ofH K s).1=true then some p else flL K s
def flL(K:ByteArray->Ot):List RT->Option Int
 |[]=>none
 |t::r=>match flT K t with
  |some p=>some p
  |none=>flL K r
end
def flG(K:ByteArray->Ot):List Rr->Option Int
 |[]=>none
 |x::r=>match flT K x.2.1 with
  |some p=>some p
  |none=>flG K r
mutual
def fbT(K:ByteArray->Ot):RT->List ByteArray
 | .mk k T a b c d s p=>(if k=5 then [T]else [])++fbL K (decide (k=6)) s
def fbL(K:ByteArray->Ot)(sq:Bool):List RT->List ByteArray
 |[]=>[]
 |t::r=>fbT K t++(if sq&& !(ofT K t).1 then []else fbL K sq r)
end
theorem z4A{K:ByteArray->Ot}{sq:Bool}:∀{s:List RT} {x:ByteArray},x∈fbL K sq s->∃t∈s,x∈fbT K t
 |[],x,h=>by simp[fbL]at h
 |t::r,x,h=>by
  rw[fbL,List.mem_append]at h;rcases h with h|h
  ·exact⟨t,by simp,h⟩
  ·by_cases e:(sq&& !(ofT K t).1)=true
   ·rw[if_pos e]at h;simp at h
   ·rw[if_neg e]at h
    obtain⟨u,hu,hx⟩:=z4A h;exact⟨u,by simp[hu],hx⟩
theorem Wx{y:ByteArray×Int}:∀{s:List RT} {t:RT},t∈s->y∈rfT t->y∈rfL s
 |a::r,t,h,hy=>by
  rw[rfL,List.mem_append];rcases List.mem_cons.1 h with rfl|h
  ·exact .inl hy
  ·exact .inr (Wx h hy)
theorem z4B{K:ByteArray->Ot}:∀(Q:Nat) (t:RT),SizeOf.sizeOf t<Q->okT t=true->∀x∈fbT K t,∃y∈rfT t,y.1=x
 |0,t,h=>by omega
 |Q+1,.mk k T a b c d s p,h=>by
  intro hok x hx;rw[okT,Bool.and_eq_true]at hok;rw[fbT,List.mem_append]at hx;rw[rfT];by_cases h5:k=5
  ·subst h5
   have hs:Qp s=0:=by
    have:=hok.1;unfold okN at this;rw[if_neg (by decide),if_neg (by decide),if_neg (by decide),if_pos rfl,Bool.and_eq_true,Bool.and_eq_true]at this;have h2:=this.2.2;simp at h2;omega
   rw[Yj]at hs;have hs:s=[]:=List.eq_nil_of_length_eq_zero hs;subst hs;rw[if_pos rfl]at hx ⊢;rcases hx with hx|hx
   ·exact⟨(T,p),by simp,(by simpa using hx:x=T).symm⟩
   ·simp[fbL]at hx
  ·rw[if_neg h5]at hx ⊢
   rcases hx with hx|hx
   ·simp at hx
   ·obtain⟨t,ht,hx⟩:=z4A hx
    obtain⟨j,hj,rfl⟩:=List.getElem_of_mem ht;have h1:=List.sizeOf_lt_of_mem (List.getElem_mem hj);simp only[RT.mk.sizeOf_spec]at h;obtain⟨y,hy,e⟩:=z4B Q s[j] (by omega) (El hok.2 j hj) x hx;exact⟨y,Wx (List.getElem_mem hj) hy,e⟩
def bgR(rs:List Rr)(K:ByteArray->Ot)(x:Rr):List Int:=Lib.compact (srt ((fbT K x.2.1).map fun s=>fdI s (nmL rs)))
theorem y2A{s:ByteArray}(h:inN s (nmL rs)=true):fdI s (nmL rs)=(ixV (nmL rs) s:Int):=by
 unfold fdI ixV;rw[if_pos h,if_pos h]
theorem z4C{K:ByteArray->Ot}{i:Int}:i∈bgR rs K x↔∃s∈fbT K x.2.1,fdI s (nmL rs)=i:=by
 unfold bgR;refine⟨fun h=> ?_,fun⟨s,hs,e⟩=> ?_⟩
 ·have:=(Ax _).mem_iff.1 (Tg h)
  exact List.mem_map.1 this
 ·exact z3D ((Ax _).mem_iff.2 (List.mem_map.2 ⟨s,hs,e⟩))
theorem y2B{K:ByteArray->Ot}(hok:okG rs=true)(hck:ckR rs=none)(hx:x∈rs):∀i∈bgR rs K x,i∈usR (nmL rs) x:=fun i hi=>by
 obtain⟨s,hs,e⟩:=z4C.1 hi;obtain⟨y,hy,rfl⟩:=z4B _ x.2.1 (Nat.lt_succ_self _) (Ff hok x hx).2 s hs;have hny:=Hp (Tl hck) y (Ah.2 ⟨x,hx,hy⟩);refine y0H.2 ?_;unfold ixL;exact List.mem_map.2 ⟨y,hy,by rw[<-e,y2A hny]⟩
theorem y2C{K:ByteArray->Ot}(hok:okG rs=true)(hck:ckR rs=none)(hx:x∈rs):∀i∈bgR rs K x,∃m:Nat,m<rs.length/\i=(m:Int):=fun i hi=>by
 have hl:(nmL rs).length=rs.length:=List.length_map _;have:=y0F (l:=nmL rs) (y:=x) (by rw[hl];exact(Gb hok).1) (y2B hok hck hx i hi);rw[hl]at this;exact this
theorem z4D(over:Nat)(sep:ByteArray){n:Nd}:∀{s:List Nd},n∈s->sz (pN qT cT n)<=sz (pB qT cT over sep s)
 |a::r,h=>by
  have e:sz (pB qT cT over sep (a::r))=sep.size+(sz (pP qT cT over a)+sz (pB qT cT over sep r)):=by rw[pB,sz,Xc];rfl
  rcases List.mem_cons.1 h with rfl|h
  ·have:=Dm over n
   omega
  ·have:=z4D over sep h
   omega
theorem Wj(over:Nat)(sep:ByteArray){n:Nd}:∀{s:List Nd},n∈s->sz (pN qT cT n)<=sz (pS qT cT over sep s)
 |a::r,h=>by
  have e:sz (pS qT cT over sep (a::r))=sz (pP qT cT over a)+sz (pB qT cT over sep r):=by rw[pS,Xc];rfl
  rcases List.mem_cons.1 h with rfl|h
  ·have:=Dm over n
   omega
  ·have:=z4D over sep h
   omega
theorem Iq(over:Nat){n:Nd}:∀{s:List Nd},n∈s->dN n<=dS over s
 |a::r,h=>by
  rw[Uf];rcases List.mem_cons.1 h with rfl|h
  ·have:dN n<=dP over n:=by unfold dP;split<;>omega
   omega
  ·have:=Iq over h
   omega
theorem y2D{kd:Nat}{C p:Nat}{s:List Nd}(hv:Vk (.mk kd T C s p)){n:Nd}(h:n∈s):sz (pN qT cT n)<=sz (pN qT cT (.mk kd T C s p))/\dN n<=dN (.mk kd T C s p):=by
 rw[Vk]at hv;rw[pN,dN];rcases hv.1 with⟨_,_,_,rfl⟩|⟨_,_,rfl⟩|⟨_,_,rfl⟩|⟨_,_,_,rfl⟩|⟨_,_,rfl⟩|⟨h67,_,_,h2⟩|⟨h8,h12,_,_,h1⟩
 ·simp at h
 ·simp at h
 ·simp at h
 ·simp at h
 ·simp at h
 ·rcases h67 with rfl|rfl
  ·simp only[Nat.reduceEqDiff,if_false,if_true]
   exact⟨Wj 6 bSp h,Iq 6 h⟩
  ·simp only[Nat.reduceEqDiff,if_false,if_true]
   exact⟨Wj 7 bSl h,Iq 7 h⟩
 ·have hk1:¬kd=1:=by omega
  have hk2:¬kd=2:=by omega
  have hk3:¬kd=3:=by omega
  have hk4:¬kd=4:=by omega
  have hk5:¬kd=5:=by omega
  have hk6:¬kd=6:=by omega
  have hk7:¬kd=7:=by omega
  simp only[if_neg hk1,if_neg hk2,if_neg hk3,if_neg hk4,if_neg hk5,if_neg hk6,if_neg hk7];have h3:=Wj kd bE h;refine⟨?_,Iq kd h⟩;by_cases h11:kd=11∨kd=12
  ·rw[if_pos h11,sz];omega
  ·rw[if_neg h11,Xc];omega
theorem z4E{n:Nat}:∀{s:List RT} {q:List Nd},TqL s q->∀(j:Nat) (h1:j<s.length),∃h2:j<q.length,Tq s[j] q[j]
 |[],_,_,j,h1=>by simp at h1
 |_::_,[],h,_,_=>by simp[TqL]at h
 |t::r,n::q,h,0,_=>by rw[TqL]at h;exact⟨by simp,h.1⟩
 |t::r,a::q,h,j+1,h1=>by
  rw[TqL]at h;obtain⟨h2,h3⟩:=z4E (n:=n) h.2 j (by simpa using h1);exact⟨by simpa using h2,h3⟩
theorem z4F{Nm:ByteArray->Prop}:∀{s:List Nd},WfL Nm s->∀n∈s,Wf Nm n
 |[],_,n,h=>by simp at h
 |a::r,h,n,hn=>by
  rw[WfL]at h;rcases List.mem_cons.1 hn with rfl|hn
  ·exact h.1
  ·exact z4F h.2 n hn
structure Fit (l:List ByteArray) (t:RT):Prop where
 ok:okT t=true
 z:RtZ t
 txt:∃nd,Tq t nd/\Vk nd/\Wf Nmq nd/\sz (pN qT cT nd)<=8186/\dN nd<=24
 rf:∀y∈rfT t,inN y.1 l=true
theorem Wk{a b c d p:Int}{s:List RT}(h:okT (.mk 5 T a b c d s p)=true):s=[]:=by
 rw[okT,Bool.and_eq_true]at h;have:=h.1;unfold okN at this;rw[if_neg (by decide),if_neg (by decide),if_neg (by decide),if_pos rfl,Bool.and_eq_true,Bool.and_eq_true]at this;have h2:=this.2.2;simp at h2;have hs:Qp s=0:=by omega
 rw[Yj]at hs;exact List.eq_nil_of_length_eq_zero hs
theorem Fit.sub{l:List ByteArray}{k a b c d p:Int}{s:List RT}(h:Fit l (.mk k T a b c d s p))(j:Nat)(hj:j<s.length):Fit l s[j]:=by
 obtain⟨hok,hz,⟨nd,hq,hv,hw,hs,hd⟩,hr⟩:=h;obtain⟨kd,T',C,s',p'⟩:=nd;have hk5:k≠5:=fun e=>by
  subst e;have:=Wk hok;subst this;simp at hj
 rw[okT,Bool.and_eq_true]at hok;rw[RtZ]at hz;rw[Tq]at hq;obtain⟨h2,h3⟩:=z4E (n:=0) hq.2.2.2.2.2.2 j hj;have hpn:=y2D hv (List.getElem_mem h2);rw[Vk]at hv;rw[Wf]at hw;refine⟨El hok.2 j hj,hz.2.get j hj,⟨s'[j],h3,hv.2.mem _ (List.getElem_mem h2),z4F (by first|exact hw.2.2|exact hw.2.2.2|exact hw.2) _ (List.getElem_mem h2),by omega,by omega⟩,fun y hy=>hr y ?_⟩;rw[rfT,if_neg hk5];exact Wx (List.getElem_mem hj) hy
theorem z4G{x:Rl}(hx:1<=x.1.size):∀{ns:List Rl},x∈ns->sz (pN qT cT x.2.1)+6<=sz (pR qT cT ns)
 |y::r,h=>by
  have e1:bAr.size=4:=by decide
  have e2:bNl.size=1:=by decide
  rw[pR,sz,sz,Xc,sz];rcases List.mem_cons.1 h with rfl|h
  ·omega
  ·have:=z4G hx h
   omega
theorem z4H{x:Rl}:∀{ns:List Rl},x∈ns->dN x.2.1<=dR ns
 |y::r,h=>by
  rw[dR];rcases List.mem_cons.1 h with rfl|h
  ·omega
  ·have:=z4H h
   omega
theorem Wv(hp:PrG rs)(hck:ckR rs=none)(hz:RgZ rs)(hx:x∈rs):Fit (nmL rs) x.2.1:=by
 obtain⟨hok,ns,hq,hn,hs,hd⟩:=hp;obtain⟨j,hj,rfl⟩:=List.getElem_of_mem hx;have hj2:j<ns.length:=by rw[hq.len];exact hj
 have h1:=hq.get j hj hj2;have ho:=Ff hok _ (List.getElem_mem hj);obtain⟨r1,r2,r3⟩:=hn _ (List.getElem_mem hj2);have h6:=z4G (Ty r1) (List.getElem_mem hj2);have h7:=z4H (List.getElem_mem hj2);exact⟨ho.2,(hz _ (List.getElem_mem hj)).2,⟨_,h1.2,r2,r3,by omega,by omega⟩,fun y hy=>Hp (Tl hck) y (Ah.2 ⟨_,List.getElem_mem hj,hy⟩)⟩
theorem y2E{nd:Nd}(hv:Vk nd)(hw:Wf Nmq nd)(hs:sz (pN qT cT nd)<=8186)(hd:dN nd<=24):(exS nd).size≠0:=by
 have hz:sz (pR qT cT [(bA,nd,0)])<=8192:=by
  rw[pR,pR];simp only[sz,Xc];have e1:bA.size=1:=rfl;have e2:bAr.size=4:=by decide
  have e3:bNl.size=1:=by decide
  omega
 have hdr:dR [(bA,nd,0)]<=24:=by
  rw[dR,dR];simp only;omega
 unfold exS;rw[if_neg (by omega)];have h1:=Pc (pN qT cT nd);have h2:=y2p nd hv hw;omega
mutual
theorem z4I{l:List ByteArray}:∀t:RT,(∀y∈rfT t,inN y.1 l=true)->hrT l t=true
 | .mk k T a b c d s p,h=>by
   rw[hrT];rw[rfT]at h;by_cases h5:k=5
   ·rw[if_pos h5]at h ⊢
    exact h (T,p) (by simp)
   ·rw[if_neg h5]at h ⊢
    exact z4J s h
theorem z4J{l:List ByteArray}:∀s:List RT,(∀y∈rfL s,inN y.1 l=true)->hrL l s=true
 |[],_=>by rw[hrL]
 |t::r,h=>by
  rw[rfL]at h;rw[hrL,z4I t (fun y hy=>h y (List.mem_append.2 (.inl hy))),z4J r (fun y hy=>h y (List.mem_append.2 (.inr hy)))];rfl
end
theorem y2F(so:Option Addr)(n cap:Nat)(rs:List Rr)(K:ByteArray->Ot)(k:Int)(T:ByteArray)(a b c d p:Int)(so1:Option Addr)(n1 cap1:Nat)(t:RT)(B B1:Nat)(w:World)(h:Qy w B so n (bG rs K))(hB:B<=w.heap.size)(hok:okG rs=true)(hck:ckR rs=none)(hz:RgZ rs)(hT:TabIs w)(ht:Qj w B1 t (r8 k T a b c d so1 n1 cap1 p))(hB1:B1<=w.heap.size)(hf:Fit (nmL rs) t):
  ∀W:World,Below w.heap.size w W->Calls prog 170 #[.agg #[.slice so n cap],.agg (r8 k T a b c d so1 n1 cap1 p).toArray] W fun e w'=>e=.returned (.tuple #[ov (ofT K t),.nilIface])/\Below W.heap.size W w':=fun W hW=>by
 obtain⟨hokT,htz,⟨nd,hq,hv,hw,hs,hd⟩,hrf⟩:=hf;have hbz:=y2j K hz;have hbck:=y2i K hck;have hbok:=z4w K hok;obtain⟨hX,hC⟩:=y2e so n cap (bG rs K) B w hbz h hB hT (y2o K hok) hbck;have ht:=Qj.upto hB1 t _ ht;have hup:∀{W'},Below W.heap.size W W'->Below w.heap.size w W':=fun hW'=>hW.trans (hW'.mono hW.size)
 have hN:∀W':World,Below W.heap.size W W'->Calls prog 167 #[.agg #[.slice so n cap]] W' fun e w'=>e=.returned .nilIface/\Below W'.heap.size W' w':=fun W' hW'=>(z3B so n cap (bG rs K) none W' (hC.from (hup hW'))).mono fun e w' he=>by
  obtain⟨v,h1,h2,h3⟩:=he;have h2:v=.nilIface:=h2;rw[h1,h2];exact⟨rfl,h3⟩
 have hE:∀W':World,Below W.heap.size W W'->Calls prog 202 #[.agg (r8 k T a b c d so1 n1 cap1 p).toArray] W' fun e w'=>e=.returned (.string (exS nd))/\Below W'.heap.size W' w':=fun W' hW'=>
  y1Q k T a b c d p so1 n1 cap1 t nd W' (hT.below (hup hW') hT.lt) (Qj.upto (hup hW').size t _ (ht.below (hup hW'))) htz hq hv hw
 have hH:∀W':World,Below W.heap.size W W'->Calls prog 203 #[.agg #[.slice so n cap],.agg (r8 k T a b c d so1 n1 cap1 p).toArray] W' fun e w'=>e=.returned (.bool true)/\Below W'.heap.size W' w':=fun W' hW'=>by
  have:=z4h (nmL (bG rs K)) (bG rs K) rfl so n cap B _ t _ w.heap.size W' (Nat.lt_succ_self _) (ht.below (hup hW')) (hup hW').size (h.below ((hup hW').mono hB)) (Nat.le_trans hB (hup hW').size);rw[Wq,z4I t hrf]at this;exact this
 refine(y1T so n cap (bG rs K) k T a b c d so1 n1 cap1 p t W (exS nd) (y1V (y2E hv hw hs hd)) hN hE hH (fun W' hW'=>z4k so n cap (bG rs K) B W' (h.below ((hup hW').mono hB)) (Nat.le_trans hB (hup hW').size) hbz hbok hbck) (fun W' M nn m hW' hNm=>z4c M nn (itr (bG rs K) m) t _ W' w.heap.size (ht.below (hup hW')) (hup hW').size htz hokT hNm)).mono fun e w' he=> ?_
 obtain⟨m,h1,h2,h3⟩:=he;rw[y2l hck h1 t hrf]at h2;exact⟨h2,h3⟩
theorem y2G(so:Option Addr)(n cap:Nat)(k:Int)(T:ByteArray)(a b c d p:Int)(so1:Option Addr)(n1 cap1:Nat)(y:Ot)(w:World)
  (HE:Hid (∀W:World,Below w.heap.size w W->Calls prog 170 #[.agg #[.slice so n cap],.agg #[.int .i64 k,.string T,.int .u64 a,.int .u64 b,.int .u64 c,.int .u64 d,.slice so1 n1 cap1,.int .i64 p]] W fun e w'=>e=.returned (.tuple #[ov y,.nilIface])/\Below W.heap.size W w')):
  Calls prog 137 #[.agg #[.slice so n cap],.agg #[.int .i64 k,.string T,.int .u64 a,.int .u64 b,.int .u64 c,.int .u64 d,.slice so1 n1 cap1,.int .i64 p]] w fun e w'=>e=.returned (ov y)/\Below w.heap.size w w':=by
 obtain⟨y1,y2,y3⟩:=y;obtain⟨W1,hW1⟩:∃W1,W1=((w.alloc (.cells #[.slice so n cap] 24)).alloc (.cells #[.int .i64 k,.string T,.int .u64 a,.int .u64 b,.int .u64 c,.int .u64 d,.slice so1 n1 cap1,.int .i64 p] 71)).alloc (.cells #[.bool false,.bool false,.bool false] 199):=⟨_,rfl⟩;have hB1:Below w.heap.size w W1:=by rw[hW1];exact(((Below.refl _ w).alloc L0q _).alloc (by simp) _).alloc (by simp;omega) _
 have HR1:Hid (W1.heap[w.heap.size+1+1]? =some (.cells #[.bool false,.bool false,.bool false] 199)):=by rw[hW1];exact Qx _ _ (by simp)
 have HS:=hid (HE.out W1 hB1);have HB1:=hid hB1;have HW1:=hid hW1;dsimp only[ov]at HS;clear hW1 hB1 HE;go_enter func137,ntmps137
 go_wp2_with fail
 rw[<-HW1.out];refine HS.out.mono ?_;rintro e w2 ⟨rfl,hb2⟩;have HB2:=hid (HB1.out.trans (hb2.mono HB1.out.size));have hr2:=(hb2.block _ (Qq HR1.out)).trans HR1.out;obtain⟨⟨u0,u1,u2⟩,f0,f1,f2⟩:=Qd hr2;have lr:=Qq hr2;have HR2:=hid hr2;clear hb2 HS HW1 HR1 HB1 hr2
 go_wp2_with fail
 have hP:=Xl (v0:=.bool y1) (v1:=.bool y2) (v2:=.bool y3) HR2.out;have hPA:((((w2.setCell ⟨w.heap.size+1+1,0,none⟩ (.bool y1)).setCell ⟨w.heap.size+1+1,1,none⟩ (.bool y2)).setCell ⟨w.heap.size+1+1,2,none⟩ (.bool y3)).alloc (.cells #[.bool y1,.bool y2,.bool y3] 199)).heap[w.heap.size+1+1]? =some (.cells #[.bool y1,.bool y2,.bool y3] 199):=(Below.heap_alloc _ _ _ (Qq hP)).trans hP;obtain⟨⟨r0,r1,r2⟩,_⟩:=Qd hPA;refine bodyPost_ret (v:=.agg #[.bool y1,.bool y2,.bool y3]) (by simp[results,Tryz.results137,go_sem,r0,r1,r2]) rfl ?_;have hB3:=HB2.out.grown (Zp w2 (w.heap.size+1+1) (.bool y1) (.bool y2) (.bool y3)) HB2.out.size (fun g e=>by have:=Option.some.inj e;omega);exact⟨rfl,hB3.alloc hB3.size _⟩
theorem z4K(so:Option Addr)(n cap:Nat)(rs:List Rr)(K:ByteArray->Ot)(k:Int)(T:ByteArray)(a b c d p:Int)(so1:Option Addr)(n1 cap1:Nat)(t:RT)(B B1:Nat)(w:World)(h:Qy w B so n (bG rs K))(hB:B<=w.heap.size)(hok:okG rs=true)(hck:ckR rs=none)(hz:RgZ rs)(hT:TabIs w)(ht:Qj w B1 t (r8 k T a b c d so1 n1 cap1 p))(hB1:B1<=w.heap.size)(hf:Fit (nmL rs) t):
  Calls prog 137 #[.agg #[.slice so n cap],.agg #[.int .i64 k,.string T,.int .u64 a,.int .u64 b,.int .u64 c,.int .u64 d,.slice so1 n1 cap1,.int .i64 p]] w fun e w'=>e=.returned (ov (ofT K t))/\Below w.heap.size w w':=
 y2G so n cap k T a b c d p so1 n1 cap1 _ w (hid (y2F so n cap rs K k T a b c d p so1 n1 cap1 t B B1 w h hB hok hck hz hT ht hB1 hf))
end Go.Proofs.YtlogolpcipiceaaGreatDoor
