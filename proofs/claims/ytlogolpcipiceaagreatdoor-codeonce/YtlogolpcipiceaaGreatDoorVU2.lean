/- Lemmas for the last text. Conditions: those that each names. -/
import Derived.Test.YtlogolpcipiceaaGreatDoorVO18ToU1
import Derived.Test.YtlogolpcipiceaaGreatDoorVO6ToS3
import Derived.Deep.RegionHeld3
set_option linter.unusedVariables false
set_option maxRecDepth 100000
set_option maxHeartbeats 4000000
namespace Go.Proofs.YtlogolpcipiceaaGreatDoor
open Go.Proofs.Tryz
open Go.RowKit Go.Shelf
variable {w:World}
@[reducible] def ov (x:Ot):Value:=.agg #[.bool x.1,.bool x.2.1,.bool x.2.2]
theorem Eb(z s f:Bool)(w:World):Calls prog 269 #[.agg #[.bool z,.bool s,.bool f]] w fun e w'=>e=.returned (.bool (suc (z,s,f)))/\Hid (Below w.heap.size w w'):=by
 have HB:Hid (∀o:Obj,Below w.heap.size w (w.alloc o)):=fun o=>(Below.refl _ w).alloc L0q o
 cases z<;>cases s<;>(
  go_enter func269,ntmps269
  go_wp2_with fail
  go_ret;exact⟨rfl,hid (HB.out _)⟩)
theorem Zz{B:Nat}{a b c:Value}{t:TypeId}(h:w.heap[B]? =some (.cells #[a,b,c] t)):(w.cell? ⟨B,0,none⟩=some a/\w.cell? ⟨B,1,none⟩=some b/\w.cell? ⟨B,2,none⟩=some c)/\w.frozen? ⟨B,0,none⟩=false/\w.frozen? ⟨B,1,none⟩=false/\w.frozen? ⟨B,2,none⟩=false:=by
 obtain⟨x0,y0⟩:=Zc h 0 a rfl;obtain⟨x1,y1⟩:=Zc h 1 b rfl;obtain⟨x2,y2⟩:=Zc h 2 c rfl;exact⟨⟨x0,x1,x2⟩,y0,y1,y2⟩
theorem z3n{W W':World}{y0 y1 y2:Value}(h:Hid (Below w.heap.size w W)/\W.cell? ⟨w.heap.size,0,none⟩=some y0/\W.cell? ⟨w.heap.size,1,none⟩=some y1/\W.cell? ⟨w.heap.size,2,none⟩=some y2)(hb:Below W.heap.size W W'):Hid (Below w.heap.size w W')/\W'.cell? ⟨w.heap.size,0,none⟩=some y0/\W'.cell? ⟨w.heap.size,1,none⟩=some y1/\W'.cell? ⟨w.heap.size,2,none⟩=some y2:=by
 obtain⟨z,z0,z1,z2⟩:=h;have hl:w.heap.size<W.heap.size:=World.block_lt_of_cell? W ⟨w.heap.size,0,none⟩ z0;have e:∀j,W'.cell? ⟨w.heap.size,j,none⟩=W.cell? ⟨w.heap.size,j,none⟩:=fun j=>hb.cell (p:=⟨w.heap.size,j,none⟩) hl
 exact⟨hid (z.out.trans (hb.mono z.out.size)),(e _).trans z0,(e _).trans z1,(e _).trans z2⟩
theorem z3o{W W':World}{y0 y1 y2:Value}(h:Hid (Below w.heap.size w W)/\W.cell? ⟨w.heap.size,0,none⟩=some y0/\W.cell? ⟨w.heap.size,1,none⟩=some y1/\W.cell? ⟨w.heap.size,2,none⟩=some y2)(hb:W.grownBy W' (some (w.heap.size+1+1))):Hid (Below w.heap.size w W')/\W'.cell? ⟨w.heap.size,0,none⟩=some y0/\W'.cell? ⟨w.heap.size,1,none⟩=some y1/\W'.cell? ⟨w.heap.size,2,none⟩=some y2:=by
 obtain⟨z,z0,z1,z2⟩:=h;have e:∀j,W'.cell? ⟨w.heap.size,j,none⟩=W.cell? ⟨w.heap.size,j,none⟩:=fun j=>World.cell?_of_block (hb.block w.heap.size (World.block_lt_of_cell? W ⟨w.heap.size,0,none⟩ z0) (fun e=>by have:=Option.some.inj e;omega))
 exact⟨hid (z.out.grown hb z.out.size (fun g e=>by have:=Option.some.inj e;omega)),(e _).trans z0,(e _).trans z1,(e _).trans z2⟩
theorem Xj(W:World)(R:Nat)(v0 v1 v2:Value):W.grownBy (((W.setCell ⟨R,0,none⟩ v0).setCell ⟨R,1,none⟩ v1).setCell ⟨R,2,none⟩ v2) (some R):=G.setR (G.setR (G.setR (G.refl _ _)))
theorem y0f(z s f:Bool)(w:World):Calls prog 238 #[.int .i64 8,.agg #[.bool z,.bool s,.bool f]] w fun e w'=>e=.returned (ov (Xg 8 (z,s,f)))/\Hid (Below w.heap.size w w'):=by
 have HB:Hid (∀o1 o2 o3:Obj,Below w.heap.size w (((w.alloc o1).alloc o2).alloc o3)):=fun o1 o2 o3=>(((Below.refl _ w).alloc L0q o1).alloc (by simp) o2).alloc (by simp;omega) o3
 match z,s,f with
 |true,true,true=>
  go_enter func238,ntmps238
  go_wp2_with fail
  refine bodyPost_ret (v:=.agg #[.bool true,.bool true,.bool false]) (by simp[results,Tryz.results238,go_sem]) rfl ?_;exact⟨rfl,hid (HB.out _ _ _)⟩
 |true,true,false=>
  go_enter func238,ntmps238
  go_wp2_with fail
  refine bodyPost_ret (v:=.agg #[.bool true,.bool true,.bool false]) (by simp[results,Tryz.results238,go_sem]) rfl ?_;exact⟨rfl,hid (HB.out _ _ _)⟩
 |true,false,true=>
  go_enter func238,ntmps238
  go_wp2_with fail
  refine bodyPost_ret (v:=.agg #[.bool true,.bool false,.bool false]) (by simp[results,Tryz.results238,go_sem]) rfl ?_;exact⟨rfl,hid (HB.out _ _ _)⟩
 |true,false,false=>
  go_enter func238,ntmps238
  go_wp2_with fail
  refine bodyPost_ret (v:=.agg #[.bool true,.bool false,.bool false]) (by simp[results,Tryz.results238,go_sem]) rfl ?_;exact⟨rfl,hid (HB.out _ _ _)⟩
 |false,true,true=>
  go_enter func238,ntmps238
  go_wp2_with fail
  refine bodyPost_ret (v:=.agg #[.bool true,.bool true,.bool false]) (by simp[results,Tryz.results238,go_sem]) rfl ?_;exact⟨rfl,hid (HB.out _ _ _)⟩
 |false,true,false=>
  go_enter func238,ntmps238
  go_wp2_with fail
  refine bodyPost_ret (v:=.agg #[.bool false,.bool true,.bool false]) (by simp[results,Tryz.results238,go_sem]) rfl ?_;exact⟨rfl,hid (HB.out _ _ _)⟩
 |false,false,true=>
  go_enter func238,ntmps238
  go_wp2_with fail
  refine bodyPost_ret (v:=.agg #[.bool true,.bool false,.bool false]) (by simp[results,Tryz.results238,go_sem]) rfl ?_;exact⟨rfl,hid (HB.out _ _ _)⟩
 |false,false,false=>
  go_enter func238,ntmps238
  go_wp2_with fail
  refine bodyPost_ret (v:=.agg #[.bool false,.bool false,.bool false]) (by simp[results,Tryz.results238,go_sem]) rfl ?_;exact⟨rfl,hid (HB.out _ _ _)⟩
theorem y0g(z s f:Bool)(w:World):Calls prog 238 #[.int .i64 9,.agg #[.bool z,.bool s,.bool f]] w fun e w'=>e=.returned (ov (Xg 9 (z,s,f)))/\Hid (Below w.heap.size w w'):=by
 have HB:Hid (∀o1 o2 o3:Obj,Below w.heap.size w (((w.alloc o1).alloc o2).alloc o3)):=fun o1 o2 o3=>(((Below.refl _ w).alloc L0q o1).alloc (by simp) o2).alloc (by simp;omega) o3
 match z,s,f with
 |true,true,true=>
  go_enter func238,ntmps238
  go_wp2_with fail
  refine bodyPost_ret (v:=.agg #[.bool true,.bool true,.bool false]) (by simp[results,Tryz.results238,go_sem]) rfl ?_;exact⟨rfl,hid (HB.out _ _ _)⟩
 |true,true,false=>
  go_enter func238,ntmps238
  go_wp2_with fail
  refine bodyPost_ret (v:=.agg #[.bool false,.bool true,.bool false]) (by simp[results,Tryz.results238,go_sem]) rfl ?_;exact⟨rfl,hid (HB.out _ _ _)⟩
 |true,false,true=>
  go_enter func238,ntmps238
  go_wp2_with fail
  refine bodyPost_ret (v:=.agg #[.bool true,.bool false,.bool false]) (by simp[results,Tryz.results238,go_sem]) rfl ?_;exact⟨rfl,hid (HB.out _ _ _)⟩
 |true,false,false=>
  go_enter func238,ntmps238
  go_wp2_with fail
  refine bodyPost_ret (v:=.agg #[.bool false,.bool false,.bool false]) (by simp[results,Tryz.results238,go_sem]) rfl ?_;exact⟨rfl,hid (HB.out _ _ _)⟩
 |false,true,true=>
  go_enter func238,ntmps238
  go_wp2_with fail
  refine bodyPost_ret (v:=.agg #[.bool true,.bool true,.bool false]) (by simp[results,Tryz.results238,go_sem]) rfl ?_;exact⟨rfl,hid (HB.out _ _ _)⟩
 |false,true,false=>
  go_enter func238,ntmps238
  go_wp2_with fail
  refine bodyPost_ret (v:=.agg #[.bool false,.bool true,.bool false]) (by simp[results,Tryz.results238,go_sem]) rfl ?_;exact⟨rfl,hid (HB.out _ _ _)⟩
 |false,false,true=>
  go_enter func238,ntmps238
  go_wp2_with fail
  refine bodyPost_ret (v:=.agg #[.bool true,.bool false,.bool false]) (by simp[results,Tryz.results238,go_sem]) rfl ?_;exact⟨rfl,hid (HB.out _ _ _)⟩
 |false,false,false=>
  go_enter func238,ntmps238
  go_wp2_with fail
  refine bodyPost_ret (v:=.agg #[.bool false,.bool false,.bool false]) (by simp[results,Tryz.results238,go_sem]) rfl ?_;exact⟨rfl,hid (HB.out _ _ _)⟩
theorem y0h(z s f:Bool)(w:World):Calls prog 238 #[.int .i64 10,.agg #[.bool z,.bool s,.bool f]] w fun e w'=>e=.returned (ov (Xg 10 (z,s,f)))/\Hid (Below w.heap.size w w'):=by
 have HB:Hid (∀o1 o2 o3:Obj,Below w.heap.size w (((w.alloc o1).alloc o2).alloc o3)):=fun o1 o2 o3=>(((Below.refl _ w).alloc L0q o1).alloc (by simp) o2).alloc (by simp;omega) o3
 match z,s,f with
 |true,true,true=>
  go_enter func238,ntmps238
  go_wp2_with fail
  refine bodyPost_ret (v:=.agg #[.bool true,.bool true,.bool true]) (by simp[results,Tryz.results238,go_sem]) rfl ?_;exact⟨rfl,hid (HB.out _ _ _)⟩
 |true,true,false=>
  go_enter func238,ntmps238
  go_wp2_with fail
  refine bodyPost_ret (v:=.agg #[.bool false,.bool true,.bool false]) (by simp[results,Tryz.results238,go_sem]) rfl ?_;exact⟨rfl,hid (HB.out _ _ _)⟩
 |true,false,true=>
  go_enter func238,ntmps238
  go_wp2_with fail
  refine bodyPost_ret (v:=.agg #[.bool true,.bool false,.bool true]) (by simp[results,Tryz.results238,go_sem]) rfl ?_;exact⟨rfl,hid (HB.out _ _ _)⟩
 |true,false,false=>
  go_enter func238,ntmps238
  go_wp2_with fail
  refine bodyPost_ret (v:=.agg #[.bool false,.bool false,.bool false]) (by simp[results,Tryz.results238,go_sem]) rfl ?_;exact⟨rfl,hid (HB.out _ _ _)⟩
 |false,true,true=>
  go_enter func238,ntmps238
  go_wp2_with fail
  refine bodyPost_ret (v:=.agg #[.bool false,.bool true,.bool true]) (by simp[results,Tryz.results238,go_sem]) rfl ?_;exact⟨rfl,hid (HB.out _ _ _)⟩
 |false,true,false=>
  go_enter func238,ntmps238
  go_wp2_with fail
  refine bodyPost_ret (v:=.agg #[.bool false,.bool true,.bool false]) (by simp[results,Tryz.results238,go_sem]) rfl ?_;exact⟨rfl,hid (HB.out _ _ _)⟩
 |false,false,true=>
  go_enter func238,ntmps238
  go_wp2_with fail
  refine bodyPost_ret (v:=.agg #[.bool false,.bool false,.bool true]) (by simp[results,Tryz.results238,go_sem]) rfl ?_;exact⟨rfl,hid (HB.out _ _ _)⟩
 |false,false,false=>
  go_enter func238,ntmps238
  go_wp2_with fail
  refine bodyPost_ret (v:=.agg #[.bool false,.bool false,.bool false]) (by simp[results,Tryz.results238,go_sem]) rfl ?_;exact⟨rfl,hid (HB.out _ _ _)⟩
theorem y0i(z s f:Bool)(w:World):Calls prog 238 #[.int .i64 11,.agg #[.bool z,.bool s,.bool f]] w fun e w'=>e=.returned (ov (Xg 11 (z,s,f)))/\Hid (Below w.heap.size w w'):=by
 obtain⟨W0,hW0⟩:∃W0,W0=((w.alloc (.cells #[.bool z,.bool s,.bool f] 199)).alloc (.cells #[.bool false,.bool false,.bool false] 199)).alloc (.cells #[.bool false,.bool false,.bool false] 199):=⟨_,rfl⟩;have HB0:Hid (Below w.heap.size w W0):=by rw[hW0];exact(((Below.refl _ w).alloc L0q _).alloc (by simp) _).alloc (by simp;omega) _
 have hT0:W0.heap[w.heap.size]? =some (.cells #[.bool z,.bool s,.bool f] 199):=by rw[hW0];exact(Below.heap_alloc _ _ _ (by simp;omega)).trans ((Below.heap_alloc _ _ _ (by simp)).trans (Qx w _ rfl))
 have HR0:Hid (W0.heap[w.heap.size+1]? =some (.cells #[.bool false,.bool false,.bool false] 199)):=by rw[hW0];exact(Below.heap_alloc _ _ _ (by simp)).trans (Qx _ _ (by simp))
 have HZ0:Hid (W0.heap[w.heap.size+1+1]? =some (.cells #[.bool false,.bool false,.bool false] 199)):=by rw[hW0];exact Qx _ _ (by simp)
 obtain⟨⟨t0,t1,t2⟩,_⟩:=Zz hT0;have S2:(fun W:World=>Hid (Below w.heap.size w W)/\W.cell? ⟨w.heap.size,0,none⟩=some (.bool z)/\W.cell? ⟨w.heap.size,1,none⟩=some (.bool s)/\W.cell? ⟨w.heap.size,2,none⟩=some (.bool f)) W0.drew:=⟨hid HB0.out.drew,t0,t1,t2⟩;have lt0:=Qz hT0;have lz0:=Qz HZ0.out;have lr0:=Qz HR0.out;have HS:=hid (fun W:World=>Eb z s f W);clear hT0;go_enter func238,ntmps238
 go_wp2_with fail
 rw[<-hW0];clear hW0
 go_region_held3 (fun W:World=>Hid (Below w.heap.size w W)/\W.cell? ⟨w.heap.size,0,none⟩=some (.bool z)/\W.cell? ⟨w.heap.size,1,none⟩=some (.bool s)/\W.cell? ⟨w.heap.size,2,none⟩=some (.bool f)) (first|(with_reducible assumption)|(with_reducible exact z3n (by assumption) (by assumption))|(with_reducible exact z3o (by assumption) (Xj _ _ _ _ _))) (first
  |(go_at_call 269;refine(HS.out _).mono ?_;rintro e w4 ⟨rfl,HB4⟩;have hb4:=HB4.out;have HZ4:=hid ((hb4.block (w.heap.size+1+1) lz0).trans HZ0.out);have HR4:=hid ((hb4.block (w.heap.size+1) lr0).trans HR0.out);obtain⟨⟨z0,z1,z2⟩,f0,f1,f2⟩:=Zz HZ4.out;have lz:=Qz HZ4.out))
 obtain⟨X3,hX3⟩:∃X3,X3=((w4.setCell ⟨w.heap.size+1+1,0,none⟩ (.bool (suc (z,s,f)))).setCell ⟨w.heap.size+1+1,1,none⟩ (.bool false)).setCell ⟨w.heap.size+1+1,2,none⟩ (.bool f):=⟨_,rfl⟩;have bX3:X3.heap[w.heap.size+1+1]? =some (.cells #[.bool (suc (z,s,f)),.bool false,.bool f] 199):=by rw[hX3];exact Qb (Qb (Qb HZ4.out 0 _) 1 _) 2 _
 have gX3:w4.grownBy X3 (some (w.heap.size+1+1)):=by rw[hX3];exact Xj _ _ _ _ _
 have rX3:X3.heap[w.heap.size+1]? =some (.cells #[.bool false,.bool false,.bool false] 199):=(gX3.block _ (Qz HR4.out) (fun e=>by have:=Option.some.inj e;omega)).trans HR4.out;rw[<-hX3];obtain⟨Y3,hY3⟩:∃Y3,Y3=((X3.setCell ⟨w.heap.size+1,0,none⟩ (.bool (suc (z,s,f)))).setCell ⟨w.heap.size+1,1,none⟩ (.bool false)).setCell ⟨w.heap.size+1,2,none⟩ (.bool f):=⟨_,rfl⟩;have bY3:Y3.heap[w.heap.size+1]? =some (.cells #[.bool (suc (z,s,f)),.bool false,.bool f] 199):=by rw[hY3];exact Qb (Qb (Qb rX3 0 _) 1 _) 2 _
 have gY3:X3.grownBy Y3 (some (w.heap.size+1)):=by rw[hY3];exact Xj _ _ _ _ _
 have hB4:Below w.heap.size w w4:=HB0.out.drew.trans (hb4.mono HB0.out.drew.size);have hBX:Below w.heap.size w X3:=hB4.grown gX3 hB4.size (fun g e=>by have:=Option.some.inj e;omega);have HBY:=hid (hBX.grown gY3 hBX.size (fun g e=>by have:=Option.some.inj e;omega));obtain⟨⟨u0,u1,u2⟩,_⟩:=Zz bX3;obtain⟨⟨r0,r1,r2⟩,q0,q1,q2⟩:=Zz rX3;obtain⟨⟨e0,e1,e2⟩,_⟩:=Zz bY3;have lx:=Qz bX3;have ly:=Qz rX3;have HY3:=hid hY3;clear hX3 hY3 bX3 gX3 rX3 bY3 gY3 hB4 hBX HZ4 HR4 HB4 hb4 z0 z1 z2 f0 f1 f2 S2 t0 t1 t2 HS
 go_wp2_with fail
 rw[<-HY3.out];refine bodyPost_ret (v:=.agg #[.bool (suc (z,s,f)),.bool false,.bool f]) (by simp[results,Tryz.results238,go_sem,e0,e1,e2]) rfl ?_;exact⟨rfl,HBY⟩
theorem y0j(z s f:Bool)(w:World):Calls prog 238 #[.int .i64 12,.agg #[.bool z,.bool s,.bool f]] w fun e w'=>e=.returned (ov (Xg 12 (z,s,f)))/\Hid (Below w.heap.size w w'):=by
 obtain⟨W0,hW0⟩:∃W0,W0=((w.alloc (.cells #[.bool z,.bool s,.bool f] 199)).alloc (.cells #[.bool false,.bool false,.bool false] 199)).alloc (.cells #[.bool false,.bool false,.bool false] 199):=⟨_,rfl⟩;have HB0:Hid (Below w.heap.size w W0):=by rw[hW0];exact(((Below.refl _ w).alloc L0q _).alloc (by simp) _).alloc (by simp;omega) _
 have hT0:W0.heap[w.heap.size]? =some (.cells #[.bool z,.bool s,.bool f] 199):=by rw[hW0];exact(Below.heap_alloc _ _ _ (by simp;omega)).trans ((Below.heap_alloc _ _ _ (by simp)).trans (Qx w _ rfl))
 have HR0:Hid (W0.heap[w.heap.size+1]? =some (.cells #[.bool false,.bool false,.bool false] 199)):=by rw[hW0];exact(Below.heap_alloc _ _ _ (by simp)).trans (Qx _ _ (by simp))
 have HZ0:Hid (W0.heap[w.heap.size+1+1]? =some (.cells #[.bool false,.bool false,.bool false] 199)):=by rw[hW0];exact Qx _ _ (by simp)
 obtain⟨⟨t0,t1,t2⟩,_⟩:=Zz hT0;have S2:(fun W:World=>Hid (Below w.heap.size w W)/\W.cell? ⟨w.heap.size,0,none⟩=some (.bool z)/\W.cell? ⟨w.heap.size,1,none⟩=some (.bool s)/\W.cell? ⟨w.heap.size,2,none⟩=some (.bool f)) W0.drew:=⟨hid HB0.out.drew,t0,t1,t2⟩;have lt0:=Qz hT0;have lz0:=Qz HZ0.out;have lr0:=Qz HR0.out;have HS:=hid (fun W:World=>Eb z s f W);clear hT0;go_enter func238,ntmps238
 go_wp2_with fail
 rw[<-hW0];clear hW0
 go_region_held3 (fun W:World=>Hid (Below w.heap.size w W)/\W.cell? ⟨w.heap.size,0,none⟩=some (.bool z)/\W.cell? ⟨w.heap.size,1,none⟩=some (.bool s)/\W.cell? ⟨w.heap.size,2,none⟩=some (.bool f)) (first|(with_reducible assumption)|(with_reducible exact z3n (by assumption) (by assumption))|(with_reducible exact z3o (by assumption) (Xj _ _ _ _ _))) (first
  |(go_at_call 269;refine(HS.out _).mono ?_;rintro e w4 ⟨rfl,HB4⟩;have hb4:=HB4.out;have HZ4:=hid ((hb4.block (w.heap.size+1+1) lz0).trans HZ0.out);have HR4:=hid ((hb4.block (w.heap.size+1) lr0).trans HR0.out);obtain⟨⟨z0,z1,z2⟩,f0,f1,f2⟩:=Zz HZ4.out;have lz:=Qz HZ4.out))
 obtain⟨X3,hX3⟩:∃X3,X3=((w4.setCell ⟨w.heap.size+1+1,0,none⟩ (.bool f)).setCell ⟨w.heap.size+1+1,1,none⟩ (.bool false)).setCell ⟨w.heap.size+1+1,2,none⟩ (.bool (suc (z,s,f))):=⟨_,rfl⟩;have bX3:X3.heap[w.heap.size+1+1]? =some (.cells #[.bool f,.bool false,.bool (suc (z,s,f))] 199):=by rw[hX3];exact Qb (Qb (Qb HZ4.out 0 _) 1 _) 2 _
 have gX3:w4.grownBy X3 (some (w.heap.size+1+1)):=by rw[hX3];exact Xj _ _ _ _ _
 have rX3:X3.heap[w.heap.size+1]? =some (.cells #[.bool false,.bool false,.bool false] 199):=(gX3.block _ (Qz HR4.out) (fun e=>by have:=Option.some.inj e;omega)).trans HR4.out;rw[<-hX3];obtain⟨Y3,hY3⟩:∃Y3,Y3=((X3.setCell ⟨w.heap.size+1,0,none⟩ (.bool f)).setCell ⟨w.heap.size+1,1,none⟩ (.bool false)).setCell ⟨w.heap.size+1,2,none⟩ (.bool (suc (z,s,f))):=⟨_,rfl⟩;have bY3:Y3.heap[w.heap.size+1]? =some (.cells #[.bool f,.bool false,.bool (suc (z,s,f))] 199):=by rw[hY3];exact Qb (Qb (Qb rX3 0 _) 1 _) 2 _
 have gY3:X3.grownBy Y3 (some (w.heap.size+1)):=by rw[hY3];exact Xj _ _ _ _ _
 have hB4:Below w.heap.size w w4:=HB0.out.drew.trans (hb4.mono HB0.out.drew.size);have hBX:Below w.heap.size w X3:=hB4.grown gX3 hB4.size (fun g e=>by have:=Option.some.inj e;omega);have HBY:=hid (hBX.grown gY3 hBX.size (fun g e=>by have:=Option.some.inj e;omega));obtain⟨⟨u0,u1,u2⟩,_⟩:=Zz bX3;obtain⟨⟨r0,r1,r2⟩,q0,q1,q2⟩:=Zz rX3;obtain⟨⟨e0,e1,e2⟩,_⟩:=Zz bY3;have lx:=Qz bX3;have ly:=Qz rX3;have HY3:=hid hY3;clear hX3 hY3 bX3 gX3 rX3 bY3 gY3 hB4 hBX HZ4 HR4 HB4 hb4 z0 z1 z2 f0 f1 f2 S2 t0 t1 t2 HS
 go_wp2_with fail
 rw[<-HY3.out];refine bodyPost_ret (v:=.agg #[.bool f,.bool false,.bool (suc (z,s,f))]) (by simp[results,Tryz.results238,go_sem,e0,e1,e2]) rfl ?_;exact⟨rfl,HBY⟩
end Go.Proofs.YtlogolpcipiceaaGreatDoor
