/- Lemmas for the last text. Conditions: those that each names. -/
import Derived.Test.YtgmcjddjdidpjabGreatDoorVS1ToO1
import Derived.Deep.RegionHeld3
import Derived.Test.YtgmcjddjdidpjabGreatDoorVO2ToRL
set_option linter.unusedVariables false
set_option maxRecDepth 100000
set_option maxHeartbeats 4000000
namespace Go.Proofs.YtgmcjddjdidpjabGreatDoor
open Go.Proofs.Tryz
open Go.RowKit Go.Shelf
variable {W W' w:World} {B n:Nat}
@[reducible] def ov (x:Ot):Value:=.agg #[.bool x.1,.bool x.2.1,.bool x.2.2]
theorem Iq(z s f:Bool)(w:World):Calls prog 169 #[.agg #[.bool z,.bool s,.bool f]] w fun e w'=>e=.returned (.bool (suc (z,s,f)))/\Hid (Below w.heap.size w w'):=by
 have HB:Hid (∀o:Obj,Below w.heap.size w (w.alloc o)):=fun o=>(Below.refl _ w).alloc L0q o
 cases z<;>cases s<;>(
  go_enter func169,ntmps169
  go_wp2_with fail
  go_ret;exact⟨rfl,hid (HB.out _)⟩)
theorem Qh{a b c:Value}{t:TypeId}(h:w.heap[B]? =some (.cells #[a,b,c] t)):(w.cell? ⟨B,0,none⟩=some a/\w.cell? ⟨B,1,none⟩=some b/\w.cell? ⟨B,2,none⟩=some c)/\w.frozen? ⟨B,0,none⟩=false/\w.frozen? ⟨B,1,none⟩=false/\w.frozen? ⟨B,2,none⟩=false:=by
 obtain⟨x0,y0⟩:=Ql h 0 a rfl;obtain⟨x1,y1⟩:=Ql h 1 b rfl;obtain⟨x2,y2⟩:=Ql h 2 c rfl;exact⟨⟨x0,x1,x2⟩,y0,y1,y2⟩
theorem z4d{y0 y1 y2:Value}(h:Hid (Below w.heap.size w W)/\W.cell? ⟨w.heap.size,0,none⟩=some y0/\W.cell? ⟨w.heap.size,1,none⟩=some y1/\W.cell? ⟨w.heap.size,2,none⟩=some y2)(hb:Below W.heap.size W W'):Hid (Below w.heap.size w W')/\W'.cell? ⟨w.heap.size,0,none⟩=some y0/\W'.cell? ⟨w.heap.size,1,none⟩=some y1/\W'.cell? ⟨w.heap.size,2,none⟩=some y2:=by
 obtain⟨z,z0,z1,z2⟩:=h;have hl:w.heap.size<W.heap.size:=World.block_lt_of_cell? W ⟨w.heap.size,0,none⟩ z0;have e:∀j,W'.cell? ⟨w.heap.size,j,none⟩=W.cell? ⟨w.heap.size,j,none⟩:=fun j=>hb.cell (p:=⟨w.heap.size,j,none⟩) hl
 exact⟨hid (z.out.trans (hb.mono z.out.size)),(e _).trans z0,(e _).trans z1,(e _).trans z2⟩
theorem z4e{y0 y1 y2:Value}(h:Hid (Below w.heap.size w W)/\W.cell? ⟨w.heap.size,0,none⟩=some y0/\W.cell? ⟨w.heap.size,1,none⟩=some y1/\W.cell? ⟨w.heap.size,2,none⟩=some y2)(hb:W.grownBy W' (some (w.heap.size+1+1))):Hid (Below w.heap.size w W')/\W'.cell? ⟨w.heap.size,0,none⟩=some y0/\W'.cell? ⟨w.heap.size,1,none⟩=some y1/\W'.cell? ⟨w.heap.size,2,none⟩=some y2:=by
 obtain⟨z,z0,z1,z2⟩:=h;have e:∀j,W'.cell? ⟨w.heap.size,j,none⟩=W.cell? ⟨w.heap.size,j,none⟩:=fun j=>World.cell?_of_block (hb.block w.heap.size (World.block_lt_of_cell? W ⟨w.heap.size,0,none⟩ z0) (fun e=>by have:=Option.some.inj e;omega))
 exact⟨hid (z.out.grown hb z.out.size (fun g e=>by have:=Option.some.inj e;omega)),(e _).trans z0,(e _).trans z1,(e _).trans z2⟩
theorem Xz(W:World)(R:Nat)(v0 v1 v2:Value):W.grownBy (((W.setCell ⟨R,0,none⟩ v0).setCell ⟨R,1,none⟩ v1).setCell ⟨R,2,none⟩ v2) (some R):=G.setR (G.setR (G.setR (G.refl _ _)))
theorem y1t(z s f:Bool)(w:World):Calls prog 155 #[.int .i64 8,.agg #[.bool z,.bool s,.bool f]] w fun e w'=>e=.returned (ov (Xd 8 (z,s,f)))/\Hid (Below w.heap.size w w'):=by
 have HB:Hid (∀o1 o2 o3:Obj,Below w.heap.size w (((w.alloc o1).alloc o2).alloc o3)):=fun o1 o2 o3=>(((Below.refl _ w).alloc L0q o1).alloc (by simp) o2).alloc (by simp;omega) o3
 match z,s,f with
 |true,true,true=>
  go_enter func155,ntmps155
  go_wp2_with fail
  refine bodyPost_ret (v:=.agg #[.bool true,.bool true,.bool false]) (by simp[results,Tryz.results155,go_sem]) rfl ?_;exact⟨rfl,hid (HB.out _ _ _)⟩
 |true,true,false=>
  go_enter func155,ntmps155
  go_wp2_with fail
  refine bodyPost_ret (v:=.agg #[.bool true,.bool true,.bool false]) (by simp[results,Tryz.results155,go_sem]) rfl ?_;exact⟨rfl,hid (HB.out _ _ _)⟩
 |true,false,true=>
  go_enter func155,ntmps155
  go_wp2_with fail
  refine bodyPost_ret (v:=.agg #[.bool true,.bool false,.bool false]) (by simp[results,Tryz.results155,go_sem]) rfl ?_;exact⟨rfl,hid (HB.out _ _ _)⟩
 |true,false,false=>
  go_enter func155,ntmps155
  go_wp2_with fail
  refine bodyPost_ret (v:=.agg #[.bool true,.bool false,.bool false]) (by simp[results,Tryz.results155,go_sem]) rfl ?_;exact⟨rfl,hid (HB.out _ _ _)⟩
 |false,true,true=>
  go_enter func155,ntmps155
  go_wp2_with fail
  refine bodyPost_ret (v:=.agg #[.bool true,.bool true,.bool false]) (by simp[results,Tryz.results155,go_sem]) rfl ?_;exact⟨rfl,hid (HB.out _ _ _)⟩
 |false,true,false=>
  go_enter func155,ntmps155
  go_wp2_with fail
  refine bodyPost_ret (v:=.agg #[.bool false,.bool true,.bool false]) (by simp[results,Tryz.results155,go_sem]) rfl ?_;exact⟨rfl,hid (HB.out _ _ _)⟩
 |false,false,true=>
  go_enter func155,ntmps155
  go_wp2_with fail
  refine bodyPost_ret (v:=.agg #[.bool true,.bool false,.bool false]) (by simp[results,Tryz.results155,go_sem]) rfl ?_;exact⟨rfl,hid (HB.out _ _ _)⟩
 |false,false,false=>
  go_enter func155,ntmps155
  go_wp2_with fail
  refine bodyPost_ret (v:=.agg #[.bool false,.bool false,.bool false]) (by simp[results,Tryz.results155,go_sem]) rfl ?_;exact⟨rfl,hid (HB.out _ _ _)⟩
theorem y1u(z s f:Bool)(w:World):Calls prog 155 #[.int .i64 9,.agg #[.bool z,.bool s,.bool f]] w fun e w'=>e=.returned (ov (Xd 9 (z,s,f)))/\Hid (Below w.heap.size w w'):=by
 have HB:Hid (∀o1 o2 o3:Obj,Below w.heap.size w (((w.alloc o1).alloc o2).alloc o3)):=fun o1 o2 o3=>(((Below.refl _ w).alloc L0q o1).alloc (by simp) o2).alloc (by simp;omega) o3
 match z,s,f with
 |true,true,true=>
  go_enter func155,ntmps155
  go_wp2_with fail
  refine bodyPost_ret (v:=.agg #[.bool true,.bool true,.bool false]) (by simp[results,Tryz.results155,go_sem]) rfl ?_;exact⟨rfl,hid (HB.out _ _ _)⟩
 |true,true,false=>
  go_enter func155,ntmps155
  go_wp2_with fail
  refine bodyPost_ret (v:=.agg #[.bool false,.bool true,.bool false]) (by simp[results,Tryz.results155,go_sem]) rfl ?_;exact⟨rfl,hid (HB.out _ _ _)⟩
 |true,false,true=>
  go_enter func155,ntmps155
  go_wp2_with fail
  refine bodyPost_ret (v:=.agg #[.bool true,.bool false,.bool false]) (by simp[results,Tryz.results155,go_sem]) rfl ?_;exact⟨rfl,hid (HB.out _ _ _)⟩
 |true,false,false=>
  go_enter func155,ntmps155
  go_wp2_with fail
  refine bodyPost_ret (v:=.agg #[.bool false,.bool false,.bool false]) (by simp[results,Tryz.results155,go_sem]) rfl ?_;exact⟨rfl,hid (HB.out _ _ _)⟩
 |false,true,true=>
  go_enter func155,ntmps155
  go_wp2_with fail
  refine bodyPost_ret (v:=.agg #[.bool true,.bool true,.bool false]) (by simp[results,Tryz.results155,go_sem]) rfl ?_;exact⟨rfl,hid (HB.out _ _ _)⟩
 |false,true,false=>
  go_enter func155,ntmps155
  go_wp2_with fail
  refine bodyPost_ret (v:=.agg #[.bool false,.bool true,.bool false]) (by simp[results,Tryz.results155,go_sem]) rfl ?_;exact⟨rfl,hid (HB.out _ _ _)⟩
 |false,false,true=>
  go_enter func155,ntmps155
  go_wp2_with fail
  refine bodyPost_ret (v:=.agg #[.bool true,.bool false,.bool false]) (by simp[results,Tryz.results155,go_sem]) rfl ?_;exact⟨rfl,hid (HB.out _ _ _)⟩
 |false,false,false=>
  go_enter func155,ntmps155
  go_wp2_with fail
  refine bodyPost_ret (v:=.agg #[.bool false,.bool false,.bool false]) (by simp[results,Tryz.results155,go_sem]) rfl ?_;exact⟨rfl,hid (HB.out _ _ _)⟩
theorem y1v(z s f:Bool)(w:World):Calls prog 155 #[.int .i64 10,.agg #[.bool z,.bool s,.bool f]] w fun e w'=>e=.returned (ov (Xd 10 (z,s,f)))/\Hid (Below w.heap.size w w'):=by
 have HB:Hid (∀o1 o2 o3:Obj,Below w.heap.size w (((w.alloc o1).alloc o2).alloc o3)):=fun o1 o2 o3=>(((Below.refl _ w).alloc L0q o1).alloc (by simp) o2).alloc (by simp;omega) o3
 match z,s,f with
 |true,true,true=>
  go_enter func155,ntmps155
  go_wp2_with fail
  refine bodyPost_ret (v:=.agg #[.bool true,.bool true,.bool true]) (by simp[results,Tryz.results155,go_sem]) rfl ?_;exact⟨rfl,hid (HB.out _ _ _)⟩
 |true,true,false=>
  go_enter func155,ntmps155
  go_wp2_with fail
  refine bodyPost_ret (v:=.agg #[.bool false,.bool true,.bool false]) (by simp[results,Tryz.results155,go_sem]) rfl ?_;exact⟨rfl,hid (HB.out _ _ _)⟩
 |true,false,true=>
  go_enter func155,ntmps155
  go_wp2_with fail
  refine bodyPost_ret (v:=.agg #[.bool true,.bool false,.bool true]) (by simp[results,Tryz.results155,go_sem]) rfl ?_;exact⟨rfl,hid (HB.out _ _ _)⟩
 |true,false,false=>
  go_enter func155,ntmps155
  go_wp2_with fail
  refine bodyPost_ret (v:=.agg #[.bool false,.bool false,.bool false]) (by simp[results,Tryz.results155,go_sem]) rfl ?_;exact⟨rfl,hid (HB.out _ _ _)⟩
 |false,true,true=>
  go_enter func155,ntmps155
  go_wp2_with fail
  refine bodyPost_ret (v:=.agg #[.bool false,.bool true,.bool true]) (by simp[results,Tryz.results155,go_sem]) rfl ?_;exact⟨rfl,hid (HB.out _ _ _)⟩
 |false,true,false=>
  go_enter func155,ntmps155
  go_wp2_with fail
  refine bodyPost_ret (v:=.agg #[.bool false,.bool true,.bool false]) (by simp[results,Tryz.results155,go_sem]) rfl ?_;exact⟨rfl,hid (HB.out _ _ _)⟩
 |false,false,true=>
  go_enter func155,ntmps155
  go_wp2_with fail
  refine bodyPost_ret (v:=.agg #[.bool false,.bool false,.bool true]) (by simp[results,Tryz.results155,go_sem]) rfl ?_;exact⟨rfl,hid (HB.out _ _ _)⟩
 |false,false,false=>
  go_enter func155,ntmps155
  go_wp2_with fail
  refine bodyPost_ret (v:=.agg #[.bool false,.bool false,.bool false]) (by simp[results,Tryz.results155,go_sem]) rfl ?_;exact⟨rfl,hid (HB.out _ _ _)⟩
theorem y1w(z s f:Bool)(w:World):Calls prog 155 #[.int .i64 11,.agg #[.bool z,.bool s,.bool f]] w fun e w'=>e=.returned (ov (Xd 11 (z,s,f)))/\Hid (Below w.heap.size w w'):=by
 obtain⟨W0,hW0⟩:∃W0,W0=((w.alloc (.cells #[.bool z,.bool s,.bool f] 123)).alloc (.cells #[.bool false,.bool false,.bool false] 123)).alloc (.cells #[.bool false,.bool false,.bool false] 123):=⟨_,rfl⟩;have HB0:Hid (Below w.heap.size w W0):=by rw[hW0];exact(((Below.refl _ w).alloc L0q _).alloc (by simp) _).alloc (by simp;omega) _
 have hT0:W0.heap[w.heap.size]? =some (.cells #[.bool z,.bool s,.bool f] 123):=by rw[hW0];exact(Below.heap_alloc _ _ _ (by simp;omega)).trans ((Below.heap_alloc _ _ _ (by simp)).trans (Qx w _ rfl))
 have HR0:Hid (W0.heap[w.heap.size+1]? =some (.cells #[.bool false,.bool false,.bool false] 123)):=by rw[hW0];exact(Below.heap_alloc _ _ _ (by simp)).trans (Qx _ _ (by simp))
 have HZ0:Hid (W0.heap[w.heap.size+1+1]? =some (.cells #[.bool false,.bool false,.bool false] 123)):=by rw[hW0];exact Qx _ _ (by simp)
 obtain⟨⟨t0,t1,t2⟩,_⟩:=Qh hT0;have S2:(fun W:World=>Hid (Below w.heap.size w W)/\W.cell? ⟨w.heap.size,0,none⟩=some (.bool z)/\W.cell? ⟨w.heap.size,1,none⟩=some (.bool s)/\W.cell? ⟨w.heap.size,2,none⟩=some (.bool f)) W0.drew:=⟨hid HB0.out.drew,t0,t1,t2⟩;have lt0:=Qz hT0;have lz0:=Qz HZ0.out;have lr0:=Qz HR0.out;have HS:=hid (fun W:World=>Iq z s f W);clear hT0;go_enter func155,ntmps155
 go_wp2_with fail
 rw[<-hW0];clear hW0
 go_region_held3 (fun W:World=>Hid (Below w.heap.size w W)/\W.cell? ⟨w.heap.size,0,none⟩=some (.bool z)/\W.cell? ⟨w.heap.size,1,none⟩=some (.bool s)/\W.cell? ⟨w.heap.size,2,none⟩=some (.bool f)) (first|(with_reducible assumption)|(with_reducible exact z4d (by assumption) (by assumption))|(with_reducible exact z4e (by assumption) (Xz _ _ _ _ _))) (first
  |(go_at_call 169;refine(HS.out _).mono ?_;rintro e w4 ⟨rfl,HB4⟩;have hb4:=HB4.out;have HZ4:=hid ((hb4.block (w.heap.size+1+1) lz0).trans HZ0.out);have HR4:=hid ((hb4.block (w.heap.size+1) lr0).trans HR0.out);obtain⟨⟨z0,z1,z2⟩,f0,f1,f2⟩:=Qh HZ4.out;have lz:=Qz HZ4.out))
 obtain⟨X3,hX3⟩:∃X3,X3=((w4.setCell ⟨w.heap.size+1+1,0,none⟩ (.bool (suc (z,s,f)))).setCell ⟨w.heap.size+1+1,1,none⟩ (.bool false)).setCell ⟨w.heap.size+1+1,2,none⟩ (.bool f):=⟨_,rfl⟩;have bX3:X3.heap[w.heap.size+1+1]? =some (.cells #[.bool (suc (z,s,f)),.bool false,.bool f] 123):=by rw[hX3];exact Zz (Zz (Zz HZ4.out 0 _) 1 _) 2 _
 have gX3:w4.grownBy X3 (some (w.heap.size+1+1)):=by rw[hX3];exact Xz _ _ _ _ _
 have rX3:X3.heap[w.heap.size+1]? =some (.cells #[.bool false,.bool false,.bool false] 123):=(gX3.block _ (Qz HR4.out) (fun e=>by have:=Option.some.inj e;omega)).trans HR4.out;rw[<-hX3];obtain⟨Y3,hY3⟩:∃Y3,Y3=((X3.setCell ⟨w.heap.size+1,0,none⟩ (.bool (suc (z,s,f)))).setCell ⟨w.heap.size+1,1,none⟩ (.bool false)).setCell ⟨w.heap.size+1,2,none⟩ (.bool f):=⟨_,rfl⟩;have bY3:Y3.heap[w.heap.size+1]? =some (.cells #[.bool (suc (z,s,f)),.bool false,.bool f] 123):=by rw[hY3];exact Zz (Zz (Zz rX3 0 _) 1 _) 2 _
 have gY3:X3.grownBy Y3 (some (w.heap.size+1)):=by rw[hY3];exact Xz _ _ _ _ _
 have hB4:Below w.heap.size w w4:=HB0.out.drew.trans (hb4.mono HB0.out.drew.size);have hBX:Below w.heap.size w X3:=hB4.grown gX3 hB4.size (fun g e=>by have:=Option.some.inj e;omega);have HBY:=hid (hBX.grown gY3 hBX.size (fun g e=>by have:=Option.some.inj e;omega));obtain⟨⟨u0,u1,u2⟩,_⟩:=Qh bX3;obtain⟨⟨r0,r1,r2⟩,q0,q1,q2⟩:=Qh rX3;obtain⟨⟨e0,e1,e2⟩,_⟩:=Qh bY3;have lx:=Qz bX3;have ly:=Qz rX3;have HY3:=hid hY3;clear hX3 hY3 bX3 gX3 rX3 bY3 gY3 hB4 hBX HZ4 HR4 HB4 hb4 z0 z1 z2 f0 f1 f2 S2 t0 t1 t2 HS
 go_wp2_with fail
 rw[<-HY3.out];refine bodyPost_ret (v:=.agg #[.bool (suc (z,s,f)),.bool false,.bool f]) (by simp[results,Tryz.results155,go_sem,e0,e1,e2]) rfl ?_;exact⟨rfl,HBY⟩
theorem y1x(z s f:Bool)(w:World):Calls prog 155 #[.int .i64 12,.agg #[.bool z,.bool s,.bool f]] w fun e w'=>e=.returned (ov (Xd 12 (z,s,f)))/\Hid (Below w.heap.size w w'):=by
 obtain⟨W0,hW0⟩:∃W0,W0=((w.alloc (.cells #[.bool z,.bool s,.bool f] 123)).alloc (.cells #[.bool false,.bool false,.bool false] 123)).alloc (.cells #[.bool false,.bool false,.bool false] 123):=⟨_,rfl⟩;have HB0:Hid (Below w.heap.size w W0):=by rw[hW0];exact(((Below.refl _ w).alloc L0q _).alloc (by simp) _).alloc (by simp;omega) _
 have hT0:W0.heap[w.heap.size]? =some (.cells #[.bool z,.bool s,.bool f] 123):=by rw[hW0];exact(Below.heap_alloc _ _ _ (by simp;omega)).trans ((Below.heap_alloc _ _ _ (by simp)).trans (Qx w _ rfl))
 have HR0:Hid (W0.heap[w.heap.size+1]? =some (.cells #[.bool false,.bool false,.bool false] 123)):=by rw[hW0];exact(Below.heap_alloc _ _ _ (by simp)).trans (Qx _ _ (by simp))
 have HZ0:Hid (W0.heap[w.heap.size+1+1]? =some (.cells #[.bool false,.bool false,.bool false] 123)):=by rw[hW0];exact Qx _ _ (by simp)
 obtain⟨⟨t0,t1,t2⟩,_⟩:=Qh hT0;have S2:(fun W:World=>Hid (Below w.heap.size w W)/\W.cell? ⟨w.heap.size,0,none⟩=some (.bool z)/\W.cell? ⟨w.heap.size,1,none⟩=some (.bool s)/\W.cell? ⟨w.heap.size,2,none⟩=some (.bool f)) W0.drew:=⟨hid HB0.out.drew,t0,t1,t2⟩;have lt0:=Qz hT0;have lz0:=Qz HZ0.out;have lr0:=Qz HR0.out;have HS:=hid (fun W:World=>Iq z s f W);clear hT0;go_enter func155,ntmps155
 go_wp2_with fail
 rw[<-hW0];clear hW0
 go_region_held3 (fun W:World=>Hid (Below w.heap.size w W)/\W.cell? ⟨w.heap.size,0,none⟩=some (.bool z)/\W.cell? ⟨w.heap.size,1,none⟩=some (.bool s)/\W.cell? ⟨w.heap.size,2,none⟩=some (.bool f)) (first|(with_reducible assumption)|(with_reducible exact z4d (by assumption) (by assumption))|(with_reducible exact z4e (by assumption) (Xz _ _ _ _ _))) (first
  |(go_at_call 169;refine(HS.out _).mono ?_;rintro e w4 ⟨rfl,HB4⟩;have hb4:=HB4.out;have HZ4:=hid ((hb4.block (w.heap.size+1+1) lz0).trans HZ0.out);have HR4:=hid ((hb4.block (w.heap.size+1) lr0).trans HR0.out);obtain⟨⟨z0,z1,z2⟩,f0,f1,f2⟩:=Qh HZ4.out;have lz:=Qz HZ4.out))
 obtain⟨X3,hX3⟩:∃X3,X3=((w4.setCell ⟨w.heap.size+1+1,0,none⟩ (.bool f)).setCell ⟨w.heap.size+1+1,1,none⟩ (.bool false)).setCell ⟨w.heap.size+1+1,2,none⟩ (.bool (suc (z,s,f))):=⟨_,rfl⟩;have bX3:X3.heap[w.heap.size+1+1]? =some (.cells #[.bool f,.bool false,.bool (suc (z,s,f))] 123):=by rw[hX3];exact Zz (Zz (Zz HZ4.out 0 _) 1 _) 2 _
 have gX3:w4.grownBy X3 (some (w.heap.size+1+1)):=by rw[hX3];exact Xz _ _ _ _ _
 have rX3:X3.heap[w.heap.size+1]? =some (.cells #[.bool false,.bool false,.bool false] 123):=(gX3.block _ (Qz HR4.out) (fun e=>by have:=Option.some.inj e;omega)).trans HR4.out;rw[<-hX3];obtain⟨Y3,hY3⟩:∃Y3,Y3=((X3.setCell ⟨w.heap.size+1,0,none⟩ (.bool f)).setCell ⟨w.heap.size+1,1,none⟩ (.bool false)).setCell ⟨w.heap.size+1,2,none⟩ (.bool (suc (z,s,f))):=⟨_,rfl⟩;have bY3:Y3.heap[w.heap.size+1]? =some (.cells #[.bool f,.bool false,.bool (suc (z,s,f))] 123):=by rw[hY3];exact Zz (Zz (Zz rX3 0 _) 1 _) 2 _
 have gY3:X3.grownBy Y3 (some (w.heap.size+1)):=by rw[hY3];exact Xz _ _ _ _ _
 have hB4:Below w.heap.size w w4:=HB0.out.drew.trans (hb4.mono HB0.out.drew.size);have hBX:Below w.heap.size w X3:=hB4.grown gX3 hB4.size (fun g e=>by have:=Option.some.inj e;omega);have HBY:=hid (hBX.grown gY3 hBX.size (fun g e=>by have:=Option.some.inj e;omega));obtain⟨⟨u0,u1,u2⟩,_⟩:=Qh bX3;obtain⟨⟨r0,r1,r2⟩,q0,q1,q2⟩:=Qh rX3;obtain⟨⟨e0,e1,e2⟩,_⟩:=Qh bY3;have lx:=Qz bX3;have ly:=Qz rX3;have HY3:=hid hY3;clear hX3 hY3 bX3 gX3 rX3 bY3 gY3 hB4 hBX HZ4 HR4 HB4 hb4 z0 z1 z2 f0 f1 f2 S2 t0 t1 t2 HS
 go_wp2_with fail
 rw[<-HY3.out];refine bodyPost_ret (v:=.agg #[.bool f,.bool false,.bool (suc (z,s,f))]) (by simp[results,Tryz.results155,go_sem,e0,e1,e2]) rfl ?_;exact⟨rfl,HBY⟩
theorem y1y(m:Option Nat)(T:ByteArray)(a b c d:Int)(so:Option Addr)(n cap:Nat)(p:Int)(w:World):Calls prog 128 #[.map m,.agg #[.int .i64 1,.string T,.int .u64 a,.int .u64 b,.int .u64 c,.int .u64 d,.slice so n cap,.int .i64 p]] w fun e w'=>e=.returned (ov (true,false,false))/\Hid (Below w.heap.size w w'):=by
 have HB:Hid (∀o1 o2:Obj,Below w.heap.size w ((w.alloc o1).alloc o2)):=fun o1 o2=>((Below.refl _ w).alloc L0q o1).alloc (by simp) o2
 go_enter func128,ntmps128
 go_wp2_with fail
 refine bodyPost_ret (v:=.agg #[.bool true,.bool false,.bool false]) (by simp[results,Tryz.results128,go_sem]) rfl ?_;exact⟨rfl,hid (HB.out _ _)⟩
theorem y1z(m:Option Nat)(T:ByteArray)(a b c d:Int)(so:Option Addr)(n cap:Nat)(p:Int)(w:World):Calls prog 128 #[.map m,.agg #[.int .i64 4,.string T,.int .u64 a,.int .u64 b,.int .u64 c,.int .u64 d,.slice so n cap,.int .i64 p]] w fun e w'=>e=.returned (ov (false,true,true))/\Hid (Below w.heap.size w w'):=by
 have HB:Hid (∀o1 o2:Obj,Below w.heap.size w ((w.alloc o1).alloc o2)):=fun o1 o2=>((Below.refl _ w).alloc L0q o1).alloc (by simp) o2
 go_enter func128,ntmps128
 go_wp2_with fail
 refine bodyPost_ret (v:=.agg #[.bool false,.bool true,.bool true]) (by simp[results,Tryz.results128,go_sem]) rfl ?_;exact⟨rfl,hid (HB.out _ _)⟩
theorem y1A(m:Option Nat)(T:ByteArray)(a b c d:Int)(so:Option Addr)(n cap:Nat)(p:Int)(w:World)(hT:T={data:=#[]}):Calls prog 128 #[.map m,.agg #[.int .i64 2,.string T,.int .u64 a,.int .u64 b,.int .u64 c,.int .u64 d,.slice so n cap,.int .i64 p]] w fun e w'=>e=.returned (ov (true,false,false))/\Hid (Below w.heap.size w w'):=by
 subst hT;have HB:Hid (∀o1 o2:Obj,Below w.heap.size w ((w.alloc o1).alloc o2)):=fun o1 o2=>((Below.refl _ w).alloc L0q o1).alloc (by simp) o2
 go_enter func128,ntmps128
 go_wp2_with fail
 refine bodyPost_ret (v:=.agg #[.bool true,.bool false,.bool false]) (by simp[results,Tryz.results128,go_sem]) rfl ?_;exact⟨rfl,hid (HB.out _ _)⟩
theorem y1B(m:Option Nat)(T:ByteArray)(a b c d:Int)(so:Option Addr)(n cap:Nat)(p:Int)(w:World)(hT:T.toList.isEmpty=false):Calls prog 128 #[.map m,.agg #[.int .i64 2,.string T,.int .u64 a,.int .u64 b,.int .u64 c,.int .u64 d,.slice so n cap,.int .i64 p]] w fun e w'=>e=.returned (ov (false,true,true))/\Hid (Below w.heap.size w w'):=by
 have HB:Hid (∀o1 o2:Obj,Below w.heap.size w ((w.alloc o1).alloc o2)):=fun o1 o2=>((Below.refl _ w).alloc L0q o1).alloc (by simp) o2
 go_enter func128,ntmps128
 go_wp2_with fail
 refine bodyPost_ret (v:=.agg #[.bool false,.bool true,.bool true]) (by simp[results,Tryz.results128,go_sem]) rfl ?_;exact⟨rfl,hid (HB.out _ _)⟩
open Go.Maps
def dO(x:Ot):DataW Unit:=.agg [.lit (.bool x.1),.lit (.bool x.2.1),.lit (.bool x.2.2)]
def oEl(v:Value):Option (DataW Unit×List MemPlace):=match v with
 | .agg cs=>match cs.toList with
   |[.bool a,.bool b,.bool c]=>some (dO (a,b,c),[])
   |_=>none
 |_=>none
theorem y1C{x y:Ot}(h:dO x=dO y):x=y:=by
 obtain⟨a,b,c⟩:=x;obtain⟨d,e,f⟩:=y;simp only[dO,DataW.agg.injEq,List.cons.injEq,DataW.lit.injEq,Lit.bool.injEq,and_true]at h;obtain⟨rfl,rfl,rfl⟩:=h;rfl
theorem z4f(x:Ot):oEl (ov x)=some (dO x,[]):=rfl
theorem y1D{v:Value}{x:Ot}{ps:List MemPlace}(h:oEl v=some (dO x,ps)):v=ov x:=by
 unfold oEl at h;split at h
 ·rename_i cs
  split at h
  ·rename_i a b c hc
   have e:=y1C (Prod.mk.inj (Option.some.inj h)).1;subst e;obtain⟨l⟩:=cs;simp only at hc;subst hc;rfl
  ·cases h
 ·cases h
theorem y1E(w:World):(zeroValue 123).run prog w=.ok (ov (false,false,false)) w:=by kernel_rfl
theorem z4g:Tryz.prog.underlying 164=some (.map 9 123):=by kernel_rfl
def Nm(W:World)(B:Nat)(n:Nat)(K:ByteArray->Ot):Prop:=∃D:DataW Unit,W.ownsMap prog 9 oEl B n D/\∀s,D.atKey (kls s) (dO (false,false,false))=dO (K s)
theorem Nm.made(w:World):Nm (w.alloc (.map #[] 0)) w.heap.size 0 z0O:=⟨.map [],World.ownsMap_made w _ _ _,fun s=>rfl⟩
theorem Nm.kept{W W':World}{B n:Nat}{K:ByteArray->Ot}{row:Option Nat}(h:Nm W B n K)(hg:W.grownBy W' row)(hne:some B≠row):Nm W' B n K:=by
 obtain⟨D,h1,h2⟩:=h;exact⟨D,h1.kept hg hne,h2⟩
theorem Nm.below{base:Nat}{K:ByteArray->Ot}(h:Nm W B n K)(hb:Below base W W')(hB:B<base):Nm W' B n K:=by
 obtain⟨D,⟨es,ck,h1,h2,h3,h4⟩,h5⟩:=h;exact⟨D,⟨es,ck,(hb.block B hB).trans h1,h2,h3,h4⟩,h5⟩
theorem Nm.look{K:ByteArray->Ot}(h:Nm W B n K){s:ByteArray}(hs:s.size<=maxLen):(Instr.lookup 164 (.map (some B)) (.string s) false).run prog W=.ok (ov (K s)) W:=by
 obtain⟨D,h1,h2⟩:=h;obtain⟨v,ps,h3,h4⟩:=h1.lookup Fq z4g (y1E W) (z4f (false,false,false)) (Fx hs);rw[h2 s]at h4;rw[h3,y1D h4]
theorem Nm.put{K:ByteArray->Ot}(h:Nm W B n K){s:ByteArray}(hs:s.size<=maxLen)(x:Ot)(hn:n<maxLen):∃W',(Instr.mapUpdate 164 (.map (some B)) (.string s) (ov x)).run prog W=.ok () W'/\Nm W' B (n+1) (Jh K s x)/\W.grownBy W' (some B):=by
 obtain⟨D,h1,h2⟩:=h;obtain⟨W',h3,h4,h5⟩:=h1.update Fq z4g hn (Fx hs) (z4f x);refine⟨W',h3,⟨_,h4,fun t=> ?_⟩,h5⟩;unfold Jh;by_cases e:t=s
 ·subst e
  rw[if_pos rfl,Maps.atKey_put_same h1.isMap (Tz _)]
 ·rw[if_neg e,Maps.atKey_put_other (fun h=>e (z3e h)),h2 t]
theorem Nm.lt{W:World}{B n:Nat}{K:ByteArray->Ot}(h:Nm W B n K):B<W.heap.size:=by
 obtain⟨D,h1,_⟩:=h;exact h1.lt
theorem z4h(K:ByteArray->Ot)(t:RT):∀(l:List RT) (x:Ot),ofS K x (l++[t])=Ny (ofS K x l) (ofT K t)
 |[],x=>by rw[List.nil_append,ofS,ofS,ofS]
 |a::r,x=>by rw[List.cons_append,ofS,ofS,z4h K t r]
theorem z4i(K:ByteArray->Ot)(t:RT):∀(l:List RT) (x:Ot),ofA K x (l++[t])=Kq (ofA K x l) (ofT K t)
 |[],x=>by rw[List.nil_append,ofA,ofA,ofA]
 |a::r,x=>by rw[List.cons_append,ofA,ofA,z4i K t r]
theorem y1F(K:ByteArray->Ot)(x:Ot)(s:List RT)(j:Nat)(hj:j<s.length):ofS K x (s.take (j+1))=Ny (ofS K x (s.take j)) (ofT K s[j]):=by
 rw[show s.take (j+1)=s.take j++[s[j]] by simp,z4h]
theorem y1G(K:ByteArray->Ot)(x:Ot)(s:List RT)(j:Nat)(hj:j<s.length):ofA K x (s.take (j+1))=Kq (ofA K x (s.take j)) (ofT K s[j]):=by
 rw[show s.take (j+1)=s.take j++[s[j]] by simp,z4i]
theorem Yx{R:Nat}{a b c v0 v1 v2:Value}{t:TypeId}(h:W.heap[R]? =some (.cells #[a,b,c] t)):(((W.setCell ⟨R,0,none⟩ v0).setCell ⟨R,1,none⟩ v1).setCell ⟨R,2,none⟩ v2).heap[R]? =some (.cells #[v0,v1,v2] t):=Zz (Zz (Zz h 0 _) 1 _) 2 _
theorem z4j{w4:World}{x1 x2 x3 y1 y2 y3:Bool}(h:Hid (Below w.heap.size w W)/\Hid (W.heap[w.heap.size]? =some (.cells #[.bool false,.bool false,.bool false] 123))/\Hid (W.heap[w.heap.size+1]? =some (.cells #[.bool x1,.bool x2,.bool x3] 123))/\W.cell? ⟨w.heap.size+1,0,none⟩=some (.bool x1)/\W.cell? ⟨w.heap.size+1,1,none⟩=some (.bool x2)/\W.cell? ⟨w.heap.size+1,2,none⟩=some (.bool x3)/\W.cell? ⟨w4.heap.size,0,none⟩=some (.bool y1)/\W.cell? ⟨w4.heap.size,1,none⟩=some (.bool y2)/\W.cell? ⟨w4.heap.size,2,none⟩=some (.bool y3))(hb:Below W.heap.size W W'):Hid (Below w.heap.size w W')/\Hid (W'.heap[w.heap.size]? =some (.cells #[.bool false,.bool false,.bool false] 123))/\Hid (W'.heap[w.heap.size+1]? =some (.cells #[.bool x1,.bool x2,.bool x3] 123))/\W'.cell? ⟨w.heap.size+1,0,none⟩=some (.bool x1)/\W'.cell? ⟨w.heap.size+1,1,none⟩=some (.bool x2)/\W'.cell? ⟨w.heap.size+1,2,none⟩=some (.bool x3)/\W'.cell? ⟨w4.heap.size,0,none⟩=some (.bool y1)/\W'.cell? ⟨w4.heap.size,1,none⟩=some (.bool y2)/\W'.cell? ⟨w4.heap.size,2,none⟩=some (.bool y3):=by
 obtain⟨h1,h2,h3,z0,z1,z2,z3,z4,z5⟩:=h;have e:∀(a:Addr) (u:Value),W.cell? a=some u->W'.cell? a=some u:=fun a u h=>(hb.cell (p:=a) (World.block_lt_of_cell? W _ h)).trans h
 exact⟨hid (h1.out.trans (hb.mono h1.out.size)),hid ((hb.block _ (Qz h2.out)).trans h2.out),hid ((hb.block _ (Qz h3.out)).trans h3.out),e _ _ z0,e _ _ z1,e _ _ z2,e _ _ z3,e _ _ z4,e _ _ z5⟩
theorem y1H(W:World)(a b c:Addr)(x y z:Value):(((W.setCell a x).setCell b y).setCell c z).drew=((W.drew.setCell a x).setCell b y).setCell c z:=rfl
theorem y1I{x1 x2 x3 y1 y2 y3 q:Bool}(h:q=suc (y1,y2,y3)):Ny (x1,x2,x3) (y1,y2,y3)=(x1&&y1,x2&&q||x1&&y2,x3||(x1||x2)&&y3):=by rw[h];rfl
theorem y1J(B nn:Nat)(K:ByteArray->Ot)(T:ByteArray)(a b c d:Int)(so:Option Addr)(n cap:Nat)(p:Int)(w:World)(hM:Nm w B nn K)(hT:T.size<=maxLen):Calls prog 128 #[.map (some B),.agg #[.int .i64 5,.string T,.int .u64 a,.int .u64 b,.int .u64 c,.int .u64 d,.slice so n cap,.int .i64 p]] w fun e w'=>e=.returned (ov (K T))/\Hid (Below w.heap.size w w'):=by
 have HB:Hid (∀o1 o2:Obj,Below w.heap.size w ((w.alloc o1).alloc o2)):=fun o1 o2=>((Below.refl _ w).alloc L0q o1).alloc (by simp) o2
 have hL:=((hM.kept (World.grownBy_alloc w (.cells #[.int .i64 5,.string T,.int .u64 a,.int .u64 b,.int .u64 c,.int .u64 d,.slice so n cap,.int .i64 p] 30) none) (by simp)).kept (World.grownBy_alloc _ (.cells #[.bool false,.bool false,.bool false] 123) none) (by simp)).look hT;obtain⟨⟨x1,x2,x3⟩,hx⟩:∃x,x=K T:=⟨_,rfl⟩;rw[<-hx]at hL ⊢;dsimp only[ov]at hL;clear hx hM;go_enter func128,ntmps128
 go_wp2_with fail
 refine bodyPost_ret (v:=.agg #[.bool x1,.bool x2,.bool x3]) (by simp[results,Tryz.results128,go_sem]) rfl ?_;exact⟨rfl,hid (HB.out _ _)⟩
theorem y1K(m:Option Nat)(T:ByteArray)(a b c d:Int)(so:Option Addr)(n cap:Nat)(p:Int)(w:World):Calls prog 128 #[.map m,.agg #[.int .i64 3,.string T,.int .u64 a,.int .u64 b,.int .u64 c,.int .u64 d,.slice so n cap,.int .i64 p]] w fun e w'=>e=.returned (ov (if zc a b c d then(false,false,true)else(false,true,true)))/\Hid (Below w.heap.size w w'):=by
 have HB:Hid (∀o1 o2:Obj,Below w.heap.size w ((w.alloc o1).alloc o2)):=fun o1 o2=>((Below.refl _ w).alloc L0q o1).alloc (by simp) o2
 have e3:∀w:World,(Op.equalIn 10000 27 (.agg #[.int .u64 a,.int .u64 b,.int .u64 c,.int .u64 d]) (.agg #[.int .u64 0,.int .u64 0,.int .u64 0,.int .u64 0])).run prog w=.ok (zc a b c d) w:=fun w=>z1y 9998 w a b c d 0 0 0 0
 cases hz:zc a b c d with
 |true=>
  rw[hz]at e3;clear hz;go_enter func128,ntmps128
  go_wp2_with fail
  refine bodyPost_ret (v:=.agg #[.bool false,.bool false,.bool true]) (by simp[results,Tryz.results128,go_sem]) rfl ?_;exact⟨rfl,hid (HB.out _ _)⟩
 |false=>
  rw[hz]at e3;clear hz;go_enter func128,ntmps128
  go_wp2_with fail
  refine bodyPost_ret (v:=.agg #[.bool false,.bool true,.bool true]) (by simp[results,Tryz.results128,go_sem]) rfl ?_;exact⟨rfl,hid (HB.out _ _)⟩
end Go.Proofs.YtgmcjddjdidpjabGreatDoor
