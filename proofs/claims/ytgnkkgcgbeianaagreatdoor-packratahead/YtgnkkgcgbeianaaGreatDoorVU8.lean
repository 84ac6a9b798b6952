/- Lemmas for the last text. Conditions: those that each names. -/
import Derived.Test.YtgnkkgcgbeianaaGreatDoorVU3ToU7
set_option linter.unusedVariables false
set_option maxRecDepth 100000
set_option maxHeartbeats 4000000
namespace Go.Proofs.YtgnkkgcgbeianaaGreatDoor
open Go.Proofs.Tryz
open Go.RowKit Go.Shelf Go.Maps
variable {W w:World}
theorem y3F(B:Nat)(x1 x2 x3:Bool)(T:ByteArray)(a b c d:Int)(t:Option Addr)(n y:Nat)(p:Int)(w:World)
  (D:Hid (∀W:World,Below w.heap.size w W->Calls prog 228 #[.map (some B),.slice t n y] W fun e w'=>e=.returned (ov (x1,x2,x3))/\Hid (Below W.heap.size W w'))):
  Calls prog 191 #[.map (some B),.agg #[.int .i64 6,.string T,.int .u64 a,.int .u64 b,.int .u64 c,.int .u64 d,.slice t n y,.int .i64 p]] w fun e w'=>e=.returned (ov (x1,x2,x3))/\Hid (Below w.heap.size w w'):=by
 obtain⟨h,o⟩:∃h,h=(w.alloc (.cells #[.int .i64 6,.string T,.int .u64 a,.int .u64 b,.int .u64 c,.int .u64 d,.slice t n y,.int .i64 p] 81)).alloc (.cells #[.bool false,.bool false,.bool false] 210):=⟨_,rfl⟩;have A:Below w.heap.size w h:=by rw[o];exact((Below.refl _ w).alloc L0q _).alloc (by simp) _
 have E:Hid (h.heap[w.heap.size+1]? =some (.cells #[.bool false,.bool false,.bool false] 210)):=by rw[o];exact Qx _ _ (by simp)
 have G:=hid A;have I:=hid (D.out h A);have Y:=hid o;clear o A D;dsimp only[ov]at I;go_enter func191,ntmps191
 go_wp2_with(first
  |(go_at_call 228;rw[<-Y.out];refine I.out.mono ?_;rintro e w4 ⟨rfl,U⟩;have r:=(U.out.block _ (Qq E.out)).trans E.out;obtain⟨⟨u0,u1,u2⟩,f0,f1,f2⟩:=Zz r;have lr:=Qq r;have Z:=hid r;clear r))
 obtain⟨⟨r0,r1,r2⟩,_⟩:=Zz (Vd (v0:=.bool x1) (v1:=.bool x2) (v2:=.bool x3) Z.out);refine bodyPost_ret (v:=.agg #[.bool x1,.bool x2,.bool x3]) (by simp[results,Tryz.results191,go_sem,r0,r1,r2]) rfl ?_;have V:=G.out.trans (U.out.mono G.out.size);exact⟨rfl,hid (V.grown (Xg _ _ _ _ _) V.size (fun g e=>by have:=Option.some.inj e;omega))⟩
theorem y3G(B:Nat)(x1 x2 x3:Bool)(T:ByteArray)(a b c d:Int)(t:Option Addr)(n y:Nat)(p:Int)(w:World)
  (D:Hid (∀W:World,Below w.heap.size w W->Calls prog 229 #[.map (some B),.slice t n y] W fun e w'=>e=.returned (ov (x1,x2,x3))/\Hid (Below W.heap.size W w'))):
  Calls prog 191 #[.map (some B),.agg #[.int .i64 7,.string T,.int .u64 a,.int .u64 b,.int .u64 c,.int .u64 d,.slice t n y,.int .i64 p]] w fun e w'=>e=.returned (ov (x1,x2,x3))/\Hid (Below w.heap.size w w'):=by
 obtain⟨h,o⟩:∃h,h=(w.alloc (.cells #[.int .i64 7,.string T,.int .u64 a,.int .u64 b,.int .u64 c,.int .u64 d,.slice t n y,.int .i64 p] 81)).alloc (.cells #[.bool false,.bool false,.bool false] 210):=⟨_,rfl⟩;have A:Below w.heap.size w h:=by rw[o];exact((Below.refl _ w).alloc L0q _).alloc (by simp) _
 have E:Hid (h.heap[w.heap.size+1]? =some (.cells #[.bool false,.bool false,.bool false] 210)):=by rw[o];exact Qx _ _ (by simp)
 have G:=hid A;have I:=hid (D.out h A);have Y:=hid o;clear o A D;dsimp only[ov]at I;go_enter func191,ntmps191
 go_wp2_with(first
  |(go_at_call 229;rw[<-Y.out];refine I.out.mono ?_;rintro e w4 ⟨rfl,U⟩;have r:=(U.out.block _ (Qq E.out)).trans E.out;obtain⟨⟨u0,u1,u2⟩,f0,f1,f2⟩:=Zz r;have lr:=Qq r;have Z:=hid r;clear r))
 obtain⟨⟨r0,r1,r2⟩,_⟩:=Zz (Vd (v0:=.bool x1) (v1:=.bool x2) (v2:=.bool x3) Z.out);refine bodyPost_ret (v:=.agg #[.bool x1,.bool x2,.bool x3]) (by simp[results,Tryz.results191,go_sem,r0,r1,r2]) rfl ?_;have V:=G.out.trans (U.out.mono G.out.size);exact⟨rfl,hid (V.grown (Xg _ _ _ _ _) V.size (fun g e=>by have:=Option.some.inj e;omega))⟩
theorem Fc{p:Prop}(h:Hid (Below w.heap.size w W)/\p):Below w.heap.size w W:=h.1.out
theorem Ad{W':World}{v0 v1:Value}{g o:Nat}{y0 y1 y2 y3 t y A D:Value}(h:Hid (Below w.heap.size w W)/\Hid (∃v0 v1 v2:Value,W.heap[w.heap.size+1]? =some (.cells #[v0,v1,v2] 210))/\W.cell? ⟨w.heap.size,0,none⟩=some v0/\W.cell? ⟨w.heap.size,6,none⟩=some v1/\W.cell? ⟨g,o,none⟩=some y0/\W.cell? ⟨g,o+1,none⟩=some y1/\W.cell? ⟨g,o+2,none⟩=some y2/\W.cell? ⟨g,o+3,none⟩=some y3/\W.cell? ⟨g,o+4,none⟩=some t/\W.cell? ⟨g,o+5,none⟩=some y/\W.cell? ⟨g,o+6,none⟩=some A/\W.cell? ⟨g,o+7,none⟩=some D)(r:Below W.heap.size W W'):Hid (Below w.heap.size w W')/\Hid (∃v0 v1 v2:Value,W'.heap[w.heap.size+1]? =some (.cells #[v0,v1,v2] 210))/\W'.cell? ⟨w.heap.size,0,none⟩=some v0/\W'.cell? ⟨w.heap.size,6,none⟩=some v1/\W'.cell? ⟨g,o,none⟩=some y0/\W'.cell? ⟨g,o+1,none⟩=some y1/\W'.cell? ⟨g,o+2,none⟩=some y2/\W'.cell? ⟨g,o+3,none⟩=some y3/\W'.cell? ⟨g,o+4,none⟩=some t/\W'.cell? ⟨g,o+5,none⟩=some y/\W'.cell? ⟨g,o+6,none⟩=some A/\W'.cell? ⟨g,o+7,none⟩=some D:=by
 obtain⟨E,I,U,V,Y,Z,z4,z5,z6,z7,z8,z9⟩:=h;have e:∀{a:Addr} {u:Value},W.cell? a=some u->W'.cell? a=some u:=fun{a u} h=>(r.cell (p:=a) (World.block_lt_of_cell? W _ h)).trans h
 obtain⟨r0,r1,r2,G⟩:=I.out;exact⟨hid (E.out.trans (r.mono E.out.size)),hid ⟨r0,r1,r2,(r.block _ (Qq G)).trans G⟩,e U,e V,e Y,e Z,e z4,e z5,e z6,e z7,e z8,e z9⟩
theorem Am{v0 v1:Value}{g o:Nat}{y0 y1 y2 y3 t y A D:Value}{x1 x2 x3:Value}(hg:g<w.heap.size)(h:Hid (Below w.heap.size w W)/\Hid (∃v0 v1 v2:Value,W.heap[w.heap.size+1]? =some (.cells #[v0,v1,v2] 210))/\W.cell? ⟨w.heap.size,0,none⟩=some v0/\W.cell? ⟨w.heap.size,6,none⟩=some v1/\W.cell? ⟨g,o,none⟩=some y0/\W.cell? ⟨g,o+1,none⟩=some y1/\W.cell? ⟨g,o+2,none⟩=some y2/\W.cell? ⟨g,o+3,none⟩=some y3/\W.cell? ⟨g,o+4,none⟩=some t/\W.cell? ⟨g,o+5,none⟩=some y/\W.cell? ⟨g,o+6,none⟩=some A/\W.cell? ⟨g,o+7,none⟩=some D)(W':World)(e:W'=((W.setCell ⟨w.heap.size+1,0,none⟩ x1).setCell ⟨w.heap.size+1,1,none⟩ x2).setCell ⟨w.heap.size+1,2,none⟩ x3):Hid (Below w.heap.size w W')/\Hid (∃v0 v1 v2:Value,W'.heap[w.heap.size+1]? =some (.cells #[v0,v1,v2] 210))/\W'.cell? ⟨w.heap.size,0,none⟩=some v0/\W'.cell? ⟨w.heap.size,6,none⟩=some v1/\W'.cell? ⟨g,o,none⟩=some y0/\W'.cell? ⟨g,o+1,none⟩=some y1/\W'.cell? ⟨g,o+2,none⟩=some y2/\W'.cell? ⟨g,o+3,none⟩=some y3/\W'.cell? ⟨g,o+4,none⟩=some t/\W'.cell? ⟨g,o+5,none⟩=some y/\W'.cell? ⟨g,o+6,none⟩=some A/\W'.cell? ⟨g,o+7,none⟩=some D:=by
 obtain⟨E,I,U,V,Y,Z,z4,z5,z6,z7,z8,z9⟩:=h;have G:W.grownBy W' (some (w.heap.size+1)):=by rw[e];exact Xg _ _ _ _ _
 have k:∀{a:Addr} {u:Value},a.block≠w.heap.size+1->W.cell? a=some u->W'.cell? a=some u:=fun{a u} aa h=>(World.cell?_of_block (G.block a.block (World.block_lt_of_cell? W _ h) (fun e=>aa (Option.some.inj e)))).trans h
 obtain⟨r0,r1,r2,hr⟩:=I.out;have hl:∀j,(⟨w.heap.size,j,none⟩:Addr).block≠w.heap.size+1:=fun j=>by show w.heap.size≠_;omega
 have r:∀j,(⟨g,j,none⟩:Addr).block≠w.heap.size+1:=fun j=>by show g≠_;omega
 exact⟨hid (E.out.grown G E.out.size (fun g e=>by have:=Option.some.inj e;omega)),hid ⟨x1,x2,x3,by rw[e];exact Vd hr⟩,k (hl _) U,k (hl _) V,k (r _) Y,k (r _) Z,k (r _) z4,k (r _) z5,k (r _) z6,k (r _) z7,k (r _) z8,k (r _) z9⟩
theorem Ap{W':World}{p:Prop}(h:Hid (Below w.heap.size w W)/\Hid (∃v0 v1 v2:Value,W.heap[w.heap.size+1]? =some (.cells #[v0,v1,v2] 210))/\p)(o:Below W.heap.size W W'):Hid (Below w.heap.size w W')/\Hid (∃v0 v1 v2:Value,W'.heap[w.heap.size+1]? =some (.cells #[v0,v1,v2] 210)):=by
 obtain⟨t,y,A,r⟩:=h.2.1.out;exact⟨hid (h.1.out.trans (o.mono h.1.out.size)),hid ⟨t,y,A,(o.block _ (Qq r)).trans r⟩⟩
theorem y3H(B:Nat)(y1 y2 y3:Bool)(T:ByteArray)(a b c d:Int)(g o t:Nat)(p:Int)(y:Int)(A:ByteArray)(a1 D c1 E:Int)(G:Option Addr)(I U:Nat)(p1:Int)(w:World)(Y:g<w.heap.size)(aa:Rc w g o y A a1 D c1 E (.slice G I U) p1)
  (HQ:Hid (∀W:World,Below w.heap.size w W->Calls prog 191 #[.map (some B),.agg (r8 y A a1 D c1 E G I U p1).toArray] W fun e w'=>e=.returned (ov (y1,y2,y3))/\Hid (Below W.heap.size W w'))):
  Calls prog 191 #[.map (some B),.agg #[.int .i64 8,.string T,.int .u64 a,.int .u64 b,.int .u64 c,.int .u64 d,.slice (some ⟨g,o,none⟩) 1 t,.int .i64 p]] w fun e w'=>e=.returned (ov (Zh 8 (y1,y2,y3)))/\Hid (Below w.heap.size w w'):=by
 obtain⟨h,r⟩:∃h,h=(w.alloc (.cells #[.int .i64 8,.string T,.int .u64 a,.int .u64 b,.int .u64 c,.int .u64 d,.slice (some ⟨g,o,none⟩) 1 t,.int .i64 p] 81)).alloc (.cells #[.bool false,.bool false,.bool false] 210):=⟨_,rfl⟩;have Z:Below w.heap.size w h:=by rw[r];exact((Below.refl _ w).alloc L0q _).alloc (by simp) _
 have ab:Hid (h.heap[w.heap.size+1]? =some (.cells #[.bool false,.bool false,.bool false] 210)):=by rw[r];exact Qx _ _ (by simp)
 obtain⟨⟨n0,-,-,-,-,-,n6,-⟩,-⟩:=Qy (show h.heap[w.heap.size]? =_ by rw[r];exact(Below.heap_alloc _ _ _ (by simp)).trans (Qx w _ rfl));obtain⟨z0,z1,z2,z3,z4,z5,z6,z7⟩:=aa.below Z Y;have S0:(fun W:World=>Hid (Below w.heap.size w W)/\Hid (∃v0 v1 v2:Value,W.heap[w.heap.size+1]? =some (.cells #[v0,v1,v2] 210))/\W.cell? ⟨w.heap.size,0,none⟩=some (.int .i64 8)/\W.cell? ⟨w.heap.size,6,none⟩=some (.slice (some ⟨g,o,none⟩) 1 t)/\W.cell? ⟨g,o,none⟩=some (.int .i64 y)/\W.cell? ⟨g,o+1,none⟩=some (.string A)/\W.cell? ⟨g,o+2,none⟩=some (.int .u64 a1)/\W.cell? ⟨g,o+3,none⟩=some (.int .u64 D)/\W.cell? ⟨g,o+4,none⟩=some (.int .u64 c1)/\W.cell? ⟨g,o+5,none⟩=some (.int .u64 E)/\W.cell? ⟨g,o+6,none⟩=some (.slice G I U)/\W.cell? ⟨g,o+7,none⟩=some (.int .i64 p1)) h.drew:=⟨hid Z.drew,hid ⟨_,_,_,ab.out⟩,n0,n6,z0,z1,z2,z3,z4,z5,z6,z7⟩;have HU:=hid (y3g y1 y2 y3);have hl:w.heap.size<h.heap.size:=by rw[r];simp;omega
 have aj:g<h.heap.size:=Nat.lt_trans Y hl;have ac:=hid r;obtain⟨⟨x1,x2,x3⟩,hx⟩:∃x,x=Zh 8 (y1,y2,y3):=⟨_,rfl⟩;rw[<-hx]at HU ⊢;clear r Z ab aa hx n0 n6 z0 z1 z2 z3 z4 z5 z6 z7;dsimp only[ov,r8]at HQ HU;go_enter func191,ntmps191
 go_wp2_with fail
 rw[<-ac.out];clear ac
 go_region_held3 (fun W:World=>Hid (Below w.heap.size w W)/\Hid (∃v0 v1 v2:Value,W.heap[w.heap.size+1]? =some (.cells #[v0,v1,v2] 210))/\W.cell? ⟨w.heap.size,0,none⟩=some (.int .i64 8)/\W.cell? ⟨w.heap.size,6,none⟩=some (.slice (some ⟨g,o,none⟩) 1 t)/\W.cell? ⟨g,o,none⟩=some (.int .i64 y)/\W.cell? ⟨g,o+1,none⟩=some (.string A)/\W.cell? ⟨g,o+2,none⟩=some (.int .u64 a1)/\W.cell? ⟨g,o+3,none⟩=some (.int .u64 D)/\W.cell? ⟨g,o+4,none⟩=some (.int .u64 c1)/\W.cell? ⟨g,o+5,none⟩=some (.int .u64 E)/\W.cell? ⟨g,o+6,none⟩=some (.slice G I U)/\W.cell? ⟨g,o+7,none⟩=some (.int .i64 p1)) (first|(with_reducible assumption)|(with_reducible exact Ad (by assumption) (by assumption))|(with_reducible exact Am Y (by assumption) _ rfl)) (first
  |(go_at_call 191;refine(HQ.out _ (Fc (by assumption))).mono ?_;rintro e w4 ⟨rfl,ae⟩;have ak:=ae.out)
  |(go_at_call 230;refine(HU.out _).mono ?_;rintro e w5 ⟨rfl,af⟩;have ag:=af.out;obtain⟨ad,ah⟩:=Ap (by assumption) ag;obtain⟨q0,q1,q2,V⟩:=ah.out;obtain⟨⟨u0,u1,u2⟩,f0,f1,f2⟩:=Zz V;have lr:=Qq V;have ai:=hid V;clear V))
 obtain⟨⟨r0,r1,r2⟩,_⟩:=Zz (Vd (v0:=.bool x1) (v1:=.bool x2) (v2:=.bool x3) ai.out)
 go_wp2_with fail
 refine bodyPost_ret (v:=.agg #[.bool x1,.bool x2,.bool x3]) (by simp[results,Tryz.results191,go_sem,r0,r1,r2]) rfl ?_;exact⟨rfl,hid (ad.out.grown (Xg _ _ _ _ _) ad.out.size (fun g e=>by have:=Option.some.inj e;omega))⟩
theorem y3I(B:Nat)(y1 y2 y3:Bool)(T:ByteArray)(a b c d:Int)(g o t:Nat)(p:Int)(y:Int)(A:ByteArray)(a1 D c1 E:Int)(G:Option Addr)(I U:Nat)(p1:Int)(w:World)(Y:g<w.heap.size)(aa:Rc w g o y A a1 D c1 E (.slice G I U) p1)
  (HQ:Hid (∀W:World,Below w.heap.size w W->Calls prog 191 #[.map (some B),.agg (r8 y A a1 D c1 E G I U p1).toArray] W fun e w'=>e=.returned (ov (y1,y2,y3))/\Hid (Below W.heap.size W w'))):
  Calls prog 191 #[.map (some B),.agg #[.int .i64 9,.string T,.int .u64 a,.int .u64 b,.int .u64 c,.int .u64 d,.slice (some ⟨g,o,none⟩) 1 t,.int .i64 p]] w fun e w'=>e=.returned (ov (Zh 9 (y1,y2,y3)))/\Hid (Below w.heap.size w w'):=by
 obtain⟨h,r⟩:∃h,h=(w.alloc (.cells #[.int .i64 9,.string T,.int .u64 a,.int .u64 b,.int .u64 c,.int .u64 d,.slice (some ⟨g,o,none⟩) 1 t,.int .i64 p] 81)).alloc (.cells #[.bool false,.bool false,.bool false] 210):=⟨_,rfl⟩;have Z:Below w.heap.size w h:=by rw[r];exact((Below.refl _ w).alloc L0q _).alloc (by simp) _
 have ab:Hid (h.heap[w.heap.size+1]? =some (.cells #[.bool false,.bool false,.bool false] 210)):=by rw[r];exact Qx _ _ (by simp)
 obtain⟨⟨n0,-,-,-,-,-,n6,-⟩,-⟩:=Qy (show h.heap[w.heap.size]? =_ by rw[r];exact(Below.heap_alloc _ _ _ (by simp)).trans (Qx w _ rfl));obtain⟨z0,z1,z2,z3,z4,z5,z6,z7⟩:=aa.below Z Y;have S0:(fun W:World=>Hid (Below w.heap.size w W)/\Hid (∃v0 v1 v2:Value,W.heap[w.heap.size+1]? =some (.cells #[v0,v1,v2] 210))/\W.cell? ⟨w.heap.size,0,none⟩=some (.int .i64 9)/\W.cell? ⟨w.heap.size,6,none⟩=some (.slice (some ⟨g,o,none⟩) 1 t)/\W.cell? ⟨g,o,none⟩=some (.int .i64 y)/\W.cell? ⟨g,o+1,none⟩=some (.string A)/\W.cell? ⟨g,o+2,none⟩=some (.int .u64 a1)/\W.cell? ⟨g,o+3,none⟩=some (.int .u64 D)/\W.cell? ⟨g,o+4,none⟩=some (.int .u64 c1)/\W.cell? ⟨g,o+5,none⟩=some (.int .u64 E)/\W.cell? ⟨g,o+6,none⟩=some (.slice G I U)/\W.cell? ⟨g,o+7,none⟩=some (.int .i64 p1)) h.drew:=⟨hid Z.drew,hid ⟨_,_,_,ab.out⟩,n0,n6,z0,z1,z2,z3,z4,z5,z6,z7⟩;have HU:=hid (y3h y1 y2 y3);have hl:w.heap.size<h.heap.size:=by rw[r];simp;omega
 have aj:g<h.heap.size:=Nat.lt_trans Y hl;have ac:=hid r;obtain⟨⟨x1,x2,x3⟩,hx⟩:∃x,x=Zh 9 (y1,y2,y3):=⟨_,rfl⟩;rw[<-hx]at HU ⊢;clear r Z ab aa hx n0 n6 z0 z1 z2 z3 z4 z5 z6 z7;dsimp only[ov,r8]at HQ HU;go_enter func191,ntmps191
 go_wp2_with fail
 rw[<-ac.out];clear ac
 go_region_held3 (fun W:World=>Hid (Below w.heap.size w W)/\Hid (∃v0 v1 v2:Value,W.heap[w.heap.size+1]? =some (.cells #[v0,v1,v2] 210))/\W.cell? ⟨w.heap.size,0,none⟩=some (.int .i64 9)/\W.cell? ⟨w.heap.size,6,none⟩=some (.slice (some ⟨g,o,none⟩) 1 t)/\W.cell? ⟨g,o,none⟩=some (.int .i64 y)/\W.cell? ⟨g,o+1,none⟩=some (.string A)/\W.cell? ⟨g,o+2,none⟩=some (.int .u64 a1)/\W.cell? ⟨g,o+3,none⟩=some (.int .u64 D)/\W.cell? ⟨g,o+4,none⟩=some (.int .u64 c1)/\W.cell? ⟨g,o+5,none⟩=some (.int .u64 E)/\W.cell? ⟨g,o+6,none⟩=some (.slice G I U)/\W.cell? ⟨g,o+7,none⟩=some (.int .i64 p1)) (first|(with_reducible assumption)|(with_reducible exact Ad (by assumption) (by assumption))|(with_reducible exact Am Y (by assumption) _ rfl)) (first
  |(go_at_call 191;refine(HQ.out _ (Fc (by assumption))).mono ?_;rintro e w4 ⟨rfl,ae⟩;have ak:=ae.out)
  |(go_at_call 230;refine(HU.out _).mono ?_;rintro e w5 ⟨rfl,af⟩;have ag:=af.out;obtain⟨ad,ah⟩:=Ap (by assumption) ag;obtain⟨q0,q1,q2,V⟩:=ah.out;obtain⟨⟨u0,u1,u2⟩,f0,f1,f2⟩:=Zz V;have lr:=Qq V;have ai:=hid V;clear V))
 obtain⟨⟨r0,r1,r2⟩,_⟩:=Zz (Vd (v0:=.bool x1) (v1:=.bool x2) (v2:=.bool x3) ai.out)
 go_wp2_with fail
 refine bodyPost_ret (v:=.agg #[.bool x1,.bool x2,.bool x3]) (by simp[results,Tryz.results191,go_sem,r0,r1,r2]) rfl ?_;exact⟨rfl,hid (ad.out.grown (Xg _ _ _ _ _) ad.out.size (fun g e=>by have:=Option.some.inj e;omega))⟩
theorem y3J(B:Nat)(y1 y2 y3:Bool)(T:ByteArray)(a b c d:Int)(g o t:Nat)(p:Int)(y:Int)(A:ByteArray)(a1 D c1 E:Int)(G:Option Addr)(I U:Nat)(p1:Int)(w:World)(Y:g<w.heap.size)(aa:Rc w g o y A a1 D c1 E (.slice G I U) p1)
  (HQ:Hid (∀W:World,Below w.heap.size w W->Calls prog 191 #[.map (some B),.agg (r8 y A a1 D c1 E G I U p1).toArray] W fun e w'=>e=.returned (ov (y1,y2,y3))/\Hid (Below W.heap.size W w'))):
  Calls prog 191 #[.map (some B),.agg #[.int .i64 10,.string T,.int .u64 a,.int .u64 b,.int .u64 c,.int .u64 d,.slice (some ⟨g,o,none⟩) 1 t,.int .i64 p]] w fun e w'=>e=.returned (ov (Zh 10 (y1,y2,y3)))/\Hid (Below w.heap.size w w'):=by
 obtain⟨h,r⟩:∃h,h=(w.alloc (.cells #[.int .i64 10,.string T,.int .u64 a,.int .u64 b,.int .u64 c,.int .u64 d,.slice (some ⟨g,o,none⟩) 1 t,.int .i64 p] 81)).alloc (.cells #[.bool false,.bool false,.bool false] 210):=⟨_,rfl⟩;have Z:Below w.heap.size w h:=by rw[r];exact((Below.refl _ w).alloc L0q _).alloc (by simp) _
 have ab:Hid (h.heap[w.heap.size+1]? =some (.cells #[.bool false,.bool false,.bool false] 210)):=by rw[r];exact Qx _ _ (by simp)
 obtain⟨⟨n0,-,-,-,-,-,n6,-⟩,-⟩:=Qy (show h.heap[w.heap.size]? =_ by rw[r];exact(Below.heap_alloc _ _ _ (by simp)).trans (Qx w _ rfl));obtain⟨z0,z1,z2,z3,z4,z5,z6,z7⟩:=aa.below Z Y;have S0:(fun W:World=>Hid (Below w.heap.size w W)/\Hid (∃v0 v1 v2:Value,W.heap[w.heap.size+1]? =some (.cells #[v0,v1,v2] 210))/\W.cell? ⟨w.heap.size,0,none⟩=some (.int .i64 10)/\W.cell? ⟨w.heap.size,6,none⟩=some (.slice (some ⟨g,o,none⟩) 1 t)/\W.cell? ⟨g,o,none⟩=some (.int .i64 y)/\W.cell? ⟨g,o+1,none⟩=some (.string A)/\W.cell? ⟨g,o+2,none⟩=some (.int .u64 a1)/\W.cell? ⟨g,o+3,none⟩=some (.int .u64 D)/\W.cell? ⟨g,o+4,none⟩=some (.int .u64 c1)/\W.cell? ⟨g,o+5,none⟩=some (.int .u64 E)/\W.cell? ⟨g,o+6,none⟩=some (.slice G I U)/\W.cell? ⟨g,o+7,none⟩=some (.int .i64 p1)) h.drew:=⟨hid Z.drew,hid ⟨_,_,_,ab.out⟩,n0,n6,z0,z1,z2,z3,z4,z5,z6,z7⟩;have HU:=hid (y3i y1 y2 y3);have hl:w.heap.size<h.heap.size:=by rw[r];simp;omega
 have aj:g<h.heap.size:=Nat.lt_trans Y hl;have ac:=hid r;obtain⟨⟨x1,x2,x3⟩,hx⟩:∃x,x=Zh 10 (y1,y2,y3):=⟨_,rfl⟩;rw[<-hx]at HU ⊢;clear r Z ab aa hx n0 n6 z0 z1 z2 z3 z4 z5 z6 z7;dsimp only[ov,r8]at HQ HU;go_enter func191,ntmps191
 go_wp2_with fail
 rw[<-ac.out];clear ac
 go_region_held3 (fun W:World=>Hid (Below w.heap.size w W)/\Hid (∃v0 v1 v2:Value,W.heap[w.heap.size+1]? =some (.cells #[v0,v1,v2] 210))/\W.cell? ⟨w.heap.size,0,none⟩=some (.int .i64 10)/\W.cell? ⟨w.heap.size,6,none⟩=some (.slice (some ⟨g,o,none⟩) 1 t)/\W.cell? ⟨g,o,none⟩=some (.int .i64 y)/\W.cell? ⟨g,o+1,none⟩=some (.string A)/\W.cell? ⟨g,o+2,none⟩=some (.int .u64 a1)/\W.cell? ⟨g,o+3,none⟩=some (.int .u64 D)/\W.cell? ⟨g,o+4,none⟩=some (.int .u64 c1)/\W.cell? ⟨g,o+5,none⟩=some (.int .u64 E)/\W.cell? ⟨g,o+6,none⟩=some (.slice G I U)/\W.cell? ⟨g,o+7,none⟩=some (.int .i64 p1)) (first|(with_reducible assumption)|(with_reducible exact Ad (by assumption) (by assumption))|(with_reducible exact Am Y (by assumption) _ rfl)) (first
  |(go_at_call 191;refine(HQ.out _ (Fc (by assumption))).mono ?_;rintro e w4 ⟨rfl,ae⟩;have ak:=ae.out)
  |(go_at_call 230;refine(HU.out _).mono ?_;rintro e w5 ⟨rfl,af⟩;have ag:=af.out;obtain⟨ad,ah⟩:=Ap (by assumption) ag;obtain⟨q0,q1,q2,V⟩:=ah.out;obtain⟨⟨u0,u1,u2⟩,f0,f1,f2⟩:=Zz V;have lr:=Qq V;have ai:=hid V;clear V))
 obtain⟨⟨r0,r1,r2⟩,_⟩:=Zz (Vd (v0:=.bool x1) (v1:=.bool x2) (v2:=.bool x3) ai.out)
 go_wp2_with fail
 refine bodyPost_ret (v:=.agg #[.bool x1,.bool x2,.bool x3]) (by simp[results,Tryz.results191,go_sem,r0,r1,r2]) rfl ?_;exact⟨rfl,hid (ad.out.grown (Xg _ _ _ _ _) ad.out.size (fun g e=>by have:=Option.some.inj e;omega))⟩
theorem y3K(B:Nat)(y1 y2 y3:Bool)(T:ByteArray)(a b c d:Int)(g o t:Nat)(p:Int)(y:Int)(A:ByteArray)(a1 D c1 E:Int)(G:Option Addr)(I U:Nat)(p1:Int)(w:World)(Y:g<w.heap.size)(aa:Rc w g o y A a1 D c1 E (.slice G I U) p1)
  (HQ:Hid (∀W:World,Below w.heap.size w W->Calls prog 191 #[.map (some B),.agg (r8 y A a1 D c1 E G I U p1).toArray] W fun e w'=>e=.returned (ov (y1,y2,y3))/\Hid (Below W.heap.size W w'))):
  Calls prog 191 #[.map (some B),.agg #[.int .i64 11,.string T,.int .u64 a,.int .u64 b,.int .u64 c,.int .u64 d,.slice (some ⟨g,o,none⟩) 1 t,.int .i64 p]] w fun e w'=>e=.returned (ov (Zh 11 (y1,y2,y3)))/\Hid (Below w.heap.size w w'):=by
 obtain⟨h,r⟩:∃h,h=(w.alloc (.cells #[.int .i64 11,.string T,.int .u64 a,.int .u64 b,.int .u64 c,.int .u64 d,.slice (some ⟨g,o,none⟩) 1 t,.int .i64 p] 81)).alloc (.cells #[.bool false,.bool false,.bool false] 210):=⟨_,rfl⟩;have Z:Below w.heap.size w h:=by rw[r];exact((Below.refl _ w).alloc L0q _).alloc (by simp) _
 have ab:Hid (h.heap[w.heap.size+1]? =some (.cells #[.bool false,.bool false,.bool false] 210)):=by rw[r];exact Qx _ _ (by simp)
 obtain⟨⟨n0,-,-,-,-,-,n6,-⟩,-⟩:=Qy (show h.heap[w.heap.size]? =_ by rw[r];exact(Below.heap_alloc _ _ _ (by simp)).trans (Qx w _ rfl));obtain⟨z0,z1,z2,z3,z4,z5,z6,z7⟩:=aa.below Z Y;have S0:(fun W:World=>Hid (Below w.heap.size w W)/\Hid (∃v0 v1 v2:Value,W.heap[w.heap.size+1]? =some (.cells #[v0,v1,v2] 210))/\W.cell? ⟨w.heap.size,0,none⟩=some (.int .i64 11)/\W.cell? ⟨w.heap.size,6,none⟩=some (.slice (some ⟨g,o,none⟩) 1 t)/\W.cell? ⟨g,o,none⟩=some (.int .i64 y)/\W.cell? ⟨g,o+1,none⟩=some (.string A)/\W.cell? ⟨g,o+2,none⟩=some (.int .u64 a1)/\W.cell? ⟨g,o+3,none⟩=some (.int .u64 D)/\W.cell? ⟨g,o+4,none⟩=some (.int .u64 c1)/\W.cell? ⟨g,o+5,none⟩=some (.int .u64 E)/\W.cell? ⟨g,o+6,none⟩=some (.slice G I U)/\W.cell? ⟨g,o+7,none⟩=some (.int .i64 p1)) h.drew:=⟨hid Z.drew,hid ⟨_,_,_,ab.out⟩,n0,n6,z0,z1,z2,z3,z4,z5,z6,z7⟩;have HU:=hid (y3j y1 y2 y3);have hl:w.heap.size<h.heap.size:=by rw[r];simp;omega
 have aj:g<h.heap.size:=Nat.lt_trans Y hl;have ac:=hid r;obtain⟨⟨x1,x2,x3⟩,hx⟩:∃x,x=Zh 11 (y1,y2,y3):=⟨_,rfl⟩;rw[<-hx]at HU ⊢;clear r Z ab aa hx n0 n6 z0 z1 z2 z3 z4 z5 z6 z7;dsimp only[ov,r8]at HQ HU;go_enter func191,ntmps191
 go_wp2_with fail
 rw[<-ac.out];clear ac
 go_region_held3 (fun W:World=>Hid (Below w.heap.size w W)/\Hid (∃v0 v1 v2:Value,W.heap[w.heap.size+1]? =some (.cells #[v0,v1,v2] 210))/\W.cell? ⟨w.heap.size,0,none⟩=some (.int .i64 11)/\W.cell? ⟨w.heap.size,6,none⟩=some (.slice (some ⟨g,o,none⟩) 1 t)/\W.cell? ⟨g,o,none⟩=some (.int .i64 y)/\W.cell? ⟨g,o+1,none⟩=some (.string A)/\W.cell? ⟨g,o+2,none⟩=some (.int .u64 a1)/\W.cell? ⟨g,o+3,none⟩=some (.int .u64 D)/\W.cell? ⟨g,o+4,none⟩=some (.int .u64 c1)/\W.cell? ⟨g,o+5,none⟩=some (.int .u64 E)/\W.cell? ⟨g,o+6,none⟩=some (.slice G I U)/\W.cell? ⟨g,o+7,none⟩=some (.int .i64 p1)) (first|(with_reducible assumption)|(with_reducible exact Ad (by assumption) (by assumption))|(with_reducible exact Am Y (by assumption) _ rfl)) (first
  |(go_at_call 191;refine(HQ.out _ (Fc (by assumption))).mono ?_;rintro e w4 ⟨rfl,ae⟩;have ak:=ae.out)
  |(go_at_call 230;refine(HU.out _).mono ?_;rintro e w5 ⟨rfl,af⟩;have ag:=af.out;obtain⟨ad,ah⟩:=Ap (by assumption) ag;obtain⟨q0,q1,q2,V⟩:=ah.out;obtain⟨⟨u0,u1,u2⟩,f0,f1,f2⟩:=Zz V;have lr:=Qq V;have ai:=hid V;clear V))
 obtain⟨⟨r0,r1,r2⟩,_⟩:=Zz (Vd (v0:=.bool x1) (v1:=.bool x2) (v2:=.bool x3) ai.out)
 go_wp2_with fail
 refine bodyPost_ret (v:=.agg #[.bool x1,.bool x2,.bool x3]) (by simp[results,Tryz.results191,go_sem,r0,r1,r2]) rfl ?_;exact⟨rfl,hid (ad.out.grown (Xg _ _ _ _ _) ad.out.size (fun g e=>by have:=Option.some.inj e;omega))⟩
theorem y3L(B:Nat)(y1 y2 y3:Bool)(T:ByteArray)(a b c d:Int)(g o t:Nat)(p:Int)(y:Int)(A:ByteArray)(a1 D c1 E:Int)(G:Option Addr)(I U:Nat)(p1:Int)(w:World)(Y:g<w.heap.size)(aa:Rc w g o y A a1 D c1 E (.slice G I U) p1)
  (HQ:Hid (∀W:World,Below w.heap.size w W->Calls prog 191 #[.map (some B),.agg (r8 y A a1 D c1 E G I U p1).toArray] W fun e w'=>e=.returned (ov (y1,y2,y3))/\Hid (Below W.heap.size W w'))):
  Calls prog 191 #[.map (some B),.agg #[.int .i64 12,.string T,.int .u64 a,.int .u64 b,.int .u64 c,.int .u64 d,.slice (some ⟨g,o,none⟩) 1 t,.int .i64 p]] w fun e w'=>e=.returned (ov (Zh 12 (y1,y2,y3)))/\Hid (Below w.heap.size w w'):=by
 obtain⟨h,r⟩:∃h,h=(w.alloc (.cells #[.int .i64 12,.string T,.int .u64 a,.int .u64 b,.int .u64 c,.int .u64 d,.slice (some ⟨g,o,none⟩) 1 t,.int .i64 p] 81)).alloc (.cells #[.bool false,.bool false,.bool false] 210):=⟨_,rfl⟩;have Z:Below w.heap.size w h:=by rw[r];exact((Below.refl _ w).alloc L0q _).alloc (by simp) _
 have ab:Hid (h.heap[w.heap.size+1]? =some (.cells #[.bool false,.bool false,.bool false] 210)):=by rw[r];exact Qx _ _ (by simp)
 obtain⟨⟨n0,-,-,-,-,-,n6,-⟩,-⟩:=Qy (show h.heap[w.heap.size]? =_ by rw[r];exact(Below.heap_alloc _ _ _ (by simp)).trans (Qx w _ rfl));obtain⟨z0,z1,z2,z3,z4,z5,z6,z7⟩:=aa.below Z Y;have S0:(fun W:World=>Hid (Below w.heap.size w W)/\Hid (∃v0 v1 v2:Value,W.heap[w.heap.size+1]? =some (.cells #[v0,v1,v2] 210))/\W.cell? ⟨w.heap.size,0,none⟩=some (.int .i64 12)/\W.cell? ⟨w.heap.size,6,none⟩=some (.slice (some ⟨g,o,none⟩) 1 t)/\W.cell? ⟨g,o,none⟩=some (.int .i64 y)/\W.cell? ⟨g,o+1,none⟩=some (.string A)/\W.cell? ⟨g,o+2,none⟩=some (.int .u64 a1)/\W.cell? ⟨g,o+3,none⟩=some (.int .u64 D)/\W.cell? ⟨g,o+4,none⟩=some (.int .u64 c1)/\W.cell? ⟨g,o+5,none⟩=some (.int .u64 E)/\W.cell? ⟨g,o+6,none⟩=some (.slice G I U)/\W.cell? ⟨g,o+7,none⟩=some (.int .i64 p1)) h.drew:=⟨hid Z.drew,hid ⟨_,_,_,ab.out⟩,n0,n6,z0,z1,z2,z3,z4,z5,z6,z7⟩;have HU:=hid (y3k y1 y2 y3);have hl:w.heap.size<h.heap.size:=by rw[r];simp;omega
 have aj:g<h.heap.size:=Nat.lt_trans Y hl;have ac:=hid r;obtain⟨⟨x1,x2,x3⟩,hx⟩:∃x,x=Zh 12 (y1,y2,y3):=⟨_,rfl⟩;rw[<-hx]at HU ⊢;clear r Z ab aa hx n0 n6 z0 z1 z2 z3 z4 z5 z6 z7;dsimp only[ov,r8]at HQ HU;go_enter func191,ntmps191
 go_wp2_with fail
 rw[<-ac.out];clear ac
 go_region_held3 (fun W:World=>Hid (Below w.heap.size w W)/\Hid (∃v0 v1 v2:Value,W.heap[w.heap.size+1]? =some (.cells #[v0,v1,v2] 210))/\W.cell? ⟨w.heap.size,0,none⟩=some (.int .i64 12)/\W.cell? ⟨w.heap.size,6,none⟩=some (.slice (some ⟨g,o,none⟩) 1 t)/\W.cell? ⟨g,o,none⟩=some (.int .i64 y)/\W.cell? ⟨g,o+1,none⟩=some (.string A)/\W.cell? ⟨g,o+2,none⟩=some (.int .u64 a1)/\W.cell? ⟨g,o+3,none⟩=some (.int .u64 D)/\W.cell? ⟨g,o+4,none⟩=some (.int .u64 c1)/\W.cell? ⟨g,o+5,none⟩=some (.int .u64 E)/\W.cell? ⟨g,o+6,none⟩=some (.slice G I U)/\W.cell? ⟨g,o+7,none⟩=some (.int .i64 p1)) (first|(with_reducible assumption)|(with_reducible exact Ad (by assumption) (by assumption))|(with_reducible exact Am Y (by assumption) _ rfl)) (first
  |(go_at_call 191;refine(HQ.out _ (Fc (by assumption))).mono ?_;rintro e w4 ⟨rfl,ae⟩;have ak:=ae.out)
  |(go_at_call 230;refine(HU.out _).mono ?_;rintro e w5 ⟨rfl,af⟩;have ag:=af.out;obtain⟨ad,ah⟩:=Ap (by assumption) ag;obtain⟨q0,q1,q2,V⟩:=ah.out;obtain⟨⟨u0,u1,u2⟩,f0,f1,f2⟩:=Zz V;have lr:=Qq V;have ai:=hid V;clear V))
 obtain⟨⟨r0,r1,r2⟩,_⟩:=Zz (Vd (v0:=.bool x1) (v1:=.bool x2) (v2:=.bool x3) ai.out)
 go_wp2_with fail
 refine bodyPost_ret (v:=.agg #[.bool x1,.bool x2,.bool x3]) (by simp[results,Tryz.results191,go_sem,r0,r1,r2]) rfl ?_;exact⟨rfl,hid (ad.out.grown (Xg _ _ _ _ _) ad.out.size (fun g e=>by have:=Option.some.inj e;omega))⟩
theorem Ac{s0:Nat}{s:List RT}{G:Option Addr}(aa:s0<=w.heap.size)(U:s.isEmpty=true∨(s.isEmpty=false/\∃g o,G=some ⟨g,o,none⟩/\g<s0/\Qb s<=maxLen/\Zx w s0 g o s))(j:Nat)(I:j<s.length):
  ∃g o,G=some ⟨g,o,none⟩/\g<w.heap.size/\∃h r a1 t c1 y A D E p1,Rc w g (o+j*8) h r a1 t c1 y (.slice A D E) p1/\Qv w s0 s[j] (r8 h r a1 t c1 y A D E p1):=by
 rcases U with V|⟨_,g,o,Y,h3,_,Z⟩
 ·cases s
  ·simp at I
  ·simp at V
 ·obtain⟨h,r,a1,t,c1,y,A,D,E,p1,h6,h7⟩:=Aj Z j I
  exact⟨g,o,Y,by omega,h,r,a1,t,c1,y,A,D,E,p1,h7,h6⟩
theorem Ix{s0:Nat}{s:List RT}{h:Option Addr}(r:s.isEmpty=true∨(s.isEmpty=false/\∃g o,h=some ⟨g,o,none⟩/\g<s0/\Qb s<=maxLen/\Zx w s0 g o s)):Qb s<=9223372036854775807:=by
 rcases r with t|⟨_,g,o,_,_,y,_⟩
 ·cases s
  ·rw[Qb];omega
  ·simp at t
 ·unfold maxLen at y
  omega
theorem y3M{k:Int}{T:ByteArray}{a b c d:Int}{n:Nat}(h:okN k T a b c d n=true):(k=1∨k=2∨k=3∨k=4∨k=5∨k=6∨k=7)∨((k=8∨k=9∨k=10∨k=11∨k=12)/\n=1):=by
 unfold okN at h;by_cases h1:k=1∨k=4
 ·omega
 rw[if_neg h1]at h;by_cases h2:k=2
 ·omega
 rw[if_neg h2]at h;by_cases h3:k=3
 ·omega
 rw[if_neg h3]at h;by_cases h5:k=5
 ·omega
 rw[if_neg h5]at h;by_cases h6:k=6∨k=7
 ·omega
 rw[if_neg h6]at h;by_cases h8:8<=k/\k<=12
 ·rw[if_pos h8,Bool.and_eq_true,Bool.and_eq_true]at h
  have:=h.2.2;simp at this;refine .inr ⟨by omega,by omega⟩
 ·rw[if_neg h8]at h
  cases h
theorem z5a(B nn:Nat)(K:ByteArray->Ot):∀(Q:Nat) (t:RT),SizeOf.sizeOf t<Q->∀(cs:List Value) (w:World) (s0:Nat),Qv w s0 t cs->s0<=w.heap.size->RtZ t->okT t=true->Nm w B nn K->Calls prog 191 #[.map (some B),.agg cs.toArray] w fun e w'=>e=.returned (ov (ofT K t))/\Hid (Below w.heap.size w w')
 |0,t,h=>by omega
 |Q+1,.mk k T a b c d s p,h=>by
  intro cs w s0 ht aa hz ab hM;rw[Qv]at ht;obtain⟨so,D,rfl,ad⟩:=ht;rw[RtZ]at hz;rw[okT,Bool.and_eq_true]at ab;have hT:=hz.1;have hl:=Ix ad;have hB:=hM.lt;have ac:∀j (hj:j<s.length),∃g o,so=some ⟨g,o,none⟩/\g<w.heap.size/\∃E G a1 I c1 U V Y Z p1,Rc w g (o+j*8) E G a1 I c1 U (.slice V Y Z) p1/\∀W:World,Below w.heap.size w W->Calls prog 191 #[.map (some B),.agg (r8 E G a1 I c1 U V Y Z p1).toArray] W fun e w'=>e=.returned (ov (ofT K s[j]))/\Hid (Below W.heap.size W w'):=fun j hj=>by
   obtain⟨g,o,h1,h2,E,G,a1,I,c1,U,V,Y,Z,p1,A,h4⟩:=Ac aa ad j hj;refine⟨g,o,h1,h2,E,G,a1,I,c1,U,V,Y,Z,p1,A,fun W hW=> ?_⟩;refine z5a B nn K Q s[j] ?_ _ W s0 (h4.below (hW.mono aa)) (Nat.le_trans aa hW.size) (hz.2.get j hj) (Hy ab.2 j hj) (hM.below hW hB);have h1:=List.sizeOf_lt_of_mem (List.getElem_mem hj);simp only[RT.mk.sizeOf_spec]at h;omega
  rw[ofT];dsimp only[r8];rcases y3M ab.1 with(rfl|rfl|rfl|rfl|rfl|rfl|rfl)|⟨hk,h1⟩
  ·exact y3l (some B) T a b c d so _ D p w
  ·by_cases h0:T.size=0
   ·have e:T={data:=#[]}:=by
     apply ByteArray.ext;exact Array.eq_empty_of_size_eq_zero h0
    rw[if_neg (by decide),if_pos rfl,if_pos h0];exact y3n (some B) T a b c d so _ D p w e
   ·rw[if_neg (by decide),if_pos rfl,if_neg h0]
    refine y3o (some B) T a b c d so _ D p w ?_;cases e:T.toList with
    |nil=>
     exfalso;apply h0;have:=congrArg List.length e;rw[ByteArray.toList_eq]at this;simpa using this
    |cons x r=>rfl
  ·rw[if_neg (by decide),if_neg (by decide),if_pos rfl]
   have A:=y3B (some B) T a b c d so (Qb s) D p w;by_cases hz:a=0/\b=0/\c=0/\d=0
   ·obtain⟨rfl,rfl,rfl,rfl⟩:=hz
    exact A
   ·rw[if_neg hz]
    rw[if_neg (by intro e;exact hz (by unfold zc at e;simpa using e))]at A;exact A
  ·exact y3m (some B) T a b c d so _ D p w
  ·exact y3A B nn K T a b c d so _ D p w hM hT
  ·obtain⟨⟨x1,x2,x3⟩,hx⟩:∃x,x=ofS K (true,false,false) s:=⟨_,rfl⟩
   rw[if_neg (by decide),if_neg (by decide),if_neg (by decide),if_neg (by decide),if_neg (by decide),if_pos rfl,<-hx];refine y3F B x1 x2 x3 T a b c d so _ D p w fun W hW=> ?_
   rw[hx];refine y3C B K so _ D s W hl (Xc s) fun j hj=> ?_
   obtain⟨g,o,h1,h2,E,G,a1,I,c1,U,V,Y,Z,p1,A,h4⟩:=ac j hj;exact⟨g,o,h1,Nat.lt_of_lt_of_le h2 hW.size,E,G,a1,I,c1,U,V,Y,Z,p1,A.below hW h2,fun W2 h5=>h4 W2 (hW.trans (h5.mono hW.size))⟩
  ·obtain⟨⟨x1,x2,x3⟩,hx⟩:∃x,x=ofA K (false,false,true) s:=⟨_,rfl⟩
   rw[if_neg (by decide),if_neg (by decide),if_neg (by decide),if_neg (by decide),if_neg (by decide),if_neg (by decide),if_pos rfl,<-hx];refine y3G B x1 x2 x3 T a b c d so _ D p w fun W hW=> ?_
   rw[hx];refine y3E B K so _ D s W hl (Xc s) fun j hj=> ?_
   obtain⟨g,o,h1,h2,E,G,a1,I,c1,U,V,Y,Z,p1,A,h4⟩:=ac j hj;exact⟨g,o,h1,Nat.lt_of_lt_of_le h2 hW.size,E,G,a1,I,c1,U,V,Y,Z,p1,A.below hW h2,fun W2 h5=>h4 W2 (hW.trans (h5.mono hW.size))⟩
  ·rw[Xc]at h1
   obtain⟨u,rfl⟩:∃u,s=[u]:=by
    cases s with
    |nil=>simp at h1
    |cons u r=>cases r with
     |nil=>exact⟨u,rfl⟩
     |cons v r=>simp at h1
   obtain⟨g,o,rfl,h2,E,G,a1,I,c1,U,V,Y,Z,p1,A,h4⟩:=ac 0 (by simp);rw[Nat.zero_mul,Nat.add_zero]at A;obtain⟨⟨y1,y2,y3⟩,hy⟩:∃y,y=ofT K u:=⟨_,rfl⟩;have H4:Hid (∀W:World,Below w.heap.size w W->Calls prog 191 #[.map (some B),.agg (r8 E G a1 I c1 U V Y Z p1).toArray] W fun e w'=>e=.returned (ov (y1,y2,y3))/\Hid (Below W.heap.size W w')):=fun W hW=>by rw[hy];exact h4 W hW
   have eh:ofH K [u]=(y1,y2,y3):=by rw[ofH,hy]
   rw[eh];rcases hk with rfl|rfl|rfl|rfl|rfl
   ·exact y3H B y1 y2 y3 T a b c d g o D p E G a1 I c1 U V Y Z p1 w h2 A H4
   ·exact y3I B y1 y2 y3 T a b c d g o D p E G a1 I c1 U V Y Z p1 w h2 A H4
   ·exact y3J B y1 y2 y3 T a b c d g o D p E G a1 I c1 U V Y Z p1 w h2 A H4
   ·exact y3K B y1 y2 y3 T a b c d g o D p E G a1 I c1 U V Y Z p1 w h2 A H4
   ·exact y3L B y1 y2 y3 T a b c d g o D p E G a1 I c1 U V Y Z p1 w h2 A H4
theorem z5b(B o:Nat)(K:ByteArray->Ot)(t:RT)(h:List Value)(w:World)(s0:Nat)(r:Qv w s0 t h)(y:s0<=w.heap.size)(A:RtZ t)(D:okT t=true)(E:Nm w B o K):Calls prog 191 #[.map (some B),.agg h.toArray] w fun e w'=>e=.returned (ov (ofT K t))/\Hid (Below w.heap.size w w'):=
 z5a B o K _ t (Nat.lt_succ_self _) h w s0 r y A D E
end Go.Proofs.YtgnkkgcgbeianaaGreatDoor
