/- Lemmas for the last text. Conditions: those that each names. -/
import Derived.Test.YtlogolpcipiceaaGreatDoorVU3ToU7
set_option linter.unusedVariables false
set_option maxRecDepth 100000
set_option maxHeartbeats 4000000
namespace Go.Proofs.YtlogolpcipiceaaGreatDoor
open Go.Proofs.Tryz
open Go.RowKit Go.Shelf Go.Maps
variable {W w:World}
theorem y0E(B:Nat)(x1 x2 x3:Bool)(T:ByteArray)(a b c d:Int)(so:Option Addr)(n cap:Nat)(p:Int)(w:World)
  (HQ:Hid (∀W:World,Below w.heap.size w W->Calls prog 236 #[.map (some B),.slice so n cap] W fun e w'=>e=.returned (ov (x1,x2,x3))/\Hid (Below W.heap.size W w'))):
  Calls prog 201 #[.map (some B),.agg #[.int .i64 6,.string T,.int .u64 a,.int .u64 b,.int .u64 c,.int .u64 d,.slice so n cap,.int .i64 p]] w fun e w'=>e=.returned (ov (x1,x2,x3))/\Hid (Below w.heap.size w w'):=by
 obtain⟨W1,hW1⟩:∃W1,W1=(w.alloc (.cells #[.int .i64 6,.string T,.int .u64 a,.int .u64 b,.int .u64 c,.int .u64 d,.slice so n cap,.int .i64 p] 71)).alloc (.cells #[.bool false,.bool false,.bool false] 199):=⟨_,rfl⟩;have hB1:Below w.heap.size w W1:=by rw[hW1];exact((Below.refl _ w).alloc L0q _).alloc (by simp) _
 have HR1:Hid (W1.heap[w.heap.size+1]? =some (.cells #[.bool false,.bool false,.bool false] 199)):=by rw[hW1];exact Qx _ _ (by simp)
 have HB1:=hid hB1;have HS:=hid (HQ.out W1 hB1);have HW1:=hid hW1;clear hW1 hB1 HQ;dsimp only[ov]at HS;go_enter func201,ntmps201
 go_wp2_with(first
  |(go_at_call 236;rw[<-HW1.out];refine HS.out.mono ?_;rintro e w4 ⟨rfl,HB4⟩;have hr4:=(HB4.out.block _ (Qz HR1.out)).trans HR1.out;obtain⟨⟨u0,u1,u2⟩,f0,f1,f2⟩:=Zz hr4;have lr:=Qz hr4;have HR4:=hid hr4;clear hr4))
 obtain⟨⟨r0,r1,r2⟩,_⟩:=Zz (Vy (v0:=.bool x1) (v1:=.bool x2) (v2:=.bool x3) HR4.out);refine bodyPost_ret (v:=.agg #[.bool x1,.bool x2,.bool x3]) (by simp[results,Tryz.results201,go_sem,r0,r1,r2]) rfl ?_;have hb4:=HB1.out.trans (HB4.out.mono HB1.out.size);exact⟨rfl,hid (hb4.grown (Xj _ _ _ _ _) hb4.size (fun g e=>by have:=Option.some.inj e;omega))⟩
theorem y0F(B:Nat)(x1 x2 x3:Bool)(T:ByteArray)(a b c d:Int)(so:Option Addr)(n cap:Nat)(p:Int)(w:World)
  (HQ:Hid (∀W:World,Below w.heap.size w W->Calls prog 237 #[.map (some B),.slice so n cap] W fun e w'=>e=.returned (ov (x1,x2,x3))/\Hid (Below W.heap.size W w'))):
  Calls prog 201 #[.map (some B),.agg #[.int .i64 7,.string T,.int .u64 a,.int .u64 b,.int .u64 c,.int .u64 d,.slice so n cap,.int .i64 p]] w fun e w'=>e=.returned (ov (x1,x2,x3))/\Hid (Below w.heap.size w w'):=by
 obtain⟨W1,hW1⟩:∃W1,W1=(w.alloc (.cells #[.int .i64 7,.string T,.int .u64 a,.int .u64 b,.int .u64 c,.int .u64 d,.slice so n cap,.int .i64 p] 71)).alloc (.cells #[.bool false,.bool false,.bool false] 199):=⟨_,rfl⟩;have hB1:Below w.heap.size w W1:=by rw[hW1];exact((Below.refl _ w).alloc L0q _).alloc (by simp) _
 have HR1:Hid (W1.heap[w.heap.size+1]? =some (.cells #[.bool false,.bool false,.bool false] 199)):=by rw[hW1];exact Qx _ _ (by simp)
 have HB1:=hid hB1;have HS:=hid (HQ.out W1 hB1);have HW1:=hid hW1;clear hW1 hB1 HQ;dsimp only[ov]at HS;go_enter func201,ntmps201
 go_wp2_with(first
  |(go_at_call 237;rw[<-HW1.out];refine HS.out.mono ?_;rintro e w4 ⟨rfl,HB4⟩;have hr4:=(HB4.out.block _ (Qz HR1.out)).trans HR1.out;obtain⟨⟨u0,u1,u2⟩,f0,f1,f2⟩:=Zz hr4;have lr:=Qz hr4;have HR4:=hid hr4;clear hr4))
 obtain⟨⟨r0,r1,r2⟩,_⟩:=Zz (Vy (v0:=.bool x1) (v1:=.bool x2) (v2:=.bool x3) HR4.out);refine bodyPost_ret (v:=.agg #[.bool x1,.bool x2,.bool x3]) (by simp[results,Tryz.results201,go_sem,r0,r1,r2]) rfl ?_;have hb4:=HB1.out.trans (HB4.out.mono HB1.out.size);exact⟨rfl,hid (hb4.grown (Xj _ _ _ _ _) hb4.size (fun g e=>by have:=Option.some.inj e;omega))⟩
theorem Gc{p:Prop}(h:Hid (Below w.heap.size w W)/\p):Below w.heap.size w W:=h.1.out
theorem Mm{W':World}{v0 v1:Value}{g o:Nat}{y0 y1 y2 y3 y4 y5 y6 y7:Value}(h:Hid (Below w.heap.size w W)/\Hid (∃v0 v1 v2:Value,W.heap[w.heap.size+1]? =some (.cells #[v0,v1,v2] 199))/\W.cell? ⟨w.heap.size,0,none⟩=some v0/\W.cell? ⟨w.heap.size,6,none⟩=some v1/\W.cell? ⟨g,o,none⟩=some y0/\W.cell? ⟨g,o+1,none⟩=some y1/\W.cell? ⟨g,o+2,none⟩=some y2/\W.cell? ⟨g,o+3,none⟩=some y3/\W.cell? ⟨g,o+4,none⟩=some y4/\W.cell? ⟨g,o+5,none⟩=some y5/\W.cell? ⟨g,o+6,none⟩=some y6/\W.cell? ⟨g,o+7,none⟩=some y7)(hb:Below W.heap.size W W'):Hid (Below w.heap.size w W')/\Hid (∃v0 v1 v2:Value,W'.heap[w.heap.size+1]? =some (.cells #[v0,v1,v2] 199))/\W'.cell? ⟨w.heap.size,0,none⟩=some v0/\W'.cell? ⟨w.heap.size,6,none⟩=some v1/\W'.cell? ⟨g,o,none⟩=some y0/\W'.cell? ⟨g,o+1,none⟩=some y1/\W'.cell? ⟨g,o+2,none⟩=some y2/\W'.cell? ⟨g,o+3,none⟩=some y3/\W'.cell? ⟨g,o+4,none⟩=some y4/\W'.cell? ⟨g,o+5,none⟩=some y5/\W'.cell? ⟨g,o+6,none⟩=some y6/\W'.cell? ⟨g,o+7,none⟩=some y7:=by
 obtain⟨h1,h2,z0,z1,z2,z3,z4,z5,z6,z7,z8,z9⟩:=h;have e:∀{a:Addr} {u:Value},W.cell? a=some u->W'.cell? a=some u:=fun{a u} h=>(hb.cell (p:=a) (World.block_lt_of_cell? W _ h)).trans h
 obtain⟨r0,r1,r2,hr⟩:=h2.out;exact⟨hid (h1.out.trans (hb.mono h1.out.size)),hid ⟨r0,r1,r2,(hb.block _ (Qz hr)).trans hr⟩,e z0,e z1,e z2,e z3,e z4,e z5,e z6,e z7,e z8,e z9⟩
theorem Mp{v0 v1:Value}{g o:Nat}{y0 y1 y2 y3 y4 y5 y6 y7:Value}{x1 x2 x3:Value}(hg:g<w.heap.size)(h:Hid (Below w.heap.size w W)/\Hid (∃v0 v1 v2:Value,W.heap[w.heap.size+1]? =some (.cells #[v0,v1,v2] 199))/\W.cell? ⟨w.heap.size,0,none⟩=some v0/\W.cell? ⟨w.heap.size,6,none⟩=some v1/\W.cell? ⟨g,o,none⟩=some y0/\W.cell? ⟨g,o+1,none⟩=some y1/\W.cell? ⟨g,o+2,none⟩=some y2/\W.cell? ⟨g,o+3,none⟩=some y3/\W.cell? ⟨g,o+4,none⟩=some y4/\W.cell? ⟨g,o+5,none⟩=some y5/\W.cell? ⟨g,o+6,none⟩=some y6/\W.cell? ⟨g,o+7,none⟩=some y7)(W':World)(e:W'=((W.setCell ⟨w.heap.size+1,0,none⟩ x1).setCell ⟨w.heap.size+1,1,none⟩ x2).setCell ⟨w.heap.size+1,2,none⟩ x3):Hid (Below w.heap.size w W')/\Hid (∃v0 v1 v2:Value,W'.heap[w.heap.size+1]? =some (.cells #[v0,v1,v2] 199))/\W'.cell? ⟨w.heap.size,0,none⟩=some v0/\W'.cell? ⟨w.heap.size,6,none⟩=some v1/\W'.cell? ⟨g,o,none⟩=some y0/\W'.cell? ⟨g,o+1,none⟩=some y1/\W'.cell? ⟨g,o+2,none⟩=some y2/\W'.cell? ⟨g,o+3,none⟩=some y3/\W'.cell? ⟨g,o+4,none⟩=some y4/\W'.cell? ⟨g,o+5,none⟩=some y5/\W'.cell? ⟨g,o+6,none⟩=some y6/\W'.cell? ⟨g,o+7,none⟩=some y7:=by
 obtain⟨h1,h2,z0,z1,z2,z3,z4,z5,z6,z7,z8,z9⟩:=h;have hs:W.grownBy W' (some (w.heap.size+1)):=by rw[e];exact Xj _ _ _ _ _
 have k:∀{a:Addr} {u:Value},a.block≠w.heap.size+1->W.cell? a=some u->W'.cell? a=some u:=fun{a u} hne h=>(World.cell?_of_block (hs.block a.block (World.block_lt_of_cell? W _ h) (fun e=>hne (Option.some.inj e)))).trans h
 obtain⟨r0,r1,r2,hr⟩:=h2.out;have hl:∀j,(⟨w.heap.size,j,none⟩:Addr).block≠w.heap.size+1:=fun j=>by show w.heap.size≠_;omega
 have hl2:∀j,(⟨g,j,none⟩:Addr).block≠w.heap.size+1:=fun j=>by show g≠_;omega
 exact⟨hid (h1.out.grown hs h1.out.size (fun g e=>by have:=Option.some.inj e;omega)),hid ⟨x1,x2,x3,by rw[e];exact Vy hr⟩,k (hl _) z0,k (hl _) z1,k (hl2 _) z2,k (hl2 _) z3,k (hl2 _) z4,k (hl2 _) z5,k (hl2 _) z6,k (hl2 _) z7,k (hl2 _) z8,k (hl2 _) z9⟩
theorem Mc{W':World}{p:Prop}(h:Hid (Below w.heap.size w W)/\Hid (∃v0 v1 v2:Value,W.heap[w.heap.size+1]? =some (.cells #[v0,v1,v2] 199))/\p)(hb:Below W.heap.size W W'):Hid (Below w.heap.size w W')/\Hid (∃v0 v1 v2:Value,W'.heap[w.heap.size+1]? =some (.cells #[v0,v1,v2] 199)):=by
 obtain⟨r0,r1,r2,hr⟩:=h.2.1.out;exact⟨hid (h.1.out.trans (hb.mono h.1.out.size)),hid ⟨r0,r1,r2,(hb.block _ (Qz hr)).trans hr⟩⟩
theorem y0G(B:Nat)(y1 y2 y3:Bool)(T:ByteArray)(a b c d:Int)(g o cap:Nat)(p:Int)(k1:Int)(T1:ByteArray)(a1 b1 c1 d1:Int)(so1:Option Addr)(n1 cap1:Nat)(p1:Int)(w:World)(hg:g<w.heap.size)(hrc:Rc w g o k1 T1 a1 b1 c1 d1 (.slice so1 n1 cap1) p1)
  (HQ:Hid (∀W:World,Below w.heap.size w W->Calls prog 201 #[.map (some B),.agg (r8 k1 T1 a1 b1 c1 d1 so1 n1 cap1 p1).toArray] W fun e w'=>e=.returned (ov (y1,y2,y3))/\Hid (Below W.heap.size W w'))):
  Calls prog 201 #[.map (some B),.agg #[.int .i64 8,.string T,.int .u64 a,.int .u64 b,.int .u64 c,.int .u64 d,.slice (some ⟨g,o,none⟩) 1 cap,.int .i64 p]] w fun e w'=>e=.returned (ov (Xg 8 (y1,y2,y3)))/\Hid (Below w.heap.size w w'):=by
 obtain⟨W1,hW1⟩:∃W1,W1=(w.alloc (.cells #[.int .i64 8,.string T,.int .u64 a,.int .u64 b,.int .u64 c,.int .u64 d,.slice (some ⟨g,o,none⟩) 1 cap,.int .i64 p] 71)).alloc (.cells #[.bool false,.bool false,.bool false] 199):=⟨_,rfl⟩;have hB1:Below w.heap.size w W1:=by rw[hW1];exact((Below.refl _ w).alloc L0q _).alloc (by simp) _
 have HR1:Hid (W1.heap[w.heap.size+1]? =some (.cells #[.bool false,.bool false,.bool false] 199)):=by rw[hW1];exact Qx _ _ (by simp)
 obtain⟨⟨n0,-,-,-,-,-,n6,-⟩,-⟩:=Qw (show W1.heap[w.heap.size]? =_ by rw[hW1];exact(Below.heap_alloc _ _ _ (by simp)).trans (Qx w _ rfl));obtain⟨z0,z1,z2,z3,z4,z5,z6,z7⟩:=hrc.below hB1 hg;have S0:(fun W:World=>Hid (Below w.heap.size w W)/\Hid (∃v0 v1 v2:Value,W.heap[w.heap.size+1]? =some (.cells #[v0,v1,v2] 199))/\W.cell? ⟨w.heap.size,0,none⟩=some (.int .i64 8)/\W.cell? ⟨w.heap.size,6,none⟩=some (.slice (some ⟨g,o,none⟩) 1 cap)/\W.cell? ⟨g,o,none⟩=some (.int .i64 k1)/\W.cell? ⟨g,o+1,none⟩=some (.string T1)/\W.cell? ⟨g,o+2,none⟩=some (.int .u64 a1)/\W.cell? ⟨g,o+3,none⟩=some (.int .u64 b1)/\W.cell? ⟨g,o+4,none⟩=some (.int .u64 c1)/\W.cell? ⟨g,o+5,none⟩=some (.int .u64 d1)/\W.cell? ⟨g,o+6,none⟩=some (.slice so1 n1 cap1)/\W.cell? ⟨g,o+7,none⟩=some (.int .i64 p1)) W1.drew:=⟨hid hB1.drew,hid ⟨_,_,_,HR1.out⟩,n0,n6,z0,z1,z2,z3,z4,z5,z6,z7⟩;have HU:=hid (y0f y1 y2 y3);have hl:w.heap.size<W1.heap.size:=by rw[hW1];simp;omega
 have hgl:g<W1.heap.size:=Nat.lt_trans hg hl;have HW1:=hid hW1;obtain⟨⟨x1,x2,x3⟩,hx⟩:∃x,x=Xg 8 (y1,y2,y3):=⟨_,rfl⟩;rw[<-hx]at HU ⊢;clear hW1 hB1 HR1 hrc hx n0 n6 z0 z1 z2 z3 z4 z5 z6 z7;dsimp only[ov,r8]at HQ HU;go_enter func201,ntmps201
 go_wp2_with fail
 rw[<-HW1.out];clear HW1
 go_region_held3 (fun W:World=>Hid (Below w.heap.size w W)/\Hid (∃v0 v1 v2:Value,W.heap[w.heap.size+1]? =some (.cells #[v0,v1,v2] 199))/\W.cell? ⟨w.heap.size,0,none⟩=some (.int .i64 8)/\W.cell? ⟨w.heap.size,6,none⟩=some (.slice (some ⟨g,o,none⟩) 1 cap)/\W.cell? ⟨g,o,none⟩=some (.int .i64 k1)/\W.cell? ⟨g,o+1,none⟩=some (.string T1)/\W.cell? ⟨g,o+2,none⟩=some (.int .u64 a1)/\W.cell? ⟨g,o+3,none⟩=some (.int .u64 b1)/\W.cell? ⟨g,o+4,none⟩=some (.int .u64 c1)/\W.cell? ⟨g,o+5,none⟩=some (.int .u64 d1)/\W.cell? ⟨g,o+6,none⟩=some (.slice so1 n1 cap1)/\W.cell? ⟨g,o+7,none⟩=some (.int .i64 p1)) (first|(with_reducible assumption)|(with_reducible exact Mm (by assumption) (by assumption))|(with_reducible exact Mp hg (by assumption) _ rfl)) (first
  |(go_at_call 201;refine(HQ.out _ (Gc (by assumption))).mono ?_;rintro e w4 ⟨rfl,HB4⟩;have hb4:=HB4.out)
  |(go_at_call 238;refine(HU.out _).mono ?_;rintro e w5 ⟨rfl,HB5⟩;have hb5:=HB5.out;obtain⟨HB6,HR5⟩:=Mc (by assumption) hb5;obtain⟨q0,q1,q2,hq⟩:=HR5.out;obtain⟨⟨u0,u1,u2⟩,f0,f1,f2⟩:=Zz hq;have lr:=Qz hq;have HQ5:=hid hq;clear hq))
 obtain⟨⟨r0,r1,r2⟩,_⟩:=Zz (Vy (v0:=.bool x1) (v1:=.bool x2) (v2:=.bool x3) HQ5.out)
 go_wp2_with fail
 refine bodyPost_ret (v:=.agg #[.bool x1,.bool x2,.bool x3]) (by simp[results,Tryz.results201,go_sem,r0,r1,r2]) rfl ?_;exact⟨rfl,hid (HB6.out.grown (Xj _ _ _ _ _) HB6.out.size (fun g e=>by have:=Option.some.inj e;omega))⟩
theorem y0H(B:Nat)(y1 y2 y3:Bool)(T:ByteArray)(a b c d:Int)(g o cap:Nat)(p:Int)(k1:Int)(T1:ByteArray)(a1 b1 c1 d1:Int)(so1:Option Addr)(n1 cap1:Nat)(p1:Int)(w:World)(hg:g<w.heap.size)(hrc:Rc w g o k1 T1 a1 b1 c1 d1 (.slice so1 n1 cap1) p1)
  (HQ:Hid (∀W:World,Below w.heap.size w W->Calls prog 201 #[.map (some B),.agg (r8 k1 T1 a1 b1 c1 d1 so1 n1 cap1 p1).toArray] W fun e w'=>e=.returned (ov (y1,y2,y3))/\Hid (Below W.heap.size W w'))):
  Calls prog 201 #[.map (some B),.agg #[.int .i64 9,.string T,.int .u64 a,.int .u64 b,.int .u64 c,.int .u64 d,.slice (some ⟨g,o,none⟩) 1 cap,.int .i64 p]] w fun e w'=>e=.returned (ov (Xg 9 (y1,y2,y3)))/\Hid (Below w.heap.size w w'):=by
 obtain⟨W1,hW1⟩:∃W1,W1=(w.alloc (.cells #[.int .i64 9,.string T,.int .u64 a,.int .u64 b,.int .u64 c,.int .u64 d,.slice (some ⟨g,o,none⟩) 1 cap,.int .i64 p] 71)).alloc (.cells #[.bool false,.bool false,.bool false] 199):=⟨_,rfl⟩;have hB1:Below w.heap.size w W1:=by rw[hW1];exact((Below.refl _ w).alloc L0q _).alloc (by simp) _
 have HR1:Hid (W1.heap[w.heap.size+1]? =some (.cells #[.bool false,.bool false,.bool false] 199)):=by rw[hW1];exact Qx _ _ (by simp)
 obtain⟨⟨n0,-,-,-,-,-,n6,-⟩,-⟩:=Qw (show W1.heap[w.heap.size]? =_ by rw[hW1];exact(Below.heap_alloc _ _ _ (by simp)).trans (Qx w _ rfl));obtain⟨z0,z1,z2,z3,z4,z5,z6,z7⟩:=hrc.below hB1 hg;have S0:(fun W:World=>Hid (Below w.heap.size w W)/\Hid (∃v0 v1 v2:Value,W.heap[w.heap.size+1]? =some (.cells #[v0,v1,v2] 199))/\W.cell? ⟨w.heap.size,0,none⟩=some (.int .i64 9)/\W.cell? ⟨w.heap.size,6,none⟩=some (.slice (some ⟨g,o,none⟩) 1 cap)/\W.cell? ⟨g,o,none⟩=some (.int .i64 k1)/\W.cell? ⟨g,o+1,none⟩=some (.string T1)/\W.cell? ⟨g,o+2,none⟩=some (.int .u64 a1)/\W.cell? ⟨g,o+3,none⟩=some (.int .u64 b1)/\W.cell? ⟨g,o+4,none⟩=some (.int .u64 c1)/\W.cell? ⟨g,o+5,none⟩=some (.int .u64 d1)/\W.cell? ⟨g,o+6,none⟩=some (.slice so1 n1 cap1)/\W.cell? ⟨g,o+7,none⟩=some (.int .i64 p1)) W1.drew:=⟨hid hB1.drew,hid ⟨_,_,_,HR1.out⟩,n0,n6,z0,z1,z2,z3,z4,z5,z6,z7⟩;have HU:=hid (y0g y1 y2 y3);have hl:w.heap.size<W1.heap.size:=by rw[hW1];simp;omega
 have hgl:g<W1.heap.size:=Nat.lt_trans hg hl;have HW1:=hid hW1;obtain⟨⟨x1,x2,x3⟩,hx⟩:∃x,x=Xg 9 (y1,y2,y3):=⟨_,rfl⟩;rw[<-hx]at HU ⊢;clear hW1 hB1 HR1 hrc hx n0 n6 z0 z1 z2 z3 z4 z5 z6 z7;dsimp only[ov,r8]at HQ HU;go_enter func201,ntmps201
 go_wp2_with fail
 rw[<-HW1.out];clear HW1
 go_region_held3 (fun W:World=>Hid (Below w.heap.size w W)/\Hid (∃v0 v1 v2:Value,W.heap[w.heap.size+1]? =some (.cells #[v0,v1,v2] 199))/\W.cell? ⟨w.heap.size,0,none⟩=some (.int .i64 9)/\W.cell? ⟨w.heap.size,6,none⟩=some (.slice (some ⟨g,o,none⟩) 1 cap)/\W.cell? ⟨g,o,none⟩=some (.int .i64 k1)/\W.cell? ⟨g,o+1,none⟩=some (.string T1)/\W.cell? ⟨g,o+2,none⟩=some (.int .u64 a1)/\W.cell? ⟨g,o+3,none⟩=some (.int .u64 b1)/\W.cell? ⟨g,o+4,none⟩=some (.int .u64 c1)/\W.cell? ⟨g,o+5,none⟩=some (.int .u64 d1)/\W.cell? ⟨g,o+6,none⟩=some (.slice so1 n1 cap1)/\W.cell? ⟨g,o+7,none⟩=some (.int .i64 p1)) (first|(with_reducible assumption)|(with_reducible exact Mm (by assumption) (by assumption))|(with_reducible exact Mp hg (by assumption) _ rfl)) (first
  |(go_at_call 201;refine(HQ.out _ (Gc (by assumption))).mono ?_;rintro e w4 ⟨rfl,HB4⟩;have hb4:=HB4.out)
  |(go_at_call 238;refine(HU.out _).mono ?_;rintro e w5 ⟨rfl,HB5⟩;have hb5:=HB5.out;obtain⟨HB6,HR5⟩:=Mc (by assumption) hb5;obtain⟨q0,q1,q2,hq⟩:=HR5.out;obtain⟨⟨u0,u1,u2⟩,f0,f1,f2⟩:=Zz hq;have lr:=Qz hq;have HQ5:=hid hq;clear hq))
 obtain⟨⟨r0,r1,r2⟩,_⟩:=Zz (Vy (v0:=.bool x1) (v1:=.bool x2) (v2:=.bool x3) HQ5.out)
 go_wp2_with fail
 refine bodyPost_ret (v:=.agg #[.bool x1,.bool x2,.bool x3]) (by simp[results,Tryz.results201,go_sem,r0,r1,r2]) rfl ?_;exact⟨rfl,hid (HB6.out.grown (Xj _ _ _ _ _) HB6.out.size (fun g e=>by have:=Option.some.inj e;omega))⟩
theorem y0I(B:Nat)(y1 y2 y3:Bool)(T:ByteArray)(a b c d:Int)(g o cap:Nat)(p:Int)(k1:Int)(T1:ByteArray)(a1 b1 c1 d1:Int)(so1:Option Addr)(n1 cap1:Nat)(p1:Int)(w:World)(hg:g<w.heap.size)(hrc:Rc w g o k1 T1 a1 b1 c1 d1 (.slice so1 n1 cap1) p1)
  (HQ:Hid (∀W:World,Below w.heap.size w W->Calls prog 201 #[.map (some B),.agg (r8 k1 T1 a1 b1 c1 d1 so1 n1 cap1 p1).toArray] W fun e w'=>e=.returned (ov (y1,y2,y3))/\Hid (Below W.heap.size W w'))):
  Calls prog 201 #[.map (some B),.agg #[.int .i64 10,.string T,.int .u64 a,.int .u64 b,.int .u64 c,.int .u64 d,.slice (some ⟨g,o,none⟩) 1 cap,.int .i64 p]] w fun e w'=>e=.returned (ov (Xg 10 (y1,y2,y3)))/\Hid (Below w.heap.size w w'):=by
 obtain⟨W1,hW1⟩:∃W1,W1=(w.alloc (.cells #[.int .i64 10,.string T,.int .u64 a,.int .u64 b,.int .u64 c,.int .u64 d,.slice (some ⟨g,o,none⟩) 1 cap,.int .i64 p] 71)).alloc (.cells #[.bool false,.bool false,.bool false] 199):=⟨_,rfl⟩;have hB1:Below w.heap.size w W1:=by rw[hW1];exact((Below.refl _ w).alloc L0q _).alloc (by simp) _
 have HR1:Hid (W1.heap[w.heap.size+1]? =some (.cells #[.bool false,.bool false,.bool false] 199)):=by rw[hW1];exact Qx _ _ (by simp)
 obtain⟨⟨n0,-,-,-,-,-,n6,-⟩,-⟩:=Qw (show W1.heap[w.heap.size]? =_ by rw[hW1];exact(Below.heap_alloc _ _ _ (by simp)).trans (Qx w _ rfl));obtain⟨z0,z1,z2,z3,z4,z5,z6,z7⟩:=hrc.below hB1 hg;have S0:(fun W:World=>Hid (Below w.heap.size w W)/\Hid (∃v0 v1 v2:Value,W.heap[w.heap.size+1]? =some (.cells #[v0,v1,v2] 199))/\W.cell? ⟨w.heap.size,0,none⟩=some (.int .i64 10)/\W.cell? ⟨w.heap.size,6,none⟩=some (.slice (some ⟨g,o,none⟩) 1 cap)/\W.cell? ⟨g,o,none⟩=some (.int .i64 k1)/\W.cell? ⟨g,o+1,none⟩=some (.string T1)/\W.cell? ⟨g,o+2,none⟩=some (.int .u64 a1)/\W.cell? ⟨g,o+3,none⟩=some (.int .u64 b1)/\W.cell? ⟨g,o+4,none⟩=some (.int .u64 c1)/\W.cell? ⟨g,o+5,none⟩=some (.int .u64 d1)/\W.cell? ⟨g,o+6,none⟩=some (.slice so1 n1 cap1)/\W.cell? ⟨g,o+7,none⟩=some (.int .i64 p1)) W1.drew:=⟨hid hB1.drew,hid ⟨_,_,_,HR1.out⟩,n0,n6,z0,z1,z2,z3,z4,z5,z6,z7⟩;have HU:=hid (y0h y1 y2 y3);have hl:w.heap.size<W1.heap.size:=by rw[hW1];simp;omega
 have hgl:g<W1.heap.size:=Nat.lt_trans hg hl;have HW1:=hid hW1;obtain⟨⟨x1,x2,x3⟩,hx⟩:∃x,x=Xg 10 (y1,y2,y3):=⟨_,rfl⟩;rw[<-hx]at HU ⊢;clear hW1 hB1 HR1 hrc hx n0 n6 z0 z1 z2 z3 z4 z5 z6 z7;dsimp only[ov,r8]at HQ HU;go_enter func201,ntmps201
 go_wp2_with fail
 rw[<-HW1.out];clear HW1
 go_region_held3 (fun W:World=>Hid (Below w.heap.size w W)/\Hid (∃v0 v1 v2:Value,W.heap[w.heap.size+1]? =some (.cells #[v0,v1,v2] 199))/\W.cell? ⟨w.heap.size,0,none⟩=some (.int .i64 10)/\W.cell? ⟨w.heap.size,6,none⟩=some (.slice (some ⟨g,o,none⟩) 1 cap)/\W.cell? ⟨g,o,none⟩=some (.int .i64 k1)/\W.cell? ⟨g,o+1,none⟩=some (.string T1)/\W.cell? ⟨g,o+2,none⟩=some (.int .u64 a1)/\W.cell? ⟨g,o+3,none⟩=some (.int .u64 b1)/\W.cell? ⟨g,o+4,none⟩=some (.int .u64 c1)/\W.cell? ⟨g,o+5,none⟩=some (.int .u64 d1)/\W.cell? ⟨g,o+6,none⟩=some (.slice so1 n1 cap1)/\W.cell? ⟨g,o+7,none⟩=some (.int .i64 p1)) (first|(with_reducible assumption)|(with_reducible exact Mm (by assumption) (by assumption))|(with_reducible exact Mp hg (by assumption) _ rfl)) (first
  |(go_at_call 201;refine(HQ.out _ (Gc (by assumption))).mono ?_;rintro e w4 ⟨rfl,HB4⟩;have hb4:=HB4.out)
  |(go_at_call 238;refine(HU.out _).mono ?_;rintro e w5 ⟨rfl,HB5⟩;have hb5:=HB5.out;obtain⟨HB6,HR5⟩:=Mc (by assumption) hb5;obtain⟨q0,q1,q2,hq⟩:=HR5.out;obtain⟨⟨u0,u1,u2⟩,f0,f1,f2⟩:=Zz hq;have lr:=Qz hq;have HQ5:=hid hq;clear hq))
 obtain⟨⟨r0,r1,r2⟩,_⟩:=Zz (Vy (v0:=.bool x1) (v1:=.bool x2) (v2:=.bool x3) HQ5.out)
 go_wp2_with fail
 refine bodyPost_ret (v:=.agg #[.bool x1,.bool x2,.bool x3]) (by simp[results,Tryz.results201,go_sem,r0,r1,r2]) rfl ?_;exact⟨rfl,hid (HB6.out.grown (Xj _ _ _ _ _) HB6.out.size (fun g e=>by have:=Option.some.inj e;omega))⟩
theorem y0J(B:Nat)(y1 y2 y3:Bool)(T:ByteArray)(a b c d:Int)(g o cap:Nat)(p:Int)(k1:Int)(T1:ByteArray)(a1 b1 c1 d1:Int)(so1:Option Addr)(n1 cap1:Nat)(p1:Int)(w:World)(hg:g<w.heap.size)(hrc:Rc w g o k1 T1 a1 b1 c1 d1 (.slice so1 n1 cap1) p1)
  (HQ:Hid (∀W:World,Below w.heap.size w W->Calls prog 201 #[.map (some B),.agg (r8 k1 T1 a1 b1 c1 d1 so1 n1 cap1 p1).toArray] W fun e w'=>e=.returned (ov (y1,y2,y3))/\Hid (Below W.heap.size W w'))):
  Calls prog 201 #[.map (some B),.agg #[.int .i64 11,.string T,.int .u64 a,.int .u64 b,.int .u64 c,.int .u64 d,.slice (some ⟨g,o,none⟩) 1 cap,.int .i64 p]] w fun e w'=>e=.returned (ov (Xg 11 (y1,y2,y3)))/\Hid (Below w.heap.size w w'):=by
 obtain⟨W1,hW1⟩:∃W1,W1=(w.alloc (.cells #[.int .i64 11,.string T,.int .u64 a,.int .u64 b,.int .u64 c,.int .u64 d,.slice (some ⟨g,o,none⟩) 1 cap,.int .i64 p] 71)).alloc (.cells #[.bool false,.bool false,.bool false] 199):=⟨_,rfl⟩;have hB1:Below w.heap.size w W1:=by rw[hW1];exact((Below.refl _ w).alloc L0q _).alloc (by simp) _
 have HR1:Hid (W1.heap[w.heap.size+1]? =some (.cells #[.bool false,.bool false,.bool false] 199)):=by rw[hW1];exact Qx _ _ (by simp)
 obtain⟨⟨n0,-,-,-,-,-,n6,-⟩,-⟩:=Qw (show W1.heap[w.heap.size]? =_ by rw[hW1];exact(Below.heap_alloc _ _ _ (by simp)).trans (Qx w _ rfl));obtain⟨z0,z1,z2,z3,z4,z5,z6,z7⟩:=hrc.below hB1 hg;have S0:(fun W:World=>Hid (Below w.heap.size w W)/\Hid (∃v0 v1 v2:Value,W.heap[w.heap.size+1]? =some (.cells #[v0,v1,v2] 199))/\W.cell? ⟨w.heap.size,0,none⟩=some (.int .i64 11)/\W.cell? ⟨w.heap.size,6,none⟩=some (.slice (some ⟨g,o,none⟩) 1 cap)/\W.cell? ⟨g,o,none⟩=some (.int .i64 k1)/\W.cell? ⟨g,o+1,none⟩=some (.string T1)/\W.cell? ⟨g,o+2,none⟩=some (.int .u64 a1)/\W.cell? ⟨g,o+3,none⟩=some (.int .u64 b1)/\W.cell? ⟨g,o+4,none⟩=some (.int .u64 c1)/\W.cell? ⟨g,o+5,none⟩=some (.int .u64 d1)/\W.cell? ⟨g,o+6,none⟩=some (.slice so1 n1 cap1)/\W.cell? ⟨g,o+7,none⟩=some (.int .i64 p1)) W1.drew:=⟨hid hB1.drew,hid ⟨_,_,_,HR1.out⟩,n0,n6,z0,z1,z2,z3,z4,z5,z6,z7⟩;have HU:=hid (y0i y1 y2 y3);have hl:w.heap.size<W1.heap.size:=by rw[hW1];simp;omega
 have hgl:g<W1.heap.size:=Nat.lt_trans hg hl;have HW1:=hid hW1;obtain⟨⟨x1,x2,x3⟩,hx⟩:∃x,x=Xg 11 (y1,y2,y3):=⟨_,rfl⟩;rw[<-hx]at HU ⊢;clear hW1 hB1 HR1 hrc hx n0 n6 z0 z1 z2 z3 z4 z5 z6 z7;dsimp only[ov,r8]at HQ HU;go_enter func201,ntmps201
 go_wp2_with fail
 rw[<-HW1.out];clear HW1
 go_region_held3 (fun W:World=>Hid (Below w.heap.size w W)/\Hid (∃v0 v1 v2:Value,W.heap[w.heap.size+1]? =some (.cells #[v0,v1,v2] 199))/\W.cell? ⟨w.heap.size,0,none⟩=some (.int .i64 11)/\W.cell? ⟨w.heap.size,6,none⟩=some (.slice (some ⟨g,o,none⟩) 1 cap)/\W.cell? ⟨g,o,none⟩=some (.int .i64 k1)/\W.cell? ⟨g,o+1,none⟩=some (.string T1)/\W.cell? ⟨g,o+2,none⟩=some (.int .u64 a1)/\W.cell? ⟨g,o+3,none⟩=some (.int .u64 b1)/\W.cell? ⟨g,o+4,none⟩=some (.int .u64 c1)/\W.cell? ⟨g,o+5,none⟩=some (.int .u64 d1)/\W.cell? ⟨g,o+6,none⟩=some (.slice so1 n1 cap1)/\W.cell? ⟨g,o+7,none⟩=some (.int .i64 p1)) (first|(with_reducible assumption)|(with_reducible exact Mm (by assumption) (by assumption))|(with_reducible exact Mp hg (by assumption) _ rfl)) (first
  |(go_at_call 201;refine(HQ.out _ (Gc (by assumption))).mono ?_;rintro e w4 ⟨rfl,HB4⟩;have hb4:=HB4.out)
  |(go_at_call 238;refine(HU.out _).mono ?_;rintro e w5 ⟨rfl,HB5⟩;have hb5:=HB5.out;obtain⟨HB6,HR5⟩:=Mc (by assumption) hb5;obtain⟨q0,q1,q2,hq⟩:=HR5.out;obtain⟨⟨u0,u1,u2⟩,f0,f1,f2⟩:=Zz hq;have lr:=Qz hq;have HQ5:=hid hq;clear hq))
 obtain⟨⟨r0,r1,r2⟩,_⟩:=Zz (Vy (v0:=.bool x1) (v1:=.bool x2) (v2:=.bool x3) HQ5.out)
 go_wp2_with fail
 refine bodyPost_ret (v:=.agg #[.bool x1,.bool x2,.bool x3]) (by simp[results,Tryz.results201,go_sem,r0,r1,r2]) rfl ?_;exact⟨rfl,hid (HB6.out.grown (Xj _ _ _ _ _) HB6.out.size (fun g e=>by have:=Option.some.inj e;omega))⟩
theorem y0K(B:Nat)(y1 y2 y3:Bool)(T:ByteArray)(a b c d:Int)(g o cap:Nat)(p:Int)(k1:Int)(T1:ByteArray)(a1 b1 c1 d1:Int)(so1:Option Addr)(n1 cap1:Nat)(p1:Int)(w:World)(hg:g<w.heap.size)(hrc:Rc w g o k1 T1 a1 b1 c1 d1 (.slice so1 n1 cap1) p1)
  (HQ:Hid (∀W:World,Below w.heap.size w W->Calls prog 201 #[.map (some B),.agg (r8 k1 T1 a1 b1 c1 d1 so1 n1 cap1 p1).toArray] W fun e w'=>e=.returned (ov (y1,y2,y3))/\Hid (Below W.heap.size W w'))):
  Calls prog 201 #[.map (some B),.agg #[.int .i64 12,.string T,.int .u64 a,.int .u64 b,.int .u64 c,.int .u64 d,.slice (some ⟨g,o,none⟩) 1 cap,.int .i64 p]] w fun e w'=>e=.returned (ov (Xg 12 (y1,y2,y3)))/\Hid (Below w.heap.size w w'):=by
 obtain⟨W1,hW1⟩:∃W1,W1=(w.alloc (.cells #[.int .i64 12,.string T,.int .u64 a,.int .u64 b,.int .u64 c,.int .u64 d,.slice (some ⟨g,o,none⟩) 1 cap,.int .i64 p] 71)).alloc (.cells #[.bool false,.bool false,.bool false] 199):=⟨_,rfl⟩;have hB1:Below w.heap.size w W1:=by rw[hW1];exact((Below.refl _ w).alloc L0q _).alloc (by simp) _
 have HR1:Hid (W1.heap[w.heap.size+1]? =some (.cells #[.bool false,.bool false,.bool false] 199)):=by rw[hW1];exact Qx _ _ (by simp)
 obtain⟨⟨n0,-,-,-,-,-,n6,-⟩,-⟩:=Qw (show W1.heap[w.heap.size]? =_ by rw[hW1];exact(Below.heap_alloc _ _ _ (by simp)).trans (Qx w _ rfl));obtain⟨z0,z1,z2,z3,z4,z5,z6,z7⟩:=hrc.below hB1 hg;have S0:(fun W:World=>Hid (Below w.heap.size w W)/\Hid (∃v0 v1 v2:Value,W.heap[w.heap.size+1]? =some (.cells #[v0,v1,v2] 199))/\W.cell? ⟨w.heap.size,0,none⟩=some (.int .i64 12)/\W.cell? ⟨w.heap.size,6,none⟩=some (.slice (some ⟨g,o,none⟩) 1 cap)/\W.cell? ⟨g,o,none⟩=some (.int .i64 k1)/\W.cell? ⟨g,o+1,none⟩=some (.string T1)/\W.cell? ⟨g,o+2,none⟩=some (.int .u64 a1)/\W.cell? ⟨g,o+3,none⟩=some (.int .u64 b1)/\W.cell? ⟨g,o+4,none⟩=some (.int .u64 c1)/\W.cell? ⟨g,o+5,none⟩=some (.int .u64 d1)/\W.cell? ⟨g,o+6,none⟩=some (.slice so1 n1 cap1)/\W.cell? ⟨g,o+7,none⟩=some (.int .i64 p1)) W1.drew:=⟨hid hB1.drew,hid ⟨_,_,_,HR1.out⟩,n0,n6,z0,z1,z2,z3,z4,z5,z6,z7⟩;have HU:=hid (y0j y1 y2 y3);have hl:w.heap.size<W1.heap.size:=by rw[hW1];simp;omega
 have hgl:g<W1.heap.size:=Nat.lt_trans hg hl;have HW1:=hid hW1;obtain⟨⟨x1,x2,x3⟩,hx⟩:∃x,x=Xg 12 (y1,y2,y3):=⟨_,rfl⟩;rw[<-hx]at HU ⊢;clear hW1 hB1 HR1 hrc hx n0 n6 z0 z1 z2 z3 z4 z5 z6 z7;dsimp only[ov,r8]at HQ HU;go_enter func201,ntmps201
 go_wp2_with fail
 rw[<-HW1.out];clear HW1
 go_region_held3 (fun W:World=>Hid (Below w.heap.size w W)/\Hid (∃v0 v1 v2:Value,W.heap[w.heap.size+1]? =some (.cells #[v0,v1,v2] 199))/\W.cell? ⟨w.heap.size,0,none⟩=some (.int .i64 12)/\W.cell? ⟨w.heap.size,6,none⟩=some (.slice (some ⟨g,o,none⟩) 1 cap)/\W.cell? ⟨g,o,none⟩=some (.int .i64 k1)/\W.cell? ⟨g,o+1,none⟩=some (.string T1)/\W.cell? ⟨g,o+2,none⟩=some (.int .u64 a1)/\W.cell? ⟨g,o+3,none⟩=some (.int .u64 b1)/\W.cell? ⟨g,o+4,none⟩=some (.int .u64 c1)/\W.cell? ⟨g,o+5,none⟩=some (.int .u64 d1)/\W.cell? ⟨g,o+6,none⟩=some (.slice so1 n1 cap1)/\W.cell? ⟨g,o+7,none⟩=some (.int .i64 p1)) (first|(with_reducible assumption)|(with_reducible exact Mm (by assumption) (by assumption))|(with_reducible exact Mp hg (by assumption) _ rfl)) (first
  |(go_at_call 201;refine(HQ.out _ (Gc (by assumption))).mono ?_;rintro e w4 ⟨rfl,HB4⟩;have hb4:=HB4.out)
  |(go_at_call 238;refine(HU.out _).mono ?_;rintro e w5 ⟨rfl,HB5⟩;have hb5:=HB5.out;obtain⟨HB6,HR5⟩:=Mc (by assumption) hb5;obtain⟨q0,q1,q2,hq⟩:=HR5.out;obtain⟨⟨u0,u1,u2⟩,f0,f1,f2⟩:=Zz hq;have lr:=Qz hq;have HQ5:=hid hq;clear hq))
 obtain⟨⟨r0,r1,r2⟩,_⟩:=Zz (Vy (v0:=.bool x1) (v1:=.bool x2) (v2:=.bool x3) HQ5.out)
 go_wp2_with fail
 refine bodyPost_ret (v:=.agg #[.bool x1,.bool x2,.bool x3]) (by simp[results,Tryz.results201,go_sem,r0,r1,r2]) rfl ?_;exact⟨rfl,hid (HB6.out.grown (Xj _ _ _ _ _) HB6.out.size (fun g e=>by have:=Option.some.inj e;omega))⟩
theorem Ml{s0:Nat}{s:List RT}{so:Option Addr}(hs0:s0<=w.heap.size)(hso:s.isEmpty=true∨(s.isEmpty=false/\∃g o,so=some ⟨g,o,none⟩/\g<s0/\Qp s<=maxLen/\Ql w s0 g o s))(j:Nat)(hj:j<s.length):
  ∃g o,so=some ⟨g,o,none⟩/\g<w.heap.size/\∃k1 T1 a1 b1 c1 d1 so1 n1 cap1 p1,Rc w g (o+j*8) k1 T1 a1 b1 c1 d1 (.slice so1 n1 cap1) p1/\Qj w s0 s[j] (r8 k1 T1 a1 b1 c1 d1 so1 n1 cap1 p1):=by
 rcases hso with h1|⟨_,g,o,h2,h3,_,h5⟩
 ·cases s
  ·simp at hj
  ·simp at h1
 ·obtain⟨k1,T1,a1,b1,c1,d1,so1,n1,cap1,p1,h6,h7⟩:=Dl h5 j hj
  exact⟨g,o,h2,by omega,k1,T1,a1,b1,c1,d1,so1,n1,cap1,p1,h7,h6⟩
theorem Eh{s0:Nat}{s:List RT}{so:Option Addr}(hso:s.isEmpty=true∨(s.isEmpty=false/\∃g o,so=some ⟨g,o,none⟩/\g<s0/\Qp s<=maxLen/\Ql w s0 g o s)):Qp s<=9223372036854775807:=by
 rcases hso with h1|⟨_,g,o,_,_,h4,_⟩
 ·cases s
  ·rw[Qp];omega
  ·simp at h1
 ·unfold maxLen at h4
  omega
theorem y0L{k:Int}{T:ByteArray}{a b c d:Int}{n:Nat}(h:okN k T a b c d n=true):(k=1∨k=2∨k=3∨k=4∨k=5∨k=6∨k=7)∨((k=8∨k=9∨k=10∨k=11∨k=12)/\n=1):=by
 unfold okN at h;by_cases h1:k=1∨k=4
 ·omega
 rw[if_neg h1]at h;by_cases h2:k=2
 ·omega
 rw[if_neg h2]at h;by_cases h3:k=3
 ·omega
 rw[if_neg h3]at h;by_cases h5:k=5
 ·omega
 rw[if_neg h5]at h;by_cases h6:k=6∨k=7
 ·omega
 rw[if_neg h6]at h;by_cases h8:8<=k/\k<=12
 ·rw[if_pos h8,Bool.and_eq_true,Bool.and_eq_true]at h
  have:=h.2.2;simp at this;refine .inr ⟨by omega,by omega⟩
 ·rw[if_neg h8]at h
  cases h
theorem z3w(B nn:Nat)(K:ByteArray->Ot):∀(Q:Nat) (t:RT),SizeOf.sizeOf t<Q->∀(cs:List Value) (w:World) (s0:Nat),Qj w s0 t cs->s0<=w.heap.size->RtZ t->okT t=true->Nm w B nn K->Calls prog 201 #[.map (some B),.agg cs.toArray] w fun e w'=>e=.returned (ov (ofT K t))/\Hid (Below w.heap.size w w')
 |0,t,h=>by omega
 |Q+1,.mk k T a b c d s p,h=>by
  intro cs w s0 ht hs0 hz hok hM;rw[Qj]at ht;obtain⟨so,cap,rfl,hso⟩:=ht;rw[RtZ]at hz;rw[okT,Bool.and_eq_true]at hok;have hT:=hz.1;have hl:=Eh hso;have hB:=hM.lt;have hsub:∀j (hj:j<s.length),∃g o,so=some ⟨g,o,none⟩/\g<w.heap.size/\∃k1 T1 a1 b1 c1 d1 so1 n1 cap1 p1,Rc w g (o+j*8) k1 T1 a1 b1 c1 d1 (.slice so1 n1 cap1) p1/\∀W:World,Below w.heap.size w W->Calls prog 201 #[.map (some B),.agg (r8 k1 T1 a1 b1 c1 d1 so1 n1 cap1 p1).toArray] W fun e w'=>e=.returned (ov (ofT K s[j]))/\Hid (Below W.heap.size W w'):=fun j hj=>by
   obtain⟨g,o,h1,h2,k1,T1,a1,b1,c1,d1,so1,n1,cap1,p1,h3,h4⟩:=Ml hs0 hso j hj;refine⟨g,o,h1,h2,k1,T1,a1,b1,c1,d1,so1,n1,cap1,p1,h3,fun W hW=> ?_⟩;refine z3w B nn K Q s[j] ?_ _ W s0 (h4.below (hW.mono hs0)) (Nat.le_trans hs0 hW.size) (hz.2.get j hj) (Cm hok.2 j hj) (hM.below hW hB);have h1:=List.sizeOf_lt_of_mem (List.getElem_mem hj);simp only[RT.mk.sizeOf_spec]at h;omega
  rw[ofT];dsimp only[r8];rcases y0L hok.1 with(rfl|rfl|rfl|rfl|rfl|rfl|rfl)|⟨hk,h1⟩
  ·exact y0k (some B) T a b c d so _ cap p w
  ·by_cases h0:T.size=0
   ·have e:T={data:=#[]}:=by
     apply ByteArray.ext;exact Array.eq_empty_of_size_eq_zero h0
    rw[if_neg (by decide),if_pos rfl,if_pos h0];exact y0m (some B) T a b c d so _ cap p w e
   ·rw[if_neg (by decide),if_pos rfl,if_neg h0]
    refine y0n (some B) T a b c d so _ cap p w ?_;cases e:T.toList with
    |nil=>
     exfalso;apply h0;have:=congrArg List.length e;rw[ByteArray.toList_eq]at this;simpa using this
    |cons x r=>rfl
  ·rw[if_neg (by decide),if_neg (by decide),if_pos rfl]
   have h3:=y0A (some B) T a b c d so (Qp s) cap p w;by_cases hz:a=0/\b=0/\c=0/\d=0
   ·obtain⟨rfl,rfl,rfl,rfl⟩:=hz
    exact h3
   ·rw[if_neg hz]
    rw[if_neg (by intro e;exact hz (by unfold zc at e;simpa using e))]at h3;exact h3
  ·exact y0l (some B) T a b c d so _ cap p w
  ·exact y0z B nn K T a b c d so _ cap p w hM hT
  ·obtain⟨⟨x1,x2,x3⟩,hx⟩:∃x,x=ofS K (true,false,false) s:=⟨_,rfl⟩
   rw[if_neg (by decide),if_neg (by decide),if_neg (by decide),if_neg (by decide),if_neg (by decide),if_pos rfl,<-hx];refine y0E B x1 x2 x3 T a b c d so _ cap p w fun W hW=> ?_
   rw[hx];refine y0B B K so _ cap s W hl (Xd s) fun j hj=> ?_
   obtain⟨g,o,h1,h2,k1,T1,a1,b1,c1,d1,so1,n1,cap1,p1,h3,h4⟩:=hsub j hj;exact⟨g,o,h1,Nat.lt_of_lt_of_le h2 hW.size,k1,T1,a1,b1,c1,d1,so1,n1,cap1,p1,h3.below hW h2,fun W2 h5=>h4 W2 (hW.trans (h5.mono hW.size))⟩
  ·obtain⟨⟨x1,x2,x3⟩,hx⟩:∃x,x=ofA K (false,false,true) s:=⟨_,rfl⟩
   rw[if_neg (by decide),if_neg (by decide),if_neg (by decide),if_neg (by decide),if_neg (by decide),if_neg (by decide),if_pos rfl,<-hx];refine y0F B x1 x2 x3 T a b c d so _ cap p w fun W hW=> ?_
   rw[hx];refine y0D B K so _ cap s W hl (Xd s) fun j hj=> ?_
   obtain⟨g,o,h1,h2,k1,T1,a1,b1,c1,d1,so1,n1,cap1,p1,h3,h4⟩:=hsub j hj;exact⟨g,o,h1,Nat.lt_of_lt_of_le h2 hW.size,k1,T1,a1,b1,c1,d1,so1,n1,cap1,p1,h3.below hW h2,fun W2 h5=>h4 W2 (hW.trans (h5.mono hW.size))⟩
  ·rw[Xd]at h1
   obtain⟨u,rfl⟩:∃u,s=[u]:=by
    cases s with
    |nil=>simp at h1
    |cons u r=>cases r with
     |nil=>exact⟨u,rfl⟩
     |cons v r=>simp at h1
   obtain⟨g,o,rfl,h2,k1,T1,a1,b1,c1,d1,so1,n1,cap1,p1,h3,h4⟩:=hsub 0 (by simp);rw[Nat.zero_mul,Nat.add_zero]at h3;obtain⟨⟨y1,y2,y3⟩,hy⟩:∃y,y=ofT K u:=⟨_,rfl⟩;have H4:Hid (∀W:World,Below w.heap.size w W->Calls prog 201 #[.map (some B),.agg (r8 k1 T1 a1 b1 c1 d1 so1 n1 cap1 p1).toArray] W fun e w'=>e=.returned (ov (y1,y2,y3))/\Hid (Below W.heap.size W w')):=fun W hW=>by rw[hy];exact h4 W hW
   have eh:ofH K [u]=(y1,y2,y3):=by rw[ofH,hy]
   rw[eh];rcases hk with rfl|rfl|rfl|rfl|rfl
   ·exact y0G B y1 y2 y3 T a b c d g o cap p k1 T1 a1 b1 c1 d1 so1 n1 cap1 p1 w h2 h3 H4
   ·exact y0H B y1 y2 y3 T a b c d g o cap p k1 T1 a1 b1 c1 d1 so1 n1 cap1 p1 w h2 h3 H4
   ·exact y0I B y1 y2 y3 T a b c d g o cap p k1 T1 a1 b1 c1 d1 so1 n1 cap1 p1 w h2 h3 H4
   ·exact y0J B y1 y2 y3 T a b c d g o cap p k1 T1 a1 b1 c1 d1 so1 n1 cap1 p1 w h2 h3 H4
   ·exact y0K B y1 y2 y3 T a b c d g o cap p k1 T1 a1 b1 c1 d1 so1 n1 cap1 p1 w h2 h3 H4
theorem z3x(B nn:Nat)(K:ByteArray->Ot)(t:RT)(cs:List Value)(w:World)(s0:Nat)(ht:Qj w s0 t cs)(hs0:s0<=w.heap.size)(hz:RtZ t)(hok:okT t=true)(hM:Nm w B nn K):Calls prog 201 #[.map (some B),.agg cs.toArray] w fun e w'=>e=.returned (ov (ofT K t))/\Hid (Below w.heap.size w w'):=
 z3w B nn K _ t (Nat.lt_succ_self _) cs w s0 ht hs0 hz hok hM
end Go.Proofs.YtlogolpcipiceaaGreatDoor
