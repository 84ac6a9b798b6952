/- Lemmas for the last text. Conditions: those that each names. -/
import Derived.Test.YtjodljnddflgfaaGreatDoorVT15ToF8k9
set_option linter.unusedVariables false
set_option maxRecDepth 100000
set_option maxHeartbeats 16000000
namespace Go.Proofs.YtjodljnddflgfaaGreatDoor
open Go.Proofs.Tryz
open Go.RowKit Go.Shelf Go.Maps
theorem y2n(m:Option Nat)(C:Nat×Bool)(T:ByteArray)(a b c d:Int)(so:Option Addr)(n cap:Nat)(p:Int)(po:Option Addr)(pn pc:Nat)(l:Int)(w:World)(hT:T.toList.isEmpty=true)
  (HQ:Hid (∀W:World,Below w.heap.size w W->Calls prog 64 #[] W fun e w'=>e=.returned (av C)/\Below W.heap.size W w')):
  Calls prog 30 #[.map m,.agg #[.int .i64 2,.string T,.int .u64 a,.int .u64 b,.int .u64 c,.int .u64 d,.slice so n cap,.int .i64 p,.slice po pn pc,.int .i64 l]] w fun e w'=>e=.returned (av C)/\Below w.heap.size w w':=by
 obtain⟨W1,hW1⟩:∃W1,W1=(w.alloc (.cells #[.int .i64 2,.string T,.int .u64 a,.int .u64 b,.int .u64 c,.int .u64 d,.slice so n cap,.int .i64 p,.slice po pn pc,.int .i64 l] 77)).alloc (.cells #[.int .u64 0,.int .u64 0,.int .u64 0,.int .u64 0,.bool false] 39):=⟨_,rfl⟩;have hB1:Below w.heap.size w W1:=by rw[hW1];exact((Below.refl _ w).alloc L0q _).alloc (by simp) _
 have HR1:Hid (W1.heap[w.heap.size+1]? =some (.cells #[.int .u64 0,.int .u64 0,.int .u64 0,.int .u64 0,.bool false] 39)):=by rw[hW1];exact Qx _ _ (by simp)
 have HB1:=hid hB1;have HS:=hid (HQ.out W1 hB1);have HW1:=hid hW1;clear hW1 hB1 HQ;go_enter func30,ntmps30
 go_wp2_with(first
  |(go_at_call 64;rw[<-HW1.out];refine HS.out.mono ?_;rintro e w4 ⟨rfl,hb4⟩;have hr4:=(hb4.block _ (Qz HR1.out)).trans HR1.out;obtain⟨⟨u0,u1,u2,u3,u4⟩,f0,f1,f2,f3,f4⟩:=Qv hr4;have lr:=Qz hr4;have HR4:=hid hr4;have HB4:=hid (HB1.out.trans (hb4.mono HB1.out.size));clear hr4 hb4 HS HB1 HR1;try dsimp only[cv,av]))
 have hP:=Xg (v0:=.int .u64 (wd C.1 0:Nat)) (v1:=.int .u64 (wd C.1 1:Nat)) (v2:=.int .u64 (wd C.1 2:Nat)) (v3:=.int .u64 (wd C.1 3:Nat)) (v4:=.bool C.2) HR4.out;obtain⟨⟨r0,r1,r2,r3,r4⟩,_⟩:=Qv hP;unfold st5 at r0 r1 r2 r3 r4;refine bodyPost_ret (v:=av C) (by simp[results,Tryz.results30,go_sem,r0,r1,r2,r3,r4]) rfl ?_;exact⟨rfl,HB4.out.grown (Xx _ (w.heap.size+1) _ _ _ _ _) HB4.out.size (fun g e=>by have:=Option.some.inj e;omega)⟩
theorem y2o(m:Option Nat)(C x:Nat)(T:ByteArray)(a b c d:Int)(so:Option Addr)(n cap:Nat)(p:Int)(po:Option Addr)(pn pc:Nat)(l:Int)(w:World)(hT:T.toList.isEmpty=false)(hk:0<T.size)(hx:(T[0]).toNat=x)
  (HQ:Hid (∀W:World,Below w.heap.size w W->Calls prog 63 #[.int .u8 x] W fun e w'=>e=.returned (cv C)/\Below W.heap.size W w')):
  Calls prog 30 #[.map m,.agg #[.int .i64 2,.string T,.int .u64 a,.int .u64 b,.int .u64 c,.int .u64 d,.slice so n cap,.int .i64 p,.slice po pn pc,.int .i64 l]] w fun e w'=>e=.returned (av (C,false))/\Below w.heap.size w w':=by
 obtain⟨W1,hW1⟩:∃W1,W1=(w.alloc (.cells #[.int .i64 2,.string T,.int .u64 a,.int .u64 b,.int .u64 c,.int .u64 d,.slice so n cap,.int .i64 p,.slice po pn pc,.int .i64 l] 77)).alloc (.cells #[.int .u64 0,.int .u64 0,.int .u64 0,.int .u64 0,.bool false] 39):=⟨_,rfl⟩;have hB1:Below w.heap.size w W1:=by rw[hW1];exact((Below.refl _ w).alloc L0q _).alloc (by simp) _
 have HR1:Hid (W1.heap[w.heap.size+1]? =some (.cells #[.int .u64 0,.int .u64 0,.int .u64 0,.int .u64 0,.bool false] 39)):=by rw[hW1];exact Qx _ _ (by simp)
 have HB1:=hid hB1;have HS:=hid (HQ.out W1 hB1);have HW1:=hid hW1;clear hW1 hB1 HQ;go_enter func30,ntmps30
 go_wp2_with(first
  |(go_at_call 63;rw[<-HW1.out];refine HS.out.mono ?_;rintro e w4 ⟨rfl,hb4⟩;have hr4:=(hb4.block _ (Qz HR1.out)).trans HR1.out;obtain⟨⟨u0,u1,u2,u3,u4⟩,f0,f1,f2,f3,f4⟩:=Qv hr4;have lr:=Qz hr4;have HR4:=hid hr4;have HB4:=hid (HB1.out.trans (hb4.mono HB1.out.size));clear hr4 hb4 HS HB1 HR1;try dsimp only[cv,av]))
 have hP:=Xg (v0:=.int .u64 (wd (C,false).1 0:Nat)) (v1:=.int .u64 (wd (C,false).1 1:Nat)) (v2:=.int .u64 (wd (C,false).1 2:Nat)) (v3:=.int .u64 (wd (C,false).1 3:Nat)) (v4:=.bool (C,false).2) HR4.out;obtain⟨⟨r0,r1,r2,r3,r4⟩,_⟩:=Qv hP;unfold st5 at r0 r1 r2 r3 r4;refine bodyPost_ret (v:=av (C,false)) (by simp[results,Tryz.results30,go_sem,r0,r1,r2,r3,r4]) rfl ?_;exact⟨rfl,HB4.out.grown (Xx _ (w.heap.size+1) _ _ _ _ _) HB4.out.size (fun g e=>by have:=Option.some.inj e;omega)⟩
theorem y2p(m:Option Nat)(C:Nat)(T:ByteArray)(a b c d:Int)(so:Option Addr)(n cap:Nat)(p:Int)(po:Option Addr)(pn pc:Nat)(l:Int)(w:World)
  (HQ:Hid (∀W:World,Below w.heap.size w W->Calls prog 65 #[] W fun e w'=>e=.returned (cv C)/\Below W.heap.size W w')):
  Calls prog 30 #[.map m,.agg #[.int .i64 4,.string T,.int .u64 a,.int .u64 b,.int .u64 c,.int .u64 d,.slice so n cap,.int .i64 p,.slice po pn pc,.int .i64 l]] w fun e w'=>e=.returned (av (C,false))/\Below w.heap.size w w':=by
 obtain⟨W1,hW1⟩:∃W1,W1=(w.alloc (.cells #[.int .i64 4,.string T,.int .u64 a,.int .u64 b,.int .u64 c,.int .u64 d,.slice so n cap,.int .i64 p,.slice po pn pc,.int .i64 l] 77)).alloc (.cells #[.int .u64 0,.int .u64 0,.int .u64 0,.int .u64 0,.bool false] 39):=⟨_,rfl⟩;have hB1:Below w.heap.size w W1:=by rw[hW1];exact((Below.refl _ w).alloc L0q _).alloc (by simp) _
 have HR1:Hid (W1.heap[w.heap.size+1]? =some (.cells #[.int .u64 0,.int .u64 0,.int .u64 0,.int .u64 0,.bool false] 39)):=by rw[hW1];exact Qx _ _ (by simp)
 have HB1:=hid hB1;have HS:=hid (HQ.out W1 hB1);have HW1:=hid hW1;clear hW1 hB1 HQ;go_enter func30,ntmps30
 go_wp2_with(first
  |(go_at_call 65;rw[<-HW1.out];refine HS.out.mono ?_;rintro e w4 ⟨rfl,hb4⟩;have hr4:=(hb4.block _ (Qz HR1.out)).trans HR1.out;obtain⟨⟨u0,u1,u2,u3,u4⟩,f0,f1,f2,f3,f4⟩:=Qv hr4;have lr:=Qz hr4;have HR4:=hid hr4;have HB4:=hid (HB1.out.trans (hb4.mono HB1.out.size));clear hr4 hb4 HS HB1 HR1;try dsimp only[cv,av]))
 have hP:=Xg (v0:=.int .u64 (wd (C,false).1 0:Nat)) (v1:=.int .u64 (wd (C,false).1 1:Nat)) (v2:=.int .u64 (wd (C,false).1 2:Nat)) (v3:=.int .u64 (wd (C,false).1 3:Nat)) (v4:=.bool (C,false).2) HR4.out;obtain⟨⟨r0,r1,r2,r3,r4⟩,_⟩:=Qv hP;unfold st5 at r0 r1 r2 r3 r4;refine bodyPost_ret (v:=av (C,false)) (by simp[results,Tryz.results30,go_sem,r0,r1,r2,r3,r4]) rfl ?_;exact⟨rfl,HB4.out.grown (Xx _ (w.heap.size+1) _ _ _ _ _) HB4.out.size (fun g e=>by have:=Option.some.inj e;omega)⟩
theorem y2q(m:Option Nat)(C:Nat×Bool)(T:ByteArray)(a b c d:Int)(so:Option Addr)(n cap:Nat)(p:Int)(po:Option Addr)(pn pc:Nat)(l:Int)(w:World)
  (HQ:Hid (∀W:World,Below w.heap.size w W->Calls prog 66 #[.map m,.agg #[.int .i64 6,.string T,.int .u64 a,.int .u64 b,.int .u64 c,.int .u64 d,.slice so n cap,.int .i64 p,.slice po pn pc,.int .i64 l]] W fun e w'=>e=.returned (av C)/\Below W.heap.size W w')):
  Calls prog 30 #[.map m,.agg #[.int .i64 6,.string T,.int .u64 a,.int .u64 b,.int .u64 c,.int .u64 d,.slice so n cap,.int .i64 p,.slice po pn pc,.int .i64 l]] w fun e w'=>e=.returned (av C)/\Below w.heap.size w w':=by
 obtain⟨W1,hW1⟩:∃W1,W1=(w.alloc (.cells #[.int .i64 6,.string T,.int .u64 a,.int .u64 b,.int .u64 c,.int .u64 d,.slice so n cap,.int .i64 p,.slice po pn pc,.int .i64 l] 77)).alloc (.cells #[.int .u64 0,.int .u64 0,.int .u64 0,.int .u64 0,.bool false] 39):=⟨_,rfl⟩;have hB1:Below w.heap.size w W1:=by rw[hW1];exact((Below.refl _ w).alloc L0q _).alloc (by simp) _
 have HR1:Hid (W1.heap[w.heap.size+1]? =some (.cells #[.int .u64 0,.int .u64 0,.int .u64 0,.int .u64 0,.bool false] 39)):=by rw[hW1];exact Qx _ _ (by simp)
 have HB1:=hid hB1;have HS:=hid (HQ.out W1 hB1);have HW1:=hid hW1;clear hW1 hB1 HQ;go_enter func30,ntmps30
 go_wp2_with(first
  |(go_at_call 66;rw[<-HW1.out];refine HS.out.mono ?_;rintro e w4 ⟨rfl,hb4⟩;have hr4:=(hb4.block _ (Qz HR1.out)).trans HR1.out;obtain⟨⟨u0,u1,u2,u3,u4⟩,f0,f1,f2,f3,f4⟩:=Qv hr4;have lr:=Qz hr4;have HR4:=hid hr4;have HB4:=hid (HB1.out.trans (hb4.mono HB1.out.size));clear hr4 hb4 HS HB1 HR1;try dsimp only[cv,av]))
 have hP:=Xg (v0:=.int .u64 (wd C.1 0:Nat)) (v1:=.int .u64 (wd C.1 1:Nat)) (v2:=.int .u64 (wd C.1 2:Nat)) (v3:=.int .u64 (wd C.1 3:Nat)) (v4:=.bool C.2) HR4.out;obtain⟨⟨r0,r1,r2,r3,r4⟩,_⟩:=Qv hP;unfold st5 at r0 r1 r2 r3 r4;refine bodyPost_ret (v:=av C) (by simp[results,Tryz.results30,go_sem,r0,r1,r2,r3,r4]) rfl ?_;exact⟨rfl,HB4.out.grown (Xx _ (w.heap.size+1) _ _ _ _ _) HB4.out.size (fun g e=>by have:=Option.some.inj e;omega)⟩
theorem y2r(m:Option Nat)(C:Nat×Bool)(T:ByteArray)(a b c d:Int)(so:Option Addr)(n cap:Nat)(p:Int)(po:Option Addr)(pn pc:Nat)(l:Int)(w:World)
  (HQ:Hid (∀W:World,Below w.heap.size w W->Calls prog 67 #[.map m,.slice po pn pc] W fun e w'=>e=.returned (av C)/\Below W.heap.size W w')):
  Calls prog 30 #[.map m,.agg #[.int .i64 7,.string T,.int .u64 a,.int .u64 b,.int .u64 c,.int .u64 d,.slice so n cap,.int .i64 p,.slice po pn pc,.int .i64 l]] w fun e w'=>e=.returned (av C)/\Below w.heap.size w w':=by
 obtain⟨W1,hW1⟩:∃W1,W1=(w.alloc (.cells #[.int .i64 7,.string T,.int .u64 a,.int .u64 b,.int .u64 c,.int .u64 d,.slice so n cap,.int .i64 p,.slice po pn pc,.int .i64 l] 77)).alloc (.cells #[.int .u64 0,.int .u64 0,.int .u64 0,.int .u64 0,.bool false] 39):=⟨_,rfl⟩;have hB1:Below w.heap.size w W1:=by rw[hW1];exact((Below.refl _ w).alloc L0q _).alloc (by simp) _
 have HR1:Hid (W1.heap[w.heap.size+1]? =some (.cells #[.int .u64 0,.int .u64 0,.int .u64 0,.int .u64 0,.bool false] 39)):=by rw[hW1];exact Qx _ _ (by simp)
 have HB1:=hid hB1;have HS:=hid (HQ.out W1 hB1);have HW1:=hid hW1;clear hW1 hB1 HQ;go_enter func30,ntmps30
 go_wp2_with(first
  |(go_at_call 67;rw[<-HW1.out];refine HS.out.mono ?_;rintro e w4 ⟨rfl,hb4⟩;have hr4:=(hb4.block _ (Qz HR1.out)).trans HR1.out;obtain⟨⟨u0,u1,u2,u3,u4⟩,f0,f1,f2,f3,f4⟩:=Qv hr4;have lr:=Qz hr4;have HR4:=hid hr4;have HB4:=hid (HB1.out.trans (hb4.mono HB1.out.size));clear hr4 hb4 HS HB1 HR1;try dsimp only[cv,av]))
 have hP:=Xg (v0:=.int .u64 (wd C.1 0:Nat)) (v1:=.int .u64 (wd C.1 1:Nat)) (v2:=.int .u64 (wd C.1 2:Nat)) (v3:=.int .u64 (wd C.1 3:Nat)) (v4:=.bool C.2) HR4.out;obtain⟨⟨r0,r1,r2,r3,r4⟩,_⟩:=Qv hP;unfold st5 at r0 r1 r2 r3 r4;refine bodyPost_ret (v:=av C) (by simp[results,Tryz.results30,go_sem,r0,r1,r2,r3,r4]) rfl ?_;exact⟨rfl,HB4.out.grown (Xx _ (w.heap.size+1) _ _ _ _ _) HB4.out.size (fun g e=>by have:=Option.some.inj e;omega)⟩
theorem y2s(m:Option Nat)(C:Nat×Bool)(T:ByteArray)(a b c d:Int)(so:Option Addr)(n cap:Nat)(p:Int)(g pn pc:Nat)(l:Int)(w:World)(k1:Int)(T1:ByteArray)(a1 b1 c1 d1:Int)(so1:Option Addr)(n1 cap1:Nat)(p1:Int)(po1:Option Addr)(pn1 pc1:Nat)(l1:Int)(hg:g<w.heap.size)(hm:Mc w g 0 k1 T1 a1 b1 c1 d1 so1 n1 cap1 p1 po1 pn1 pc1 l1)
  (HQ:Hid (∀W:World,Below w.heap.size w W->Calls prog 68 #[.map m,.agg #[.int .i64 k1,.string T1,.int .u64 a1,.int .u64 b1,.int .u64 c1,.int .u64 d1,.slice so1 n1 cap1,.int .i64 p1,.slice po1 pn1 pc1,.int .i64 l1]] W fun e w'=>e=.returned (av C)/\Below W.heap.size W w')):
  Calls prog 30 #[.map m,.agg #[.int .i64 12,.string T,.int .u64 a,.int .u64 b,.int .u64 c,.int .u64 d,.slice so n cap,.int .i64 p,.slice (some ⟨g,0,none⟩) 1 pc,.int .i64 l]] w fun e w'=>e=.returned (av C)/\Below w.heap.size w w':=by
 obtain⟨W1,hW1⟩:∃W1,W1=(w.alloc (.cells #[.int .i64 12,.string T,.int .u64 a,.int .u64 b,.int .u64 c,.int .u64 d,.slice so n cap,.int .i64 p,.slice (some ⟨g,0,none⟩) 1 pc,.int .i64 l] 77)).alloc (.cells #[.int .u64 0,.int .u64 0,.int .u64 0,.int .u64 0,.bool false] 39):=⟨_,rfl⟩;have hB1:Below w.heap.size w W1:=by rw[hW1];exact((Below.refl _ w).alloc L0q _).alloc (by simp) _
 have HR1:Hid (W1.heap[w.heap.size+1]? =some (.cells #[.int .u64 0,.int .u64 0,.int .u64 0,.int .u64 0,.bool false] 39)):=by rw[hW1];exact Qx _ _ (by simp)
 obtain⟨z0,z1,z2,z3,z4,z5,z6,z7,z8,z9⟩:=hm;simp only[Nat.zero_add]at z1 z2 z3 z4 z5 z6 z7 z8 z9;have hg1:g<w.heap.size+1:=by omega
 have HB1:=hid hB1;have HS:=hid (HQ.out W1 hB1);have HW1:=hid hW1;clear hW1 hB1 HQ;go_enter func30,ntmps30
 go_wp2_with(first
  |(go_at_call 68;rw[<-HW1.out];refine HS.out.mono ?_;rintro e w4 ⟨rfl,hb4⟩;have hr4:=(hb4.block _ (Qz HR1.out)).trans HR1.out;obtain⟨⟨u0,u1,u2,u3,u4⟩,f0,f1,f2,f3,f4⟩:=Qv hr4;have lr:=Qz hr4;have HR4:=hid hr4;have HB4:=hid (HB1.out.trans (hb4.mono HB1.out.size));clear hr4 hb4 HS HB1 HR1;try dsimp only[cv,av]))
 have hP:=Xg (v0:=.int .u64 (wd C.1 0:Nat)) (v1:=.int .u64 (wd C.1 1:Nat)) (v2:=.int .u64 (wd C.1 2:Nat)) (v3:=.int .u64 (wd C.1 3:Nat)) (v4:=.bool C.2) HR4.out;obtain⟨⟨r0,r1,r2,r3,r4⟩,_⟩:=Qv hP;unfold st5 at r0 r1 r2 r3 r4;refine bodyPost_ret (v:=av C) (by simp[results,Tryz.results30,go_sem,r0,r1,r2,r3,r4]) rfl ?_;exact⟨rfl,HB4.out.grown (Xx _ (w.heap.size+1) _ _ _ _ _) HB4.out.size (fun g e=>by have:=Option.some.inj e;omega)⟩
theorem y2t(m:Option Nat)(C:Nat×Bool)(T:ByteArray)(a b c d:Int)(so:Option Addr)(n cap:Nat)(p:Int)(g pn pc:Nat)(l:Int)(w:World)(k1:Int)(T1:ByteArray)(a1 b1 c1 d1:Int)(so1:Option Addr)(n1 cap1:Nat)(p1:Int)(po1:Option Addr)(pn1 pc1:Nat)(l1:Int)(hg:g<w.heap.size)(hm:Mc w g 0 k1 T1 a1 b1 c1 d1 so1 n1 cap1 p1 po1 pn1 pc1 l1)
  (HQ:Hid (∀W:World,Below w.heap.size w W->Calls prog 30 #[.map m,.agg #[.int .i64 k1,.string T1,.int .u64 a1,.int .u64 b1,.int .u64 c1,.int .u64 d1,.slice so1 n1 cap1,.int .i64 p1,.slice po1 pn1 pc1,.int .i64 l1]] W fun e w'=>e=.returned (av C)/\Below W.heap.size W w')):
  Calls prog 30 #[.map m,.agg #[.int .i64 10,.string T,.int .u64 a,.int .u64 b,.int .u64 c,.int .u64 d,.slice so n cap,.int .i64 p,.slice (some ⟨g,0,none⟩) 1 pc,.int .i64 l]] w fun e w'=>e=.returned (av C)/\Below w.heap.size w w':=by
 obtain⟨W1,hW1⟩:∃W1,W1=(w.alloc (.cells #[.int .i64 10,.string T,.int .u64 a,.int .u64 b,.int .u64 c,.int .u64 d,.slice so n cap,.int .i64 p,.slice (some ⟨g,0,none⟩) 1 pc,.int .i64 l] 77)).alloc (.cells #[.int .u64 0,.int .u64 0,.int .u64 0,.int .u64 0,.bool false] 39):=⟨_,rfl⟩;have hB1:Below w.heap.size w W1:=by rw[hW1];exact((Below.refl _ w).alloc L0q _).alloc (by simp) _
 have HR1:Hid (W1.heap[w.heap.size+1]? =some (.cells #[.int .u64 0,.int .u64 0,.int .u64 0,.int .u64 0,.bool false] 39)):=by rw[hW1];exact Qx _ _ (by simp)
 obtain⟨z0,z1,z2,z3,z4,z5,z6,z7,z8,z9⟩:=hm;simp only[Nat.zero_add]at z1 z2 z3 z4 z5 z6 z7 z8 z9;have hg1:g<w.heap.size+1:=by omega
 have HB1:=hid hB1;have HS:=hid (HQ.out W1 hB1);have HW1:=hid hW1;clear hW1 hB1 HQ;go_enter func30,ntmps30
 go_wp2_with(first
  |(go_at_call 30;rw[<-HW1.out];refine HS.out.mono ?_;rintro e w4 ⟨rfl,hb4⟩;have hr4:=(hb4.block _ (Qz HR1.out)).trans HR1.out;obtain⟨⟨u0,u1,u2,u3,u4⟩,f0,f1,f2,f3,f4⟩:=Qv hr4;have lr:=Qz hr4;have HR4:=hid hr4;have HB4:=hid (HB1.out.trans (hb4.mono HB1.out.size));clear hr4 hb4 HS HB1 HR1;try dsimp only[cv,av]))
 have hP:=Xg (v0:=.int .u64 (wd C.1 0:Nat)) (v1:=.int .u64 (wd C.1 1:Nat)) (v2:=.int .u64 (wd C.1 2:Nat)) (v3:=.int .u64 (wd C.1 3:Nat)) (v4:=.bool C.2) HR4.out;obtain⟨⟨r0,r1,r2,r3,r4⟩,_⟩:=Qv hP;unfold st5 at r0 r1 r2 r3 r4;refine bodyPost_ret (v:=av C) (by simp[results,Tryz.results30,go_sem,r0,r1,r2,r3,r4]) rfl ?_;exact⟨rfl,HB4.out.grown (Xx _ (w.heap.size+1) _ _ _ _ _) HB4.out.size (fun g e=>by have:=Option.some.inj e;omega)⟩
theorem y2u(m:Option Nat)(C:Nat×Bool)(T:ByteArray)(a b c d:Int)(so:Option Addr)(n cap:Nat)(p:Int)(g pn pc:Nat)(l:Int)(w:World)(k1:Int)(T1:ByteArray)(a1 b1 c1 d1:Int)(so1:Option Addr)(n1 cap1:Nat)(p1:Int)(po1:Option Addr)(pn1 pc1:Nat)(l1:Int)(hg:g<w.heap.size)(hm:Mc w g 0 k1 T1 a1 b1 c1 d1 so1 n1 cap1 p1 po1 pn1 pc1 l1)
  (HQ:Hid (∀W:World,Below w.heap.size w W->Calls prog 30 #[.map m,.agg #[.int .i64 k1,.string T1,.int .u64 a1,.int .u64 b1,.int .u64 c1,.int .u64 d1,.slice so1 n1 cap1,.int .i64 p1,.slice po1 pn1 pc1,.int .i64 l1]] W fun e w'=>e=.returned (av C)/\Below W.heap.size W w')):
  Calls prog 30 #[.map m,.agg #[.int .i64 11,.string T,.int .u64 a,.int .u64 b,.int .u64 c,.int .u64 d,.slice so n cap,.int .i64 p,.slice (some ⟨g,0,none⟩) 1 pc,.int .i64 l]] w fun e w'=>e=.returned (av C)/\Below w.heap.size w w':=by
 obtain⟨W1,hW1⟩:∃W1,W1=(w.alloc (.cells #[.int .i64 11,.string T,.int .u64 a,.int .u64 b,.int .u64 c,.int .u64 d,.slice so n cap,.int .i64 p,.slice (some ⟨g,0,none⟩) 1 pc,.int .i64 l] 77)).alloc (.cells #[.int .u64 0,.int .u64 0,.int .u64 0,.int .u64 0,.bool false] 39):=⟨_,rfl⟩;have hB1:Below w.heap.size w W1:=by rw[hW1];exact((Below.refl _ w).alloc L0q _).alloc (by simp) _
 have HR1:Hid (W1.heap[w.heap.size+1]? =some (.cells #[.int .u64 0,.int .u64 0,.int .u64 0,.int .u64 0,.bool false] 39)):=by rw[hW1];exact Qx _ _ (by simp)
 obtain⟨z0,z1,z2,z3,z4,z5,z6,z7,z8,z9⟩:=hm;simp only[Nat.zero_add]at z1 z2 z3 z4 z5 z6 z7 z8 z9;have hg1:g<w.heap.size+1:=by omega
 have HB1:=hid hB1;have HS:=hid (HQ.out W1 hB1);have HW1:=hid hW1;clear hW1 hB1 HQ;go_enter func30,ntmps30
 go_wp2_with(first
  |(go_at_call 30;rw[<-HW1.out];refine HS.out.mono ?_;rintro e w4 ⟨rfl,hb4⟩;have hr4:=(hb4.block _ (Qz HR1.out)).trans HR1.out;obtain⟨⟨u0,u1,u2,u3,u4⟩,f0,f1,f2,f3,f4⟩:=Qv hr4;have lr:=Qz hr4;have HR4:=hid hr4;have HB4:=hid (HB1.out.trans (hb4.mono HB1.out.size));clear hr4 hb4 HS HB1 HR1;try dsimp only[cv,av]))
 have hP:=Xg (v0:=.int .u64 (wd C.1 0:Nat)) (v1:=.int .u64 (wd C.1 1:Nat)) (v2:=.int .u64 (wd C.1 2:Nat)) (v3:=.int .u64 (wd C.1 3:Nat)) (v4:=.bool C.2) HR4.out;obtain⟨⟨r0,r1,r2,r3,r4⟩,_⟩:=Qv hP;unfold st5 at r0 r1 r2 r3 r4;refine bodyPost_ret (v:=av C) (by simp[results,Tryz.results30,go_sem,r0,r1,r2,r3,r4]) rfl ?_;exact⟨rfl,HB4.out.grown (Xx _ (w.heap.size+1) _ _ _ _ _) HB4.out.size (fun g e=>by have:=Option.some.inj e;omega)⟩
theorem y2v(m:Option Nat)(T:ByteArray)(a b c d:Int)(so:Option Addr)(n cap:Nat)(p:Int)(po:Option Addr)(pn pc:Nat)(l:Int)(w:World)(C:Nat)(h0:a=(wd C 0:Nat))(h1:b=(wd C 1:Nat))(h2:c=(wd C 2:Nat))(h3:d=(wd C 3:Nat)):
  Calls prog 30 #[.map m,.agg #[.int .i64 3,.string T,.int .u64 a,.int .u64 b,.int .u64 c,.int .u64 d,.slice so n cap,.int .i64 p,.slice po pn pc,.int .i64 l]] w fun e w'=>e=.returned (av (C,false))/\Below w.heap.size w w':=by
 subst h0 h1 h2 h3;have HB:Hid (∀o1 o2:Obj,Below w.heap.size w ((w.alloc o1).alloc o2)):=fun o1 o2=>((Below.refl _ w).alloc L0q o1).alloc (by simp) o2
 go_enter func30,ntmps30
 go_wp2_with fail
 refine bodyPost_ret (v:=av (C,false)) (by simp[results,Tryz.results30,go_sem]) rfl ?_;exact⟨rfl,HB.out _ _⟩
theorem y2w(B nn:Nat)(F:ByteArray->Ah)(T:ByteArray)(a b c d:Int)(so:Option Addr)(n cap:Nat)(p:Int)(po:Option Addr)(pn pc:Nat)(l:Int)(w:World)(hM:Na w B nn F)(hT:T.size<=maxLen):
  Calls prog 30 #[.map (some B),.agg #[.int .i64 5,.string T,.int .u64 a,.int .u64 b,.int .u64 c,.int .u64 d,.slice so n cap,.int .i64 p,.slice po pn pc,.int .i64 l]] w fun e w'=>e=.returned (av (F T))/\Below w.heap.size w w':=by
 have HB:Hid (∀o1 o2:Obj,Below w.heap.size w ((w.alloc o1).alloc o2)):=fun o1 o2=>((Below.refl _ w).alloc L0q o1).alloc (by simp) o2
 have hL:=((hM.kept (World.grownBy_alloc w (.cells #[.int .i64 5,.string T,.int .u64 a,.int .u64 b,.int .u64 c,.int .u64 d,.slice so n cap,.int .i64 p,.slice po pn pc,.int .i64 l] 77) none) (by simp)).kept (World.grownBy_alloc _ (.cells #[.int .u64 0,.int .u64 0,.int .u64 0,.int .u64 0,.bool false] 39) none) (by simp)).look hT;obtain⟨⟨C,x⟩,hx⟩:∃x,x=F T:=⟨_,rfl⟩;rw[<-hx]at hL ⊢;dsimp only[av]at hL;clear hx hM;go_enter func30,ntmps30
 go_wp2_with fail
 refine bodyPost_ret (v:=av (C,x)) (by simp[results,Tryz.results30,go_sem]) rfl ?_;exact⟨rfl,HB.out _ _⟩
theorem z5c(A:ByteArray->Ot)(F:ByteArray->Ah)(t:RT):∀(l:List RT) (x:Ah),afA A F x (l++[t])=orA (afA A F x l) (afT A F t)
 |[],x=>by rw[List.nil_append,afA,afA,afA]
 |a::r,x=>by rw[List.cons_append,afA,afA,z5c A F t r]
theorem y2x(A:ByteArray->Ot)(F:ByteArray->Ah)(x:Ah)(s:List RT)(j:Nat)(hj:j<s.length):afA A F x (s.take (j+1))=orA (afA A F x (s.take j)) (afT A F s[j]):=by
 rw[show s.take (j+1)=s.take j++[s[j]] by simp,z5c]
theorem y2y(m:Option Nat)(A:ByteArray->Ot)(F:ByteArray->Ah)(so:Option Addr)(n cap:Nat)(s:List RT)(w:World)(hn:n<=1048576)(HN:Hid (n=s.length))
  (HC:Hid (∀j (hj:j<s.length),∃g,so=some ⟨g,0,none⟩/\g<w.heap.size/\∃k1 T1 a1 b1 c1 d1 so1 n1 cap1 p1 po1 pn1 pc1 l1,Mc w g (j*10) k1 T1 a1 b1 c1 d1 so1 n1 cap1 p1 po1 pn1 pc1 l1/\
    ∀W:World,Below w.heap.size w W->Calls prog 30 #[.map m,.agg #[.int .i64 k1,.string T1,.int .u64 a1,.int .u64 b1,.int .u64 c1,.int .u64 d1,.slice so1 n1 cap1,.int .i64 p1,.slice po1 pn1 pc1,.int .i64 l1]] W fun e w'=>e=.returned (av (afT A F s[j]))/\Below W.heap.size W w')):
  Calls prog 67 #[.map m,.slice so n cap] w fun e w'=>e=.returned (av (afA A F (0,false) s))/\Below w.heap.size w w':=by
 obtain⟨W1,hW1⟩:∃W1,W1=(w.alloc (.cells #[.int .u64 0,.int .u64 0,.int .u64 0,.int .u64 0,.bool false] 39)).alloc (.cells #[.int .u64 0,.int .u64 0,.int .u64 0,.int .u64 0,.bool false] 39):=⟨_,rfl⟩;have HB1:Hid (Below w.heap.size w W1):=by rw[hW1];exact((Below.refl _ w).alloc L0q _).alloc (by simp) _
 have HR1:Hid (W1.heap[w.heap.size]? =some (.cells #[.int .u64 0,.int .u64 0,.int .u64 0,.int .u64 0,.bool false] 39)):=by rw[hW1];exact(Below.heap_alloc _ _ _ (by simp)).trans (Qx w _ rfl)
 have HA1:Hid (W1.heap[w.heap.size+1]? =some (.cells #[.int .u64 (wd 0 0),.int .u64 (wd 0 1),.int .u64 (wd 0 2),.int .u64 (wd 0 3),.bool false] 39)):=by rw[hW1];simp only[Vz];exact Qx _ _ (by simp)
 have HE:=hid Bd;have HW1:=hid hW1;clear hW1;go_enter func67,ntmps67
 go_wp2_with fail
 rw[<-HW1.out];clear HW1
 go_loopw [11] (fun i wr=>∃j:Nat,i=.int .i64 j/\j<=n/\Hid (Below w.heap.size w wr)/\Hid (wr.heap[w.heap.size]? =some (.cells #[.int .u64 0,.int .u64 0,.int .u64 0,.int .u64 0,.bool false] 39))/\∃(C:Nat) (x:Bool),Hid ((C,x)=afA A F (0,false) (s.take j))/\Hid (wr.heap[w.heap.size+1]? =some (.cells #[.int .u64 (wd C 0),.int .u64 (wd C 1),.int .u64 (wd C 2),.int .u64 (wd C 3),.bool x] 39))) (fun i _=>n-(intOf i).toNat)
 case atStart=>exact⟨0,rfl,Nat.zero_le _,HB1,HR1,0,false,hid (by rw[List.take_zero,afA]),HA1⟩
 case round=>
  obtain⟨j,rfl,hj,HBr,HRr,C,x,HX,HAr⟩:=hrel;by_cases hjn:j<n
  ·have hjI:(j:Int)<(n:Int):=by omega
   have a0:decide ((j:Int)<(n:Int))=true:=by simp;omega
   have hjs:j<s.length:=by rw[<-HN.out];exact hjn
   obtain⟨g,rfl,hg,k1,T1,a1,b1,c1,d1,so1,n1,cap1,p1,po1,pn1,pc1,l1,hrc,hcall⟩:=HC.out j hjs;obtain⟨z0,z1,z2,z3,z4,z5,z6,z7,z8,z9⟩:=hrc.below HBr.out hg;have hgl:g<wr.heap.size:=World.block_lt_of_cell? wr _ z0;obtain⟨⟨D,y⟩,hy⟩:∃y,y=afT A F s[j]:=⟨_,rfl⟩;have hbp:Below w.heap.size w (wr.alloc (.cells #[.int .i64 k1,.string T1,.int .u64 a1,.int .u64 b1,.int .u64 c1,.int .u64 d1,.slice so1 n1 cap1,.int .i64 p1,.slice po1 pn1 pc1,.int .i64 l1] 77)):=HBr.out.alloc HBr.out.size _;have hbq:=(Below.refl _ wr).alloc L0q (.cells #[.int .i64 k1,.string T1,.int .u64 a1,.int .u64 b1,.int .u64 c1,.int .u64 d1,.slice so1 n1 cap1,.int .i64 p1,.slice po1 pn1 pc1,.int .i64 l1] 77);have HRp:=hid ((hbq.block _ (Qz HRr.out)).trans HRr.out);have HAp:=hid ((hbq.block _ (Qz HAr.out)).trans HAr.out);have HBp:=hid hbp;have HS:=hid (hcall _ hbp);rw[<-hy]at HS;have HY:=hid hy;have HEi:=hid (HE.out C D);clear hcall hrc hy hbp hbq HRr HAr HBr HC HE;dsimp only[av]at HS;dsimp only[cv]at HEi;cases x<;>(
    go_wp2_with(first
     |(go_at_call 30;refine HS.out.mono ?_;rintro e w4 ⟨rfl,hb4⟩;have HB4:=hid (HBp.out.trans (hb4.mono HBp.out.size));have hR4:=(hb4.block _ (Qz HRp.out)).trans HRp.out;have hA4:=(hb4.block _ (Qz HAp.out)).trans HAp.out;have hln:=Qz hA4;have hn4:=(Below.refl _ w4).alloc L0q (.cells #[.int .u64 (wd D 0),.int .u64 (wd D 1),.int .u64 (wd D 2),.int .u64 (wd D 3),.bool y] 39);have HRq:=hid ((hn4.block _ (Qz hR4)).trans hR4);have hAq:=(hn4.block _ hln).trans hA4;have HAq:=hid hAq;have HNq:=hid (Qx w4 (.cells #[.int .u64 (wd D 0),.int .u64 (wd D 1),.int .u64 (wd D 2),.int .u64 (wd D 3),.bool y] 39) rfl);have HBq:=hid (HB4.out.trans (hn4.mono HB4.out.size));obtain⟨⟨t0,t1,t2,t3,t4⟩,-⟩:=Qv hAq;obtain⟨⟨v0,v1,v2,v3,v4⟩,-⟩:=Qv HNq.out;have hla:=Qz hAq;have hlb:=Qz HNq.out;clear hb4 hR4 hA4 hn4 hAq HS HBp HRp HAp HB4)
     |(go_at_call 23;refine(HEi.out _).mono ?_;rintro e w5 ⟨rfl,hb5⟩;have HB5:=hid (HBq.out.trans (hb5.mono HBq.out.size));have HR5:=hid ((hb5.block _ (Qz HRq.out)).trans HRq.out);have hA5:=(hb5.block _ (Qz HAq.out)).trans HAq.out;have HA5:=hid hA5;obtain⟨⟨c0,c1',c2,c3,c4⟩,f0,f1,f2,f3,f4⟩:=Qv hA5;obtain⟨⟨-,-,-,-,n4⟩,-⟩:=Qv ((hb5.block _ (Qz HNq.out)).trans HNq.out);have lc:=Qz hA5;have ne:=Nat.ne_of_gt hln;have ne2:=Nat.ne_of_lt hln;clear hb5 hA5 t0 t1 t2 t3 t4 v0 v1 v2 v3 v4 HBq HRq HAq HNq HEi))
    refine⟨⟨j+1,by go_num,by omega,hid (HB5.out.grown (Xx _ (w.heap.size+1) _ _ _ _ _) HB5.out.size (fun g e=>by have:=Option.some.inj e;omega)),hid (((Xx _ (w.heap.size+1) _ _ _ _ _).block _ (Qz HR5.out) (fun e=>by have:=Option.some.inj e;omega)).trans HR5.out),C|||D,_,hid (by rw[y2x A F _ s j hjs,<-HX.out,<-HY.out];simp[orA]),hid (Xg HA5.out)⟩,by simp[intOf];omega⟩)
  ·have a0:decide ((j:Int)<(n:Int))=false:=by simp;omega
   have hjn':s.take j=s:=List.take_of_length_le (by rw[<-HN.out];omega);rw[hjn']at HX;obtain⟨⟨t0,t1,t2,t3,t4⟩,-⟩:=Qv HAr.out;obtain⟨⟨u0,u1,u2,u3,u4⟩,f0,f1,f2,f3,f4⟩:=Qv HRr.out;have la:=Qz HAr.out;have lr:=Qz HRr.out;have HBl:=hid (HBr.out.grown (Xx wr w.heap.size (.int .u64 (wd C 0)) (.int .u64 (wd C 1)) (.int .u64 (wd C 2)) (.int .u64 (wd C 3)) (.bool x)) HBr.out.size (fun g e=>by have:=Option.some.inj e;omega));have hP:=Xg (v0:=.int .u64 (wd C 0)) (v1:=.int .u64 (wd C 1)) (v2:=.int .u64 (wd C 2)) (v3:=.int .u64 (wd C 3)) (v4:=.bool x) HRr.out;obtain⟨⟨r0,r1,r2,r3,r4⟩,_⟩:=Qv hP;unfold st5 at r0 r1 r2 r3 r4;clear hjn' HAr HRr HBr hP
   go_wp2_with fail
   refine bodyPost_ret (v:=av (C,x)) (by simp[results,Tryz.results67,go_sem,r0,r1,r2,r3,r4]) rfl ?_;exact⟨by rw[<-HX.out],HBl.out⟩
end Go.Proofs.YtjodljnddflgfaaGreatDoor
