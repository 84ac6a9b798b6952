/- Lemmas for the last text. Conditions: those that each names. -/
import Derived.Test.YtgmcjddjdidpjaaGreatDoorVGFLToGRBase
set_option linter.unusedVariables false
set_option maxRecDepth 100000
set_option maxHeartbeats 16000000
namespace Go.Proofs.YtgmcjddjdidpjaaGreatDoor
open Go.Proofs.Tryz
open Go.RowKit Go.Shelf Go.Maps
theorem y5m(so:Option Addr)(n cap:Nat)(rs:List Rr)(kx:Int)(Tx:ByteArray)(ax bx cx dx:Int)(sox:Option Addr)(nx capx:Nat)(px:Int)(t:RT)(kY:Int)(TY:ByteArray)(aY bY cY dY:Int)(soY:Option Addr)(nY capY:Nat)(pY:Int)(u:RT)(T:ByteArray)(fp:Addr)(w:World)(hE:Xv w)(hT:TabIs w)(hF:w.cell? ⟨1,0,none⟩=some (.iface 325 (.pointer (some fp))))(hz:RgZ rs)(hu:RgU rs)(h:Qy w w.heap.size so n rs)(hn:n*112<=140737488351232)(ht:Qk w w.heap.size t (r8 kx Tx ax bx cx dx sox nx capx px))(htz:RtZ t)(htu:RtU t)(hs:Qk w w.heap.size u (r8 kY TY aY bY cY dY soY nY capY pY))(hsz:RtZ u)(hsu:RtU u)(hTz:T.size<=9223372036854775807):
  Calls prog 8 #[.agg #[.slice so n cap],.agg #[.int .i64 kx,.string Tx,.int .u64 ax,.int .u64 bx,.int .u64 cx,.int .u64 dx,.slice sox nx capx,.int .i64 px],.agg #[.int .i64 kY,.string TY,.int .u64 aY,.int .u64 bY,.int .u64 cY,.int .u64 dY,.slice soY nY capY,.int .i64 pY],.string T] w fun e w'=>e=.returned (.bool true)/\Below w.heap.size w w':=by
 obtain⟨u1,hu1⟩:∃u1,u1=((w.alloc (.cells #[.slice so n cap] 24)).alloc (.cells #[.int .i64 kx,.string Tx,.int .u64 ax,.int .u64 bx,.int .u64 cx,.int .u64 dx,.slice sox nx capx,.int .i64 px] 58)).alloc (.cells #[.int .i64 kY,.string TY,.int .u64 aY,.int .u64 bY,.int .u64 cY,.int .u64 dY,.slice soY nY capY,.int .i64 pY] 58):=⟨_,rfl⟩;have hR1:Rv2 w #[.slice so n cap] #[.int .i64 kx,.string Tx,.int .u64 ax,.int .u64 bx,.int .u64 cx,.int .u64 dx,.slice sox nx capx,.int .i64 px] #[.int .i64 kY,.string TY,.int .u64 aY,.int .u64 bY,.int .u64 cY,.int .u64 dY,.slice soY nY capY,.int .i64 pY] u1:=by
  obtain⟨q1,q2,q3,q4⟩:=Lz w (.cells #[.slice so n cap] 24) (.cells #[.int .i64 kx,.string Tx,.int .u64 ax,.int .u64 bx,.int .u64 cx,.int .u64 dx,.slice sox nx capx,.int .i64 px] 58) (.cells #[.int .i64 kY,.string TY,.int .u64 aY,.int .u64 bY,.int .u64 cY,.int .u64 dY,.slice soY nY capY,.int .i64 pY] 58);rw[hu1];exact⟨q1,q2,q3,q4⟩
 have hfl:1<w.heap.size:=World.block_lt_of_cell? w _ hF;have HS:=hid (z5E fp u1 (hE.below hR1.be hE.lt) (hT.below hR1.be hT.lt) ((hR1.be.cell (p:=⟨1,0,none⟩) hfl).trans hF));have HAp:=hid (fun(W:World) (hW:Below w.heap.size w W)=>z5v so n cap rs t u kx Tx ax bx cx dx sox nx capx px kY TY aY bY cY dY soY nY capY pY w.heap.size w h ht hs L0q W hW);have HA1:=hid (fun(f:Int) (W:World) (hW:Below w.heap.size w W)=>Mk so n cap rs kx Tx ax bx cx dx sox nx capx px t T f fp w.heap.size w hT hF hz hu h L0q hn ht htz htu hTz W hW);have HA2:=hid (fun(f:Int) (W:World) (hW:Below w.heap.size w W)=>Mk so n cap rs kY TY aY bY cY dY soY nY capY pY u T f fp w.heap.size w hT hF hz hu h L0q hn hs hsz hsu hTz W hW);have HA3:=hid (fun(W:World) (hW:Below w.heap.size w W)=>Mk so n cap rs 7 {data:=#[]} 0 0 0 0 (some ⟨W.heap.size,0,none⟩) 2 2 0 (.mk 7 {data:=#[]} 0 0 0 0 [t,u] 0) T 0 fp (W.alloc (.cells #[.int .i64 kx,.string Tx,.int .u64 ax,.int .u64 bx,.int .u64 cx,.int .u64 dx,.slice sox nx capx,.int .i64 px,.int .i64 kY,.string TY,.int .u64 aY,.int .u64 bY,.int .u64 cY,.int .u64 dY,.slice soY nY capY,.int .i64 pY] 58)).heap.size (W.alloc (.cells #[.int .i64 kx,.string Tx,.int .u64 ax,.int .u64 bx,.int .u64 cx,.int .u64 dx,.slice sox nx capx,.int .i64 px,.int .i64 kY,.string TY,.int .u64 aY,.int .u64 bY,.int .u64 cY,.int .u64 dY,.slice soY nY capY,.int .i64 pY] 58)) (hT.below (hW.alloc hW.size _) hT.lt) (((hW.alloc hW.size _).cell (p:=⟨1,0,none⟩) hfl).trans hF) hz hu ((h.below (hW.alloc hW.size _)).upto (hW.alloc hW.size _).size) L0q hn (z5F kx Tx ax bx cx dx sox nx capx px kY TY aY bY cY dY soY nY capY pY (ht.below hW) (hs.below hW) hW.size 7) (by rw[RtZ,Xg,Xg,Xg];exact⟨by decide,htz,hsz,trivial⟩) (by rw[RtU,Xb,Xb,Xb];exact⟨by decide,by decide,by decide,by decide,htu,hsu,trivial⟩) hTz _ B0q);have HR1:=hid hR1;have HU1:=hid hu1;clear hR1 hu1 hE hT hF hz hu h ht hs htz htu hsz hsu hfl;dsimp only[r8]at HAp;go_enter func8,ntmps8
 go_wp2_with fail
 rw[<-HU1.out];clear HU1;refine HS.out.mono ?_;rintro e w1 ⟨rfl,HB1⟩;have HRa:=hid (HR1.out.below HB1.out);clear HS HB1 HR1;obtain⟨g1,_⟩:=Qj HRa.out.g;obtain⟨⟨x0,x1,x2,x3,x4,x5,x6,x7⟩,_⟩:=Qv HRa.out.n;obtain⟨⟨y0,y1,y2,y3,y4,y5,y6,y7⟩,_⟩:=Qv HRa.out.m;have lg1:=Qz HRa.out.g;have ln1:=Qz HRa.out.n;have lm1:=Qz HRa.out.m
 go_wp2_with fail
 refine(HAp.out _ HRa.out.be).mono ?_;rintro e w2 ⟨x,rfl,hx,hb2⟩;have HRb:=hid (HRa.out.below hb2);have HX:=hid hx;clear g1 x0 x1 x2 x3 x4 x5 x6 x7 y0 y1 y2 y3 y4 y5 y6 y7 lg1 ln1 lm1;clear HAp HRa hb2 hx;rcases x with _|_
 ·go_wp2_with fail
  go_ret;exact⟨rfl,HRb.out.be⟩
 obtain⟨hfT,hfU,hfR⟩:=HX.out rfl;have HFT:=hid hfT;have HFU:=hid hfU;have HFR:=hid hfR;clear HX hfT hfU hfR;obtain⟨g1,_⟩:=Qj HRb.out.g;obtain⟨⟨x0,x1,x2,x3,x4,x5,x6,x7⟩,_⟩:=Qv HRb.out.n;obtain⟨⟨y0,y1,y2,y3,y4,y5,y6,y7⟩,_⟩:=Qv HRb.out.m;have lg1:=Qz HRb.out.g;have ln1:=Qz HRb.out.n;have lm1:=Qz HRb.out.m;have HRc:=hid (HRb.out.below ((Below.refl _ w2).alloc L0q (.cells #[.int .i64 kx,.string Tx,.int .u64 ax,.int .u64 bx,.int .u64 cx,.int .u64 dx,.slice sox nx capx,.int .i64 px,.int .i64 kY,.string TY,.int .u64 aY,.int .u64 bY,.int .u64 cY,.int .u64 dY,.slice soY nY capY,.int .i64 pY] 58)));have HS3:=hid (HA3.out w2 HRb.out.be);clear HA3
 go_wp2_with fail
 refine HS3.out.mono ?_;rintro e w3 ⟨r0,rfl,HV0,HB3⟩;have HRd:=hid (HRc.out.below HB3.out);clear g1 x0 x1 x2 x3 x4 x5 x6 x7 y0 y1 y2 y3 y4 y5 y6 y7 lg1 ln1 lm1;clear HS3 HRb HRc HB3;obtain⟨g1,_⟩:=Qj HRd.out.g;obtain⟨⟨x0,x1,x2,x3,x4,x5,x6,x7⟩,_⟩:=Qv HRd.out.n;obtain⟨⟨y0,y1,y2,y3,y4,y5,y6,y7⟩,_⟩:=Qv HRd.out.m;have lg1:=Qz HRd.out.g;have ln1:=Qz HRd.out.n;have lm1:=Qz HRd.out.m
 go_wp2_with fail
 refine(HA1.out 0 _ HRd.out.be).mono ?_;rintro e w4 ⟨r1,rfl,HV1,HB4⟩;have HRe:=hid (HRd.out.below HB4.out);clear g1 x0 x1 x2 x3 x4 x5 x6 x7 y0 y1 y2 y3 y4 y5 y6 y7 lg1 ln1 lm1;clear HRd HB4 HA1;obtain⟨g1,_⟩:=Qj HRe.out.g;obtain⟨⟨x0,x1,x2,x3,x4,x5,x6,x7⟩,_⟩:=Qv HRe.out.n;obtain⟨⟨y0,y1,y2,y3,y4,y5,y6,y7⟩,_⟩:=Qv HRe.out.m;have lg1:=Qz HRe.out.g;have ln1:=Qz HRe.out.n;have lm1:=Qz HRe.out.m
 go_wp2_with fail
 refine(HA2.out 0 _ HRe.out.be).mono ?_;rintro e w5 ⟨r2,rfl,HV2,HB5⟩;have HRf:=hid (HRe.out.below HB5.out);clear g1 x0 x1 x2 x3 x4 x5 x6 x7 y0 y1 y2 y3 y4 y5 y6 y7 lg1 ln1 lm1;clear HRe HB5 HA2;rcases HV0.out.three with rfl|⟨rfl,-,c0,hm0⟩|⟨z0,rfl,-,c0,hm0⟩
 ·clear HV0 HV1 HV2 HFT HFU HFR
  go_wp2_with fail
  all_goals(go_ret;exact⟨rfl,HRf.out.be⟩)
 ·rcases HV1.out.three with rfl|⟨rfl,-,c1,hm1⟩|⟨z1,rfl,-,c1,hm1⟩
  ·clear HV0 HV1 HV2 HFT HFU HFR hm0
   go_wp2_with fail
   all_goals(go_ret;exact⟨rfl,HRf.out.be⟩)
  ·rcases HV2.out.three with rfl|⟨rfl,-,c2,hm2⟩|⟨z2,rfl,-,c2,hm2⟩
   ·clear HV0 HV1 HV2 HFT HFU HFR hm0 hm1
    go_wp2_with fail
    all_goals(go_ret;exact⟨rfl,HRf.out.be⟩)
   ·clear HV0 HV1 HV2 HFT HFU HFR hm0 hm1 hm2
    go_wp2_with fail
    all_goals(go_ret;exact⟨rfl,HRf.out.be⟩)
   ·have:=(Kw HFR.out (Xm HFT.out) (Xm HFU.out) hm0 hm1 hm2).2 rfl
    cases this
  ·rcases HV2.out.three with rfl|⟨rfl,-,c2,hm2⟩|⟨z2,rfl,-,c2,hm2⟩
   ·clear HV0 HV1 HV2 HFT HFU HFR hm0 hm1
    obtain⟨p1,p2,p3⟩:=Um z1 (-2) (by decide)
    go_wp2_with fail
    all_goals(go_ret;exact⟨rfl,HRf.out.be⟩)
   ·have:=(Kw HFR.out (Xm HFT.out) (Xm HFU.out) hm0 hm1 hm2).1 z1 rfl
    cases this
   ·have:=(Kw HFR.out (Xm HFT.out) (Xm HFU.out) hm0 hm1 hm2).1 z1 rfl
    cases this
 ·rcases HV1.out.three with rfl|⟨rfl,-,c1,hm1⟩|⟨z1,rfl,-,c1,hm1⟩
  ·clear HV0 HV1 HV2 HFT HFU HFR hm0
   obtain⟨p1,p2,p3⟩:=Um z0 (-2) (by decide)
   go_wp2_with fail
   all_goals(go_ret;exact⟨rfl,HRf.out.be⟩)
  ·rcases HV2.out.three with rfl|⟨rfl,-,c2,hm2⟩|⟨z2,rfl,-,c2,hm2⟩
   ·clear HV0 HV1 HV2 HFT HFU HFR hm0 hm1
    obtain⟨p1,p2,p3⟩:=Um z0 (-2) (by decide)
    go_wp2_with fail
    all_goals(go_ret;exact⟨rfl,HRf.out.be⟩)
   ·have:=(Kw HFR.out (Xm HFT.out) (Xm HFU.out) hm0 hm1 hm2).2 rfl
    cases this
   ·have:=(Kw HFR.out (Xm HFT.out) (Xm HFU.out) hm0 hm1 hm2).2 rfl
    cases this;obtain⟨p1,p2,p3⟩:=Um z0 (-2) (by decide);clear HV0 HV1 HV2 HFT HFU HFR hm0 hm1 hm2
    go_wp2_with fail
    all_goals(go_ret;exact⟨rfl,HRf.out.be⟩)
  ·have hw:HV2.out=HV2.out:=rfl
   rcases HV2.out.three with rfl|⟨rfl,-,c2,hm2⟩|⟨z2,rfl,-,c2,hm2⟩
   ·clear HV0 HV1 HV2 HFT HFU HFR hm0 hm1 hw
    obtain⟨p1,p2,p3⟩:=Um z0 (-2) (by decide);obtain⟨o1,o2,o3⟩:=Um z1 (-2) (by decide)
    go_wp2_with fail
    all_goals(go_ret;exact⟨rfl,HRf.out.be⟩)
   ·have:=(Kw HFR.out (Xm HFT.out) (Xm HFU.out) hm0 hm1 hm2).1 z1 rfl
    cases this;obtain⟨p1,p2,p3⟩:=Um z0 (-2) (by decide);have p4:decide ((0:Int)<=(z0:Int))=true:=by simp
    have p5:(0:Int)<=(z0:Int):=by omega
    clear HV0 HV1 HV2 HFT HFU HFR hm0 hm1 hm2 hw
    go_wp2_with fail
    all_goals(go_ret;exact⟨rfl,HRf.out.be⟩)
   ·have:=(Kw HFR.out (Xm HFT.out) (Xm HFU.out) hm0 hm1 hm2).1 z1 rfl
    cases this;obtain⟨p1,p2,p3⟩:=Um z0 (-2) (by decide);obtain⟨o1,o2,o3⟩:=Um z2 (-2) (by decide);have p4:decide ((0:Int)<=(z0:Int))=true:=by simp
    have p5:(0:Int)<=(z0:Int):=by omega
    clear HV0 HV1 HV2 HFT HFU HFR hm0 hm1 hm2 hw
    go_wp2_with fail
    all_goals(go_ret;exact⟨rfl,HRf.out.be⟩)
end Go.Proofs.YtgmcjddjdidpjaaGreatDoor
