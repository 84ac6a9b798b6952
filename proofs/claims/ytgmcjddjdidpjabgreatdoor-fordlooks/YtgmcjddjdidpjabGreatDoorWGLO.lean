/- Lemmas for the last text. Conditions: those that each names. -/
import Derived.Test.YtgmcjddjdidpjabGreatDoorVGFLToGLBase
set_option linter.unusedVariables false
set_option maxRecDepth 100000
set_option maxHeartbeats 16000000
namespace Go.Proofs.YtgmcjddjdidpjabGreatDoor
open Go.Proofs.Tryz
open Go.RowKit Go.Shelf Go.Maps
theorem y5n(so:Option Addr)(n cap:Nat)(rs:List Rr)(kx:Int)(Tx:ByteArray)(ax bx cx dx:Int)(sox:Option Addr)(nx capx:Nat)(px:Int)(t:RT)(T:ByteArray)(f:Int)(fp:Addr)(w:World)(hE:Xw w)(hT:TabIs w)(hF:w.cell? ⟨1,0,none⟩=some (.iface 243 (.pointer (some fp))))(hz:RgZ rs)(hu:RgU rs)(h:Qy w w.heap.size so n rs)(hn:n*112<=140737488351232)(ht:Qk w w.heap.size t (r8 kx Tx ax bx cx dx sox nx capx px))(htz:RtZ t)(htu:RtU t)(hTz:T.size<=9223372036854775807):
  Calls prog 3 #[.agg #[.slice so n cap],.agg #[.int .i64 kx,.string Tx,.int .u64 ax,.int .u64 bx,.int .u64 cx,.int .u64 dx,.slice sox nx capx,.int .i64 px],.string T,.int .i64 f] w fun e w'=>e=.returned (.bool true)/\Below w.heap.size w w':=by
 obtain⟨u1,hu1⟩:∃u1,u1=(w.alloc (.cells #[.slice so n cap] 24)).alloc (.cells #[.int .i64 kx,.string Tx,.int .u64 ax,.int .u64 bx,.int .u64 cx,.int .u64 dx,.slice sox nx capx,.int .i64 px] 30):=⟨_,rfl⟩;have hR1:Rv1 w #[.slice so n cap] #[.int .i64 kx,.string Tx,.int .u64 ax,.int .u64 bx,.int .u64 cx,.int .u64 dx,.slice sox nx capx,.int .i64 px] u1:=by
  obtain⟨q1,q2,q3⟩:=Ip w (.cells #[.slice so n cap] 24) (.cells #[.int .i64 kx,.string Tx,.int .u64 ax,.int .u64 bx,.int .u64 cx,.int .u64 dx,.slice sox nx capx,.int .i64 px] 30);rw[hu1];exact⟨q1,q2,q3⟩
 have hfl:1<w.heap.size:=World.block_lt_of_cell? w _ hF;have HS:=hid (z5J fp u1 (hE.below hR1.be hE.lt) (hT.below hR1.be hT.lt) ((hR1.be.cell (p:=⟨1,0,none⟩) hfl).trans hF));have HAp:=hid (fun(W:World) (hW:Below w.heap.size w W)=>z5A so n cap rs t t kx Tx ax bx cx dx sox nx capx px kx Tx ax bx cx dx sox nx capx px w.heap.size w h ht ht L0q W hW);have HA1:=hid (fun(f:Int) (W:World) (hW:Below w.heap.size w W)=>Ic so n cap rs kx Tx ax bx cx dx sox nx capx px t T f fp w.heap.size w hT hF hz hu h L0q hn ht htz htu hTz W hW);have HA3:=hid (fun(k f:Int) (W:World) (hW:Below w.heap.size w W) (W':World) (hW':Below (W.alloc (.cells #[.int .i64 kx,.string Tx,.int .u64 ax,.int .u64 bx,.int .u64 cx,.int .u64 dx,.slice sox nx capx,.int .i64 px] 30)).heap.size (W.alloc (.cells #[.int .i64 kx,.string Tx,.int .u64 ax,.int .u64 bx,.int .u64 cx,.int .u64 dx,.slice sox nx capx,.int .i64 px] 30)) W')=>Ic so n cap rs k {data:=#[]} 0 0 0 0 (some ⟨W.heap.size,0,none⟩) 1 1 0 (.mk k {data:=#[]} 0 0 0 0 [t] 0) T f fp (W.alloc (.cells #[.int .i64 kx,.string Tx,.int .u64 ax,.int .u64 bx,.int .u64 cx,.int .u64 dx,.slice sox nx capx,.int .i64 px] 30)).heap.size (W.alloc (.cells #[.int .i64 kx,.string Tx,.int .u64 ax,.int .u64 bx,.int .u64 cx,.int .u64 dx,.slice sox nx capx,.int .i64 px] 30)) (hT.below (hW.alloc hW.size _) hT.lt) (((hW.alloc hW.size _).cell (p:=⟨1,0,none⟩) hfl).trans hF) hz hu ((h.below (hW.alloc hW.size _)).upto (hW.alloc hW.size _).size) L0q hn (z5K kx Tx ax bx cx dx sox nx capx px (ht.below hW) hW.size k) (z5L k htz) (z5M k htu) hTz W' hW');have HR1:=hid hR1;have HU1:=hid hu1;clear hR1 hu1 hE hT hF hz hu h ht htz htu hfl;dsimp only[r8]at HAp;go_enter func3,ntmps3
 go_wp2_with fail
 rw[<-HU1.out];clear HU1;refine HS.out.mono ?_;rintro e w1 ⟨rfl,HB1⟩;have HRa:=hid (HR1.out.below HB1.out);clear HS HB1 HR1;obtain⟨g1,_⟩:=Qj HRa.out.g;obtain⟨⟨x0,x1,x2,x3,x4,x5,x6,x7⟩,_⟩:=Qv HRa.out.n;have lg1:=Qz HRa.out.g;have ln1:=Qz HRa.out.n
 go_wp2_with fail
 refine(HAp.out _ HRa.out.be).mono ?_;rintro e w2 ⟨x,rfl,hx,hb2⟩;have HRb:=hid (HRa.out.below hb2);have HX:=hid hx;clear g1 x0 x1 x2 x3 x4 x5 x6 x7 lg1 ln1;clear HAp HRa hb2 hx;rcases x with _|_
 ·go_wp2_with fail
  go_ret;exact⟨rfl,HRb.out.be⟩
 obtain⟨hfT,-,hfR⟩:=HX.out rfl;have HFT:=hid hfT;have HFR:=hid hfR;clear HX hfT hfR;obtain⟨g1,_⟩:=Qj HRb.out.g;obtain⟨⟨x0,x1,x2,x3,x4,x5,x6,x7⟩,_⟩:=Qv HRb.out.n;have lg1:=Qz HRb.out.g;have ln1:=Qz HRb.out.n
 go_wp2_with fail
 refine(HA1.out f _ HRb.out.be).mono ?_;rintro e w3 ⟨r1,rfl,HV1,HBc⟩;have HRc:=hid (HRb.out.below HBc.out);clear g1 x0 x1 x2 x3 x4 x5 x6 x7 lg1 ln1;clear HRb HBc;obtain⟨g1,_⟩:=Qj HRc.out.g;obtain⟨⟨x0,x1,x2,x3,x4,x5,x6,x7⟩,_⟩:=Qv HRc.out.n;have lg1:=Qz HRc.out.g;have ln1:=Qz HRc.out.n;have HRx:=hid (HRc.out.below ((Below.refl _ w3).alloc L0q (.cells #[.int .i64 kx,.string Tx,.int .u64 ax,.int .u64 bx,.int .u64 cx,.int .u64 dx,.slice sox nx capx,.int .i64 px] 30)));have HSd:=hid (HA3.out 11 f w3 HRc.out.be _ B0q)
 go_wp2_with fail
 refine HSd.out.mono ?_;rintro e w4 ⟨r2,rfl,HV2,HBd⟩;have HRd:=hid (HRx.out.below HBd.out);clear g1 x0 x1 x2 x3 x4 x5 x6 x7 lg1 ln1;clear HSd HRc HRx HBd;obtain⟨g1,_⟩:=Qj HRd.out.g;obtain⟨⟨x0,x1,x2,x3,x4,x5,x6,x7⟩,_⟩:=Qv HRd.out.n;have lg1:=Qz HRd.out.g;have ln1:=Qz HRd.out.n;have HRx:=hid (HRd.out.below ((Below.refl _ w4).alloc L0q (.cells #[.int .i64 kx,.string Tx,.int .u64 ax,.int .u64 bx,.int .u64 cx,.int .u64 dx,.slice sox nx capx,.int .i64 px] 30)));have HSe:=hid (HA3.out 12 f w4 HRd.out.be _ B0q)
 go_wp2_with fail
 refine HSe.out.mono ?_;rintro e w5 ⟨r3,rfl,HV3,HBe⟩;have HRe:=hid (HRx.out.below HBe.out);clear g1 x0 x1 x2 x3 x4 x5 x6 x7 lg1 ln1;clear HSe HRd HRx HBe;clear HA1 HA3;rcases HV1.out.three with rfl|⟨rfl,hf,c1,hm1⟩|⟨z1,rfl,hf,c1,hm1⟩
 ·clear HV1 HV2 HV3 HFT HFR
  go_wp2_with fail
  all_goals(go_ret;exact⟨rfl,HRe.out.be⟩)
 ·obtain⟨f0,rfl⟩:∃f0:Nat,f=(f0:Int):=⟨f.toNat,by omega⟩
  obtain⟨p1,p2,p3⟩:=Lz f0 (-2) (by decide);rcases HV2.out.three with rfl|⟨rfl,-,c2,hm2⟩|⟨z2,rfl,-,c2,hm2⟩
  ·clear HV1 HV2 HV3 HFT HFR hm1 hf
   go_wp2_with fail
   all_goals(go_ret;exact⟨rfl,HRe.out.be⟩)
  ·rcases HV3.out.three with rfl|⟨rfl,-,c3,hm3⟩|⟨z3,rfl,-,c3,hm3⟩
   ·clear HV1 HV2 HV3 HFT HFR hm1 hm2 hf
    go_wp2_with fail
    all_goals(go_ret;exact⟨rfl,HRe.out.be⟩)
   ·cases z0b HFR.out (Jk HFT.out) hm3 hm1
   ·have e3:=z0b HFR.out (Jk HFT.out) hm3 hm1
    rw[Int.toNat_natCast]at e3;cases e3;clear HV1 HV2 HV3 HFT HFR hm1 hm2 hm3 hf
    go_wp2_with fail
    all_goals(go_ret;exact⟨rfl,HRe.out.be⟩)
  ·cases z0a HFR.out (Jk HFT.out) hm2 hm1
 ·obtain⟨f0,rfl⟩:∃f0:Nat,f=(f0:Int):=⟨f.toNat,by omega⟩
  obtain⟨p1,p2,p3⟩:=Lz f0 (-2) (by decide);obtain⟨o1,o2,o3⟩:=Lz z1 (-2) (by decide);obtain⟨o4,o5,o6,o7⟩:=z5N z1;rcases HV2.out.three with rfl|⟨rfl,-,c2,hm2⟩|⟨z2,rfl,-,c2,hm2⟩
  ·clear HV1 HV2 HV3 HFT HFR hm1 hf
   go_wp2_with fail
   all_goals(go_ret;exact⟨rfl,HRe.out.be⟩)
  ·cases z0a HFR.out (Jk HFT.out) hm2 hm1
  ·have e2:=z0a HFR.out (Jk HFT.out) hm2 hm1
   rw[Int.toNat_natCast]at e2;cases e2;rcases HV3.out.three with rfl|⟨rfl,-,c3,hm3⟩|⟨z3,rfl,-,c3,hm3⟩
   ·clear HV1 HV2 HV3 HFT HFR hm1 hm2 hf
    go_wp2_with fail
    all_goals(go_ret;exact⟨rfl,HRe.out.be⟩)
   ·clear HV1 HV2 HV3 HFT HFR hm1 hm2 hm3 hf
    go_wp2_with fail
    all_goals(go_ret;exact⟨rfl,HRe.out.be⟩)
   ·cases z0b HFR.out (Jk HFT.out) hm3 hm1
end Go.Proofs.YtgmcjddjdidpjabGreatDoor
