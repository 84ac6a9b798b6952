/- Lemmas for the last text. Conditions: those that each names. -/
import Derived.Test.YtgmcjddjdidpjabGreatDoorVGFLToGLBase
set_option linter.unusedVariables false
set_option maxRecDepth 100000
set_option maxHeartbeats 16000000
namespace Go.Proofs.YtgmcjddjdidpjabGreatDoor
open Go.Proofs.Tryz
open Go.RowKit Go.Shelf Go.Maps
structure Rvs (w w2:World) (G N S:Array Value) (W:World):Prop where
 be:Below w.heap.size w W
 g:W.heap[w.heap.size]? =some (.cells G 24)
 n:W.heap[w.heap.size+1]? =some (.cells N 30)
 st:W.heap[w2.heap.size+1]? =some (.cells S 30)
 bs:Below (w2.alloc (.cells N 30)).heap.size (w2.alloc (.cells N 30)) W
theorem Rvs.below{w w2 W W':World}{G N S:Array Value}(h:Rvs w w2 G N S W)(hb:Below W.heap.size W W'):Rvs w w2 G N S W':=
 ⟨h.be.trans (hb.mono h.be.size),(hb.block _ (Qz h.g)).trans h.g,(hb.block _ (Qz h.n)).trans h.n,(hb.block _ (Qz h.st)).trans h.st,h.bs.trans (hb.mono h.bs.size)⟩
theorem Rvs.make{w w2:World}{G N:Array Value}(S:Array Value)(h:Rv1 w G N w2):Rvs w w2 G N S ((w2.alloc (.cells N 30)).alloc (.cells S 30)):=by
 obtain⟨h1,h2,h3⟩:=Ip w2 (.cells N 30) (.cells S 30);have h4:=h.below h1;exact⟨h4.be,h4.g,h4.n,h3,B0q.alloc L0q _⟩
theorem AtV.two{rs:List Rr}{t:RT}{T:ByteArray}{f r:Int}(h:AtV rs t T f r):r= -2∨((decide (r= -2)=false/\(r == -2)=false/\¬r= -2)/\∃e c,Mt (bdR (wiG fsS t rs)) T (.one t) f.toNat e c/\r=eI e):=by
 rcases h with h|⟨_,e,c,hm,h⟩
 ·exact .inl h
 ·have:¬r= -2:=by
   rw[h];cases e with
   |none=>show ¬(-1:Int)= -2;decide
   |some x=>show ¬(x:Int)= -2;omega
  exact .inr ⟨⟨by simpa using this,by simpa using this,this⟩,e,c,hm,h⟩
theorem y5r(so:Option Addr)(n cap:Nat)(rs:List Rr)(kx:Int)(Tx:ByteArray)(ax bx cx dx:Int)(sox:Option Addr)(nx capx:Nat)(px:Int)(t:RT)(T:ByteArray)(fp:Addr)(w:World)(hE:Xw w)(hT:TabIs w)(hF:w.cell? ⟨1,0,none⟩=some (.iface 243 (.pointer (some fp))))(hz:RgZ rs)(hu:RgU rs)(h:Qy w w.heap.size so n rs)(hn:n*112<=140737488351232)(ht:Qk w w.heap.size t (r8 kx Tx ax bx cx dx sox nx capx px))(htz:RtZ t)(htu:RtU t)(hTz:T.size<=9223372036854775807):
  Calls prog 4 #[.agg #[.slice so n cap],.agg #[.int .i64 kx,.string Tx,.int .u64 ax,.int .u64 bx,.int .u64 cx,.int .u64 dx,.slice sox nx capx,.int .i64 px],.string T] w fun e w'=>e=.returned (.bool true)/\Below w.heap.size w w':=by
 obtain⟨u1,hu1⟩:∃u1,u1=(w.alloc (.cells #[.slice so n cap] 24)).alloc (.cells #[.int .i64 kx,.string Tx,.int .u64 ax,.int .u64 bx,.int .u64 cx,.int .u64 dx,.slice sox nx capx,.int .i64 px] 30):=⟨_,rfl⟩;have hR1:Rv1 w #[.slice so n cap] #[.int .i64 kx,.string Tx,.int .u64 ax,.int .u64 bx,.int .u64 cx,.int .u64 dx,.slice sox nx capx,.int .i64 px] u1:=by
  obtain⟨q1,q2,q3⟩:=Ip w (.cells #[.slice so n cap] 24) (.cells #[.int .i64 kx,.string Tx,.int .u64 ax,.int .u64 bx,.int .u64 cx,.int .u64 dx,.slice sox nx capx,.int .i64 px] 30);rw[hu1];exact⟨q1,q2,q3⟩
 have hfl:1<w.heap.size:=World.block_lt_of_cell? w _ hF;have HS:=hid (z5J fp u1 (hE.below hR1.be hE.lt) (hT.below hR1.be hT.lt) ((hR1.be.cell (p:=⟨1,0,none⟩) hfl).trans hF));have HAp:=hid (fun(W:World) (hW:Below w.heap.size w W)=>z5A so n cap rs t t kx Tx ax bx cx dx sox nx capx px kx Tx ax bx cx dx sox nx capx px w.heap.size w h ht ht L0q W hW);have HA1:=hid (fun(f:Int) (W:World) (hW:Below w.heap.size w W)=>Ic so n cap rs kx Tx ax bx cx dx sox nx capx px t T f fp w.heap.size w hT hF hz hu h L0q hn ht htz htu hTz W hW);have HA3:=hid (fun(k f:Int) (W:World) (hW:Below w.heap.size w W) (W':World) (hW':Below (W.alloc (.cells #[.int .i64 kx,.string Tx,.int .u64 ax,.int .u64 bx,.int .u64 cx,.int .u64 dx,.slice sox nx capx,.int .i64 px] 30)).heap.size (W.alloc (.cells #[.int .i64 kx,.string Tx,.int .u64 ax,.int .u64 bx,.int .u64 cx,.int .u64 dx,.slice sox nx capx,.int .i64 px] 30)) W')=>Ic so n cap rs k {data:=#[]} 0 0 0 0 (some ⟨W.heap.size,0,none⟩) 1 1 0 (.mk k {data:=#[]} 0 0 0 0 [t] 0) T f fp (W.alloc (.cells #[.int .i64 kx,.string Tx,.int .u64 ax,.int .u64 bx,.int .u64 cx,.int .u64 dx,.slice sox nx capx,.int .i64 px] 30)).heap.size (W.alloc (.cells #[.int .i64 kx,.string Tx,.int .u64 ax,.int .u64 bx,.int .u64 cx,.int .u64 dx,.slice sox nx capx,.int .i64 px] 30)) (hT.below (hW.alloc hW.size _) hT.lt) (((hW.alloc hW.size _).cell (p:=⟨1,0,none⟩) hfl).trans hF) hz hu ((h.below (hW.alloc hW.size _)).upto (hW.alloc hW.size _).size) L0q hn (z5K kx Tx ax bx cx dx sox nx capx px (ht.below hW) hW.size k) (z5L k htz) (z5M k htu) hTz W' hW');have HR1:=hid hR1;have HU1:=hid hu1;clear hR1 hu1 hE hT hF hz hu h ht htz htu hfl;dsimp only[r8]at HAp;go_enter func4,ntmps4
 go_wp2_with fail
 rw[<-HU1.out];clear HU1;refine HS.out.mono ?_;rintro e w1 ⟨rfl,HB1⟩;have HRa:=hid (HR1.out.below HB1.out);clear HS HB1 HR1;obtain⟨g1,_⟩:=Qj HRa.out.g;obtain⟨⟨x0,x1,x2,x3,x4,x5,x6,x7⟩,_⟩:=Qv HRa.out.n;have lg1:=Qz HRa.out.g;have ln1:=Qz HRa.out.n
 go_wp2_with fail
 refine(HAp.out _ HRa.out.be).mono ?_;rintro e w2 ⟨x,rfl,hx,hb2⟩;have HRb:=hid (HRa.out.below hb2);have HX:=hid hx;clear g1 x0 x1 x2 x3 x4 x5 x6 x7 lg1 ln1;clear HAp HRa hb2 hx;rcases x with _|_
 ·go_wp2_with fail
  go_ret;exact⟨rfl,HRb.out.be⟩
 obtain⟨hfT,-,hfR⟩:=HX.out rfl;have HFT:=hid hfT;have HFR:=hid hfR;clear HX hfT hfR;obtain⟨g1,_⟩:=Qj HRb.out.g;obtain⟨⟨x0,x1,x2,x3,x4,x5,x6,x7⟩,_⟩:=Qv HRb.out.n;have lg1:=Qz HRb.out.g;have ln1:=Qz HRb.out.n;have HRc:=hid (Rvs.make (#[.int .i64 9,.string ⟨#[]⟩,.int .u64 0,.int .u64 0,.int .u64 0,.int .u64 0,.slice (some ⟨w2.heap.size,0,none⟩) 1 1,.int .i64 0]) HRb.out);have HA9:=hid (fun(f:Int) (W':World) (hW':Below (w2.alloc (.cells #[.int .i64 kx,.string Tx,.int .u64 ax,.int .u64 bx,.int .u64 cx,.int .u64 dx,.slice sox nx capx,.int .i64 px] 30)).heap.size (w2.alloc (.cells #[.int .i64 kx,.string Tx,.int .u64 ax,.int .u64 bx,.int .u64 cx,.int .u64 dx,.slice sox nx capx,.int .i64 px] 30)) W')=>HA3.out 9 f w2 HRb.out.be W' hW')
 go_wp2_with fail
 refine(HA1.out 0 _ HRc.out.be).mono ?_;rintro e w4 ⟨r1,rfl,HV1,HB4⟩;have HRd:=hid (HRc.out.below HB4.out);clear g1 x0 x1 x2 x3 x4 x5 x6 x7 lg1 ln1;clear HRb HRc HB4 HA1;obtain⟨g1,_⟩:=Qj HRd.out.g;obtain⟨⟨x0,x1,x2,x3,x4,x5,x6,x7⟩,_⟩:=Qv HRd.out.n;have lg1:=Qz HRd.out.g;have ln1:=Qz HRd.out.n;obtain⟨⟨y0,y1,y2,y3,y4,y5,y6,y7⟩,_⟩:=Qv HRd.out.st;have lm1:=Qz HRd.out.st
 go_wp2_with fail
 refine(HA9.out 0 _ HRd.out.bs).mono ?_;rintro e w5 ⟨r2,rfl,HV2,HB5⟩;have HRe:=hid (HRd.out.below HB5.out);clear g1 x0 x1 x2 x3 x4 x5 x6 x7 y0 y1 y2 y3 y4 y5 y6 y7 lg1 ln1 lm1;clear HRd HB5;obtain⟨g1,_⟩:=Qj HRe.out.g;obtain⟨⟨x0,x1,x2,x3,x4,x5,x6,x7⟩,_⟩:=Qv HRe.out.n;have lg1:=Qz HRe.out.g;have ln1:=Qz HRe.out.n;obtain⟨⟨y0,y1,y2,y3,y4,y5,y6,y7⟩,_⟩:=Qv HRe.out.st;have lm1:=Qz HRe.out.st;have HRx:=hid (HRe.out.below ((Below.refl _ w5).alloc L0q (.cells #[.int .i64 kx,.string Tx,.int .u64 ax,.int .u64 bx,.int .u64 cx,.int .u64 dx,.slice sox nx capx,.int .i64 px] 30)));have HS6:=hid (HA3.out 10 0 w5 HRe.out.be _ B0q)
 go_wp2_with fail
 refine HS6.out.mono ?_;rintro e w6 ⟨r3,rfl,HV3,HB6⟩;have HRf:=hid (HRx.out.below HB6.out);clear g1 x0 x1 x2 x3 x4 x5 x6 x7 y0 y1 y2 y3 y4 y5 y6 y7 lg1 ln1 lm1;clear HS6 HRe HRx HB6;obtain⟨g1,_⟩:=Qj HRf.out.g;obtain⟨⟨x0,x1,x2,x3,x4,x5,x6,x7⟩,_⟩:=Qv HRf.out.n;have lg1:=Qz HRf.out.g;have ln1:=Qz HRf.out.n;obtain⟨⟨y0,y1,y2,y3,y4,y5,y6,y7⟩,_⟩:=Qv HRf.out.st;have lm1:=Qz HRf.out.st;have HRx:=hid (HRf.out.below ((Below.refl _ w6).alloc L0q (.cells #[.int .i64 kx,.string Tx,.int .u64 ax,.int .u64 bx,.int .u64 cx,.int .u64 dx,.slice sox nx capx,.int .i64 px] 30)));have HS7:=hid (HA3.out 8 0 w6 HRf.out.be _ B0q)
 go_wp2_with fail
 refine HS7.out.mono ?_;rintro e w7 ⟨r4,rfl,HV4,HB7⟩;have HRg:=hid (HRx.out.below HB7.out);clear g1 x0 x1 x2 x3 x4 x5 x6 x7 y0 y1 y2 y3 y4 y5 y6 y7 lg1 ln1 lm1;clear HS7 HRf HRx HB7 HA3;rcases HV1.out.three with rfl|⟨rfl,-,c1,hm1⟩|⟨z1,rfl,-,c1,hm1⟩
 ·clear HV1 HV2 HV3 HV4 HFT HFR HA9
  go_wp2_with fail
  all_goals(go_ret;exact⟨rfl,HRg.out.be⟩)
 ·rcases HV2.out.two with rfl|⟨⟨p1,p2,p3⟩,e2,c2,hm2,h2⟩
  ·clear HV1 HV2 HV3 HV4 HFT HFR HA9 hm1
   go_wp2_with fail
   all_goals(go_ret;exact⟨rfl,HRg.out.be⟩)
  rcases HV3.out.two with rfl|⟨⟨q1,q2,q3⟩,e3,c3,hm3,h3⟩
  ·clear HV1 HV2 HV3 HV4 HFT HFR HA9 hm1 hm2 h2
   go_wp2_with fail
   all_goals(go_ret;exact⟨rfl,HRg.out.be⟩)
  rcases HV4.out.two with rfl|⟨⟨s1,s2,s3⟩,e4,c4,hm4,h4⟩
  ·clear HV1 HV2 HV3 HV4 HFT HFR HA9 hm1 hm2 h2 hm3 h3
   go_wp2_with fail
   all_goals(go_ret;exact⟨rfl,HRg.out.be⟩)
  obtain rfl:=(z5w HFR.out (Jk HFT.out) hm2 hm1).1 rfl;obtain rfl:=(z5x HFR.out (Jk HFT.out) hm3 hm1 hm2).1 rfl;obtain rfl:=z5v HFR.out (Jk HFT.out) hm4 hm1;obtain rfl:r2=0:=h2;obtain rfl:r3= -1:=h3;obtain rfl:r4=0:=h4;clear HV1 HV2 HV3 HV4 HFT HFR HA9 hm1 hm2 hm3 hm4 p1 p2 p3 q1 q2 q3 s1 s2 s3
  go_wp2_with fail
  all_goals(go_ret;exact⟨rfl,HRg.out.be⟩)
 ·obtain⟨o1,o2,o3⟩:=Lz z1 (-2) (by decide)
  obtain⟨o4,o5,o6,o7⟩:=z5N z1;rcases HV2.out.two with rfl|⟨⟨p1,p2,p3⟩,e2,c2,hm2,h2⟩
  ·clear HV1 HV2 HV3 HV4 HFT HFR HA9 hm1
   go_wp2_with fail
   all_goals(go_ret;exact⟨rfl,HRg.out.be⟩)
  rcases HV3.out.two with rfl|⟨⟨q1,q2,q3⟩,e3,c3,hm3,h3⟩
  ·clear HV1 HV2 HV3 HV4 HFT HFR HA9 hm1 hm2 h2
   go_wp2_with fail
   all_goals(go_ret;exact⟨rfl,HRg.out.be⟩)
  rcases HV4.out.two with rfl|⟨⟨s1,s2,s3⟩,e4,c4,hm4,h4⟩
  ·clear HV1 HV2 HV3 HV4 HFT HFR HA9 hm1 hm2 h2 hm3 h3
   go_wp2_with fail
   all_goals(go_ret;exact⟨rfl,HRg.out.be⟩)
  have HW:=hid ((z5w HFR.out (Jk HFT.out) hm2 hm1).2 z1 rfl);obtain rfl:=(z5x HFR.out (Jk HFT.out) hm3 hm1 hm2).2 z1 rfl;obtain rfl:=z5v HFR.out (Jk HFT.out) hm4 hm1;obtain rfl:r4=(z1:Int):=h4;obtain rfl:r3=r2:=h3.trans h2.symm;have H2:=hid h2;clear HV1 HV2 HV3 HV4 HFT HFR hm1 hm2 hm3 hm4 h2 h3 q1 q2 q3 s1 s2 s3;obtain⟨g1,_⟩:=Qj HRg.out.g;obtain⟨⟨x0,x1,x2,x3,x4,x5,x6,x7⟩,_⟩:=Qv HRg.out.n;have lg1:=Qz HRg.out.g;have ln1:=Qz HRg.out.n;obtain⟨⟨y0,y1,y2,y3,y4,y5,y6,y7⟩,_⟩:=Qv HRg.out.st;have lm1:=Qz HRg.out.st
  go_wp2_with fail
  refine(HA9.out (z1:Int) _ HRg.out.bs).mono ?_;rintro e w8 ⟨r5,rfl,HV5,HB8⟩;have HRh:=hid (HRg.out.below HB8.out);clear g1 x0 x1 x2 x3 x4 x5 x6 x7 y0 y1 y2 y3 y4 y5 y6 y7 lg1 ln1 lm1 HRg HB8 HA9;rcases HV5.out.two with rfl|⟨⟨q1,q2,q3⟩,e5,c5,hm5,h5⟩
  ·clear HV5 HW
   go_wp2_with fail
   all_goals(go_ret;exact⟨rfl,HRh.out.be⟩)
  ·rw[Int.toNat_natCast]at hm5
   obtain rfl:=HW.out e5 c5 hm5;obtain rfl:r5=r3:=h5.trans H2.out.symm;clear HV5 HW hm5 h5 H2 p1 p2 p3
   go_wp2_with fail
   all_goals(go_ret;exact⟨rfl,HRh.out.be⟩)
end Go.Proofs.YtgmcjddjdidpjabGreatDoor
