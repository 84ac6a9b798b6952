/- Lemmas for the last text. Conditions: those that each names. -/
import Derived.Test.YtgmcjddjdidpjaaGreatDoorWGV
set_option linter.unusedVariables false
set_option maxRecDepth 100000
set_option maxHeartbeats 8000000
namespace Go.Proofs.YtgmcjddjdidpjaaGreatDoor
open Go.Proofs.Tryz
open Go.RowKit Go.Shelf Go.Maps
theorem y4p(n:Nat)(rs:List Rl)(y1 y2:Int)(S A B C:ByteArray)(hS:S=smA)(hA:A=tA)(hB:B=tB)(hC:C=tC)(w:World)
  (HPA:Hid (Calls prog 22 #[.string smA] w fun e w'=>∃g cap,e=.returned (.tuple #[.agg #[.slice (some ⟨g,0,none⟩) n cap],.nilIface])/\Hid (RoR w.heap.size (.slice (some ⟨g,0,none⟩) n cap) rs w')/\Hid (Below w.heap.size w w')))
  (HA1:Hid (∀(g cap:Nat) (W:World),RoR w.heap.size (.slice (some ⟨g,0,none⟩) n cap) rs W->Below w.heap.size w W->Calls prog 12 #[.agg #[.slice (some ⟨g,0,none⟩) n cap],.string tA,.int .i64 1000] W fun e w'=>e=.returned (.tuple #[.bool true,.int .i64 y1,.nilIface])/\Below W.heap.size W w'))
  (HA2:Hid (∀(g cap:Nat) (W:World),RoR w.heap.size (.slice (some ⟨g,0,none⟩) n cap) rs W->Below w.heap.size w W->Calls prog 12 #[.agg #[.slice (some ⟨g,0,none⟩) n cap],.string tB,.int .i64 1000] W fun e w'=>e=.returned (.tuple #[.bool false,.int .i64 y2,.nilIface])/\Below W.heap.size W w'))
  (HM:Hid (∀(g cap:Nat) (W:World),RoR w.heap.size (.slice (some ⟨g,0,none⟩) n cap) rs W->Below w.heap.size w W->Calls prog 11 #[.agg #[.slice (some ⟨g,0,none⟩) n cap],.int .i64 2,.string tC,.int .i64 1,.int .i64 9] W fun e w'=>e=.returned (.tuple #[.int .i64 2,.int .i64 4,.nilIface])/\Below W.heap.size W w')):
  Calls prog 9 #[] w fun e w'=>e=.returned (.bool true)/\Hid (Below w.heap.size w w'):=by
 go_enter func9,ntmps9
 go_wp2_with fail
 refine HPA.out.mono ?_;rintro e w1 ⟨g,cap,rfl,HRo,HB⟩;obtain⟨u1,hu1⟩:∃u1,u1=w1.alloc (.cells #[.slice (some ⟨g,0,none⟩) n cap] 24):=⟨_,rfl⟩;have hb11:Below w1.heap.size w1 u1:=by rw[hu1];exact(Below.refl _ w1).alloc L0q _
 have HG1:Hid (u1.heap[w1.heap.size]? =some (.cells #[.slice (some ⟨g,0,none⟩) n cap] 24)):=by rw[hu1];exact Qx w1 _ rfl
 have HBu:=hid (HB.out.trans (hb11.mono HB.out.size));have HRu:=hid (HRo.out.below hb11);have HC1:=hid (HA1.out g cap u1 HRu.out HBu.out);have HU1:=hid hu1;clear HPA HRo hb11 hu1 HA1
 go_wp2_with fail
 rw[<-HU1.out];refine HC1.out.mono ?_;rintro e w2 ⟨rfl,hb2⟩;have HB2:=hid (HBu.out.trans (hb2.mono HBu.out.size));have HR2:=hid (HRu.out.below hb2);have hG2:=(hb2.block _ (Qz HG1.out)).trans HG1.out;have g2:=(Qj hG2).1;have lg2:=Qz hG2;have HG2:=hid hG2;have HC2:=hid (HA2.out g cap w2 HR2.out HB2.out);clear HC1 HU1 hb2 hG2 HA2 HRu HBu HG1
 go_wp2_with fail
 refine HC2.out.mono ?_;rintro e w3 ⟨rfl,hb3⟩;have HB3:=hid (HB2.out.trans (hb3.mono HB2.out.size));have HR3:=hid (HR2.out.below hb3);have hG3:=(hb3.block _ (Qz HG2.out)).trans HG2.out;have g3:=(Qj hG3).1;have lg3:=Qz hG3;have HC3:=hid (HM.out g cap w3 HR3.out HB3.out);clear HC2 hb3 hG3 HM HR2 HB2 HG2 g2 lg2
 go_wp2_with fail
 refine HC3.out.mono ?_;rintro e w4 ⟨rfl,hb4⟩;have HB4:=hid (HB3.out.trans (hb4.mono HB3.out.size));clear HC3 hb4 HR3 HB3 g3 lg3
 go_wp2_with fail
 go_ret;exact⟨rfl,HB4⟩
theorem y4c{S:ByteArray}{rs:List Rl}(hS:S.size<=8192)(hp:parS S=.inr rs)(h1:sz (pR qT cT rs)<=8192)(h2:dR rs<=24)(hck:ckR (toG rs)=none)(hZ:soZ (toG rs) none=none)(B g n cap:Nat)(fp:Addr)(W:World)(hr:RoR B (.slice (some ⟨g,0,none⟩) n cap) rs W)(hT:TabIs W)(hF:W.cell? ⟨1,0,none⟩=some (.iface 325 (.pointer (some fp))))(hn:n=(toG rs).length)(r a m:Nat)(T:ByteArray)(hrn:r<(toG rs).length)(ha:a<=T.size)(hm:m<=1048576)(hTz:T.size<=4096)(e:Option Nat)(c:Nat)(hM:Mt (bdR (toG rs)) T (.one (toG rs)[r].2.1) a e c)(hc:c<=m)(W':World)(hW:Below W.heap.size W W'):
  Calls prog 11 #[.agg #[.slice (some ⟨g,0,none⟩) n cap],.int .i64 r,.string T,.int .i64 a,.int .i64 m] W' fun e' w'=>e'=.returned (.tuple #[.int .i64 (eI e),.int .i64 c,.nilIface])/\Below W'.heap.size W' w':=by
 obtain⟨hi,hz,hX,hC⟩:=checked_read hS hp h1 h2 B g n cap W hr hT;have e0:xOf (toG rs)=none:=by unfold xOf;rw[hck];rfl
 rw[e0]at hX hC;have hU:RgU (toG rs):=fun x hx=>by
  obtain⟨y,_,rfl⟩:=List.mem_map.1 hx;exact y4e y.2.1
 refine(fmatch_any _ n cap (toG rs) none W.heap.size fp W hX (fun _=>y4l hp h1 h2) hC hz hU hi L0q hT hF (r:Int) (a:Int) (m:Int) T (by omega) W' hW).mono fun e' w' he=> ?_
 obtain⟨x,y,v,rfl,hv,hb⟩:=he;refine⟨?_,hb⟩;have u1:upB ((n:Int)-1) (r:Int)=true:=by unfold upB;simp;omega
 have u2:upB (T.size:Int) (a:Int)=true:=by unfold upB;simp;omega
 have u3:upB 1048576 (m:Int)=true:=by unfold upB;simp;omega
 rw[u1,u2,u3]at hv;rcases hv with⟨h,_⟩|⟨_,h,_⟩|⟨_,_,h,_⟩|⟨_,_,_,hr',h⟩
 ·exact absurd hZ h
 ·cases h
 ·have:=of_decide_eq_false h;omega
 ·rcases h with⟨e2,c2,h3,_,rfl,rfl,rfl⟩|⟨h3,_⟩
  ·obtain⟨rfl,rfl⟩:=mt_det hM (by simpa using h3)
   rfl
  ·have:=h3 e c (by simpa using hM)
   omega
theorem y4i(fp:Addr)(w:World)(h:Xf w)(hT:TabIs w)(hF:w.cell? ⟨1,0,none⟩=some (.iface 325 (.pointer (some fp)))):Calls prog 9 #[] w fun e w'=>e=.returned (.bool true)/\Hid (Below w.heap.size w w'):=by
 obtain⟨rs,hp,hs1,hs2,hck,hZ,hl,⟨c1,hc1,m1⟩,⟨c2,hc2,m2⟩,m3⟩:=y4o;have HPA:=yparse_any smA w h (by decide);rw[hp]at HPA;unfold AnsD at HPA;simp only at HPA;have hlen:rs.length=(toG rs).length:=by unfold toG;rw[List.length_map]
 have hFb:∀{W:World},Below w.heap.size w W->W.cell? ⟨1,0,none⟩=some (.iface 325 (.pointer (some fp))):=fun hb=>(hb.cell (p:=⟨1,0,none⟩) (World.block_lt_of_cell? w _ hF)).trans hF
 refine y4p rs.length rs (c1:Int) (c2:Int) _ _ _ _ rfl rfl rfl rfl w (hid HPA) (hid fun g cap W hr hb=> ?_) (hid fun g cap W hr hb=> ?_) (hid fun g cap W hr hb=> ?_)
 ·exact y4h _ _ _ tA 1000 7 (c1:Int) true W rfl (by decide) (hid fun W' hW=>y4c (by decide) hp hs1 hs2 hck hZ _ g rs.length cap fp W hr (hT.below hb hT.lt) (hFb hb) hlen 0 0 1000 tA (by omega) (by decide) (by decide) (by decide) (some 7) c1 m1 hc1 W' hW)
 ·exact y4h _ _ _ tB 1000 (-1) (c2:Int) false W rfl (by decide) (hid fun W' hW=>y4c (by decide) hp hs1 hs2 hck hZ _ g rs.length cap fp W hr (hT.below hb hT.lt) (hFb hb) hlen 0 0 1000 tB (by omega) (by decide) (by decide) (by decide) none c2 m2 hc2 W' hW)
 ·exact y4c (by decide) hp hs1 hs2 hck hZ _ g rs.length cap fp W hr (hT.below hb hT.lt) (hFb hb) hlen 2 1 9 tC (by omega) (by decide) (by decide) (by decide) (some 2) 4 m3 (by decide) W B0q
end Go.Proofs.YtgmcjddjdidpjaaGreatDoor
