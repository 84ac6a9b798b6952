/- Lemmas for the last text. Conditions: those that each names. -/
import Derived.Test.YtgmcjddjdidpjaaGreatDoorVGJToGK
import Derived.Test.YtgmcjddjdidpjaaGreatDoorVKPlainToKG2
import Derived.Test.YtgmcjddjdidpjaaGreatDoorVRLToGI
import Derived.Deep.RegionHeld3
set_option linter.unusedVariables false
set_option maxRecDepth 100000
set_option maxHeartbeats 4000000
namespace Go.Proofs.YtgmcjddjdidpjaaGreatDoor
open Go.Proofs.Tryz
section
open Go.RowKit Go.Shelf Go.Maps
section
variable {mB:Nat} {L:Nat->Prop} {ix:ByteArray->Nat}
def Uv(w:World)(mB:Nat)(L:Nat->Prop)(ix:ByteArray->Nat):RT->Value->Prop
 | .mk k N a b c d s p,u=>
   (if k=2 then ∃c1 c2,u=fq2 162 c1 c2/\Hm w mB L c1/\Hb w mB L c2 #[.string N] 9
    else if k=3 then ∃c1 c2,u=fq2 163 c1 c2/\Hm w mB L c1/\Hb w mB L c2 (cA (cl4 a b c d)) 51
    else if k=4 then ∃c1 c2,u=fq2 163 c1 c2/\Hm w mB L c1/\Hb w mB L c2 (cA Qj) 51
    else if k=5 then ∃c1 c2,u=fq2 164 c1 c2/\Hm w mB L c1/\Hb w mB L c2 #[.int .i64 (ix N:Nat)] 3
    else if k=6 then ∃c1 so cap,u=fq1 165 c1/\Hb w mB L c1 #[.slice so (Qw s) cap] 103/\Mvs w mB L ix so 0 s
    else if k=7 then ∃c1 so cap,u=fq1 166 c1/\Hb w mB L c1 #[.slice so (Qw s) cap] 103/\Mvs w mB L ix so 0 s
    else if k=8 then ∃c1 x,u=fq1 167 c1/\Hb w mB L c1 #[x] 107/\MvH w mB L ix s x
    else if k=9 then ∃c1 x,u=fq1 168 c1/\Hb w mB L c1 #[x] 107/\MvH w mB L ix s x
    else if k=10 then ∃c1 c2 c3 x,u=fq2 169 c1 c2/\Hb w mB L c1 #[x] 107/\Hb w mB L c2 #[fq1 168 c3] 107/\Hb w mB L c3 #[x] 107/\MvH w mB L ix s x
    else if k=11 then ∃c1 x,u=fq1 170 c1/\Hb w mB L c1 #[x] 107/\MvH w mB L ix s x
    else if k=12 then ∃c1 x,u=fq1 171 c1/\Hb w mB L c1 #[x] 107/\MvH w mB L ix s x
    else u=.func (.func 132) #[] #[])
theorem y4p{w:World}{t:RT}{b1 b2:Nat}{u:Value}(h1:Hm w mB L b1)(h2:Hb w mB L b2 #[u] 107)(h3:Uv w mB L ix t u):Mv w mB L ix t (fq2 72 b1 b2):=by
 obtain⟨k,N,a,b,c,d,s,p⟩:=t;rw[Mv];exact⟨b1,b2,u,rfl,h1,h2,h3⟩
def UcP(mB:Nat)(L:Nat->Prop)(ix:ByteArray->Nat)(t:RT)(W:World)(e:Ending)(w':World):Prop:=∃F caps,e=.returned (.func (.func F) #[] caps)/\Uv w' mB L ix t (.func (.func F) #[] caps)/\Below W.heap.size W w'
def PtP(mB:Nat)(L:Nat->Prop)(ix:ByteArray->Nat)(s:List RT)(W:World)(e:Ending)(w':World):Prop:=∃so cap,e=.returned (.slice so (Qw s) cap)/\Mvs w' mB L ix so 0 s/\Below W.heap.size W w'
theorem y4q{a b c d:Int}(h:(0<=a/\a<18446744073709551616)/\(0<=b/\b<18446744073709551616)/\(0<=c/\c<18446744073709551616)/\(0<=d/\d<18446744073709551616)):cA (cl4 a b c d)=#[.int .u64 a,.int .u64 b,.int .u64 c,.int .u64 d]:=by
 have h1:=Pv a.toNat b.toNat c.toNat d.toNat (by omega) (by omega) (by omega) (by omega);unfold cA cl4;rw[h1.1,h1.2.1,h1.2.2.1,h1.2.2.2];simp only[Int.toNat_of_nonneg h.1.1,Int.toNat_of_nonneg h.2.1.1,Int.toNat_of_nonneg h.2.2.1.1,Int.toNat_of_nonneg h.2.2.2.1]
theorem Fg{w w':World}{o:Obj}(h:Below (w.alloc o).heap.size (w.alloc o) w'):Below w.heap.size w w':=((Below.refl _ w).alloc L0q _).trans (h.mono (by simp))
theorem y4r(N:ByteArray)(a b c d:Int)(so1:Option Addr)(n1 cap1:Nat)(p:Int)(s:List RT)(w:World)(hm:mB<w.heap.size)(hL:∀b,w.heap.size<=b->L b):
  Calls prog 71 #[.pointer (some ⟨mB,0,none⟩),.agg #[.int .i64 2,.string N,.int .u64 a,.int .u64 b,.int .u64 c,.int .u64 d,.slice so1 n1 cap1,.int .i64 p]] w (UcP mB L ix (.mk 2 N a b c d s p) w):=by
 have HC:=hid (fun(W:World) (h:mB<W.heap.size) (hL:∀b,W.heap.size<=b->L b)=>y4g N h hL);have HM:=hid hm;have HL:=hid hL;clear hm hL;go_enter func71,ntmps71
 go_wp2_with fail
 refine(HC.out _ (by rw[World.size_alloc];exact Nat.lt_succ_of_lt HM.out) (fun b hb=>HL.out b (by rw[World.size_alloc]at hb;omega))).mono ?_;rintro e w1 ⟨c1,c2,rfl,H⟩
 go_wp2_with fail
 go_ret;exact⟨_,_,rfl,⟨c1,c2,rfl,H.out.1,H.out.2.1⟩,Fg H.out.2.2⟩
theorem y4s(N:ByteArray)(a b c d:Int)(so1:Option Addr)(n1 cap1:Nat)(p:Int)(s:List RT)(hu:(0<=a/\a<18446744073709551616)/\(0<=b/\b<18446744073709551616)/\(0<=c/\c<18446744073709551616)/\(0<=d/\d<18446744073709551616))(w:World)(hm:mB<w.heap.size)(hL:∀b,w.heap.size<=b->L b):
  Calls prog 71 #[.pointer (some ⟨mB,0,none⟩),.agg #[.int .i64 3,.string N,.int .u64 a,.int .u64 b,.int .u64 c,.int .u64 d,.slice so1 n1 cap1,.int .i64 p]] w (UcP mB L ix (.mk 3 N a b c d s p) w):=by
 have HC:=hid (fun(W:World) (h:mB<W.heap.size) (hL:∀b,W.heap.size<=b->L b)=>z5N a b c d h hL);have HM:=hid hm;have HL:=hid hL;clear hm hL;go_enter func71,ntmps71
 go_wp2_with fail
 refine(HC.out _ (by rw[World.size_alloc];exact Nat.lt_succ_of_lt HM.out) (fun b hb=>HL.out b (by rw[World.size_alloc]at hb;omega))).mono ?_;rintro e w1 ⟨c1,c2,rfl,H⟩
 go_wp2_with fail
 go_ret;exact⟨_,_,rfl,⟨c1,c2,rfl,H.out.1,by rw[y4q hu];exact H.out.2.1⟩,Fg H.out.2.2⟩
theorem y4t(N:ByteArray)(a b c d:Int)(so1:Option Addr)(n1 cap1:Nat)(p:Int)(s:List RT)(w:World):
  Calls prog 71 #[.pointer (some ⟨mB,0,none⟩),.agg #[.int .i64 1,.string N,.int .u64 a,.int .u64 b,.int .u64 c,.int .u64 d,.slice so1 n1 cap1,.int .i64 p]] w (UcP mB L ix (.mk 1 N a b c d s p) w):=by
 go_enter func71,ntmps71
 go_wp2_with fail
 go_ret;exact⟨_,_,rfl,rfl,(Below.refl _ w).alloc L0q _⟩
theorem y4u(N:ByteArray)(a b c d:Int)(so1:Option Addr)(n1 cap1:Nat)(p:Int)(s:List RT)(w:World)(hm:mB<w.heap.size)(hL:∀b,w.heap.size<=b->L b):
  Calls prog 71 #[.pointer (some ⟨mB,0,none⟩),.agg #[.int .i64 4,.string N,.int .u64 a,.int .u64 b,.int .u64 c,.int .u64 d,.slice so1 n1 cap1,.int .i64 p]] w (UcP mB L ix (.mk 4 N a b c d s p) w):=by
 have HN:Hid (∀W:World,Calls prog 122 #[.agg #[.int .u64 0,.int .u64 0,.int .u64 0,.int .u64 0]] W fun e w'=>e=.returned (cv Qj)/\Below W.heap.size W w'):=fun W=>by
  have:=Df 0 (Nat.two_pow_pos _) W;rw[show Zj 0=Qj from Nat.sub_zero _]at this;exact this
 have HC:Hid (∀W:World,mB<W.heap.size->(∀b,W.heap.size<=b->L b)->Calls prog 121 #[.pointer (some ⟨mB,0,none⟩),.agg (cA Qj)] W fun e w'=>∃c1 c2,e=.returned (.func (.func 163) #[] #[.pointer (some ⟨c1,0,none⟩),.pointer (some ⟨c2,0,none⟩)])/\Hid (Hm w' mB L c1/\Hb w' mB L c2 (cA Qj) 51/\Below W.heap.size W w')):=fun W h hL=>z5N _ _ _ _ h hL
 have HM:=hid hm;have HL:=hid hL;have HU:Hid (∀(w':World) (c1 c2:Nat),Hm w' mB L c1->Hb w' mB L c2 (cA Qj) 51->Uv w' mB L ix (.mk 4 N a b c d s p) (.func (.func 163) #[] #[.pointer (some ⟨c1,0,none⟩),.pointer (some ⟨c2,0,none⟩)])):=fun w' c1 c2 h1 h2=>⟨c1,c2,rfl,h1,h2⟩
 generalize Qj=C at HN HC HU;clear hm hL;dsimp only[cA]at HC;go_enter func71,ntmps71
 go_wp2_with fail
 refine(HN.out _).mono ?_;rintro e w1 ⟨rfl,hb1⟩;dsimp only[cv];have HB1:=hid (Fg hb1);clear hb1
 go_wp2_with fail
 refine(HC.out _ (Nat.lt_of_lt_of_le HM.out HB1.out.size) (fun b hb=>HL.out b (Nat.le_trans HB1.out.size hb))).mono ?_;rintro e w2 ⟨c1,c2,rfl,H⟩
 go_wp2_with fail
 go_ret;exact⟨_,_,rfl,HU.out _ c1 c2 H.out.1 H.out.2.1,HB1.out.trans (H.out.2.2.mono HB1.out.size)⟩
theorem y4v(N:ByteArray)(a b c d:Int)(so1:Option Addr)(n1 cap1:Nat)(p:Int)(s:List RT)(w:World)(hm:mB<w.heap.size)(hL:∀b,w.heap.size<=b->L b)
  (HPt:Hid (∀W:World,Below w.heap.size w W->Calls prog 125 #[.pointer (some ⟨mB,0,none⟩),.agg #[.int .i64 6,.string N,.int .u64 a,.int .u64 b,.int .u64 c,.int .u64 d,.slice so1 n1 cap1,.int .i64 p]] W (PtP mB L ix s W))):
  Calls prog 71 #[.pointer (some ⟨mB,0,none⟩),.agg #[.int .i64 6,.string N,.int .u64 a,.int .u64 b,.int .u64 c,.int .u64 d,.slice so1 n1 cap1,.int .i64 p]] w (UcP mB L ix (.mk 6 N a b c d s p) w):=by
 have HC:=hid (fun(so:Option Addr) (n cap:Nat) (W:World) (h:mB<W.heap.size) (hL:∀b,W.heap.size<=b->L b)=>y4i so n cap h hL);have HM:=hid hm;have HL:=hid hL;clear hm hL;go_enter func71,ntmps71
 go_wp2_with fail
 refine(HPt.out _ ((Below.refl _ w).alloc L0q _)).mono ?_;rintro e w1 ⟨so,cap,rfl,hv,hb1⟩;have HV:=hid hv;have HB1:=hid (Fg hb1);clear hb1 hv
 go_wp2_with fail
 refine(HC.out so (Qw s) cap _ (Nat.lt_of_lt_of_le HM.out HB1.out.size) (fun b hb=>HL.out b (Nat.le_trans HB1.out.size hb))).mono ?_;rintro e w2 ⟨c1,rfl,H⟩
 go_wp2_with fail
 go_ret;exact⟨_,_,rfl,⟨c1,so,cap,rfl,H.out.1,Ny (G.below H.out.2) _ _ HV.out⟩,HB1.out.trans (H.out.2.mono HB1.out.size)⟩
theorem y4w(N:ByteArray)(a b c d:Int)(so1:Option Addr)(n1 cap1:Nat)(p:Int)(s:List RT)(w:World)(hm:mB<w.heap.size)(hL:∀b,w.heap.size<=b->L b)
  (HPt:Hid (∀W:World,Below w.heap.size w W->Calls prog 125 #[.pointer (some ⟨mB,0,none⟩),.agg #[.int .i64 7,.string N,.int .u64 a,.int .u64 b,.int .u64 c,.int .u64 d,.slice so1 n1 cap1,.int .i64 p]] W (PtP mB L ix s W))):
  Calls prog 71 #[.pointer (some ⟨mB,0,none⟩),.agg #[.int .i64 7,.string N,.int .u64 a,.int .u64 b,.int .u64 c,.int .u64 d,.slice so1 n1 cap1,.int .i64 p]] w (UcP mB L ix (.mk 7 N a b c d s p) w):=by
 have HC:=hid (fun(so:Option Addr) (n cap:Nat) (W:World) (h:mB<W.heap.size) (hL:∀b,W.heap.size<=b->L b)=>y4j so n cap h hL);have HM:=hid hm;have HL:=hid hL;clear hm hL;go_enter func71,ntmps71
 go_wp2_with fail
 refine(HPt.out _ ((Below.refl _ w).alloc L0q _)).mono ?_;rintro e w1 ⟨so,cap,rfl,hv,hb1⟩;have HV:=hid hv;have HB1:=hid (Fg hb1);clear hb1 hv
 go_wp2_with fail
 refine(HC.out so (Qw s) cap _ (Nat.lt_of_lt_of_le HM.out HB1.out.size) (fun b hb=>HL.out b (Nat.le_trans HB1.out.size hb))).mono ?_;rintro e w2 ⟨c1,rfl,H⟩
 go_wp2_with fail
 go_ret;exact⟨_,_,rfl,⟨c1,so,cap,rfl,H.out.1,Ny (G.below H.out.2) _ _ HV.out⟩,HB1.out.trans (H.out.2.mono HB1.out.size)⟩
theorem y4x(N:ByteArray)(a b c d:Int)(so1:Option Addr)(n1 cap1:Nat)(p:Int)(t:RT)(r:List RT)(w:World)(hm:mB<w.heap.size)(hL:∀b,w.heap.size<=b->L b)
  (HPt:Hid (∀W:World,Below w.heap.size w W->Calls prog 125 #[.pointer (some ⟨mB,0,none⟩),.agg #[.int .i64 8,.string N,.int .u64 a,.int .u64 b,.int .u64 c,.int .u64 d,.slice so1 n1 cap1,.int .i64 p]] W (PtP mB L ix (t::r) W)))(hr:Qw (t::r)<=9223372036854775807):
  Calls prog 71 #[.pointer (some ⟨mB,0,none⟩),.agg #[.int .i64 8,.string N,.int .u64 a,.int .u64 b,.int .u64 c,.int .u64 d,.slice so1 n1 cap1,.int .i64 p]] w (UcP mB L ix (.mk 8 N a b c d (t::r) p) w):=by
 have HC:=hid (fun(d1 d2:Nat) (W:World) (h:mB<W.heap.size) (hL:∀b,W.heap.size<=b->L b)=>y4k d1 d2 h hL);have HM:=hid hm;have HL:=hid hL;obtain⟨n0,hn0⟩:∃n0,n0=Qw (t::r):=⟨_,rfl⟩;have hpos:0<n0:=by rw[hn0,Qw];omega
 have hposI:(0:Int)<(n0:Int):=by omega
 rw[<-hn0]at hr;have HN0:=hid hn0;clear hm hn0 hL;go_enter func71,ntmps71
 go_wp2_with fail
 refine(HPt.out _ ((Below.refl _ w).alloc L0q _)).mono ?_;rintro e w1 ⟨so,cap,rfl,hv,hb1⟩;have HB1:=hid (Fg hb1);obtain⟨g,o,x,rfl,_,hc,hx⟩:=Gj hv 0 (by simp);obtain⟨d1,d2,rfl⟩:=Jq hx;rw[Nat.add_zero]at hc;have lg:g<w1.heap.size:=World.block_lt_of_cell? w1 _ hc;have HV:=hid hx;rw[<-HN0.out];clear hb1 hv hx;dsimp only[fq2]at hc
 go_wp2_with fail
 refine(HC.out d1 d2 _ (Nat.lt_of_lt_of_le HM.out HB1.out.size) (fun b hb=>HL.out b (Nat.le_trans HB1.out.size hb))).mono ?_;rintro e w2 ⟨c1,rfl,H⟩
 go_wp2_with fail
 go_ret;exact⟨_,_,rfl,⟨c1,_,rfl,H.out.1,Uk (G.below H.out.2) _ _ HV.out⟩,HB1.out.trans (H.out.2.mono HB1.out.size)⟩
theorem y4y(N:ByteArray)(a b c d:Int)(so1:Option Addr)(n1 cap1:Nat)(p:Int)(t:RT)(r:List RT)(w:World)(hm:mB<w.heap.size)(hL:∀b,w.heap.size<=b->L b)
  (HPt:Hid (∀W:World,Below w.heap.size w W->Calls prog 125 #[.pointer (some ⟨mB,0,none⟩),.agg #[.int .i64 9,.string N,.int .u64 a,.int .u64 b,.int .u64 c,.int .u64 d,.slice so1 n1 cap1,.int .i64 p]] W (PtP mB L ix (t::r) W)))(hr:Qw (t::r)<=9223372036854775807):
  Calls prog 71 #[.pointer (some ⟨mB,0,none⟩),.agg #[.int .i64 9,.string N,.int .u64 a,.int .u64 b,.int .u64 c,.int .u64 d,.slice so1 n1 cap1,.int .i64 p]] w (UcP mB L ix (.mk 9 N a b c d (t::r) p) w):=by
 have HC:=hid (fun(d1 d2:Nat) (W:World) (h:mB<W.heap.size) (hL:∀b,W.heap.size<=b->L b)=>y4l d1 d2 h hL);have HM:=hid hm;have HL:=hid hL;obtain⟨n0,hn0⟩:∃n0,n0=Qw (t::r):=⟨_,rfl⟩;have hpos:0<n0:=by rw[hn0,Qw];omega
 have hposI:(0:Int)<(n0:Int):=by omega
 rw[<-hn0]at hr;have HN0:=hid hn0;clear hm hn0 hL;go_enter func71,ntmps71
 go_wp2_with fail
 refine(HPt.out _ ((Below.refl _ w).alloc L0q _)).mono ?_;rintro e w1 ⟨so,cap,rfl,hv,hb1⟩;have HB1:=hid (Fg hb1);obtain⟨g,o,x,rfl,_,hc,hx⟩:=Gj hv 0 (by simp);obtain⟨d1,d2,rfl⟩:=Jq hx;rw[Nat.add_zero]at hc;have lg:g<w1.heap.size:=World.block_lt_of_cell? w1 _ hc;have HV:=hid hx;rw[<-HN0.out];clear hb1 hv hx;dsimp only[fq2]at hc
 go_wp2_with fail
 refine(HC.out d1 d2 _ (Nat.lt_of_lt_of_le HM.out HB1.out.size) (fun b hb=>HL.out b (Nat.le_trans HB1.out.size hb))).mono ?_;rintro e w2 ⟨c1,rfl,H⟩
 go_wp2_with fail
 go_ret;exact⟨_,_,rfl,⟨c1,_,rfl,H.out.1,Uk (G.below H.out.2) _ _ HV.out⟩,HB1.out.trans (H.out.2.mono HB1.out.size)⟩
theorem y4z(N:ByteArray)(a b c d:Int)(so1:Option Addr)(n1 cap1:Nat)(p:Int)(t:RT)(r:List RT)(w:World)(hm:mB<w.heap.size)(hL:∀b,w.heap.size<=b->L b)
  (HPt:Hid (∀W:World,Below w.heap.size w W->Calls prog 125 #[.pointer (some ⟨mB,0,none⟩),.agg #[.int .i64 10,.string N,.int .u64 a,.int .u64 b,.int .u64 c,.int .u64 d,.slice so1 n1 cap1,.int .i64 p]] W (PtP mB L ix (t::r) W)))(hr:Qw (t::r)<=9223372036854775807):
  Calls prog 71 #[.pointer (some ⟨mB,0,none⟩),.agg #[.int .i64 10,.string N,.int .u64 a,.int .u64 b,.int .u64 c,.int .u64 d,.slice so1 n1 cap1,.int .i64 p]] w (UcP mB L ix (.mk 10 N a b c d (t::r) p) w):=by
 have HC:=hid (fun(d1 d2:Nat) (W:World) (h:mB<W.heap.size) (hL:∀b,W.heap.size<=b->L b)=>y4o d1 d2 h hL);have HM:=hid hm;have HL:=hid hL;obtain⟨n0,hn0⟩:∃n0,n0=Qw (t::r):=⟨_,rfl⟩;have hpos:0<n0:=by rw[hn0,Qw];omega
 have hposI:(0:Int)<(n0:Int):=by omega
 rw[<-hn0]at hr;have HN0:=hid hn0;clear hm hn0 hL;go_enter func71,ntmps71
 go_wp2_with fail
 refine(HPt.out _ ((Below.refl _ w).alloc L0q _)).mono ?_;rintro e w1 ⟨so,cap,rfl,hv,hb1⟩;have HB1:=hid (Fg hb1);obtain⟨g,o,x,rfl,_,hc,hx⟩:=Gj hv 0 (by simp);obtain⟨d1,d2,rfl⟩:=Jq hx;rw[Nat.add_zero]at hc;have lg:g<w1.heap.size:=World.block_lt_of_cell? w1 _ hc;have HV:=hid hx;rw[<-HN0.out];clear hb1 hv hx;dsimp only[fq2]at hc
 go_wp2_with fail
 refine(HC.out d1 d2 _ (Nat.lt_of_lt_of_le HM.out HB1.out.size) (fun b hb=>HL.out b (Nat.le_trans HB1.out.size hb))).mono ?_;rintro e w2 ⟨c1,c2,c3,rfl,H⟩
 go_wp2_with fail
 go_ret;exact⟨_,_,rfl,⟨c1,c2,c3,_,rfl,H.out.1,H.out.2.1,H.out.2.2.1,Uk (G.below H.out.2.2.2) _ _ HV.out⟩,HB1.out.trans (H.out.2.2.2.mono HB1.out.size)⟩
theorem y4A(N:ByteArray)(a b c d:Int)(so1:Option Addr)(n1 cap1:Nat)(p:Int)(t:RT)(r:List RT)(w:World)(hm:mB<w.heap.size)(hL:∀b,w.heap.size<=b->L b)
  (HPt:Hid (∀W:World,Below w.heap.size w W->Calls prog 125 #[.pointer (some ⟨mB,0,none⟩),.agg #[.int .i64 11,.string N,.int .u64 a,.int .u64 b,.int .u64 c,.int .u64 d,.slice so1 n1 cap1,.int .i64 p]] W (PtP mB L ix (t::r) W)))(hr:Qw (t::r)<=9223372036854775807):
  Calls prog 71 #[.pointer (some ⟨mB,0,none⟩),.agg #[.int .i64 11,.string N,.int .u64 a,.int .u64 b,.int .u64 c,.int .u64 d,.slice so1 n1 cap1,.int .i64 p]] w (UcP mB L ix (.mk 11 N a b c d (t::r) p) w):=by
 have HC:=hid (fun(d1 d2:Nat) (W:World) (h:mB<W.heap.size) (hL:∀b,W.heap.size<=b->L b)=>y4m d1 d2 h hL);have HM:=hid hm;have HL:=hid hL;obtain⟨n0,hn0⟩:∃n0,n0=Qw (t::r):=⟨_,rfl⟩;have hpos:0<n0:=by rw[hn0,Qw];omega
 have hposI:(0:Int)<(n0:Int):=by omega
 rw[<-hn0]at hr;have HN0:=hid hn0;clear hm hn0 hL;go_enter func71,ntmps71
 go_wp2_with fail
 refine(HPt.out _ ((Below.refl _ w).alloc L0q _)).mono ?_;rintro e w1 ⟨so,cap,rfl,hv,hb1⟩;have HB1:=hid (Fg hb1);obtain⟨g,o,x,rfl,_,hc,hx⟩:=Gj hv 0 (by simp);obtain⟨d1,d2,rfl⟩:=Jq hx;rw[Nat.add_zero]at hc;have lg:g<w1.heap.size:=World.block_lt_of_cell? w1 _ hc;have HV:=hid hx;rw[<-HN0.out];clear hb1 hv hx;dsimp only[fq2]at hc
 go_wp2_with fail
 refine(HC.out d1 d2 _ (Nat.lt_of_lt_of_le HM.out HB1.out.size) (fun b hb=>HL.out b (Nat.le_trans HB1.out.size hb))).mono ?_;rintro e w2 ⟨c1,rfl,H⟩
 go_wp2_with fail
 go_ret;exact⟨_,_,rfl,⟨c1,_,rfl,H.out.1,Uk (G.below H.out.2) _ _ HV.out⟩,HB1.out.trans (H.out.2.mono HB1.out.size)⟩
theorem y4B(N:ByteArray)(a b c d:Int)(so1:Option Addr)(n1 cap1:Nat)(p:Int)(t:RT)(r:List RT)(w:World)(hm:mB<w.heap.size)(hL:∀b,w.heap.size<=b->L b)
  (HPt:Hid (∀W:World,Below w.heap.size w W->Calls prog 125 #[.pointer (some ⟨mB,0,none⟩),.agg #[.int .i64 12,.string N,.int .u64 a,.int .u64 b,.int .u64 c,.int .u64 d,.slice so1 n1 cap1,.int .i64 p]] W (PtP mB L ix (t::r) W)))(hr:Qw (t::r)<=9223372036854775807):
  Calls prog 71 #[.pointer (some ⟨mB,0,none⟩),.agg #[.int .i64 12,.string N,.int .u64 a,.int .u64 b,.int .u64 c,.int .u64 d,.slice so1 n1 cap1,.int .i64 p]] w (UcP mB L ix (.mk 12 N a b c d (t::r) p) w):=by
 have HC:=hid (fun(d1 d2:Nat) (W:World) (h:mB<W.heap.size) (hL:∀b,W.heap.size<=b->L b)=>y4n d1 d2 h hL);have HM:=hid hm;have HL:=hid hL;obtain⟨n0,hn0⟩:∃n0,n0=Qw (t::r):=⟨_,rfl⟩;have hpos:0<n0:=by rw[hn0,Qw];omega
 have hposI:(0:Int)<(n0:Int):=by omega
 rw[<-hn0]at hr;have HN0:=hid hn0;clear hm hn0 hL;go_enter func71,ntmps71
 go_wp2_with fail
 refine(HPt.out _ ((Below.refl _ w).alloc L0q _)).mono ?_;rintro e w1 ⟨so,cap,rfl,hv,hb1⟩;have HB1:=hid (Fg hb1);obtain⟨g,o,x,rfl,_,hc,hx⟩:=Gj hv 0 (by simp);obtain⟨d1,d2,rfl⟩:=Jq hx;rw[Nat.add_zero]at hc;have lg:g<w1.heap.size:=World.block_lt_of_cell? w1 _ hc;have HV:=hid hx;rw[<-HN0.out];clear hb1 hv hx;dsimp only[fq2]at hc
 go_wp2_with fail
 refine(HC.out d1 d2 _ (Nat.lt_of_lt_of_le HM.out HB1.out.size) (fun b hb=>HL.out b (Nat.le_trans HB1.out.size hb))).mono ?_;rintro e w2 ⟨c1,rfl,H⟩
 go_wp2_with fail
 go_ret;exact⟨_,_,rfl,⟨c1,_,rfl,H.out.1,Uk (G.below H.out.2) _ _ HV.out⟩,HB1.out.trans (H.out.2.mono HB1.out.size)⟩
end
end
section
open Go.RowKit Go.Shelf Go.Maps
section
variable {mB:Nat} {L:Nat->Prop} {ix:ByteArray->Nat}
theorem Pm.look{W:World}{B:Nat}{l:List ByteArray}{s:ByteArray}(h:Pm W B l)(hin:inN s l=true)(hs:s.size<=maxLen):(Instr.lookup 102 (.map (some B)) (.string s) false).run prog W=.ok (.int .i64 (ixN s l:Nat)) W:=by
 obtain⟨D,h1,h2⟩:=h;obtain⟨c,h3,h4,_⟩:=h1.lookup_int Gp Tryz.underlying102 Tryz.underlying3 (Cl W) (Gc hs);rw[(h2 s).2 hin]at h4;rw[h3];have:((ixN s l:Nat):Int)=c:=by simpa using h4
 rw[this]
theorem y4C{W W':World}{a b:Addr}{x y:Value}{pB:Nat}{l:List ByteArray}(h:W.cell? a=some x/\W.cell? b=some y/\Pm W pB l)(hb:Below W.heap.size W W'):W'.cell? a=some x/\W'.cell? b=some y/\Pm W' pB l:=by
 have e:∀{a:Addr} {u:Value},W.cell? a=some u->W'.cell? a=some u:=fun{a u} h=>(hb.cell (p:=a) (World.block_lt_of_cell? W _ h)).trans h
 exact⟨e h.1,e h.2.1,h.2.2.below hb h.2.2.lt⟩
theorem y4D(N:ByteArray)(a b c d:Int)(so1:Option Addr)(n1 cap1:Nat)(p:Int)(s:List RT)(pB:Nat)(l:List ByteArray)(w:World)(hm:mB<w.heap.size)(hL:∀b,w.heap.size<=b->L b)(hc:w.cell? ⟨mB,1,none⟩=some (.map (some pB)))(hp:Pm w pB l)(hin:inN N l=true)(hs:N.size<=maxLen):
  Calls prog 71 #[.pointer (some ⟨mB,0,none⟩),.agg #[.int .i64 5,.string N,.int .u64 a,.int .u64 b,.int .u64 c,.int .u64 d,.slice so1 n1 cap1,.int .i64 p]] w (UcP mB L (fun N=>ixN N l) (.mk 5 N a b c d s p) w):=by
 have HC:=hid (fun(W:World) (h:mB<W.heap.size) (hL:∀b,W.heap.size<=b->L b)=>y4h (ixN N l) h hL);have HIn:=hid hin;have HSz:=hid hs;obtain⟨W1,hW1⟩:∃W1,W1=w.alloc (.cells #[.int .i64 5,.string N,.int .u64 a,.int .u64 b,.int .u64 c,.int .u64 d,.slice so1 n1 cap1,.int .i64 p] 58):=⟨_,rfl⟩;have hb1:Below w.heap.size w W1:=by rw[hW1];exact(Below.refl _ w).alloc L0q _
 have hn1:W1.heap[w.heap.size]? =some (.cells #[.int .i64 5,.string N,.int .u64 a,.int .u64 b,.int .u64 c,.int .u64 d,.slice so1 n1 cap1,.int .i64 p] 58):=by rw[hW1];exact Qq w _ rfl
 obtain⟨⟨y0,y1,_⟩,_⟩:=Qd hn1;have ln:=Qz hn1;have HS0:Hid (W1.drew.cell? ⟨mB,1,none⟩=some (.map (some pB))/\W1.drew.cell? ⟨w.heap.size,1,none⟩=some (.string N)/\Pm W1.drew pB l):=⟨(hb1.cell (p:=⟨mB,1,none⟩) hm).trans hc,y1,hp.below hb1.drew hp.lt⟩;have HM1:Hid (mB<W1.drew.heap.size):=Nat.lt_of_lt_of_le hm hb1.size;have HL1:Hid (∀b,W1.drew.heap.size<=b->L b):=fun b hb=>hL b (Nat.le_trans hb1.size hb)
 have HBd:Hid (Below w.heap.size w W1.drew):=hb1.drew;have lm1:mB<W1.heap.size:=Nat.lt_of_lt_of_le hm hb1.size;have HW1:=hid hW1;clear hm hL hc hp hin hs hW1 hn1 hb1;go_enter func71,ntmps71
 go_wp2_with fail
 rw[<-HW1.out];refine Vw 99 (fun W:World=>W.cell? ⟨mB,1,none⟩=some (.map (some pB))/\W.cell? ⟨w.heap.size,1,none⟩=some (.string N)/\Pm W pB l) (by kernel_rfl) HS0.out (fun hHeld=> ?_);refine Qx 0 hHeld ?_;refine Qx 1 hHeld ?_;refine Qx 2 hHeld ?_;refine Qx 3 hHeld ?_;refine Qx 4 hHeld ?_;refine Qx 5 hHeld ?_;refine Qx 6 hHeld ?_
 (refine Zy 7 (fun K hK=> ?_);have hlk:=Pm.look hHeld.2.2 HIn.out HSz.out;go_simp;refine hK.out _ _ hHeld ?_;clear hlk hK K)
 (try simp only[Act.put,List.setIfInBounds_toArray,List.set_cons_zero,List.set_cons_succ])
 (refine Zy 8 (fun K hK=> ?_);go_simp;refine(HC.out _ HM1.out HL1.out).mono ?_;rintro e w4 ⟨c1,c2,rfl,H⟩;have HH:=hid H.out.2.2;go_simp;replace hHeld:=y4C hHeld HH.out;refine hK.out _ _ hHeld ?_;clear hK K)
 (try simp only[Act.put,List.setIfInBounds_toArray,List.set_cons_zero,List.set_cons_succ])
 refine Qx 9 hHeld ?_;refine⟨by kernel_rfl,?_⟩;clear hHeld HS0 HW1
 go_wp2_with fail
 go_ret;exact⟨_,_,rfl,⟨c1,c2,rfl,H.out.1,H.out.2.1⟩,HBd.out.trans (HH.out.mono HBd.out.size)⟩
theorem y4E{w w':World}(hg:w.grownBy w' (some mB))(t:RT)(u:Value)(h:Uv w mB L ix t u):Uv w' mB L ix t u:=by
 obtain⟨k,N,a,b,c,d,s,p⟩:=t;rw[Uv]at h ⊢;by_cases hk2:k=2
 ·rw[if_pos hk2]at h ⊢
  obtain⟨c1,c2,e,x1,x2⟩:=h;exact⟨c1,c2,e,x1.kept hg,x2.kept hg⟩
 rw[if_neg hk2]at h ⊢;by_cases hk3:k=3
 ·rw[if_pos hk3]at h ⊢
  obtain⟨c1,c2,e,x1,x2⟩:=h;exact⟨c1,c2,e,x1.kept hg,x2.kept hg⟩
 rw[if_neg hk3]at h ⊢;by_cases hk4:k=4
 ·rw[if_pos hk4]at h ⊢
  obtain⟨c1,c2,e,x1,x2⟩:=h;exact⟨c1,c2,e,x1.kept hg,x2.kept hg⟩
 rw[if_neg hk4]at h ⊢;by_cases hk5:k=5
 ·rw[if_pos hk5]at h ⊢
  obtain⟨c1,c2,e,x1,x2⟩:=h;exact⟨c1,c2,e,x1.kept hg,x2.kept hg⟩
 rw[if_neg hk5]at h ⊢;by_cases hk6:k=6
 ·rw[if_pos hk6]at h ⊢
  obtain⟨c1,so,cap,e,x1,x2⟩:=h;exact⟨c1,so,cap,e,x1.kept hg,Ny hg s 0 x2⟩
 rw[if_neg hk6]at h ⊢;by_cases hk7:k=7
 ·rw[if_pos hk7]at h ⊢
  obtain⟨c1,so,cap,e,x1,x2⟩:=h;exact⟨c1,so,cap,e,x1.kept hg,Ny hg s 0 x2⟩
 rw[if_neg hk7]at h ⊢;by_cases hk8:k=8
 ·rw[if_pos hk8]at h ⊢
  obtain⟨c1,x,e,x1,x2⟩:=h;exact⟨c1,x,e,x1.kept hg,Eq hg s x x2⟩
 rw[if_neg hk8]at h ⊢;by_cases hk9:k=9
 ·rw[if_pos hk9]at h ⊢
  obtain⟨c1,x,e,x1,x2⟩:=h;exact⟨c1,x,e,x1.kept hg,Eq hg s x x2⟩
 rw[if_neg hk9]at h ⊢;by_cases hk10:k=10
 ·rw[if_pos hk10]at h ⊢
  obtain⟨c1,c2,c3,x,e,x1,x2,x3,x4⟩:=h;exact⟨c1,c2,c3,x,e,x1.kept hg,x2.kept hg,x3.kept hg,Eq hg s x x4⟩
 rw[if_neg hk10]at h ⊢;by_cases hk11:k=11
 ·rw[if_pos hk11]at h ⊢
  obtain⟨c1,x,e,x1,x2⟩:=h;exact⟨c1,x,e,x1.kept hg,Eq hg s x x2⟩
 rw[if_neg hk11]at h ⊢;by_cases hk12:k=12
 ·rw[if_pos hk12]at h ⊢
  obtain⟨c1,x,e,x1,x2⟩:=h;exact⟨c1,x,e,x1.kept hg,Eq hg s x x2⟩
 rw[if_neg hk12]at h ⊢;exact h
def CtP(mB:Nat)(L:Nat->Prop)(ix:ByteArray->Nat)(t:RT)(W:World)(e:Ending)(w':World):Prop:=∃d1 d2,e=.returned (fq2 72 d1 d2)/\Mv w' mB L ix t (fq2 72 d1 d2)/\Below W.heap.size W w'
theorem y4F(k:Int)(N:ByteArray)(a b c d:Int)(so1:Option Addr)(n1 cap1:Nat)(p:Int)(t:RT)(w:World)(hm:mB<w.heap.size)(hL:∀b,w.heap.size<=b->L b)
  (HU:Hid (∀W:World,Below w.heap.size w W->Calls prog 71 #[.pointer (some ⟨mB,0,none⟩),.agg #[.int .i64 k,.string N,.int .u64 a,.int .u64 b,.int .u64 c,.int .u64 d,.slice so1 n1 cap1,.int .i64 p]] W (UcP mB L ix t W))):
  Calls prog 42 #[.pointer (some ⟨mB,0,none⟩),.agg #[.int .i64 k,.string N,.int .u64 a,.int .u64 b,.int .u64 c,.int .u64 d,.slice so1 n1 cap1,.int .i64 p]] w (CtP mB L ix t w):=by
 have hmf:∀(fn:Fn) (first cap:Array Value) (w:World),(Instr.makeFunc fn first cap).run prog w=.ok (.func fn first cap) w:=fun _ _ _ _=>rfl
 obtain⟨W1,hW1⟩:∃W1,W1=(w.alloc (.cells #[.pointer (some ⟨mB,0,none⟩)] 69)).alloc (.cells #[.int .i64 k,.string N,.int .u64 a,.int .u64 b,.int .u64 c,.int .u64 d,.slice so1 n1 cap1,.int .i64 p] 58):=⟨_,rfl⟩;have hb1:Below w.heap.size w W1:=by rw[hW1];exact be2 _ _ _
 have hp1:Hm W1 mB L w.heap.size:=by rw[hW1];exact Ng _ (Jg hm hL)
 have HC:=hid (HU.out W1 hb1);have HB1:=hid hb1;have HP1:=hid hp1;have HM:=hid hm;have HL:=hid hL;have HW1:=hid hW1;clear hm hL hb1 hp1 hW1 HU;go_enter func42,ntmps42
 go_wp2_with fail
 rw[<-HW1.out];refine HC.out.mono ?_;rintro e w1 ⟨F,caps,rfl,hu,hb⟩;have HUv:=hid hu;have HB2:=hid hb;clear hu hb HC HW1
 go_wp2_with fail
 go_ret;have hbw:=HB1.out.trans (HB2.out.mono HB1.out.size);have hk:Below w1.heap.size w1 (w1.alloc (.cells #[.func (.func F) #[] caps] 107)):=(Below.refl _ w1).alloc L0q _;refine⟨_,_,rfl,y4p ((HP1.out.kept (G.below HB2.out)).kept (G.below hk)) (Jg (Nat.lt_of_lt_of_le HM.out hbw.size) (fun b hb=>HL.out b (Nat.le_trans hbw.size hb))) (y4E (G.below hk) _ _ HUv.out),hbw.alloc hbw.size _⟩
end
end
section
open Go.RowKit Go.Shelf Go.Maps
section
variable {mB:Nat} {L:Nat->Prop} {ix:ByteArray->Nat}
theorem Tryz.infoMt:(Tryz.prog.info? 107).map (fun i=>(i.zero,i.size,i.bytes))=some (some .nilFunc,1,8):=by kernel_rfl
theorem Tryz.sliceMt:Tryz.prog.underlying 103=some (.slice 107):=by kernel_rfl
theorem y4G(n:Nat)(hn:n<=1048576)(W:World):(Instr.makeSlice 103 (.int .i64 0) (.int .i64 n)).run prog W=.ok (.slice (some ⟨W.heap.size,0,none⟩) 0 n) (W.alloc (.cells (madeCells #[.nilFunc] n) 107)):=by
 obtain⟨i0,hi0,hz0,hz1,hz2⟩:=info_parts Tryz.infoMt;have h:=run_make W 103 107 i0 _ Tryz.sliceMt hi0 hz0 .i64 .i64 0 n (by omega) (by omega) (by rw[hz2];omega) (by omega);rw[hz1,Nat.mul_one]at h;exact h
structure Pw (mB:Nat) (ix:ByteArray->Nat) (w:World) (n:Nat) (s:List RT) (j:Nat) (W:World):Prop where
 be:Below w.heap.size w W
 row:∃xs:List Value,W.ownsRow (w.heap.size+1) 107 1 (.slice (some ⟨w.heap.size+1,0,none⟩) j n) j xs/\∀i (hi:i<s.length),i<j->∃x,xs[i]? =some x/\Mv W mB (fun b=>w.heap.size+2<=b) ix s[i] x
theorem Pw.size{w:World}{n:Nat}{s:List RT}{j:Nat}{W:World}(h:Pw mB ix w n s j W):w.heap.size+2<=W.heap.size:=by
 obtain⟨xs,h1,_⟩:=h.row;have:=(h1.lt (w.heap.size+1) rfl).2;omega
theorem Pw.step{w:World}{n:Nat}{s:List RT}{j:Nat}{W w2 w6:World}{x:Value}{xs:List Value}{X:Obj}(h:Pw mB ix w n s j W)(hm:mB<w.heap.size)(hj:j<s.length)(hx:W.ownsRow (w.heap.size+1) 107 1 (.slice (some ⟨w.heap.size+1,0,none⟩) j n) j xs)(hv:∀i (hi:i<s.length),i<j->∃x,xs[i]? =some x/\Mv W mB (fun b=>w.heap.size+2<=b) ix s[i] x)(hb:Below W.heap.size W w2)(hq:Mv w2 mB (fun b=>w.heap.size+2<=b) ix s[j] x)(hown:w6.ownsRow (w.heap.size+1) 107 1 (.slice (some ⟨w.heap.size+1,0,none⟩) (j+1) n) (j+1) (xs++[x]))(hgr:(w2.alloc X).grownBy w6 (some (w.heap.size+1))):Pw mB ix w n s (j+1) w6:=by
 have h3:=h.size;have h2:=hb.size;have ea:(w2.alloc X).heap.size=w2.heap.size+1:=World.size_alloc _ _;have key:∀g,g<w2.heap.size->g≠w.heap.size+1->w6.heap[g]? =w2.heap[g]? :=fun g h1 hne=>(hgr.block g (by omega) (fun e=>hne (Option.some.inj e))).trans (Below.heap_alloc _ _ _ h1)
 have hB2:Below w.heap.size w (w2.alloc X):=(h.be.trans (hb.mono h.be.size)).alloc (Nat.le_trans h.be.size h2) _;refine⟨hB2.grown hgr hB2.size (fun g e=>by have:=Option.some.inj e;omega),xs++[x],hown,fun i hi hij=> ?_⟩;have hl:xs.length=j:=by have:=hx.1;omega
 by_cases e:i<j
 ·obtain⟨y,hy,hm'⟩:=hv i hi e
  refine⟨y,by rw[List.getElem?_append_left (by omega)];exact hy,Fy (fun _ h _=>h) (fun b _ (hb1:w.heap.size+2<=b) hb2=> ?_) _ _ hm'⟩;exact(key b (by omega) (by omega)).trans (hb.block b hb2)
 ·obtain rfl:i=j:=by omega
  refine⟨x,by rw[List.getElem?_append_right (by omega),hl];simp,Fy (fun _ h _=>h) (fun b _ (hb1:w.heap.size+2<=b) hb2=>key b hb2 (by omega)) _ _ hq⟩
theorem z0I{w:World}{g o:Nat}(hg:g≠mB)(hL:L g):∀(s:List RT) (j:Nat),(∀i (hi:i<s.length),∃x,w.cell? ⟨g,o+(j+i),none⟩=some x/\Mv w mB L ix s[i] x)->Mvs w mB L ix (some ⟨g,o,none⟩) j s
 |[],j,_=>by rw[Mvs];trivial
 |t::r,j,h=>by
  rw[Mvs];obtain⟨x,h1,h2⟩:=h 0 (by simp);refine⟨⟨g,o,x,rfl,⟨hg,hL⟩,h1,h2⟩,z0I hg hL r (j+1) fun i hi=> ?_⟩;obtain⟨y,h3,h4⟩:=h (i+1) (by simpa using hi);exact⟨y,by rw[show j+1+i=j+(i+1) by omega];exact h3,h4⟩
theorem y4H(k:Int)(N:ByteArray)(a b c d:Int)(so:Option Addr)(n cap:Nat)(p:Int)(s:List RT)(w:World)(hm:mB<w.heap.size)(hL:∀b,w.heap.size<=b->L b)(HN:Hid (n=s.length))(hn:n<=1048576)
  (HC:Hid (∀j (hj:j<s.length),∃g o,so=some ⟨g,o,none⟩/\g<w.heap.size/\∃k1 T1 a1 b1 c1 d1 so1 n1 cap1 p1,Rc w g (o+j*8) k1 T1 a1 b1 c1 d1 (.slice so1 n1 cap1) p1/\
    ∀(W:World) (L':Nat->Prop),Below w.heap.size w W->(∀b,W.heap.size<=b->L' b)->Calls prog 42 #[.pointer (some ⟨mB,0,none⟩),.agg #[.int .i64 k1,.string T1,.int .u64 a1,.int .u64 b1,.int .u64 c1,.int .u64 d1,.slice so1 n1 cap1,.int .i64 p1]] W (CtP mB L' ix s[j] W))):
  Calls prog 125 #[.pointer (some ⟨mB,0,none⟩),.agg #[.int .i64 k,.string N,.int .u64 a,.int .u64 b,.int .u64 c,.int .u64 d,.slice so n cap,.int .i64 p]] w (PtP mB L ix s w):=by
 obtain⟨iT,hiT,hzT0,hzT1,hzT2⟩:=info_parts Tryz.infoMt;have hmk:=y4G n hn;obtain⟨W0,hW0⟩:∃W0,W0=(w.alloc (.cells #[.int .i64 k,.string N,.int .u64 a,.int .u64 b,.int .u64 c,.int .u64 d,.slice so n cap,.int .i64 p] 58)).alloc (.cells (madeCells #[.nilFunc] n) 107):=⟨_,rfl⟩;have HP0:Hid (Pw mB ix w n s 0 W0):=by
  rw[hW0];refine⟨be2 _ _ _,[],?_,fun i hi h0=>by omega⟩;have:=World.ownsRow_made (base:=w.heap.size+1) (e:=107) (size:=1) (w.alloc (.cells #[.int .i64 k,.string N,.int .u64 a,.int .u64 b,.int .u64 c,.int .u64 d,.slice so n cap,.int .i64 p] 58)) (madeCells #[.nilFunc] n) n (by simp) (by unfold maxLen;omega) (by rw[Nat.mul_one];exact size_madeCells _ _);simpa using this
 have HM:=hid hm;have HL:=hid hL;have HW0:=hid hW0;clear hm hL hW0;go_enter func125,ntmps125
 go_wp2_with fail
 rw[<-HW0.out];clear HW0 hmk
 go_loopw [5,15] (fun v i wr=>∃j:Nat,v=.slice (some ⟨w.heap.size+1,0,none⟩) j n/\i=.int .i64 j/\j<=n/\Hid (Pw mB ix w n s j wr)) (fun _ i _=>n-(intOf i).toNat)
 case atStart=>exact⟨0,rfl,rfl,Nat.zero_le _,HP0⟩
 case round=>
  obtain⟨j,rfl,rfl,hj,HP⟩:=hrel;by_cases hjn:j<n
  ·have hjI:(j:Int)<(n:Int):=by omega
   have a0:decide ((j:Int)<(n:Int))=true:=by simp;omega
   have hjs:j<s.length:=by rw[<-HN.out];exact hjn
   obtain⟨g,o,rfl,hg,k1,T1,a1,b1,c1,d1,so1,n1,cap1,p1,rc,hc⟩:=HC.out j hjs;obtain⟨z0,z1,z2,z3,z4,z5,z6,z7⟩:=rc.below HP.out.be hg;have hgl:g<wr.heap.size:=World.block_lt_of_cell? wr _ z0;obtain⟨xs,hxo,hxm⟩:=HP.out.row;obtain⟨W1,hW1⟩:∃W1,W1=wr.alloc (.cells #[.int .i64 k1,.string T1,.int .u64 a1,.int .u64 b1,.int .u64 c1,.int .u64 d1,.slice so1 n1 cap1,.int .i64 p1] 58):=⟨_,rfl⟩;have hb1:Below wr.heap.size wr W1:=by rw[hW1];exact(Below.refl _ wr).alloc L0q _
   have HS:=hid (hc W1 (fun b=>w.heap.size+2<=b) (HP.out.be.trans (hb1.mono HP.out.be.size)) (fun b hb=>Nat.le_trans (Nat.le_trans HP.out.size hb1.size) hb));have HXo:=hid hxo;have HXm:=hid hxm;have HB1:=hid hb1;have HW1:=hid hW1;clear hxo hxm hb1 hW1 hc rc
   go_wp2_with(first
    |(go_at_call 42;rw[<-HW1.out];refine HS.out.mono ?_;rintro e w2 ⟨e1,e2,rfl,hv2,hb2⟩;have HB3:=hid (HB1.out.trans (hb2.mono HB1.out.size));have HV2:=hid hv2;have hxo2:(w2.alloc (.cells #[.func (.func 72) #[] #[.pointer (some ⟨e1,0,none⟩),.pointer (some ⟨e2,0,none⟩)]] 107)).ownsRow (w.heap.size+1) 107 1 (.slice (some ⟨w.heap.size+1,0,none⟩) j n) j xs:=(Ym HXo.out HB3.out).alloc _;clear HS HW1 hv2 hb2)
    |(at_builtin;refine wpList_append_fits _ rfl (.tmp 19) (.tmp 23) 103 rfl (w.heap.size+1) 107 iT 1 Tryz.underlying103 hiT hzT1 (w.heap.size+1) j n xs rfl hxo2 ⟨w2.heap.size,0,none⟩ 1 1 [.func (.func 72) #[] #[.pointer (some ⟨e1,0,none⟩),.pointer (some ⟨e2,0,none⟩)]] rfl rfl (cell_one_new _ _ _) (by simp[Value.oneCell']) (by omega) ?_;intro w6 hown6 hgr6;have HO6:=hid hown6;have HG6:=hid hgr6;clear hown6 hgr6 hxo2))
   refine⟨⟨j+1,rfl,by go_num,by omega,hid ?_⟩,by simp[intOf];omega⟩;exact HP.out.step HM.out hjs HXo.out HXm.out HB3.out HV2.out HO6.out HG6.out
  ·have a0:decide ((j:Int)<(n:Int))=false:=by simp;omega
   have hjI:¬(j:Int)<(n:Int):=by omega
   obtain rfl:n=j:=by omega
   have HF:Hid (PtP mB L ix s w (.returned (.slice (some ⟨w.heap.size+1,0,none⟩) n n)) wr):=by
    obtain⟨xs,h1,h2⟩:=HP.out.row;have hm:=HM.out;have hL:=HL.out;refine⟨some ⟨w.heap.size+1,0,none⟩,n,by rw[Zh,HN.out],z0I (by omega) (hL _ (by omega)) s 0 fun i hi=> ?_,HP.out.be⟩;obtain⟨x,h3,h4⟩:=h2 i hi (by rw[HN.out];exact hi);refine⟨x,?_,Fy (fun b (hb:w.heap.size+2<=b) _=>hL b (by omega)) (fun _ _ _ _=>rfl) _ _ h4⟩;have:=h1.cells rfl i x h3;have e2:((⟨w.heap.size+1,0,none⟩:Addr).add i)=⟨w.heap.size+1,i,none⟩:=by
     unfold Addr.add;split
     ·rename_i h0;simp_all
     ·simp
    rw[Nat.zero_add,Nat.zero_add];rw[<-e2];exact this
   go_wp2_with fail
   go_ret;exact HF.out
end
end
section
open Go.RowKit Go.Shelf Go.Maps
section
variable {mB:Nat} {L:Nat->Prop}
theorem y4I{w:World}{B:Nat}{t:RT}{k:Int}{T:ByteArray}{a b c d:Int}{so:Option Addr}{n cap:Nat}{p:Int}(h:Qv w B t (r8 k T a b c d so n cap p)):∃s,t=.mk k T a b c d s p/\n=s.length/\(s.isEmpty=true∨(s.isEmpty=false/\∃g o,so=some ⟨g,o,none⟩/\g<B/\Qw s<=maxLen/\Zq w B g o s)):=by
 obtain⟨k',T',a',b',c',d',s,p'⟩:=t;rw[Qv]at h;obtain⟨so',cap',he,hso⟩:=h;simp only[r8,List.cons.injEq,Value.int.injEq,Value.string.injEq,Value.slice.injEq,true_and,and_true]at he;obtain⟨rfl,rfl,rfl,rfl,rfl,rfl,⟨rfl,rfl,rfl⟩,rfl⟩:=he;exact⟨s,rfl,Zh s,hso⟩
theorem z5O(l:List ByteArray)(pB:Nat):∀(Q:Nat) (t:RT),SizeOf.sizeOf t<Q->∀(k:Int) (N:ByteArray) (a b c d:Int) (so:Option Addr) (n cap:Nat) (p:Int) (w:World) (s0:Nat) (L:Nat->Prop),Qv w s0 t (r8 k N a b c d so n cap p)->s0<=w.heap.size->Fit l t->RtU t->mB<w.heap.size->(∀b,w.heap.size<=b->L b)->w.cell? ⟨mB,1,none⟩=some (.map (some pB))->Pm w pB l->
  Calls prog 42 #[.pointer (some ⟨mB,0,none⟩),.agg #[.int .i64 k,.string N,.int .u64 a,.int .u64 b,.int .u64 c,.int .u64 d,.slice so n cap,.int .i64 p]] w (CtP mB L (fun N=>ixN N l) t w)
 |0,t,h=>by omega
 |Q+1,t,h=>by
  intro k N a b c d so n cap p w s0 L ht hs0 hf hu hm hL hc hp;have ih:=z5O l pB Q;obtain⟨s,rfl,hns,hso⟩:=y4I ht;simp only[RT.mk.sizeOf_spec]at h;have hlen:=hf.lenG;have hok:=hf.ok;rw[okT,Bool.and_eq_true]at hok;have hkd:=Oz hok.1;clear hok;rw[RtU]at hu;have HPt:∀(W:World) (L':Nat->Prop),Below w.heap.size w W->(∀b,W.heap.size<=b->L' b)->Calls prog 125 #[.pointer (some ⟨mB,0,none⟩),.agg #[.int .i64 k,.string N,.int .u64 a,.int .u64 b,.int .u64 c,.int .u64 d,.slice so n cap,.int .i64 p]] W (PtP mB L' (fun N=>ixN N l) s W):=fun W L' hW hL'=>by
   refine y4H k N a b c d so n cap p s W (Nat.lt_of_lt_of_le hm hW.size) hL' (hid hns) (by omega) (hid fun j hj=> ?_);obtain⟨g,o,h1,h2,k1,T1,a1,b1,c1,d1,so1,n1,cap1,p1,h3,h4⟩:=Av hs0 hso j hj;refine⟨g,o,h1,Nat.lt_of_lt_of_le h2 hW.size,k1,T1,a1,b1,c1,d1,so1,n1,cap1,p1,h3.below hW h2,fun W2 L2 hW2 hL2=> ?_⟩;have hB:=hW.trans (hW2.mono hW.size);have hsz:=List.sizeOf_lt_of_mem (List.getElem_mem hj);exact ih s[j] (by omega) k1 T1 a1 b1 c1 d1 so1 n1 cap1 p1 W2 s0 L2 (h4.below (hB.mono hs0)) (Nat.le_trans hs0 hB.size) (hf.sub j hj) (z0G hu.2.2.2.2 j hj) (Nat.lt_of_lt_of_le hm hB.size) hL2 ((hB.cell (p:=⟨mB,1,none⟩) hm).trans hc) (hp.below hB hp.lt)
  refine y4F k N a b c d so n cap p _ w hm hL (hid fun W hW=> ?_);have hmW:=Nat.lt_of_lt_of_le hm hW.size;have hLW:∀b,W.heap.size<=b->L b:=fun b hb=>hL b (Nat.le_trans hW.size hb)
  have hr:Qw s<=9223372036854775807:=by rw[Zh];omega
  have HP:Hid (∀W':World,Below W.heap.size W W'->Calls prog 125 #[.pointer (some ⟨mB,0,none⟩),.agg #[.int .i64 k,.string N,.int .u64 a,.int .u64 b,.int .u64 c,.int .u64 d,.slice so n cap,.int .i64 p]] W' (PtP mB L (fun N=>ixN N l) s W')):=fun W' hW'=>by
   have hB:=hW.trans (hW'.mono hW.size);exact HPt W' L hB (fun b hb=>hL b (Nat.le_trans hB.size hb))
  rcases(by omega:k=1∨k=2∨k=3∨k=4∨k=5∨k=6∨k=7∨k=8∨k=9∨k=10∨k=11∨k=12)with h1|h1|h1|h1|h1|h1|h1|h1|h1|h1|h1|h1
  ·subst h1
   exact y4t N a b c d so n cap p s W
  ·subst h1
   exact y4r N a b c d so n cap p s W hmW hLW
  ·subst h1
   exact y4s N a b c d so n cap p s ⟨hu.1,hu.2.1,hu.2.2.1,hu.2.2.2.1⟩ W hmW hLW
  ·subst h1
   exact y4u N a b c d so n cap p s W hmW hLW
  ·subst h1
   refine y4D N a b c d so n cap p s pB l W hmW hLW ((hW.cell (p:=⟨mB,1,none⟩) hm).trans hc) (hp.below hW hp.lt) (hf.rf (N,p) (by rw[rfT,if_pos rfl];simp)) ?_;have:=hf.z;rw[RtZ]at this;exact this.1
  ·subst h1
   exact y4v N a b c d so n cap p s W hmW hLW HP
  ·subst h1
   exact y4w N a b c d so n cap p s W hmW hLW HP
  ·subst h1
   obtain⟨t0,r,rfl⟩:∃t0 r,s=t0::r:=by
    cases s with
    |nil=>rw[Qw]at hkd;omega
    |cons t0 r=>exact⟨t0,r,rfl⟩
   exact y4x N a b c d so n cap p t0 r W hmW hLW HP hr
  ·subst h1
   obtain⟨t0,r,rfl⟩:∃t0 r,s=t0::r:=by
    cases s with
    |nil=>rw[Qw]at hkd;omega
    |cons t0 r=>exact⟨t0,r,rfl⟩
   exact y4y N a b c d so n cap p t0 r W hmW hLW HP hr
  ·subst h1
   obtain⟨t0,r,rfl⟩:∃t0 r,s=t0::r:=by
    cases s with
    |nil=>rw[Qw]at hkd;omega
    |cons t0 r=>exact⟨t0,r,rfl⟩
   exact y4z N a b c d so n cap p t0 r W hmW hLW HP hr
  ·subst h1
   obtain⟨t0,r,rfl⟩:∃t0 r,s=t0::r:=by
    cases s with
    |nil=>rw[Qw]at hkd;omega
    |cons t0 r=>exact⟨t0,r,rfl⟩
   exact y4A N a b c d so n cap p t0 r W hmW hLW HP hr
  ·subst h1
   obtain⟨t0,r,rfl⟩:∃t0 r,s=t0::r:=by
    cases s with
    |nil=>rw[Qw]at hkd;omega
    |cons t0 r=>exact⟨t0,r,rfl⟩
   exact y4B N a b c d so n cap p t0 r W hmW hLW HP hr
end
end
end Go.Proofs.YtgmcjddjdidpjaaGreatDoor
