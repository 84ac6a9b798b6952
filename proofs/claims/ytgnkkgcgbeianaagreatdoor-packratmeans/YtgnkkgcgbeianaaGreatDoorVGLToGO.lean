/- Lemmas for the last text. Conditions: those that each names. -/
import Derived.Test.YtgnkkgcgbeianaaGreatDoorVGDToGK
import Derived.Test.YtgnkkgcgbeianaaGreatDoorVZZToX2
import Derived.Test.YtgnkkgcgbeianaaGreatDoorVU3ToU8
import Derived.Deep.RegionHeld3
set_option linter.unusedVariables false
set_option maxRecDepth 100000
set_option maxHeartbeats 4000000
namespace Go.Proofs.YtgnkkgcgbeianaaGreatDoor
open Go.Proofs.Tryz
section
open Go.RowKit Go.Shelf Go.Maps
section
variable {mB:Nat} {L:Nat->Prop} {ix:ByteArray->Nat}
def Uv(w:World)(mB:Nat)(L:Nat->Prop)(ix:zA->Nat):RT->Value->Prop
 | .mk k N a b c d s p,u=>
   (if k=2 then ∃c1 c2,u=fq2 161 c1 c2/\Hm w mB L c1/\Hb w mB L c2 #[zT N] 9
    else if k=3 then ∃c1 c2,u=fq2 162 c1 c2/\Hm w mB L c1/\Hb w mB L c2 (cA (cl4 a b c d)) 54
    else if k=4 then ∃c1 c2,u=fq2 162 c1 c2/\Hm w mB L c1/\Hb w mB L c2 (cA Xp) 54
    else if k=5 then ∃c1 c2,u=fq2 163 c1 c2/\Hm w mB L c1/\Hb w mB L c2 #[zI (ix N:Nat)] 3
    else if k=6 then ∃c1 so cap,u=fq1 164 c1/\Hb w mB L c1 #[.slice so (Qv s) cap] 128/\Mvs w mB L ix so 0 s
    else if k=7 then ∃c1 so cap,u=fq1 165 c1/\Hb w mB L c1 #[.slice so (Qv s) cap] 128/\Mvs w mB L ix so 0 s
    else if k=8 then ∃c1 x,u=fq1 166 c1/\Hb w mB L c1 #[x] 132/\MvH w mB L ix s x
    else if k=9 then ∃c1 x,u=fq1 167 c1/\Hb w mB L c1 #[x] 132/\MvH w mB L ix s x
    else if k=10 then ∃c1 c2 c3 x,u=fq2 168 c1 c2/\Hb w mB L c1 #[x] 132/\Hb w mB L c2 #[fq1 167 c3] 132/\Hb w mB L c3 #[x] 132/\MvH w mB L ix s x
    else if k=11 then ∃c1 x,u=fq1 169 c1/\Hb w mB L c1 #[x] 132/\MvH w mB L ix s x
    else if k=12 then ∃c1 x,u=fq1 170 c1/\Hb w mB L c1 #[x] 132/\MvH w mB L ix s x
    else u=.func (.func 137) #[] #[])
theorem y7e{w:World}{t:RT}{h o:Nat}{u:Value}(r:Hm w mB L h)(y:Hb w mB L o #[u] 132)(A:Uv w mB L ix t u):Mv w mB L ix t (fq2 88 h o):=by
 obtain⟨k,N,a,b,c,d,s,p⟩:=t;rw[Mv];exact⟨h,o,u,rfl,r,y,A⟩
def UcP(mB:Nat)(L:Nat->Prop)(ix:zA->Nat)(t:RT)(W:World)(e:Ending)(w':World):Prop:=∃F caps,e=.returned (.func (.func F) #[] caps)/\Uv w' mB L ix t (.func (.func F) #[] caps)/\zB W w'
def PtP(mB:Nat)(L:Nat->Prop)(ix:zA->Nat)(s:List RT)(W:World)(e:Ending)(w':World):Prop:=∃so cap,e=.returned (.slice so (Qv s) cap)/\Mvs w' mB L ix so 0 s/\zB W w'
theorem y7f{a b c d:Int}(h:(0<=a/\a<18446744073709551616)/\(0<=b/\b<18446744073709551616)/\(0<=c/\c<18446744073709551616)/\(0<=d/\d<18446744073709551616)):cA (cl4 a b c d)=#[zU a,zU b,zU c,zU d]:=by
 have o:=Lj a.toNat b.toNat c.toNat d.toNat (by omega) (by omega) (by omega) (by omega);unfold cA cl4;rw[o.1,o.2.1,o.2.2.1,o.2.2.2];simp only[Int.toNat_of_nonneg h.1.1,Int.toNat_of_nonneg h.2.1.1,Int.toNat_of_nonneg h.2.2.1.1,Int.toNat_of_nonneg h.2.2.2.1]
theorem Jc{w w':World}{o:Obj}(h:Below (w.alloc o).heap.size (w.alloc o) w'):zB w w':=((Below.refl _ w).alloc L0q _).trans (h.mono (by simp))
theorem y7g(N:zA)(a b c d:Int)(t:Option Addr)(y A:Nat)(p:Int)(s:List RT)(w:World)(r:mB<w.heap.size)(o:∀b,w.heap.size<=b->L b):
  Calls prog 87 #[zP mB 0,.agg #[zI 2,zT N,zU a,zU b,zU c,zU d,.slice t y A,zI p]] w (UcP mB L ix (.mk 2 N a b c d s p) w):=by
 have D:=hid (fun(W:World) (h:mB<W.heap.size) (o:∀b,W.heap.size<=b->L b)=>y6V N h o);have E:=hid r;have G:=hid o;clear r o;go_enter func87,ntmps87
 go_wp2_with fail
 refine(D.out _ (by rw[World.size_alloc];exact Nat.lt_succ_of_lt E.out) (fun b I=>G.out b (by rw[World.size_alloc]at I;omega))).mono ?_;rintro e U ⟨c1,c2,rfl,H⟩
 go_wp2_with fail
 go_ret;exact⟨_,_,rfl,⟨c1,c2,rfl,H.out.1,H.out.2.1⟩,Jc H.out.2.2⟩
theorem y7h(N:zA)(a b c d:Int)(t:Option Addr)(y A:Nat)(p:Int)(s:List RT)(D:(0<=a/\a<18446744073709551616)/\(0<=b/\b<18446744073709551616)/\(0<=c/\c<18446744073709551616)/\(0<=d/\d<18446744073709551616))(w:World)(r:mB<w.heap.size)(o:∀b,w.heap.size<=b->L b):
  Calls prog 87 #[zP mB 0,.agg #[zI 3,zT N,zU a,zU b,zU c,zU d,.slice t y A,zI p]] w (UcP mB L ix (.mk 3 N a b c d s p) w):=by
 have E:=hid (fun(W:World) (h:mB<W.heap.size) (o:∀b,W.heap.size<=b->L b)=>z6y a b c d h o);have G:=hid r;have I:=hid o;clear r o;go_enter func87,ntmps87
 go_wp2_with fail
 refine(E.out _ (by rw[World.size_alloc];exact Nat.lt_succ_of_lt G.out) (fun b U=>I.out b (by rw[World.size_alloc]at U;omega))).mono ?_;rintro e V ⟨c1,c2,rfl,H⟩
 go_wp2_with fail
 go_ret;exact⟨_,_,rfl,⟨c1,c2,rfl,H.out.1,by rw[y7f D];exact H.out.2.1⟩,Jc H.out.2.2⟩
theorem y7i(N:zA)(a b c d:Int)(h:Option Addr)(o r:Nat)(p:Int)(s:List RT)(w:World):
  Calls prog 87 #[zP mB 0,.agg #[zI 1,zT N,zU a,zU b,zU c,zU d,.slice h o r,zI p]] w (UcP mB L ix (.mk 1 N a b c d s p) w):=by
 go_enter func87,ntmps87
 go_wp2_with fail
 go_ret;exact⟨_,_,rfl,rfl,(Below.refl _ w).alloc L0q _⟩
theorem y7j(N:zA)(a b c d:Int)(G:Option Addr)(I U:Nat)(p:Int)(s:List RT)(w:World)(y:mB<w.heap.size)(o:∀b,w.heap.size<=b->L b):
  Calls prog 87 #[zP mB 0,.agg #[zI 4,zT N,zU a,zU b,zU c,zU d,.slice G I U,zI p]] w (UcP mB L ix (.mk 4 N a b c d s p) w):=by
 have A:Hid (∀W:World,Calls prog 127 #[.agg #[zU 0,zU 0,zU 0,zU 0]] W (zR W (cv Xp))):=fun W=>by
  have:=Lk 0 (Nat.two_pow_pos _) W;rw[show Zl 0=Xp from Nat.sub_zero _]at this;exact this
 have t:Hid (∀W:World,mB<W.heap.size->(∀b,W.heap.size<=b->L b)->Calls prog 126 #[zP mB 0,.agg (cA Xp)] W fun e w'=>∃c1 c2,e=.returned (.func (.func 162) #[] #[zP c1 0,zP c2 0])/\Hid (Hm w' mB L c1/\Hb w' mB L c2 (cA Xp) 54/\zB W w')):=fun W h o=>z6y _ _ _ _ h o
 have V:=hid y;have Y:=hid o;have D:Hid (∀(w':World) (c1 c2:Nat),Hm w' mB L c1->Hb w' mB L c2 (cA Xp) 54->Uv w' mB L ix (.mk 4 N a b c d s p) (.func (.func 162) #[] #[zP c1 0,zP c2 0])):=fun w' c1 c2 Z h2=>⟨c1,c2,rfl,Z,h2⟩
 generalize Xp=C at A t D;clear y o;dsimp only[cA]at t;go_enter func87,ntmps87
 go_wp2_with fail
 refine(A.out _).mono ?_;rintro e w1 ⟨rfl,E⟩;dsimp only[cv];have r:=hid (Jc E);clear E
 go_wp2_with fail
 refine(t.out _ (Nat.lt_of_lt_of_le V.out r.out.size) (fun b hb=>Y.out b (Nat.le_trans r.out.size hb))).mono ?_;rintro e w2 ⟨c1,c2,rfl,H⟩
 go_wp2_with fail
 go_ret;exact⟨_,_,rfl,D.out _ c1 c2 H.out.1 H.out.2.1,r.out.trans (H.out.2.2.mono r.out.size)⟩
theorem y7k(N:zA)(a b c d:Int)(A:Option Addr)(D E:Nat)(p:Int)(s:List RT)(w:World)(I:mB<w.heap.size)(o:∀b,w.heap.size<=b->L b)
  (Y:Hid (∀W:World,zB w W->Calls prog 130 #[zP mB 0,.agg #[zI 6,zT N,zU a,zU b,zU c,zU d,.slice A D E,zI p]] W (PtP mB L ix s W))):
  Calls prog 87 #[zP mB 0,.agg #[zI 6,zT N,zU a,zU b,zU c,zU d,.slice A D E,zI p]] w (UcP mB L ix (.mk 6 N a b c d s p) w):=by
 have Z:=hid (fun(r:Option Addr) (n t:Nat) (W:World) (h:mB<W.heap.size) (o:∀b,W.heap.size<=b->L b)=>y6X r n t h o);have HM:=hid I;have HL:=hid o;clear I o;go_enter func87,ntmps87
 go_wp2_with fail
 refine(Y.out _ ((Below.refl _ w).alloc L0q _)).mono ?_;rintro e w1 ⟨r,t,rfl,U,V⟩;have HV:=hid U;have y:=hid (Jc V);clear V U
 go_wp2_with fail
 refine(Z.out r (Qv s) t _ (Nat.lt_of_lt_of_le HM.out y.out.size) (fun b hb=>HL.out b (Nat.le_trans y.out.size hb))).mono ?_;rintro e w2 ⟨c1,rfl,H⟩
 go_wp2_with fail
 go_ret;exact⟨_,_,rfl,⟨c1,r,t,rfl,H.out.1,Dg (G.below H.out.2) _ _ HV.out⟩,y.out.trans (H.out.2.mono y.out.size)⟩
theorem y7l(N:zA)(a b c d:Int)(A:Option Addr)(D E:Nat)(p:Int)(s:List RT)(w:World)(I:mB<w.heap.size)(o:∀b,w.heap.size<=b->L b)
  (Y:Hid (∀W:World,zB w W->Calls prog 130 #[zP mB 0,.agg #[zI 7,zT N,zU a,zU b,zU c,zU d,.slice A D E,zI p]] W (PtP mB L ix s W))):
  Calls prog 87 #[zP mB 0,.agg #[zI 7,zT N,zU a,zU b,zU c,zU d,.slice A D E,zI p]] w (UcP mB L ix (.mk 7 N a b c d s p) w):=by
 have Z:=hid (fun(r:Option Addr) (n t:Nat) (W:World) (h:mB<W.heap.size) (o:∀b,W.heap.size<=b->L b)=>y6Y r n t h o);have HM:=hid I;have HL:=hid o;clear I o;go_enter func87,ntmps87
 go_wp2_with fail
 refine(Y.out _ ((Below.refl _ w).alloc L0q _)).mono ?_;rintro e w1 ⟨r,t,rfl,U,V⟩;have HV:=hid U;have y:=hid (Jc V);clear V U
 go_wp2_with fail
 refine(Z.out r (Qv s) t _ (Nat.lt_of_lt_of_le HM.out y.out.size) (fun b hb=>HL.out b (Nat.le_trans y.out.size hb))).mono ?_;rintro e w2 ⟨c1,rfl,H⟩
 go_wp2_with fail
 go_ret;exact⟨_,_,rfl,⟨c1,r,t,rfl,H.out.1,Dg (G.below H.out.2) _ _ HV.out⟩,y.out.trans (H.out.2.mono y.out.size)⟩
theorem y7m(N:zA)(a b c d:Int)(Y:Option Addr)(Z aa:Nat)(p:Int)(t:RT)(r:List RT)(w:World)(hm:mB<w.heap.size)(y:∀b,w.heap.size<=b->L b)
  (ac:Hid (∀W:World,zB w W->Calls prog 130 #[zP mB 0,.agg #[zI 8,zT N,zU a,zU b,zU c,zU d,.slice Y Z aa,zI p]] W (PtP mB L ix (t::r) W)))(hr:Qv (t::r)<=9223372036854775807):
  Calls prog 87 #[zP mB 0,.agg #[zI 8,zT N,zU a,zU b,zU c,zU d,.slice Y Z aa,zI p]] w (UcP mB L ix (.mk 8 N a b c d (t::r) p) w):=by
 have HC:=hid (fun(I U:Nat) (W:World) (h:mB<W.heap.size) (y:∀b,W.heap.size<=b->L b)=>y6Z I U h y);have HM:=hid hm;have HL:=hid y;obtain⟨A,D⟩:∃A,A=Qv (t::r):=⟨_,rfl⟩;have ae:0<A:=by rw[D,Qv];omega
 have af:(0:Int)<(A:Int):=by omega
 rw[<-D]at hr;have ad:=hid D;clear hm D y;go_enter func87,ntmps87
 go_wp2_with fail
 refine(ac.out _ ((Below.refl _ w).alloc L0q _)).mono ?_;rintro e w1 ⟨so,ag,rfl,hv,ab⟩;have E:=hid (Jc ab);obtain⟨g,o,x,rfl,_,V,hx⟩:=Ug hv 0 (by simp);obtain⟨I,U,rfl⟩:=Vb hx;rw[Nat.add_zero]at V;have lg:g<w1.heap.size:=World.block_lt_of_cell? w1 _ V;have HV:=hid hx;rw[<-ad.out];clear ab hv hx;dsimp only[fq2]at V
 go_wp2_with fail
 refine(HC.out I U _ (Nat.lt_of_lt_of_le HM.out E.out.size) (fun b hb=>HL.out b (Nat.le_trans E.out.size hb))).mono ?_;rintro e w2 ⟨c1,rfl,H⟩
 go_wp2_with fail
 go_ret;exact⟨_,_,rfl,⟨c1,_,rfl,H.out.1,Vq (G.below H.out.2) _ _ HV.out⟩,E.out.trans (H.out.2.mono E.out.size)⟩
theorem y7n(N:zA)(a b c d:Int)(Y:Option Addr)(Z aa:Nat)(p:Int)(t:RT)(r:List RT)(w:World)(hm:mB<w.heap.size)(y:∀b,w.heap.size<=b->L b)
  (ac:Hid (∀W:World,zB w W->Calls prog 130 #[zP mB 0,.agg #[zI 9,zT N,zU a,zU b,zU c,zU d,.slice Y Z aa,zI p]] W (PtP mB L ix (t::r) W)))(hr:Qv (t::r)<=9223372036854775807):
  Calls prog 87 #[zP mB 0,.agg #[zI 9,zT N,zU a,zU b,zU c,zU d,.slice Y Z aa,zI p]] w (UcP mB L ix (.mk 9 N a b c d (t::r) p) w):=by
 have HC:=hid (fun(I U:Nat) (W:World) (h:mB<W.heap.size) (y:∀b,W.heap.size<=b->L b)=>y7a I U h y);have HM:=hid hm;have HL:=hid y;obtain⟨A,D⟩:∃A,A=Qv (t::r):=⟨_,rfl⟩;have ae:0<A:=by rw[D,Qv];omega
 have af:(0:Int)<(A:Int):=by omega
 rw[<-D]at hr;have ad:=hid D;clear hm D y;go_enter func87,ntmps87
 go_wp2_with fail
 refine(ac.out _ ((Below.refl _ w).alloc L0q _)).mono ?_;rintro e w1 ⟨so,ag,rfl,hv,ab⟩;have E:=hid (Jc ab);obtain⟨g,o,x,rfl,_,V,hx⟩:=Ug hv 0 (by simp);obtain⟨I,U,rfl⟩:=Vb hx;rw[Nat.add_zero]at V;have lg:g<w1.heap.size:=World.block_lt_of_cell? w1 _ V;have HV:=hid hx;rw[<-ad.out];clear ab hv hx;dsimp only[fq2]at V
 go_wp2_with fail
 refine(HC.out I U _ (Nat.lt_of_lt_of_le HM.out E.out.size) (fun b hb=>HL.out b (Nat.le_trans E.out.size hb))).mono ?_;rintro e w2 ⟨c1,rfl,H⟩
 go_wp2_with fail
 go_ret;exact⟨_,_,rfl,⟨c1,_,rfl,H.out.1,Vq (G.below H.out.2) _ _ HV.out⟩,E.out.trans (H.out.2.mono E.out.size)⟩
theorem y7o(N:zA)(a b c d:Int)(Y:Option Addr)(Z aa:Nat)(p:Int)(t:RT)(r:List RT)(w:World)(hm:mB<w.heap.size)(y:∀b,w.heap.size<=b->L b)
  (ac:Hid (∀W:World,zB w W->Calls prog 130 #[zP mB 0,.agg #[zI 10,zT N,zU a,zU b,zU c,zU d,.slice Y Z aa,zI p]] W (PtP mB L ix (t::r) W)))(hr:Qv (t::r)<=9223372036854775807):
  Calls prog 87 #[zP mB 0,.agg #[zI 10,zT N,zU a,zU b,zU c,zU d,.slice Y Z aa,zI p]] w (UcP mB L ix (.mk 10 N a b c d (t::r) p) w):=by
 have HC:=hid (fun(I U:Nat) (W:World) (h:mB<W.heap.size) (y:∀b,W.heap.size<=b->L b)=>y7d I U h y);have HM:=hid hm;have HL:=hid y;obtain⟨A,D⟩:∃A,A=Qv (t::r):=⟨_,rfl⟩;have ae:0<A:=by rw[D,Qv];omega
 have af:(0:Int)<(A:Int):=by omega
 rw[<-D]at hr;have ad:=hid D;clear hm D y;go_enter func87,ntmps87
 go_wp2_with fail
 refine(ac.out _ ((Below.refl _ w).alloc L0q _)).mono ?_;rintro e w1 ⟨so,ag,rfl,hv,ab⟩;have E:=hid (Jc ab);obtain⟨g,o,x,rfl,_,V,hx⟩:=Ug hv 0 (by simp);obtain⟨I,U,rfl⟩:=Vb hx;rw[Nat.add_zero]at V;have lg:g<w1.heap.size:=World.block_lt_of_cell? w1 _ V;have HV:=hid hx;rw[<-ad.out];clear ab hv hx;dsimp only[fq2]at V
 go_wp2_with fail
 refine(HC.out I U _ (Nat.lt_of_lt_of_le HM.out E.out.size) (fun b hb=>HL.out b (Nat.le_trans E.out.size hb))).mono ?_;rintro e w2 ⟨c1,c2,c3,rfl,H⟩
 go_wp2_with fail
 go_ret;exact⟨_,_,rfl,⟨c1,c2,c3,_,rfl,H.out.1,H.out.2.1,H.out.2.2.1,Vq (G.below H.out.2.2.2) _ _ HV.out⟩,E.out.trans (H.out.2.2.2.mono E.out.size)⟩
theorem y7p(N:zA)(a b c d:Int)(Y:Option Addr)(Z aa:Nat)(p:Int)(t:RT)(r:List RT)(w:World)(hm:mB<w.heap.size)(y:∀b,w.heap.size<=b->L b)
  (ac:Hid (∀W:World,zB w W->Calls prog 130 #[zP mB 0,.agg #[zI 11,zT N,zU a,zU b,zU c,zU d,.slice Y Z aa,zI p]] W (PtP mB L ix (t::r) W)))(hr:Qv (t::r)<=9223372036854775807):
  Calls prog 87 #[zP mB 0,.agg #[zI 11,zT N,zU a,zU b,zU c,zU d,.slice Y Z aa,zI p]] w (UcP mB L ix (.mk 11 N a b c d (t::r) p) w):=by
 have HC:=hid (fun(I U:Nat) (W:World) (h:mB<W.heap.size) (y:∀b,W.heap.size<=b->L b)=>y7b I U h y);have HM:=hid hm;have HL:=hid y;obtain⟨A,D⟩:∃A,A=Qv (t::r):=⟨_,rfl⟩;have ae:0<A:=by rw[D,Qv];omega
 have af:(0:Int)<(A:Int):=by omega
 rw[<-D]at hr;have ad:=hid D;clear hm D y;go_enter func87,ntmps87
 go_wp2_with fail
 refine(ac.out _ ((Below.refl _ w).alloc L0q _)).mono ?_;rintro e w1 ⟨so,ag,rfl,hv,ab⟩;have E:=hid (Jc ab);obtain⟨g,o,x,rfl,_,V,hx⟩:=Ug hv 0 (by simp);obtain⟨I,U,rfl⟩:=Vb hx;rw[Nat.add_zero]at V;have lg:g<w1.heap.size:=World.block_lt_of_cell? w1 _ V;have HV:=hid hx;rw[<-ad.out];clear ab hv hx;dsimp only[fq2]at V
 go_wp2_with fail
 refine(HC.out I U _ (Nat.lt_of_lt_of_le HM.out E.out.size) (fun b hb=>HL.out b (Nat.le_trans E.out.size hb))).mono ?_;rintro e w2 ⟨c1,rfl,H⟩
 go_wp2_with fail
 go_ret;exact⟨_,_,rfl,⟨c1,_,rfl,H.out.1,Vq (G.below H.out.2) _ _ HV.out⟩,E.out.trans (H.out.2.mono E.out.size)⟩
theorem y7q(N:zA)(a b c d:Int)(Y:Option Addr)(Z aa:Nat)(p:Int)(t:RT)(r:List RT)(w:World)(hm:mB<w.heap.size)(y:∀b,w.heap.size<=b->L b)
  (ac:Hid (∀W:World,zB w W->Calls prog 130 #[zP mB 0,.agg #[zI 12,zT N,zU a,zU b,zU c,zU d,.slice Y Z aa,zI p]] W (PtP mB L ix (t::r) W)))(hr:Qv (t::r)<=9223372036854775807):
  Calls prog 87 #[zP mB 0,.agg #[zI 12,zT N,zU a,zU b,zU c,zU d,.slice Y Z aa,zI p]] w (UcP mB L ix (.mk 12 N a b c d (t::r) p) w):=by
 have HC:=hid (fun(I U:Nat) (W:World) (h:mB<W.heap.size) (y:∀b,W.heap.size<=b->L b)=>y7c I U h y);have HM:=hid hm;have HL:=hid y;obtain⟨A,D⟩:∃A,A=Qv (t::r):=⟨_,rfl⟩;have ae:0<A:=by rw[D,Qv];omega
 have af:(0:Int)<(A:Int):=by omega
 rw[<-D]at hr;have ad:=hid D;clear hm D y;go_enter func87,ntmps87
 go_wp2_with fail
 refine(ac.out _ ((Below.refl _ w).alloc L0q _)).mono ?_;rintro e w1 ⟨so,ag,rfl,hv,ab⟩;have E:=hid (Jc ab);obtain⟨g,o,x,rfl,_,V,hx⟩:=Ug hv 0 (by simp);obtain⟨I,U,rfl⟩:=Vb hx;rw[Nat.add_zero]at V;have lg:g<w1.heap.size:=World.block_lt_of_cell? w1 _ V;have HV:=hid hx;rw[<-ad.out];clear ab hv hx;dsimp only[fq2]at V
 go_wp2_with fail
 refine(HC.out I U _ (Nat.lt_of_lt_of_le HM.out E.out.size) (fun b hb=>HL.out b (Nat.le_trans E.out.size hb))).mono ?_;rintro e w2 ⟨c1,rfl,H⟩
 go_wp2_with fail
 go_ret;exact⟨_,_,rfl,⟨c1,_,rfl,H.out.1,Vq (G.below H.out.2) _ _ HV.out⟩,E.out.trans (H.out.2.mono E.out.size)⟩
end
end
section
open Go.RowKit Go.Shelf Go.Maps
section
variable {mB:Nat} {L:Nat->Prop} {ix:ByteArray->Nat}
theorem Pm.look{W:World}{B:Nat}{l:List ByteArray}{s:zA}(h:Pm W B l)(r:inN s l=true)(t:s.size<=maxLen):(Instr.lookup 127 (.map (some B)) (zT s) false).run prog W=.ok (zI (ixN s l:Nat)) W:=by
 obtain⟨D,y,A⟩:=h;obtain⟨c,E,o,_⟩:=y.lookup_int Gq Tryz.underlying127 Tryz.underlying3 (Kq W) (Gx t);rw[(A s).2 r]at o;rw[E];have:((ixN s l:Nat):Int)=c:=by simpa using o
 rw[this]
theorem y7r{W W':World}{a b:Addr}{x y:Value}{pB:Nat}{l:List ByteArray}(h:W.cell? a=some x/\W.cell? b=some y/\Pm W pB l)(o:zB W W'):W'.cell? a=some x/\W'.cell? b=some y/\Pm W' pB l:=by
 have e:∀{a:Addr} {u:Value},W.cell? a=some u->W'.cell? a=some u:=fun{a u} h=>(o.cell (p:=a) (World.block_lt_of_cell? W _ h)).trans h
 exact⟨e h.1,e h.2.1,h.2.2.below o h.2.2.lt⟩
theorem y7s(N:zA)(a b c d:Int)(G:Option Addr)(I U:Nat)(p:Int)(s:List RT)(pB:Nat)(l:List ByteArray)(w:World)(A:mB<w.heap.size)(D:∀b,w.heap.size<=b->L b)(Z:zC w mB 1 (.map (some pB)))(V:Pm w pB l)(aa:inN N l=true)(hs:N.size<=maxLen):
  Calls prog 87 #[zP mB 0,.agg #[zI 5,zT N,zU a,zU b,zU c,zU d,.slice G I U,zI p]] w (UcP mB L (fun N=>ixN N l) (.mk 5 N a b c d s p) w):=by
 have HC:=hid (fun(W:World) (h:mB<W.heap.size) (D:∀b,W.heap.size<=b->L b)=>y6W (ixN N l) h D);have ae:=hid aa;have af:=hid hs;obtain⟨r,E⟩:∃r,r=w.alloc (.cells #[zI 5,zT N,zU a,zU b,zU c,zU d,.slice G I U,zI p] 81):=⟨_,rfl⟩;have t:zB w r:=by rw[E];exact(Below.refl _ w).alloc L0q _
 have Y:r.heap[w.heap.size]? =some (.cells #[zI 5,zT N,zU a,zU b,zU c,zU d,.slice G I U,zI p] 81):=by rw[E];exact Qx w _ rfl
 obtain⟨⟨y0,y1,_⟩,_⟩:=Qg Y;have ln:=Qq Y;have ab:Hid (zC r.drew mB 1 (.map (some pB))/\zC r.drew w.heap.size 1 (zT N)/\Pm r.drew pB l):=⟨(t.cell (p:=⟨mB,1,none⟩) A).trans Z,y1,V.below t.drew V.lt⟩;have ag:Hid (mB<r.drew.heap.size):=Nat.lt_of_lt_of_le A t.size;have ah:Hid (∀b,r.drew.heap.size<=b->L b):=fun b hb=>D b (Nat.le_trans t.size hb)
 have ac:Hid (zB w r.drew):=t.drew;have aj:mB<r.heap.size:=Nat.lt_of_lt_of_le A t.size;have ad:=hid E;clear A D Z V aa hs E Y t;go_enter func87,ntmps87
 go_wp2_with fail
 rw[<-ad.out];refine Qc 99 (fun W:World=>zC W mB 1 (.map (some pB))/\zC W w.heap.size 1 (zT N)/\Pm W pB l) (by kernel_rfl) ab.out (fun o=> ?_);refine Qz 0 o ?_;refine Qz 1 o ?_;refine Qz 2 o ?_;refine Qz 3 o ?_;refine Qz 4 o ?_;refine Qz 5 o ?_;refine Qz 6 o ?_
 (refine Qf 7 (fun K y=> ?_);have ai:=Pm.look o.2.2 ae.out af.out;go_simp;refine y.out _ _ o ?_;clear ai y K)
 (try simp only[Act.put,zY])
 (refine Qf 8 (fun K y=> ?_);go_simp;refine(HC.out _ ag.out ah.out).mono ?_;rintro e w4 ⟨c1,c2,rfl,H⟩;have HH:=hid H.out.2.2;go_simp;replace o:=y7r o HH.out;refine y.out _ _ o ?_;clear y K)
 (try simp only[Act.put,zY])
 refine Qz 9 o ?_;refine⟨by kernel_rfl,?_⟩;clear o ab ad
 go_wp2_with fail
 go_ret;exact⟨_,_,rfl,⟨c1,c2,rfl,H.out.1,H.out.2.1⟩,ac.out.trans (HH.out.mono ac.out.size)⟩
theorem y7t{w w':World}(o:w.grownBy w' (some mB))(t:RT)(u:Value)(h:Uv w mB L ix t u):Uv w' mB L ix t u:=by
 obtain⟨k,N,a,b,c,d,s,p⟩:=t;rw[Uv]at h ⊢;by_cases hk2:k=2
 ·rw[if_pos hk2]at h ⊢
  obtain⟨c1,c2,e,x1,x2⟩:=h;exact⟨c1,c2,e,x1.kept o,x2.kept o⟩
 rw[if_neg hk2]at h ⊢;by_cases hk3:k=3
 ·rw[if_pos hk3]at h ⊢
  obtain⟨c1,c2,e,x1,x2⟩:=h;exact⟨c1,c2,e,x1.kept o,x2.kept o⟩
 rw[if_neg hk3]at h ⊢;by_cases hk4:k=4
 ·rw[if_pos hk4]at h ⊢
  obtain⟨c1,c2,e,x1,x2⟩:=h;exact⟨c1,c2,e,x1.kept o,x2.kept o⟩
 rw[if_neg hk4]at h ⊢;by_cases hk5:k=5
 ·rw[if_pos hk5]at h ⊢
  obtain⟨c1,c2,e,x1,x2⟩:=h;exact⟨c1,c2,e,x1.kept o,x2.kept o⟩
 rw[if_neg hk5]at h ⊢;by_cases hk6:k=6
 ·rw[if_pos hk6]at h ⊢
  obtain⟨c1,r,y,e,x1,x2⟩:=h;exact⟨c1,r,y,e,x1.kept o,Dg o s 0 x2⟩
 rw[if_neg hk6]at h ⊢;by_cases hk7:k=7
 ·rw[if_pos hk7]at h ⊢
  obtain⟨c1,r,y,e,x1,x2⟩:=h;exact⟨c1,r,y,e,x1.kept o,Dg o s 0 x2⟩
 rw[if_neg hk7]at h ⊢;by_cases hk8:k=8
 ·rw[if_pos hk8]at h ⊢
  obtain⟨c1,x,e,x1,x2⟩:=h;exact⟨c1,x,e,x1.kept o,Ac o s x x2⟩
 rw[if_neg hk8]at h ⊢;by_cases hk9:k=9
 ·rw[if_pos hk9]at h ⊢
  obtain⟨c1,x,e,x1,x2⟩:=h;exact⟨c1,x,e,x1.kept o,Ac o s x x2⟩
 rw[if_neg hk9]at h ⊢;by_cases hk10:k=10
 ·rw[if_pos hk10]at h ⊢
  obtain⟨c1,c2,c3,x,e,x1,x2,x3,A⟩:=h;exact⟨c1,c2,c3,x,e,x1.kept o,x2.kept o,x3.kept o,Ac o s x A⟩
 rw[if_neg hk10]at h ⊢;by_cases hk11:k=11
 ·rw[if_pos hk11]at h ⊢
  obtain⟨c1,x,e,x1,x2⟩:=h;exact⟨c1,x,e,x1.kept o,Ac o s x x2⟩
 rw[if_neg hk11]at h ⊢;by_cases hk12:k=12
 ·rw[if_pos hk12]at h ⊢
  obtain⟨c1,x,e,x1,x2⟩:=h;exact⟨c1,x,e,x1.kept o,Ac o s x x2⟩
 rw[if_neg hk12]at h ⊢;exact h
def CtP(mB:Nat)(L:Nat->Prop)(ix:zA->Nat)(t:RT)(W:World)(e:Ending)(w':World):Prop:=∃d1 d2,e=.returned (fq2 88 d1 d2)/\Mv w' mB L ix t (fq2 88 d1 d2)/\zB W w'
theorem y7u(k:Int)(N:zA)(a b c d:Int)(A:Option Addr)(D E:Nat)(p:Int)(t:RT)(w:World)(I:mB<w.heap.size)(U:∀b,w.heap.size<=b->L b)
  (Z:Hid (∀W:World,zB w W->Calls prog 87 #[zP mB 0,.agg #[zI k,zT N,zU a,zU b,zU c,zU d,.slice A D E,zI p]] W (UcP mB L ix t W))):
  Calls prog 54 #[zP mB 0,.agg #[zI k,zT N,zU a,zU b,zU c,zU d,.slice A D E,zI p]] w (CtP mB L ix t w):=by
 have ai:∀(fn:Fn) (first aa:Array Value) (w:World),(Instr.makeFunc fn first aa).run prog w=.ok (.func fn first aa) w:=fun _ _ _ _=>rfl
 obtain⟨h,o⟩:∃h,h=(w.alloc (.cells #[zP mB 0] 86)).alloc (.cells #[zI k,zT N,zU a,zU b,zU c,zU d,.slice A D E,zI p] 81):=⟨_,rfl⟩;have V:zB w h:=by rw[o];exact be2 _ _ _
 have ab:Hm h mB L w.heap.size:=by rw[o];exact Db _ (Vl I U)
 have HC:=hid (Z.out h V);have ac:=hid V;have af:=hid ab;have HM:=hid I;have HL:=hid U;have ad:=hid o;clear I U V ab o Z;go_enter func54,ntmps54
 go_wp2_with fail
 rw[<-ad.out];refine HC.out.mono ?_;rintro e Y ⟨F,ag,rfl,hu,r⟩;have ah:=hid hu;have ae:=hid r;clear hu r HC ad
 go_wp2_with fail
 go_ret;have y:=ac.out.trans (ae.out.mono ac.out.size);have hk:zB Y (Y.alloc (.cells #[.func (.func F) #[] ag] 132)):=(Below.refl _ Y).alloc L0q _;refine⟨_,_,rfl,y7e ((af.out.kept (G.below ae.out)).kept (G.below hk)) (Vl (Nat.lt_of_lt_of_le HM.out y.size) (fun b r=>HL.out b (Nat.le_trans y.size r))) (y7t (G.below hk) _ _ ah.out),y.alloc y.size _⟩
end
end
section
open Go.RowKit Go.Shelf Go.Maps
section
variable {mB:Nat} {L:Nat->Prop} {ix:ByteArray->Nat}
theorem Tryz.infoMt:(Tryz.prog.info? 132).map (fun i=>(i.zero,i.size,i.bytes))=some (some .nilFunc,1,8):=by kernel_rfl
theorem Tryz.sliceMt:Tryz.prog.underlying 128=some (.slice 132):=by kernel_rfl
theorem y7v(n:Nat)(A:n<=1048576)(W:World):(Instr.makeSlice 128 (.int .i64 0) (.int .i64 n)).run prog W=.ok (.slice (some ⟨W.heap.size,0,none⟩) 0 n) (W.alloc (.cells (madeCells #[.nilFunc] n) 132)):=by
 obtain⟨i0,o,r,t,y⟩:=info_parts Tryz.infoMt;have h:=run_make W 128 132 i0 _ Tryz.sliceMt o r .i64 .i64 0 n (by omega) (by omega) (by rw[y];omega) (by omega);rw[t,Nat.mul_one]at h;exact h
structure Pw (mB:Nat) (ix:ByteArray->Nat) (w:World) (n:Nat) (s:List RT) (j:Nat) (W:World):Prop where
 be:Below w.heap.size w W
 row:∃xs:List Value,W.ownsRow (w.heap.size+1) 132 1 (.slice (some ⟨w.heap.size+1,0,none⟩) j n) j xs/\∀i (hi:i<s.length),i<j->∃x,xs[i]? =some x/\Mv W mB (fun b=>w.heap.size+2<=b) ix s[i] x
theorem Pw.size{w:World}{n:Nat}{s:List RT}{j:Nat}{W:World}(h:Pw mB ix w n s j W):w.heap.size+2<=W.heap.size:=by
 obtain⟨xs,o,_⟩:=h.row;have:=(o.lt (w.heap.size+1) rfl).2;omega
theorem Pw.step{w:World}{n:Nat}{s:List RT}{j:Nat}{W o r:World}{x:Value}{xs:List Value}{X:Obj}(h:Pw mB ix w n s j W)(hm:mB<w.heap.size)(hj:j<s.length)(hx:W.ownsRow (w.heap.size+1) 132 1 (.slice (some ⟨w.heap.size+1,0,none⟩) j n) j xs)(U:∀i (D:i<s.length),i<j->∃x,xs[i]? =some x/\Mv W mB (fun b=>w.heap.size+2<=b) ix s[i] x)(t:Below W.heap.size W o)(V:Mv o mB (fun b=>w.heap.size+2<=b) ix s[j] x)(Y:r.ownsRow (w.heap.size+1) 132 1 (.slice (some ⟨w.heap.size+1,0,none⟩) (j+1) n) (j+1) (xs++[x]))(E:(o.alloc X).grownBy r (some (w.heap.size+1))):Pw mB ix w n s (j+1) r:=by
 have h3:=h.size;have Z:=t.size;have ea:(o.alloc X).heap.size=o.heap.size+1:=World.size_alloc _ _;have G:∀g,g<o.heap.size->g≠w.heap.size+1->r.heap[g]? =o.heap[g]? :=fun g h1 aa=>(E.block g (by omega) (fun e=>aa (Option.some.inj e))).trans (Below.heap_alloc _ _ _ h1)
 have I:Below w.heap.size w (o.alloc X):=(h.be.trans (t.mono h.be.size)).alloc (Nat.le_trans h.be.size Z) _;refine⟨I.grown E I.size (fun g e=>by have:=Option.some.inj e;omega),xs++[x],Y,fun i D ad=> ?_⟩;have hl:xs.length=j:=by have:=hx.1;omega
 by_cases e:i<j
 ·obtain⟨y,hy,ab⟩:=U i D e
  refine⟨y,by rw[List.getElem?_append_left (by omega)];exact hy,Jp (fun _ h _=>h) (fun b _ (ac:w.heap.size+2<=b) A=> ?_) _ _ ab⟩;exact(G b (by omega) (by omega)).trans (t.block b A)
 ·obtain rfl:i=j:=by omega
  refine⟨x,by rw[List.getElem?_append_right (by omega),hl];simp,Jp (fun _ h _=>h) (fun b _ (ac:w.heap.size+2<=b) A=>G b A (by omega)) _ _ V⟩
theorem z0n{w:World}{g o:Nat}(A:g≠mB)(D:L g):∀(s:List RT) (j:Nat),(∀i (E:i<s.length),∃x,w.cell? ⟨g,o+(j+i),none⟩=some x/\Mv w mB L ix s[i] x)->Mvs w mB L ix (some ⟨g,o,none⟩) j s
 |[],j,_=>by rw[Mvs];trivial
 |t::r,j,h=>by
  rw[Mvs];obtain⟨x,G,I⟩:=h 0 (by simp);refine⟨⟨g,o,x,rfl,⟨A,D⟩,G,I⟩,z0n A D r (j+1) fun i E=> ?_⟩;obtain⟨y,U,V⟩:=h (i+1) (by simpa using E);exact⟨y,by rw[show j+1+i=j+(i+1) by omega];exact U,V⟩
theorem y7w(k:Int)(N:ByteArray)(a b c d:Int)(t:Option Addr)(n aa:Nat)(p:Int)(s:List RT)(w:World)(hm:mB<w.heap.size)(r:∀b,w.heap.size<=b->L b)(HN:Hid (n=s.length))(hn:n<=1048576)
  (HC:Hid (∀j (hj:j<s.length),∃g o,t=some ⟨g,o,none⟩/\g<w.heap.size/\∃y A a1 D c1 E G I U p1,Rc w g (o+j*8) y A a1 D c1 E (.slice G I U) p1/\
    ∀(W:World) (L':Nat->Prop),Below w.heap.size w W->(∀b,W.heap.size<=b->L' b)->Calls prog 54 #[.pointer (some ⟨mB,0,none⟩),.agg #[.int .i64 y,.string A,.int .u64 a1,.int .u64 D,.int .u64 c1,.int .u64 E,.slice G I U,.int .i64 p1]] W (CtP mB L' ix s[j] W))):
  Calls prog 130 #[.pointer (some ⟨mB,0,none⟩),.agg #[.int .i64 k,.string N,.int .u64 a,.int .u64 b,.int .u64 c,.int .u64 d,.slice t n aa,.int .i64 p]] w (PtP mB L ix s w):=by
 obtain⟨iT,ar,aC,au,aD⟩:=info_parts Tryz.infoMt;have av:=y7v n hn;obtain⟨W0,ab⟩:∃W0,W0=(w.alloc (.cells #[.int .i64 k,.string N,.int .u64 a,.int .u64 b,.int .u64 c,.int .u64 d,.slice t n aa,.int .i64 p] 81)).alloc (.cells (madeCells #[.nilFunc] n) 132):=⟨_,rfl⟩;have aw:Hid (Pw mB ix w n s 0 W0):=by
  rw[ab];refine⟨be2 _ _ _,[],?_,fun i hi h0=>by omega⟩;have:=World.ownsRow_made (base:=w.heap.size+1) (e:=132) (size:=1) (w.alloc (.cells #[.int .i64 k,.string N,.int .u64 a,.int .u64 b,.int .u64 c,.int .u64 d,.slice t n aa,.int .i64 p] 81)) (madeCells #[.nilFunc] n) n (by simp) (by unfold maxLen;omega) (by rw[Nat.mul_one];exact size_madeCells _ _);simpa using this
 have HM:=hid hm;have HL:=hid r;have ad:=hid ab;clear hm r ab;go_enter func130,ntmps130
 go_wp2_with fail
 rw[<-ad.out];clear ad av
 go_loopw [5,15] (fun v i wr=>∃j:Nat,v=.slice (some ⟨w.heap.size+1,0,none⟩) j n/\i=.int .i64 j/\j<=n/\Hid (Pw mB ix w n s j wr)) (fun _ i _=>n-(intOf i).toNat)
 case atStart=>exact⟨0,rfl,rfl,Nat.zero_le _,aw⟩
 case round=>
  obtain⟨j,rfl,rfl,hj,h⟩:=hrel;by_cases hjn:j<n
  ·have ax:(j:Int)<(n:Int):=by omega
   have a0:decide ((j:Int)<(n:Int))=true:=by simp;omega
   have ae:j<s.length:=by rw[<-HN.out];exact hjn
   obtain⟨g,o,rfl,hg,y,A,a1,D,c1,E,G,I,U,p1,rc,hc⟩:=HC.out j ae;obtain⟨z0,z1,z2,z3,z4,z5,z6,z7⟩:=rc.below h.out.be hg;have aE:g<wr.heap.size:=World.block_lt_of_cell? wr _ z0;obtain⟨xs,af,ag⟩:=h.out.row;obtain⟨V,ac⟩:∃V,V=wr.alloc (.cells #[.int .i64 y,.string A,.int .u64 a1,.int .u64 D,.int .u64 c1,.int .u64 E,.slice G I U,.int .i64 p1] 81):=⟨_,rfl⟩;have Y:Below wr.heap.size wr V:=by rw[ac];exact(Below.refl _ wr).alloc L0q _
   have HS:=hid (hc V (fun b=>w.heap.size+2<=b) (h.out.be.trans (Y.mono h.out.be.size)) (fun b hb=>Nat.le_trans (Nat.le_trans h.out.size Y.size) hb));have ah:=hid af;have ay:=hid ag;have ai:=hid Y;have aj:=hid ac;clear af ag Y ac hc rc
   go_wp2_with(first
    |(go_at_call 54;rw[<-aj.out];refine HS.out.mono ?_;rintro e w2 ⟨e1,Z,rfl,ak,al⟩;have am:=hid (ai.out.trans (al.mono ai.out.size));have az:=hid ak;have ao:(w2.alloc (.cells #[.func (.func 88) #[] #[.pointer (some ⟨e1,0,none⟩),.pointer (some ⟨Z,0,none⟩)]] 132)).ownsRow (w.heap.size+1) 132 1 (.slice (some ⟨w.heap.size+1,0,none⟩) j n) j xs:=(Xh ah.out am.out).alloc _;clear HS aj ak al)
    |(at_builtin;refine wpList_append_fits _ rfl (.tmp 19) (.tmp 23) 128 rfl (w.heap.size+1) 132 iT 1 Tryz.underlying128 ar au (w.heap.size+1) j n xs rfl ao ⟨w2.heap.size,0,none⟩ 1 1 [.func (.func 88) #[] #[.pointer (some ⟨e1,0,none⟩),.pointer (some ⟨Z,0,none⟩)]] rfl rfl (cell_one_new _ _ _) (by simp[Value.oneCell']) (by omega) ?_;intro w6 ap aq;have aA:=hid ap;have aB:=hid aq;clear ap aq ao))
   refine⟨⟨j+1,rfl,by go_num,by omega,hid ?_⟩,by simp[intOf];omega⟩;exact h.out.step HM.out ae ah.out ay.out am.out az.out aA.out aB.out
  ·have a0:decide ((j:Int)<(n:Int))=false:=by simp;omega
   have ax:¬(j:Int)<(n:Int):=by omega
   obtain rfl:n=j:=by omega
   have HF:Hid (PtP mB L ix s w (.returned (.slice (some ⟨w.heap.size+1,0,none⟩) n n)) wr):=by
    obtain⟨xs,h1,h2⟩:=h.out.row;have hm:=HM.out;have r:=HL.out;refine⟨some ⟨w.heap.size+1,0,none⟩,n,by rw[Zm,HN.out],z0n (by omega) (r _ (by omega)) s 0 fun i hi=> ?_,h.out.be⟩;obtain⟨x,h3,h4⟩:=h2 i hi (by rw[HN.out];exact hi);refine⟨x,?_,Jp (fun b (hb:w.heap.size+2<=b) _=>r b (by omega)) (fun _ _ _ _=>rfl) _ _ h4⟩;have:=h1.cells rfl i x h3;have Z:((⟨w.heap.size+1,0,none⟩:Addr).add i)=⟨w.heap.size+1,i,none⟩:=by
     unfold Addr.add;split
     ·rename_i h0;simp_all
     ·simp
    rw[Nat.zero_add,Nat.zero_add];rw[<-Z];exact this
   go_wp2_with fail
   go_ret;exact HF.out
end
end
section
open Go.RowKit Go.Shelf Go.Maps
section
variable {mB:Nat} {L:Nat->Prop}
theorem y7x{w:World}{B:Nat}{t:RT}{k:Int}{T:zA}{a b c d:Int}{r:Option Addr}{n A:Nat}{p:Int}(h:Qy w B t (r8 k T a b c d r n A p)):∃s,t=.mk k T a b c d s p/\n=s.length/\(s.isEmpty=true∨(s.isEmpty=false/\∃g o,r=some ⟨g,o,none⟩/\g<B/\Qv s<=maxLen/\Zq w B g o s)):=by
 obtain⟨k',E,G,I,U,V,s,Y⟩:=t;rw[Qy]at h;obtain⟨Z,aa,y,D⟩:=h;simp only[r8,List.cons.injEq,Value.int.injEq,Value.string.injEq,Value.slice.injEq,true_and,and_true]at y;obtain⟨rfl,rfl,rfl,rfl,rfl,rfl,⟨rfl,rfl,rfl⟩,rfl⟩:=y;exact⟨s,rfl,Zm s,D⟩
theorem z6z(l:List ByteArray)(pB:Nat):∀(Q:Nat) (t:RT),SizeOf.sizeOf t<Q->∀(k:Int) (N:zA) (a b c d:Int) (A:Option Addr) (n D:Nat) (p:Int) (w:World) (s0:Nat) (L:Nat->Prop),Qy w s0 t (r8 k N a b c d A n D p)->s0<=w.heap.size->Fit l t->RtU t->mB<w.heap.size->(∀b,w.heap.size<=b->L b)->zC w mB 1 (.map (some pB))->Pm w pB l->
  Calls prog 54 #[zP mB 0,.agg #[zI k,zT N,zU a,zU b,zU c,zU d,.slice A n D,zI p]] w (CtP mB L (fun N=>ixN N l) t w)
 |0,t,h=>by omega
 |Q+1,t,h=>by
  intro k N a b c d A n D p w s0 L ht ab hf Y Z hL hc hp;have ih:=z6z l pB Q;obtain⟨s,rfl,af,ag⟩:=y7x ht;simp only[RT.mk.sizeOf_spec]at h;have am:=hf.lenG;have ac:=hf.ok;rw[okT,Bool.and_eq_true]at ac;have aa:=Sj ac.1;clear ac;rw[RtU]at Y;have ah:∀(W:World) (L':Nat->Prop),zB w W->(∀b,W.heap.size<=b->L' b)->Calls prog 130 #[zP mB 0,.agg #[zI k,zT N,zU a,zU b,zU c,zU d,.slice A n D,zI p]] W (PtP mB L' (fun N=>ixN N l) s W):=fun W L' E ai=>by
   refine y7w k N a b c d A n D p s W (Nat.lt_of_lt_of_le Z E.size) ai (hid af) (by omega) (hid fun j hj=> ?_);obtain⟨g,o,y,h2,k1,T1,a1,b1,c1,d1,ad,n1,ae,p1,h3,h4⟩:=Kw ab ag j hj;refine⟨g,o,y,Nat.lt_of_lt_of_le h2 E.size,k1,T1,a1,b1,c1,d1,ad,n1,ae,p1,h3.below E h2,fun W2 L2 aj ak=> ?_⟩;have U:=E.trans (aj.mono E.size);have ao:=List.sizeOf_lt_of_mem (List.getElem_mem hj);exact ih s[j] (by omega) k1 T1 a1 b1 c1 d1 ad n1 ae p1 W2 s0 L2 (h4.below (U.mono ab)) (Nat.le_trans ab U.size) (hf.sub j hj) (z3L Y.2.2.2.2 j hj) (Nat.lt_of_lt_of_le Z U.size) ak ((U.cell (p:=⟨mB,1,none⟩) Z).trans hc) (hp.below U hp.lt)
  refine y7u k N a b c d A n D p _ w Z hL (hid fun W E=> ?_);have G:=Nat.lt_of_lt_of_le Z E.size;have I:∀b,W.heap.size<=b->L b:=fun b hb=>hL b (Nat.le_trans E.size hb)
  have hr:Qv s<=9223372036854775807:=by rw[Zm];omega
  have V:Hid (∀W':World,zB W W'->Calls prog 130 #[zP mB 0,.agg #[zI k,zT N,zU a,zU b,zU c,zU d,.slice A n D,zI p]] W' (PtP mB L (fun N=>ixN N l) s W')):=fun W' al=>by
   have U:=E.trans (al.mono E.size);exact ah W' L U (fun b hb=>hL b (Nat.le_trans U.size hb))
  rcases(by omega:k=1∨k=2∨k=3∨k=4∨k=5∨k=6∨k=7∨k=8∨k=9∨k=10∨k=11∨k=12)with y|y|y|y|y|y|y|y|y|y|y|y
  ·subst y
   exact y7i N a b c d A n D p s W
  ·subst y
   exact y7g N a b c d A n D p s W G I
  ·subst y
   exact y7h N a b c d A n D p s ⟨Y.1,Y.2.1,Y.2.2.1,Y.2.2.2.1⟩ W G I
  ·subst y
   exact y7j N a b c d A n D p s W G I
  ·subst y
   refine y7s N a b c d A n D p s pB l W G I ((E.cell (p:=⟨mB,1,none⟩) Z).trans hc) (hp.below E hp.lt) (hf.rf (N,p) (by rw[rfT,if_pos rfl];simp)) ?_;have:=hf.z;rw[RtZ]at this;exact this.1
  ·subst y
   exact y7k N a b c d A n D p s W G I V
  ·subst y
   exact y7l N a b c d A n D p s W G I V
  ·subst y
   obtain⟨t0,r,rfl⟩:∃t0 r,s=t0::r:=by
    cases s with
    |nil=>rw[Qv]at aa;omega
    |cons t0 r=>exact⟨t0,r,rfl⟩
   exact y7m N a b c d A n D p t0 r W G I V hr
  ·subst y
   obtain⟨t0,r,rfl⟩:∃t0 r,s=t0::r:=by
    cases s with
    |nil=>rw[Qv]at aa;omega
    |cons t0 r=>exact⟨t0,r,rfl⟩
   exact y7n N a b c d A n D p t0 r W G I V hr
  ·subst y
   obtain⟨t0,r,rfl⟩:∃t0 r,s=t0::r:=by
    cases s with
    |nil=>rw[Qv]at aa;omega
    |cons t0 r=>exact⟨t0,r,rfl⟩
   exact y7o N a b c d A n D p t0 r W G I V hr
  ·subst y
   obtain⟨t0,r,rfl⟩:∃t0 r,s=t0::r:=by
    cases s with
    |nil=>rw[Qv]at aa;omega
    |cons t0 r=>exact⟨t0,r,rfl⟩
   exact y7p N a b c d A n D p t0 r W G I V hr
  ·subst y
   obtain⟨t0,r,rfl⟩:∃t0 r,s=t0::r:=by
    cases s with
    |nil=>rw[Qv]at aa;omega
    |cons t0 r=>exact⟨t0,r,rfl⟩
   exact y7q N a b c d A n D p t0 r W G I V hr
end
end
end Go.Proofs.YtgnkkgcgbeianaaGreatDoor
