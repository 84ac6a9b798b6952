/- Lemmas for the last text. Conditions: those that each names. -/
import Derived.Test.YthmgblmoobkliaaGreatDoorVT21
import Derived.Test.YthmgblmoobkliaaGreatDoorVT4ToT10
import Derived.Test.YthmgblmoobkliaaGreatDoorVU2ToU5
import Derived.Test.YthmgblmoobkliaaGreatDoorVEAsToEAs2
import Derived.Test.YthmgblmoobkliaaGreatDoorRows
import Derived.ProofKit
import Derived.OpenShut
import Derived.Carry
import Derived.Test.YthmgblmoobkliaaGreatDoorCards
import Derived.Test.YthmgblmoobkliaaGreatDoorTie
import Derived.LaidMore
import Derived.LaidHandle
import Derived.Stop.Joined
import Derived.SizedLaws
import Derived.Lib.LaidTab
import Derived.Test.YthmgblmoobkliaaGreatDoorVX17ToQ1
import Derived.Stop.LaidErr
import Derived.LaidLaws
set_option linter.unusedVariables false
set_option maxRecDepth 100000
set_option maxHeartbeats 8000000
namespace Go.Proofs.YthmgblmoobkliaaGreatDoor
open Go.Proofs.Tryz
open Go.RowKit Go.Shelf Go.Maps
variable {rs:List Rr} {W:World}
theorem y3E(so:Option Addr)(n cap:Nat)(rs:List Rr)(X:Option (Int ⊕ (Int×Int)))(w:World)
  (HC:Hid (∀W:World,Below w.heap.size w W->Calls prog 26 #[.agg #[.slice so n cap]] W (SbP rs X W))):
  Calls prog 11 #[.agg #[.slice so n cap]] w fun e w'=>∃v,e=.returned v/\Qm (soZ rs X) w.heap.size w' v/\Below w.heap.size w w':=by
 obtain⟨W1,hW1⟩:∃W1,W1=w.alloc (.cells #[.slice so n cap] 24):=⟨_,rfl⟩;have hB1:Below w.heap.size w W1:=by rw[hW1];exact(Below.refl _ w).alloc L0q _
 have HS:Hid (Calls prog 26 #[.agg #[.slice so n cap]] W1 fun e w'=>∃a v,e=.returned (.tuple #[a,v])/\Qm (soZ rs X) W1.heap.size w' v/\Below W1.heap.size W1 w'):=(HC.out W1 hB1).mono fun e w' he=>by
  obtain⟨hb,⟨_,v,h1,h2⟩|⟨h0,_,ub,vs,h1,_⟩⟩:=he
  ·exact⟨_,v,h1,h2,hb⟩
  ·exact⟨_,_,h1,by rw[h0];rfl,hb⟩
 have HB1:=hid hB1;have HW1:=hid hW1;clear hW1 hB1 HC;go_enter func11,ntmps11
 go_wp2_with fail
 rw[<-HW1.out];refine HS.out.mono ?_;rintro e w2 ⟨a,v,rfl,hv,hb2⟩;have HV:=hid (hv.lo HB1.out.size);have HB2:=hid (HB1.out.trans (hb2.mono HB1.out.size));clear hv hb2 HS HW1 HB1
 go_wp2_with fail
 go_ret;exact⟨_,rfl,HV.out,HB2.out⟩
theorem Dm(so:Option Addr)(n cap:Nat)(rs:List Rr)(X:Option (Int ⊕ (Int×Int)))(B:Nat)(fp:Addr)(w:World)(hX:CkX rs X)(hP:X=none->PrG rs)(hC:CkC so n cap rs X w)(hz:RgZ rs)(h:Qv w B so n rs)(hB:B<=w.heap.size)(hT:TabIs w)(hF:w.cell? ⟨1,0,none⟩=some (.iface 281 (.pointer (some fp)))):∀W:World,Below w.heap.size w W->Calls prog 11 #[.agg #[.slice so n cap]] W fun e w'=>∃v,e=.returned v/\Qm (soZ rs X) W.heap.size w' v/\Below W.heap.size W w':=fun W hW=>
 y3E so n cap rs X W (hid fun W' hW'=>z5B so n cap rs X B fp w hX hP hC hz h hB hT hF W' (hW.trans (hW'.mono hW.size)))
def BgP(rs:List Rr)(X:Option (Int ⊕ (Int×Int)))(W:World)(e:Ending)(w':World):Prop:=Below W.heap.size W w'/\
 ((X≠none/\∃v,e=.returned (.tuple #[.slice none 0 0,v])/\Qm X W.heap.size w' v)∨
  (X=none/\∃ub vs,e=.returned (.tuple #[.slice (some ⟨ub,0,none⟩) rs.length rs.length,.nilIface])/\vs.length=rs.length/\Uw W ub rs.length vs (bgU rs) w'))
theorem y3F(so:Option Addr)(n cap:Nat)(X:Option (Int ⊕ (Int×Int)))(w:World)
  (HC:Hid (∀W:World,Below w.heap.size w W->Calls prog 27 #[.agg #[.slice so n cap]] W fun e w'=>∃tt uu,e=.returned (.tuple #[.agg #[.slice none 0 0],.iface tt uu])/\Qm X W.heap.size w' (.iface tt uu)/\Below W.heap.size W w')):
  Calls prog 12 #[.agg #[.slice so n cap]] w fun e w'=>∃v,e=.returned (.tuple #[.slice none 0 0,v])/\Qm X w.heap.size w' v/\Below w.heap.size w w':=by
 obtain⟨W1,hW1⟩:∃W1,W1=w.alloc (.cells #[.slice so n cap] 24):=⟨_,rfl⟩;have hB1:Below w.heap.size w W1:=by rw[hW1];exact(Below.refl _ w).alloc L0q _
 have HS:=hid (HC.out W1 hB1);have HB1:=hid hB1;have HW1:=hid hW1;clear hW1 hB1 HC;go_enter func12,ntmps12
 go_wp2_with fail
 rw[<-HW1.out];refine HS.out.mono ?_;rintro e w2 ⟨tt,uu,rfl,hv,hb2⟩;have HV:=hid (hv.lo HB1.out.size);have HB2:=hid (HB1.out.trans (hb2.mono HB1.out.size));clear hv hb2 HS HW1 HB1
 go_wp2_with fail
 go_ret2
 have hb3:=(Below.refl _ w2).alloc L0q (.cells #[.slice none 0 0] 24);exact⟨_,rfl,Qm.to HV.out hb3,HB2.out.trans (hb3.mono HB2.out.size)⟩
theorem y3G(so:Option Addr)(n cap:Nat)(rs:List Rr)(w:World)(HNl:Hid (n=rs.length))
  (HC:Hid (∀W:World,Below w.heap.size w W->Calls prog 27 #[.agg #[.slice so n cap]] W (BfP rs none W)))
  (HAb:Hid (∀(W:World) (so0:Option Addr) (cap0:Nat),Below w.heap.size w W->Qv W W.heap.size so0 n (bG rs (kG rs))->Calls prog 28 #[.agg #[.slice so n cap],.agg #[.slice so0 n cap0]] W fun e w'=>∃ub vs,e=.returned (.slice (some ⟨ub,0,none⟩) n n)/\vs.length=n/\Uw W ub n vs (bgU rs) w')):
  Calls prog 12 #[.agg #[.slice so n cap]] w (BgP rs none w):=by
 obtain⟨W1,hW1⟩:∃W1,W1=w.alloc (.cells #[.slice so n cap] 24):=⟨_,rfl⟩;have hB1:Below w.heap.size w W1:=by rw[hW1];exact(Below.refl _ w).alloc L0q _
 have HG1:Hid (W1.heap[w.heap.size]? =some (.cells #[.slice so n cap] 24)):=by rw[hW1];exact Qx w _ rfl
 have HS:=hid (HC.out W1 hB1);have HB1:=hid hB1;have HW1:=hid hW1;clear hW1 hB1 HC;go_enter func12,ntmps12
 go_wp2_with fail
 rw[<-HW1.out];refine HS.out.mono ?_;rintro e w2 ⟨hb2,hre⟩;rcases hre with⟨hx,_⟩|⟨_,so0,cap0,m,rfl,hfx,hrg⟩
 ·exact absurd rfl hx
 rw[<-HNl.out];rw[Ny hfx,<-HNl.out]at hrg;have HB2:=hid (HB1.out.trans (hb2.mono HB1.out.size));have HG2:=hid ((hb2.block _ (Qq HG1.out)).trans HG1.out);obtain⟨W3,hW3⟩:∃W3,W3=w2.alloc (.cells #[.slice so0 n cap0] 24):=⟨_,rfl⟩;have hb3:Below w2.heap.size w2 W3:=by rw[hW3];exact(Below.refl _ w2).alloc L0q _
 have HB3:=hid (HB2.out.trans (hb3.mono HB2.out.size));have hrg3:=(hrg.below hb3).upto hb3.size;have HAb3:=hid (HAb.out W3 so0 cap0 HB3.out hrg3);obtain⟨g2,_⟩:=Qk HG2.out;have lg2:=Qq HG2.out;have lg3:w.heap.size<w2.heap.size+1:=by omega
 have HW3:=hid hW3;clear HS HW1 HG1 HB1 hb2 hfx hrg hb3 hrg3 hW3 HAb
 go_wp2_with fail
 rw[<-HW3.out];refine HAb3.out.mono ?_;clear HAb3 HW3 g2 lg2 lg3;rintro e w4 ⟨ub,vs,rfl,hvs,hU⟩;have HVs:Hid (vs.length=n):=hvs;have HUw:=hid (hU.from HB3.out);clear hvs hU
 go_wp2_with fail
 go_ret2
 refine⟨HUw.out.be,.inr ⟨rfl,ub,vs,by rw[<-HNl.out];rfl,by rw[<-HNl.out];exact HVs.out,?_⟩⟩;rw[<-HNl.out];exact HUw.out
theorem z0h(so:Option Addr)(n cap:Nat)(rs:List Rr)(X:Option (Int ⊕ (Int×Int)))(B:Nat)(w:World)(hX:CkX rs X)(hP:X=none->PrG rs)(hC:CkC so n cap rs X w)(hz:RgZ rs)(h:Qv w B so n rs)(hB:B<=w.heap.size)(hT:TabIs w):∀W:World,Below w.heap.size w W->Calls prog 12 #[.agg #[.slice so n cap]] W (BgP rs X W):=fun W hW=>by
 have hup:∀{W'},Below W.heap.size W W'->Below w.heap.size w W':=fun hW'=>hW.trans (hW'.mono hW.size)
 have hOf:=fun(W':World) (hW':Below W.heap.size W W')=>z5k so n cap rs X B w hX hC hz h hB W' (hup hW')
 cases X with
 |some x=>
  refine(y3F so n cap (some x) W (hid fun W' hW'=>(hOf W' hW').mono fun e w' he=> ?_)).mono fun e w' he=> ?_
  ·obtain⟨hb,⟨_,v,h1,h2⟩|⟨h0,_⟩⟩:=he
   ·obtain⟨tt,uu,rfl⟩:=h2.shape (by simp)
    exact⟨tt,uu,h1,h2,hb⟩
   ·cases h0
  ·obtain⟨v,h1,h2,h3⟩:=he
   exact⟨h3,.inl ⟨by simp,v,h1,h2⟩⟩
 |none=>
  have hlen:=(Xd hX.1).2;have hpr:=hP rfl;have hn:n<=1048576:=by have:=h.1;omega
  refine y3G so n cap rs W h.1 (hid hOf) (hid fun W' so0 cap0 hW' hg=> ?_);exact z5v so n cap so0 n cap0 rs (kG rs) W' ((h.below ((hup hW').mono hB)).upto (Nat.le_trans hB (hup hW').size)) hn hg hX.1 hX.2.1 hz hpr (hT.below (hup hW') hT.lt) hX.2.2
def RkP(rs:List Rr)(X:Option (Int ⊕ (Int×Int)))(W:World)(e:Ending)(w':World):Prop:=Below W.heap.size W w'/\
 ((soZ rs X≠none/\∃v,e=.returned (.tuple #[.slice none 0 0,v])/\Qm (soZ rs X) W.heap.size w' v)∨
  (soZ rs X=none/\X=none/\∃v,e=.returned (.tuple #[v,.nilIface])/\w'.ownsRow W.heap.size 3 1 v rs.length ((List.range rs.length).map fun i=>.int .i64 ((rkP (bgU rs) i:Nat):Int))))
theorem z5K{X:Option (Int ⊕ (Int×Int))}(h:soZ rs X=none):Acy (bgU rs):=by
 have h1:lfG rs=none:=by
  unfold soZ at h;cases X with
  |some x=>simp at h
  |none=>
   simp only at h;cases e:flX (kG rs) rs with
   |some x=>rw[e]at h;simp at h
   |none=>rw[e]at h;simpa using h
 intro i j hj hr;by_cases hi:i<rs.length
 ·exact z5A h1 i hi ⟨j,hj,hr⟩
 ·rw[List.getD_eq_getElem?_getD,List.getElem?_eq_none (by rw[Uz];omega)]at hj
  simp at hj
theorem y3H(so:Option Addr)(n cap:Nat)(rs:List Rr)(X:Option (Int ⊕ (Int×Int)))(w:World)(HXx:Hid (CkX rs X))
  (HC:Hid (∀W:World,Below w.heap.size w W->Calls prog 26 #[.agg #[.slice so n cap]] W (SbP rs X W))):
  Calls prog 13 #[.agg #[.slice so n cap]] w (RkP rs X w):=by
 obtain⟨W1,hW1⟩:∃W1,W1=w.alloc (.cells #[.slice so n cap] 24):=⟨_,rfl⟩;have hB1:Below w.heap.size w W1:=by rw[hW1];exact(Below.refl _ w).alloc L0q _
 have HS:=hid (HC.out W1 hB1);have HB1:=hid hB1;have HW1:=hid hW1;clear hW1 hB1 HC;go_enter func13,ntmps13
 go_wp2_with fail
 rw[<-HW1.out];refine HS.out.mono ?_;rintro e w2 ⟨hb2,hre⟩;have HB2:=hid (HB1.out.trans (hb2.mono HB1.out.size));rcases hre with⟨h0,v,rfl,hv⟩|⟨h0,hx,ub,vs,rfl,hvs,hU⟩
 ·have HV:=hid (hv.lo HB1.out.size)
  have H0:=hid h0;obtain⟨tt,uu,rfl⟩:=hv.shape h0;clear hv hb2 HS HW1 HB1 h0
  go_wp2_with fail
  go_ret2
  exact⟨HB2.out,.inl ⟨H0.out,_,rfl,HV.out⟩⟩
 ·subst hx
  have hok:=HXx.out.1;have hck:=HXx.out.2.1;have hlen:=(Xd hok).2;have HRk:=hid (y3D (.slice (some ⟨ub,0,none⟩) rs.length rs.length) (bgU rs) rs.length w2 (Wq hU hvs (Al hok HXx.out.2.2) (by omega)) (Uz rs) (Nf hok hck) (z5K h0) (by omega));have H0:=hid h0;obtain⟨q,hq⟩:∃q,q=rs.length:=⟨_,rfl⟩;rw[<-hq]at HRk ⊢;have HQ:Hid (q=rs.length):=hq;have HSz:=hid HB2.out.size;clear hb2 HS HW1 HB1 h0 hU hvs hok hck hlen hq
  go_wp2_with fail
  refine HRk.out.mono ?_;clear HRk;rintro e w3 ⟨v,rfl,hr,hb3⟩;obtain⟨so3,sc3,rfl⟩:=Jp hr;have HR:=hid (Az hr HSz.out);have HB3:=hid (HB2.out.trans (hb3.mono HB2.out.size));clear hr hb3
  go_wp2_with fail
  go_ret2
  refine⟨HB3.out,.inr ⟨H0.out,rfl,_,rfl,?_⟩⟩;rw[<-HQ.out];exact HR.out
theorem y3I(so:Option Addr)(n cap:Nat)(rs:List Rr)(X:Option (Int ⊕ (Int×Int)))(B:Nat)(fp:Addr)(w:World)(hX:CkX rs X)(hP:X=none->PrG rs)(hC:CkC so n cap rs X w)(hz:RgZ rs)(h:Qv w B so n rs)(hB:B<=w.heap.size)(hT:TabIs w)(hF:w.cell? ⟨1,0,none⟩=some (.iface 281 (.pointer (some fp)))):∀W:World,Below w.heap.size w W->Calls prog 13 #[.agg #[.slice so n cap]] W (RkP rs X W):=fun W hW=>
 y3H so n cap rs X W (hid hX) (hid fun W' hW'=>z5B so n cap rs X B fp w hX hP hC hz h hB hT hF W' (hW.trans (hW'.mono hW.size)))
@[reducible] def sm1:ByteArray:={data:=#[97,32,60,45,32,98,63,32,97,32,47,32,39,120,39,32,98,32,60,45,32,39,121,39]}
@[reducible] def sm2:ByteArray:={data:=#[97,32,60,45,32,40,39,120,39,63,41,42]}
def z5L(x:Nat):Bool:=match Yx sm1 with
 | .inr rs=>decide (sz (pR qT cT rs)<=8192)&&(decide (dR rs<=24)&&(decide (ckR (toG rs)=none)&&((toG rs).all (fun x=>decide (ofT (itr (toG rs) 4) x.2.1=itr (toG rs) 4 x.1))&&(decide (flG (itr (toG rs) 4) (toG rs)=none)&&(decide ((toG rs).map (fun x=>(fbT (itr (toG rs) 4) x.2.1).map fun s=>fdI s (nmL (toG rs)))=[[1,0],[]])&&decide (((toG rs).map (fun x=>x.2.2)).head?=some 0))))))
 | .inl _=>false
def z5M(x:Nat):Bool:=match Yx sm2 with
 | .inr rs=>decide (sz (pR qT cT rs)<=8192)&&(decide (dR rs<=24)&&(decide (ckR (toG rs)=none)&&((toG rs).all (fun x=>decide (ofT (itr (toG rs) 4) x.2.1=itr (toG rs) 4 x.1))&&decide (flG (itr (toG rs) 4) (toG rs)=some 6))))
 | .inl _=>false
theorem y3J:∀x,x<1->z5L x=true:=by decide+kernel
theorem y3K:∀x,x<1->z5M x=true:=by decide+kernel
theorem y3L:∃rs,Yx sm1=.inr rs/\sz (pR qT cT rs)<=8192/\dR rs<=24/\ckR (toG rs)=none/\soZ (toG rs) none=some (.inr (41,0)):=by
 have h:=y3J 0 (by decide);unfold z5L at h;cases hp:Yx sm1 with
 |inl c=>rw[hp]at h;cases h
 |inr rs=>
  rw[hp]at h;simp only[Bool.and_eq_true,decide_eq_true_eq]at h;obtain⟨h1,h2,h3,h4,h5,h6,h7⟩:=h;have hf:Xb (itr (toG rs) 4) (toG rs):=fun x hx=>by simpa using List.all_eq_true.1 h4 x hx
  refine⟨rs,rfl,h1,h2,h3,?_⟩;rw[Ny hf]at h5 h6;have hn:0<(toG rs).length:=by
   cases e:toG rs with
   |nil=>rw[e]at h7;simp at h7
   |cons a r=>simp
  have hm:(0:Int)∈(bgU (toG rs)).getD 0 []:=by
   unfold bgU;rw[List.getD_eq_getElem?_getD,List.getElem?_map,List.getElem?_eq_getElem hn];show(0:Int)∈bgR (toG rs) (kG (toG rs)) (toG rs)[0];have h8:((toG rs).map (fun x=>(fbT (kG (toG rs)) x.2.1).map fun s=>fdI s (nmL (toG rs))))[0]? =some [1,0]:=by rw[h6];rfl
   rw[List.getElem?_map,List.getElem?_eq_getElem hn]at h8;have h9:(fbT (kG (toG rs)) (toG rs)[0].2.1).map (fun s=>fdI s (nmL (toG rs)))=[1,0]:=Option.some.inj h8;have h10:(0:Int)∈(fbT (kG (toG rs)) (toG rs)[0].2.1).map (fun s=>fdI s (nmL (toG rs))):=by rw[h9];simp
   obtain⟨s,hs,e⟩:=List.mem_map.1 h10;exact Ap.2 ⟨s,hs,e⟩
  have hb:Bck (bgU (toG rs)) 0:=⟨0,hm,.refl⟩;have hl:=z5z hn hb (fun i hi=>by omega);have h0:(toG rs)[0].2.2=0:=by
   rw[List.head?_eq_getElem?,List.getElem?_map,List.getElem?_eq_getElem hn]at h7;exact Option.some.inj h7
  unfold soZ flX;simp only;rw[h5];simp only[Option.map_none];rw[hl,h0];rfl
theorem y3M:∃rs,Yx sm2=.inr rs/\sz (pR qT cT rs)<=8192/\dR rs<=24/\ckR (toG rs)=none/\soZ (toG rs) none=some (.inr (40,6)):=by
 have h:=y3K 0 (by decide);unfold z5M at h;cases hp:Yx sm2 with
 |inl c=>rw[hp]at h;cases h
 |inr rs=>
  rw[hp]at h;simp only[Bool.and_eq_true,decide_eq_true_eq]at h;obtain⟨h1,h2,h3,h4,h5⟩:=h;have hf:Xb (itr (toG rs) 4) (toG rs):=fun x hx=>by simpa using List.all_eq_true.1 h4 x hx
  refine⟨rs,rfl,h1,h2,h3,?_⟩;rw[Ny hf]at h5;unfold soZ flX;simp only;rw[h5];rfl
theorem y3N{S:ByteArray}{rs:List Rl}(hp:Yx S=.inr rs)(h1:sz (pR qT cT rs)<=8192)(h2:dR rs<=24):PrG (toG rs):=by
 have hx:∀x∈rs,Ruk Nmq x:=fun x hx=>(Sq hp x hx).1
 have hl:=Tb hp;exact⟨Td (Gf rs) hx hl.2 hl.1,rs,Gf rs,hx,h1,h2⟩
theorem z5N{S:ByteArray}{rs:List Rl}{Z:Option (Int ⊕ (Int×Int))}(hS:S.size<=8192)(hp:Yx S=.inr rs)(h1:sz (pR qT cT rs)<=8192)(h2:dR rs<=24)(hck:ckR (toG rs)=none)(hZ:soZ (toG rs) none=Z)(B g n cap:Nat)(fp:Addr)(W:World)(hr:RoR B (.slice (some ⟨g,0,none⟩) n cap) rs W)(hT:TabIs W)(hF:W.cell? ⟨1,0,none⟩=some (.iface 281 (.pointer (some fp)))):
  Calls prog 11 #[.agg #[.slice (some ⟨g,0,none⟩) n cap]] W fun e w'=>∃v,e=.returned v/\Qm Z W.heap.size w' v/\Below W.heap.size W w':=by
 obtain⟨hi,hz,hX,hC⟩:=y0U hS hp h1 h2 B g n cap W hr hT;have e:xOf (toG rs)=none:=by unfold xOf;rw[hck];rfl
 rw[e]at hX hC;have:=Dm _ n cap (toG rs) none W.heap.size fp W hX (fun _=>y3N hp h1 h2) hC hz hi L0q hT hF W B0q;rw[hZ]at this;exact this
theorem Bz(fp:Addr)(w:World)(h:Zj w)(hT:TabIs w)(hF:w.cell? ⟨1,0,none⟩=some (.iface 281 (.pointer (some fp)))):Calls prog 9 #[] w fun e w'=>e=.returned (.bool true)/\Hid (Below w.heap.size w w'):=by
 obtain⟨rs,hp,hs1,hs2,hck,hz⟩:=y3L;obtain⟨qs,kp,ks1,ks2,kck,kz⟩:=y3M;have hfl:1<w.heap.size:=World.block_lt_of_cell? w _ hF;have HPA:=hid (z1I sm1 w h (by decide));rw[hp]at HPA;have HR:=hid (fun(B g n cap:Nat) (W:World) (hr:RoR B (.slice (some ⟨g,0,none⟩) n cap) rs W) (hb:Below w.heap.size w W)=>z5N (by decide) hp hs1 hs2 hck hz B g n cap fp W hr (hT.below hb hT.lt) ((hb.cell (p:=⟨1,0,none⟩) hfl).trans hF));have HPH:=hid (fun(W:World) (hb:Below w.heap.size w W)=>z1I sm2 W (h.below hb h.lt) (by decide));rw[kp]at HPH;have HK:=hid (fun(B g n cap:Nat) (W:World) (hr:RoR B (.slice (some ⟨g,0,none⟩) n cap) qs W) (hb:Below w.heap.size w W)=>z5N (by decide) kp ks1 ks2 kck kz B g n cap fp W hr (hT.below hb hT.lt) ((hb.cell (p:=⟨1,0,none⟩) hfl).trans hF));have HE:=hid h;obtain⟨n,hn⟩:∃n,n=rs.length:=⟨_,rfl⟩;obtain⟨m,hm⟩:∃m,m=qs.length:=⟨_,rfl⟩;unfold Jm at HPA HPH;simp only at HPA HPH;rw[<-hn]at HPA;rw[<-hm]at HPH;clear h hT hF hfl hp hs1 hs2 hck hz kp ks1 ks2 kck kz hn hm;go_enter func9,ntmps9
 go_wp2_with fail
 refine HPA.out.mono ?_;rintro e w1 ⟨g,cap,rfl,HRo,HB⟩;obtain⟨u1,hu1⟩:∃u1,u1=w1.alloc (.cells #[.slice (some ⟨g,0,none⟩) n cap] 24):=⟨_,rfl⟩;have hb11:Below w1.heap.size w1 u1:=by rw[hu1];exact(Below.refl _ w1).alloc L0q _
 have HBu:=hid (HB.out.trans (hb11.mono HB.out.size));have HCk:=hid (HR.out _ g n cap u1 (HRo.out.below hb11) HBu.out);clear HPA HRo HR hb11
 go_wp2_with fail
 rw[<-hu1];refine HCk.out.mono ?_;rintro e w2 ⟨v2,rfl,⟨g2,rfl,hg2,hb2⟩,hb12⟩;have HB2:=hid (HBu.out.trans (hb12.mono HBu.out.size));have HF2:=hid hb2;have HP2:=hid (HPH.out w2 HB2.out);clear HCk hb12 hb2 hg2 HPH hu1 HB HBu
 go_wp2_with fail
 refine HP2.out.mono ?_;rintro e w3 ⟨g3,cap3,rfl,HRo3,HB3⟩;obtain⟨u3,hu3⟩:∃u3,u3=w3.alloc (.cells #[.slice (some ⟨g3,0,none⟩) m cap3] 24):=⟨_,rfl⟩;have hb33:Below w3.heap.size w3 u3:=by rw[hu3];exact(Below.refl _ w3).alloc L0q _
 have HB3u:=hid (HB3.out.trans (hb33.mono HB3.out.size));have HB23:=hid (HB2.out.trans (HB3u.out.mono HB2.out.size));have HCk:=hid (HK.out _ g3 m cap3 u3 (HRo3.out.below hb33) HB23.out);have HF3:=hid ((HB3u.out.block _ (Qq HF2.out)).trans HF2.out);clear HP2 HRo3 HK HF2 hb33 HB3 HB3u
 go_wp2_with fail
 rw[<-hu3];clear hu3;refine HCk.out.mono ?_;rintro e w4 ⟨v4,rfl,⟨g4,rfl,hg4,hb4⟩,hb34⟩;have HB4:=hid (HB23.out.trans (hb34.mono HB23.out.size));have hf4:=(hb34.block _ (Qq HF3.out)).trans HF3.out;have HCo:=hid (fun(W:World) (hb:Below w4.heap.size w4 W)=>Oj g2 41 0 W (HE.out.below (HB4.out.trans (hb.mono HB4.out.size)) HE.out.lt) ((hb.block g2 (Qq hf4)).trans hf4));have HAt:=hid (fun(W:World) (hb:Below w4.heap.size w4 W)=>Ok g2 41 0 W (HE.out.below (HB4.out.trans (hb.mono HB4.out.size)) HE.out.lt) ((hb.block g2 (Qq hf4)).trans hf4));have HCo2:=hid (fun(W:World) (hb:Below w4.heap.size w4 W)=>Oj g4 40 6 W (HE.out.below (HB4.out.trans (hb.mono HB4.out.size)) HE.out.lt) ((hb.block g4 (Qq hb4)).trans hb4));have HAt2:=hid (fun(W:World) (hb:Below w4.heap.size w4 W)=>Ok g4 40 6 W (HE.out.below (HB4.out.trans (hb.mono HB4.out.size)) HE.out.lt) ((hb.block g4 (Qq hb4)).trans hb4));have HB0:Hid (Below w4.heap.size w4 w4):=Below.refl _ _;clear HCk HF3 hf4 hb34 hb4 hg4
 go_wp2_with(first
  |(go_at_call 17;refine(HCo.out _ HB0.out).mono ?_;clear HCo;rintro e w5 ⟨rfl,hb5⟩;have HB5:=hid (HB0.out.trans hb5))
  |(go_at_call 18;refine(HAt.out _ HB5.out).mono ?_;clear HAt;rintro e w6 ⟨rfl,hb6⟩;have HB6:=hid (HB5.out.trans (hb6.mono HB5.out.size)))
  |(go_at_call 17;refine(HCo2.out _ HB6.out).mono ?_;clear HCo2;rintro e w7 ⟨rfl,hb7⟩;have HB7:=hid (HB6.out.trans (hb7.mono HB6.out.size)))
  |(go_at_call 18;refine(HAt2.out _ HB7.out).mono ?_;clear HAt2;rintro e w8 ⟨rfl,hb8⟩;have HB8:=hid (HB7.out.trans (hb8.mono HB7.out.size))))
 go_ret;exact⟨rfl,hid (HB4.out.trans (HB8.out.mono HB4.out.size))⟩
theorem y3O(v:List Int)(j:Nat)(hj:j<v.length)(y:Int):decide (y∈v.take (j+1))=(decide (y∈v.take j)||v[j] == y):=by
 rw[List.take_succ_eq_append_getElem hj];simp only[List.mem_append,List.mem_singleton,Bool.decide_or];congr 1;rw[Bool.eq_iff_iff,decide_eq_true_iff,beq_iff_eq];exact eq_comm
theorem Iy{w:World}{ub n:Nat}{vs:List Value}{us:List (List Int)}(h:Uw w ub n vs us W)(hl:∀u∈us,u.length<=1048576)(i:Nat)(hi:i<us.length):∃so cap,W.cell? ⟨ub,i,none⟩=some (.slice so us[i].length cap)/\ub<W.heap.size/\us[i].length<=1048576/\∀j (hj:j<us[i].length),∃g o,so=some ⟨g,o,none⟩/\g<W.heap.size/\W.cell? ⟨g,o+j,none⟩=some (.int .i64 us[i][j]):=by
 have hv:i<vs.length:=by rw[h.len];exact hi
 obtain⟨so,cap,e,h1,h2⟩:=Wz (h.row i hv hi) (hl _ (List.getElem_mem hi));refine⟨so,cap,?_,Qq h.blk,h1,h2⟩;rw[<-e];refine(Zx h.blk i _ ?_).1;rw[List.getElem?_toArray,List.getElem?_append_left hv,List.getElem?_eq_getElem hv]
theorem y3P(hl:∀x∈rs,(rfT x.2.1).length<=8192):∀u∈rs.map (usR (nmL rs)),u.length<=1048576:=fun u hu=>by
 obtain⟨y,hy,rfl⟩:=List.mem_map.1 hu;exact Nat.le_trans z3T (Nat.le_trans (hl y hy) (by omega))
def cdZ(Z:Option (Int ⊕ (Int×Int))):Int:=match Z with
 |none=>0
 |some (.inl c)=>c
 |some (.inr q)=>q.1
theorem If(Z:Option (Int ⊕ (Int×Int)))(S:Nat)(v:Value)(w:World)(h:Zj w)(hv:Qm Z S w v):Calls prog 17 #[v] w fun e w'=>e=.returned (.int .i64 (cdZ Z))/\Below w.heap.size w w':=by
 match Z,hv with
 |none,hv=>
  obtain rfl:v=.nilIface:=hv;exact(z7l w).mono fun e w' he=>⟨he.1,by rw[he.2];exact Below.refl _ _⟩
 |some (.inl c),hv=>
  obtain rfl:v=_:=hv;exact y0T c w h
 |some (.inr q),⟨g,hg,_,hb⟩=>
  subst hg;exact Oj g q.1 q.2 w h hb
theorem y3Q{w:World}{base n:Nat}{v:Value}{f:Nat->Int}(h:w.ownsRow base 3 1 v n ((List.range n).map fun i=>.int .i64 (f i)))(hn:0<n):∃g cap,v=.slice (some ⟨g,0,none⟩) n cap/\g<w.heap.size/\∀i,i<n->w.cell? ⟨g,i,none⟩=some (.int .i64 (f i)):=by
 obtain⟨_,⟨_,h0⟩|⟨g,cap,cur,rfl,_,hg,_,_,_,ht⟩⟩:=h
 ·omega
 ·refine⟨g,cap,rfl,Qq hg,fun i hi=>(Zx hg i _ ?_).1⟩
  have e:(cur.toList.take (n*1))[i]? =some (.int .i64 (f i)):=by rw[ht,List.getElem?_map,List.getElem?_range hi];rfl
  rw[List.getElem?_take_of_lt (by omega),Array.getElem?_toList]at e;exact e
theorem z5O(K:ByteArray->Ot):∀rs:List Rr,lck K rs<=3*rs.length
 |[]=>Nat.le_refl _
 |x::r=>by
  have:=z5O K r;rw[lck,List.length_cons];omega
theorem z0i{rs:List Rr}(hu:∀x∈rs,∀y∈rs,y.1=x.1->y=x){K0:ByteArray->Ot}:∀(r l:List Rr) (K:ByteArray->Ot) (b:Bool) (n:Nat),Rnd rs K0 K l b n->(∀x∈r,x∈rs)->∃K' b' n',Rnd rs K0 K' (l++r) b' n'
 |[],l,K,b,n,h,_=>⟨K,b,n,by rw[List.append_nil];exact h⟩
 |x::r,l,K,b,n,h,hr=>by
  have hx:=hr x (by simp);have e:l++x::r=(l++[x])++r:=by simp
  rw[e];by_cases hs:ofT K x.2.1=K x.1
  ·exact z0i hu r _ K b n (h.same hs) (fun y hy=>hr y (by simp[hy]))
  ·exact z0i hu r _ _ true (n+1) (h.new hx (fun y hy=>hu x hx y hy) hs) (fun y hy=>hr y (by simp[hy]))
theorem z5P(hck:ckR rs=none):∃m,Xb (itr rs m) rs:=by
 have key:∀(k m:Nat),Dd (itr rs m) rs->lck (itr rs m) rs<=k->∃m',Xb (itr rs m') rs:=by
  intro k
  induction k using Nat.strongRecOn with
  |_ k ih=>
   intro m hi hl;obtain⟨K',b,n,hR⟩:=z0i (z4G hck) rs.reverse [] _ false 0 (Rnd.start hi (by have:=z5O (itr rs m) rs;omega)) (fun x hx=>List.mem_reverse.1 hx);rw[List.nil_append]at hR;cases b with
   |false=>exact⟨m,hR.fix.2⟩
   |true=>
    have h1:=hR.yes rfl;have h2:=hR.inv;rw[hR.last]at h1 h2;exact ih (lck (itr rs (m+1)) rs) (Nat.lt_of_lt_of_le h1 hl) (m+1) h2 L0q
 exact key _ 0 (z4z rs) L0q
theorem Ig{i:Nat}(hi:i<rs.length):(bgU rs).getD i []=bgR rs (kG rs) rs[i]:=by
 unfold bgU;rw[List.getD_eq_getElem?_getD,List.getElem?_map,List.getElem?_eq_getElem hi];rfl
theorem z5Q{i:Nat}{x:Int}(h:x∈(bgU rs).getD i []):i<rs.length:=by
 rcases Nat.lt_or_ge i rs.length with h1|h1
 ·exact h1
 ·rw[List.getD_eq_getElem?_getD,List.getElem?_eq_none (by rw[Uz];exact h1)]at h
  simp at h
open Go.ChangeShapes Go.WideShapes
theorem Tryz.own:ownKnob Tryz.prog.godebug=none:=by kernel_rfl
theorem Tryz.et:Tryz.prog.globalNamed "errors.errorType"=some 0:=by kernel_rfl
theorem Tryz.rt:(Tryz.prog.cutTypes.find? (·.1 == "internal/reflectlite.rtype")).map (·.2)=some 169:=by kernel_rfl
theorem Tryz.oneRow:((List.range 312).filter fun t=>Tryz.prog.rowNamed t [101,114,114,111,114])=[28]:=by kernel_rfl
theorem Tryz.nTypes:Tryz.prog.types.size=312:=by kernel_rfl
theorem y3R{l:List (String×DataW Unit)}(h:handlesMet prog l W)(hm:("errors.errorType",Rows.laid_errors_errorType)∈l):Zj W:=by
 obtain⟨name,u,ty,e1,e2,e3,e4,e5⟩:=h _ hm;have en:name=[101,114,114,111,114]:=(Option.some.inj e1).symm;subst en;obtain rfl:=Option.some.inj (Tryz.rt.symm.trans e2);have hm:ty∈(List.range 312).filter fun t=>Tryz.prog.rowNamed t [101,114,114,111,114]:=List.mem_filter.2 ⟨List.mem_range.2 (by rw[<-Tryz.nTypes];exact e3),e4⟩
 rw[Tryz.oneRow]at hm;obtain rfl:=List.mem_singleton.1 hm;have hh:typeHandle prog 28=.pointer (some ⟨4,28,none⟩):=by kernel_rfl
 rw[hh]at e5;have:=World.var?_cell Tryz.et e5 0;unfold Zj;simpa using this
theorem Tryz.laidOutW:laidOutB prog=true:=by kernel_rfl
theorem Tryz.gT:Tryz.prog.globalNamed "math/bits.deBruijn64tab"=some 3:=by kernel_rfl
theorem Tryz.gTType:(Tryz.prog.globals[3]?).map (·.type)=some 278:=by kernel_rfl
theorem Tryz.cellsTab:Tryz.prog.cellsOf 278=64:=by kernel_rfl
theorem Tryz.cellsU8:Tryz.prog.cellsOf 5=1:=by kernel_rfl
theorem y3S{rest:List (String×DataW Unit)}(h:laidMet prog (("math/bits.deBruijn64tab",Rows.laid_math_bits_deBruijn64tab)::rest) W):TabIs W:=by
 have hT:Lib.TabIs prog W "math/bits.deBruijn64tab" .u8 (Lib.deBruijn64tab.map fun n:Nat=>(n:Int)):=Lib.tabIs_of_head (rest:=rest) Tryz.gT Tryz.gTType Tryz.underlying278 Tryz.underlying5 Tryz.cellsU8 Tryz.cellsTab h;intro i hi;have:=hT.cell Tryz.gT i (by simp[Lib.deBruijn64tab];omega);rw[this];congr 2;simp only[List.getD,List.getElem?_map];cases Lib.deBruijn64tab[i]? <;>rfl
theorem Tryz.gFo:Tryz.prog.globalNamed "muntin/sound.errFound"=some 1:=by kernel_rfl
theorem Tryz.gFoType:(Tryz.prog.globals[1]?).map (·.type)=some 28:=by kernel_rfl
theorem Tryz.star8:"*"++"errors.errorString"="*errors.errorString":=by decide
theorem Tryz.rowErrStr(u:TypeId)(h:Tryz.prog.typeName? 3 u=some "*errors.errorString"):u=281:=
 typeName_ptr_named (nm:="errors.errorString") (by rw[Tryz.star8];kernel_rfl) (by kernel_rfl) (by decide) u (by rw[Tryz.star8];exact h)
theorem Tryz.cellsErrStr:Tryz.prog.cellsOf 300=1:=by kernel_rfl
theorem Tryz.cellsStr8:Tryz.prog.cellsOf 9=1:=by kernel_rfl
theorem Bq(h:laidMetH prog [("math/bits.deBruijn64tab",Rows.laid_math_bits_deBruijn64tab),("errors.errorType",Rows.laid_errors_errorType),("muntin/sound.errFound",Rows.laid_muntin_sound_errFound)] W):Zj W/\TabIs W/\∃fp:Addr,W.cell? ⟨1,0,none⟩=some (.iface 281 (.pointer (some fp))):=by
 have h':laidMet prog [("math/bits.deBruijn64tab",Rows.laid_math_bits_deBruijn64tab),("muntin/sound.errFound",Rows.laid_muntin_sound_errFound)] W/\handlesMet prog [("errors.errorType",Rows.laid_errors_errorType)] W:=h;refine⟨y3R h'.2 (List.mem_singleton.2 rfl),y3S (rest:=[("muntin/sound.errFound",Rows.laid_muntin_sound_errFound)]) h'.1,?_⟩;obtain⟨a,s,hv,_⟩:=laid_sentinel (nm:="*errors.errorString") (text:=[102,111,117,110,100]) (laidMet.tail h'.1) Tryz.gFo Tryz.gFoType Tryz.underlying28 Tryz.rowErrStr Tryz.underlying281 Tryz.underlying300 rfl rfl Tryz.underlying9 Tryz.cellsErrStr Tryz.cellsStr8;exact⟨a,by simpa using World.var?_cell Tryz.gFo hv 0⟩
theorem y5n:True:=trivial
end Go.Proofs.YthmgblmoobkliaaGreatDoor
