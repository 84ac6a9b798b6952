/- Lemmas for the last text. Conditions: those that each names. -/
import Derived.Test.YtlogolpcipiceaaGreatDoorVC13pToC13c
import Derived.Test.YtlogolpcipiceaaGreatDoorVC11aToC12a
import Derived.SizedLaws
import Derived.Test.YtlogolpcipiceaaGreatDoorVW4ToS9
import Derived.Test.YtlogolpcipiceaaGreatDoorVX10ToY2
import Derived.Test.YtlogolpcipiceaaGreatDoorRows
import Derived.ProofKit
import Derived.OpenShut
import Derived.Carry
import Derived.Test.YtlogolpcipiceaaGreatDoorCards
import Derived.Test.YtlogolpcipiceaaGreatDoorTie
import Derived.LaidMore
import Derived.LaidHandle
import Derived.Stop.Joined
import Derived.Lib.LaidTab
import Derived.Test.YtlogolpcipiceaaGreatDoorVX17ToQ1
import Derived.Stop.LaidErr
import Derived.LaidLaws
import Derived.Test.YtlogolpcipiceaaGreatDoorVC1ToO4
set_option linter.unusedVariables false
set_option maxRecDepth 100000
set_option maxHeartbeats 16000000
namespace Go.Proofs.YtlogolpcipiceaaGreatDoor
open Go.Proofs.Tryz
open Go.RowKit Go.Shelf Go.Maps
theorem y3S{W W':World}{a0 a1 a2 a3 a4 a5 a6 a7 a8 a9 a10 a11 a12 a13 a14 a15:Addr}{v0 v1 v2 v3 v4 v5 v6 v7 v8 v9 v10 v11 v12 v13 v14 v15:Value}(h:W.cell? a0=some v0/\W.cell? a1=some v1/\W.cell? a2=some v2/\W.cell? a3=some v3/\W.cell? a4=some v4/\W.cell? a5=some v5/\W.cell? a6=some v6/\W.cell? a7=some v7/\W.cell? a8=some v8/\W.cell? a9=some v9/\W.cell? a10=some v10/\W.cell? a11=some v11/\W.cell? a12=some v12/\W.cell? a13=some v13/\W.cell? a14=some v14/\W.cell? a15=some v15)(hb:Below W.heap.size W W'):W'.cell? a0=some v0/\W'.cell? a1=some v1/\W'.cell? a2=some v2/\W'.cell? a3=some v3/\W'.cell? a4=some v4/\W'.cell? a5=some v5/\W'.cell? a6=some v6/\W'.cell? a7=some v7/\W'.cell? a8=some v8/\W'.cell? a9=some v9/\W'.cell? a10=some v10/\W'.cell? a11=some v11/\W'.cell? a12=some v12/\W'.cell? a13=some v13/\W'.cell? a14=some v14/\W'.cell? a15=some v15:=by
 obtain⟨z0,z1,z2,z3,z4,z5,z6,z7,z8,z9,z10,z11,z12,z13,z14,z15⟩:=h;have e:∀{a:Addr} {u:Value},W.cell? a=some u->W'.cell? a=some u:=fun{a u} h=>(hb.cell (p:=a) (World.block_lt_of_cell? W _ h)).trans h
 exact⟨e z0,e z1,e z2,e z3,e z4,e z5,e z6,e z7,e z8,e z9,e z10,e z11,e z12,e z13,e z14,e z15⟩
theorem y3T(ox oy:Ox)(k:Int)(T:ByteArray)(a b c d:Int)(so:Option Addr)(n cap:Nat)(k2:Int)(T2:ByteArray)(a2 b2 c2 d2:Int)(so2:Option Addr)(n2 cap2:Nat)(g o e1 g2 o2 e2:Nat)(w:World)
  (HC:Hid (w.cell? ⟨g,o,none⟩=some (.int .i64 k)/\w.cell? ⟨g,o+1,none⟩=some (.string T)/\w.cell? ⟨g,o+2,none⟩=some (.int .u64 a)/\w.cell? ⟨g,o+3,none⟩=some (.int .u64 b)/\w.cell? ⟨g,o+4,none⟩=some (.int .u64 c)/\w.cell? ⟨g,o+5,none⟩=some (.int .u64 d)/\w.cell? ⟨g,o+6,none⟩=some (.slice so n cap)/\w.cell? ⟨g2,o2,none⟩=some (.int .i64 k2)/\w.cell? ⟨g2,o2+1,none⟩=some (.string T2)/\w.cell? ⟨g2,o2+2,none⟩=some (.int .u64 a2)/\w.cell? ⟨g2,o2+3,none⟩=some (.int .u64 b2)/\w.cell? ⟨g2,o2+4,none⟩=some (.int .u64 c2)/\w.cell? ⟨g2,o2+5,none⟩=some (.int .u64 d2)/\w.cell? ⟨g2,o2+6,none⟩=some (.slice so2 n2 cap2)))
  (HR:Hid (∀W:World,Below w.heap.size w W->Calls prog 36 #[.slice none 0 0,.slice none 0 0] W fun e w'=>e=.returned (.bool true)/\Below W.heap.size W w'))
  (HAl:Hid (∀W:World,Below w.heap.size w W->Calls prog 37 #[.agg #[.int .i64 k,.string T,.int .u64 a,.int .u64 b,.int .u64 c,.int .u64 d,.slice so n cap],.agg #[.int .i64 k2,.string T2,.int .u64 a2,.int .u64 b2,.int .u64 c2,.int .u64 d2,.slice so2 n2 cap2]] W (AlP ox oy W))):
  Calls prog 13 #[.agg #[.slice (some ⟨g,o,none⟩) 1 e1,.slice none 0 0,.slice none 0 0],.agg #[.slice (some ⟨g2,o2,none⟩) 1 e2,.slice none 0 0,.slice none 0 0]] w (AlP ox oy w):=by
 obtain⟨hB1,e0,e1'⟩:=Fz w (.cells #[.slice (some ⟨g,o,none⟩) 1 e1,.slice none 0 0,.slice none 0 0] 31) (.cells #[.slice (some ⟨g2,o2,none⟩) 1 e2,.slice none 0 0,.slice none 0 0] 31);obtain⟨W1,hW1⟩:∃W1,W1=(w.alloc (.cells #[.slice (some ⟨g,o,none⟩) 1 e1,.slice none 0 0,.slice none 0 0] 31)).alloc (.cells #[.slice (some ⟨g2,o2,none⟩) 1 e2,.slice none 0 0,.slice none 0 0] 31):=⟨_,rfl⟩;rw[<-hW1]at hB1 e0 e1';have HC1:=hid (HR.out W1 hB1);have HB1:=hid hB1;have E0:=hid e0;have E1:=hid e1';have HW1:=hid hW1;obtain⟨m0,m1,m2,_⟩:=Xz e0;obtain⟨r0,r1,r2,_⟩:=Xz e1';have l0:=Qz e0;have l1:=Qz e1';clear hB1 e0 e1' hW1 HR;go_enter func13,ntmps13
 go_wp2_with fail
 rw[<-HW1.out];clear HW1;refine HC1.out.mono ?_;rintro e w2 ⟨rfl,hb2⟩;have F0:=hid ((hb2.block _ l0).trans E0.out);have F1:=hid ((hb2.block _ l1).trans E1.out);have HB2:=hid (HB1.out.trans (hb2.mono HB1.out.size));clear m0 m1 m2 r0 r1 r2 l0 l1 hb2 HC1 E0 E1 HB1;obtain⟨m0,m1,m2,_⟩:=Xz F0.out;obtain⟨r0,r1,r2,_⟩:=Xz F1.out;have l0:=Qz F0.out;have l1:=Qz F1.out
 go_wp2_with fail
 clear m0 m1 m2 r0 r1 r2 l0 l1
 go_loopw [6] (fun i wr=>i=.int .i64 0/\wr=w2) (fun i _=>0)
 case atStart=>exact⟨rfl,rfl⟩
 case round=>
  obtain⟨rfl,hwr⟩:=hrel;subst hwr;obtain⟨m0,m1,m2,_⟩:=Xz F0.out;obtain⟨r0,r1,r2,_⟩:=Xz F1.out;have l0:=Qz F0.out;have l1:=Qz F1.out
  go_wp2_with fail
  clear m0 m1 m2 r0 r1 r2 l0 l1
  go_loopw [7] (fun i wv=>(i=.int .i64 0∨(i=.int .i64 1/\ox=oy))/\Hid (Below w.heap.size w wv)/\Hid (wv.heap[w.heap.size]? =some (.cells #[.slice (some ⟨g,o,none⟩) 1 e1,.slice none 0 0,.slice none 0 0] 31))/\Hid (wv.heap[w.heap.size+1]? =some (.cells #[.slice (some ⟨g2,o2,none⟩) 1 e2,.slice none 0 0,.slice none 0 0] 31))) (fun i _=>1-(intOf i).toNat)
  case atStart=>exact⟨Or.inl rfl,HB2,F0,F1⟩
  case round=>
   obtain⟨h01,HBr,G0,G1⟩:=hrel;clear F0 F1 HB2;obtain⟨m0,m1,m2,_⟩:=Xz G0.out;obtain⟨r0,r1,r2,_⟩:=Xz G1.out;have l0:=Qz G0.out;have l1:=Qz G1.out;rcases h01 with rfl|⟨rfl,hxy⟩
   ·have HS:Hid ((fun X:World=>X.cell? ⟨w.heap.size,0,none⟩=some (.slice (some ⟨g,o,none⟩) 1 e1)/\X.cell? ⟨w.heap.size+1,0,none⟩=some (.slice (some ⟨g2,o2,none⟩) 1 e2)/\X.cell? ⟨g,o,none⟩=some (.int .i64 k)/\X.cell? ⟨g,o+1,none⟩=some (.string T)/\X.cell? ⟨g,o+2,none⟩=some (.int .u64 a)/\X.cell? ⟨g,o+3,none⟩=some (.int .u64 b)/\X.cell? ⟨g,o+4,none⟩=some (.int .u64 c)/\X.cell? ⟨g,o+5,none⟩=some (.int .u64 d)/\X.cell? ⟨g,o+6,none⟩=some (.slice so n cap)/\X.cell? ⟨g2,o2,none⟩=some (.int .i64 k2)/\X.cell? ⟨g2,o2+1,none⟩=some (.string T2)/\X.cell? ⟨g2,o2+2,none⟩=some (.int .u64 a2)/\X.cell? ⟨g2,o2+3,none⟩=some (.int .u64 b2)/\X.cell? ⟨g2,o2+4,none⟩=some (.int .u64 c2)/\X.cell? ⟨g2,o2+5,none⟩=some (.int .u64 d2)/\X.cell? ⟨g2,o2+6,none⟩=some (.slice so2 n2 cap2)) wr.drew):=by
     obtain⟨z0,z1,z2,z3,z4,z5,z6,z7,z8,z9,z10,z11,z12,z13⟩:=HC.out;have e:∀{a:Addr} {u:Value},w.cell? a=some u->wr.cell? a=some u:=fun{a u} h=>(HBr.out.cell (p:=a) (World.block_lt_of_cell? w _ h)).trans h
     exact hid ⟨m0,r0,e z0,e z1,e z2,e z3,e z4,e z5,e z6,e z7,e z8,e z9,e z10,e z11,e z12,e z13⟩
    clear HC
    go_wp2_with fail
    clear m0 m1 m2 r0 r1 r2 l0 l1;refine Zl 99 (fun X:World=>X.cell? ⟨w.heap.size,0,none⟩=some (.slice (some ⟨g,o,none⟩) 1 e1)/\X.cell? ⟨w.heap.size+1,0,none⟩=some (.slice (some ⟨g2,o2,none⟩) 1 e2)/\X.cell? ⟨g,o,none⟩=some (.int .i64 k)/\X.cell? ⟨g,o+1,none⟩=some (.string T)/\X.cell? ⟨g,o+2,none⟩=some (.int .u64 a)/\X.cell? ⟨g,o+3,none⟩=some (.int .u64 b)/\X.cell? ⟨g,o+4,none⟩=some (.int .u64 c)/\X.cell? ⟨g,o+5,none⟩=some (.int .u64 d)/\X.cell? ⟨g,o+6,none⟩=some (.slice so n cap)/\X.cell? ⟨g2,o2,none⟩=some (.int .i64 k2)/\X.cell? ⟨g2,o2+1,none⟩=some (.string T2)/\X.cell? ⟨g2,o2+2,none⟩=some (.int .u64 a2)/\X.cell? ⟨g2,o2+3,none⟩=some (.int .u64 b2)/\X.cell? ⟨g2,o2+4,none⟩=some (.int .u64 c2)/\X.cell? ⟨g2,o2+5,none⟩=some (.int .u64 d2)/\X.cell? ⟨g2,o2+6,none⟩=some (.slice so2 n2 cap2)) (by kernel_rfl) HS.out (fun hHeld=> ?_);refine Qq 0 hHeld ?_;refine Qq 1 hHeld ?_;refine Qq 2 hHeld ?_;refine Qq 3 hHeld ?_;refine Qq 4 hHeld ?_;refine Qq 5 hHeld ?_;refine Qq 6 hHeld ?_;refine Qq 7 hHeld ?_;refine Qq 8 hHeld ?_;refine Qq 9 hHeld ?_
    (refine Qd 10 (fun K hK=> ?_);go_simp;refine(HAl.out wr.drew HBr.out.drew).mono ?_;rintro e w4 ⟨x,rfl,hx4,hb4⟩;have HX4:=hid hx4;have HB4:=hid hb4;clear hx4 hb4;go_simp;replace hHeld:=y3S hHeld HB4.out;refine hK.out _ _ hHeld ?_;clear hK K)
    (try simp only[Act.put,List.setIfInBounds_toArray,List.set_cons_zero,List.set_cons_succ])
    refine Qq 11 hHeld ?_;refine⟨by kernel_rfl,?_⟩;clear hHeld HS;have HB5:=hid (HBr.out.drew.trans (HB4.out.mono HBr.out.drew.size));have K0:=hid ((HB4.out.block _ (Qz G0.out)).trans G0.out);have K1:=hid ((HB4.out.block _ (Qz G1.out)).trans G1.out);cases x with
    |true=>
     go_wp2_with fail
     exact⟨⟨Or.inr ⟨rfl,HX4.out rfl⟩,HB5,K0,K1⟩,by simp[intOf]⟩
    |false=>
     go_wp2_with fail
     go_ret;exact⟨_,rfl,fun h=>by simp at h,HB5.out⟩
   ·have HE:=hid hxy
    clear hxy
    go_wp2_with fail
    go_ret;exact⟨_,rfl,fun _=>HE.out,HBr.out⟩
structure PgO (rs:List Rr) (oso:Option Addr) (ol oc nl rl:Nat) (W:World):Prop where
 ck:ckR rs=none
 lo:ol=(pgG rs).2.length
 ln:nl=rs.length
 lr:rl=rs.length
 l2:(pgG rs).2.length<=200
 l6:rs.length<=64
 c:ol<=oc
 nd:ndG rs<=1048576
 o:∀i (hi:i<(pgG rs).2.length),∃g so cap,oso=some ⟨g,0,none⟩/\g<W.heap.size/\(W.cell? ⟨g,i*7,none⟩=some (.int .i64 (pgG rs).2[i].1)/\W.cell? ⟨g,i*7+1,none⟩=some (.string (pgG rs).2[i].2.1)/\W.cell? ⟨g,i*7+2,none⟩=some (.int .u64 (pgG rs).2[i].2.2.1.1)/\W.cell? ⟨g,i*7+3,none⟩=some (.int .u64 (pgG rs).2[i].2.2.1.2.1)/\W.cell? ⟨g,i*7+4,none⟩=some (.int .u64 (pgG rs).2[i].2.2.1.2.2.1)/\W.cell? ⟨g,i*7+5,none⟩=some (.int .u64 (pgG rs).2[i].2.2.1.2.2.2)/\W.cell? ⟨g,i*7+6,none⟩=some (.slice so (pgG rs).2[i].2.2.2.length cap))/\(pgG rs).2[i].2.2.2.length<=1048576/\RwC W (fun b=>b<W.heap.size) so (pgG rs).2[i].2.2.2
theorem PgO.below{rs:List Rr}{oso:Option Addr}{ol oc nl rl:Nat}{W W':World}(h:PgO rs oso ol oc nl rl W)(hb:Below W.heap.size W W'):PgO rs oso ol oc nl rl W':=by
 refine⟨h.ck,h.lo,h.ln,h.lr,h.l2,h.l6,h.c,h.nd,fun i hi=> ?_⟩;obtain⟨g,so,cap,h1,h2,⟨z0,z1,z2,z3,z4,z5,z6⟩,h3,h4⟩:=h.o i hi;have e:∀{q:Nat} {u:Value},W.cell? ⟨g,q,none⟩=some u->W'.cell? ⟨g,q,none⟩=some u:=fun{q u} h=>(hb.cell (p:=⟨g,q,none⟩) h2).trans h
 exact⟨g,so,cap,h1,Nat.lt_of_lt_of_le h2 hb.size,⟨e z0,e z1,e z2,e z3,e z4,e z5,e z6⟩,h3,h4.keep fun b hb'=>⟨Nat.lt_of_lt_of_le hb' hb.size,hb.block b hb'⟩⟩
def PgW(rs:List Rr)(W:World)(e:Ending)(w':World):Prop:=∃oso ol oc nso nl nc rso rl rc ev,e=.returned (.tuple #[.agg #[.slice oso ol oc,.slice nso nl nc,.slice rso rl rc],ev])/\Hid (Below W.heap.size W w')/\((∃tt uu,ev=.iface tt uu)∨(ev=.nilIface/\Hid (PgO rs oso ol oc nl rl w')))
theorem y3U{W:World}{B e size n:Nat}{v:Value}{xs:List Value}{so:Option Addr}{c:Nat}(h:W.ownsRow B e size v n xs)(hv:v=.slice so n c):n<=c:=by
 rcases h.2 with⟨h1,h2⟩|⟨g,cap,cur,h3,h4,h5,h6,h7⟩
 ·omega
 ·rw[h3]at hv
  injection hv with _ _ e3
  omega
theorem y3V(so:Option Addr)(n cap:Nat)(rs:List Rr)(X:Option (Int ⊕ (Int×Int)))(B:Nat)(fp:Addr)(w:World)(hX:CkX rs X)(hP:X=none->PrG rs)(hC:CkC so n cap rs X w)(hz:RgZ rs)(hu:RgU rs)(h:Qv w B so n rs)(hB:B<=w.heap.size)(hT:TabIs w)(hF:w.cell? ⟨1,0,none⟩=some (.iface 379 (.pointer (some fp))))(hPw:Yj w)(W:World)(hW:Below w.heap.size w W):
  Calls prog 11 #[.agg #[.slice so n cap]] W (PgW rs W):=by
 refine(Tp so n cap rs X B fp w hX hP hC hz hu h hB hT hF hPw W hW).mono fun e w' he=> ?_
 obtain⟨hb,⟨_,tt,uu,rfl⟩|⟨_,_,rfl⟩|⟨hE,hl,Q,v,vn,vr,xs,B2,rfl,hB2,ho,hops,hq,hn,hr⟩⟩:=he
 ·exact⟨_,_,_,_,_,_,_,_,_,_,rfl,hb,.inl ⟨tt,uu,rfl⟩⟩
 ·exact⟨_,_,_,_,_,_,_,_,_,_,rfl,hb,.inl ⟨_,_,rfl⟩⟩
 ·have e0:soZ rs X=none:=Classical.not_not.1 hE
  obtain rfl:X=none:=by
   cases X with
   |none=>rfl
   |some x=>unfold soZ at e0;cases e0
  obtain⟨hok,hck,_⟩:=hX;have h64:=(Jb hok).2;obtain⟨_,_,h3⟩:=z4Q hok hck (hP rfl) hz hu;obtain⟨oso,oc,ev⟩:=Yh ho;obtain⟨nso,nc,en⟩:=Yh hn;obtain⟨rso,rc,er⟩:=Yh hr;refine⟨oso,_,oc,nso,_,nc,rso,_,rc,_,by rw[ev,en,er];rfl,hb,.inr ⟨rfl,hid ⟨hck,rfl,rfl,rfl,hl,h64,y3U ho ev,h3,fun i hi=> ?_⟩⟩⟩;obtain⟨g,c,e1,_,hg,hc⟩:=Kc ho (Nat.lt_of_le_of_lt (Nat.zero_le i) hi);rw[ev]at e1;injection e1 with e1 _ _
  obtain⟨cs,⟨so3,cap3,hcs,hcl,hrw⟩,hx⟩:=hops i hi;subst hcs;exact⟨g,so3,cap3,e1,hg,⟨hc (i*7) _ (hx 0 _ rfl),hc (i*7+1) _ (hx 1 _ rfl),hc (i*7+2) _ (hx 2 _ rfl),hc (i*7+3) _ (hx 3 _ rfl),hc (i*7+4) _ (hx 4 _ rfl),hc (i*7+5) _ (hx 5 _ rfl),hc (i*7+6) _ (hx 6 _ rfl)⟩,hcl,hrw.keep fun b hb'=>⟨hq b hb',rfl⟩⟩
theorem z5j{rs:List Rr}{oso:Option Addr}{ol oc nl rl:Nat}{W:World}(h:PgO rs oso ol oc nl rl W)(i k:Nat)(hi:i<(pgG rs).2.length)(hk:k<(pgG rs).2.length)(g:Nat)(hg:oso=some ⟨g,0,none⟩)(e1 e2:Nat):
  Calls prog 13 #[.agg #[.slice (some ⟨g,i*7,none⟩) 1 e1,.slice none 0 0,.slice none 0 0],.agg #[.slice (some ⟨g,k*7,none⟩) 1 e2,.slice none 0 0,.slice none 0 0]] W (AlP (pgG rs).2[i] (pgG rs).2[k] W):=by
 obtain⟨g1,so,cap,u1,hg1,⟨z0,z1,z2,z3,z4,z5,z6⟩,hl,hrw⟩:=h.o i hi;obtain⟨g2,so2,cap2,u2,hg2,⟨y0,y1,y2,y3,y4,y5,y6⟩,hl2,hrw2⟩:=h.o k hk;obtain rfl:g1=g:=by rw[hg]at u1;simpa using u1.symm
 obtain rfl:g2=g1:=by rw[hg]at u2;simpa using u2.symm
 have hR:∀W2:World,Below W.heap.size W W2->∀(s:Option Addr) (l:List Int),RwC W (fun b=>b<W.heap.size) s l->∀j (hj:j<l.length),∃g o,s=some ⟨g,o,none⟩/\g<W.heap.size/\W2.cell? ⟨g,o+j,none⟩=some (.int .i64 l[j]):=fun W2 hW2 s l hs j hj=>by
  obtain⟨g,q,r1,r2,r3⟩:=hs j hj;exact⟨g,q,r1,r2,(hW2.cell (p:=⟨g,q+j,none⟩) r2).trans r3⟩
 refine y3T (pgG rs).2[i] (pgG rs).2[k] _ _ _ _ _ _ so _ cap _ _ _ _ _ _ so2 _ cap2 g2 (i*7) e1 g2 (k*7) e2 W (hid ⟨z0,z1,z2,z3,z4,z5,z6,y0,y1,y2,y3,y4,y5,y6⟩) (hid fun W' hW=> ?_) (hid fun W' hW=> ?_)
 ·have h0:=z5i [] [] none none 0 0 0 0 0 W' (hid rfl) (hid rfl) (by omega) (by omega) (hid fun j hj=>by simp at hj) (hid fun j hj=>by simp at hj) (Nat.zero_le _)
  exact h0.mono fun e w' he=>⟨he.1.trans (by simp),he.2⟩
 ·exact y3R _ _ _ _ _ _ (pgG rs).2[i].2.2.2 so _ cap _ _ _ _ _ _ (pgG rs).2[k].2.2.2 so2 _ cap2 W' (hid fun W2 hW2=>z5i _ _ so so2 _ _ cap cap2 W.heap.size W2 (hid rfl) (hid rfl) hl hl2 (hid (hR W2 (hW.trans (hW2.mono hW.size)) _ _ hrw)) (hid (hR W2 (hW.trans (hW2.mono hW.size)) _ _ hrw2)) (Nat.le_trans hW.size hW2.size))
section
open Go.ChangeShapes Go.WideShapes Go.ChangeAt
theorem Tryz.bytesRule:Tryz.prog.bytesOf 73=112:=by kernel_rfl
section
variable {H:Type} {enc:TypeId×Value->H} {W:World} {sp:Nat->Bool} {hl:Bool}
theorem y3W{e t:TypeId}{y:DataW H}{elems rest:List (DataW H)}(hu:Tryz.prog.underlying t=some (.slice e))(hy:y=.slice elems rest)(hw:∀n∈y.weights prog t,n<=reachBytes):elems.length*Tryz.prog.bytesOf e<=reachBytes:=by
 subst hy;refine Nat.le_trans (Nat.mul_le_mul_right _ (Nat.le_add_right _ rest.length)) (hw _ ?_);simp only[DataW.weights,hu,List.mem_cons,List.mem_append,true_or]
theorem y3X{t:TypeId}{fs:Array Field}{l:List (String×TypeId×Nat)}(hu:Tryz.prog.underlying t=some (.struct fs))(hl:fs.toList.map (fun f=>(f.name,f.type,f.offset))=l){xs:List (DataW H×List MemPlace)}{y:DataW H}(hy:y=.agg (xs.map (·.1)))(hw:∀n∈y.weights prog t,n<=reachBytes){i:Nat}{q:String×TypeId×Nat}{x:DataW H×List MemPlace}(hi:l[i]? =some q)(hx:xs[i]? =some x):∀n∈x.1.weights prog q.2.1,n<=reachBytes:=by
 subst hy;intro n hn;refine hw n ?_;simp only[DataW.weights,hu];refine DataW.weights_mem_each (j:=i) (t:=q.2.1) (d:=x.1) ?_ (by rw[List.getElem?_map,hx];rfl) n hn;have h2:fs.toList.map (·.type)=l.map (fun x=>x.2.1):=by rw[<-hl,List.map_map];rfl
 rw[h2,List.getElem?_map,hi];rfl
theorem z5k{so:Option Addr}{n cap:Nat}{d:DataW H}{ps:List MemPlace}(h:DataW.Trod enc prog W 0 sp hl 24 (.agg #[.slice so n cap]) d ps)(hw:∀m∈d.weights prog 24,m<=reachBytes):n*112<=140737488351232:=by
 obtain⟨fuel,hf⟩:=h;obtain⟨xs,m,rfl,hx,hlen,hxs,hf⟩:=DataW.trod_struct Tryz.structGram hf;rw[Ew Tryz.fieldsGram]at hxs
 match xs,hxs with
 |[y0],_=>
 have hd:d=.agg ([y0].map (·.1)):=congrArg Prod.fst hx;have w0:=y3X Tryz.structGram Tryz.fieldsGram hd hw (i:=0) rfl (x:=y0) rfl;obtain⟨f0,g0,t0,o0⟩:=Jg Tryz.fieldsGram 0 _ rfl;have r0:=hf 0 f0 g0;simp only[Value.cells,t0,o0,Tryz.cellsRules,List.drop_zero,List.take_succ_cons,List.take_zero,List.getElem?_cons_zero]at r0;rcases DataW.trod_slice Tryz.sliceRules r0 with⟨e6,_⟩|⟨ad,len,cap',elems,rest,m2,hm2,e6,ex,_,hlc,hcm,hel,hev,_⟩
 ·simp only[List.cons.injEq,and_true,Value.slice.injEq]at e6
  obtain⟨rfl,rfl,rfl⟩:=e6;omega
 ·simp only[List.cons.injEq,and_true,Value.slice.injEq]at e6
  obtain⟨rfl,rfl,rfl⟩:=e6;have u1:=y3W Tryz.sliceRules (by rw[ex]) w0;rw[List.length_map,hel,Tryz.bytesRule]at u1;exact u1
end
end
open Go.ChangeShapes Go.WideShapes
theorem Tryz.own:ownKnob Tryz.prog.godebug=none:=by kernel_rfl
theorem Tryz.et:Tryz.prog.globalNamed "errors.errorType"=some 0:=by kernel_rfl
theorem Tryz.rt:(Tryz.prog.cutTypes.find? (·.1 == "internal/reflectlite.rtype")).map (·.2)=some 206:=by kernel_rfl
theorem Tryz.oneRow:((List.range 410).filter fun t=>Tryz.prog.rowNamed t [101,114,114,111,114])=[33]:=by kernel_rfl
theorem Tryz.nTypes:Tryz.prog.types.size=410:=by kernel_rfl
theorem y3Y{W:World}{l:List (String×DataW Unit)}(h:handlesMet prog l W)(hm:("errors.errorType",Rows.laid_errors_errorType)∈l):Yw W:=by
 obtain⟨name,u,ty,e1,e2,e3,e4,e5⟩:=h _ hm;have en:name=[101,114,114,111,114]:=(Option.some.inj e1).symm;subst en;obtain rfl:=Option.some.inj (Tryz.rt.symm.trans e2);have hm:ty∈(List.range 410).filter fun t=>Tryz.prog.rowNamed t [101,114,114,111,114]:=List.mem_filter.2 ⟨List.mem_range.2 (by rw[<-Tryz.nTypes];exact e3),e4⟩
 rw[Tryz.oneRow]at hm;obtain rfl:=List.mem_singleton.1 hm;have hh:typeHandle prog 33=.pointer (some ⟨6,33,none⟩):=by kernel_rfl
 rw[hh]at e5;have:=World.var?_cell Tryz.et e5 0;unfold Yw;simpa using this
theorem Tryz.laidOutW:laidOutB prog=true:=by kernel_rfl
theorem Tryz.gT:Tryz.prog.globalNamed "math/bits.deBruijn64tab"=some 5:=by kernel_rfl
theorem Tryz.gTType:(Tryz.prog.globals[5]?).map (·.type)=some 368:=by kernel_rfl
theorem Tryz.cellsTab:Tryz.prog.cellsOf 368=64:=by kernel_rfl
theorem Tryz.cellsU8:Tryz.prog.cellsOf 5=1:=by kernel_rfl
theorem y3Z{W:World}{rest:List (String×DataW Unit)}(h:laidMet prog (("math/bits.deBruijn64tab",Rows.laid_math_bits_deBruijn64tab)::rest) W):TabIs W:=by
 have hT:Lib.TabIs prog W "math/bits.deBruijn64tab" .u8 (Lib.deBruijn64tab.map fun n:Nat=>(n:Int)):=Lib.tabIs_of_head (rest:=rest) Tryz.gT Tryz.gTType Tryz.underlying368 Tryz.underlying5 Tryz.cellsU8 Tryz.cellsTab h;intro i hi;have:=hT.cell Tryz.gT i (by simp[Lib.deBruijn64tab];omega);rw[this];congr 2;simp only[List.getD,List.getElem?_map];cases Lib.deBruijn64tab[i]? <;>rfl
theorem Tryz.gFo:Tryz.prog.globalNamed "muntin/sound.errFound"=some 1:=by kernel_rfl
theorem Tryz.gFoType:(Tryz.prog.globals[1]?).map (·.type)=some 33:=by kernel_rfl
theorem Tryz.star8:"*"++"errors.errorString"="*errors.errorString":=by decide
theorem Tryz.rowErrStr(u:TypeId)(h:Tryz.prog.typeName? 3 u=some "*errors.errorString"):u=379:=
 typeName_ptr_named (nm:="errors.errorString") (by rw[Tryz.star8];kernel_rfl) (by kernel_rfl) (by decide) u (by rw[Tryz.star8];exact h)
theorem Tryz.cellsErrStr:Tryz.prog.cellsOf 398=1:=by kernel_rfl
theorem Tryz.cellsStr8:Tryz.prog.cellsOf 9=1:=by kernel_rfl
theorem Tryz.gPw:Tryz.prog.globalNamed "internal/strconv.uint64pow10"=some 3:=by kernel_rfl
theorem Tryz.gPwType:(Tryz.prog.globals[3]?).map (·.type)=some 346:=by kernel_rfl
theorem Tryz.cellsPow:Tryz.prog.cellsOf 346=20:=by kernel_rfl
theorem z5l{W:World}(h:laidMetH prog [("math/bits.deBruijn32tab",Rows.laid_math_bits_deBruijn32tab),("math/bits.deBruijn64tab",Rows.laid_math_bits_deBruijn64tab),("internal/strconv.uint64pow10",Rows.laid_internal_strconv_uint64pow10),("errors.errorType",Rows.laid_errors_errorType),("muntin/sound.errFound",Rows.laid_muntin_sound_errFound)] W):Yw W/\TabIs W/\Yj W/\∃fp:Addr,W.cell? ⟨1,0,none⟩=some (.iface 379 (.pointer (some fp))):=by
 have h':laidMet prog [("math/bits.deBruijn32tab",Rows.laid_math_bits_deBruijn32tab),("math/bits.deBruijn64tab",Rows.laid_math_bits_deBruijn64tab),("internal/strconv.uint64pow10",Rows.laid_internal_strconv_uint64pow10),("muntin/sound.errFound",Rows.laid_muntin_sound_errFound)] W/\handlesMet prog [("errors.errorType",Rows.laid_errors_errorType)] W:=h;have t1:=laidMet.tail h'.1;have t2:=laidMet.tail t1;refine⟨y3Y h'.2 (List.mem_singleton.2 rfl),y3Z (rest:=[("internal/strconv.uint64pow10",Rows.laid_internal_strconv_uint64pow10),("muntin/sound.errFound",Rows.laid_muntin_sound_errFound)]) t1,?_,?_⟩
 ·exact Lib.tabIs_of_head (rest:=[("muntin/sound.errFound",Rows.laid_muntin_sound_errFound)]) Tryz.gPw Tryz.gPwType Tryz.underlying346 Tryz.underlying66 Tryz.cellsU Tryz.cellsPow t2
 ·obtain⟨a,s,hv,_⟩:=laid_sentinel (nm:="*errors.errorString") (text:=[102,111,117,110,100]) (laidMet.tail t2) Tryz.gFo Tryz.gFoType Tryz.underlying33 Tryz.rowErrStr Tryz.underlying379 Tryz.underlying398 rfl rfl Tryz.underlying9 Tryz.cellsErrStr Tryz.cellsStr8
  exact⟨a,by simpa using World.var?_cell Tryz.gFo hv 0⟩
theorem y4s:True:=trivial
end Go.Proofs.YtlogolpcipiceaaGreatDoor
