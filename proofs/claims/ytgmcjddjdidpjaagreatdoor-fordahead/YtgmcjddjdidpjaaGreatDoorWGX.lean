/- Lemmas for the last text. Conditions: those that each names. -/
import Derived.Test.YtgmcjddjdidpjaaGreatDoorWGW
set_option linter.unusedVariables false
set_option maxRecDepth 100000
set_option maxHeartbeats 16000000
namespace Go.Proofs.YtgmcjddjdidpjaaGreatDoor
open Go.Proofs.Tryz
open Go.RowKit Go.Shelf Go.Maps
theorem y4q(a:Int):∃k:Nat,k<=4095/\bits BinOp.and IntKind.i64 a 4095=(k:Int):=by
 have h:(BitVec.ofInt 64 a&&&BitVec.ofInt 64 (4095:Int)).toNat=(BitVec.ofInt 64 a).toNat%4096:=by
  rw[BitVec.toNat_and,show(BitVec.ofInt 64 (4095:Int)).toNat=2^12-1 from by decide+kernel];exact Nat.and_two_pow_sub_one_eq_mod _ _
 refine⟨(BitVec.ofInt 64 a).toNat%4096,by omega,?_⟩;show IntKind.i64.wrap (((BitVec.ofInt 64 a&&&BitVec.ofInt 64 (4095:Int)).toNat:Nat):Int)=_;rw[h,IntKind.wrap_i64];omega
theorem y4b{rs:List Rr}{r a m m':Int}{T:ByteArray}{Z:Prop}{L x y x' y':Int}{v v':Value}(h:FmV (upB L r&&(upB (T.size:Int) a&&upB 1048576 m)) (decide (T.size<=4096)) (Gm rs r T a m) Z x y v)(hv:v=.nilIface)(h':FmV (upB L r&&(upB (T.size:Int) a&&upB 1048576 m')) (decide (T.size<=4096)) (Gm rs r T a m') Z x' y' v')(hm0:0<=m')(hm:m'<=1048576):∃c:Nat,y=(c:Int)/\1<=c/\y<=m/\(y<=m'->x'=x/\y'=y/\v'=.nilIface)/\(m'<y->v'=.iface 34 (.int .i64 50)):=by
 subst hv;rcases h with⟨_,_,_,tt,uu,h⟩|⟨_,_,_,_,h⟩|⟨_,_,_,_,_,h⟩|⟨hZ,h1,h2,hr,h⟩
 ·cases h
 ·cases h
 ·cases h
 ·rcases h with⟨e,c,hM,hc,rfl,rfl,_⟩|⟨_,_,_,h⟩
  ·simp only[Bool.and_eq_true]at h1
   have u3:upB 1048576 m'=true:=by unfold upB;simp;omega
   rw[h1.1,h1.2.1,u3]at h';refine⟨c,rfl,mt_pos hM,hc,fun hle=> ?_,fun hlt=> ?_⟩
   ·rcases h' with⟨h,_⟩|⟨_,h,_⟩|⟨_,_,h,_⟩|⟨_,_,_,hr',h⟩
    ·exact absurd h hZ
    ·cases h
    ·rw[h2]at h;cases h
    ·rcases h with⟨e2,c2,h3,_,rfl,rfl,rfl⟩|⟨h3,_⟩
     ·obtain⟨rfl,rfl⟩:=mt_det hM h3
      exact⟨rfl,rfl,rfl⟩
     ·have:=h3 e c hM
      omega
   ·rcases h' with⟨h,_⟩|⟨_,h,_⟩|⟨_,_,h,_⟩|⟨_,_,_,hr',h⟩
    ·exact absurd h hZ
    ·cases h
    ·rw[h2]at h;cases h
    ·rcases h with⟨e2,c2,h3,h4,rfl,rfl,rfl⟩|⟨_,_,_,h⟩
     ·obtain⟨rfl,rfl⟩:=mt_det hM h3
      omega
     ·exact h
  ·cases h
theorem y4j{ok1 ok2:Bool}{rs:List Rr}{r a m:Int}{T:ByteArray}{Z:Prop}{x y:Int}{v:Value}(h:FmV ok1 ok2 (Gm rs r T a m) Z x y v):(v=.nilIface)∨(x=0/\y=0/\∃tt uu,v=.iface tt uu):=by
 rcases h with⟨_,h1,h2,tt,uu,h⟩|⟨_,_,h1,h2,h⟩|⟨_,_,_,h1,h2,h⟩|⟨_,_,_,_,⟨e,c,_,_,_,_,h⟩|⟨_,h1,h2,h⟩⟩
 ·exact .inr ⟨h1,h2,tt,uu,h⟩
 ·exact .inr ⟨h1,h2,_,_,h⟩
 ·exact .inr ⟨h1,h2,_,_,h⟩
 ·exact .inl h
 ·exact .inr ⟨h1,h2,_,_,h⟩
theorem y4r(so:Option Addr)(n cap:Nat)(rs:List Rr)(r a mo:Int)(T:ByteArray)(fp:Addr)(w:World)(hE:Xf w)(hT:TabIs w)(hF:w.cell? ⟨1,0,none⟩=some (.iface 325 (.pointer (some fp))))(hz:RgZ rs)(hu:RgU rs)(h:Qf w w.heap.size so n rs)(hTz:T.size<=9223372036854775807):
  Calls prog 5 #[.agg #[.slice so n cap],.int .i64 r,.string T,.int .i64 a,.int .i64 mo] w fun e w'=>e=.returned (.bool true)/\Below w.heap.size w w':=by
 obtain⟨X,hX,hP,hC⟩:=checked_all2 so n cap rs w.heap.size w hz hu h L0q hT;obtain⟨kA,hkA,hand⟩:=y4q mo;obtain⟨u1,hu1⟩:∃u1,u1=w.alloc (.cells #[.slice so n cap] 24):=⟨_,rfl⟩;have hB1:Below w.heap.size w u1:=by rw[hu1];exact(Below.refl _ w).alloc L0q _
 have hG1:u1.heap[w.heap.size]? =some (.cells #[.slice so n cap] 24):=by rw[hu1];exact Qx w _ rfl
 have hfl:1<w.heap.size:=World.block_lt_of_cell? w _ hF;have HS:=hid (y4i fp u1 (hE.below hB1 hE.lt) (hT.below hB1 hT.lt) ((hB1.cell (p:=⟨1,0,none⟩) hfl).trans hF));have HMt:=hid (fun(m:Int) (W:World) (hW:Below w.heap.size w W)=>fmatch_any so n cap rs X w.heap.size fp w hX hP hC hz hu h L0q hT hF r a m T hTz W hW);have HE:=hid hE;have HB1:=hid hB1;have HG1:=hid hG1;have HU1:=hid hu1;clear hE hT hF hz hu h hC hX hP hB1 hG1 hu1 hfl;go_enter func5,ntmps5
 go_wp2_with fail
 rw[<-HU1.out];clear HU1;refine HS.out.mono ?_;rintro e w1 ⟨rfl,HBs⟩;have HB2:=hid (HB1.out.trans (HBs.out.mono HB1.out.size));have HG2:=hid ((HBs.out.block _ (Qz HG1.out)).trans HG1.out);have g2:=(Qj HG2.out).1;have lg2:=Qz HG2.out;clear HS HBs HB1 HG1
 go_wp2_with fail
 refine(HMt.out 20000 _ HB2.out).mono ?_;rintro e w2 ⟨x,y,v,rfl,hv,hb2⟩;have HB3:=hid (HB2.out.trans (hb2.mono HB2.out.size));have HG3:=hid ((hb2.block _ (Qz HG2.out)).trans HG2.out);have g3:=(Qj HG3.out).1;have lg3:=Qz HG3.out;have HV:=hid hv;clear hb2 HB2 HG2 g2 lg2;rcases y4j hv with rfl|⟨rfl,rfl,tt,uu,rfl⟩
 rotate_left
 ·clear hv
  go_wp2_with fail
  go_ret;exact⟨rfl,HB3.out⟩
 clear hv;obtain⟨c,rfl,hc1,hcm,-⟩:=y4b HV.out rfl HV.out (by decide) (by decide);have a1:decide ((c:Int)<1)=false:=by simp;omega
 have a1':¬(c:Int)<1:=by omega
 have a2:decide ((20000:Int)<(c:Int))=false:=by simp;omega
 have a2':¬(20000:Int)<(c:Int):=by omega
 have hwr:IntKind.i64.wrap ((c:Int)+(kA:Int))=(c:Int)+(kA:Int):=by rw[IntKind.wrap_i64];omega
 have hwr2:IntKind.i64.wrap ((c:Int)-1)=(c:Int)-1:=by rw[IntKind.wrap_i64];omega
 go_wp2_with fail
 refine(HMt.out (c:Int) _ HB3.out).mono ?_;rintro e w3 ⟨x3,y3,v3,rfl,hv3,hb3⟩;obtain⟨rfl,rfl,rfl⟩:x3=x/\y3=(c:Int)/\v3=.nilIface:=by
  obtain⟨_,_,_,_,q,_⟩:=y4b HV.out rfl hv3 (by omega) (by omega);exact q (Int.le_refl _)
 have HB4:=hid (HB3.out.trans (hb3.mono HB3.out.size));have HG4:=hid ((hb3.block _ (Qz HG3.out)).trans HG3.out);have g4:=(Qj HG4.out).1;have lg4:=Qz HG4.out;clear hb3 hv3 HB3 HG3 g3 lg3
 go_wp2_with fail
 refine(HMt.out ((c:Int)+(kA:Int)) _ HB4.out).mono ?_;rintro e w4 ⟨x4,y4,v4,rfl,hv4,hb4⟩;obtain⟨rfl,rfl,rfl⟩:x4=x3/\y4=(c:Int)/\v4=.nilIface:=by
  obtain⟨_,_,_,_,q,_⟩:=y4b HV.out rfl hv4 (by omega) (by omega);exact q (by omega)
 have HB5:=hid (HB4.out.trans (hb4.mono HB4.out.size));have HG5:=hid ((hb4.block _ (Qz HG4.out)).trans HG4.out);have g5:=(Qj HG5.out).1;have lg5:=Qz HG5.out;clear hb4 hv4 HB4 HG4 g4 lg4
 go_wp2_with fail
 refine(HMt.out ((c:Int)-1) _ HB5.out).mono ?_;rintro e w5 ⟨x5,y5,v5,rfl,hv5,hb5⟩;obtain rfl:v5=.iface 34 (.int .i64 50):=by
  obtain⟨_,_,_,_,_,q⟩:=y4b HV.out rfl hv5 (by omega) (by omega);exact q (by omega)
 have HB6:=hid (HB5.out.trans (hb5.mono HB5.out.size));have HCd:=hid (code_errno 50 w5 (HE.out.below HB6.out HE.out.lt));clear hb5 hv5 HB5 HG5 g5 lg5 HV HMt
 go_wp2_with(first
  |(go_at_call 15;refine HCd.out.mono ?_;rintro e w6 ⟨rfl,hb6⟩;have HB7:=hid (HB6.out.trans (hb6.mono HB6.out.size))))
 go_ret;exact⟨rfl,HB7.out⟩
end Go.Proofs.YtgmcjddjdidpjaaGreatDoor
