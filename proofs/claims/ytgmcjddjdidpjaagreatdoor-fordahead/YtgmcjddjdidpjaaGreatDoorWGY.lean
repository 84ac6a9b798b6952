/- Lemmas for the last text. Conditions: those that each names. -/
import Derived.Test.YtgmcjddjdidpjaaGreatDoorWGX
set_option linter.unusedVariables false
set_option maxRecDepth 100000
set_option maxHeartbeats 16000000
namespace Go.Proofs.YtgmcjddjdidpjaaGreatDoor
open Go.Proofs.Tryz
open Go.RowKit Go.Shelf Go.Maps
theorem y4v{rs:List Rr}{r m:Int}{A T:ByteArray}{Z:Prop}{L x y x' y':Int}{v v':Value}(h:FmV (upB L r&&(upB (T.size:Int) 0&&upB 1048576 m)) (decide (T.size<=4096)) (Gm rs r T 0 m) Z x y v)(hv:v=.nilIface)(h':FmV (upB L r&&(upB ((A++T).size:Int) (A.size:Int)&&upB 1048576 m)) (decide ((A++T).size<=4096)) (Gm rs r (A++T) (A.size:Int) m) Z x' y' v')(hs:A.size+T.size<=4096):(∃c:Nat,y=(c:Int))/\v'=.nilIface/\y'=y/\((x= -1/\x'= -1)∨(∃j:Nat,x=(j:Int)/\x'=(j:Int)+(A.size:Int)/\j<=4096)):=by
 subst hv;have hsz:(A++T).size=A.size+T.size:=ByteArray.size_append;rcases h with⟨_,_,_,tt,uu,h⟩|⟨_,_,_,_,h⟩|⟨_,_,_,_,_,h⟩|⟨hZ,h1,h2,hr,h⟩
 ·cases h
 ·cases h
 ·cases h
 ·rcases h with⟨e,c,hM,hc,rfl,rfl,_⟩|⟨_,_,_,h⟩
  ·simp only[Bool.and_eq_true]at h1
   have u2:upB ((A++T).size:Int) (A.size:Int)=true:=by unfold upB;simp;omega
   have d2:decide ((A++T).size<=4096)=true:=by simp;omega
   rw[h1.1,u2,h1.2.2,d2]at h';have hM2:=mt_ahead A hM;rcases h' with⟨h,_⟩|⟨_,h,_⟩|⟨_,_,h,_⟩|⟨_,_,_,hr',h⟩
   ·exact absurd h hZ
   ·cases h
   ·cases h
   ·rcases h with⟨e2,c2,h3,_,rfl,rfl,rfl⟩|⟨h3,_⟩
    ·have h3:Mt (bdR rs) (A++T) (.one (rs[r.toNat]'hr).2.1) A.size e2 c2:=by simpa using h3
     have hM2:Mt (bdR rs) (A++T) (.one (rs[r.toNat]'hr).2.1) A.size (e.map (A.size+ ·)) c:=by simpa using hM2
     obtain⟨rfl,rfl⟩:=mt_det hM2 h3;refine⟨⟨c,rfl⟩,rfl,rfl,?_⟩;cases e with
     |none=>exact .inl ⟨rfl,rfl⟩
     |some j=>
      have hj:=(Rz hM (by simp) j rfl).2;refine .inr ⟨j,rfl,?_,by omega⟩;show((A.size+j:Nat):Int)=_;omega
    ·have:=h3 _ c (by simpa using hM2)
     omega
  ·cases h
theorem y4w(so:Option Addr)(n cap:Nat)(rs:List Rr)(r:Int)(A T:ByteArray)(fp:Addr)(w:World)(hE:Xf w)(hT:TabIs w)(hF:w.cell? ⟨1,0,none⟩=some (.iface 325 (.pointer (some fp))))(hz:RgZ rs)(hu:RgU rs)(h:Qf w w.heap.size so n rs)(hAz:A.size<=9223372036854775807)(hTz:T.size<=9223372036854775807):
  Calls prog 6 #[.agg #[.slice so n cap],.int .i64 r,.string A,.string T] w fun e w'=>e=.returned (.bool true)/\Below w.heap.size w w':=by
 obtain⟨X,hX,hP,hC⟩:=checked_all2 so n cap rs w.heap.size w hz hu h L0q hT;obtain⟨u1,hu1⟩:∃u1,u1=w.alloc (.cells #[.slice so n cap] 24):=⟨_,rfl⟩;have hB1:Below w.heap.size w u1:=by rw[hu1];exact(Below.refl _ w).alloc L0q _
 have hG1:u1.heap[w.heap.size]? =some (.cells #[.slice so n cap] 24):=by rw[hu1];exact Qx w _ rfl
 have hfl:1<w.heap.size:=World.block_lt_of_cell? w _ hF;have HS:=hid (y4i fp u1 (hE.below hB1 hE.lt) (hT.below hB1 hT.lt) ((hB1.cell (p:=⟨1,0,none⟩) hfl).trans hF));have HMt:=hid (fun(T':ByteArray) (hTz':T'.size<=9223372036854775807) (a m:Int) (W:World) (hW:Below w.heap.size w W)=>fmatch_any so n cap rs X w.heap.size fp w hX hP hC hz hu h L0q hT hF r a m T' hTz' W hW);have HB1:=hid hB1;have HG1:=hid hG1;have HU1:=hid hu1;clear hE hT hF hz hu h hC hX hP hB1 hG1 hu1 hfl;go_enter func6,ntmps6
 go_wp2_with fail
 rw[<-HU1.out];clear HU1;refine HS.out.mono ?_;rintro e w1 ⟨rfl,HBs⟩;have HB2:=hid (HB1.out.trans (HBs.out.mono HB1.out.size));have HG2:=hid ((HBs.out.block _ (Qz HG1.out)).trans HG1.out);have g2:=(Qj HG2.out).1;have lg2:=Qz HG2.out;clear HS HBs HB1 HG1;by_cases hA:A.size<=4096
 rotate_left
 ·have a1:decide ((4096:Int)<(A.size:Int))=true:=by simp;omega
  have a1':(4096:Int)<(A.size:Int):=by omega
  go_wp2_with fail
  go_ret;exact⟨rfl,HB2.out⟩
 have a1:decide ((4096:Int)<(A.size:Int))=false:=by simp;omega
 have a1':¬(4096:Int)<(A.size:Int):=by omega
 by_cases hT4:T.size<=4096
 rotate_left
 ·have a2:decide ((4096:Int)<(T.size:Int))=true:=by simp;omega
  have a2':(4096:Int)<(T.size:Int):=by omega
  go_wp2_with fail
  go_ret;exact⟨rfl,HB2.out⟩
 have a2:decide ((4096:Int)<(T.size:Int))=false:=by simp;omega
 have a2':¬(4096:Int)<(T.size:Int):=by omega
 have hsz:(A++T).size=A.size+T.size:=ByteArray.size_append
 go_wp2_with fail
 refine(HMt.out T hTz 0 20000 _ HB2.out).mono ?_;rintro e w2 ⟨x,y,v,rfl,hv,hb2⟩;have HB3:=hid (HB2.out.trans (hb2.mono HB2.out.size));have HG3:=hid ((hb2.block _ (Qz HG2.out)).trans HG2.out);have g3:=(Qj HG3.out).1;have lg3:=Qz HG3.out;have HV:=hid hv;have HSz:=hid hsz;clear hb2 HB2 HG2 g2 lg2 hv hsz
 go_wp2_with fail
 refine(HMt.out (A++T) (by rw[HSz.out];omega) (A.size:Int) 20000 _ HB3.out).mono ?_;rintro e w3 ⟨x',y',v',rfl,hv',hb3⟩;have HB4:=hid (HB3.out.trans (hb3.mono HB3.out.size));have HV':=hid hv';have hwr:IntKind.i64.wrap ((A.size:Int)+(T.size:Int))=(A.size:Int)+(T.size:Int):=by rw[IntKind.wrap_i64];omega
 clear hb3 hv' HB3 HG3 g3 lg3 HMt;rcases y4j HV.out with rfl|⟨rfl,rfl,tt,uu,rfl⟩
 rotate_left
 ·go_wp2_with fail
  go_ret;exact⟨rfl,HB4.out⟩
 by_cases hs:A.size+T.size<=4096
 ·have a3:decide ((4096:Int)<(A.size:Int)+(T.size:Int))=false:=by simp;omega
  have a3':¬(4096:Int)<(A.size:Int)+(T.size:Int):=by omega
  obtain⟨⟨c,rfl⟩,rfl,rfl,hx⟩:=y4v HV.out rfl HV'.out hs;clear HV HV';rcases hx with⟨rfl,rfl⟩|⟨j,rfl,rfl,hj⟩
  ·go_wp2_with fail
   go_ret;exact⟨rfl,HB4.out⟩
  ·have a4:decide ((j:Int)<0)=false:=by simp
   have hwj:IntKind.i64.wrap ((j:Int)+(A.size:Int))=(j:Int)+(A.size:Int):=by rw[IntKind.wrap_i64];omega
   go_wp2_with fail
   go_ret;exact⟨rfl,HB4.out⟩
 ·have a3:decide ((4096:Int)<(A.size:Int)+(T.size:Int))=true:=by simp;omega
  have a3':(4096:Int)<(A.size:Int)+(T.size:Int):=by omega
  clear HV HV'
  go_wp2_with fail
  go_ret;exact⟨rfl,HB4.out⟩
end Go.Proofs.YtgmcjddjdidpjaaGreatDoor
