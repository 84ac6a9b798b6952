/- Lemmas for the last text. Conditions: those that each names. -/
import Derived.Test.YtikfnaffiehpaaaGreatDoorVS3ToXK1
set_option linter.unusedVariables false
set_option maxRecDepth 100000
set_option maxHeartbeats 2000000
namespace Go.Proofs.YtikfnaffiehpaaaGreatDoor
open Go.Proofs.Tryz
open Go.RowKit
variable {S:ByteArray} {m x:Nat}
theorem z9r{b:Nat}(h:bt S m=some x)(hv:Yq x=some b):esc S m=.inr (b,m+1):=by unfold esc;rw[h];simp only;rw[hv]
theorem z9s(h:bt S m=some 120):esc S m=digs S (m+1):=by
 have hm:Qp 120=false:=rfl;unfold esc;rw[h];simp[Yq,hm]
theorem z9t(h:bt S m=some x)(hv:Yq x=none)(hx:x≠120):esc S m=.inl (4,m):=by unfold esc;rw[h];simp only;rw[hv];simp only;rw[if_neg hx,Gl (Qx h).1]
theorem z9u(S:ByteArray)(k m:Nat)(w:World)(hm:m=k+1)(h:bt S k=some 92)(hy:S.size<=m)(hS:S.size<=9007199254740992):
  Calls prog 108 #[.string S,.int .i64 k] w fun e w'=>e=.returned (r3 (.inl (3,S.size)))/\w'=w:=by
 obtain⟨hk,hx⟩:=Qj h;have hkI:(k:Int)<(S.size:Int):=by omega
 have a0:decide ((S.size:Int)<=(k:Int))=false:=by simp;omega
 have HM:Hid (∀w:World,Calls prog 88 #[.int .i64 92] w fun e w'=>e=.returned (.bool true)/\w'=w):=fun w=>Xd 92 true rfl w (by omega)
 have hmI:(k:Int)+1=(m:Int):=by omega
 have hm2:(k:Int)+2=(m:Int)+1:=by omega
 have a1:decide ((S.size:Int)<=(m:Int))=true:=by simp;omega
 clear h hm hm2;go_enter func108,ntmps108
 go_wp2_with fail
 refine(HM.out _).mono ?_;rintro e w1 ⟨rfl,rfl⟩
 go_wp2_with fail
 go_ret3
 exact⟨rfl,rfl⟩
theorem z9v(S:ByteArray)(k m:Nat)(w:World)(hm:m=k+1)(h:bt S k=some 92)(y:Nat)(hyc:y=110)(hy:bt S m=some y)(hS:S.size<=9007199254740992):
  Calls prog 108 #[.string S,.int .i64 k] w fun e w'=>e=.returned (r3 (.inr (10,m+1)))/\w'=w:=by
 obtain⟨hk,hx⟩:=Qj h;have hkI:(k:Int)<(S.size:Int):=by omega
 have a0:decide ((S.size:Int)<=(k:Int))=false:=by simp;omega
 have HM:Hid (∀w:World,Calls prog 88 #[.int .i64 92] w fun e w'=>e=.returned (.bool true)/\w'=w):=fun w=>Xd 92 true rfl w (by omega)
 have hmI:(k:Int)+1=(m:Int):=by omega
 have hm2:(k:Int)+2=(m:Int)+1:=by omega
 have hyl:=(Qx hy).2;obtain⟨hym,hyx⟩:=Qj hy;have hmk:(m:Int)<(S.size:Int):=by omega
 have a1:decide ((S.size:Int)<=(m:Int))=false:=by simp;omega
 have hwy:IntKind.i64.wrap (y:Int)=(y:Int):=by rw[IntKind.wrap_i64];omega
 have HY:Hid (∀w:World,Calls prog 88 #[.int .i64 y] w fun e w'=>e=.returned (.bool (Qp y))/\w'=w):=fun w=>Xd y _ rfl w hyl
 have t110:((y:Int) == 110)=true:=by simp;omega
 have hn:((m+1:Nat):Int)=(m:Int)+1:=by omega
 unfold r3;simp only;rw[hn];generalize Qp y=v at HY;clear h hm hy hyc hn;go_enter func108,ntmps108
 go_wp2_with fail
 refine(HM.out _).mono ?_;rintro e w1 ⟨rfl,rfl⟩
 go_wp2_with fail
 refine(HY.out _).mono ?_;rintro e w1 ⟨rfl,rfl⟩
 go_wp2_with fail
 go_ret3
 exact⟨rfl,rfl⟩
theorem z9w(S:ByteArray)(k m:Nat)(w:World)(hm:m=k+1)(h:bt S k=some 92)(y:Nat)(hyc:y=114)(hy:bt S m=some y)(hS:S.size<=9007199254740992):
  Calls prog 108 #[.string S,.int .i64 k] w fun e w'=>e=.returned (r3 (.inr (13,m+1)))/\w'=w:=by
 obtain⟨hk,hx⟩:=Qj h;have hkI:(k:Int)<(S.size:Int):=by omega
 have a0:decide ((S.size:Int)<=(k:Int))=false:=by simp;omega
 have HM:Hid (∀w:World,Calls prog 88 #[.int .i64 92] w fun e w'=>e=.returned (.bool true)/\w'=w):=fun w=>Xd 92 true rfl w (by omega)
 have hmI:(k:Int)+1=(m:Int):=by omega
 have hm2:(k:Int)+2=(m:Int)+1:=by omega
 have hyl:=(Qx hy).2;obtain⟨hym,hyx⟩:=Qj hy;have hmk:(m:Int)<(S.size:Int):=by omega
 have a1:decide ((S.size:Int)<=(m:Int))=false:=by simp;omega
 have hwy:IntKind.i64.wrap (y:Int)=(y:Int):=by rw[IntKind.wrap_i64];omega
 have HY:Hid (∀w:World,Calls prog 88 #[.int .i64 y] w fun e w'=>e=.returned (.bool (Qp y))/\w'=w):=fun w=>Xd y _ rfl w hyl
 have t110:((y:Int) == 110)=false:=by simp;omega
 have t114:((y:Int) == 114)=true:=by simp;omega
 have hn:((m+1:Nat):Int)=(m:Int)+1:=by omega
 unfold r3;simp only;rw[hn];generalize Qp y=v at HY;clear h hm hy hyc hn;go_enter func108,ntmps108
 go_wp2_with fail
 refine(HM.out _).mono ?_;rintro e w1 ⟨rfl,rfl⟩
 go_wp2_with fail
 refine(HY.out _).mono ?_;rintro e w1 ⟨rfl,rfl⟩
 go_wp2_with fail
 go_ret3
 exact⟨rfl,rfl⟩
theorem z9x(S:ByteArray)(k m:Nat)(w:World)(hm:m=k+1)(h:bt S k=some 92)(y:Nat)(hyc:y=116)(hy:bt S m=some y)(hS:S.size<=9007199254740992):
  Calls prog 108 #[.string S,.int .i64 k] w fun e w'=>e=.returned (r3 (.inr (9,m+1)))/\w'=w:=by
 obtain⟨hk,hx⟩:=Qj h;have hkI:(k:Int)<(S.size:Int):=by omega
 have a0:decide ((S.size:Int)<=(k:Int))=false:=by simp;omega
 have HM:Hid (∀w:World,Calls prog 88 #[.int .i64 92] w fun e w'=>e=.returned (.bool true)/\w'=w):=fun w=>Xd 92 true rfl w (by omega)
 have hmI:(k:Int)+1=(m:Int):=by omega
 have hm2:(k:Int)+2=(m:Int)+1:=by omega
 have hyl:=(Qx hy).2;obtain⟨hym,hyx⟩:=Qj hy;have hmk:(m:Int)<(S.size:Int):=by omega
 have a1:decide ((S.size:Int)<=(m:Int))=false:=by simp;omega
 have hwy:IntKind.i64.wrap (y:Int)=(y:Int):=by rw[IntKind.wrap_i64];omega
 have HY:Hid (∀w:World,Calls prog 88 #[.int .i64 y] w fun e w'=>e=.returned (.bool (Qp y))/\w'=w):=fun w=>Xd y _ rfl w hyl
 have t110:((y:Int) == 110)=false:=by simp;omega
 have t114:((y:Int) == 114)=false:=by simp;omega
 have t116:((y:Int) == 116)=true:=by simp;omega
 have hn:((m+1:Nat):Int)=(m:Int)+1:=by omega
 unfold r3;simp only;rw[hn];generalize Qp y=v at HY;clear h hm hy hyc hn;go_enter func108,ntmps108
 go_wp2_with fail
 refine(HM.out _).mono ?_;rintro e w1 ⟨rfl,rfl⟩
 go_wp2_with fail
 refine(HY.out _).mono ?_;rintro e w1 ⟨rfl,rfl⟩
 go_wp2_with fail
 go_ret3
 exact⟨rfl,rfl⟩
theorem z9y(S:ByteArray)(k m:Nat)(w:World)(hm:m=k+1)(h:bt S k=some 92)(y:Nat)(hyc:Qp y=true)(hy:bt S m=some y)(hS:S.size<=9007199254740992):
  Calls prog 108 #[.string S,.int .i64 k] w fun e w'=>e=.returned (r3 (.inr (y,m+1)))/\w'=w:=by
 obtain⟨hk,hx⟩:=Qj h;have hkI:(k:Int)<(S.size:Int):=by omega
 have a0:decide ((S.size:Int)<=(k:Int))=false:=by simp;omega
 have HM:Hid (∀w:World,Calls prog 88 #[.int .i64 92] w fun e w'=>e=.returned (.bool true)/\w'=w):=fun w=>Xd 92 true rfl w (by omega)
 have hmI:(k:Int)+1=(m:Int):=by omega
 have hm2:(k:Int)+2=(m:Int)+1:=by omega
 have hyl:=(Qx hy).2;obtain⟨hym,hyx⟩:=Qj hy;have hmk:(m:Int)<(S.size:Int):=by omega
 have a1:decide ((S.size:Int)<=(m:Int))=false:=by simp;omega
 have hwy:IntKind.i64.wrap (y:Int)=(y:Int):=by rw[IntKind.wrap_i64];omega
 have HY:Hid (∀w:World,Calls prog 88 #[.int .i64 y] w fun e w'=>e=.returned (.bool (Qp y))/\w'=w):=fun w=>Xd y _ rfl w hyl
 have hne:y≠110/\y≠114/\y≠116:=by
  have h2:=hyc;unfold Qp at h2;simp at h2;omega
 have t110:((y:Int) == 110)=false:=by simp;omega
 have t114:((y:Int) == 114)=false:=by simp;omega
 have t116:((y:Int) == 116)=false:=by simp;omega
 have hn:((m+1:Nat):Int)=(m:Int)+1:=by omega
 unfold r3;simp only;rw[hn];rw[hyc]at HY;clear h hm hy hyc hn hne;go_enter func108,ntmps108
 go_wp2_with fail
 refine(HM.out _).mono ?_;rintro e w1 ⟨rfl,rfl⟩
 go_wp2_with fail
 refine(HY.out _).mono ?_;rintro e w1 ⟨rfl,rfl⟩
 go_wp2_with fail
 go_ret3
 exact⟨rfl,rfl⟩
theorem z9z(S:ByteArray)(k m:Nat)(w:World)(hm:m=k+1)(h:bt S k=some 92)(y:Nat)(hyc:Qp y=false)(hy1:y≠110/\y≠114/\y≠116)(hy2:y≠120)(hy:bt S m=some y)(hS:S.size<=9007199254740992):
  Calls prog 108 #[.string S,.int .i64 k] w fun e w'=>e=.returned (r3 (.inl (4,m)))/\w'=w:=by
 obtain⟨hk,hx⟩:=Qj h;have hkI:(k:Int)<(S.size:Int):=by omega
 have a0:decide ((S.size:Int)<=(k:Int))=false:=by simp;omega
 have HM:Hid (∀w:World,Calls prog 88 #[.int .i64 92] w fun e w'=>e=.returned (.bool true)/\w'=w):=fun w=>Xd 92 true rfl w (by omega)
 have hmI:(k:Int)+1=(m:Int):=by omega
 have hm2:(k:Int)+2=(m:Int)+1:=by omega
 have hyl:=(Qx hy).2;obtain⟨hym,hyx⟩:=Qj hy;have hmk:(m:Int)<(S.size:Int):=by omega
 have a1:decide ((S.size:Int)<=(m:Int))=false:=by simp;omega
 have hwy:IntKind.i64.wrap (y:Int)=(y:Int):=by rw[IntKind.wrap_i64];omega
 have HY:Hid (∀w:World,Calls prog 88 #[.int .i64 y] w fun e w'=>e=.returned (.bool (Qp y))/\w'=w):=fun w=>Xd y _ rfl w hyl
 have t110:((y:Int) == 110)=false:=by simp;omega
 have t114:((y:Int) == 114)=false:=by simp;omega
 have t116:((y:Int) == 116)=false:=by simp;omega
 have t120:((y:Int) == 120)=false:=by simp;omega
 have t120':((y:Int) != 120)=true:=by rw[bne_iff_ne];omega
 rw[hyc]at HY;clear h hm hy hyc hy1 hy2 hm2;go_enter func108,ntmps108
 go_wp2_with fail
 refine(HM.out _).mono ?_;rintro e w1 ⟨rfl,rfl⟩
 go_wp2_with fail
 refine(HY.out _).mono ?_;rintro e w1 ⟨rfl,rfl⟩
 go_wp2_with fail
 go_ret3
 exact⟨rfl,rfl⟩
theorem Jl{a b:Nat}(h:bt S a=some x)(e:b=a):bt S b=some x:=by rw[e];exact h
theorem z9A(S:ByteArray)(k m:Nat)(w:World)(hm:m=k+1)(h:bt S k=some 92)(y:Nat)(hy0:y=120)(hy:bt S m=some y)(h1:S.size<=m+1)(hS:S.size<=9007199254740992):
  Calls prog 108 #[.string S,.int .i64 k] w fun e w'=>e=.returned (r3 (.inl (3,S.size)))/\w'=w:=by
 obtain⟨hk,hx⟩:=Qj h;have hkI:(k:Int)<(S.size:Int):=by omega
 have a0:decide ((S.size:Int)<=(k:Int))=false:=by simp;omega
 have HM:Hid (∀w:World,Calls prog 88 #[.int .i64 92] w fun e w'=>e=.returned (.bool true)/\w'=w):=fun w=>Xd 92 true rfl w (by omega)
 have hmI:(k:Int)+1=(m:Int):=by omega
 have hm2:(k:Int)+2=(m:Int)+1:=by omega
 have hyl:=(Qx hy).2;obtain⟨hym,hyx⟩:=Qj hy;have hmk:(m:Int)<(S.size:Int):=by omega
 have a1:decide ((S.size:Int)<=(m:Int))=false:=by simp;omega
 have hwy:IntKind.i64.wrap (y:Int)=(y:Int):=by rw[IntKind.wrap_i64];omega
 have HY:Hid (∀w:World,Calls prog 88 #[.int .i64 y] w fun e w'=>e=.returned (.bool (Qp y))/\w'=w):=fun w=>Xd y _ rfl w hyl
 have hyc:Qp y=false:=by rw[hy0];rfl
 have t110:((y:Int) == 110)=false:=by simp;omega
 have t114:((y:Int) == 114)=false:=by simp;omega
 have t116:((y:Int) == 116)=false:=by simp;omega
 have t120:((y:Int) == 120)=true:=by simp;omega
 have t120':((y:Int) != 120)=false:=by simp;omega
 rw[hyc]at HY;obtain⟨i,hi⟩:∃i,i=m+1:=⟨_,rfl⟩;obtain⟨j,hj⟩:∃j,j=m+2:=⟨_,rfl⟩;have hi2:(k:Int)+2=(i:Int):=by omega
 have hi4:(k:Int)+4=(i:Int)+2:=by omega
 have hij:(i:Int)+1=(j:Int):=by omega
 have hj1:(j:Int)+1=(i:Int)+2:=by omega
 have l1:decide ((i:Int)<(i:Int)+2)=true:=by simp;omega
 have l2:decide ((j:Int)<(i:Int)+2)=true:=by simp;omega
 have l3:decide ((i:Int)+2<(i:Int)+2)=false:=by simp
 have e1:decide ((S.size:Int)<=(i:Int))=true:=by simp;omega
 have e1':S.size<=i:=by omega
 clear h hm hy hyc hy0 hm2 hi hj;go_enter func108,ntmps108
 go_wp2_with fail
 refine(HM.out _).mono ?_;rintro e w1 ⟨rfl,rfl⟩
 go_wp2_with fail
 refine(HY.out _).mono ?_;rintro e w1 ⟨rfl,rfl⟩
 go_wp2_with fail
 refine wp_loop_rounds 1 ?_;rw[rounds_succ]
 go_wp2_with fail
 go_ret3
 exact⟨rfl,rfl⟩
theorem z9B(S:ByteArray)(k m:Nat)(w:World)(hm:m=k+1)(h:bt S k=some 92)(y:Nat)(hy0:y=120)(hy:bt S m=some y)(x1:Nat)(h1:bt S (m+1)=some x1)(hd1:dgv x1=none)(hS:S.size<=9007199254740992):
  Calls prog 108 #[.string S,.int .i64 k] w fun e w'=>e=.returned (r3 (.inl (4,m+1)))/\w'=w:=by
 obtain⟨hk,hx⟩:=Qj h;have hkI:(k:Int)<(S.size:Int):=by omega
 have a0:decide ((S.size:Int)<=(k:Int))=false:=by simp;omega
 have HM:Hid (∀w:World,Calls prog 88 #[.int .i64 92] w fun e w'=>e=.returned (.bool true)/\w'=w):=fun w=>Xd 92 true rfl w (by omega)
 have hmI:(k:Int)+1=(m:Int):=by omega
 have hm2:(k:Int)+2=(m:Int)+1:=by omega
 have hyl:=(Qx hy).2;obtain⟨hym,hyx⟩:=Qj hy;have hmk:(m:Int)<(S.size:Int):=by omega
 have a1:decide ((S.size:Int)<=(m:Int))=false:=by simp;omega
 have hwy:IntKind.i64.wrap (y:Int)=(y:Int):=by rw[IntKind.wrap_i64];omega
 have HY:Hid (∀w:World,Calls prog 88 #[.int .i64 y] w fun e w'=>e=.returned (.bool (Qp y))/\w'=w):=fun w=>Xd y _ rfl w hyl
 have hyc:Qp y=false:=by rw[hy0];rfl
 have t110:((y:Int) == 110)=false:=by simp;omega
 have t114:((y:Int) == 114)=false:=by simp;omega
 have t116:((y:Int) == 116)=false:=by simp;omega
 have t120:((y:Int) == 120)=true:=by simp;omega
 have t120':((y:Int) != 120)=false:=by simp;omega
 rw[hyc]at HY;obtain⟨i,hi⟩:∃i,i=m+1:=⟨_,rfl⟩;obtain⟨j,hj⟩:∃j,j=m+2:=⟨_,rfl⟩;have hi2:(k:Int)+2=(i:Int):=by omega
 have hi4:(k:Int)+4=(i:Int)+2:=by omega
 have hij:(i:Int)+1=(j:Int):=by omega
 have hj1:(j:Int)+1=(i:Int)+2:=by omega
 have l1:decide ((i:Int)<(i:Int)+2)=true:=by simp;omega
 have l2:decide ((j:Int)<(i:Int)+2)=true:=by simp;omega
 have l3:decide ((i:Int)+2<(i:Int)+2)=false:=by simp
 have hp:=Jl h1 hi;have pl:=(Qx hp).2;obtain⟨pk,px⟩:=Qj hp;have pkI:(i:Int)<(S.size:Int):=by omega
 have pd:decide ((S.size:Int)<=(i:Int))=false:=by simp;omega
 have HD1:Hid (∀w:World,Calls prog 132 #[.int .u8 x1] w fun e w'=>e=.returned (.int .i64 (-1))/\w'=w):=fun w=>by have:=Al x1 pl w;rw[Gv hd1]at this;exact this
 unfold r3;simp only;rw[<-hi];clear hp h1 hd1;clear h hm hy hyc hy0 hm2 hi hj;go_enter func108,ntmps108
 go_wp2_with fail
 refine(HM.out _).mono ?_;rintro e w1 ⟨rfl,rfl⟩
 go_wp2_with fail
 refine(HY.out _).mono ?_;rintro e w1 ⟨rfl,rfl⟩
 go_wp2_with fail
 refine wp_loop_rounds 1 ?_;rw[rounds_succ]
 go_wp2_with fail
 refine(HD1.out _).mono ?_;rintro e w1 ⟨rfl,rfl⟩
 go_wp2_with fail
 go_ret3
 exact⟨rfl,rfl⟩
theorem z9C(S:ByteArray)(k m:Nat)(w:World)(hm:m=k+1)(h:bt S k=some 92)(y:Nat)(hy0:y=120)(hy:bt S m=some y)(x1 q:Nat)(h1:bt S (m+1)=some x1)(hd1:dgv x1=some q)(h2:S.size<=m+2)(hS:S.size<=9007199254740992):
  Calls prog 108 #[.string S,.int .i64 k] w fun e w'=>e=.returned (r3 (.inl (3,S.size)))/\w'=w:=by
 obtain⟨hk,hx⟩:=Qj h;have hkI:(k:Int)<(S.size:Int):=by omega
 have a0:decide ((S.size:Int)<=(k:Int))=false:=by simp;omega
 have HM:Hid (∀w:World,Calls prog 88 #[.int .i64 92] w fun e w'=>e=.returned (.bool true)/\w'=w):=fun w=>Xd 92 true rfl w (by omega)
 have hmI:(k:Int)+1=(m:Int):=by omega
 have hm2:(k:Int)+2=(m:Int)+1:=by omega
 have hyl:=(Qx hy).2;obtain⟨hym,hyx⟩:=Qj hy;have hmk:(m:Int)<(S.size:Int):=by omega
 have a1:decide ((S.size:Int)<=(m:Int))=false:=by simp;omega
 have hwy:IntKind.i64.wrap (y:Int)=(y:Int):=by rw[IntKind.wrap_i64];omega
 have HY:Hid (∀w:World,Calls prog 88 #[.int .i64 y] w fun e w'=>e=.returned (.bool (Qp y))/\w'=w):=fun w=>Xd y _ rfl w hyl
 have hyc:Qp y=false:=by rw[hy0];rfl
 have t110:((y:Int) == 110)=false:=by simp;omega
 have t114:((y:Int) == 114)=false:=by simp;omega
 have t116:((y:Int) == 116)=false:=by simp;omega
 have t120:((y:Int) == 120)=true:=by simp;omega
 have t120':((y:Int) != 120)=false:=by simp;omega
 rw[hyc]at HY;obtain⟨i,hi⟩:∃i,i=m+1:=⟨_,rfl⟩;obtain⟨j,hj⟩:∃j,j=m+2:=⟨_,rfl⟩;have hi2:(k:Int)+2=(i:Int):=by omega
 have hi4:(k:Int)+4=(i:Int)+2:=by omega
 have hij:(i:Int)+1=(j:Int):=by omega
 have hj1:(j:Int)+1=(i:Int)+2:=by omega
 have l1:decide ((i:Int)<(i:Int)+2)=true:=by simp;omega
 have l2:decide ((j:Int)<(i:Int)+2)=true:=by simp;omega
 have l3:decide ((i:Int)+2<(i:Int)+2)=false:=by simp
 have hp:=Jl h1 hi;have pl:=(Qx hp).2;obtain⟨pk,px⟩:=Qj hp;have pkI:(i:Int)<(S.size:Int):=by omega
 have pd:decide ((S.size:Int)<=(i:Int))=false:=by simp;omega
 have HD1:Hid (∀w:World,Calls prog 132 #[.int .u8 x1] w fun e w'=>e=.returned (.int .i64 q)/\w'=w):=fun w=>by have:=Al x1 pl w;rw[Uh hd1]at this;exact this
 have hq:=(Dv hd1).1;have hq0:decide ((q:Int)<0)=false:=by simp
 have hqI:(q:Int)<=15:=by omega
 have e1:decide ((S.size:Int)<=(j:Int))=true:=by simp;omega
 have e1':S.size<=j:=by omega
 clear hp h1 hd1;clear h hm hy hyc hy0 hm2 hi hj;go_enter func108,ntmps108
 go_wp2_with fail
 refine(HM.out _).mono ?_;rintro e w1 ⟨rfl,rfl⟩
 go_wp2_with fail
 refine(HY.out _).mono ?_;rintro e w1 ⟨rfl,rfl⟩
 go_wp2_with fail
 refine wp_loop_rounds 2 ?_;rw[rounds_succ]
 go_wp2_with fail
 refine(HD1.out _).mono ?_;rintro e w1 ⟨rfl,rfl⟩
 go_wp2_with fail
 rw[rounds_succ]
 go_wp2_with fail
 go_ret3
 exact⟨rfl,rfl⟩
theorem z9D(S:ByteArray)(k m:Nat)(w:World)(hm:m=k+1)(h:bt S k=some 92)(y:Nat)(hy0:y=120)(hy:bt S m=some y)(x1 q x2:Nat)(h1:bt S (m+1)=some x1)(hd1:dgv x1=some q)(h2:bt S (m+2)=some x2)(hd2:dgv x2=none)(hS:S.size<=9007199254740992):
  Calls prog 108 #[.string S,.int .i64 k] w fun e w'=>e=.returned (r3 (.inl (4,m+2)))/\w'=w:=by
 obtain⟨hk,hx⟩:=Qj h;have hkI:(k:Int)<(S.size:Int):=by omega
 have a0:decide ((S.size:Int)<=(k:Int))=false:=by simp;omega
 have HM:Hid (∀w:World,Calls prog 88 #[.int .i64 92] w fun e w'=>e=.returned (.bool true)/\w'=w):=fun w=>Xd 92 true rfl w (by omega)
 have hmI:(k:Int)+1=(m:Int):=by omega
 have hm2:(k:Int)+2=(m:Int)+1:=by omega
 have hyl:=(Qx hy).2;obtain⟨hym,hyx⟩:=Qj hy;have hmk:(m:Int)<(S.size:Int):=by omega
 have a1:decide ((S.size:Int)<=(m:Int))=false:=by simp;omega
 have hwy:IntKind.i64.wrap (y:Int)=(y:Int):=by rw[IntKind.wrap_i64];omega
 have HY:Hid (∀w:World,Calls prog 88 #[.int .i64 y] w fun e w'=>e=.returned (.bool (Qp y))/\w'=w):=fun w=>Xd y _ rfl w hyl
 have hyc:Qp y=false:=by rw[hy0];rfl
 have t110:((y:Int) == 110)=false:=by simp;omega
 have t114:((y:Int) == 114)=false:=by simp;omega
 have t116:((y:Int) == 116)=false:=by simp;omega
 have t120:((y:Int) == 120)=true:=by simp;omega
 have t120':((y:Int) != 120)=false:=by simp;omega
 rw[hyc]at HY;obtain⟨i,hi⟩:∃i,i=m+1:=⟨_,rfl⟩;obtain⟨j,hj⟩:∃j,j=m+2:=⟨_,rfl⟩;have hi2:(k:Int)+2=(i:Int):=by omega
 have hi4:(k:Int)+4=(i:Int)+2:=by omega
 have hij:(i:Int)+1=(j:Int):=by omega
 have hj1:(j:Int)+1=(i:Int)+2:=by omega
 have l1:decide ((i:Int)<(i:Int)+2)=true:=by simp;omega
 have l2:decide ((j:Int)<(i:Int)+2)=true:=by simp;omega
 have l3:decide ((i:Int)+2<(i:Int)+2)=false:=by simp
 have hp:=Jl h1 hi;have pl:=(Qx hp).2;obtain⟨pk,px⟩:=Qj hp;have pkI:(i:Int)<(S.size:Int):=by omega
 have pd:decide ((S.size:Int)<=(i:Int))=false:=by simp;omega
 have HD1:Hid (∀w:World,Calls prog 132 #[.int .u8 x1] w fun e w'=>e=.returned (.int .i64 q)/\w'=w):=fun w=>by have:=Al x1 pl w;rw[Uh hd1]at this;exact this
 have hq:=(Dv hd1).1;have hq0:decide ((q:Int)<0)=false:=by simp
 have hqI:(q:Int)<=15:=by omega
 have hs:=Jl h2 hj;have sl:=(Qx hs).2;obtain⟨sk,sx⟩:=Qj hs;have skI:(j:Int)<(S.size:Int):=by omega
 have sd:decide ((S.size:Int)<=(j:Int))=false:=by simp;omega
 have HD2:Hid (∀w:World,Calls prog 132 #[.int .u8 x2] w fun e w'=>e=.returned (.int .i64 (-1))/\w'=w):=fun w=>by have:=Al x2 sl w;rw[Gv hd2]at this;exact this
 unfold r3;simp only;rw[<-hj];clear hp h1 hd1 hs h2 hd2;clear h hm hy hyc hy0 hm2 hi hj;go_enter func108,ntmps108
 go_wp2_with fail
 refine(HM.out _).mono ?_;rintro e w1 ⟨rfl,rfl⟩
 go_wp2_with fail
 refine(HY.out _).mono ?_;rintro e w1 ⟨rfl,rfl⟩
 go_wp2_with fail
 refine wp_loop_rounds 2 ?_;rw[rounds_succ]
 go_wp2_with fail
 refine(HD1.out _).mono ?_;rintro e w1 ⟨rfl,rfl⟩
 go_wp2_with fail
 rw[rounds_succ]
 go_wp2_with fail
 refine(HD2.out _).mono ?_;rintro e w1 ⟨rfl,rfl⟩
 go_wp2_with fail
 go_ret3
 exact⟨rfl,rfl⟩
theorem z9E(S:ByteArray)(k m:Nat)(w:World)(hm:m=k+1)(h:bt S k=some 92)(y:Nat)(hy0:y=120)(hy:bt S m=some y)(x1 q x2 r:Nat)(h1:bt S (m+1)=some x1)(hd1:dgv x1=some q)(h2:bt S (m+2)=some x2)(hd2:dgv x2=some r)(hS:S.size<=9007199254740992):
  Calls prog 108 #[.string S,.int .i64 k] w fun e w'=>e=.returned (r3 (.inr (16*q+r,m+3)))/\w'=w:=by
 obtain⟨hk,hx⟩:=Qj h;have hkI:(k:Int)<(S.size:Int):=by omega
 have a0:decide ((S.size:Int)<=(k:Int))=false:=by simp;omega
 have HM:Hid (∀w:World,Calls prog 88 #[.int .i64 92] w fun e w'=>e=.returned (.bool true)/\w'=w):=fun w=>Xd 92 true rfl w (by omega)
 have hmI:(k:Int)+1=(m:Int):=by omega
 have hm2:(k:Int)+2=(m:Int)+1:=by omega
 have hyl:=(Qx hy).2;obtain⟨hym,hyx⟩:=Qj hy;have hmk:(m:Int)<(S.size:Int):=by omega
 have a1:decide ((S.size:Int)<=(m:Int))=false:=by simp;omega
 have hwy:IntKind.i64.wrap (y:Int)=(y:Int):=by rw[IntKind.wrap_i64];omega
 have HY:Hid (∀w:World,Calls prog 88 #[.int .i64 y] w fun e w'=>e=.returned (.bool (Qp y))/\w'=w):=fun w=>Xd y _ rfl w hyl
 have hyc:Qp y=false:=by rw[hy0];rfl
 have t110:((y:Int) == 110)=false:=by simp;omega
 have t114:((y:Int) == 114)=false:=by simp;omega
 have t116:((y:Int) == 116)=false:=by simp;omega
 have t120:((y:Int) == 120)=true:=by simp;omega
 have t120':((y:Int) != 120)=false:=by simp;omega
 rw[hyc]at HY;obtain⟨i,hi⟩:∃i,i=m+1:=⟨_,rfl⟩;obtain⟨j,hj⟩:∃j,j=m+2:=⟨_,rfl⟩;have hi2:(k:Int)+2=(i:Int):=by omega
 have hi4:(k:Int)+4=(i:Int)+2:=by omega
 have hij:(i:Int)+1=(j:Int):=by omega
 have hj1:(j:Int)+1=(i:Int)+2:=by omega
 have l1:decide ((i:Int)<(i:Int)+2)=true:=by simp;omega
 have l2:decide ((j:Int)<(i:Int)+2)=true:=by simp;omega
 have l3:decide ((i:Int)+2<(i:Int)+2)=false:=by simp
 have hp:=Jl h1 hi;have pl:=(Qx hp).2;obtain⟨pk,px⟩:=Qj hp;have pkI:(i:Int)<(S.size:Int):=by omega
 have pd:decide ((S.size:Int)<=(i:Int))=false:=by simp;omega
 have HD1:Hid (∀w:World,Calls prog 132 #[.int .u8 x1] w fun e w'=>e=.returned (.int .i64 q)/\w'=w):=fun w=>by have:=Al x1 pl w;rw[Uh hd1]at this;exact this
 have hq:=(Dv hd1).1;have hq0:decide ((q:Int)<0)=false:=by simp
 have hqI:(q:Int)<=15:=by omega
 have hs:=Jl h2 hj;have sl:=(Qx hs).2;obtain⟨sk,sx⟩:=Qj hs;have skI:(j:Int)<(S.size:Int):=by omega
 have sd:decide ((S.size:Int)<=(j:Int))=false:=by simp;omega
 have HD2:Hid (∀w:World,Calls prog 132 #[.int .u8 x2] w fun e w'=>e=.returned (.int .i64 r)/\w'=w):=fun w=>by have:=Al x2 sl w;rw[Uh hd2]at this;exact this
 have hr:=(Dv hd2).1;have hr0:decide ((r:Int)<0)=false:=by simp
 have hrI:(r:Int)<=15:=by omega
 have hn:((m+3:Nat):Int)=(i:Int)+2:=by omega
 have hv:((16*q+r:Nat):Int)=16*(q:Int)+(r:Int):=by omega
 unfold r3;simp only;rw[hn,hv];clear hp h1 hd1 hs h2 hd2 hn hv;clear h hm hy hyc hy0 hm2 hi hj;go_enter func108,ntmps108
 go_wp2_with fail
 refine(HM.out _).mono ?_;rintro e w1 ⟨rfl,rfl⟩
 go_wp2_with fail
 refine(HY.out _).mono ?_;rintro e w1 ⟨rfl,rfl⟩
 go_wp2_with fail
 refine wp_loop_rounds 3 ?_;rw[rounds_succ]
 go_wp2_with fail
 refine(HD1.out _).mono ?_;rintro e w1 ⟨rfl,rfl⟩
 go_wp2_with fail
 rw[rounds_succ]
 go_wp2_with fail
 refine(HD2.out _).mono ?_;rintro e w1 ⟨rfl,rfl⟩
 go_wp2_with fail
 rw[rounds_succ]
 go_wp2_with fail
 go_ret3
 exact⟨rfl,rfl⟩
theorem Fz(S:ByteArray)(k:Nat)(w:World)(hS:S.size<=9007199254740992):
  Calls prog 108 #[.string S,.int .i64 k] w fun e w'=>e=.returned (r3 (sg S k))/\w'=w:=by
 by_cases h:bt S k=some 92
 ·have hsg:sg S k=esc S (k+1):=by unfold sg;rw[h];simp
  rw[hsg];cases hy:bt S (k+1)with
  |none=>
   have:esc S (k+1)=.inl (3,S.size):=by unfold esc;rw[hy];simp only;rw[Gc (Qm hy)]
   rw[this];exact z9u S k (k+1) w rfl h (Qm hy) hS
  |some y=>
   cases hv:Yq y with
   |some b=>
    rw[z9r hy hv];unfold Yq at hv;by_cases h1:y=110
    ·rw[if_pos h1]at hv;simp at hv;subst hv;exact z9v S k (k+1) w rfl h y h1 hy hS
    ·rw[if_neg h1]at hv
     by_cases h2:y=114
     ·rw[if_pos h2]at hv;simp at hv;subst hv;exact z9w S k (k+1) w rfl h y h2 hy hS
     ·rw[if_neg h2]at hv
      by_cases h3:y=116
      ·rw[if_pos h3]at hv;simp at hv;subst hv;exact z9x S k (k+1) w rfl h y h3 hy hS
      ·rw[if_neg h3]at hv
       cases hm:Qp y with
       |false=>rw[hm]at hv;simp at hv
       |true=>rw[hm]at hv;simp at hv;subst hv;exact z9y S k (k+1) w rfl h y hm hy hS
   |none=>
    have hv':=hv;unfold Yq at hv';have h1:y≠110:=fun e=>by rw[if_pos e]at hv';cases hv'
    rw[if_neg h1]at hv';have h2:y≠114:=fun e=>by rw[if_pos e]at hv';cases hv'
    rw[if_neg h2]at hv';have h3:y≠116:=fun e=>by rw[if_pos e]at hv';cases hv'
    rw[if_neg h3]at hv';have hmk:Qp y=false:=by cases hm:Qp y with|false=>rfl|true=>rw[hm]at hv';simp at hv'
    by_cases h4:y=120
    ·subst h4
     rw[z9s hy];have hdg:∀i,dg S i=(bt S i).bind dgv:=fun i=>rfl
     cases hb1:bt S (k+1+1)with
     |none=>
      have:digs S (k+1+1)=.inl (3,S.size):=by unfold digs;rw[hdg,hb1];simp only[Option.bind_none];rw[Gc (Qm hb1)]
      rw[this];exact z9A S k (k+1) w rfl h 120 rfl hy (Qm hb1) hS
     |some x1=>
      cases hd1:dgv x1 with
      |none=>
       have:digs S (k+1+1)=.inl (4,k+1+1):=by unfold digs;rw[hdg,hb1];simp only[Option.bind_some,hd1];rw[Gl (Qx hb1).1]
       rw[this];exact z9B S k (k+1) w rfl h 120 rfl hy x1 hb1 hd1 hS
      |some q=>
       cases hb2:bt S (k+1+2)with
       |none=>
        have:digs S (k+1+1)=.inl (3,S.size):=by unfold digs;rw[hdg,hb1];simp only[Option.bind_some,hd1];rw[hdg,hb2];simp only[Option.bind_none];rw[Gc (Qm hb2)]
        rw[this];exact z9C S k (k+1) w rfl h 120 rfl hy x1 q hb1 hd1 (Qm hb2) hS
       |some x2=>
        cases hd2:dgv x2 with
        |none=>
         have:digs S (k+1+1)=.inl (4,k+1+2):=by unfold digs;rw[hdg,hb1];simp only[Option.bind_some,hd1];rw[hdg,hb2];simp only[Option.bind_some,hd2];rw[Gl (Qx hb2).1]
         rw[this];exact z9D S k (k+1) w rfl h 120 rfl hy x1 q x2 hb1 hd1 hb2 hd2 hS
        |some r=>
         have:digs S (k+1+1)=.inr (16*q+r,k+1+3):=by unfold digs;rw[hdg,hb1];simp only[Option.bind_some,hd1];rw[hdg,hb2];simp only[Option.bind_some,hd2]
         rw[this];exact z9E S k (k+1) w rfl h 120 rfl hy x1 q x2 r hb1 hd1 hb2 hd2 hS
    ·rw[z9t hy hv h4]
     exact z9z S k (k+1) w rfl h y hmk ⟨h1,h2,h3⟩ h4 hy hS
 ·exact z9q S k w h hS
end Go.Proofs.YtikfnaffiehpaaaGreatDoor
