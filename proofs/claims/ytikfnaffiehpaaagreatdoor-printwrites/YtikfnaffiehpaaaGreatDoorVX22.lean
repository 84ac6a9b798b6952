/- Lemmas for the last text. Conditions: those that each names. -/
import Derived.Test.YtikfnaffiehpaaaGreatDoorVS3ToXK1
import Derived.Test.YtikfnaffiehpaaaGreatDoorVXK2
set_option linter.unusedVariables false
set_option maxRecDepth 100000
set_option maxHeartbeats 2000000
namespace Go.Proofs.YtikfnaffiehpaaaGreatDoor
open Go.Proofs.Tryz
open Go.RowKit
theorem Bq(x:Nat)(hx:x<256)(w:World):
  Calls prog 131 #[.int .u8 x] w fun e w'=>e=.returned (.int .i64 (dgi x))/\w'=w:=by
 have hc:(48<=x/\x<=57)∨(97<=x/\x<=102)∨x<48∨(57<x/\x<97)∨102<x:=by omega
 rcases hc with h1|h1|h1|h1|h1
 ·have hd:dgi x=(x:Int)-48:=by rw[Uh (d:=x-48) (by unfold dgv;rw[if_pos h1])];omega
  rw[hd];have a1:decide (48<=(x:Int))=true:=by simp;omega
  have a2:decide ((x:Int)<=57)=true:=by simp;omega
  have a3:IntKind.u8.wrap ((x:Int)-48)=(x:Int)-48:=by rw[IntKind.wrap_u8];omega
  have a4:IntKind.i64.wrap ((x:Int)-48)=(x:Int)-48:=by rw[IntKind.wrap_i64];omega
  have b1:(48:Int)<=(x:Int):=by omega
  have b2:(x:Int)<=57:=by omega
  clear hd h1;go_enter func131,ntmps131
  go_wp2_with fail
  go_ret;exact⟨rfl,rfl⟩
 ·have hd:dgi x=(x:Int)-97+10:=by rw[Uh (d:=x-87) (by unfold dgv;rw[if_neg (by omega),if_pos h1])];omega
  rw[hd];have a1:decide (48<=(x:Int))=true:=by simp;omega
  have a2:decide ((x:Int)<=57)=false:=by simp;omega
  have a5:decide (97<=(x:Int))=true:=by simp;omega
  have a6:decide ((x:Int)<=102)=true:=by simp;omega
  have a3:IntKind.u8.wrap ((x:Int)-97)=(x:Int)-97:=by rw[IntKind.wrap_u8];omega
  have a4:IntKind.i64.wrap ((x:Int)-97)=(x:Int)-97:=by rw[IntKind.wrap_i64];omega
  have b1:(97:Int)<=(x:Int):=by omega
  have b2:(x:Int)<=102:=by omega
  clear hd h1;go_enter func131,ntmps131
  go_wp2_with fail
  go_ret;exact⟨rfl,rfl⟩
 ·rw[Gv (by unfold dgv;rw[if_neg (by omega),if_neg (by omega)])]
  have a1:decide (48<=(x:Int))=false:=by simp;omega
  have a2:decide (97<=(x:Int))=false:=by simp;omega
  clear h1;go_enter func131,ntmps131
  go_wp2_with fail
  go_ret;exact⟨rfl,rfl⟩
 ·rw[Gv (by unfold dgv;rw[if_neg (by omega),if_neg (by omega)])]
  have a1:decide (48<=(x:Int))=true:=by simp;omega
  have a3:decide ((x:Int)<=57)=false:=by simp;omega
  have a2:decide (97<=(x:Int))=false:=by simp;omega
  clear h1;go_enter func131,ntmps131
  go_wp2_with fail
  go_ret;exact⟨rfl,rfl⟩
 ·rw[Gv (by unfold dgv;rw[if_neg (by omega),if_neg (by omega)])]
  have a1:decide (48<=(x:Int))=true:=by simp;omega
  have a3:decide ((x:Int)<=57)=false:=by simp;omega
  have a2:decide (97<=(x:Int))=true:=by simp;omega
  have a4:decide ((x:Int)<=102)=false:=by simp;omega
  clear h1;go_enter func131,ntmps131
  go_wp2_with fail
  go_ret;exact⟨rfl,rfl⟩
def r3u(r:Rs):Value:=
 match r with
 | .inr (b,n)=>.tuple #[.int .u8 b,.int .i64 n,.int .i64 0]
 | .inl c=>.tuple #[.int .u8 0,.int .i64 (c.2:Int),.int .i64 (c.1:Int)]
theorem y0Z(S:ByteArray)(k m:Nat)(w:World)(hm:m=k+1)(h:bt S k=some 92)(hy:S.size<=m)(hS:S.size<=9007199254740992):
  Calls prog 107 #[.string S,.int .i64 k] w fun e w'=>e=.returned (r3u (.inl (3,S.size)))/\w'=w:=by
 obtain⟨hk,hx⟩:=Qj h;have hkI:(k:Int)<(S.size:Int):=by omega
 have hmI:(k:Int)+1=(m:Int):=by omega
 have hm2:(k:Int)+2=(m:Int)+1:=by omega
 have a1:decide ((S.size:Int)<=(m:Int))=true:=by simp;omega
 clear h hm hm2;go_enter func107,ntmps107
 go_wp2_with fail
 go_ret3
 exact⟨rfl,rfl⟩
theorem y1a(S:ByteArray)(k m:Nat)(w:World)(hm:m=k+1)(h:bt S k=some 92)(y:Nat)(hyc:y=110)(hy:bt S m=some y)(hS:S.size<=9007199254740992):
  Calls prog 107 #[.string S,.int .i64 k] w fun e w'=>e=.returned (r3u (.inr (10,m+1)))/\w'=w:=by
 obtain⟨hk,hx⟩:=Qj h;have hkI:(k:Int)<(S.size:Int):=by omega
 have hmI:(k:Int)+1=(m:Int):=by omega
 have hm2:(k:Int)+2=(m:Int)+1:=by omega
 have hyl:=(Qx hy).2;obtain⟨hym,hyx⟩:=Qj hy;have hmk:(m:Int)<(S.size:Int):=by omega
 have a1:decide ((S.size:Int)<=(m:Int))=false:=by simp;omega
 have t110:((y:Int) == 110)=true:=by simp;omega
 have hn:((m+1:Nat):Int)=(m:Int)+1:=by omega
 unfold r3u;simp only;rw[hn];clear h hm hy hyc hn;go_enter func107,ntmps107
 go_wp2_with fail
 go_ret3
 exact⟨rfl,rfl⟩
theorem y1b(S:ByteArray)(k m:Nat)(w:World)(hm:m=k+1)(h:bt S k=some 92)(y:Nat)(hyc:y=114)(hy:bt S m=some y)(hS:S.size<=9007199254740992):
  Calls prog 107 #[.string S,.int .i64 k] w fun e w'=>e=.returned (r3u (.inr (13,m+1)))/\w'=w:=by
 obtain⟨hk,hx⟩:=Qj h;have hkI:(k:Int)<(S.size:Int):=by omega
 have hmI:(k:Int)+1=(m:Int):=by omega
 have hm2:(k:Int)+2=(m:Int)+1:=by omega
 have hyl:=(Qx hy).2;obtain⟨hym,hyx⟩:=Qj hy;have hmk:(m:Int)<(S.size:Int):=by omega
 have a1:decide ((S.size:Int)<=(m:Int))=false:=by simp;omega
 have t110:((y:Int) == 110)=false:=by simp;omega
 have t114:((y:Int) == 114)=true:=by simp;omega
 have hn:((m+1:Nat):Int)=(m:Int)+1:=by omega
 unfold r3u;simp only;rw[hn];clear h hm hy hyc hn;go_enter func107,ntmps107
 go_wp2_with fail
 go_ret3
 exact⟨rfl,rfl⟩
theorem y1c(S:ByteArray)(k m:Nat)(w:World)(hm:m=k+1)(h:bt S k=some 92)(y:Nat)(hyc:y=116)(hy:bt S m=some y)(hS:S.size<=9007199254740992):
  Calls prog 107 #[.string S,.int .i64 k] w fun e w'=>e=.returned (r3u (.inr (9,m+1)))/\w'=w:=by
 obtain⟨hk,hx⟩:=Qj h;have hkI:(k:Int)<(S.size:Int):=by omega
 have hmI:(k:Int)+1=(m:Int):=by omega
 have hm2:(k:Int)+2=(m:Int)+1:=by omega
 have hyl:=(Qx hy).2;obtain⟨hym,hyx⟩:=Qj hy;have hmk:(m:Int)<(S.size:Int):=by omega
 have a1:decide ((S.size:Int)<=(m:Int))=false:=by simp;omega
 have t110:((y:Int) == 110)=false:=by simp;omega
 have t114:((y:Int) == 114)=false:=by simp;omega
 have t116:((y:Int) == 116)=true:=by simp;omega
 have hn:((m+1:Nat):Int)=(m:Int)+1:=by omega
 unfold r3u;simp only;rw[hn];clear h hm hy hyc hn;go_enter func107,ntmps107
 go_wp2_with fail
 go_ret3
 exact⟨rfl,rfl⟩
theorem y1d(S:ByteArray)(k m:Nat)(w:World)(hm:m=k+1)(h:bt S k=some 92)(y:Nat)(hyc:y=92)(hy:bt S m=some y)(hS:S.size<=9007199254740992):
  Calls prog 107 #[.string S,.int .i64 k] w fun e w'=>e=.returned (r3u (.inr (y,m+1)))/\w'=w:=by
 obtain⟨hk,hx⟩:=Qj h;have hkI:(k:Int)<(S.size:Int):=by omega
 have hmI:(k:Int)+1=(m:Int):=by omega
 have hm2:(k:Int)+2=(m:Int)+1:=by omega
 have hyl:=(Qx hy).2;obtain⟨hym,hyx⟩:=Qj hy;have hmk:(m:Int)<(S.size:Int):=by omega
 have a1:decide ((S.size:Int)<=(m:Int))=false:=by simp;omega
 have t110:((y:Int) == 110)=false:=by simp;omega
 have t114:((y:Int) == 114)=false:=by simp;omega
 have t116:((y:Int) == 116)=false:=by simp;omega
 have t92:((y:Int) == 92)=true:=by simp;omega
 have hn:((m+1:Nat):Int)=(m:Int)+1:=by omega
 unfold r3u;simp only;rw[hn];clear h hm hy hyc hn;go_enter func107,ntmps107
 go_wp2_with fail
 go_ret3
 exact⟨rfl,rfl⟩
theorem y1e(S:ByteArray)(k m:Nat)(w:World)(hm:m=k+1)(h:bt S k=some 92)(y:Nat)(hyc:y=34)(hy:bt S m=some y)(hS:S.size<=9007199254740992):
  Calls prog 107 #[.string S,.int .i64 k] w fun e w'=>e=.returned (r3u (.inr (y,m+1)))/\w'=w:=by
 obtain⟨hk,hx⟩:=Qj h;have hkI:(k:Int)<(S.size:Int):=by omega
 have hmI:(k:Int)+1=(m:Int):=by omega
 have hm2:(k:Int)+2=(m:Int)+1:=by omega
 have hyl:=(Qx hy).2;obtain⟨hym,hyx⟩:=Qj hy;have hmk:(m:Int)<(S.size:Int):=by omega
 have a1:decide ((S.size:Int)<=(m:Int))=false:=by simp;omega
 have t110:((y:Int) == 110)=false:=by simp;omega
 have t114:((y:Int) == 114)=false:=by simp;omega
 have t116:((y:Int) == 116)=false:=by simp;omega
 have t92:((y:Int) == 92)=false:=by simp;omega
 have t34:((y:Int) == 34)=true:=by simp;omega
 have hn:((m+1:Nat):Int)=(m:Int)+1:=by omega
 unfold r3u;simp only;rw[hn];clear h hm hy hyc hn;go_enter func107,ntmps107
 go_wp2_with fail
 go_ret3
 exact⟨rfl,rfl⟩
theorem y1f(S:ByteArray)(k m:Nat)(w:World)(hm:m=k+1)(h:bt S k=some 92)(y:Nat)(hyc:y=39)(hy:bt S m=some y)(hS:S.size<=9007199254740992):
  Calls prog 107 #[.string S,.int .i64 k] w fun e w'=>e=.returned (r3u (.inr (y,m+1)))/\w'=w:=by
 obtain⟨hk,hx⟩:=Qj h;have hkI:(k:Int)<(S.size:Int):=by omega
 have hmI:(k:Int)+1=(m:Int):=by omega
 have hm2:(k:Int)+2=(m:Int)+1:=by omega
 have hyl:=(Qx hy).2;obtain⟨hym,hyx⟩:=Qj hy;have hmk:(m:Int)<(S.size:Int):=by omega
 have a1:decide ((S.size:Int)<=(m:Int))=false:=by simp;omega
 have t110:((y:Int) == 110)=false:=by simp;omega
 have t114:((y:Int) == 114)=false:=by simp;omega
 have t116:((y:Int) == 116)=false:=by simp;omega
 have t92:((y:Int) == 92)=false:=by simp;omega
 have t34:((y:Int) == 34)=false:=by simp;omega
 have t39:((y:Int) == 39)=true:=by simp;omega
 have hn:((m+1:Nat):Int)=(m:Int)+1:=by omega
 unfold r3u;simp only;rw[hn];clear h hm hy hyc hn;go_enter func107,ntmps107
 go_wp2_with fail
 go_ret3
 exact⟨rfl,rfl⟩
theorem y1g(S:ByteArray)(k m:Nat)(w:World)(hm:m=k+1)(h:bt S k=some 92)(y:Nat)(hyc:y≠110/\y≠114/\y≠116/\y≠92/\y≠34/\y≠39/\y≠120)(hy:bt S m=some y)(hS:S.size<=9007199254740992):
  Calls prog 107 #[.string S,.int .i64 k] w fun e w'=>e=.returned (r3u (.inl (4,m)))/\w'=w:=by
 obtain⟨hk,hx⟩:=Qj h;have hkI:(k:Int)<(S.size:Int):=by omega
 have hmI:(k:Int)+1=(m:Int):=by omega
 have hm2:(k:Int)+2=(m:Int)+1:=by omega
 have hyl:=(Qx hy).2;obtain⟨hym,hyx⟩:=Qj hy;have hmk:(m:Int)<(S.size:Int):=by omega
 have a1:decide ((S.size:Int)<=(m:Int))=false:=by simp;omega
 have t110:((y:Int) == 110)=false:=by simp;omega
 have t114:((y:Int) == 114)=false:=by simp;omega
 have t116:((y:Int) == 116)=false:=by simp;omega
 have t92:((y:Int) == 92)=false:=by simp;omega
 have t34:((y:Int) == 34)=false:=by simp;omega
 have t39:((y:Int) == 39)=false:=by simp;omega
 have t120:((y:Int) == 120)=false:=by simp;omega
 clear h hm hy hyc hm2;go_enter func107,ntmps107
 go_wp2_with fail
 go_ret3
 exact⟨rfl,rfl⟩
theorem y1h(S:ByteArray)(k m:Nat)(w:World)(hm:m=k+1)(h:bt S k=some 92)(y:Nat)(hy0:y=120)(hy:bt S m=some y)(h1:S.size<=m+1)(hS:S.size<=9007199254740992):
  Calls prog 107 #[.string S,.int .i64 k] w fun e w'=>e=.returned (r3u (.inl (3,S.size)))/\w'=w:=by
 obtain⟨hk,hx⟩:=Qj h;have hkI:(k:Int)<(S.size:Int):=by omega
 have hmI:(k:Int)+1=(m:Int):=by omega
 have hm2:(k:Int)+2=(m:Int)+1:=by omega
 have hyl:=(Qx hy).2;obtain⟨hym,hyx⟩:=Qj hy;have hmk:(m:Int)<(S.size:Int):=by omega
 have a1:decide ((S.size:Int)<=(m:Int))=false:=by simp;omega
 have t110:((y:Int) == 110)=false:=by simp;omega
 have t114:((y:Int) == 114)=false:=by simp;omega
 have t116:((y:Int) == 116)=false:=by simp;omega
 have t92:((y:Int) == 92)=false:=by simp;omega
 have t34:((y:Int) == 34)=false:=by simp;omega
 have t39:((y:Int) == 39)=false:=by simp;omega
 have t120:((y:Int) == 120)=true:=by simp;omega
 obtain⟨i,hi⟩:∃i,i=m+1:=⟨_,rfl⟩;obtain⟨j,hj⟩:∃j,j=m+2:=⟨_,rfl⟩;have hi2:(k:Int)+2=(i:Int):=by omega
 have hi4:(k:Int)+4=(i:Int)+2:=by omega
 have hij:(i:Int)+1=(j:Int):=by omega
 have hj1:(j:Int)+1=(i:Int)+2:=by omega
 have l1:decide ((i:Int)<(i:Int)+2)=true:=by simp;omega
 have l2:decide ((j:Int)<(i:Int)+2)=true:=by simp;omega
 have l3:decide ((i:Int)+2<(i:Int)+2)=false:=by simp
 have e1:decide ((S.size:Int)<=(i:Int))=true:=by simp;omega
 have e1':S.size<=i:=by omega
 clear h hm hy hy0 hm2 hi hj;go_enter func107,ntmps107
 go_wp2_with fail
 refine wp_loop_rounds 1 ?_;rw[rounds_succ]
 go_wp2_with fail
 go_ret3
 exact⟨rfl,rfl⟩
theorem y1i(S:ByteArray)(k m:Nat)(w:World)(hm:m=k+1)(h:bt S k=some 92)(y:Nat)(hy0:y=120)(hy:bt S m=some y)(x1:Nat)(h1:bt S (m+1)=some x1)(hd1:dgv x1=none)(hS:S.size<=9007199254740992):
  Calls prog 107 #[.string S,.int .i64 k] w fun e w'=>e=.returned (r3u (.inl (4,m+1)))/\w'=w:=by
 obtain⟨hk,hx⟩:=Qj h;have hkI:(k:Int)<(S.size:Int):=by omega
 have hmI:(k:Int)+1=(m:Int):=by omega
 have hm2:(k:Int)+2=(m:Int)+1:=by omega
 have hyl:=(Qx hy).2;obtain⟨hym,hyx⟩:=Qj hy;have hmk:(m:Int)<(S.size:Int):=by omega
 have a1:decide ((S.size:Int)<=(m:Int))=false:=by simp;omega
 have t110:((y:Int) == 110)=false:=by simp;omega
 have t114:((y:Int) == 114)=false:=by simp;omega
 have t116:((y:Int) == 116)=false:=by simp;omega
 have t92:((y:Int) == 92)=false:=by simp;omega
 have t34:((y:Int) == 34)=false:=by simp;omega
 have t39:((y:Int) == 39)=false:=by simp;omega
 have t120:((y:Int) == 120)=true:=by simp;omega
 obtain⟨i,hi⟩:∃i,i=m+1:=⟨_,rfl⟩;obtain⟨j,hj⟩:∃j,j=m+2:=⟨_,rfl⟩;have hi2:(k:Int)+2=(i:Int):=by omega
 have hi4:(k:Int)+4=(i:Int)+2:=by omega
 have hij:(i:Int)+1=(j:Int):=by omega
 have hj1:(j:Int)+1=(i:Int)+2:=by omega
 have l1:decide ((i:Int)<(i:Int)+2)=true:=by simp;omega
 have l2:decide ((j:Int)<(i:Int)+2)=true:=by simp;omega
 have l3:decide ((i:Int)+2<(i:Int)+2)=false:=by simp
 have hp:=Jl h1 hi;have pl:=(Qx hp).2;obtain⟨pk,px⟩:=Qj hp;have pkI:(i:Int)<(S.size:Int):=by omega
 have pd:decide ((S.size:Int)<=(i:Int))=false:=by simp;omega
 have HD1:Hid (∀w:World,Calls prog 131 #[.int .u8 x1] w fun e w'=>e=.returned (.int .i64 (-1))/\w'=w):=fun w=>by have:=Bq x1 pl w;rw[Gv hd1]at this;exact this
 unfold r3u;simp only;rw[<-hi];clear hp h1 hd1;clear h hm hy hy0 hm2 hi hj;go_enter func107,ntmps107
 go_wp2_with fail
 refine wp_loop_rounds 1 ?_;rw[rounds_succ]
 go_wp2_with fail
 refine(HD1.out _).mono ?_;rintro e w1 ⟨rfl,rfl⟩
 go_wp2_with fail
 go_ret3
 exact⟨rfl,rfl⟩
theorem y1j(S:ByteArray)(k m:Nat)(w:World)(hm:m=k+1)(h:bt S k=some 92)(y:Nat)(hy0:y=120)(hy:bt S m=some y)(x1 q:Nat)(h1:bt S (m+1)=some x1)(hd1:dgv x1=some q)(h2:S.size<=m+2)(hS:S.size<=9007199254740992):
  Calls prog 107 #[.string S,.int .i64 k] w fun e w'=>e=.returned (r3u (.inl (3,S.size)))/\w'=w:=by
 obtain⟨hk,hx⟩:=Qj h;have hkI:(k:Int)<(S.size:Int):=by omega
 have hmI:(k:Int)+1=(m:Int):=by omega
 have hm2:(k:Int)+2=(m:Int)+1:=by omega
 have hyl:=(Qx hy).2;obtain⟨hym,hyx⟩:=Qj hy;have hmk:(m:Int)<(S.size:Int):=by omega
 have a1:decide ((S.size:Int)<=(m:Int))=false:=by simp;omega
 have t110:((y:Int) == 110)=false:=by simp;omega
 have t114:((y:Int) == 114)=false:=by simp;omega
 have t116:((y:Int) == 116)=false:=by simp;omega
 have t92:((y:Int) == 92)=false:=by simp;omega
 have t34:((y:Int) == 34)=false:=by simp;omega
 have t39:((y:Int) == 39)=false:=by simp;omega
 have t120:((y:Int) == 120)=true:=by simp;omega
 obtain⟨i,hi⟩:∃i,i=m+1:=⟨_,rfl⟩;obtain⟨j,hj⟩:∃j,j=m+2:=⟨_,rfl⟩;have hi2:(k:Int)+2=(i:Int):=by omega
 have hi4:(k:Int)+4=(i:Int)+2:=by omega
 have hij:(i:Int)+1=(j:Int):=by omega
 have hj1:(j:Int)+1=(i:Int)+2:=by omega
 have l1:decide ((i:Int)<(i:Int)+2)=true:=by simp;omega
 have l2:decide ((j:Int)<(i:Int)+2)=true:=by simp;omega
 have l3:decide ((i:Int)+2<(i:Int)+2)=false:=by simp
 have hp:=Jl h1 hi;have pl:=(Qx hp).2;obtain⟨pk,px⟩:=Qj hp;have pkI:(i:Int)<(S.size:Int):=by omega
 have pd:decide ((S.size:Int)<=(i:Int))=false:=by simp;omega
 have HD1:Hid (∀w:World,Calls prog 131 #[.int .u8 x1] w fun e w'=>e=.returned (.int .i64 q)/\w'=w):=fun w=>by have:=Bq x1 pl w;rw[Uh hd1]at this;exact this
 have hq:=(Dv hd1).1;have hq0:decide ((q:Int)<0)=false:=by simp
 have hqI:(q:Int)<=15:=by omega
 have e1:decide ((S.size:Int)<=(j:Int))=true:=by simp;omega
 have e1':S.size<=j:=by omega
 clear hp h1 hd1;clear h hm hy hy0 hm2 hi hj;go_enter func107,ntmps107
 go_wp2_with fail
 refine wp_loop_rounds 2 ?_;rw[rounds_succ]
 go_wp2_with fail
 refine(HD1.out _).mono ?_;rintro e w1 ⟨rfl,rfl⟩
 go_wp2_with fail
 rw[rounds_succ]
 go_wp2_with fail
 go_ret3
 exact⟨rfl,rfl⟩
theorem y1k(S:ByteArray)(k m:Nat)(w:World)(hm:m=k+1)(h:bt S k=some 92)(y:Nat)(hy0:y=120)(hy:bt S m=some y)(x1 q x2:Nat)(h1:bt S (m+1)=some x1)(hd1:dgv x1=some q)(h2:bt S (m+2)=some x2)(hd2:dgv x2=none)(hS:S.size<=9007199254740992):
  Calls prog 107 #[.string S,.int .i64 k] w fun e w'=>e=.returned (r3u (.inl (4,m+2)))/\w'=w:=by
 obtain⟨hk,hx⟩:=Qj h;have hkI:(k:Int)<(S.size:Int):=by omega
 have hmI:(k:Int)+1=(m:Int):=by omega
 have hm2:(k:Int)+2=(m:Int)+1:=by omega
 have hyl:=(Qx hy).2;obtain⟨hym,hyx⟩:=Qj hy;have hmk:(m:Int)<(S.size:Int):=by omega
 have a1:decide ((S.size:Int)<=(m:Int))=false:=by simp;omega
 have t110:((y:Int) == 110)=false:=by simp;omega
 have t114:((y:Int) == 114)=false:=by simp;omega
 have t116:((y:Int) == 116)=false:=by simp;omega
 have t92:((y:Int) == 92)=false:=by simp;omega
 have t34:((y:Int) == 34)=false:=by simp;omega
 have t39:((y:Int) == 39)=false:=by simp;omega
 have t120:((y:Int) == 120)=true:=by simp;omega
 obtain⟨i,hi⟩:∃i,i=m+1:=⟨_,rfl⟩;obtain⟨j,hj⟩:∃j,j=m+2:=⟨_,rfl⟩;have hi2:(k:Int)+2=(i:Int):=by omega
 have hi4:(k:Int)+4=(i:Int)+2:=by omega
 have hij:(i:Int)+1=(j:Int):=by omega
 have hj1:(j:Int)+1=(i:Int)+2:=by omega
 have l1:decide ((i:Int)<(i:Int)+2)=true:=by simp;omega
 have l2:decide ((j:Int)<(i:Int)+2)=true:=by simp;omega
 have l3:decide ((i:Int)+2<(i:Int)+2)=false:=by simp
 have hp:=Jl h1 hi;have pl:=(Qx hp).2;obtain⟨pk,px⟩:=Qj hp;have pkI:(i:Int)<(S.size:Int):=by omega
 have pd:decide ((S.size:Int)<=(i:Int))=false:=by simp;omega
 have HD1:Hid (∀w:World,Calls prog 131 #[.int .u8 x1] w fun e w'=>e=.returned (.int .i64 q)/\w'=w):=fun w=>by have:=Bq x1 pl w;rw[Uh hd1]at this;exact this
 have hq:=(Dv hd1).1;have hq0:decide ((q:Int)<0)=false:=by simp
 have hqI:(q:Int)<=15:=by omega
 have hs:=Jl h2 hj;have sl:=(Qx hs).2;obtain⟨sk,sx⟩:=Qj hs;have skI:(j:Int)<(S.size:Int):=by omega
 have sd:decide ((S.size:Int)<=(j:Int))=false:=by simp;omega
 have HD2:Hid (∀w:World,Calls prog 131 #[.int .u8 x2] w fun e w'=>e=.returned (.int .i64 (-1))/\w'=w):=fun w=>by have:=Bq x2 sl w;rw[Gv hd2]at this;exact this
 unfold r3u;simp only;rw[<-hj];clear hp h1 hd1 hs h2 hd2;clear h hm hy hy0 hm2 hi hj;go_enter func107,ntmps107
 go_wp2_with fail
 refine wp_loop_rounds 2 ?_;rw[rounds_succ]
 go_wp2_with fail
 refine(HD1.out _).mono ?_;rintro e w1 ⟨rfl,rfl⟩
 go_wp2_with fail
 rw[rounds_succ]
 go_wp2_with fail
 refine(HD2.out _).mono ?_;rintro e w1 ⟨rfl,rfl⟩
 go_wp2_with fail
 go_ret3
 exact⟨rfl,rfl⟩
theorem y1l(S:ByteArray)(k m:Nat)(w:World)(hm:m=k+1)(h:bt S k=some 92)(y:Nat)(hy0:y=120)(hy:bt S m=some y)(x1 q x2 r:Nat)(h1:bt S (m+1)=some x1)(hd1:dgv x1=some q)(h2:bt S (m+2)=some x2)(hd2:dgv x2=some r)(hS:S.size<=9007199254740992):
  Calls prog 107 #[.string S,.int .i64 k] w fun e w'=>e=.returned (r3u (.inr (16*q+r,m+3)))/\w'=w:=by
 obtain⟨hk,hx⟩:=Qj h;have hkI:(k:Int)<(S.size:Int):=by omega
 have hmI:(k:Int)+1=(m:Int):=by omega
 have hm2:(k:Int)+2=(m:Int)+1:=by omega
 have hyl:=(Qx hy).2;obtain⟨hym,hyx⟩:=Qj hy;have hmk:(m:Int)<(S.size:Int):=by omega
 have a1:decide ((S.size:Int)<=(m:Int))=false:=by simp;omega
 have t110:((y:Int) == 110)=false:=by simp;omega
 have t114:((y:Int) == 114)=false:=by simp;omega
 have t116:((y:Int) == 116)=false:=by simp;omega
 have t92:((y:Int) == 92)=false:=by simp;omega
 have t34:((y:Int) == 34)=false:=by simp;omega
 have t39:((y:Int) == 39)=false:=by simp;omega
 have t120:((y:Int) == 120)=true:=by simp;omega
 obtain⟨i,hi⟩:∃i,i=m+1:=⟨_,rfl⟩;obtain⟨j,hj⟩:∃j,j=m+2:=⟨_,rfl⟩;have hi2:(k:Int)+2=(i:Int):=by omega
 have hi4:(k:Int)+4=(i:Int)+2:=by omega
 have hij:(i:Int)+1=(j:Int):=by omega
 have hj1:(j:Int)+1=(i:Int)+2:=by omega
 have l1:decide ((i:Int)<(i:Int)+2)=true:=by simp;omega
 have l2:decide ((j:Int)<(i:Int)+2)=true:=by simp;omega
 have l3:decide ((i:Int)+2<(i:Int)+2)=false:=by simp
 have hp:=Jl h1 hi;have pl:=(Qx hp).2;obtain⟨pk,px⟩:=Qj hp;have pkI:(i:Int)<(S.size:Int):=by omega
 have pd:decide ((S.size:Int)<=(i:Int))=false:=by simp;omega
 have HD1:Hid (∀w:World,Calls prog 131 #[.int .u8 x1] w fun e w'=>e=.returned (.int .i64 q)/\w'=w):=fun w=>by have:=Bq x1 pl w;rw[Uh hd1]at this;exact this
 have hq:=(Dv hd1).1;have hq0:decide ((q:Int)<0)=false:=by simp
 have hqI:(q:Int)<=15:=by omega
 have hs:=Jl h2 hj;have sl:=(Qx hs).2;obtain⟨sk,sx⟩:=Qj hs;have skI:(j:Int)<(S.size:Int):=by omega
 have sd:decide ((S.size:Int)<=(j:Int))=false:=by simp;omega
 have HD2:Hid (∀w:World,Calls prog 131 #[.int .u8 x2] w fun e w'=>e=.returned (.int .i64 ((r:Int)))/\w'=w):=fun w=>by have:=Bq x2 sl w;rw[Uh hd2]at this;exact this
 have hr:=(Dv hd2).1;have hr0:decide ((r:Int)<0)=false:=by simp
 have hrI:(r:Int)<=15:=by omega
 have hn:((m+3:Nat):Int)=(i:Int)+2:=by omega
 have hv:((16*q+r:Nat):Int)=16*(q:Int)+(r:Int):=by omega
 have hwv:IntKind.u8.wrap (16*(q:Int)+(r:Int))=16*(q:Int)+(r:Int):=by rw[IntKind.wrap_u8];omega
 unfold r3u;simp only;rw[hn,hv];clear hp h1 hd1 hs h2 hd2 hn hv;clear h hm hy hy0 hm2 hi hj;go_enter func107,ntmps107
 go_wp2_with fail
 refine wp_loop_rounds 3 ?_;rw[rounds_succ]
 go_wp2_with fail
 refine(HD1.out _).mono ?_;rintro e w1 ⟨rfl,rfl⟩
 go_wp2_with fail
 rw[rounds_succ]
 go_wp2_with fail
 refine(HD2.out _).mono ?_;rintro e w1 ⟨rfl,rfl⟩
 go_wp2_with fail
 rw[rounds_succ]
 go_wp2_with fail
 go_ret3
 exact⟨rfl,rfl⟩
theorem y1m(S:ByteArray)(k x:Nat)(w:World)(h:bt S k=some x)(hx2:x≠92)(hp:plB x=false)(hS:S.size<=9007199254740992):
  Calls prog 107 #[.string S,.int .i64 k] w fun e w'=>e=.returned (r3u (.inl (4,k)))/\w'=w:=by
 have hx6:=(Qx h).2;obtain⟨hk,hx⟩:=Qj h;have hkI:(k:Int)<(S.size:Int):=by omega
 have t0:((x:Int) != 92)=true:=by rw[bne_iff_ne];omega
 have hc:x<32∨(32<=x/\126<x):=by unfold plB at hp;simp at hp;omega
 rcases hc with h1|h1
 ·have a1:decide ((x:Int)<32)=true:=by simp;omega
  clear h hx2 hp h1;go_enter func107,ntmps107
  go_wp2_with fail
  go_ret3
  exact⟨rfl,rfl⟩
 ·have a1:decide ((x:Int)<32)=false:=by simp;omega
  have a2:decide ((126:Int)<(x:Int))=true:=by simp;omega
  clear h hx2 hp h1;go_enter func107,ntmps107
  go_wp2_with fail
  go_ret3
  exact⟨rfl,rfl⟩
theorem y1n(S:ByteArray)(k x:Nat)(w:World)(h:bt S k=some x)(hx2:x≠92)(hp:plB x=true)(hS:S.size<=9007199254740992):
  Calls prog 107 #[.string S,.int .i64 k] w fun e w'=>e=.returned (r3u (.inr (x,k+1)))/\w'=w:=by
 have hx6:=(Qx h).2;obtain⟨hk,hx⟩:=Qj h;have hkI:(k:Int)<(S.size:Int):=by omega
 have t0:((x:Int) != 92)=true:=by rw[bne_iff_ne];omega
 have hc:32<=x/\x<=126:=by unfold plB at hp;simpa using hp
 have a1:decide ((x:Int)<32)=false:=by simp;omega
 have a2:decide ((126:Int)<(x:Int))=false:=by simp;omega
 have hn:((k+1:Nat):Int)=(k:Int)+1:=by omega
 unfold r3u;simp only;rw[hn];clear h hx2 hp hc hn;go_enter func107,ntmps107
 go_wp2_with fail
 go_ret3
 exact⟨rfl,rfl⟩
theorem y1o(S:ByteArray)(k x:Nat)(w:World)(hb:bt S k=some x)(hS:S.size<=9007199254740992):
  Calls prog 107 #[.string S,.int .i64 k] w fun e w'=>e=.returned (r3u (lsg S k))/\w'=w:=by
 have hk:=(Qx hb).1;by_cases h92:x=92
 ·subst h92
  have hsg:lsg S k=Yx S (k+1):=by unfold lsg;rw[hb];rfl
  rw[hsg];cases hy:bt S (k+1)with
  |none=>
   have:Yx S (k+1)=.inl (3,S.size):=by unfold Yx;rw[hy];simp only;rw[Gc (Qm hy)]
   rw[this];exact y0Z S k (k+1) w rfl hb (Qm hy) hS
  |some y=>
   have hle:Yx S (k+1)=(match Yf y with|some b=>.inr (b,k+1+1)|none=>if y=120 then digs S (k+1+1)else .inl (flt S (k+1))):=by unfold Yx;rw[hy];rfl
   rw[hle];cases hv:Yf y with
   |some b=>
    simp only;unfold Yf at hv;by_cases h1:y=110
    ·rw[if_pos h1]at hv;simp at hv;subst hv;exact y1a S k (k+1) w rfl hb y h1 hy hS
    ·rw[if_neg h1]at hv
     by_cases h2:y=114
     ·rw[if_pos h2]at hv;simp at hv;subst hv;exact y1b S k (k+1) w rfl hb y h2 hy hS
     ·rw[if_neg h2]at hv
      by_cases h3:y=116
      ·rw[if_pos h3]at hv;simp at hv;subst hv;exact y1c S k (k+1) w rfl hb y h3 hy hS
      ·rw[if_neg h3]at hv
       by_cases h4:y=92∨y=39∨y=34
       ·rw[if_pos h4]at hv;simp at hv;subst hv
        rcases h4 with h4|h4|h4
        ·exact y1d S k (k+1) w rfl hb y h4 hy hS
        ·exact y1f S k (k+1) w rfl hb y h4 hy hS
        ·exact y1e S k (k+1) w rfl hb y h4 hy hS
       ·rw[if_neg h4]at hv;cases hv
   |none=>
    simp only;obtain⟨h1,h2,h3,h4,h5,h6⟩:=Rz hv;by_cases h7:y=120
    ·subst h7
     rw[if_pos rfl];have hdg:∀i,dg S i=(bt S i).bind dgv:=fun i=>rfl
     cases hb1:bt S (k+1+1)with
     |none=>
      have:digs S (k+1+1)=.inl (3,S.size):=by unfold digs;rw[hdg,hb1];simp only[Option.bind_none];rw[Gc (Qm hb1)]
      rw[this];exact y1h S k (k+1) w rfl hb 120 rfl hy (Qm hb1) hS
     |some x1=>
      cases hd1:dgv x1 with
      |none=>
       have:digs S (k+1+1)=.inl (4,k+1+1):=by unfold digs;rw[hdg,hb1];simp only[Option.bind_some,hd1];rw[Gl (Qx hb1).1]
       rw[this];exact y1i S k (k+1) w rfl hb 120 rfl hy x1 hb1 hd1 hS
      |some q=>
       cases hb2:bt S (k+1+2)with
       |none=>
        have:digs S (k+1+1)=.inl (3,S.size):=by unfold digs;rw[hdg,hb1];simp only[Option.bind_some,hd1];rw[hdg,hb2];simp only[Option.bind_none];rw[Gc (Qm hb2)]
        rw[this];exact y1j S k (k+1) w rfl hb 120 rfl hy x1 q hb1 hd1 (Qm hb2) hS
       |some x2=>
        cases hd2:dgv x2 with
        |none=>
         have:digs S (k+1+1)=.inl (4,k+1+2):=by unfold digs;rw[hdg,hb1];simp only[Option.bind_some,hd1];rw[hdg,hb2];simp only[Option.bind_some,hd2];rw[Gl (Qx hb2).1]
         rw[this];exact y1k S k (k+1) w rfl hb 120 rfl hy x1 q x2 hb1 hd1 hb2 hd2 hS
        |some r=>
         have:digs S (k+1+1)=.inr (16*q+r,k+1+3):=by unfold digs;rw[hdg,hb1];simp only[Option.bind_some,hd1];rw[hdg,hb2];simp only[Option.bind_some,hd2]
         rw[this];exact y1l S k (k+1) w rfl hb 120 rfl hy x1 q x2 r hb1 hd1 hb2 hd2 hS
    ·rw[if_neg h7,Gl (Qx hy).1]
     exact y1g S k (k+1) w rfl hb y ⟨h1,h2,h3,h4,h6,h5,h7⟩ hy hS
 ·cases hp:plB x with
  |false=>
   have:lsg S k=.inl (4,k):=by unfold lsg;rw[hb];simp only[hp];rw[Gl hk];rfl
   rw[this];exact y1m S k x w hb h92 hp hS
  |true=>
   have:lsg S k=.inr (x,k+1):=by unfold lsg;rw[hb];simp[hp,h92]
   rw[this];exact y1n S k x w hb h92 hp hS
end Go.Proofs.YtikfnaffiehpaaaGreatDoor
