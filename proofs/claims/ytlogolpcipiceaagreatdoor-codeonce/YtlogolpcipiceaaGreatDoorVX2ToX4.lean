/- Lemmas for the last text. Conditions: those that each names. -/
import Derived.Test.YtlogolpcipiceaaGreatDoorVKPlainToX1
import Derived.Deep.RegionHeld3
set_option linter.unusedVariables false
set_option maxRecDepth 100000
set_option maxHeartbeats 8000000
namespace Go.Proofs.YtlogolpcipiceaaGreatDoor
open Go.Proofs.Tryz
open Go.RowKit
variable {S T:ByteArray} {b base g k n p q:Nat} {w w':World} {v:Value} {acc l:List Nat} {c0 c1 c2 c3 kd:Int}
theorem Wb(h:dg S k=none):dgk S k= -1:=by
 unfold dgk;unfold dg at h;cases hx:bt S k with
 |none=>rfl
 |some x=>rw[hx]at h;exact z5C h
theorem Hl{d:Nat}(h:dg S k=some d):dgk S k=(d:Int):=by
 unfold dgk;unfold dg at h;cases hx:bt S k with
 |none=>rw[hx]at h;cases h
 |some x=>rw[hx]at h;exact z5B h
def Yv(x:Nat):Option Nat:=if x=110 then some 10 else if x=114 then some 13 else if x=116 then some 9 else if x=92∨x=39∨x=34 then some x else none
def Uq(S:ByteArray)(k:Nat):Rs:=
 match bt S k with
 |none=>.inl (flt S k)
 |some x=>match Yv x with
  |some b=>.inr (b,k+1)
  |none=>if x=120 then digs S (k+1)else .inl (flt S k)
def lsg(S:ByteArray)(k:Nat):Rs:=
 match bt S k with
 |none=>.inl (flt S k)
 |some x=>if plB x=false then .inl (flt S k)else if x=92 then Uq S (k+1)else .inr (x,k+1)
theorem z5F{x:Nat}(h:Yv x=some b)(hx:x<256):b<256:=by
 unfold Yv at h
 repeat(split at h;(simp at h;omega))
 cases h
theorem Wh(h:Uq S k=.inr (b,n)):b<256/\k<n/\n<=S.size:=by
 unfold Uq at h;split at h
 ·cases h
 ·rename_i x hx
  have h1:=Qh hx;split at h
  ·rename_i b' hb'
   simp at h;have:=z5F hb' h1.2;omega
  ·split at h
   ·obtain⟨q,r,hq,hr,rfl,rfl⟩:=Ag h
    have a1:=Gv hq;have a2:=Gv hr;have:=a2.2.lt;omega
   ·cases h
theorem Df(h:lsg S k=.inr (b,n)):b<256/\k<n/\n<=S.size:=by
 unfold lsg at h;split at h
 ·cases h
 ·rename_i x hx
  have h1:=Qh hx;split at h
  ·cases h
  ·split at h
   ·have:=Wh h;omega
   ·simp at h;omega
theorem z5G(S:ByteArray)(k b n:Nat)(w:World)(h:digs S k=.inr (b,n))(hS:S.size<=9007199254740992):
  Calls prog 228 #[.string S,.int .i64 k] w fun e w'=>e=.returned (.tuple #[.int .u8 b,.int .i64 n,.nilIface])/\Below w.heap.size w w':=by
 obtain⟨q,r,hq,hr,hb,hn⟩:=Ag h;have hq1:=(Gv hq).1;have hr1:=(Gv hr).1;have hkl:=(Gv hq).2.lt;obtain⟨m,hm⟩:∃m,m=k+1:=⟨_,rfl⟩;have HD1:Hid (∀w:World,Calls prog 259 #[.string S,.int .i64 k] w fun e w'=>e=.returned (.int .i64 q)/\w'=w):=fun w=>by have h:=Nk S k w hS;rw[Hl hq]at h;exact h
 have HD2:Hid (∀w:World,Calls prog 259 #[.string S,.int .i64 m] w fun e w'=>e=.returned (.int .i64 r)/\w'=w):=fun w=>by have h:=Nk S m w hS;rw[Hl (by rw[hm];exact hr)]at h;exact h
 have i1:(k:Int)+1=(m:Int):=by omega
 have i2:(m:Int)+1=(n:Int):=by omega
 have i3:(k:Int)+2=(n:Int):=by omega
 have l1:decide ((k:Int)<(n:Int))=true:=by simp;omega
 have l2:decide ((m:Int)<(n:Int))=true:=by simp;omega
 have l1':k<n:=by omega
 have l2':m<n:=by omega
 have hq0:decide ((q:Int)<0)=false:=by simp
 have hr0:decide ((r:Int)<0)=false:=by simp
 have hqI:(q:Int)<=15:=by omega
 have hrI:(r:Int)<=15:=by omega
 have hbI:(b:Int)=(q:Int)*16+(r:Int):=by omega
 rw[hbI];have hn2:(n:Int)<=9007199254740994:=by omega
 clear h hq hr hb hn hm hbI;go_enter func228,ntmps228
 go_wp2_with fail
 refine wp_loop_rounds 3 ?_;rw[rounds_succ]
 go_wp2_with fail
 refine(HD1.out _).mono ?_;rintro e w1 ⟨rfl,rfl⟩
 go_wp2_with fail
 rw[rounds_succ]
 go_wp2_with fail
 refine(HD2.out _).mono ?_;rintro e w1 ⟨rfl,rfl⟩
 go_wp2_with fail
 rw[rounds_succ]
 go_wp2_with fail
 go_ret3
 exact⟨rfl,Below.refl _ _⟩
theorem z5H(S:ByteArray)(k:Nat)(c:Nat×Nat)(w:World)(h:digs S k=.inl c)(hS:S.size<=9007199254740992)(hk:k<=9007199254740995):
  Calls prog 228 #[.string S,.int .i64 k] w fun e w'=>Bad (.int .u8 0) c w e w':=by
 unfold digs at h;cases hq:dg S k with
 |none=>
  rw[hq]at h;simp at h;have HF:Hid (flt S k=c):=h;have HD1:Hid (∀w:World,Calls prog 259 #[.string S,.int .i64 k] w fun e w'=>e=.returned (.int .i64 (-1))/\w'=w):=fun w=>by have h:=Nk S k w hS;rw[Wb hq]at h;exact h
  have hkI:(k:Int)<=9007199254740995:=by omega
  clear h hq;go_enter func228,ntmps228
  go_wp2_with fail
  refine wp_loop_rounds 1 ?_;rw[rounds_succ]
  go_wp2_with fail
  refine(HD1.out _).mono ?_;rintro e w1 ⟨rfl,rfl⟩
  go_wp2_with fail
  refine(Dy S k c w1 _ HF.out hS (by omega) B0q).mono ?_;rintro e w2 ⟨p,rfl,HP⟩;unfold flv
  go_wp2_with fail
  go_ret3
  exact⟨p,rfl,HP⟩
 |some q=>
  rw[hq]at h;simp only at h;have hq1:=(Gv hq).1;cases hr:dg S (k+1)with
  |some r=>rw[hr]at h;cases h
  |none=>
   rw[hr]at h;simp at h;obtain⟨m,hm⟩:∃m,m=k+1:=⟨_,rfl⟩;rw[<-hm]at h hr;have HF:Hid (flt S m=c):=h;have HD1:Hid (∀w:World,Calls prog 259 #[.string S,.int .i64 k] w fun e w'=>e=.returned (.int .i64 q)/\w'=w):=fun w=>by have h:=Nk S k w hS;rw[Hl hq]at h;exact h
   have HD2:Hid (∀w:World,Calls prog 259 #[.string S,.int .i64 m] w fun e w'=>e=.returned (.int .i64 (-1))/\w'=w):=fun w=>by have h:=Nk S m w hS;rw[Wb hr]at h;exact h
   have i1:(k:Int)+1=(m:Int):=by omega
   have i3:(k:Int)+2=(m:Int)+1:=by omega
   have l1:decide ((k:Int)<(m:Int)+1)=true:=by simp;omega
   have l2:decide ((m:Int)<(m:Int)+1)=true:=by simp;omega
   have hq0:decide ((q:Int)<0)=false:=by simp
   have hqI:(q:Int)<=15:=by omega
   have hmI:(m:Int)<=9007199254740996:=by omega
   have hmN:m<=9007199254740996:=by omega
   clear h hq hr hm;go_enter func228,ntmps228
   go_wp2_with fail
   refine wp_loop_rounds 2 ?_;rw[rounds_succ]
   go_wp2_with fail
   refine(HD1.out _).mono ?_;rintro e w1 ⟨rfl,rfl⟩
   go_wp2_with fail
   rw[rounds_succ]
   go_wp2_with fail
   refine(HD2.out _).mono ?_;rintro e w1 ⟨rfl,rfl⟩
   go_wp2_with fail
   refine(Dy S m c w1 _ HF.out hS (by omega) B0q).mono ?_;rintro e w2 ⟨p,rfl,HP⟩;unfold flv
   go_wp2_with fail
   go_ret3
   exact⟨p,rfl,HP⟩
theorem z5I(S:ByteArray)(m x b:Nat)(w:World)(hx0:bt S m=some x)(hv:Yv x=some b)(hS:S.size<=9007199254740992):
  Calls prog 189 #[.string S,.int .i64 m] w fun e w'=>e=.returned (.tuple #[.int .u8 b,.int .i64 ((m:Int)+1),.nilIface])/\Below w.heap.size w w':=by
 have hxl:=(Qh hx0).2;obtain⟨hk,hx⟩:=Xk hx0;have hkI:(m:Int)<(S.size:Int):=by omega
 have a0:decide ((S.size:Int)<=(m:Int))=false:=by simp;omega
 clear hx0;unfold Yv at hv;by_cases h110:x=110
 ·rw[if_pos h110]at hv
  obtain rfl:b=10:=by simpa using hv.symm
  have t110:((x:Int) == 110)=true:=by simp;omega
  clear hv h110;go_enter func189,ntmps189
  go_wp2_with fail
  go_ret3
  exact⟨rfl,Below.refl _ _⟩
 rw[if_neg h110]at hv;by_cases h114:x=114
 ·rw[if_pos h114]at hv
  obtain rfl:b=13:=by simpa using hv.symm
  have t110:((x:Int) == 110)=false:=by simp;omega
  have t114:((x:Int) == 114)=true:=by simp;omega
  clear hv h114;go_enter func189,ntmps189
  go_wp2_with fail
  go_ret3
  exact⟨rfl,Below.refl _ _⟩
 rw[if_neg h114]at hv;by_cases h116:x=116
 ·rw[if_pos h116]at hv
  obtain rfl:b=9:=by simpa using hv.symm
  have t110:((x:Int) == 110)=false:=by simp;omega
  have t114:((x:Int) == 114)=false:=by simp;omega
  have t116:((x:Int) == 116)=true:=by simp;omega
  clear hv h116;go_enter func189,ntmps189
  go_wp2_with fail
  go_ret3
  exact⟨rfl,Below.refl _ _⟩
 rw[if_neg h116]at hv;by_cases hq:x=92∨x=39∨x=34
 ·rw[if_pos hq]at hv
  obtain rfl:x=b:=by simpa using hv
  have t110:((x:Int) == 110)=false:=by simp;omega
  have t114:((x:Int) == 114)=false:=by simp;omega
  have t116:((x:Int) == 116)=false:=by simp;omega
  have hq2:((x:Int) == 92)=true∨(((x:Int) == 92)=false/\((x:Int) == 39)=true)∨(((x:Int) == 92)=false/\((x:Int) == 39)=false/\((x:Int) == 34)=true):=by simp;omega
  clear hv hq h110 h114 h116;rcases hq2 with q1|⟨q1,q2⟩|⟨q1,q2,q3⟩
  all_goals
   go_enter func189,ntmps189
   go_wp2_with fail
   go_ret3
   exact⟨rfl,Below.refl _ _⟩
 ·rw[if_neg hq]at hv;cases hv
theorem Wm{x:Nat}(h:Yv x=none):x≠110/\x≠114/\x≠116/\x≠92/\x≠39/\x≠34:=by
 unfold Yv at h;refine⟨fun e=> ?_,fun e=> ?_,fun e=> ?_,fun e=> ?_,fun e=> ?_,fun e=> ?_⟩<;>(subst e;simp at h)
theorem z5J(S:ByteArray)(m b n:Nat)(w:World)(h:Uq S m=.inr (b,n))(hS:S.size<=9007199254740992):
  Calls prog 189 #[.string S,.int .i64 m] w fun e w'=>e=.returned (.tuple #[.int .u8 b,.int .i64 n,.nilIface])/\Below w.heap.size w w':=by
 unfold Uq at h;cases hx0:bt S m with
 |none=>rw[hx0]at h;cases h
 |some x=>
  rw[hx0]at h;simp only at h;cases hv:Yv x with
  |some b'=>
   rw[hv]at h;simp only[Sum.inr.injEq,Prod.mk.injEq]at h;obtain⟨rfl,rfl⟩:=h;have h2:=z5I S m x b' w hx0 hv hS;rw[show(m:Int)+1=((m+1:Nat):Int) by omega]at h2;exact h2
  |none=>
   rw[hv]at h;simp only at h;have hne:=Wm hv;by_cases h4:x=120
   ·rw[if_pos h4]at h
    have hxl:=(Qh hx0).2;obtain⟨hk,hx⟩:=Xk hx0;have hkI:(m:Int)<(S.size:Int):=by omega
    have a0:decide ((S.size:Int)<=(m:Int))=false:=by simp;omega
    have t110:((x:Int) == 110)=false:=by simp;omega
    have t114:((x:Int) == 114)=false:=by simp;omega
    have t116:((x:Int) == 116)=false:=by simp;omega
    have t92:((x:Int) == 92)=false:=by simp;omega
    have t39:((x:Int) == 39)=false:=by simp;omega
    have t34:((x:Int) == 34)=false:=by simp;omega
    have t120:((x:Int) == 120)=true:=by simp;omega
    have HD:Hid (∀w:World,Calls prog 228 #[.string S,.int .i64 ((m:Int)+1)] w fun e w'=>e=.returned (.tuple #[.int .u8 b,.int .i64 n,.nilIface])/\Below w.heap.size w w'):=fun w=>by
     have h:=z5G S (m+1) b n w h hS;rw[show((m+1:Nat):Int)=(m:Int)+1 by omega]at h;exact h
    clear h h4 hv hne hx0;go_enter func189,ntmps189
    go_wp2_with fail
    refine(HD.out _).mono ?_;rintro e w2 ⟨rfl,hb2⟩;have HB2:Hid (Below w.heap.size w w2):=hb2;clear hb2
    go_wp2_with fail
    go_ret3
    exact⟨rfl,HB2.out⟩
   ·rw[if_neg h4]at h
    cases h
theorem z5K(S:ByteArray)(m:Nat)(c:Nat×Nat)(w:World)(h:Uq S m=.inl c)(hS:S.size<=9007199254740992)(hm:m<=9007199254740994):
  Calls prog 189 #[.string S,.int .i64 m] w fun e w'=>Bad (.int .u8 0) c w e w':=by
 unfold Uq at h;cases hx0:bt S m with
 |none=>
  rw[hx0]at h;simp only[Sum.inl.injEq]at h;have hge:=Xv hx0;have a0:decide ((S.size:Int)<=(m:Int))=true:=by simp;omega
  have HF:Hid (flt S m=c):=h;clear h hx0;go_enter func189,ntmps189
  go_wp2_with fail
  refine(Dy S m c w _ HF.out hS (by omega) B0q).mono ?_;rintro e w2 ⟨p,rfl,HP⟩;unfold flv
  go_wp2_with fail
  go_ret3
  exact⟨p,rfl,HP⟩
 |some x=>
  rw[hx0]at h;simp only at h;have hxl:=(Qh hx0).2;obtain⟨hk,hx⟩:=Xk hx0;have hkI:(m:Int)<(S.size:Int):=by omega
  have a0:decide ((S.size:Int)<=(m:Int))=false:=by simp;omega
  clear hx0;cases hv:Yv x with
  |some b'=>rw[hv]at h;cases h
  |none=>
   rw[hv]at h;simp only at h;have hne:=Wm hv;have t110:((x:Int) == 110)=false:=by simp;omega
   have t114:((x:Int) == 114)=false:=by simp;omega
   have t116:((x:Int) == 116)=false:=by simp;omega
   have t92:((x:Int) == 92)=false:=by simp;omega
   have t39:((x:Int) == 39)=false:=by simp;omega
   have t34:((x:Int) == 34)=false:=by simp;omega
   by_cases h4:x=120
   ·rw[if_pos h4]at h
    have t120:((x:Int) == 120)=true:=by simp;omega
    have HD:Hid (∀w:World,Calls prog 228 #[.string S,.int .i64 ((m:Int)+1)] w fun e w'=>Bad (.int .u8 0) c w e w'):=fun w=>by
     have h:=z5H S (m+1) c w h hS (by omega);rw[show((m+1:Nat):Int)=(m:Int)+1 by omega]at h;exact h
    clear h h4 hv hne;go_enter func189,ntmps189
    go_wp2_with fail
    refine(HD.out _).mono ?_;rintro e w2 ⟨p,rfl,HP⟩;unfold flv
    go_wp2_with fail
    go_ret3
    exact⟨p,rfl,HP⟩
   ·rw[if_neg h4]at h
    simp only[Sum.inl.injEq]at h;have t120:((x:Int) == 120)=false:=by simp;omega
    have HF:Hid (flt S m=c):=h;clear h h4 hv hne;go_enter func189,ntmps189
    go_wp2_with fail
    refine(Dy S m c w _ HF.out hS (by omega) B0q).mono ?_;rintro e w2 ⟨p,rfl,HP⟩;unfold flv
    go_wp2_with fail
    go_ret3
    exact⟨p,rfl,HP⟩
theorem z5L(S:ByteArray)(k b n:Nat)(w:World)(h:lsg S k=.inr (b,n))(hS:S.size<=9007199254740992):
  Calls prog 160 #[.string S,.int .i64 k] w fun e w'=>e=.returned (.tuple #[.int .u8 b,.int .i64 n,.nilIface])/\Below w.heap.size w w':=by
 unfold lsg at h;cases hx0:bt S k with
 |none=>rw[hx0]at h;cases h
 |some x=>
  rw[hx0]at h;simp only at h;have hxl:=(Qh hx0).2;obtain⟨hk,hx⟩:=Xk hx0;have hkI:(k:Int)<(S.size:Int):=by omega
  have a0:decide ((S.size:Int)<=(k:Int))=false:=by simp;omega
  cases hp:plB x with
  |false=>rw[hp,if_pos rfl]at h;cases h
  |true=>
   rw[hp]at h;simp only[Bool.true_eq_false,if_false]at h;have HP:Hid (∀w:World,Calls prog 188 #[.int .u8 x] w fun e w'=>e=.returned (.bool true)/\w'=w):=fun w=>Ah x true hp w hxl
   by_cases h1:x=92
   ·rw[if_pos h1]at h
    have t92:((x:Int) == 92)=true:=by simp;omega
    have HE:Hid (∀w:World,Calls prog 189 #[.string S,.int .i64 ((k:Int)+1)] w fun e w'=>e=.returned (.tuple #[.int .u8 b,.int .i64 n,.nilIface])/\Below w.heap.size w w'):=fun w=>by
     have he:=z5J S (k+1) b n w h hS;rw[show((k+1:Nat):Int)=(k:Int)+1 by omega]at he;exact he
    clear h hx0 h1 hp;go_enter func160,ntmps160
    go_wp2_with fail
    refine(HP.out _).mono ?_;rintro e w1 ⟨rfl,rfl⟩
    go_wp2_with fail
    refine(HE.out _).mono ?_;rintro e w2 ⟨rfl,hb2⟩;have HB2:Hid (Below w1.heap.size w1 w2):=hb2;clear hb2
    go_wp2_with fail
    go_ret3
    exact⟨rfl,HB2.out⟩
   ·rw[if_neg h1]at h
    simp only[Sum.inr.injEq,Prod.mk.injEq]at h;obtain⟨rfl,rfl⟩:=h;have t92:((x:Int) == 92)=false:=by simp;omega
    have hNI:((k+1:Nat):Int)=(k:Int)+1:=by omega
    rw[hNI];clear hx0 h1 hp hNI;go_enter func160,ntmps160
    go_wp2_with fail
    refine(HP.out _).mono ?_;rintro e w1 ⟨rfl,rfl⟩
    go_wp2_with fail
    go_ret3
    exact⟨rfl,Below.refl _ _⟩
theorem z5M(S:ByteArray)(k:Nat)(c:Nat×Nat)(w:World)(h:lsg S k=.inl c)(hS:S.size<=9007199254740992)(hk9:k<=9007199254740993):
  Calls prog 160 #[.string S,.int .i64 k] w fun e w'=>Bad (.int .u8 0) c w e w':=by
 unfold lsg at h;cases hx0:bt S k with
 |none=>
  rw[hx0]at h;simp only[Sum.inl.injEq]at h;have hge:=Xv hx0;have a0:decide ((S.size:Int)<=(k:Int))=true:=by simp;omega
  have HF:Hid (flt S k=c):=h;clear h hx0;go_enter func160,ntmps160
  go_wp2_with fail
  refine(Dy S k c w _ HF.out hS (by omega) B0q).mono ?_;rintro e w2 ⟨p,rfl,HP⟩;unfold flv
  go_wp2_with fail
  go_ret3
  exact⟨p,rfl,HP⟩
 |some x=>
  rw[hx0]at h;simp only at h;have hxl:=(Qh hx0).2;obtain⟨hk,hx⟩:=Xk hx0;have hkI:(k:Int)<(S.size:Int):=by omega
  have a0:decide ((S.size:Int)<=(k:Int))=false:=by simp;omega
  cases hp:plB x with
  |false=>
   rw[hp,if_pos rfl]at h;simp only[Sum.inl.injEq]at h;have HF:Hid (flt S k=c):=h;have HP:Hid (∀w:World,Calls prog 188 #[.int .u8 x] w fun e w'=>e=.returned (.bool false)/\w'=w):=fun w=>Ah x false hp w hxl
   clear h hx0 hp;go_enter func160,ntmps160
   go_wp2_with fail
   refine(HP.out _).mono ?_;rintro e w1 ⟨rfl,rfl⟩
   go_wp2_with fail
   refine(Dy S k c w1 _ HF.out hS (by omega) B0q).mono ?_;rintro e w2 ⟨p,rfl,HQ⟩;unfold flv
   go_wp2_with fail
   go_ret3
   exact⟨p,rfl,HQ⟩
  |true=>
   rw[hp]at h;simp only[Bool.true_eq_false,if_false]at h;have HP:Hid (∀w:World,Calls prog 188 #[.int .u8 x] w fun e w'=>e=.returned (.bool true)/\w'=w):=fun w=>Ah x true hp w hxl
   by_cases h1:x=92
   ·rw[if_pos h1]at h
    have t92:((x:Int) == 92)=true:=by simp;omega
    have HE:Hid (∀w:World,Calls prog 189 #[.string S,.int .i64 ((k:Int)+1)] w fun e w'=>Bad (.int .u8 0) c w e w'):=fun w=>by
     have he:=z5K S (k+1) c w h hS (by omega);rw[show((k+1:Nat):Int)=(k:Int)+1 by omega]at he;exact he
    clear h hx0 h1 hp;go_enter func160,ntmps160
    go_wp2_with fail
    refine(HP.out _).mono ?_;rintro e w1 ⟨rfl,rfl⟩
    go_wp2_with fail
    refine(HE.out _).mono ?_;rintro e w2 ⟨p,rfl,HQ⟩;unfold flv
    go_wp2_with fail
    go_ret3
    exact⟨p,rfl,HQ⟩
   ·rw[if_neg h1]at h;cases h
def nv(l:List Nat):List Value:=l.map fun(x:Nat)=>Value.int .u8 x
theorem Fk(a b:List Nat):nv (a++b)=nv a++nv b:=List.map_append
theorem Wp(a:List Nat):(nv a).length=a.length:=List.length_map ..
theorem Tryz.infoByte:(Tryz.prog.info? 5).map (fun i=>(i.zero,i.size,i.bytes))=some (some (.int .u8 0),1,1):=by kernel_rfl
theorem Vf(w:World)(u:Value)(t:TypeId):∀j x,[u][j]? =some x->(w.alloc (.cells #[u] t)).cell? ((⟨w.heap.size,0,none⟩:Addr).add j)=some x:=by
 intro j x hj
 match j,hj with
 |0,hj=>simp at hj;subst hj;simp[Addr.add]
theorem Fw(w:World)(u v:Value)(t:TypeId):∀j x,[u,v][j]? =some x->(w.alloc (.cells #[u,v] t)).cell? ((⟨w.heap.size,0,none⟩:Addr).add j)=some x:=by
 intro j x hj
 match j,hj with
 |0,hj=>simp at hj;subst hj;simp[Addr.add]
 |1,hj=>simp at hj;subst hj;simp[Addr.add]
theorem Wc(w:World)(a b c d:Value)(t:TypeId):∀j x,[a,b,c,d][j]? =some x->(w.alloc (.cells #[a,b,c,d] t)).cell? ((⟨w.heap.size,0,none⟩:Addr).add j)=some x:=by
 intro j x hj
 match j,hj with
 |0,hj=>simp at hj;subst hj;simp[Addr.add]
 |1,hj=>simp at hj;subst hj;simp[Addr.add]
 |2,hj=>simp at hj;subst hj;simp[Addr.add]
 |3,hj=>simp at hj;subst hj;simp[Addr.add]
theorem Xw(l:List Int):∀u∈l.map (fun x=>Value.int .u8 x),u.oneCell'=true:=by
 intro u hu;obtain⟨x,_,rfl⟩:=List.mem_map.1 hu;rfl
theorem Ad(q:Nat)(hq:q<16)(w:World):(Instr.index 9 (.string {data:=#[48,49,50,51,52,53,54,55,56,57,97,98,99,100,101,102]}) (.int .u8 q)).run prog w=.ok (.int .u8 ((Xf q:Nat):Int)) w:=by
 have:q=0∨q=1∨q=2∨q=3∨q=4∨q=5∨q=6∨q=7∨q=8∨q=9∨q=10∨q=11∨q=12∨q=13∨q=14∨q=15:=by omega
 rcases this with rfl|rfl|rfl|rfl|rfl|rfl|rfl|rfl|rfl|rfl|rfl|rfl|rfl|rfl|rfl|rfl<;>(show(Instr.index 9 _ _).run prog w=_;kernel_rfl)
def nb(l:List Nat):ByteArray:=⟨(l.map UInt8.ofNat).toArray⟩
theorem Qx(w:World)(o:Obj)(hn:n=w.heap.size):(w.alloc o).heap[n]? =some o:=by
 subst hn;show(w.heap.push o)[w.heap.size]? =_;simp
theorem Yc(l:List Nat):(nb l).size=l.length:=by simp[nb,ByteArray.size]
theorem Jk{e size:Nat}{xs:List Value}(h:w.ownsRow base e size v n xs)(hn:0<n):∃g cap,v=.slice (some ⟨g,0,none⟩) n cap:=by
 obtain⟨_,h|⟨g,cap,cur,e,_⟩⟩:=h
 ·omega
 ·exact⟨g,cap,e⟩
theorem Am{cap:Nat}(h:w.ownsRow base 5 1 (.slice (some ⟨g,0,none⟩) n cap) n (nv l))(hl:∀x∈l,x<256):
  (convert 48 9 (.slice (some ⟨g,0,none⟩) n cap)).run prog w=.ok (.string (nb l)) w:=by
 have hn:l.length=n:=by have:=h.1;rw[Wp]at this;omega
 have:=run_convert_bytes_back w 48 9 5 ⟨g,0,none⟩ cap (l.map UInt8.ofNat) Tryz.underlying48 Tryz.underlying5 Tryz.underlying9 (fun j hj=>by
  rw[Addr.add_lit,Nat.zero_add];simp at hj;rw[h.cellAt j (by omega)];have hx:=hl _ (List.getElem_mem hj);simp[nv,hj];omega)
 rw[List.length_map,hn]at this;exact this
theorem Ux{e size:Nat}{xs:List Value}(h:w.ownsRow base e size v n xs)(hb:Below w.heap.size w w'):w'.ownsRow base e size v n xs:=
 h.kept (row:=none) ⟨hb.os,hb.tape,hb.output,hb.size,fun j hj _=>hb.block j hj⟩ (by cases hq:v.ownBlock<;>simp)
theorem Tryz.convNil(w:World):(convert 48 9 (.slice none 0 0)).run prog w=.ok (.string (nb [])) w:=by kernel_rfl
theorem Ap(h:w.ownsRow base 5 1 v n (nv l))(hl:∀x∈l,x<256):(convert 48 9 v).run prog w=.ok (.string (nb l)) w:=by
 have h0:=h;obtain⟨h1,⟨rfl,rfl⟩|⟨g,cap,cur,rfl,_⟩⟩:=h
 ·have:l=[]:=List.eq_nil_of_length_eq_zero (by rw[Wp]at h1;omega)
  subst this;exact Tryz.convNil w
 ·exact Am h0 hl
def Tk(w:World)(g:Nat)(kd:Int)(T:ByteArray)(c0 c1 c2 c3:Int)(p:Int):Prop:=w.heap[g]? =some (.cells #[.int .i64 kd,.string T,.int .u64 c0,.int .u64 c1,.int .u64 c2,.int .u64 c3,.int .i64 p] 183)
@[reducible] def st7 (w:World) (g:Nat) (kd:Int) (T:ByteArray) (c0 c1 c2 c3:Int) (p:Int):World:=((((((w.setCell ⟨g,0,none⟩ (.int .i64 kd)).setCell ⟨g,1,none⟩ (.string T)).setCell ⟨g,2,none⟩ (.int .u64 c0)).setCell ⟨g,3,none⟩ (.int .u64 c1)).setCell ⟨g,4,none⟩ (.int .u64 c2)).setCell ⟨g,5,none⟩ (.int .u64 c3)).setCell ⟨g,6,none⟩ (.int .i64 p)
theorem Tk.cells{p:Int}(h:Tk w g kd T c0 c1 c2 c3 p):w.cell? ⟨g,0,none⟩=some (.int .i64 kd)/\w.cell? ⟨g,1,none⟩=some (.string T)/\w.cell? ⟨g,2,none⟩=some (.int .u64 c0)/\w.cell? ⟨g,3,none⟩=some (.int .u64 c1)/\w.cell? ⟨g,4,none⟩=some (.int .u64 c2)/\w.cell? ⟨g,5,none⟩=some (.int .u64 c3)/\w.cell? ⟨g,6,none⟩=some (.int .i64 p):=by
 unfold Tk at h;simp[World.cell?,h]
theorem Tk.thaw{p:Int}(h:Tk w g kd T c0 c1 c2 c3 p):w.frozen? ⟨g,0,none⟩=false/\w.frozen? ⟨g,1,none⟩=false/\w.frozen? ⟨g,2,none⟩=false/\w.frozen? ⟨g,3,none⟩=false/\w.frozen? ⟨g,4,none⟩=false/\w.frozen? ⟨g,5,none⟩=false/\w.frozen? ⟨g,6,none⟩=false:=by
 unfold Tk at h;simp[World.frozen?,h]
theorem Tk.lt{p:Int}(h:Tk w g kd T c0 c1 c2 c3 p):g<w.heap.size:=by
 unfold Tk at h;rcases Nat.lt_or_ge g w.heap.size with h2|h2
 ·exact h2
 ·rw[Array.getElem?_eq_none h2]at h;cases h
theorem Tk.below{B:Nat}{p:Int}(h:Tk w g kd T c0 c1 c2 c3 p)(hb:Below B w w')(hg:g<B):Tk w' g kd T c0 c1 c2 c3 p:=(hb.block g hg).trans h
theorem Tk.alloc{w:World}{g:Nat}{kd:Int}{T:ByteArray}{c0 c1 c2 c3 p:Int}(h:Tk w g kd T c0 c1 c2 c3 p)(o:Obj):Tk (w.alloc o) g kd T c0 c1 c2 c3 p:=(Below.heap_alloc w o g h.lt).trans h
theorem Tk.new(w:World)(kd:Int)(T:ByteArray)(c0 c1 c2 c3 p:Int):Tk (w.alloc (.cells #[.int .i64 kd,.string T,.int .u64 c0,.int .u64 c1,.int .u64 c2,.int .u64 c3,.int .i64 p] 183)) w.heap.size kd T c0 c1 c2 c3 p:=by
 show(w.heap.push _)[w.heap.size]? =_;simp
theorem Tk.st7{w:World}{g:Nat}{kd:Int}{T:ByteArray}{c0 c1 c2 c3 p:Int}(h:Tk w g kd T c0 c1 c2 c3 p)(kd':Int)(T':ByteArray)(d0 d1 d2 d3 p':Int):Tk (Proofs.YtlogolpcipiceaaGreatDoor.st7 w g kd' T' d0 d1 d2 d3 p') g kd' T' d0 d1 d2 d3 p':=by
 unfold Tk at*;simp only[World.setCell,Array.getElem?_modify,if_true,Option.map_map];rw[h];simp
theorem Below.st7{B:Nat}{a w:World}(h:Below B a w){g:Nat}(hg:B<=g)(kd:Int)(T:ByteArray)(c0 c1 c2 c3 p:Int):Below B a (Proofs.YtlogolpcipiceaaGreatDoor.st7 w g kd T c0 c1 c2 c3 p):=
 (((((((h.setCell (p:=⟨g,0,none⟩) hg _).setCell (p:=⟨g,1,none⟩) hg _).setCell (p:=⟨g,2,none⟩) hg _).setCell (p:=⟨g,3,none⟩) hg _).setCell (p:=⟨g,4,none⟩) hg _).setCell (p:=⟨g,5,none⟩) hg _).setCell (p:=⟨g,6,none⟩) hg _)
theorem Flt.st7{w:World}{q g:Nat}{c:Nat×Nat}(h:Flt w q c)(hne:q≠g)(kd:Int)(T:ByteArray)(c0 c1 c2 c3 p:Int):Flt (Proofs.YtlogolpcipiceaaGreatDoor.st7 w g kd T c0 c1 c2 c3 p) q c:=by
 unfold Flt at*;rw[Below.heap_setCell _ _ _ _ hne,Below.heap_setCell _ _ _ _ hne,Below.heap_setCell _ _ _ _ hne,Below.heap_setCell _ _ _ _ hne,Below.heap_setCell _ _ _ _ hne,Below.heap_setCell _ _ _ _ hne,Below.heap_setCell _ _ _ _ hne];exact h
abbrev Ls:=(Nat×Nat) ⊕ (List Nat×Nat)
def llit(S:ByteArray)(q p:Nat):Nat->Nat->List Nat->Ls
 |0,k,_=>.inl (flt S k)
 |f+1,k,acc=>
  if bt S k=some q then .inr (acc,k+1)else
  match lsg S k with
  | .inl e=>.inl e
  | .inr (b,n)=>if acc.length=255 then .inl (2,p)else llit S q p f n (acc++[b])
def ll(S:ByteArray)(q p k:Nat)(acc:List Nat):Ls:=llit S q p (S.size+1-k) k acc
theorem Iz(S:ByteArray)(q p:Nat):∀(f g k:Nat) (acc:List Nat),S.size+1-k<=f->S.size+1-k<=g->llit S q p f k acc=llit S q p g k acc
 |0,0,_,_,_,_=>rfl
 |0,g+1,k,acc,hf,_=>by
  have hb:=Uz (S:=S) (k:=k) (by omega);have hm:lsg S k=.inl (flt S k):=by unfold lsg;rw[hb]
  rw[llit,llit,hb,hm];simp
 |f+1,0,k,acc,_,hg=>by
  have hb:=Uz (S:=S) (k:=k) (by omega);have hm:lsg S k=.inl (flt S k):=by unfold lsg;rw[hb]
  rw[llit,llit,hb,hm];simp
 |f+1,g+1,k,acc,hf,hg=>by
  rw[llit,llit];split
  ·rfl
  ·cases hm:lsg S k with
   |inl e=>rfl
   |inr r=>
    obtain⟨b,n⟩:=r;have:=Df hm;simp only;split
    ·rfl
    ·exact Iz S q p f g n _ (by omega) (by omega)
theorem Ac(S:ByteArray)(q p k:Nat)(acc:List Nat):ll S q p k acc=(if bt S k=some q then .inr (acc,k+1)else
  match lsg S k with
  | .inl e=>.inl e
  | .inr (b,n)=>if acc.length=255 then .inl (2,p)else ll S q p n (acc++[b])):=by
 unfold ll;rw[Iz S q p (S.size+1-k) (S.size+1-k+1) k acc (by omega) (by omega),llit];split
 ·rfl
 ·cases hm:lsg S k with
  |inl e=>rfl
  |inr r=>
   obtain⟨b,n⟩:=r;have:=Df hm;simp only;split
   ·rfl
   ·exact Iz S q p _ _ n _ (by omega) (by omega)
theorem Iq(h:bt S k=some q):ll S q p k acc=.inr (acc,k+1):=by rw[Ac,if_pos h]
theorem z5N{e:Nat×Nat}(h:¬bt S k=some q)(hm:lsg S k=.inl e):ll S q p k acc=.inl e:=by rw[Ac,if_neg h,hm]
theorem Wl(h:¬bt S k=some q)(hm:lsg S k=.inr (b,n))(hl:acc.length=255):ll S q p k acc=.inl (2,p):=by rw[Ac,if_neg h,hm];simp[hl]
theorem Ix(h:¬bt S k=some q)(hm:lsg S k=.inr (b,n))(hl:acc.length≠255):ll S q p k acc=ll S q p n (acc++[b]):=by rw[Ac,if_neg h,hm];simp[hl]
def Dg(c:Nat×Nat)(w:World)(e:Ending)(w':World):Prop:=Bad (.agg #[.int .i64 0,.string ⟨#[]⟩,.int .u64 0,.int .u64 0,.int .u64 0,.int .u64 0,.int .i64 0]) c w e w'
def Fy(r:Ls)(p:Nat)(w:World)(e:Ending)(w':World):Prop:=
 match r with
 | .inr (l,n)=>e=.returned (.tuple #[.agg #[.int .i64 3,.string (nb l),.int .u64 0,.int .u64 0,.int .u64 0,.int .u64 0,.int .i64 p],.int .i64 n,.nilIface])/\Below w.heap.size w w'
 | .inl c=>Dg c w e w'
def Lr(w:World)(v:Value)(l:List Nat)(w':World):Prop:=
 Hid (Below w.heap.size w w')/\Hid (w'.ownsRow (w.heap.size+1) 5 1 v l.length (nv l))/\Hid (Tk w' w.heap.size 0 {data:=#[]} 0 0 0 0 0)
theorem Lr.keep{W:World}(h:Lr w v l W)(hb:Below W.heap.size W w'):Lr w v l w':=
 ⟨hid (h.1.out.trans (hb.mono h.1.out.size)),hid (Ux h.2.1.out hb),hid (h.2.2.out.below hb h.2.2.out.lt)⟩
theorem Nv{w1:World}{c:Nat×Nat}(hB:Below w.heap.size w w1)(hF:Flt w1 p c)(hp:w.heap.size<=p)(hne:p≠w.heap.size):Hid (w.heap.size<=p/\Flt (st7 w1 w.heap.size 0 {data:=#[]} 0 0 0 0 0) p c/\Below w.heap.size w (st7 w1 w.heap.size 0 {data:=#[]} 0 0 0 0 0)):=
 ⟨hp,hF.st7 hne _ _ _ _ _ _ _,Below.st7 hB L0q _ _ _ _ _ _ _⟩
theorem z5O(S:ByteArray)(q p:Nat)(w:World)(h0:bt S p=some q)(hS:S.size<=9007199254740992):
  Calls prog 126 #[.string S,.int .i64 p] w fun e w'=>Fy (ll S q p (p+1) []) p w e w':=by
 obtain⟨i0,hi0,hz0,hz1,hz2⟩:=info_parts Tryz.infoByte;have hql:=(Qh h0).2;obtain⟨hp0,hq0⟩:=Xk h0;have hpI:(p:Int)<(S.size:Int):=by omega
 obtain⟨R,hR⟩:∃R,R=ll S q p (p+1) []:=⟨_,rfl⟩;rw[<-hR];have HR:Hid (ll S q p (p+1) []=R):=hR.symm;clear hR h0;go_enter func126,ntmps126
 go_wp2_with fail
 go_loopw [8,9] (fun v a wr=>∃(k:Nat) (acc:List Nat),a=.int .i64 k/\k<=S.size/\acc.length<=255/\Hid (∀x∈acc,x<256)/\Hid (ll S q p k acc=R)/\Hid (Lr w v acc wr)) (fun _ a _=>S.size-(intOf a).toNat)
 case atStart=>exact⟨p+1,[],by go_num,by omega,by simp,hid (fun x hx=>by simp at hx),HR,hid ⟨hid (B0q.alloc L0q _),hid (World.ownsRow_nil _ _ _ _),hid (Tk.new w 0 {data:=#[]} 0 0 0 0 0)⟩⟩
 case round=>
  obtain⟨k,acc,rfl,hks,hal,HX,HM,HL⟩:=hrel;clear hq0;by_cases hend:bt S k=some q
  ·obtain⟨hkk,hxk⟩:=Xk hend
   have hkI:(k:Int)<(S.size:Int):=by omega
   have a0:decide ((S.size:Int)<=(k:Int))=false:=by simp;omega
   have HRe:Hid (R=.inr (acc,k+1)):=by show _=_;rw[<-HM.out,Iq hend]
   have HN:Hid (((k+1:Nat):Int)=(k:Int)+1):=by show _=_;omega
   have cva:=Ap HL.out.2.1.out HX.out;obtain⟨c0,c1,c2,c3,c4,c5,c6⟩:=HL.out.2.2.out.cells;obtain⟨f0,f1,f2,f3,f4,f5,f6⟩:=HL.out.2.2.out.thaw;obtain⟨TT,hTT⟩:∃TT,TT=nb acc:=⟨_,rfl⟩;rw[<-hTT]at cva;have HT0:Hid (Tk wr w.heap.size 0 {data:=#[]} 0 0 0 0 0):=HL.out.2.2;have HB0:Hid (Below w.heap.size w wr):=HL.out.1;have HTT:Hid (TT=nb acc):=hTT;clear hend HM HL hTT
   go_wp2_with fail
   obtain⟨r0,r1,r2,r3,r4,r5,r6⟩:=(HT0.out.st7 3 TT 0 0 0 0 (p:Int)).cells;unfold st7 at r0 r1 r2 r3 r4 r5 r6;refine bodyPost_ret (v:=.tuple #[.agg #[.int .i64 3,.string TT,.int .u64 0,.int .u64 0,.int .u64 0,.int .u64 0,.int .i64 p],.int .i64 ((k:Int)+1),.nilIface]) (by simp[results,Tryz.results126,go_sem,r0,r1,r2,r3,r4,r5,r6]) rfl ?_;rw[HRe.out];show _=_/\_;rw[HN.out,<-HTT.out];exact⟨rfl,Below.st7 HB0.out L0q _ _ _ _ _ _ _⟩
  ·have hcond:decide ((S.size:Int)<=(k:Int))=true/\S.size<=k∨(∃x:Nat,k<S.size/\At S k x/\x≠q/\x<256):=by
    cases hb:bt S k with
    |none=>exact .inl ⟨by have:=Xv hb;simp;omega,Xv hb⟩
    |some x=>exact .inr ⟨x,(Qh hb).1,Xk hb,fun e=>hend (by rw[hb,e]),(Qh hb).2⟩
   cases hm:lsg S k with
   |inl c=>
    have HRe:Hid (R=.inl c):=by show _=_;rw[<-HM.out,z5N hend hm]
    have HSg:Hid (∀w:World,Calls prog 160 #[.string S,.int .i64 k] w fun e w'=>Bad (.int .u8 0) c w e w'):=fun w=>z5M S k c w hm hS (by omega)
    clear hend HM hm HX;rcases hcond with⟨a0,a0'⟩|⟨x,hkk,⟨_,hxk⟩,hxq,hx6⟩
    ·go_wp2_with fail
     refine(HSg.out _).mono ?_;rintro e w1 ⟨f,rfl,HP⟩;have HB1:Hid (Below w.heap.size w w1):=HL.out.1.out.trans (HP.out.2.2.mono HL.out.1.out.size);have HT1:Hid (Tk w1 w.heap.size 0 {data:=#[]} 0 0 0 0 0):=HL.out.2.2.out.below HP.out.2.2 HL.out.2.2.out.lt;have HF1:Hid (Up w w1 f c):=⟨Nat.le_trans HL.out.1.out.size HP.out.1,fun e=>by have h1:=HL.out.2.2.out.lt;have h2:=HP.out.1;omega,HP.out.2.1⟩;clear HP HL;obtain⟨c0,c1,c2,c3,c4,c5,c6⟩:=HT1.out.cells;obtain⟨f0,f1,f2,f3,f4,f5,f6⟩:=HT1.out.thaw;have HT7:Hid (Tk (st7 w1 w.heap.size 0 {data:=#[]} 0 0 0 0 0) w.heap.size 0 {data:=#[]} 0 0 0 0 0):=HT1.out.st7 0 {data:=#[]} 0 0 0 0 0;unfold flv
     go_wp2_with fail
     obtain⟨r0,r1,r2,r3,r4,r5,r6⟩:=HT7.out.cells;unfold st7 at r0 r1 r2 r3 r4 r5 r6
     (try simp only[Exit.inBlock,Exit.then])
     refine bodyPost_ret (v:=.tuple #[.agg #[.int .i64 0,.string ⟨#[]⟩,.int .u64 0,.int .u64 0,.int .u64 0,.int .u64 0,.int .i64 0],.int .i64 0,.iface 95 (.pointer (some ⟨f,0,none⟩))]) (by simp[results,Tryz.results126,go_sem,r0,r1,r2,r3,r4,r5,r6]) rfl ?_;rw[HRe.out];exact⟨f,rfl,Nv HB1.out HF1.out.2.2 HF1.out.1 HF1.out.2.1⟩
    ·have hkI:(k:Int)<(S.size:Int):=by omega
     have a0:decide ((S.size:Int)<=(k:Int))=false:=by simp;omega
     have n0:((x:Int) != (q:Int))=true:=by rw[bne_iff_ne];omega
     clear hxq
     go_wp2_with fail
     refine(HSg.out _).mono ?_;rintro e w1 ⟨f,rfl,HP⟩;have HB1:Hid (Below w.heap.size w w1):=HL.out.1.out.trans (HP.out.2.2.mono HL.out.1.out.size);have HT1:Hid (Tk w1 w.heap.size 0 {data:=#[]} 0 0 0 0 0):=HL.out.2.2.out.below HP.out.2.2 HL.out.2.2.out.lt;have HF1:Hid (Up w w1 f c):=⟨Nat.le_trans HL.out.1.out.size HP.out.1,fun e=>by have h1:=HL.out.2.2.out.lt;have h2:=HP.out.1;omega,HP.out.2.1⟩;clear HP HL;obtain⟨c0,c1,c2,c3,c4,c5,c6⟩:=HT1.out.cells;obtain⟨f0,f1,f2,f3,f4,f5,f6⟩:=HT1.out.thaw;have HT7:Hid (Tk (st7 w1 w.heap.size 0 {data:=#[]} 0 0 0 0 0) w.heap.size 0 {data:=#[]} 0 0 0 0 0):=HT1.out.st7 0 {data:=#[]} 0 0 0 0 0;unfold flv
     go_wp2_with fail
     obtain⟨r0,r1,r2,r3,r4,r5,r6⟩:=HT7.out.cells;unfold st7 at r0 r1 r2 r3 r4 r5 r6
     (try simp only[Exit.inBlock,Exit.then])
     refine bodyPost_ret (v:=.tuple #[.agg #[.int .i64 0,.string ⟨#[]⟩,.int .u64 0,.int .u64 0,.int .u64 0,.int .u64 0,.int .i64 0],.int .i64 0,.iface 95 (.pointer (some ⟨f,0,none⟩))]) (by simp[results,Tryz.results126,go_sem,r0,r1,r2,r3,r4,r5,r6]) rfl ?_;rw[HRe.out];exact⟨f,rfl,Nv HB1.out HF1.out.2.2 HF1.out.1 HF1.out.2.1⟩
   |inr r=>
    obtain⟨b,n⟩:=r;have hok:=Df hm;rcases hcond with⟨a0,a0'⟩|⟨x,hkk,⟨_,hxk⟩,hxq,hx6⟩
    ·omega
    ·have hkI:(k:Int)<(S.size:Int):=by omega
     have a0:decide ((S.size:Int)<=(k:Int))=false:=by simp;omega
     have n0:((x:Int) != (q:Int))=true:=by rw[bne_iff_ne];omega
     have HSg:Hid (∀w:World,Calls prog 160 #[.string S,.int .i64 k] w fun e w'=>e=.returned (.tuple #[.int .u8 b,.int .i64 n,.nilIface])/\Below w.heap.size w w'):=fun w=>z5L S k b n w hm hS
     have hsl:∃a c,u8=.slice a acc.length c:=by
      obtain⟨_,⟨h1,h2⟩|⟨g,cap,cur,e,_⟩⟩:=HL.out.2.1.out
      ·exact⟨none,0,by rw[h1,h2]⟩
      ·exact⟨_,cap,e⟩
     obtain⟨av,cv,rfl⟩:=hsl;by_cases hl5:acc.length=255
     ·have HRe:Hid (R=.inl (2,p)):=by show _=_;rw[<-HM.out,Wl hend hm hl5]
      rw[hl5]at HL ⊢;clear hend HM hm HX hxq hok hl5
      go_wp2_with fail
      refine(HSg.out _).mono ?_;rintro e w1 ⟨rfl,hb1⟩;have HB1:Hid (Below w.heap.size w w1):=HL.out.1.out.trans (hb1.mono HL.out.1.out.size);have HT1:Hid (Tk w1 w.heap.size 0 {data:=#[]} 0 0 0 0 0):=HL.out.2.2.out.below hb1 HL.out.2.2.out.lt;clear hb1 HL;have HT2:Hid (Tk (w1.alloc (.cells #[.int .i64 2,.int .i64 p] 98)) w.heap.size 0 {data:=#[]} 0 0 0 0 0):=HT1.out.alloc _;obtain⟨c0,c1,c2,c3,c4,c5,c6⟩:=HT2.out.cells;obtain⟨f0,f1,f2,f3,f4,f5,f6⟩:=HT2.out.thaw
      go_wp2_with fail
      obtain⟨r0,r1,r2,r3,r4,r5,r6⟩:=(HT2.out.st7 0 {data:=#[]} 0 0 0 0 0).cells;unfold st7 at r0 r1 r2 r3 r4 r5 r6
      (try simp only[Exit.inBlock,Exit.then])
      refine bodyPost_ret (v:=.tuple #[.agg #[.int .i64 0,.string ⟨#[]⟩,.int .u64 0,.int .u64 0,.int .u64 0,.int .u64 0,.int .i64 0],.int .i64 0,.iface 95 (.pointer (some ⟨w1.heap.size,0,none⟩))]) (by simp[results,Tryz.results126,go_sem,r0,r1,r2,r3,r4,r5,r6]) rfl ?_;rw[HRe.out];exact⟨w1.heap.size,rfl,Nv (HB1.out.alloc HB1.out.size _) (Flt.new w1 (2,p)) HB1.out.size (Nat.ne_of_gt HT1.out.lt)⟩
     ·have HM2:Hid (ll S q p n (acc++[b])=R):=by show _=_;rw[<-HM.out,Ix hend hm hl5]
      have HX2:Hid (∀y∈acc++[b],y<256):=fun y hy=>by
       rcases List.mem_append.1 hy with h|h
       ·exact HX.out y h
       ·simp at h;omega
      have d5:((acc.length:Int) == 255)=false:=by rw[beq_eq_false_iff_ne];omega
      have hb6:b<256:=hok.1;have hkn:k<n:=hok.2.1;have hns:n<=S.size:=hok.2.2;have hal2:acc.length<=254:=by omega
      clear hend HM hm HX hxq hok hl5
      go_wp2_with fail
      refine(HSg.out _).mono ?_;rintro e w1 ⟨rfl,hb1⟩;have HL1:=hid (HL.out.keep hb1);have hsz:w.heap.size<=w1.heap.size:=HL1.out.1.out.size;have hlt1:w.heap.size<w1.heap.size:=HL1.out.2.2.out.lt;clear hb1 HL
      go_wp2_with(first|(at_builtin;refine wpList_append_own _ rfl (.tmp 48) (.tmp 50) 48 rfl (w.heap.size+1) 5 i0 (.int .u8 0) 1 1 Tryz.underlying48 hi0 hz0 hz1 hz2 rfl (by decide) _ _ _ rfl (HL1.out.2.1.out.alloc _) ⟨w1.heap.size,0,none⟩ 1 1 [.int .u8 b] rfl rfl (Vf _ _ _) (Xw [(b:Int)]) (by unfold maxLen;omega) (by omega) (by simp;omega) ?_;intro v2 w2 hown2 hgr2 hnil2))
      have HL2:Hid (Lr w v2 (acc++[b]) w2):=by
       refine⟨hid ((HL1.out.1.out.alloc hsz _).grown hgr2 (by simp;omega) (fun y e=>by have:=(HL1.out.2.1.out.lt y e).1;omega)),hid ?_,hid ?_⟩
       ·rw[Fk,List.length_append];exact hown2
       ·refine(hgr2.block _ (by simp;omega) ?_).trans (HL1.out.2.2.out.alloc _)
        intro e;have:=(HL1.out.2.1.out.lt _ e.symm).1;omega
      clear hown2 hgr2 hnil2 HL1
      go_roundw
      case rel=>exact⟨n,acc++[b],rfl,hns,by simp;omega,HX2,HM2,HL2⟩
      case measure=>simp[intOf];omega
end Go.Proofs.YtlogolpcipiceaaGreatDoor
