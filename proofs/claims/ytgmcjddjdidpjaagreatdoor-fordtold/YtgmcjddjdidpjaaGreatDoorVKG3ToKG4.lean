/- Lemmas for the last text. Conditions: those that each names. -/
import Derived.Test.YtgmcjddjdidpjaaGreatDoorVKPlainToKG2
set_option linter.unusedVariables false
set_option maxRecDepth 100000
set_option maxHeartbeats 2000000
namespace Go.Proofs.YtgmcjddjdidpjaaGreatDoor
open Go.Proofs.Tryz
open Go.RowKit
variable {w w1:World} {g p:Nat} {c:Nat×Nat}
theorem Nc(b:Nat)(v:Bool)(hb:b<256)(h:mark b=v):Hid (∀w:World,Calls prog 246 #[.int .u8 b] w fun e w'=>e=.returned (.bool v)/\w'=w):=fun w=>h▸z0P b w hb
theorem z0Y(b:Nat)(v:Bool)(hb:b<256)(h:(decide (32<=b)&&decide (b<=126))=v):Hid (∀w:World,Calls prog 247 #[.int .u8 b] w fun e w'=>e=.returned (.bool v)/\w'=w):=fun w=>h▸z0Q b w hb
theorem z6Z(S:ByteArray)(m b n:Nat)(w:World)(h:esc S m=.inr (b,n))(hS:S.size<=9007199254740992):
  Calls prog 245 #[.string S,.int .i64 m] w fun e w'=>e=.returned (.tuple #[.int .u8 b,.int .i64 n,.nilIface])/\Below w.heap.size w w':=by
 unfold esc at h;cases hx0:bt S m with
 |none=>rw[hx0]at h;cases h
 |some x=>
  rw[hx0]at h;simp only at h;have hxl:=(Qb hx0).2;obtain⟨hk,hx⟩:=Zd hx0;have hkI:(m:Int)<(S.size:Int):=by omega
  have a0:decide ((S.size:Int)<=(m:Int))=false:=by simp;omega
  clear hx0;cases hv:Uf x with
  |some b'=>
   rw[hv]at h;simp only[Sum.inr.injEq,Prod.mk.injEq]at h;obtain⟨rfl,rfl⟩:=h;have hn:((m+1:Nat):Int)=(m:Int)+1:=by omega
   rw[hn];clear hn;unfold Uf at hv;by_cases h1:x=110
   ·rw[if_pos h1]at hv
    obtain rfl:b'=10:=by simpa using hv.symm
    have t110:((x:Int) == 110)=true:=by simp;omega
    clear h1 hv;go_enter func245,ntmps245
    go_wp2_with fail
    go_ret3
    exact⟨rfl,Below.refl _ _⟩
   ·rw[if_neg h1]at hv
    have t110:((x:Int) == 110)=false:=by simp;omega
    by_cases h2:x=114
    ·rw[if_pos h2]at hv
     obtain rfl:b'=13:=by simpa using hv.symm
     have t114:((x:Int) == 114)=true:=by simp;omega
     clear h1 h2 hv;go_enter func245,ntmps245
     go_wp2_with fail
     go_ret3
     exact⟨rfl,Below.refl _ _⟩
    ·rw[if_neg h2]at hv
     have t114:((x:Int) == 114)=false:=by simp;omega
     by_cases h3:x=116
     ·rw[if_pos h3]at hv
      obtain rfl:b'=9:=by simpa using hv.symm
      have t116:((x:Int) == 116)=true:=by simp;omega
      clear h1 h2 h3 hv;go_enter func245,ntmps245
      go_wp2_with fail
      go_ret3
      exact⟨rfl,Below.refl _ _⟩
     ·rw[if_neg h3]at hv
      have t116:((x:Int) == 116)=false:=by simp;omega
      cases hm:mark x with
      |false=>rw[hm]at hv;simp at hv
      |true=>
       rw[hm]at hv;obtain rfl:x=b':=by simpa using hv
       have HMk:=Nc x true hxl hm;clear h1 h2 h3 hv hm;go_enter func245,ntmps245
       go_wp2_with fail
       refine(HMk.out _).mono ?_;rintro e w1 ⟨rfl,rfl⟩
       go_wp2_with fail
       go_ret3
       exact⟨rfl,Below.refl _ _⟩
  |none=>
   rw[hv]at h;simp only at h;unfold Uf at hv;have h1:x≠110:=fun e=>by rw[if_pos e]at hv;cases hv
   rw[if_neg h1]at hv;have h2:x≠114:=fun e=>by rw[if_pos e]at hv;cases hv
   rw[if_neg h2]at hv;have h3:x≠116:=fun e=>by rw[if_pos e]at hv;cases hv
   rw[if_neg h3]at hv;have hm:mark x=false:=by cases hm:mark x with|false=>rfl|true=>rw[hm]at hv;simp at hv
   by_cases h4:x=120
   ·rw[if_pos h4]at h
    have t110:((x:Int) == 110)=false:=by simp;omega
    have t114:((x:Int) == 114)=false:=by simp;omega
    have t116:((x:Int) == 116)=false:=by simp;omega
    have t120:((x:Int) == 120)=true:=by simp;omega
    have HMk:=Nc x false hxl hm;have HD:Hid (∀w:World,Calls prog 263 #[.string S,.int .i64 ((m:Int)+1)] w fun e w'=>e=.returned (.tuple #[.int .u8 b,.int .i64 n,.nilIface])/\Below w.heap.size w w'):=fun w=>by
     have h:=z6Y S (m+1) b n w h hS;rw[show((m+1:Nat):Int)=(m:Int)+1 by omega]at h;exact h
    clear h h1 h2 h3 h4 hv hm;go_enter func245,ntmps245
    go_wp2_with fail
    refine(HMk.out _).mono ?_;rintro e w1 ⟨rfl,rfl⟩
    go_wp2_with fail
    refine(HD.out _).mono ?_;rintro e w2 ⟨rfl,hb2⟩;have HB2:Hid (Below w1.heap.size w1 w2):=hb2;clear hb2
    go_wp2_with fail
    go_ret3
    exact⟨rfl,HB2.out⟩
   ·rw[if_neg h4]at h
    cases h
theorem z7a(S:ByteArray)(m:Nat)(c:Nat×Nat)(w:World)(h:esc S m=.inl c)(hS:S.size<=9007199254740992)(hm:m<=9007199254740996):
  Calls prog 245 #[.string S,.int .i64 m] w fun e w'=>Bad (.int .u8 0) c w e w':=by
 unfold esc at h;cases hx0:bt S m with
 |none=>
  rw[hx0]at h;simp only[Sum.inl.injEq]at h;have:=Xj hx0;have a0:decide ((S.size:Int)<=(m:Int))=true:=by simp;omega
  have HF:Hid (flt S m=c):=h;clear h hx0;go_enter func245,ntmps245
  go_wp2_with fail
  refine(Fm S m c w _ HF.out hS (by omega) B0q).mono ?_;rintro e w2 ⟨p,rfl,HP⟩;unfold flv
  go_wp2_with fail
  go_ret3
  exact⟨p,rfl,HP⟩
 |some x=>
  rw[hx0]at h;simp only at h;have hxl:=(Qb hx0).2;obtain⟨hk,hx⟩:=Zd hx0;have hkI:(m:Int)<(S.size:Int):=by omega
  have a0:decide ((S.size:Int)<=(m:Int))=false:=by simp;omega
  clear hx0;cases hv:Uf x with
  |some b'=>rw[hv]at h;cases h
  |none=>
   rw[hv]at h;simp only at h;unfold Uf at hv;have h1:x≠110:=fun e=>by rw[if_pos e]at hv;cases hv
   rw[if_neg h1]at hv;have h2:x≠114:=fun e=>by rw[if_pos e]at hv;cases hv
   rw[if_neg h2]at hv;have h3:x≠116:=fun e=>by rw[if_pos e]at hv;cases hv
   rw[if_neg h3]at hv;have hmk:mark x=false:=by cases hm:mark x with|false=>rfl|true=>rw[hm]at hv;simp at hv
   have t110:((x:Int) == 110)=false:=by simp;omega
   have t114:((x:Int) == 114)=false:=by simp;omega
   have t116:((x:Int) == 116)=false:=by simp;omega
   have HMk:=Nc x false hxl hmk;by_cases h4:x=120
   ·rw[if_pos h4]at h
    have t120:((x:Int) == 120)=true:=by simp;omega
    have HD:Hid (∀w:World,Calls prog 263 #[.string S,.int .i64 ((m:Int)+1)] w fun e w'=>Bad (.int .u8 0) c w e w'):=fun w=>by
     have h:=z6X S (m+1) c w h hS (by omega);rw[show((m+1:Nat):Int)=(m:Int)+1 by omega]at h;exact h
    clear h h1 h2 h3 h4 hv hmk;go_enter func245,ntmps245
    go_wp2_with fail
    refine(HMk.out _).mono ?_;rintro e w1 ⟨rfl,rfl⟩
    go_wp2_with fail
    refine(HD.out _).mono ?_;rintro e w2 ⟨p,rfl,HP⟩;unfold flv
    go_wp2_with fail
    go_ret3
    exact⟨p,rfl,HP⟩
   ·rw[if_neg h4]at h
    simp only[Sum.inl.injEq]at h;have t120:((x:Int) == 120)=false:=by simp;omega
    have HF:Hid (flt S m=c):=h;clear h h1 h2 h3 h4 hv hmk;go_enter func245,ntmps245
    go_wp2_with fail
    refine(HMk.out _).mono ?_;rintro e w1 ⟨rfl,rfl⟩
    go_wp2_with fail
    refine(Fm S m c w1 _ HF.out hS (by omega) B0q).mono ?_;rintro e w2 ⟨p,rfl,HP⟩;unfold flv
    go_wp2_with fail
    go_ret3
    exact⟨p,rfl,HP⟩
theorem Hq(S:ByteArray)(k b n:Nat)(w:World)(h:sg S k=.inr (b,n))(hS:S.size<=9007199254740992):
  Calls prog 223 #[.string S,.int .i64 k] w fun e w'=>e=.returned (.tuple #[.int .u8 b,.int .i64 n,.nilIface])/\Below w.heap.size w w':=by
 unfold sg at h;cases hx0:bt S k with
 |none=>rw[hx0]at h;cases h
 |some x=>
  rw[hx0]at h;simp only at h;have hxl:=(Qb hx0).2;obtain⟨hk,hx⟩:=Zd hx0;have hkI:(k:Int)<(S.size:Int):=by omega
  by_cases h1:x=92
  ·rw[if_pos h1]at h
   subst h1;have HB:Hid (∀w:World,Calls prog 189 #[.string S,.int .i64 k,.int .u8 92] w fun e w'=>e=.returned (.bool true)/\Below w.heap.size w w'):=fun w=>Fd S k 92 w hx0 hS
   have HE:Hid (∀w:World,Calls prog 245 #[.string S,.int .i64 ((k:Int)+1)] w fun e w'=>e=.returned (.tuple #[.int .u8 b,.int .i64 n,.nilIface])/\Below w.heap.size w w'):=fun w=>by
    have he:=z6Z S (k+1) b n w h hS;rw[show((k+1:Nat):Int)=(k:Int)+1 by omega]at he;exact he
   clear h hx0 hx;go_enter func223,ntmps223
   go_wp2_with fail
   refine(HB.out _).mono ?_;rintro e w1 ⟨rfl,hb1⟩;have HB1:Hid (Below w.heap.size w w1):=hb1;clear hb1
   go_wp2_with fail
   refine(HE.out _).mono ?_;rintro e w2 ⟨rfl,hb2⟩;have HB2:Hid (Below w.heap.size w w2):=HB1.out.trans (hb2.mono HB1.out.size);clear hb2
   go_wp2_with fail
   go_ret3
   exact⟨rfl,HB2.out⟩
  ·rw[if_neg h1]at h
   cases hp:Np x with
   |false=>rw[hp]at h;simp at h
   |true=>
    rw[hp,if_pos rfl]at h;simp only[Sum.inr.injEq,Prod.mk.injEq]at h;obtain⟨rfl,rfl⟩:=h;unfold Np at hp;simp only[Bool.and_eq_true,Bool.not_eq_true']at hp;have HB:Hid (∀w:World,Calls prog 189 #[.string S,.int .i64 k,.int .u8 92] w fun e w'=>e=.returned (.bool false)/\Below w.heap.size w w'):=fun w=>Kg S k 92 w (by omega) (by rw[hx0];simpa using h1) hS
    have HM:=Nc x false hxl hp.1;have HP:=z0Y x true hxl (by rw[Bool.and_eq_true];exact hp.2);have a0:decide ((S.size:Int)<=(k:Int))=false:=by simp;omega
    have hNI:((k+1:Nat):Int)=(k:Int)+1:=by omega
    rw[hNI];clear hp h1 hx0 hNI;go_enter func223,ntmps223
    go_wp2_with fail
    refine(HB.out _).mono ?_;rintro e w1 ⟨rfl,hb1⟩;have HB1:Hid (Below w.heap.size w w1):=hb1;clear hb1
    go_wp2_with fail
    refine(HM.out _).mono ?_;rintro e w2 ⟨rfl,rfl⟩
    go_wp2_with fail
    refine(HP.out _).mono ?_;rintro e w3 ⟨rfl,rfl⟩
    go_wp2_with fail
    go_ret3
    exact⟨rfl,HB1.out⟩
theorem Bad.step{z:Value}{c:Nat×Nat}{w w1 w':World}{e:Ending}(h:Bad z c w1 e w')(hb:Below w.heap.size w w1):Bad z c w e w':=by
 obtain⟨p,he,hp⟩:=h;exact⟨p,he,Nat.le_trans hb.size hp.out.1,hp.out.2.1,hb.trans (hp.out.2.2.mono hb.size)⟩
theorem z0Z(S:ByteArray)(k:Nat)(c:Nat×Nat)(w:World)(h:sg S k=.inl c)(hS:S.size<=9007199254740992)(hk:k<=9007199254740995):
  Calls prog 223 #[.string S,.int .i64 k] w fun e w'=>Bad (.int .u8 0) c w e w':=by
 unfold sg at h;cases hx0:bt S k with
 |none=>
  rw[hx0]at h;simp only[Sum.inl.injEq]at h;have hge:=Xj hx0;have a0:decide ((S.size:Int)<=(k:Int))=true:=by simp;omega
  have HB:Hid (∀w:World,Calls prog 189 #[.string S,.int .i64 k,.int .u8 92] w fun e w'=>e=.returned (.bool false)/\Below w.heap.size w w'):=fun w=>z0W S k 92 w hge hS
  have HF:Hid (flt S k=c):=h;clear h hx0;go_enter func223,ntmps223
  go_wp2_with fail
  refine(HB.out _).mono ?_;rintro e w1 ⟨rfl,hb1⟩;have HB1:Hid (Below w.heap.size w w1):=hb1;clear hb1
  go_wp2_with fail
  refine(Fm S k c w _ HF.out hS (by omega) HB1.out).mono ?_;rintro e w2 ⟨p,rfl,HP⟩;unfold flv
  go_wp2_with fail
  go_ret3
  exact⟨p,rfl,HP⟩
 |some x=>
  rw[hx0]at h;simp only at h;have hxl:=(Qb hx0).2;obtain⟨hkk,hx⟩:=Zd hx0;have hkI:(k:Int)<(S.size:Int):=by omega
  by_cases h1:x=92
  ·rw[if_pos h1]at h
   subst h1;have HB:Hid (∀w:World,Calls prog 189 #[.string S,.int .i64 k,.int .u8 92] w fun e w'=>e=.returned (.bool true)/\Below w.heap.size w w'):=fun w=>Fd S k 92 w hx0 hS
   have HE:Hid (∀w:World,Calls prog 245 #[.string S,.int .i64 ((k:Int)+1)] w fun e w'=>Bad (.int .u8 0) c w e w'):=fun w=>by
    have he:=z7a S (k+1) c w h hS (by omega);rw[show((k+1:Nat):Int)=(k:Int)+1 by omega]at he;exact he
   clear h hx0 hx;go_enter func223,ntmps223
   go_wp2_with fail
   refine(HB.out _).mono ?_;rintro e w1 ⟨rfl,hb1⟩;have HB1:Hid (Below w.heap.size w w1):=hb1;clear hb1
   go_wp2_with fail
   refine(HE.out _).mono ?_;intro e w2 hbad;obtain⟨p,rfl,HP⟩:=hbad.step HB1.out;unfold flv
   go_wp2_with fail
   go_ret3
   exact⟨p,rfl,HP⟩
  ·rw[if_neg h1]at h
   cases hp:Np x with
   |true=>rw[hp,if_pos rfl]at h;cases h
   |false=>
    rw[hp]at h;simp at h;have HF:Hid (flt S k=c):=h;have HB:Hid (∀w:World,Calls prog 189 #[.string S,.int .i64 k,.int .u8 92] w fun e w'=>e=.returned (.bool false)/\Below w.heap.size w w'):=fun w=>Kg S k 92 w (by omega) (by rw[hx0];simpa using h1) hS
    have a0:decide ((S.size:Int)<=(k:Int))=false:=by simp;omega
    unfold Np at hp;cases hm:mark x with
    |true=>
     have HM:=Nc x true hxl hm;clear hp h1 hx0 h hm;go_enter func223,ntmps223
     go_wp2_with fail
     refine(HB.out _).mono ?_;rintro e w1 ⟨rfl,hb1⟩;have HB1:Hid (Below w.heap.size w w1):=hb1;clear hb1
     go_wp2_with fail
     refine(HM.out _).mono ?_;rintro e w2 ⟨rfl,rfl⟩
     go_wp2_with fail
     refine(Fm S k c w _ HF.out hS (by omega) HB1.out).mono ?_;rintro e w3 ⟨p,rfl,HP⟩;unfold flv
     go_wp2_with fail
     go_ret3
     exact⟨p,rfl,HP⟩
    |false=>
     have HM:=Nc x false hxl hm;have HQ:=z0Y x false hxl (by rw[hm]at hp;simpa using hp);clear hp h1 hx0 h hm;go_enter func223,ntmps223
     go_wp2_with fail
     refine(HB.out _).mono ?_;rintro e w1 ⟨rfl,hb1⟩;have HB1:Hid (Below w.heap.size w w1):=hb1;clear hb1
     go_wp2_with fail
     refine(HM.out _).mono ?_;rintro e w2 ⟨rfl,rfl⟩
     go_wp2_with fail
     refine(HQ.out _).mono ?_;rintro e w2 ⟨rfl,rfl⟩
     go_wp2_with fail
     refine(Fm S k c w _ HF.out hS (by omega) HB1.out).mono ?_;rintro e w3 ⟨p,rfl,HP⟩;unfold flv
     go_wp2_with fail
     go_ret3
     exact⟨p,rfl,HP⟩
theorem z1a{S:ByteArray}{k x:Nat}(h:bt S k=some x):k<S.size:=(Qb h).1
theorem z1b(S:ByteArray)(k X N:Nat)(w:World)(h:mbr S k=.inr (X,N))(hS:S.size<=9007199254740992):
  Calls prog 191 #[.string S,.int .i64 k] w fun e w'=>e=.returned (.tuple #[cv X,.int .i64 N,.nilIface])/\Below w.heap.size w w':=by
 unfold mbr at h;cases hs:sg S k with
 |inl c=>rw[hs]at h;cases h
 |inr q=>
  obtain⟨lo,M⟩:=q;rw[hs]at h;simp only at h;have hlo:=Fh hs;have HT1:Hid (∀w:World,Calls prog 223 #[.string S,.int .i64 k] w fun e w'=>e=.returned (.tuple #[.int .u8 lo,.int .i64 M,.nilIface])/\Below w.heap.size w w'):=fun w=>Hq S k lo M w hs hS
  by_cases hm:bt S M=some 45
  ·rw[if_pos hm]at h
   cases hs2:sg S (M+1)with
   |inl c=>rw[hs2]at h;cases h
   |inr q2=>
    obtain⟨hi,N2⟩:=q2;rw[hs2]at h;simp only at h;have hhi:=Fh hs2;by_cases hlt:hi<lo
    ·rw[if_pos hlt]at h;cases h
    ·rw[if_neg hlt]at h
     simp only[Sum.inr.injEq,Prod.mk.injEq]at h;obtain⟨hX,rfl⟩:=h;have HBg:Hid (∀w:World,Calls prog 189 #[.string S,.int .i64 M,.int .u8 45] w fun e w'=>e=.returned (.bool true)/\Below w.heap.size w w'):=fun w=>Fd S M 45 w hm hS
     have HT2:Hid (∀w:World,Calls prog 223 #[.string S,.int .i64 ((M:Int)+1)] w fun e w'=>e=.returned (.tuple #[.int .u8 hi,.int .i64 N2,.nilIface])/\Below w.heap.size w w'):=fun w=>by
      have ht:=Hq S (M+1) hi N2 w hs2 hS;rw[show((M+1:Nat):Int)=(M:Int)+1 by omega]at ht;exact ht
     have HSp:Hid (∀w:World,Calls prog 184 #[.int .i64 lo,.int .i64 hi] w fun e w'=>e=.returned (cv X)/\Below w.heap.size w w'):=by rw[<-hX];exact fun w=>Ad lo hi w (by omega) hhi.1
     have hw1:IntKind.i64.wrap (lo:Int)=(lo:Int):=by rw[IntKind.wrap_i64];omega
     have hw2:IntKind.i64.wrap (hi:Int)=(hi:Int):=by rw[IntKind.wrap_i64];omega
     have d1:decide ((hi:Int)<(lo:Int))=false:=by simp;omega
     have d2:decide (hi<lo)=false:=by simp;omega
     have hMs:M<S.size:=z1a hm;clear hm hs hs2 hX hlt hlo hhi;go_enter func191,ntmps191
     go_wp2_with fail
     refine(HT1.out _).mono ?_;rintro e w1 ⟨rfl,hb1⟩;have HB1:Hid (Below w.heap.size w w1):=(B0q.alloc L0q _).trans (hb1.mono (by simp));have HK1:Hid (Blk w1 w.heap.size 0):=(Blk.new0 w).below hb1 (by simp);clear hb1
     go_wp2_with fail
     refine(HBg.out _).mono ?_;rintro e w2 ⟨rfl,hb2⟩;have HB2:Hid (Below w.heap.size w w2):=HB1.out.trans (hb2.mono HB1.out.size);have HK2:Hid (Blk w2 w.heap.size 0):=HK1.out.below hb2 HK1.out.lt;clear hb2 HK1
     go_wp2_with fail
     refine(HT2.out _).mono ?_;rintro e w5 ⟨rfl,hb5⟩;have HB5:Hid (Below w.heap.size w w5):=HB2.out.trans (hb5.mono HB2.out.size);have HK5:Hid (Blk w5 w.heap.size 0):=HK2.out.below hb5 HK2.out.lt;clear hb5 HK2
     go_wp2_with fail
     refine(HSp.out _).mono ?_;rintro e w3 ⟨rfl,hb3⟩;have HB3:Hid (Below w.heap.size w w3):=HB5.out.trans (hb3.mono HB5.out.size);have HK3:Hid (Blk w3 w.heap.size 0):=HK5.out.below hb3 HK5.out.lt;clear hb3 HK5;obtain⟨c0,c1,c2,c3⟩:=HK3.out.cells;obtain⟨f0,f1,f2,f3⟩:=HK3.out.thaw;obtain⟨r0,r1,r2,r3⟩:=(HK3.out.st4 X).cells;have HB4:Hid (Below w.heap.size w (st4 w3 w.heap.size X)):=Below.st4 HB3.out L0q _;unfold st4 at r0 r1 r2 r3;clear HK3;dsimp only[cv]
     go_wp2_with fail
     refine bodyPost_ret (v:=.tuple #[cv X,.int .i64 N2,.nilIface]) (by simp[results,Tryz.results191,go_sem,r0,r1,r2,r3]) rfl ⟨rfl,HB4.out⟩
  ·rw[if_neg hm]at h
   simp only[Sum.inr.injEq,Prod.mk.injEq]at h;obtain⟨hX,rfl⟩:=h;have HBg:Hid (∀w:World,Calls prog 189 #[.string S,.int .i64 M,.int .u8 45] w fun e w'=>e=.returned (.bool false)/\Below w.heap.size w w'):=fun w=>Kg S M 45 w (by omega) hm hS
   have HSp:Hid (∀w:World,Calls prog 184 #[.int .i64 lo,.int .i64 lo] w fun e w'=>e=.returned (cv X)/\Below w.heap.size w w'):=by rw[<-hX];exact fun w=>Ad lo lo w L0q hlo.1
   have hw1:IntKind.i64.wrap (lo:Int)=(lo:Int):=by rw[IntKind.wrap_i64];omega
   clear hm hs hX hlo;go_enter func191,ntmps191
   go_wp2_with fail
   refine(HT1.out _).mono ?_;rintro e w1 ⟨rfl,hb1⟩;have HB1:Hid (Below w.heap.size w w1):=(B0q.alloc L0q _).trans (hb1.mono (by simp));have HK1:Hid (Blk w1 w.heap.size 0):=(Blk.new0 w).below hb1 (by simp);clear hb1
   go_wp2_with fail
   refine(HBg.out _).mono ?_;rintro e w2 ⟨rfl,hb2⟩;have HB2:Hid (Below w.heap.size w w2):=HB1.out.trans (hb2.mono HB1.out.size);have HK2:Hid (Blk w2 w.heap.size 0):=HK1.out.below hb2 HK1.out.lt;clear hb2 HK1
   go_wp2_with fail
   refine(HSp.out _).mono ?_;rintro e w3 ⟨rfl,hb3⟩;have HB3:Hid (Below w.heap.size w w3):=HB2.out.trans (hb3.mono HB2.out.size);have HK3:Hid (Blk w3 w.heap.size 0):=HK2.out.below hb3 HK2.out.lt;clear hb3 HK2;obtain⟨c0,c1,c2,c3⟩:=HK3.out.cells;obtain⟨f0,f1,f2,f3⟩:=HK3.out.thaw;obtain⟨r0,r1,r2,r3⟩:=(HK3.out.st4 X).cells;have HB4:Hid (Below w.heap.size w (st4 w3 w.heap.size X)):=Below.st4 HB3.out L0q _;unfold st4 at r0 r1 r2 r3;clear HK3;dsimp only[cv]
   go_wp2_with fail
   refine bodyPost_ret (v:=.tuple #[cv X,.int .i64 M,.nilIface]) (by simp[results,Tryz.results191,go_sem,r0,r1,r2,r3]) rfl ⟨rfl,HB4.out⟩
@[reducible] def z4 (w:World) (g:Nat):World:=(((w.setCell ⟨g,0,none⟩ (.int .u64 0)).setCell ⟨g,1,none⟩ (.int .u64 0)).setCell ⟨g,2,none⟩ (.int .u64 0)).setCell ⟨g,3,none⟩ (.int .u64 0)
theorem Rz(w:World)(g:Nat):z4 w g=st4 w g 0:=by
 have:∀i,((wd 0 i:Nat):Int)=0:=fun i=>by rw[Vx];rfl
 unfold z4 st4;rw[this,this,this,this]
theorem Blk.zero{C:Nat}(h:Blk w g C):(z4 w g).cell? ⟨g,0,none⟩=some (.int .u64 0)/\(z4 w g).cell? ⟨g,1,none⟩=some (.int .u64 0)/\(z4 w g).cell? ⟨g,2,none⟩=some (.int .u64 0)/\(z4 w g).cell? ⟨g,3,none⟩=some (.int .u64 0):=by
 have h2:=(h.st4 0).cells;rw[<-Rz]at h2;simp only[Vx]at h2;exact h2
theorem Flt.st4{w:World}{p g D:Nat}{c:Nat×Nat}(h:Flt w p c)(hne:p≠g):Flt (Proofs.YtgmcjddjdidpjaaGreatDoor.st4 w g D) p c:=by
 unfold Flt Proofs.YtgmcjddjdidpjaaGreatDoor.st4 at*;rw[Below.heap_setCell _ _ _ _ hne,Below.heap_setCell _ _ _ _ hne,Below.heap_setCell _ _ _ _ hne,Below.heap_setCell _ _ _ _ hne];exact h
theorem Ac(hB:Below w.heap.size w w1)(hg:w.heap.size<=g)(hF:Flt w1 p c)(hp:w.heap.size<=p)(hne:p≠g):Hid (w.heap.size<=p/\Flt (z4 w1 g) p c/\Below w.heap.size w (z4 w1 g)):=by
 show _/\_/\_;rw[Rz];exact⟨hp,hF.st4 hne,Below.st4 hB hg 0⟩
theorem Blk.zeroA{C:Nat}(h:Blk w g C)(o:Obj):((z4 w g).alloc o).cell? ⟨g,0,none⟩=some (.int .u64 0)/\((z4 w g).alloc o).cell? ⟨g,1,none⟩=some (.int .u64 0)/\((z4 w g).alloc o).cell? ⟨g,2,none⟩=some (.int .u64 0)/\((z4 w g).alloc o).cell? ⟨g,3,none⟩=some (.int .u64 0):=by
 have h2:=((h.st4 0).alloc o).cells;rw[<-Rz]at h2;simp only[Vx]at h2;exact h2
theorem z1c(hB:Below w.heap.size w w1)(hg:w.heap.size<=g)(hF:Flt w1 p c)(hp:w.heap.size<=p)(hne:p≠g)(o:Obj):Hid (w.heap.size<=p/\Flt ((z4 w1 g).alloc o) p c/\Below w.heap.size w ((z4 w1 g).alloc o)):=by
 obtain⟨h1,h2,h3⟩:=Ac hB hg hF hp hne;exact⟨h1,h2.alloc o,h3.alloc h3.size o⟩
theorem cv0:cv 0=.agg #[.int .u64 0,.int .u64 0,.int .u64 0,.int .u64 0]:=Pg
def Up(w w1:World)(p:Nat)(c:Nat×Nat):Prop:=w.heap.size<=p/\p≠w.heap.size/\Flt w1 p c
theorem Up.mk{o:Obj}(h:(w.alloc o).heap.size<=p/\Flt w1 p c/\Below (w.alloc o).heap.size (w.alloc o) w1):Up w w1 p c:=by
 have:=h.1;simp at this;exact⟨by omega,by omega,h.2.1⟩
theorem z1d(S:ByteArray)(k:Nat)(c:Nat×Nat)(w:World)(h:mbr S k=.inl c)(hS:S.size<=9007199254740992)(hk:k<=9007199254740993):
  Calls prog 191 #[.string S,.int .i64 k] w fun e w'=>Bad (cv 0) c w e w':=by
 rw[cv0];unfold mbr at h;cases hs:sg S k with
 |inl c'=>
  rw[hs]at h;simp only[Sum.inl.injEq]at h;subst h;have HT1:Hid (∀w:World,Calls prog 223 #[.string S,.int .i64 k] w fun e w'=>Bad (.int .u8 0) c' w e w'):=fun w=>z0Z S k c' w hs hS (by omega)
  clear hs;go_enter func191,ntmps191
  go_wp2_with fail
  refine(HT1.out _).mono ?_;rintro e w1 ⟨p,rfl,HP⟩;have HB1:Hid (Below w.heap.size w w1):=(B0q.alloc L0q _).trans (HP.out.2.2.mono (by simp));have HK1:Hid (Blk w1 w.heap.size 0):=(Blk.new0 w).below HP.out.2.2 (by simp);have HQ:Hid (Up w w1 p c'):=Up.mk HP.out;clear HP;obtain⟨c0,c1,c2,c3⟩:=HK1.out.cells;obtain⟨f0,f1,f2,f3⟩:=HK1.out.thaw;obtain⟨r0,r1,r2,r3⟩:=HK1.out.zero;unfold z4 at r0 r1 r2 r3;unfold flv
  go_wp2_with fail
  refine bodyPost_ret (v:=.tuple #[.agg #[.int .u64 0,.int .u64 0,.int .u64 0,.int .u64 0],.int .i64 0,.iface 81 (.pointer (some ⟨p,0,none⟩))]) (by simp[results,Tryz.results191,go_sem,r0,r1,r2,r3]) rfl ⟨p,rfl,Ac HB1.out L0q HQ.out.2.2 HQ.out.1 HQ.out.2.1⟩
 |inr q=>
  obtain⟨lo,M⟩:=q;rw[hs]at h;simp only at h;have hlo:=Fh hs;have HT1:Hid (∀w:World,Calls prog 223 #[.string S,.int .i64 k] w fun e w'=>e=.returned (.tuple #[.int .u8 lo,.int .i64 M,.nilIface])/\Below w.heap.size w w'):=fun w=>Hq S k lo M w hs hS
  by_cases hm:bt S M=some 45
  ·rw[if_pos hm]at h
   have hMs:M<S.size:=z1a hm;have HBg:Hid (∀w:World,Calls prog 189 #[.string S,.int .i64 M,.int .u8 45] w fun e w'=>e=.returned (.bool true)/\Below w.heap.size w w'):=fun w=>Fd S M 45 w hm hS
   cases hs2:sg S (M+1)with
   |inl c'=>
    rw[hs2]at h;simp only[Sum.inl.injEq]at h;subst h;have HT2:Hid (∀w:World,Calls prog 223 #[.string S,.int .i64 ((M:Int)+1)] w fun e w'=>Bad (.int .u8 0) c' w e w'):=fun w=>by
     have ht:=z0Z S (M+1) c' w hs2 hS (by omega);rw[show((M+1:Nat):Int)=(M:Int)+1 by omega]at ht;exact ht
    clear hm hs hs2 hlo;go_enter func191,ntmps191
    go_wp2_with fail
    refine(HT1.out _).mono ?_;rintro e w1 ⟨rfl,hb1⟩;have HB1:Hid (Below w.heap.size w w1):=(B0q.alloc L0q _).trans (hb1.mono (by simp));have HK1:Hid (Blk w1 w.heap.size 0):=(Blk.new0 w).below hb1 (by simp);clear hb1
    go_wp2_with fail
    refine(HBg.out _).mono ?_;rintro e w2 ⟨rfl,hb2⟩;have HB2:Hid (Below w.heap.size w w2):=HB1.out.trans (hb2.mono HB1.out.size);have HK2:Hid (Blk w2 w.heap.size 0):=HK1.out.below hb2 HK1.out.lt;clear hb2 HK1
    go_wp2_with fail
    refine(HT2.out _).mono ?_;rintro e w5 ⟨p,rfl,HP⟩;have HB5:Hid (Below w.heap.size w w5):=HB2.out.trans (HP.out.2.2.mono HB2.out.size);have HK5:Hid (Blk w5 w.heap.size 0):=HK2.out.below HP.out.2.2 HK2.out.lt;have HQ:Hid (Up w w5 p c'):=⟨Nat.le_trans HB2.out.size HP.out.1,fun e=>by have h1:=HK2.out.lt;have h2:=HP.out.1;omega,HP.out.2.1⟩;clear HP HK2;obtain⟨c0,c1,c2,c3⟩:=HK5.out.cells;obtain⟨f0,f1,f2,f3⟩:=HK5.out.thaw;obtain⟨r0,r1,r2,r3⟩:=HK5.out.zero;unfold z4 at r0 r1 r2 r3;unfold flv
    go_wp2_with fail
    refine bodyPost_ret (v:=.tuple #[.agg #[.int .u64 0,.int .u64 0,.int .u64 0,.int .u64 0],.int .i64 0,.iface 81 (.pointer (some ⟨p,0,none⟩))]) (by simp[results,Tryz.results191,go_sem,r0,r1,r2,r3]) rfl ⟨p,rfl,Ac HB5.out L0q HQ.out.2.2 HQ.out.1 HQ.out.2.1⟩
   |inr q2=>
    obtain⟨hi,N2⟩:=q2;rw[hs2]at h;simp only at h;have hhi:=Fh hs2;by_cases hlt:hi<lo
    ·rw[if_pos hlt]at h
     simp only[Sum.inl.injEq]at h;have HT2:Hid (∀w:World,Calls prog 223 #[.string S,.int .i64 ((M:Int)+1)] w fun e w'=>e=.returned (.tuple #[.int .u8 hi,.int .i64 N2,.nilIface])/\Below w.heap.size w w'):=fun w=>by
      have ht:=Hq S (M+1) hi N2 w hs2 hS;rw[show((M+1:Nat):Int)=(M:Int)+1 by omega]at ht;exact ht
     have HF:Hid (flt S k=c):=h;have d1:decide ((hi:Int)<(lo:Int))=true:=by simp;omega
     have d2:decide (hi<lo)=true:=by simp;omega
     clear hm hs hs2 hlo hhi h;go_enter func191,ntmps191
     go_wp2_with fail
     refine(HT1.out _).mono ?_;rintro e w1 ⟨rfl,hb1⟩;have HB1:Hid (Below w.heap.size w w1):=(B0q.alloc L0q _).trans (hb1.mono (by simp));have HK1:Hid (Blk w1 w.heap.size 0):=(Blk.new0 w).below hb1 (by simp);clear hb1
     go_wp2_with fail
     refine(HBg.out _).mono ?_;rintro e w2 ⟨rfl,hb2⟩;have HB2:Hid (Below w.heap.size w w2):=HB1.out.trans (hb2.mono HB1.out.size);have HK2:Hid (Blk w2 w.heap.size 0):=HK1.out.below hb2 HK1.out.lt;clear hb2 HK1
     go_wp2_with fail
     refine(HT2.out _).mono ?_;rintro e w5 ⟨rfl,hb5⟩;have HB5:Hid (Below w.heap.size w w5):=HB2.out.trans (hb5.mono HB2.out.size);have HK5:Hid (Blk w5 w.heap.size 0):=HK2.out.below hb5 HK2.out.lt;clear hb5 HK2
     go_wp2_with fail
     refine(Fm S k c w5 _ HF.out hS (by omega) B0q).mono ?_;rintro e w3 ⟨p,rfl,HP⟩;have HB3:Hid (Below w.heap.size w w3):=HB5.out.trans (HP.out.2.2.mono HB5.out.size);have HK3:Hid (Blk w3 w.heap.size 0):=HK5.out.below HP.out.2.2 HK5.out.lt;have HQ:Hid (Up w w3 p c):=⟨Nat.le_trans HB5.out.size HP.out.1,fun e=>by have h1:=HK5.out.lt;have h2:=HP.out.1;omega,HP.out.2.1⟩;clear HP HK5;obtain⟨c0,c1,c2,c3⟩:=HK3.out.cells;obtain⟨f0,f1,f2,f3⟩:=HK3.out.thaw;obtain⟨r0,r1,r2,r3⟩:=HK3.out.zero;unfold z4 at r0 r1 r2 r3;unfold flv
     go_wp2_with fail
     refine bodyPost_ret (v:=.tuple #[.agg #[.int .u64 0,.int .u64 0,.int .u64 0,.int .u64 0],.int .i64 0,.iface 81 (.pointer (some ⟨p,0,none⟩))]) (by simp[results,Tryz.results191,go_sem,r0,r1,r2,r3]) rfl ⟨p,rfl,Ac HB3.out L0q HQ.out.2.2 HQ.out.1 HQ.out.2.1⟩
    ·rw[if_neg hlt]at h;cases h
  ·rw[if_neg hm]at h;cases h
end Go.Proofs.YtgmcjddjdidpjaaGreatDoor
