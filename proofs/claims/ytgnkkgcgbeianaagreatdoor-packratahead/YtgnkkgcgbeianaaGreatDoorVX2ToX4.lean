/- Lemmas for the last text. Conditions: those that each names. -/
import Derived.Test.YtgnkkgcgbeianaaGreatDoorVKPlainToX1
import Derived.Deep.RegionHeld3
set_option linter.unusedVariables false
set_option maxRecDepth 100000
set_option maxHeartbeats 8000000
namespace Go.Proofs.YtgnkkgcgbeianaaGreatDoor
open Go.Proofs.Tryz
open Go.RowKit
variable {S T:ByteArray} {b base g k n p q:Nat} {w w':World} {v:Value} {acc l:List Nat} {c0 c1 c2 c3 kd:Int}
theorem z1u(h:dg S k=none):dgk S k= -1:=by
 unfold dgk;unfold dg at h;cases hx:bt S k with
 |none=>rfl
 |some x=>rw[hx]at h;exact z8F h
theorem Od{d:Nat}(h:dg S k=some d):dgk S k=(d:Int):=by
 unfold dgk;unfold dg at h;cases hx:bt S k with
 |none=>rw[hx]at h;cases h
 |some x=>rw[hx]at h;exact z8E h
def Yc(x:Nat):Option Nat:=if x=110 then some 10 else if x=114 then some 13 else if x=116 then some 9 else if x=92∨x=39∨x=34 then some x else none
def Ug(S:ByteArray)(k:Nat):Rs:=
 match bt S k with
 |none=>.inl (flt S k)
 |some x=>match Yc x with
  |some b=>.inr (b,k+1)
  |none=>if x=120 then digs S (k+1)else .inl (flt S k)
def lsg(S:ByteArray)(k:Nat):Rs:=
 match bt S k with
 |none=>.inl (flt S k)
 |some x=>if plB x=false then .inl (flt S k)else if x=92 then Ug S (k+1)else .inr (x,k+1)
theorem z8I{x:Nat}(h:Yc x=some b)(hx:x<256):b<256:=by
 unfold Yc at h
 repeat(split at h;(simp at h;omega))
 cases h
theorem z1v(h:Ug S k=.inr (b,n)):b<256/\k<n/\n<=S.size:=by
 unfold Ug at h;split at h
 ·cases h
 ·rename_i x hx
  have o:=Qp hx;split at h
  ·rename_i D t
   simp at h;have:=z8I t o.2;omega
  ·split at h
   ·obtain⟨q,r,y,A,rfl,rfl⟩:=Cx h
    have a1:=Fj y;have a2:=Fj A;have:=a2.2.lt;omega
   ·cases h
theorem Kf(h:lsg S k=.inr (b,n)):b<256/\k<n/\n<=S.size:=by
 unfold lsg at h;split at h
 ·cases h
 ·rename_i x hx
  have o:=Qp hx;split at h
  ·cases h
  ·split at h
   ·have:=z1v h;omega
   ·simp at h;omega
theorem z8J(S:ByteArray)(k b n:Nat)(w:World)(h:digs S k=.inr (b,n))(y:S.size<=9007199254740992):
  Calls prog 209 #[.string S,.int .i64 k] w fun e w'=>e=.returned (.tuple #[.int .u8 b,.int .i64 n,.nilIface])/\Below w.heap.size w w':=by
 obtain⟨q,r,o,t,E,G⟩:=Cx h;have Y:=(Fj o).1;have Z:=(Fj t).1;have aa:=(Fj o).2.lt;obtain⟨m,A⟩:∃m,m=k+1:=⟨_,rfl⟩;have I:Hid (∀w:World,Calls prog 242 #[.string S,.int .i64 k] w fun e w'=>e=.returned (.int .i64 q)/\w'=w):=fun w=>by have h:=Mx S k w y;rw[Od o]at h;exact h
 have U:Hid (∀w:World,Calls prog 242 #[.string S,.int .i64 m] w fun e w'=>e=.returned (.int .i64 r)/\w'=w):=fun w=>by have h:=Mx S m w y;rw[Od (by rw[A];exact t)]at h;exact h
 have i1:(k:Int)+1=(m:Int):=by omega
 have i2:(m:Int)+1=(n:Int):=by omega
 have i3:(k:Int)+2=(n:Int):=by omega
 have l1:decide ((k:Int)<(n:Int))=true:=by simp;omega
 have l2:decide ((m:Int)<(n:Int))=true:=by simp;omega
 have ab:k<n:=by omega
 have ac:m<n:=by omega
 have ad:decide ((q:Int)<0)=false:=by simp
 have ae:decide ((r:Int)<0)=false:=by simp
 have af:(q:Int)<=15:=by omega
 have ag:(r:Int)<=15:=by omega
 have D:(b:Int)=(q:Int)*16+(r:Int):=by omega
 rw[D];have ah:(n:Int)<=9007199254740994:=by omega
 clear h o t E G A D;go_enter func209,ntmps209
 go_wp2_with fail
 refine wp_loop_rounds 3 ?_;rw[rounds_succ]
 go_wp2_with fail
 refine(I.out _).mono ?_;rintro e V ⟨rfl,rfl⟩
 go_wp2_with fail
 rw[rounds_succ]
 go_wp2_with fail
 refine(U.out _).mono ?_;rintro e V ⟨rfl,rfl⟩
 go_wp2_with fail
 rw[rounds_succ]
 go_wp2_with fail
 go_ret3
 exact⟨rfl,Below.refl _ _⟩
theorem z8K(S:ByteArray)(k:Nat)(c:Nat×Nat)(w:World)(h:digs S k=.inl c)(o:S.size<=9007199254740992)(U:k<=9007199254740995):
  Calls prog 209 #[.string S,.int .i64 k] w fun e w'=>Bad (.int .u8 0) c w e w':=by
 unfold digs at h;cases hq:dg S k with
 |none=>
  rw[hq]at h;simp at h;have y:Hid (flt S k=c):=h;have A:Hid (∀w:World,Calls prog 242 #[.string S,.int .i64 k] w fun e w'=>e=.returned (.int .i64 (-1))/\w'=w):=fun w=>by have h:=Mx S k w o;rw[z1u hq]at h;exact h
  have V:(k:Int)<=9007199254740995:=by omega
  clear h hq;go_enter func209,ntmps209
  go_wp2_with fail
  refine wp_loop_rounds 1 ?_;rw[rounds_succ]
  go_wp2_with fail
  refine(A.out _).mono ?_;rintro e t ⟨rfl,rfl⟩
  go_wp2_with fail
  refine(Ky S k c t _ y.out o (by omega) B0q).mono ?_;rintro e G ⟨p,rfl,D⟩;unfold flv
  go_wp2_with fail
  go_ret3
  exact⟨p,rfl,D⟩
 |some q=>
  rw[hq]at h;simp only at h;have Y:=(Fj hq).1;cases hr:dg S (k+1)with
  |some r=>rw[hr]at h;cases h
  |none=>
   rw[hr]at h;simp at h;obtain⟨m,E⟩:∃m,m=k+1:=⟨_,rfl⟩;rw[<-E]at h hr;have y:Hid (flt S m=c):=h;have A:Hid (∀w:World,Calls prog 242 #[.string S,.int .i64 k] w fun e w'=>e=.returned (.int .i64 q)/\w'=w):=fun w=>by have h:=Mx S k w o;rw[Od hq]at h;exact h
   have I:Hid (∀w:World,Calls prog 242 #[.string S,.int .i64 m] w fun e w'=>e=.returned (.int .i64 (-1))/\w'=w):=fun w=>by have h:=Mx S m w o;rw[z1u hr]at h;exact h
   have Z:(k:Int)+1=(m:Int):=by omega
   have i3:(k:Int)+2=(m:Int)+1:=by omega
   have l1:decide ((k:Int)<(m:Int)+1)=true:=by simp;omega
   have l2:decide ((m:Int)<(m:Int)+1)=true:=by simp;omega
   have aa:decide ((q:Int)<0)=false:=by simp
   have ab:(q:Int)<=15:=by omega
   have ac:(m:Int)<=9007199254740996:=by omega
   have ad:m<=9007199254740996:=by omega
   clear h hq hr E;go_enter func209,ntmps209
   go_wp2_with fail
   refine wp_loop_rounds 2 ?_;rw[rounds_succ]
   go_wp2_with fail
   refine(A.out _).mono ?_;rintro e t ⟨rfl,rfl⟩
   go_wp2_with fail
   rw[rounds_succ]
   go_wp2_with fail
   refine(I.out _).mono ?_;rintro e t ⟨rfl,rfl⟩
   go_wp2_with fail
   refine(Ky S m c t _ y.out o (by omega) B0q).mono ?_;rintro e G ⟨p,rfl,D⟩;unfold flv
   go_wp2_with fail
   go_ret3
   exact⟨p,rfl,D⟩
theorem z8L(S:ByteArray)(m x b:Nat)(w:World)(o:bt S m=some x)(h:Yc x=some b)(G:S.size<=9007199254740992):
  Calls prog 173 #[.string S,.int .i64 m] w fun e w'=>e=.returned (.tuple #[.int .u8 b,.int .i64 ((m:Int)+1),.nilIface])/\Below w.heap.size w w':=by
 have I:=(Qp o).2;obtain⟨U,hx⟩:=Xv o;have V:(m:Int)<(S.size:Int):=by omega
 have Y:decide ((S.size:Int)<=(m:Int))=false:=by simp;omega
 clear o;unfold Yc at h;by_cases h110:x=110
 ·rw[if_pos h110]at h
  obtain rfl:b=10:=by simpa using h.symm
  have r:((x:Int) == 110)=true:=by simp;omega
  clear h h110;go_enter func173,ntmps173
  go_wp2_with fail
  go_ret3
  exact⟨rfl,Below.refl _ _⟩
 rw[if_neg h110]at h;by_cases h114:x=114
 ·rw[if_pos h114]at h
  obtain rfl:b=13:=by simpa using h.symm
  have r:((x:Int) == 110)=false:=by simp;omega
  have t:((x:Int) == 114)=true:=by simp;omega
  clear h h114;go_enter func173,ntmps173
  go_wp2_with fail
  go_ret3
  exact⟨rfl,Below.refl _ _⟩
 rw[if_neg h114]at h;by_cases h116:x=116
 ·rw[if_pos h116]at h
  obtain rfl:b=9:=by simpa using h.symm
  have r:((x:Int) == 110)=false:=by simp;omega
  have t:((x:Int) == 114)=false:=by simp;omega
  have A:((x:Int) == 116)=true:=by simp;omega
  clear h h116;go_enter func173,ntmps173
  go_wp2_with fail
  go_ret3
  exact⟨rfl,Below.refl _ _⟩
 rw[if_neg h116]at h;by_cases hq:x=92∨x=39∨x=34
 ·rw[if_pos hq]at h
  obtain rfl:x=b:=by simpa using h
  have r:((x:Int) == 110)=false:=by simp;omega
  have t:((x:Int) == 114)=false:=by simp;omega
  have A:((x:Int) == 116)=false:=by simp;omega
  have D:((x:Int) == 92)=true∨(((x:Int) == 92)=false/\((x:Int) == 39)=true)∨(((x:Int) == 92)=false/\((x:Int) == 39)=false/\((x:Int) == 34)=true):=by simp;omega
  clear h hq h110 h114 h116;rcases D with y|⟨y,E⟩|⟨y,E,Z⟩
  all_goals
   go_enter func173,ntmps173
   go_wp2_with fail
   go_ret3
   exact⟨rfl,Below.refl _ _⟩
 ·rw[if_neg hq]at h;cases h
theorem z1w{x:Nat}(h:Yc x=none):x≠110/\x≠114/\x≠116/\x≠92/\x≠39/\x≠34:=by
 unfold Yc at h;refine⟨fun e=> ?_,fun e=> ?_,fun e=> ?_,fun e=> ?_,fun e=> ?_,fun e=> ?_⟩<;>(subst e;simp at h)
theorem z8M(S:ByteArray)(m b n:Nat)(w:World)(h:Ug S m=.inr (b,n))(o:S.size<=9007199254740992):
  Calls prog 173 #[.string S,.int .i64 m] w fun e w'=>e=.returned (.tuple #[.int .u8 b,.int .i64 n,.nilIface])/\Below w.heap.size w w':=by
 unfold Ug at h;cases hx0:bt S m with
 |none=>rw[hx0]at h;cases h
 |some x=>
  rw[hx0]at h;simp only at h;cases hv:Yc x with
  |some b'=>
   rw[hv]at h;simp only[Sum.inr.injEq,Prod.mk.injEq]at h;obtain⟨rfl,rfl⟩:=h;have r:=z8L S m x b' w hx0 hv o;rw[show(m:Int)+1=((m+1:Nat):Int) by omega]at r;exact r
  |none=>
   rw[hv]at h;simp only at h;have y:=z1w hv;by_cases h4:x=120
   ·rw[if_pos h4]at h
    have G:=(Qp hx0).2;obtain⟨I,hx⟩:=Xv hx0;have U:(m:Int)<(S.size:Int):=by omega
    have V:decide ((S.size:Int)<=(m:Int))=false:=by simp;omega
    have Y:((x:Int) == 110)=false:=by simp;omega
    have Z:((x:Int) == 114)=false:=by simp;omega
    have aa:((x:Int) == 116)=false:=by simp;omega
    have ab:((x:Int) == 92)=false:=by simp;omega
    have ac:((x:Int) == 39)=false:=by simp;omega
    have ad:((x:Int) == 34)=false:=by simp;omega
    have ae:((x:Int) == 120)=true:=by simp;omega
    have A:Hid (∀w:World,Calls prog 209 #[.string S,.int .i64 ((m:Int)+1)] w fun e w'=>e=.returned (.tuple #[.int .u8 b,.int .i64 n,.nilIface])/\Below w.heap.size w w'):=fun w=>by
     have h:=z8J S (m+1) b n w h o;rw[show((m+1:Nat):Int)=(m:Int)+1 by omega]at h;exact h
    clear h h4 hv y hx0;go_enter func173,ntmps173
    go_wp2_with fail
    refine(A.out _).mono ?_;rintro e D ⟨rfl,t⟩;have E:Hid (Below w.heap.size w D):=t;clear t
    go_wp2_with fail
    go_ret3
    exact⟨rfl,E.out⟩
   ·rw[if_neg h4]at h
    cases h
theorem z8N(S:ByteArray)(m:Nat)(c:Nat×Nat)(w:World)(h:Ug S m=.inl c)(r:S.size<=9007199254740992)(I:m<=9007199254740994):
  Calls prog 173 #[.string S,.int .i64 m] w fun e w'=>Bad (.int .u8 0) c w e w':=by
 unfold Ug at h;cases hx0:bt S m with
 |none=>
  rw[hx0]at h;simp only[Sum.inl.injEq]at h;have U:=Xw hx0;have D:decide ((S.size:Int)<=(m:Int))=true:=by simp;omega
  have t:Hid (flt S m=c):=h;clear h hx0;go_enter func173,ntmps173
  go_wp2_with fail
  refine(Ky S m c w _ t.out r (by omega) B0q).mono ?_;rintro e y ⟨p,rfl,o⟩;unfold flv
  go_wp2_with fail
  go_ret3
  exact⟨p,rfl,o⟩
 |some x=>
  rw[hx0]at h;simp only at h;have V:=(Qp hx0).2;obtain⟨Y,hx⟩:=Xv hx0;have Z:(m:Int)<(S.size:Int):=by omega
  have D:decide ((S.size:Int)<=(m:Int))=false:=by simp;omega
  clear hx0;cases hv:Yc x with
  |some b'=>rw[hv]at h;cases h
  |none=>
   rw[hv]at h;simp only at h;have A:=z1w hv;have aa:((x:Int) == 110)=false:=by simp;omega
   have ab:((x:Int) == 114)=false:=by simp;omega
   have ac:((x:Int) == 116)=false:=by simp;omega
   have ad:((x:Int) == 92)=false:=by simp;omega
   have ae:((x:Int) == 39)=false:=by simp;omega
   have af:((x:Int) == 34)=false:=by simp;omega
   by_cases h4:x=120
   ·rw[if_pos h4]at h
    have E:((x:Int) == 120)=true:=by simp;omega
    have G:Hid (∀w:World,Calls prog 209 #[.string S,.int .i64 ((m:Int)+1)] w fun e w'=>Bad (.int .u8 0) c w e w'):=fun w=>by
     have h:=z8K S (m+1) c w h r (by omega);rw[show((m+1:Nat):Int)=(m:Int)+1 by omega]at h;exact h
    clear h h4 hv A;go_enter func173,ntmps173
    go_wp2_with fail
    refine(G.out _).mono ?_;rintro e y ⟨p,rfl,o⟩;unfold flv
    go_wp2_with fail
    go_ret3
    exact⟨p,rfl,o⟩
   ·rw[if_neg h4]at h
    simp only[Sum.inl.injEq]at h;have E:((x:Int) == 120)=false:=by simp;omega
    have t:Hid (flt S m=c):=h;clear h h4 hv A;go_enter func173,ntmps173
    go_wp2_with fail
    refine(Ky S m c w _ t.out r (by omega) B0q).mono ?_;rintro e y ⟨p,rfl,o⟩;unfold flv
    go_wp2_with fail
    go_ret3
    exact⟨p,rfl,o⟩
theorem z8O(S:ByteArray)(k b n:Nat)(w:World)(h:lsg S k=.inr (b,n))(D:S.size<=9007199254740992):
  Calls prog 139 #[.string S,.int .i64 k] w fun e w'=>e=.returned (.tuple #[.int .u8 b,.int .i64 n,.nilIface])/\Below w.heap.size w w':=by
 unfold lsg at h;cases hx0:bt S k with
 |none=>rw[hx0]at h;cases h
 |some x=>
  rw[hx0]at h;simp only at h;have E:=(Qp hx0).2;obtain⟨Y,hx⟩:=Xv hx0;have Z:(k:Int)<(S.size:Int):=by omega
  have a0:decide ((S.size:Int)<=(k:Int))=false:=by simp;omega
  cases hp:plB x with
  |false=>rw[hp,if_pos rfl]at h;cases h
  |true=>
   rw[hp]at h;simp only[Bool.true_eq_false,if_false]at h;have r:Hid (∀w:World,Calls prog 172 #[.int .u8 x] w fun e w'=>e=.returned (.bool true)/\w'=w):=fun w=>Ck x true hp w E
   by_cases h1:x=92
   ·rw[if_pos h1]at h
    have G:((x:Int) == 92)=true:=by simp;omega
    have I:Hid (∀w:World,Calls prog 173 #[.string S,.int .i64 ((k:Int)+1)] w fun e w'=>e=.returned (.tuple #[.int .u8 b,.int .i64 n,.nilIface])/\Below w.heap.size w w'):=fun w=>by
     have t:=z8M S (k+1) b n w h D;rw[show((k+1:Nat):Int)=(k:Int)+1 by omega]at t;exact t
    clear h hx0 h1 hp;go_enter func139,ntmps139
    go_wp2_with fail
    refine(r.out _).mono ?_;rintro e o ⟨rfl,rfl⟩
    go_wp2_with fail
    refine(I.out _).mono ?_;rintro e U ⟨rfl,y⟩;have V:Hid (Below o.heap.size o U):=y;clear y
    go_wp2_with fail
    go_ret3
    exact⟨rfl,V.out⟩
   ·rw[if_neg h1]at h
    simp only[Sum.inr.injEq,Prod.mk.injEq]at h;obtain⟨rfl,rfl⟩:=h;have G:((x:Int) == 92)=false:=by simp;omega
    have A:((k+1:Nat):Int)=(k:Int)+1:=by omega
    rw[A];clear hx0 h1 hp A;go_enter func139,ntmps139
    go_wp2_with fail
    refine(r.out _).mono ?_;rintro e o ⟨rfl,rfl⟩
    go_wp2_with fail
    go_ret3
    exact⟨rfl,Below.refl _ _⟩
theorem z8P(S:ByteArray)(k:Nat)(c:Nat×Nat)(w:World)(h:lsg S k=.inl c)(r:S.size<=9007199254740992)(V:k<=9007199254740993):
  Calls prog 139 #[.string S,.int .i64 k] w fun e w'=>Bad (.int .u8 0) c w e w':=by
 unfold lsg at h;cases hx0:bt S k with
 |none=>
  rw[hx0]at h;simp only[Sum.inl.injEq]at h;have Y:=Xw hx0;have I:decide ((S.size:Int)<=(k:Int))=true:=by simp;omega
  have t:Hid (flt S k=c):=h;clear h hx0;go_enter func139,ntmps139
  go_wp2_with fail
  refine(Ky S k c w _ t.out r (by omega) B0q).mono ?_;rintro e A ⟨p,rfl,o⟩;unfold flv
  go_wp2_with fail
  go_ret3
  exact⟨p,rfl,o⟩
 |some x=>
  rw[hx0]at h;simp only at h;have D:=(Qp hx0).2;obtain⟨Z,hx⟩:=Xv hx0;have aa:(k:Int)<(S.size:Int):=by omega
  have I:decide ((S.size:Int)<=(k:Int))=false:=by simp;omega
  cases hp:plB x with
  |false=>
   rw[hp,if_pos rfl]at h;simp only[Sum.inl.injEq]at h;have t:Hid (flt S k=c):=h;have o:Hid (∀w:World,Calls prog 172 #[.int .u8 x] w fun e w'=>e=.returned (.bool false)/\w'=w):=fun w=>Ck x false hp w D
   clear h hx0 hp;go_enter func139,ntmps139
   go_wp2_with fail
   refine(o.out _).mono ?_;rintro e E ⟨rfl,rfl⟩
   go_wp2_with fail
   refine(Ky S k c E _ t.out r (by omega) B0q).mono ?_;rintro e A ⟨p,rfl,y⟩;unfold flv
   go_wp2_with fail
   go_ret3
   exact⟨p,rfl,y⟩
  |true=>
   rw[hp]at h;simp only[Bool.true_eq_false,if_false]at h;have o:Hid (∀w:World,Calls prog 172 #[.int .u8 x] w fun e w'=>e=.returned (.bool true)/\w'=w):=fun w=>Ck x true hp w D
   by_cases h1:x=92
   ·rw[if_pos h1]at h
    have ab:((x:Int) == 92)=true:=by simp;omega
    have U:Hid (∀w:World,Calls prog 173 #[.string S,.int .i64 ((k:Int)+1)] w fun e w'=>Bad (.int .u8 0) c w e w'):=fun w=>by
     have G:=z8N S (k+1) c w h r (by omega);rw[show((k+1:Nat):Int)=(k:Int)+1 by omega]at G;exact G
    clear h hx0 h1 hp;go_enter func139,ntmps139
    go_wp2_with fail
    refine(o.out _).mono ?_;rintro e E ⟨rfl,rfl⟩
    go_wp2_with fail
    refine(U.out _).mono ?_;rintro e A ⟨p,rfl,y⟩;unfold flv
    go_wp2_with fail
    go_ret3
    exact⟨p,rfl,y⟩
   ·rw[if_neg h1]at h;cases h
def nv(l:List Nat):List Value:=l.map fun(x:Nat)=>Value.int .u8 x
theorem Dy(a b:List Nat):nv (a++b)=nv a++nv b:=List.map_append
theorem z1x(a:List Nat):(nv a).length=a.length:=List.length_map ..
theorem Tryz.infoByte:(Tryz.prog.info? 5).map (fun i=>(i.zero,i.size,i.bytes))=some (some (.int .u8 0),1,1):=by kernel_rfl
theorem Vl(w:World)(u:Value)(t:TypeId):∀j x,[u][j]? =some x->(w.alloc (.cells #[u] t)).cell? ((⟨w.heap.size,0,none⟩:Addr).add j)=some x:=by
 intro j x h
 match j,h with
 |0,h=>simp at h;subst h;simp[Addr.add]
theorem Df(w:World)(u v:Value)(t:TypeId):∀j x,[u,v][j]? =some x->(w.alloc (.cells #[u,v] t)).cell? ((⟨w.heap.size,0,none⟩:Addr).add j)=some x:=by
 intro j x h
 match j,h with
 |0,h=>simp at h;subst h;simp[Addr.add]
 |1,h=>simp at h;subst h;simp[Addr.add]
theorem z1y(w:World)(a b c d:Value)(t:TypeId):∀j x,[a,b,c,d][j]? =some x->(w.alloc (.cells #[a,b,c,d] t)).cell? ((⟨w.heap.size,0,none⟩:Addr).add j)=some x:=by
 intro j x h
 match j,h with
 |0,h=>simp at h;subst h;simp[Addr.add]
 |1,h=>simp at h;subst h;simp[Addr.add]
 |2,h=>simp at h;subst h;simp[Addr.add]
 |3,h=>simp at h;subst h;simp[Addr.add]
theorem Xh(l:List Int):∀u∈l.map (fun x=>Value.int .u8 x),u.oneCell'=true:=by
 intro u h;obtain⟨x,_,rfl⟩:=List.mem_map.1 h;rfl
theorem Cw(q:Nat)(h:q<16)(w:World):(Instr.index 9 (.string {data:=#[48,49,50,51,52,53,54,55,56,57,97,98,99,100,101,102]}) (.int .u8 q)).run prog w=.ok (.int .u8 ((Yj q:Nat):Int)) w:=by
 have:q=0∨q=1∨q=2∨q=3∨q=4∨q=5∨q=6∨q=7∨q=8∨q=9∨q=10∨q=11∨q=12∨q=13∨q=14∨q=15:=by omega
 rcases this with rfl|rfl|rfl|rfl|rfl|rfl|rfl|rfl|rfl|rfl|rfl|rfl|rfl|rfl|rfl|rfl<;>(show(Instr.index 9 _ _).run prog w=_;kernel_rfl)
def nb(l:List Nat):ByteArray:=⟨(l.map UInt8.ofNat).toArray⟩
theorem Qx(w:World)(o:Obj)(h:n=w.heap.size):(w.alloc o).heap[n]? =some o:=by
 subst h;show(w.heap.push o)[w.heap.size]? =_;simp
theorem Vz(l:List Nat):(nb l).size=l.length:=by simp[nb,ByteArray.size]
theorem Gx{e size:Nat}{xs:List Value}(h:w.ownsRow base e size v n xs)(r:0<n):∃g o,v=.slice (some ⟨g,0,none⟩) n o:=by
 obtain⟨_,h|⟨g,o,cur,e,_⟩⟩:=h
 ·omega
 ·exact⟨g,o,e⟩
theorem Cy{o:Nat}(h:w.ownsRow base 5 1 (.slice (some ⟨g,0,none⟩) n o) n (nv l))(hl:∀x∈l,x<256):
  (convert 185 9 (.slice (some ⟨g,0,none⟩) n o)).run prog w=.ok (.string (nb l)) w:=by
 have t:l.length=n:=by have:=h.1;rw[z1x]at this;omega
 have:=run_convert_bytes_back w 185 9 5 ⟨g,0,none⟩ o (l.map UInt8.ofNat) Tryz.underlying185 Tryz.underlying5 Tryz.underlying9 (fun j r=>by
  rw[Addr.add_lit,Nat.zero_add];simp at r;rw[h.cellAt j (by omega)];have hx:=hl _ (List.getElem_mem r);simp[nv,r];omega)
 rw[List.length_map,t]at this;exact this
theorem Yf{e size:Nat}{xs:List Value}(h:w.ownsRow base e size v n xs)(o:Below w.heap.size w w'):w'.ownsRow base e size v n xs:=
 h.kept (row:=none) ⟨o.os,o.tape,o.output,o.size,fun j r _=>o.block j r⟩ (by cases hq:v.ownBlock<;>simp)
theorem Tryz.convNil(w:World):(convert 185 9 (.slice none 0 0)).run prog w=.ok (.string (nb [])) w:=by kernel_rfl
theorem Cf(h:w.ownsRow base 5 1 v n (nv l))(hl:∀x∈l,x<256):(convert 185 9 v).run prog w=.ok (.string (nb l)) w:=by
 have o:=h;obtain⟨r,⟨rfl,rfl⟩|⟨g,t,cur,rfl,_⟩⟩:=h
 ·have:l=[]:=List.eq_nil_of_length_eq_zero (by rw[z1x]at r;omega)
  subst this;exact Tryz.convNil w
 ·exact Cy o hl
def Tk(w:World)(g:Nat)(kd:Int)(T:ByteArray)(c0 c1 c2 c3:Int)(p:Int):Prop:=w.heap[g]? =some (.cells #[.int .i64 kd,.string T,.int .u64 c0,.int .u64 c1,.int .u64 c2,.int .u64 c3,.int .i64 p] 139)
@[reducible] def st7 (w:World) (g:Nat) (kd:Int) (T:ByteArray) (c0 c1 c2 c3:Int) (p:Int):World:=((((((w.setCell ⟨g,0,none⟩ (.int .i64 kd)).setCell ⟨g,1,none⟩ (.string T)).setCell ⟨g,2,none⟩ (.int .u64 c0)).setCell ⟨g,3,none⟩ (.int .u64 c1)).setCell ⟨g,4,none⟩ (.int .u64 c2)).setCell ⟨g,5,none⟩ (.int .u64 c3)).setCell ⟨g,6,none⟩ (.int .i64 p)
theorem Tk.cells{p:Int}(h:Tk w g kd T c0 c1 c2 c3 p):w.cell? ⟨g,0,none⟩=some (.int .i64 kd)/\w.cell? ⟨g,1,none⟩=some (.string T)/\w.cell? ⟨g,2,none⟩=some (.int .u64 c0)/\w.cell? ⟨g,3,none⟩=some (.int .u64 c1)/\w.cell? ⟨g,4,none⟩=some (.int .u64 c2)/\w.cell? ⟨g,5,none⟩=some (.int .u64 c3)/\w.cell? ⟨g,6,none⟩=some (.int .i64 p):=by
 unfold Tk at h;simp[World.cell?,h]
theorem Tk.thaw{p:Int}(h:Tk w g kd T c0 c1 c2 c3 p):w.frozen? ⟨g,0,none⟩=false/\w.frozen? ⟨g,1,none⟩=false/\w.frozen? ⟨g,2,none⟩=false/\w.frozen? ⟨g,3,none⟩=false/\w.frozen? ⟨g,4,none⟩=false/\w.frozen? ⟨g,5,none⟩=false/\w.frozen? ⟨g,6,none⟩=false:=by
 unfold Tk at h;simp[World.frozen?,h]
theorem Tk.lt{p:Int}(h:Tk w g kd T c0 c1 c2 c3 p):g<w.heap.size:=by
 unfold Tk at h;rcases Nat.lt_or_ge g w.heap.size with o|o
 ·exact o
 ·rw[Array.getElem?_eq_none o]at h;cases h
theorem Tk.below{B:Nat}{p:Int}(h:Tk w g kd T c0 c1 c2 c3 p)(o:Below B w w')(r:g<B):Tk w' g kd T c0 c1 c2 c3 p:=(o.block g r).trans h
theorem Tk.alloc{w:World}{g:Nat}{kd:Int}{T:ByteArray}{c0 c1 c2 c3 p:Int}(h:Tk w g kd T c0 c1 c2 c3 p)(o:Obj):Tk (w.alloc o) g kd T c0 c1 c2 c3 p:=(Below.heap_alloc w o g h.lt).trans h
theorem Tk.new(w:World)(kd:Int)(T:ByteArray)(c0 c1 c2 c3 p:Int):Tk (w.alloc (.cells #[.int .i64 kd,.string T,.int .u64 c0,.int .u64 c1,.int .u64 c2,.int .u64 c3,.int .i64 p] 139)) w.heap.size kd T c0 c1 c2 c3 p:=by
 show(w.heap.push _)[w.heap.size]? =_;simp
theorem Tk.st7{w:World}{g:Nat}{kd:Int}{T:ByteArray}{c0 c1 c2 c3 p:Int}(h:Tk w g kd T c0 c1 c2 c3 p)(o:Int)(r:ByteArray)(t y A D p':Int):Tk (Proofs.YtgnkkgcgbeianaaGreatDoor.st7 w g o r t y A D p') g o r t y A D p':=by
 unfold Tk at*;simp only[World.setCell,Array.getElem?_modify,if_true,Option.map_map];rw[h];simp
theorem Below.st7{B:Nat}{a w:World}(h:Below B a w){g:Nat}(o:B<=g)(kd:Int)(T:ByteArray)(c0 c1 c2 c3 p:Int):Below B a (Proofs.YtgnkkgcgbeianaaGreatDoor.st7 w g kd T c0 c1 c2 c3 p):=
 (((((((h.setCell (p:=⟨g,0,none⟩) o _).setCell (p:=⟨g,1,none⟩) o _).setCell (p:=⟨g,2,none⟩) o _).setCell (p:=⟨g,3,none⟩) o _).setCell (p:=⟨g,4,none⟩) o _).setCell (p:=⟨g,5,none⟩) o _).setCell (p:=⟨g,6,none⟩) o _)
theorem Flt.st7{w:World}{q g:Nat}{c:Nat×Nat}(h:Flt w q c)(o:q≠g)(kd:Int)(T:ByteArray)(c0 c1 c2 c3 p:Int):Flt (Proofs.YtgnkkgcgbeianaaGreatDoor.st7 w g kd T c0 c1 c2 c3 p) q c:=by
 unfold Flt at*;rw[Below.heap_setCell _ _ _ _ o,Below.heap_setCell _ _ _ _ o,Below.heap_setCell _ _ _ _ o,Below.heap_setCell _ _ _ _ o,Below.heap_setCell _ _ _ _ o,Below.heap_setCell _ _ _ _ o,Below.heap_setCell _ _ _ _ o];exact h
abbrev Ls:=(Nat×Nat) ⊕ (List Nat×Nat)
def llit(S:ByteArray)(q p:Nat):Nat->Nat->List Nat->Ls
 |0,k,_=>.inl (flt S k)
 |f+1,k,acc=>
  if bt S k=some q then .inr (acc,k+1)else
  match lsg S k with
  | .inl e=>.inl e
  | .inr (b,n)=>if acc.length=255 then .inl (2,p)else llit S q p f n (acc++[b])
def ll(S:ByteArray)(q p k:Nat)(acc:List Nat):Ls:=llit S q p (S.size+1-k) k acc
theorem Om(S:ByteArray)(q p:Nat):∀(f g k:Nat) (acc:List Nat),S.size+1-k<=f->S.size+1-k<=g->llit S q p f k acc=llit S q p g k acc
 |0,0,_,_,_,_=>rfl
 |0,g+1,k,acc,hf,_=>by
  have h:=Uf (S:=S) (k:=k) (by omega);have o:lsg S k=.inl (flt S k):=by unfold lsg;rw[h]
  rw[llit,llit,h,o];simp
 |f+1,0,k,acc,_,hg=>by
  have h:=Uf (S:=S) (k:=k) (by omega);have o:lsg S k=.inl (flt S k):=by unfold lsg;rw[h]
  rw[llit,llit,h,o];simp
 |f+1,g+1,k,acc,hf,hg=>by
  rw[llit,llit];split
  ·rfl
  ·cases o:lsg S k with
   |inl e=>rfl
   |inr r=>
    obtain⟨b,n⟩:=r;have:=Kf o;simp only;split
    ·rfl
    ·exact Om S q p f g n _ (by omega) (by omega)
theorem Cg(S:ByteArray)(q p k:Nat)(acc:List Nat):ll S q p k acc=(if bt S k=some q then .inr (acc,k+1)else
  match lsg S k with
  | .inl e=>.inl e
  | .inr (b,n)=>if acc.length=255 then .inl (2,p)else ll S q p n (acc++[b])):=by
 unfold ll;rw[Om S q p (S.size+1-k) (S.size+1-k+1) k acc (by omega) (by omega),llit];split
 ·rfl
 ·cases hm:lsg S k with
  |inl e=>rfl
  |inr r=>
   obtain⟨b,n⟩:=r;have:=Kf hm;simp only;split
   ·rfl
   ·exact Om S q p _ _ n _ (by omega) (by omega)
theorem Oc(h:bt S k=some q):ll S q p k acc=.inr (acc,k+1):=by rw[Cg,if_pos h]
theorem z8Q{e:Nat×Nat}(h:¬bt S k=some q)(o:lsg S k=.inl e):ll S q p k acc=.inl e:=by rw[Cg,if_neg h,o]
theorem z1z(h:¬bt S k=some q)(o:lsg S k=.inr (b,n))(hl:acc.length=255):ll S q p k acc=.inl (2,p):=by rw[Cg,if_neg h,o];simp[hl]
theorem Ol(h:¬bt S k=some q)(o:lsg S k=.inr (b,n))(hl:acc.length≠255):ll S q p k acc=ll S q p n (acc++[b]):=by rw[Cg,if_neg h,o];simp[hl]
def Kg(c:Nat×Nat)(w:World)(e:Ending)(w':World):Prop:=Bad (.agg #[.int .i64 0,.string ⟨#[]⟩,.int .u64 0,.int .u64 0,.int .u64 0,.int .u64 0,.int .i64 0]) c w e w'
def Dg(r:Ls)(p:Nat)(w:World)(e:Ending)(w':World):Prop:=
 match r with
 | .inr (l,n)=>e=.returned (.tuple #[.agg #[.int .i64 3,.string (nb l),.int .u64 0,.int .u64 0,.int .u64 0,.int .u64 0,.int .i64 p],.int .i64 n,.nilIface])/\Below w.heap.size w w'
 | .inl c=>Kg c w e w'
def Lr(w:World)(v:Value)(l:List Nat)(w':World):Prop:=
 Hid (Below w.heap.size w w')/\Hid (w'.ownsRow (w.heap.size+1) 5 1 v l.length (nv l))/\Hid (Tk w' w.heap.size 0 {data:=#[]} 0 0 0 0 0)
theorem Lr.keep{W:World}(h:Lr w v l W)(o:Below W.heap.size W w'):Lr w v l w':=
 ⟨hid (h.1.out.trans (o.mono h.1.out.size)),hid (Yf h.2.1.out o),hid (h.2.2.out.below o h.2.2.out.lt)⟩
theorem Mj{h:World}{c:Nat×Nat}(o:Below w.heap.size w h)(r:Flt h p c)(t:w.heap.size<=p)(y:p≠w.heap.size):Hid (w.heap.size<=p/\Flt (st7 h w.heap.size 0 {data:=#[]} 0 0 0 0 0) p c/\Below w.heap.size w (st7 h w.heap.size 0 {data:=#[]} 0 0 0 0 0)):=
 ⟨t,r.st7 y _ _ _ _ _ _ _,Below.st7 o L0q _ _ _ _ _ _ _⟩
theorem z8R(S:ByteArray)(q p:Nat)(w:World)(h0:bt S p=some q)(hS:S.size<=9007199254740992):
  Calls prog 92 #[.string S,.int .i64 p] w fun e w'=>Dg (ll S q p (p+1) []) p w e w':=by
 obtain⟨i0,au,aw,ax,ay⟩:=info_parts Tryz.infoByte;have aO:=(Qp h0).2;obtain⟨aP,az⟩:=Xv h0;have aQ:(p:Int)<(S.size:Int):=by omega
 obtain⟨R,hR⟩:∃R,R=ll S q p (p+1) []:=⟨_,rfl⟩;rw[<-hR];have HR:Hid (ll S q p (p+1) []=R):=hR.symm;clear hR h0;go_enter func92,ntmps92
 go_wp2_with fail
 go_loopw [8,9] (fun v a wr=>∃(k:Nat) (acc:List Nat),a=.int .i64 k/\k<=S.size/\acc.length<=255/\Hid (∀x∈acc,x<256)/\Hid (ll S q p k acc=R)/\Hid (Lr w v acc wr)) (fun _ a _=>S.size-(intOf a).toNat)
 case atStart=>exact⟨p+1,[],by go_num,by omega,by simp,hid (fun x hx=>by simp at hx),HR,hid ⟨hid (B0q.alloc L0q _),hid (World.ownsRow_nil _ _ _ _),hid (Tk.new w 0 {data:=#[]} 0 0 0 0 0)⟩⟩
 case round=>
  obtain⟨k,acc,rfl,aR,aS,HX,HM,o⟩:=hrel;clear az;by_cases hend:bt S k=some q
  ·obtain⟨am,ao⟩:=Xv hend
   have ap:(k:Int)<(S.size:Int):=by omega
   have a0:decide ((S.size:Int)<=(k:Int))=false:=by simp;omega
   have ad:Hid (R=.inr (acc,k+1)):=by show _=_;rw[<-HM.out,Oc hend]
   have HN:Hid (((k+1:Nat):Int)=(k:Int)+1):=by show _=_;omega
   have aA:=Cf o.out.2.1.out HX.out;obtain⟨c0,c1,c2,c3,c4,c5,c6⟩:=o.out.2.2.out.cells;obtain⟨f0,f1,f2,f3,f4,f5,f6⟩:=o.out.2.2.out.thaw;obtain⟨TT,ai⟩:∃TT,TT=nb acc:=⟨_,rfl⟩;rw[<-ai]at aA;have aB:Hid (Tk wr w.heap.size 0 {data:=#[]} 0 0 0 0 0):=o.out.2.2;have aC:Hid (Below w.heap.size w wr):=o.out.1;have aD:Hid (TT=nb acc):=ai;clear hend HM o ai
   go_wp2_with fail
   obtain⟨D,E,G,I,U,V,Y⟩:=(aB.out.st7 3 TT 0 0 0 0 (p:Int)).cells;unfold st7 at D E G I U V Y;refine bodyPost_ret (v:=.tuple #[.agg #[.int .i64 3,.string TT,.int .u64 0,.int .u64 0,.int .u64 0,.int .u64 0,.int .i64 p],.int .i64 ((k:Int)+1),.nilIface]) (by simp[results,Tryz.results92,go_sem,D,E,G,I,U,V,Y]) rfl ?_;rw[ad.out];show _=_/\_;rw[HN.out,<-aD.out];exact⟨rfl,Below.st7 aC.out L0q _ _ _ _ _ _ _⟩
  ·have aq:decide ((S.size:Int)<=(k:Int))=true/\S.size<=k∨(∃x:Nat,k<S.size/\At S k x/\x≠q/\x<256):=by
    cases hb:bt S k with
    |none=>exact .inl ⟨by have:=Xw hb;simp;omega,Xw hb⟩
    |some x=>exact .inr ⟨x,(Qp hb).1,Xv hb,fun e=>hend (by rw[hb,e]),(Qp hb).2⟩
   cases hm:lsg S k with
   |inl c=>
    have ad:Hid (R=.inl c):=by show _=_;rw[<-HM.out,z8Q hend hm]
    have af:Hid (∀w:World,Calls prog 139 #[.string S,.int .i64 k] w fun e w'=>Bad (.int .u8 0) c w e w'):=fun w=>z8P S k c w hm hS (by omega)
    clear hend HM hm HX;rcases aq with⟨a0,aE⟩|⟨x,am,⟨_,ao⟩,ah,aF⟩
    ·go_wp2_with fail
     refine(af.out _).mono ?_;rintro e t ⟨f,rfl,A⟩;have ab:Hid (Below w.heap.size w t):=o.out.1.out.trans (A.out.2.2.mono o.out.1.out.size);have Z:Hid (Tk t w.heap.size 0 {data:=#[]} 0 0 0 0 0):=o.out.2.2.out.below A.out.2.2 o.out.2.2.out.lt;have ac:Hid (Up w t f c):=⟨Nat.le_trans o.out.1.out.size A.out.1,fun e=>by have h1:=o.out.2.2.out.lt;have h2:=A.out.1;omega,A.out.2.1⟩;clear A o;obtain⟨c0,c1,c2,c3,c4,c5,c6⟩:=Z.out.cells;obtain⟨f0,f1,f2,f3,f4,f5,f6⟩:=Z.out.thaw;have aj:Hid (Tk (st7 t w.heap.size 0 {data:=#[]} 0 0 0 0 0) w.heap.size 0 {data:=#[]} 0 0 0 0 0):=Z.out.st7 0 {data:=#[]} 0 0 0 0 0;unfold flv
     go_wp2_with fail
     obtain⟨D,E,G,I,U,V,Y⟩:=aj.out.cells;unfold st7 at D E G I U V Y
     (try simp only[Exit.inBlock,Exit.then])
     refine bodyPost_ret (v:=.tuple #[.agg #[.int .i64 0,.string ⟨#[]⟩,.int .u64 0,.int .u64 0,.int .u64 0,.int .u64 0,.int .i64 0],.int .i64 0,.iface 134 (.pointer (some ⟨f,0,none⟩))]) (by simp[results,Tryz.results92,go_sem,D,E,G,I,U,V,Y]) rfl ?_;rw[ad.out];exact⟨f,rfl,Mj ab.out ac.out.2.2 ac.out.1 ac.out.2.1⟩
    ·have ap:(k:Int)<(S.size:Int):=by omega
     have a0:decide ((S.size:Int)<=(k:Int))=false:=by simp;omega
     have n0:((x:Int) != (q:Int))=true:=by rw[bne_iff_ne];omega
     clear ah
     go_wp2_with fail
     refine(af.out _).mono ?_;rintro e t ⟨f,rfl,A⟩;have ab:Hid (Below w.heap.size w t):=o.out.1.out.trans (A.out.2.2.mono o.out.1.out.size);have Z:Hid (Tk t w.heap.size 0 {data:=#[]} 0 0 0 0 0):=o.out.2.2.out.below A.out.2.2 o.out.2.2.out.lt;have ac:Hid (Up w t f c):=⟨Nat.le_trans o.out.1.out.size A.out.1,fun e=>by have h1:=o.out.2.2.out.lt;have h2:=A.out.1;omega,A.out.2.1⟩;clear A o;obtain⟨c0,c1,c2,c3,c4,c5,c6⟩:=Z.out.cells;obtain⟨f0,f1,f2,f3,f4,f5,f6⟩:=Z.out.thaw;have aj:Hid (Tk (st7 t w.heap.size 0 {data:=#[]} 0 0 0 0 0) w.heap.size 0 {data:=#[]} 0 0 0 0 0):=Z.out.st7 0 {data:=#[]} 0 0 0 0 0;unfold flv
     go_wp2_with fail
     obtain⟨D,E,G,I,U,V,Y⟩:=aj.out.cells;unfold st7 at D E G I U V Y
     (try simp only[Exit.inBlock,Exit.then])
     refine bodyPost_ret (v:=.tuple #[.agg #[.int .i64 0,.string ⟨#[]⟩,.int .u64 0,.int .u64 0,.int .u64 0,.int .u64 0,.int .i64 0],.int .i64 0,.iface 134 (.pointer (some ⟨f,0,none⟩))]) (by simp[results,Tryz.results92,go_sem,D,E,G,I,U,V,Y]) rfl ?_;rw[ad.out];exact⟨f,rfl,Mj ab.out ac.out.2.2 ac.out.1 ac.out.2.1⟩
   |inr r=>
    obtain⟨b,n⟩:=r;have ag:=Kf hm;rcases aq with⟨a0,aE⟩|⟨x,am,⟨_,ao⟩,ah,aF⟩
    ·omega
    ·have ap:(k:Int)<(S.size:Int):=by omega
     have a0:decide ((S.size:Int)<=(k:Int))=false:=by simp;omega
     have n0:((x:Int) != (q:Int))=true:=by rw[bne_iff_ne];omega
     have af:Hid (∀w:World,Calls prog 139 #[.string S,.int .i64 k] w fun e w'=>e=.returned (.tuple #[.int .u8 b,.int .i64 n,.nilIface])/\Below w.heap.size w w'):=fun w=>z8O S k b n w hm hS
     have aG:∃a c,u8=.slice a acc.length c:=by
      obtain⟨_,⟨h1,h2⟩|⟨g,aH,cur,e,_⟩⟩:=o.out.2.1.out
      ·exact⟨none,0,by rw[h1,h2]⟩
      ·exact⟨_,aH,e⟩
     obtain⟨av,cv,rfl⟩:=aG;by_cases hl5:acc.length=255
     ·have ad:Hid (R=.inl (2,p)):=by show _=_;rw[<-HM.out,z1z hend hm hl5]
      rw[hl5]at o ⊢;clear hend HM hm HX ah ag hl5
      go_wp2_with fail
      refine(af.out _).mono ?_;rintro e t ⟨rfl,ae⟩;have ab:Hid (Below w.heap.size w t):=o.out.1.out.trans (ae.mono o.out.1.out.size);have Z:Hid (Tk t w.heap.size 0 {data:=#[]} 0 0 0 0 0):=o.out.2.2.out.below ae o.out.2.2.out.lt;clear ae o;have ak:Hid (Tk (t.alloc (.cells #[.int .i64 2,.int .i64 p] 136)) w.heap.size 0 {data:=#[]} 0 0 0 0 0):=Z.out.alloc _;obtain⟨c0,c1,c2,c3,c4,c5,c6⟩:=ak.out.cells;obtain⟨f0,f1,f2,f3,f4,f5,f6⟩:=ak.out.thaw
      go_wp2_with fail
      obtain⟨D,E,G,I,U,V,Y⟩:=(ak.out.st7 0 {data:=#[]} 0 0 0 0 0).cells;unfold st7 at D E G I U V Y
      (try simp only[Exit.inBlock,Exit.then])
      refine bodyPost_ret (v:=.tuple #[.agg #[.int .i64 0,.string ⟨#[]⟩,.int .u64 0,.int .u64 0,.int .u64 0,.int .u64 0,.int .i64 0],.int .i64 0,.iface 134 (.pointer (some ⟨t.heap.size,0,none⟩))]) (by simp[results,Tryz.results92,go_sem,D,E,G,I,U,V,Y]) rfl ?_;rw[ad.out];exact⟨t.heap.size,rfl,Mj (ab.out.alloc ab.out.size _) (Flt.new t (2,p)) ab.out.size (Nat.ne_of_gt Z.out.lt)⟩
     ·have aI:Hid (ll S q p n (acc++[b])=R):=by show _=_;rw[<-HM.out,Ol hend hm hl5]
      have aJ:Hid (∀y∈acc++[b],y<256):=fun y hy=>by
       rcases List.mem_append.1 hy with h|h
       ·exact HX.out y h
       ·simp at h;omega
      have d5:((acc.length:Int) == 255)=false:=by rw[beq_eq_false_iff_ne];omega
      have aT:b<256:=ag.1;have aU:k<n:=ag.2.1;have aK:n<=S.size:=ag.2.2;have aV:acc.length<=254:=by omega
      clear hend HM hm HX ah ag hl5
      go_wp2_with fail
      refine(af.out _).mono ?_;rintro e t ⟨rfl,ae⟩;have aa:=hid (o.out.keep ae);have aL:w.heap.size<=t.heap.size:=aa.out.1.out.size;have aW:w.heap.size<t.heap.size:=aa.out.2.2.out.lt;clear ae o
      go_wp2_with(first|(at_builtin;refine wpList_append_own _ rfl (.tmp 48) (.tmp 50) 185 rfl (w.heap.size+1) 5 i0 (.int .u8 0) 1 1 Tryz.underlying185 au aw ax ay rfl (by decide) _ _ _ rfl (aa.out.2.1.out.alloc _) ⟨t.heap.size,0,none⟩ 1 1 [.int .u8 b] rfl rfl (Vl _ _ _) (Xh [(b:Int)]) (by unfold maxLen;omega) (by omega) (by simp;omega) ?_;intro v2 w2 ar al aM))
      have aN:Hid (Lr w v2 (acc++[b]) w2):=by
       refine⟨hid ((aa.out.1.out.alloc aL _).grown al (by simp;omega) (fun y e=>by have:=(aa.out.2.1.out.lt y e).1;omega)),hid ?_,hid ?_⟩
       ·rw[Dy,List.length_append];exact ar
       ·refine(al.block _ (by simp;omega) ?_).trans (aa.out.2.2.out.alloc _)
        intro e;have:=(aa.out.2.1.out.lt _ e.symm).1;omega
      clear ar al aM aa
      go_roundw
      case rel=>exact⟨n,acc++[b],rfl,aK,by simp;omega,aJ,aI,aN⟩
      case measure=>simp[intOf];omega
end Go.Proofs.YtgnkkgcgbeianaaGreatDoor
