/- Lemmas for the last text. Conditions: those that each names. -/
import Derived.Test.YtmelafeingcgnaaGreatDoorVR5ToR7
set_option linter.unusedVariables false
set_option maxRecDepth 100000
set_option maxHeartbeats 8000000
namespace Go.Proofs.YtmelafeingcgnaaGreatDoor
open Go.Proofs.Tryz
open Go.RowKit Go.Shelf
variable {w:World} {B:Nat}
theorem z9D(S:zA)(w:World)(r:32<S.size)(y:S.size<=9223372036854775807):
  Calls prog 291 #[zT S] w fun e w'=>e=.returned (.bool false)/\w'=w:=by
 have A:S.toList.isEmpty=false:=by
  rw[Go.ByteArray.toList_eq];cases h:S.data.toList with
  |nil=>
   have o:S.data.toList.length=0:=by rw[h];rfl
   have D:S.data.size=S.size:=rfl;rw[Array.length_toList]at o;omega
  |cons _ _=>rfl
 have E:decide ((S.size:Int)<=32)=false:=by simp;omega
 go_enter func291,ntmps291
 go_wp2_with fail
 go_ret;exact⟨rfl,rfl⟩
theorem z1R(S:zA)(w:World)(o:S.size<=9223372036854775807):
  Calls prog 291 #[zT S] w fun e w'=>e=.returned (.bool (nmS S))/\w'=w:=by
 rcases Nat.lt_or_ge 32 S.size with h|h
 ·have e:nmS S=false:=by
   unfold nmS;split
   ·rfl
   ·rw[decide_eq_false (by omega)];rfl
  rw[e];exact z9D S w h o
 ·exact z7n S w (by omega)
def zc(a b c d:Int):Bool:=a == 0&&(b == 0&&(c == 0&&d == 0))
def okN(k:Int)(T:zA)(a b c d:Int)(n:Nat):Bool:=
 if k=1∨k=4 then T.toList.isEmpty&&(zc a b c d&&((n:Int) == 0))
 else if k=2 then decide ((T.size:Int)<=255)&&(zc a b c d&&((n:Int) == 0))
 else if k=3 then T.toList.isEmpty&&((n:Int) == 0)
 else if k=5 then nmS T&&(zc a b c d&&((n:Int) == 0))
 else if k=6∨k=7 then T.toList.isEmpty&&(zc a b c d&&decide (2<=(n:Int)))
 else if 8<=k/\k<=12 then T.toList.isEmpty&&(zc a b c d&&((n:Int) == 1))
 else false
theorem z9E(T:zA)(a b c d p:Int)(o:Option Addr)(n r:Nat)(w:World)(y:T.size<=9223372036854775807):
  Calls prog 303 #[.agg #[zI 1,zT T,zU a,zU b,zU c,zU d,.slice o n r,zI p]] w fun e w'=>e=.returned (.bool (okN 1 T a b c d n))/\zB w w':=by
 have A:∀w:World,(Op.equalIn 10000 63 (.agg #[zU a,zU b,zU c,zU d]) (.agg #[zU 0,zU 0,zU 0,zU 0])).run prog w=.ok (zc a b c d) w:=fun w=>Ym 9998 w a b c d 0 0 0 0
 obtain⟨R,h⟩:∃R,R=okN 1 T a b c d n:=⟨_,rfl⟩;rw[<-h];go_enter func303,ntmps303
 go_wp2_with fail
 go_region
 go_wp2_with fail
 all_goals(go_ret;exact⟨by(try rw[h]);unfold okN;simp_all<;>(intros;omega),(B0q.alloc L0q _).drew⟩)
theorem z9F(T:zA)(a b c d p:Int)(o:Option Addr)(n r:Nat)(w:World)(y:T.size<=9223372036854775807):
  Calls prog 303 #[.agg #[zI 2,zT T,zU a,zU b,zU c,zU d,.slice o n r,zI p]] w fun e w'=>e=.returned (.bool (okN 2 T a b c d n))/\zB w w':=by
 have A:∀w:World,(Op.equalIn 10000 63 (.agg #[zU a,zU b,zU c,zU d]) (.agg #[zU 0,zU 0,zU 0,zU 0])).run prog w=.ok (zc a b c d) w:=fun w=>Ym 9998 w a b c d 0 0 0 0
 obtain⟨R,h⟩:∃R,R=okN 2 T a b c d n:=⟨_,rfl⟩;rw[<-h];go_enter func303,ntmps303
 go_wp2_with fail
 go_region
 go_wp2_with fail
 all_goals(go_ret;exact⟨by(try rw[h]);unfold okN;simp_all<;>(intros;omega),(B0q.alloc L0q _).drew⟩)
theorem z9G(T:zA)(a b c d p:Int)(o:Option Addr)(n r:Nat)(w:World)(y:T.size<=9223372036854775807):
  Calls prog 303 #[.agg #[zI 3,zT T,zU a,zU b,zU c,zU d,.slice o n r,zI p]] w fun e w'=>e=.returned (.bool (okN 3 T a b c d n))/\zB w w':=by
 have A:∀w:World,(Op.equalIn 10000 63 (.agg #[zU a,zU b,zU c,zU d]) (.agg #[zU 0,zU 0,zU 0,zU 0])).run prog w=.ok (zc a b c d) w:=fun w=>Ym 9998 w a b c d 0 0 0 0
 obtain⟨R,h⟩:∃R,R=okN 3 T a b c d n:=⟨_,rfl⟩;rw[<-h];go_enter func303,ntmps303
 go_wp2_with fail
 go_region
 go_wp2_with fail
 all_goals(go_ret;exact⟨by(try rw[h]);unfold okN;simp_all<;>(intros;omega),(B0q.alloc L0q _).drew⟩)
theorem z9H(T:zA)(a b c d p:Int)(o:Option Addr)(n r:Nat)(w:World)(y:T.size<=9223372036854775807):
  Calls prog 303 #[.agg #[zI 4,zT T,zU a,zU b,zU c,zU d,.slice o n r,zI p]] w fun e w'=>e=.returned (.bool (okN 4 T a b c d n))/\zB w w':=by
 have A:∀w:World,(Op.equalIn 10000 63 (.agg #[zU a,zU b,zU c,zU d]) (.agg #[zU 0,zU 0,zU 0,zU 0])).run prog w=.ok (zc a b c d) w:=fun w=>Ym 9998 w a b c d 0 0 0 0
 obtain⟨R,h⟩:∃R,R=okN 4 T a b c d n:=⟨_,rfl⟩;rw[<-h];go_enter func303,ntmps303
 go_wp2_with fail
 go_region
 go_wp2_with fail
 all_goals(go_ret;exact⟨by(try rw[h]);unfold okN;simp_all<;>(intros;omega),(B0q.alloc L0q _).drew⟩)
theorem z9I(T:zA)(a b c d p:Int)(o:Option Addr)(n r:Nat)(w:World)(y:T.size<=9223372036854775807):
  Calls prog 303 #[.agg #[zI 5,zT T,zU a,zU b,zU c,zU d,.slice o n r,zI p]] w fun e w'=>e=.returned (.bool (okN 5 T a b c d n))/\zB w w':=by
 have A:∀w:World,(Op.equalIn 10000 63 (.agg #[zU a,zU b,zU c,zU d]) (.agg #[zU 0,zU 0,zU 0,zU 0])).run prog w=.ok (zc a b c d) w:=fun w=>Ym 9998 w a b c d 0 0 0 0
 obtain⟨R,h⟩:∃R,R=okN 5 T a b c d n:=⟨_,rfl⟩;rw[<-h];go_enter func303,ntmps303
 go_wp2_with fail
 go_region
 go_wp2_with(go_at_call 291;refine(z1R T _ y).mono ?_;rintro e D ⟨rfl,rfl⟩)
 all_goals(go_ret;exact⟨by(try rw[h]);unfold okN;simp_all<;>(intros;omega),(B0q.alloc L0q _).drew⟩)
theorem z9J(T:zA)(a b c d p:Int)(o:Option Addr)(n r:Nat)(w:World)(y:T.size<=9223372036854775807):
  Calls prog 303 #[.agg #[zI 6,zT T,zU a,zU b,zU c,zU d,.slice o n r,zI p]] w fun e w'=>e=.returned (.bool (okN 6 T a b c d n))/\zB w w':=by
 have A:∀w:World,(Op.equalIn 10000 63 (.agg #[zU a,zU b,zU c,zU d]) (.agg #[zU 0,zU 0,zU 0,zU 0])).run prog w=.ok (zc a b c d) w:=fun w=>Ym 9998 w a b c d 0 0 0 0
 obtain⟨R,h⟩:∃R,R=okN 6 T a b c d n:=⟨_,rfl⟩;rw[<-h];go_enter func303,ntmps303
 go_wp2_with fail
 go_region
 go_wp2_with fail
 all_goals(go_ret;exact⟨by(try rw[h]);unfold okN;simp_all<;>(intros;omega),(B0q.alloc L0q _).drew⟩)
theorem z9K(T:zA)(a b c d p:Int)(o:Option Addr)(n r:Nat)(w:World)(y:T.size<=9223372036854775807):
  Calls prog 303 #[.agg #[zI 7,zT T,zU a,zU b,zU c,zU d,.slice o n r,zI p]] w fun e w'=>e=.returned (.bool (okN 7 T a b c d n))/\zB w w':=by
 have A:∀w:World,(Op.equalIn 10000 63 (.agg #[zU a,zU b,zU c,zU d]) (.agg #[zU 0,zU 0,zU 0,zU 0])).run prog w=.ok (zc a b c d) w:=fun w=>Ym 9998 w a b c d 0 0 0 0
 obtain⟨R,h⟩:∃R,R=okN 7 T a b c d n:=⟨_,rfl⟩;rw[<-h];go_enter func303,ntmps303
 go_wp2_with fail
 go_region
 go_wp2_with fail
 all_goals(go_ret;exact⟨by(try rw[h]);unfold okN;simp_all<;>(intros;omega),(B0q.alloc L0q _).drew⟩)
theorem z9L(T:zA)(a b c d p:Int)(o:Option Addr)(n r:Nat)(w:World)(y:T.size<=9223372036854775807):
  Calls prog 303 #[.agg #[zI 8,zT T,zU a,zU b,zU c,zU d,.slice o n r,zI p]] w fun e w'=>e=.returned (.bool (okN 8 T a b c d n))/\zB w w':=by
 have A:∀w:World,(Op.equalIn 10000 63 (.agg #[zU a,zU b,zU c,zU d]) (.agg #[zU 0,zU 0,zU 0,zU 0])).run prog w=.ok (zc a b c d) w:=fun w=>Ym 9998 w a b c d 0 0 0 0
 obtain⟨R,h⟩:∃R,R=okN 8 T a b c d n:=⟨_,rfl⟩;rw[<-h];go_enter func303,ntmps303
 go_wp2_with fail
 go_region
 go_wp2_with fail
 all_goals(go_ret;exact⟨by(try rw[h]);unfold okN;simp_all<;>(intros;omega),(B0q.alloc L0q _).drew⟩)
theorem z9M(T:zA)(a b c d p:Int)(o:Option Addr)(n r:Nat)(w:World)(y:T.size<=9223372036854775807):
  Calls prog 303 #[.agg #[zI 9,zT T,zU a,zU b,zU c,zU d,.slice o n r,zI p]] w fun e w'=>e=.returned (.bool (okN 9 T a b c d n))/\zB w w':=by
 have A:∀w:World,(Op.equalIn 10000 63 (.agg #[zU a,zU b,zU c,zU d]) (.agg #[zU 0,zU 0,zU 0,zU 0])).run prog w=.ok (zc a b c d) w:=fun w=>Ym 9998 w a b c d 0 0 0 0
 obtain⟨R,h⟩:∃R,R=okN 9 T a b c d n:=⟨_,rfl⟩;rw[<-h];go_enter func303,ntmps303
 go_wp2_with fail
 go_region
 go_wp2_with fail
 all_goals(go_ret;exact⟨by(try rw[h]);unfold okN;simp_all<;>(intros;omega),(B0q.alloc L0q _).drew⟩)
theorem z9N(T:zA)(a b c d p:Int)(o:Option Addr)(n r:Nat)(w:World)(y:T.size<=9223372036854775807):
  Calls prog 303 #[.agg #[zI 10,zT T,zU a,zU b,zU c,zU d,.slice o n r,zI p]] w fun e w'=>e=.returned (.bool (okN 10 T a b c d n))/\zB w w':=by
 have A:∀w:World,(Op.equalIn 10000 63 (.agg #[zU a,zU b,zU c,zU d]) (.agg #[zU 0,zU 0,zU 0,zU 0])).run prog w=.ok (zc a b c d) w:=fun w=>Ym 9998 w a b c d 0 0 0 0
 obtain⟨R,h⟩:∃R,R=okN 10 T a b c d n:=⟨_,rfl⟩;rw[<-h];go_enter func303,ntmps303
 go_wp2_with fail
 go_region
 go_wp2_with fail
 all_goals(go_ret;exact⟨by(try rw[h]);unfold okN;simp_all<;>(intros;omega),(B0q.alloc L0q _).drew⟩)
theorem z9O(T:zA)(a b c d p:Int)(o:Option Addr)(n r:Nat)(w:World)(y:T.size<=9223372036854775807):
  Calls prog 303 #[.agg #[zI 11,zT T,zU a,zU b,zU c,zU d,.slice o n r,zI p]] w fun e w'=>e=.returned (.bool (okN 11 T a b c d n))/\zB w w':=by
 have A:∀w:World,(Op.equalIn 10000 63 (.agg #[zU a,zU b,zU c,zU d]) (.agg #[zU 0,zU 0,zU 0,zU 0])).run prog w=.ok (zc a b c d) w:=fun w=>Ym 9998 w a b c d 0 0 0 0
 obtain⟨R,h⟩:∃R,R=okN 11 T a b c d n:=⟨_,rfl⟩;rw[<-h];go_enter func303,ntmps303
 go_wp2_with fail
 go_region
 go_wp2_with fail
 all_goals(go_ret;exact⟨by(try rw[h]);unfold okN;simp_all<;>(intros;omega),(B0q.alloc L0q _).drew⟩)
theorem z9P(T:zA)(a b c d p:Int)(o:Option Addr)(n r:Nat)(w:World)(y:T.size<=9223372036854775807):
  Calls prog 303 #[.agg #[zI 12,zT T,zU a,zU b,zU c,zU d,.slice o n r,zI p]] w fun e w'=>e=.returned (.bool (okN 12 T a b c d n))/\zB w w':=by
 have A:∀w:World,(Op.equalIn 10000 63 (.agg #[zU a,zU b,zU c,zU d]) (.agg #[zU 0,zU 0,zU 0,zU 0])).run prog w=.ok (zc a b c d) w:=fun w=>Ym 9998 w a b c d 0 0 0 0
 obtain⟨R,h⟩:∃R,R=okN 12 T a b c d n:=⟨_,rfl⟩;rw[<-h];go_enter func303,ntmps303
 go_wp2_with fail
 go_region
 go_wp2_with fail
 all_goals(go_ret;exact⟨by(try rw[h]);unfold okN;simp_all<;>(intros;omega),(B0q.alloc L0q _).drew⟩)
theorem z9Q(k:Int)(T:zA)(a b c d p:Int)(o:Option Addr)(n r:Nat)(w:World)(y:k<1∨12<k)(A:T.size<=9223372036854775807):
  Calls prog 303 #[.agg #[zI k,zT T,zU a,zU b,zU c,zU d,.slice o n r,zI p]] w fun e w'=>e=.returned (.bool (okN k T a b c d n))/\zB w w':=by
 have D:∀w:World,(Op.equalIn 10000 63 (.agg #[zU a,zU b,zU c,zU d]) (.agg #[zU 0,zU 0,zU 0,zU 0])).run prog w=.ok (zc a b c d) w:=fun w=>Ym 9998 w a b c d 0 0 0 0
 obtain⟨R,h⟩:∃R,R=okN k T a b c d n:=⟨_,rfl⟩;rw[<-h];have E:(k == 1)=false:=by simp;omega
 have G:(k == 2)=false:=by simp;omega
 have U:(k == 3)=false:=by simp;omega
 have V:(k == 4)=false:=by simp;omega
 have Y:(k == 5)=false:=by simp;omega
 have Z:(k == 6)=false:=by simp;omega
 have q7:(k == 7)=false:=by simp;omega
 have q8:(k == 8)=false:=by simp;omega
 have q9:(k == 9)=false:=by simp;omega
 have aa:(k == 10)=false:=by simp;omega
 have ab:(k == 11)=false:=by simp;omega
 have ac:(k == 12)=false:=by simp;omega
 go_enter func303,ntmps303
 go_wp2_with fail
 go_region
 go_wp2_with fail
 all_goals(go_ret;exact⟨by rw[h];unfold okN;rw[if_neg (by omega),if_neg (by omega),if_neg (by omega),if_neg (by omega),if_neg (by omega),if_neg (by omega)];rfl,(B0q.alloc L0q _).drew⟩)
theorem z1S(k:Int)(T:zA)(a b c d p:Int)(o:Option Addr)(n r:Nat)(w:World)(y:T.size<=9223372036854775807):
  Calls prog 303 #[.agg #[zI k,zT T,zU a,zU b,zU c,zU d,.slice o n r,zI p]] w fun e w'=>e=.returned (.bool (okN k T a b c d n))/\zB w w':=by
 by_cases hk:k<1∨12<k
 ·exact z9Q k T a b c d p o n r w hk y
 have h:k=1∨k=2∨k=3∨k=4∨k=5∨k=6∨k=7∨k=8∨k=9∨k=10∨k=11∨k=12:=by omega
 rcases h with rfl|rfl|rfl|rfl|rfl|rfl|rfl|rfl|rfl|rfl|rfl|rfl
 ·exact z9E T a b c d p o n r w y
 ·exact z9F T a b c d p o n r w y
 ·exact z9G T a b c d p o n r w y
 ·exact z9H T a b c d p o n r w y
 ·exact z9I T a b c d p o n r w y
 ·exact z9J T a b c d p o n r w y
 ·exact z9K T a b c d p o n r w y
 ·exact z9L T a b c d p o n r w y
 ·exact z9M T a b c d p o n r w y
 ·exact z9N T a b c d p o n r w y
 ·exact z9O T a b c d p o n r w y
 ·exact z9P T a b c d p o n r w y
inductive RT where
 |mk (k:Int) (T:ByteArray) (a b c d:Int) (subs:List RT) (p:Int)
@[reducible] def r8 (k:Int) (T:zA) (a b c d:Int) (so:Option Addr) (n cap:Nat) (p:Int):List Value:=
  [zI k,zT T,zU a,zU b,zU c,zU d,.slice so n cap,zI p]
mutual
def Qw(w:World)(B:Nat):RT->List Value->Prop
 | .mk k T a b c d s p,cs=>∃so cap,cs=r8 k T a b c d so (Qb s) cap p/\(s.isEmpty=true∨(s.isEmpty=false/\∃g o,so=some ⟨g,o,none⟩/\g<B/\Qb s<=maxLen/\Zj w B g o s))
def Zj(w:World)(B g:Nat):Nat->List RT->Prop
 |_,[]=>True
 |o,t::r=>(∃cs,Qw w B t cs/\∀j u,cs[j]? =some u->w.cell? ⟨g,o+j,none⟩=some u)/\Zj w B g (o+8) r
def Qb:List RT->Nat
 |[]=>0
 |_::r=>Qb r+1
end
theorem Xg:∀l:List RT,Qb l=l.length
 |[]=>rfl
 |_::r=>by rw[Qb,Xg r];rfl
mutual
def RtZ:RT->Prop
 | .mk _ T _ _ _ _ s _=>T.size<=9223372036854775807/\Xb s
def Xb:List RT->Prop
 |[]=>True
 |t::r=>RtZ t/\Xb r
end
mutual
def okT:RT->Bool
 | .mk k T a b c d s p=>okN k T a b c d (Qb s)&&okL s
def okL:List RT->Bool
 |[]=>true
 |t::r=>okT t&&okL r
end
mutual
theorem Qw.kept{w w':World}{B:Nat}(h:∀g o u,g<B->zC w g o u->zC w' g o u):∀(t:RT) (y:List Value),Qw w B t y->Qw w' B t y
 | .mk k T a b c d s p,y,r=>by
   rw[Qw]at r ⊢;obtain⟨E,G,rfl,r⟩:=r;refine⟨E,G,rfl,?_⟩;rcases r with A|⟨A,g,o,U,D,V,Y⟩
   ·exact .inl A
   ·exact .inr ⟨A,g,o,U,D,V,Zj.kept h D s o Y⟩
theorem Zj.kept{w w':World}{B g:Nat}(h:∀g o u,g<B->zC w g o u->zC w' g o u)(y:g<B):∀(s:List RT) (o:Nat),Zj w B g o s->Zj w' B g o s
 |[],o,_=>by rw[Zj];trivial
 |t::r,o,ht=>by
  rw[Zj]at ht ⊢;obtain⟨⟨A,D,E⟩,G⟩:=ht;exact⟨⟨A,Qw.kept h t A D,fun j u U=>h g _ u y (E j u U)⟩,Zj.kept h y r _ G⟩
end
theorem Qw.below{w':World}{t:RT}{r:List Value}(h:Qw w B t r)(y:Below B w w'):Qw w' B t r:=h.kept (fun g o u A D=>(y.cell (p:=⟨g,o,none⟩) A).trans D) t r
theorem Qw.shape{t:RT}{o:List Value}(h:Qw w B t o):∃k T a b c d r n y p,o=r8 k T a b c d r n y p:=by
 cases t;rw[Qw]at h;obtain⟨r,y,rfl,_⟩:=h;exact⟨_,_,_,_,_,_,_,_,_,_,rfl⟩
def Rc(w:World)(g o:Nat)(k:Int)(T:zA)(a b c d:Int)(sv:Value)(p:Int):Prop:=w.cell? ⟨g,o,none⟩=some (zI k)/\w.cell? ⟨g,o+1,none⟩=some (zT T)/\w.cell? ⟨g,o+2,none⟩=some (zU a)/\w.cell? ⟨g,o+3,none⟩=some (zU b)/\w.cell? ⟨g,o+4,none⟩=some (zU c)/\w.cell? ⟨g,o+5,none⟩=some (zU d)/\w.cell? ⟨g,o+6,none⟩=some sv/\w.cell? ⟨g,o+7,none⟩=some (zI p)
theorem Mx{w:World}{B g:Nat}:∀{s:List RT} {o:Nat},Zj w B g o s->∀(k:Nat) (E:k<s.length),∃kd T a b c d A n D p,Qw w B s[k] (r8 kd T a b c d A n D p)/\Rc w g (o+k*8) kd T a b c d (.slice A n D) p
 |[],o,h,k,E=>by simp at E
 |t::r,o,h,0,E=>by
  rw[Zj]at h;obtain⟨⟨U,G,y⟩,_⟩:=h;obtain⟨kd,T,a,b,c,d,A,n,D,p,rfl⟩:=G.shape;refine⟨kd,T,a,b,c,d,A,n,D,p,G,?_⟩;rw[Nat.zero_mul,Nat.add_zero];exact⟨y 0 _ rfl,y 1 _ rfl,y 2 _ rfl,y 3 _ rfl,y 4 _ rfl,y 5 _ rfl,y 6 _ rfl,y 7 _ rfl⟩
 |t::r,o,h,k+1,E=>by
  rw[Zj]at h;obtain⟨kd,T,a,b,c,d,A,n,D,p,G,y⟩:=Mx h.2 k (by simpa using E);refine⟨kd,T,a,b,c,d,A,n,D,p,G,?_⟩;rw[show o+(k+1)*8=o+8+k*8 by omega];exact y
theorem Rc.below{W:World}{g o:Nat}{k a b c d p:Int}{T:zA}{sv:Value}(h:Rc w g o k T a b c d sv p)(r:Below B w W)(y:g<B):Rc W g o k T a b c d sv p:=by
 obtain⟨A,D,E,G,U,V,Y,Z⟩:=h;have e:∀j,W.cell? ⟨g,j,none⟩=w.cell? ⟨g,j,none⟩:=fun j=>r.cell (p:=⟨g,j,none⟩) y
 exact⟨(e _).trans A,(e _).trans D,(e _).trans E,(e _).trans G,(e _).trans U,(e _).trans V,(e _).trans Y,(e _).trans Z⟩
theorem Eg:∀{s:List RT},okL s=true->∀(j:Nat) (o:j<s.length),okT s[j]=true
 |[],_,j,o=>by simp at o
 |t::r,h,0,_=>by rw[okL,Bool.and_eq_true]at h;exact h.1
 |t::r,h,j+1,o=>by rw[okL,Bool.and_eq_true]at h;exact Eg h.2 j (by simpa using o)
theorem z1T:∀{s:List RT} (j:Nat) (o:j<s.length),okT s[j]=false->okL s=false
 |[],j,o,_=>by simp at o
 |t::r,0,_,h=>by rw[okL,show okT t=false from h];rfl
 |t::r,j+1,o,h=>by rw[okL,z1T j (by simpa using o) h,Bool.and_false]
theorem z1U:∀{s:List RT},(∀(j:Nat) (o:j<s.length),okT s[j]=true)->okL s=true
 |[],_=>by rw[okL]
 |t::r,h=>by rw[okL,show okT t=true from h 0 (by simp),z1U (s:=r) (fun j o=>h (j+1) (by simpa using o))];rfl
theorem Xb.get:∀{s:List RT},Xb s->∀(j:Nat) (o:j<s.length),RtZ s[j]
 |[],_,j,o=>by simp at o
 |t::r,h,0,_=>by rw[Xb]at h;exact h.1
 |t::r,h,j+1,o=>by rw[Xb]at h;exact Xb.get h.2 j (by simpa using o)
theorem z9R{g:Nat}{r a1 a2 a3 a4 y o A:Value}(h:zH w g (.cells #[r,a1,a2,a3,a4,y,o,A] 119)):zC w g 6 o:=(Qf h).1.2.2.2.2.2.2.1
theorem z9S(k:Int)(T:zA)(a b c d p:Int)(h:Option Addr)(n o:Nat)(w:World)(y:T.size<=9223372036854775807)(A:okN k T a b c d n=false):
  Calls prog 292 #[.agg (r8 k T a b c d h n o p).toArray] w fun e w'=>e=.returned (.bool false)/\zB w w':=by
 have r:=hid (fun w:World=>z1S k T a b c d p h n o w y);rw[A]at r;go_enter func292,ntmps292
 go_wp2_with(first|(go_at_call 303;refine(r.out _).mono ?_;rintro e E ⟨rfl,D⟩))
 go_ret;exact⟨rfl,((Below.refl _ w).alloc L0q _).trans (D.mono (by simp))⟩
theorem z1V(k:Int)(T:zA)(a b c d p:Int)(y:Option Addr)(n E:Nat)(s:List RT)(w:World)(hT:T.size<=9223372036854775807)(hk:okN k T a b c d n=true)(hn:n<=9223372036854775807)(HN:Hid (n=s.length))
  (U:Hid (∀j (hj:j<s.length),∃g o,y=some ⟨g,o,none⟩/\g<w.heap.size/\∃V Y a1 Z c1 d1 aa n1 ab p1,Rc w g (o+j*8) V Y a1 Z c1 d1 (.slice aa n1 ab) p1/\
    ∀W:World,zB w W->Calls prog 292 #[.agg (r8 V Y a1 Z c1 d1 aa n1 ab p1).toArray] W (zR W (.bool (okT s[j]))))):
  Calls prog 292 #[.agg (r8 k T a b c d y n E p).toArray] w fun e w'=>e=.returned (.bool (okL s))/\zB w w':=by
 have HI:=hid (fun w:World=>z1S k T a b c d p y n E w hT);rw[hk]at HI;obtain⟨R,hR⟩:∃R,R=okL s:=⟨_,rfl⟩;have HR:=hid hR;rw[<-hR];clear hR hk hT;obtain⟨A,D⟩:∃A,A=w.alloc (.cells #[zI k,zT T,zU a,zU b,zU c,zU d,.slice y n E,zI p] 119):=⟨_,rfl⟩;have ac:Hid (zB w A):=by rw[D];exact(Below.refl _ w).alloc L0q _
 have af:Hid (A.heap[w.heap.size]? =some (.cells #[zI k,zT T,zU a,zU b,zU c,zU d,.slice y n E,zI p] 119)):=by rw[D];exact Qx w _ rfl
 have ag:Hid (A.heap.size=w.heap.size+1):=by rw[D];exact World.size_alloc _ _
 have ah:=hid D;clear D;dsimp only[r8];go_enter func292,ntmps292
 go_wp2_with(first|(go_at_call 303;rw[<-ah.out];refine(HI.out _).mono ?_;rintro e wq ⟨rfl,ad⟩;have c6:=z9R ((ad.block _ (by rw[ag.out];exact Nat.lt_succ_self _)).trans af.out)))
 have ai:Hid (zB w wq):=ac.out.trans (ad.mono ac.out.size);clear ad c6 ac af ag ah HI
 go_loopw [11] (fun i wr=>∃j:Nat,i=zI (j:Int)/\j<=n/\Hid (zB w wr)/\Hid (∀i (G:i<s.length),i<j->okT s[i]=true)) (fun i _=>n-(intOf i).toNat)
 case atStart=>exact⟨0,rfl,Nat.zero_le _,ai,fun i _ h=>absurd h (by omega)⟩
 case round=>
  obtain⟨j,rfl,hj,r,HO⟩:=hrel;clear ai;by_cases hjn:j<n
  ·have al:(j:Int)<(n:Int):=by omega
   have a0:decide ((j:Int)<(n:Int))=true:=by simp;omega
   have aj:j<s.length:=by rw[<-HN.out];exact hjn
   obtain⟨g,o,rfl,hg,V,Y,a1,Z,c1,d1,aa,n1,ab,p1,rc,hc⟩:=U.out j aj;obtain⟨z0,z1,z2,z3,z4,z5,z6,z7⟩:=rc.below r.out hg;have HG:=hid (fun W (hb:zB wr W)=>hc W (r.out.trans (hb.mono r.out.size)));obtain⟨Q,hQ⟩:∃Q,Q=okT s[j]:=⟨_,rfl⟩;rw[<-hQ]at HG;have HQ:=hid hQ;clear hc rc hQ U;dsimp only[r8]at HG
   go_wp2_with(first|(go_at_call 292;refine(HG.out _ ?hh).mono ?_;(case hh=>exact B0q.alloc L0q _);rintro e wz ⟨rfl,ak⟩))
   ·rename_i hq
    have ae:=r.out.trans ((((Below.refl _ wr).alloc L0q _).trans (ak.mono (by simp))).mono r.out.size);go_ret;refine⟨?_,ae⟩;rw[HR.out,z1T j aj (by rw[<-HQ.out];simpa using hq)];rfl
   ·rename_i hq
    have ae:=r.out.trans ((((Below.refl _ wr).alloc L0q _).trans (ak.mono (by simp))).mono r.out.size);refine⟨⟨j+1,by go_num,by omega,ae,fun i G am=> ?_⟩,?_⟩
    ·rcases Nat.lt_or_ge i j with h1|h1
     ·exact HO.out i G h1
     ·obtain rfl:i=j:=by omega
      rw[<-HQ.out];simpa using hq
    ·simp[intOf];omega
  ·have a0:decide ((j:Int)<(n:Int))=false:=by simp;omega
   clear U
   go_wp2_with fail
   go_ret;refine⟨?_,r.out⟩;rw[HR.out,z1U fun i G=>HO.out i G (by have:=HN.out;omega)];rfl
theorem z1W:∀(N:Nat) (t:RT) (A:List Value) (B:Nat) (w:World),SizeOf.sizeOf t<N->RtZ t->Qw w B t A->B<=w.heap.size->
  Calls prog 292 #[.agg A.toArray] w (zR w (.bool (okT t)))
 |0,t,_,_,_,h,_,_,_=>by omega
 |N+1,.mk k T a b c d s p,A,B,w,hN,hz,y,hB=>by
  rw[RtZ]at hz;rw[Qw]at y;obtain⟨E,D,rfl,y⟩:=y;rw[okT];cases hk:okN k T a b c d (Qb s)with
  |false=>exact z9S k T a b c d p E (Qb s) D w hz.1 hk
  |true=>
   rw[Bool.true_and];rcases y with G|⟨G,g,o,rfl,hg,V,Y⟩
   ·have Z:s=[]:=by simpa using G
    subst Z;exact z1V k T a b c d p E _ D [] w hz.1 hk (by rw[Qb];omega) (hid (by rw[Qb];rfl)) (hid (fun j r=>by simp at r))
   ·refine z1V k T a b c d p _ _ D s w hz.1 hk (by unfold maxLen at V;omega) (hid (Xg s)) (hid (fun j r=> ?_))
    obtain⟨k1,T1,a1,b1,c1,d1,aa,n1,ab,p1,r1,r2⟩:=Mx Y j r;refine⟨g,o,rfl,by omega,k1,T1,a1,b1,c1,d1,aa,n1,ab,p1,r2,fun W U=> ?_⟩;have ac:=List.sizeOf_lt_of_mem (List.getElem_mem r);simp only[RT.mk.sizeOf_spec]at hN;exact z1W N s[j] _ B W (by omega) (hz.2.get j r) (r1.below (U.mono hB)) (Nat.le_trans hB U.size)
theorem z9T(t:RT)(o:List Value)(B:Nat)(w:World)(r:RtZ t)(h:Qw w B t o)(y:B<=w.heap.size):
 Calls prog 292 #[.agg o.toArray] w fun e w'=>e=.returned (.bool (okT t))/\zB w w':=z1W _ t o B w (Nat.lt_succ_self _) r h y
abbrev Rr:=ByteArray×RT×Int
def Rk(w:World)(B g o:Nat)(x:Rr):Prop:=∃k T a b c d so n cap p,Qw w B x.2.1 (r8 k T a b c d so n cap p)/\w.cell? ⟨g,o,none⟩=some (zT x.1)/\w.cell? ⟨g,o+1,none⟩=some (zI k)/\w.cell? ⟨g,o+2,none⟩=some (zT T)/\w.cell? ⟨g,o+3,none⟩=some (zU a)/\w.cell? ⟨g,o+4,none⟩=some (zU b)/\w.cell? ⟨g,o+5,none⟩=some (zU c)/\w.cell? ⟨g,o+6,none⟩=some (zU d)/\w.cell? ⟨g,o+7,none⟩=some (.slice so n cap)/\w.cell? ⟨g,o+8,none⟩=some (zI p)/\w.cell? ⟨g,o+9,none⟩=some (zI x.2.2)
def Qg(w:World)(B:Nat)(so:Option Addr)(n:Nat)(rs:List Rr):Prop:=n=rs.length/\n<=maxLen/\∀j (hj:j<rs.length),∃g o,so=some ⟨g,o,none⟩/\g<B/\Rk w B g (o+j*10) rs[j]
theorem Rk.below{w w':World}{B g o:Nat}{x:Rr}(h:Rk w B g o x)(r:Below B w w')(y:g<B):Rk w' B g o x:=by
 obtain⟨k,T,a,b,c,d,A,n,D,p,E,G,U,V,Y,Z,z5,z6,z7,z8,z9⟩:=h;have e:∀j,w'.cell? ⟨g,j,none⟩=w.cell? ⟨g,j,none⟩:=fun j=>r.cell (p:=⟨g,j,none⟩) y
 exact⟨k,T,a,b,c,d,A,n,D,p,E.below r,(e _).trans G,(e _).trans U,(e _).trans V,(e _).trans Y,(e _).trans Z,(e _).trans z5,(e _).trans z6,(e _).trans z7,(e _).trans z8,(e _).trans z9⟩
theorem Qg.below{w w':World}{B n:Nat}{r:Option Addr}{rs:List Rr}(h:Qg w B r n rs)(A:Below B w w'):Qg w' B r n rs:=
 ⟨h.1,h.2.1,fun j D=>by
   obtain⟨g,o,E,y,G⟩:=h.2.2 j D;exact⟨g,o,E,y,G.below A y⟩⟩
def RgZ(rs:List Rr):Prop:=∀x∈rs,x.1.size<=9223372036854775807/\RtZ x.2.1
def okR(x:Rr):Bool:=nmS x.1&&okT x.2.1
def okG(rs:List Rr):Bool:=decide (1<=rs.length)&&(decide (rs.length<=64)&&rs.all okR)
theorem z1X{rs:List Rr}(j:Nat)(o:j<rs.length)(h:okR rs[j]=false):rs.all okR=false:=by
 rw[List.all_eq_false];exact⟨_,List.getElem_mem o,by rw[h];simp⟩
theorem z9U{rs:List Rr}(h:∀j (o:j<rs.length),okR rs[j]=true):rs.all okR=true:=by
 rw[List.all_eq_true];intro x hx;obtain⟨j,o,rfl⟩:=List.mem_iff_getElem.1 hx;exact h j o
theorem z1Y(Y:Option Addr)(n ad:Nat)(rs:List Rr)(B:Nat)(w:World)(hz:RgZ rs)(h:Qg w B Y n rs)(E:B<=w.heap.size):
  Calls prog 273 #[.agg #[.slice Y n ad]] w fun e w'=>e=.returned (.bool (okG rs))/\zB w w':=by
 obtain⟨R,Z⟩:∃R,R=okG rs:=⟨_,rfl⟩;have G:=hid Z;rw[<-Z];clear Z;have y:Hid (n=rs.length):=h.1;have hm:n<=9223372036854775807:=by have:=h.2.1;unfold maxLen at this;omega
 have A:=hid h;have HZ:=hid hz;clear h hz;by_cases h0:n=0
 ·have q0:((n:Int) == 0)=true:=by simp;omega
  clear A;go_enter func273,ntmps273
  go_wp2_with fail
  go_ret;refine⟨?_,B0q.alloc L0q _⟩;rw[G.out];unfold okG;rw[decide_eq_false (by have:=y.out;omega)];rfl
 have q0:((n:Int) == 0)=false:=by simp;omega
 by_cases h1:64<n
 ·have q1:(64:Int)<(n:Int):=by omega
  have q2:decide ((64:Int)<(n:Int))=true:=by simp;omega
  clear A;go_enter func273,ntmps273
  go_wp2_with fail
  go_ret;refine⟨?_,B0q.alloc L0q _⟩;rw[G.out];unfold okG;rw[decide_eq_false (p:=rs.length<=64) (by have:=y.out;omega),Bool.false_and,Bool.and_false];rfl
 have q1:¬(64:Int)<(n:Int):=by omega
 have q2:decide ((64:Int)<(n:Int))=false:=by simp;omega
 have aa:Hid (R=rs.all okR):=by
  refine G.out.trans ?_;unfold okG;rw[decide_eq_true (by have:=y.out;omega),decide_eq_true (p:=rs.length<=64) (by have:=y.out;omega)];rfl
 clear G;have ae:Hid (zB w (w.alloc (.cells #[.slice Y n ad] 51))):=(Below.refl _ w).alloc L0q _;go_enter func273,ntmps273
 go_wp2_with fail
 go_loopw [18] (fun i wr=>∃j:Nat,i=zI (j:Int)/\j<=n/\Hid (zB w wr)/\Hid (∀i (U:i<rs.length),i<j->okR rs[i]=true)) (fun i _=>n-(intOf i).toNat)
 case atStart=>exact⟨0,rfl,Nat.zero_le _,ae,fun i _ h=>absurd h (by omega)⟩
 case round=>
  obtain⟨j,rfl,hj,r,HO⟩:=hrel;clear ae;by_cases hjn:j<n
  ·have al:(j:Int)<(n:Int):=by omega
   have a0:decide ((j:Int)<(n:Int))=true:=by simp;omega
   have V:j<rs.length:=by rw[<-y.out];exact hjn
   have af:=hid (A.out.below (r.out.mono E));obtain⟨g,o,rfl,hg,k1,T1,a1,b1,c1,d1,am,n1,ao,p1,rt,z0,z1,z2,z3,z4,z5,z6,z7,z8,z9⟩:=af.out.2.2 j V;obtain⟨zn,zt⟩:=HZ.out rs[j] (List.getElem_mem V);have HE:=hid (fun W (hb:zB wr W)=>z9T rs[j].2.1 _ B W zt (rt.below (hb.mono (Nat.le_trans E r.out.size))) (Nat.le_trans (Nat.le_trans E r.out.size) hb.size));have HM:=hid (fun W=>z1R rs[j].1 W zn);obtain⟨Q,hQ⟩:∃Q,Q=okT rs[j].2.1:=⟨_,rfl⟩;obtain⟨M,hM⟩:∃M,M=nmS rs[j].1:=⟨_,rfl⟩;have HQ:Hid (okR rs[j]=(M&&Q)):=by show(nmS rs[j].1&&okT rs[j].2.1)=_;rw[hQ,hM]
   obtain⟨N0,ab⟩:∃N0,N0=rs[j].1:=⟨_,rfl⟩;obtain⟨p0,ag⟩:∃p0,p0=rs[j].2.2:=⟨_,rfl⟩;rw[<-hQ]at HE;rw[<-hM,<-ab]at HM;rw[<-ab]at z0;rw[<-ag]at z9;have ap:g<wr.heap.size:=Nat.lt_of_lt_of_le hg (Nat.le_trans E r.out.size);clear rt hQ hM ab ag A af HZ zn zt;dsimp only[r8]at HE
   go_wp2_with(first|(go_at_call 291;refine(HM.out _).mono ?_;rintro e wz ⟨rfl,rfl⟩)|(go_at_call 292;refine(HE.out _ ?hh).mono ?_;(case hh=>exact B0q.alloc L0q _);rintro e wy ⟨rfl,ah⟩))
   ·rename_i D
    have ac:=r.out.trans ((((Below.refl _ wr).alloc L0q _).trans (ah.mono (by simp))).mono r.out.size);have ai:Q=false:=by simpa using D
    go_ret;refine⟨?_,ac⟩;rw[aa.out,z1X j V (by rw[HQ.out,ai,Bool.and_false])];rfl
   ·rename_i aq ar D
    have ac:=r.out.trans ((((Below.refl _ wr).alloc L0q _).trans (ah.mono (by simp))).mono r.out.size);have aj:Q=true:=by simpa using D
    refine⟨⟨j+1,by go_num,by omega,ac,fun i U au=> ?_⟩,?_⟩
    ·rcases Nat.lt_or_ge i j with h1|h1
     ·exact HO.out i U h1
     ·obtain rfl:i=j:=by omega
      rw[HQ.out,aj]
      first|rfl|(simp_all)
    ·simp[intOf];omega
   ·rename_i D
    have ak:M=false:=by simpa using D
    go_ret;refine⟨?_,r.out.trans (((Below.refl _ wr).alloc L0q _).mono r.out.size)⟩;rw[aa.out,z1X j V (by rw[HQ.out,ak,Bool.false_and])];rfl
  ·have a0:decide ((j:Int)<(n:Int))=false:=by simp;omega
   clear A HZ
   go_wp2_with fail
   go_ret;refine⟨?_,r.out⟩;rw[aa.out,z9U fun i U=>HO.out i U (by have:=y.out;omega)];rfl
@[reducible] def Ot:=Bool×Bool×Bool
def suc(x:Ot):Bool:=x.1||x.2.1
def Jq(a n:Ot):Ot:=(a.1&&n.1,a.2.1&&suc n||a.1&&n.2.1,a.2.2||suc a&&n.2.2)
def Uf(a n:Ot):Ot:=(a.1||a.2.2&&n.1,a.2.1||a.2.2&&n.2.1,a.2.2&&n.2.2)
def Zb(k:Int)(x:Ot):Ot:=
 if k=8 then(x.1||x.2.2,x.2.1,false)else if k=9 then(x.2.2,x.2.1,false)else if k=10 then(x.1&&x.2.2,x.2.1,x.2.2)else if k=11 then(suc x,false,x.2.2)else if k=12 then(x.2.2,false,suc x)else(false,false,false)
mutual
def ofT(K:zA->Ot):RT->Ot
 | .mk k T a b c d s p=>
   if k=1 then(true,false,false)else if k=2 then(if T.size=0 then(true,false,false)else(false,true,true))else if k=3 then(if a=0/\b=0/\c=0/\d=0 then(false,false,true)else(false,true,true))else if k=4 then(false,true,true)else if k=5 then K T else if k=6 then ofS K (true,false,false) s else if k=7 then ofA K (false,false,true) s else Zb k (ofH K s)
def ofS(K:zA->Ot)(acc:Ot):List RT->Ot
 |[]=>acc
 |t::r=>ofS K (Jq acc (ofT K t)) r
def ofA(K:zA->Ot)(acc:Ot):List RT->Ot
 |[]=>acc
 |t::r=>ofA K (Uf acc (ofT K t)) r
def ofH(K:zA->Ot):List RT->Ot
 |[]=>(false,false,false)
 |t::r=>ofT K t
end
def leO(x y:Ot):Bool:=(!x.1||y.1)&&((!x.2.1||y.2.1)&&(!x.2.2||y.2.2))
theorem Jj(x:Ot):leO x x=true:=by obtain⟨a,b,c⟩:=x;revert a b c;decide
theorem Py{x y z:Ot}:leO x y=true->leO y z=true->leO x z=true:=by
 obtain⟨a,b,c⟩:=x;obtain⟨d,e,f⟩:=y;obtain⟨g,h,i⟩:=z
 revert a b c d e f g h i
 decide
theorem z9V{x y a b:Ot}:leO x y=true->leO a b=true->leO (Jq x a) (Jq y b)=true:=by
 obtain⟨x1,x2,x3⟩:=x;obtain⟨y1,y2,y3⟩:=y;obtain⟨a1,a2,a3⟩:=a;obtain⟨h,o,r⟩:=b
 revert x1 x2 x3 y1 y2 y3 a1 a2 a3 h o r
 decide+kernel
theorem z9W{x y a b:Ot}:leO x y=true->leO a b=true->leO (Uf x a) (Uf y b)=true:=by
 obtain⟨x1,x2,x3⟩:=x;obtain⟨y1,y2,y3⟩:=y;obtain⟨a1,a2,a3⟩:=a;obtain⟨h,o,r⟩:=b
 revert x1 x2 x3 y1 y2 y3 a1 a2 a3 h o r
 decide+kernel
theorem z9X(k:Int){x y:Ot}:leO x y=true->leO (Zb k x) (Zb k y)=true:=by
 obtain⟨x1,x2,x3⟩:=x;obtain⟨y1,y2,y3⟩:=y;unfold Zb;by_cases h8:k=8
 ·rw[if_pos h8,if_pos h8];revert x1 x2 x3 y1 y2 y3;decide
 rw[if_neg h8,if_neg h8];by_cases h9:k=9
 ·rw[if_pos h9,if_pos h9];revert x1 x2 x3 y1 y2 y3;decide
 rw[if_neg h9,if_neg h9];by_cases h10:k=10
 ·rw[if_pos h10,if_pos h10];revert x1 x2 x3 y1 y2 y3;decide
 rw[if_neg h10,if_neg h10];by_cases h11:k=11
 ·rw[if_pos h11,if_pos h11];revert x1 x2 x3 y1 y2 y3;decide
 rw[if_neg h11,if_neg h11];by_cases h12:k=12
 ·rw[if_pos h12,if_pos h12];revert x1 x2 x3 y1 y2 y3;decide
 rw[if_neg h12,if_neg h12];intro _;exact Jj _
mutual
theorem Mj{K o:zA->Ot}(h:∀s,leO (K s) (o s)=true):∀t:RT,leO (ofT K t) (ofT o t)=true
 | .mk k T a b c d s p=>by
   rw[ofT,ofT];by_cases h1:k=1
   ·rw[if_pos h1,if_pos h1];exact Jj _
   rw[if_neg h1,if_neg h1];by_cases h2:k=2
   ·rw[if_pos h2,if_pos h2];exact Jj _
   rw[if_neg h2,if_neg h2];by_cases h3:k=3
   ·rw[if_pos h3,if_pos h3];exact Jj _
   rw[if_neg h3,if_neg h3];by_cases h4:k=4
   ·rw[if_pos h4,if_pos h4];exact Jj _
   rw[if_neg h4,if_neg h4];by_cases h5:k=5
   ·rw[if_pos h5,if_pos h5];exact h T
   rw[if_neg h5,if_neg h5];by_cases h6:k=6
   ·rw[if_pos h6,if_pos h6];exact z1Z h s _ _ (Jj _)
   rw[if_neg h6,if_neg h6];by_cases h7:k=7
   ·rw[if_pos h7,if_pos h7];exact z2a h s _ _ (Jj _)
   rw[if_neg h7,if_neg h7];exact z9X k (z9Y h s)
theorem z1Z{K o:zA->Ot}(h:∀s,leO (K s) (o s)=true):∀(l:List RT) (x y:Ot),leO x y=true->leO (ofS K x l) (ofS o y l)=true
 |[],x,y,hx=>by rw[ofS,ofS];exact hx
 |t::r,x,y,hx=>by rw[ofS,ofS];exact z1Z h r _ _ (z9V hx (Mj h t))
theorem z2a{K o:zA->Ot}(h:∀s,leO (K s) (o s)=true):∀(l:List RT) (x y:Ot),leO x y=true->leO (ofA K x l) (ofA o y l)=true
 |[],x,y,hx=>by rw[ofA,ofA];exact hx
 |t::r,x,y,hx=>by rw[ofA,ofA];exact z2a h r _ _ (z9W hx (Mj h t))
theorem z9Y{K o:zA->Ot}(h:∀s,leO (K s) (o s)=true):∀(l:List RT),leO (ofH K l) (ofH o l)=true
 |[]=>by rw[ofH,ofH];exact Jj _
 |t::r=>by rw[ofH,ofH];exact Mj h t
end
def Jk(K:zA->Ot)(s:zA)(x:Ot):zA->Ot:=fun t=>if t=s then x else K t
def Yy(K:zA->Ot)(x:Rr):zA->Ot:=Jk K x.1 (ofT K x.2.1)
def swp(K:zA->Ot):List Rr->(ByteArray->Ot)
 |[]=>K
 |x::r=>Yy (swp K r) x
def z0O:zA->Ot:=fun _=>(false,false,false)
def itr(rs:List Rr):Nat->(ByteArray->Ot)
 |0=>z0O
 |n+1=>swp (itr rs n) rs
def Xq(K:zA->Ot)(rs:List Rr):Prop:=∀x∈rs,ofT K x.2.1=K x.1
theorem z2b{K:zA->Ot}{s:zA}{x:Ot}(h:x=K s):Jk K s x=K:=by
 funext t;unfold Jk;by_cases e:t=s
 ·rw[if_pos e,h,e]
 ·rw[if_neg e]
theorem z2c{K:zA->Ot}:∀{rs:List Rr},Xq K rs->swp K rs=K
 |[],_=>rfl
 |x::r,h=>by
  rw[swp,z2c (fun y o=>h y (List.mem_cons_of_mem _ o)),Yy];exact z2b (h x (List.mem_cons_self ..))
theorem Pf{rs:List Rr}{n:Nat}(h:Xq (itr rs n) rs):∀m,itr rs (n+m)=itr rs n
 |0=>rfl
 |m+1=>by rw[<-Nat.add_assoc,itr,Pf h m,z2c h]
theorem z9Z{rs:List Rr}{n m:Nat}(h:Xq (itr rs n) rs)(k:Xq (itr rs m) rs):itr rs n=itr rs m:=by
 rcases Nat.le_total n m with e|e
 ·rw[<-Nat.add_sub_cancel' e,Pf h]
 ·rw[<-Nat.add_sub_cancel' e,Pf k]
def Fm(K:zA->Ot)(rs:List Rr):Prop:=∀x∈rs,leO (K x.1) (ofT K x.2.1)=true
theorem z2d{K:zA->Ot}{x:Rr}(h:leO (K x.1) (ofT K x.2.1)=true):∀s,leO (K s) (Yy K x s)=true:=fun s=>by
 unfold Yy Jk;by_cases e:s=x.1
 ·rw[if_pos e,e];exact h
 ·rw[if_neg e];exact Jj _
theorem y0a{K:zA->Ot}{rs:List Rr}{x:Rr}(A:∀y∈rs,y.1=x.1->y=x)(hx:x∈rs)(h:Fm K rs):Fm (Yy K x) rs:=fun y o=>by
 have r:=z2d (h x hx);by_cases e:y.1=x.1
 ·rw[A y o e]
  refine Py ?_ (Mj r x.2.1);unfold Yy Jk;rw[if_pos rfl];exact Jj _
 ·refine Py ?_ (Py (h y o) (Mj r y.2.1))
  unfold Yy Jk;rw[if_neg e];exact Jj _
def Kq(x:Ot):Nat:=x.1.toNat+(x.2.1.toNat+x.2.2.toNat)
theorem z2e(x:Ot):Kq x<=3:=by obtain⟨a,b,c⟩:=x;revert a b c;decide
theorem z2f{x y:Ot}:leO x y=true->Kq x<=Kq y:=by
 obtain⟨a,b,c⟩:=x;obtain⟨d,e,f⟩:=y
 revert a b c d e f
 decide
theorem y0b{x y:Ot}:leO x y=true->x≠y->Kq x<Kq y:=by
 obtain⟨a,b,c⟩:=x;obtain⟨d,e,f⟩:=y
 revert a b c d e f
 decide
def lck(K:zA->Ot):List Rr->Nat
 |[]=>0
 |x::r=>(3-Kq (K x.1))+lck K r
theorem z2g{K o:zA->Ot}(h:∀s,leO (K s) (o s)=true):∀rs:List Rr,lck o rs<=lck K rs
 |[]=>Nat.le_refl _
 |x::r=>by
  have y:=z2g h r;have A:=z2f (h x.1);rw[lck,lck];omega
theorem z2h{K o:zA->Ot}(h:∀s,leO (K s) (o s)=true):∀{rs:List Rr} {x:Rr},x∈rs->K x.1≠o x.1->lck o rs<lck K rs
 |y::r,x,hx,hne=>by
  have D:=z2g h r;have E:=z2f (h y.1);have G:=z2e (K y.1);have U:=z2e (o y.1);rw[lck,lck];rcases List.mem_cons.1 hx with rfl|hx
  ·have A:=y0b (h x.1) hne
   omega
  ·have A:=z2h h hx hne
   omega
end Go.Proofs.YtmelafeingcgnaaGreatDoor
