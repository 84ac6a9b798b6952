/- Lemmas for the last text. Conditions: those that each names. -/
import Derived.Test.YtgnkkgcgbeianaaGreatDoorVR5ToR7
import Derived.Maps.OwnIn
import Derived.Maps.Own
import Derived.Maps.OwnOps
import Derived.Maps.OwnSet
import Derived.DeepKeys4
import Derived.Lib.ItoaNum
import Derived.Shelf.Strconv.AppendIntPublic10
import Derived.BigRegionIn
set_option linter.unusedVariables false
set_option maxRecDepth 100000
set_option maxHeartbeats 8000000
namespace Go.Proofs.YtgnkkgcgbeianaaGreatDoor
open Go.Proofs.Tryz
open Go.RowKit Go.Shelf
theorem z9s(S:zA)(w:World)(r:32<S.size)(t:S.size<=9223372036854775807):
  Calls prog 281 #[zT S] w fun e w'=>e=.returned (.bool false)/\w'=w:=by
 have y:S.toList.isEmpty=false:=by
  rw[Go.ByteArray.toList_eq];cases h:S.data.toList with
  |nil=>
   have o:S.data.toList.length=0:=by rw[h];rfl
   have A:S.data.size=S.size:=rfl;rw[Array.length_toList]at o;omega
  |cons _ _=>rfl
 have D:decide ((S.size:Int)<=32)=false:=by simp;omega
 go_enter func281,ntmps281
 go_wp2_with fail
 go_ret;exact⟨rfl,rfl⟩
theorem z1M(S:zA)(w:World)(o:S.size<=9223372036854775807):
  Calls prog 281 #[zT S] w fun e w'=>e=.returned (.bool (nmS S))/\w'=w:=by
 rcases Nat.lt_or_ge 32 S.size with h|h
 ·have e:nmS S=false:=by
   unfold nmS;split
   ·rfl
   ·rw[decide_eq_false (by omega)];rfl
  rw[e];exact z9s S w h o
 ·exact z7b S w (by omega)
def zc(a b c d:Int):Bool:=a == 0&&(b == 0&&(c == 0&&d == 0))
def okN(k:Int)(T:zA)(a b c d:Int)(n:Nat):Bool:=
 if k=1∨k=4 then T.toList.isEmpty&&(zc a b c d&&((n:Int) == 0))
 else if k=2 then decide ((T.size:Int)<=255)&&(zc a b c d&&((n:Int) == 0))
 else if k=3 then T.toList.isEmpty&&((n:Int) == 0)
 else if k=5 then nmS T&&(zc a b c d&&((n:Int) == 0))
 else if k=6∨k=7 then T.toList.isEmpty&&(zc a b c d&&decide (2<=(n:Int)))
 else if 8<=k/\k<=12 then T.toList.isEmpty&&(zc a b c d&&((n:Int) == 1))
 else false
theorem z9t(T:zA)(a b c d p:Int)(o:Option Addr)(n r:Nat)(w:World)(t:T.size<=9223372036854775807):
  Calls prog 293 #[.agg #[zI 1,zT T,zU a,zU b,zU c,zU d,.slice o n r,zI p]] w fun e w'=>e=.returned (.bool (okN 1 T a b c d n))/\zB w w':=by
 have y:∀w:World,(Op.equalIn 10000 54 (.agg #[zU a,zU b,zU c,zU d]) (.agg #[zU 0,zU 0,zU 0,zU 0])).run prog w=.ok (zc a b c d) w:=fun w=>Yg 9998 w a b c d 0 0 0 0
 obtain⟨R,h⟩:∃R,R=okN 1 T a b c d n:=⟨_,rfl⟩;rw[<-h];go_enter func293,ntmps293
 go_wp2_with fail
 go_region
 go_wp2_with fail
 all_goals(go_ret;exact⟨by(try rw[h]);unfold okN;simp_all<;>(intros;omega),(B0q.alloc L0q _).drew⟩)
theorem z9u(T:zA)(a b c d p:Int)(o:Option Addr)(n r:Nat)(w:World)(t:T.size<=9223372036854775807):
  Calls prog 293 #[.agg #[zI 2,zT T,zU a,zU b,zU c,zU d,.slice o n r,zI p]] w fun e w'=>e=.returned (.bool (okN 2 T a b c d n))/\zB w w':=by
 have y:∀w:World,(Op.equalIn 10000 54 (.agg #[zU a,zU b,zU c,zU d]) (.agg #[zU 0,zU 0,zU 0,zU 0])).run prog w=.ok (zc a b c d) w:=fun w=>Yg 9998 w a b c d 0 0 0 0
 obtain⟨R,h⟩:∃R,R=okN 2 T a b c d n:=⟨_,rfl⟩;rw[<-h];go_enter func293,ntmps293
 go_wp2_with fail
 go_region
 go_wp2_with fail
 all_goals(go_ret;exact⟨by(try rw[h]);unfold okN;simp_all<;>(intros;omega),(B0q.alloc L0q _).drew⟩)
theorem z9v(T:zA)(a b c d p:Int)(o:Option Addr)(n r:Nat)(w:World)(t:T.size<=9223372036854775807):
  Calls prog 293 #[.agg #[zI 3,zT T,zU a,zU b,zU c,zU d,.slice o n r,zI p]] w fun e w'=>e=.returned (.bool (okN 3 T a b c d n))/\zB w w':=by
 have y:∀w:World,(Op.equalIn 10000 54 (.agg #[zU a,zU b,zU c,zU d]) (.agg #[zU 0,zU 0,zU 0,zU 0])).run prog w=.ok (zc a b c d) w:=fun w=>Yg 9998 w a b c d 0 0 0 0
 obtain⟨R,h⟩:∃R,R=okN 3 T a b c d n:=⟨_,rfl⟩;rw[<-h];go_enter func293,ntmps293
 go_wp2_with fail
 go_region
 go_wp2_with fail
 all_goals(go_ret;exact⟨by(try rw[h]);unfold okN;simp_all<;>(intros;omega),(B0q.alloc L0q _).drew⟩)
theorem z9w(T:zA)(a b c d p:Int)(o:Option Addr)(n r:Nat)(w:World)(t:T.size<=9223372036854775807):
  Calls prog 293 #[.agg #[zI 4,zT T,zU a,zU b,zU c,zU d,.slice o n r,zI p]] w fun e w'=>e=.returned (.bool (okN 4 T a b c d n))/\zB w w':=by
 have y:∀w:World,(Op.equalIn 10000 54 (.agg #[zU a,zU b,zU c,zU d]) (.agg #[zU 0,zU 0,zU 0,zU 0])).run prog w=.ok (zc a b c d) w:=fun w=>Yg 9998 w a b c d 0 0 0 0
 obtain⟨R,h⟩:∃R,R=okN 4 T a b c d n:=⟨_,rfl⟩;rw[<-h];go_enter func293,ntmps293
 go_wp2_with fail
 go_region
 go_wp2_with fail
 all_goals(go_ret;exact⟨by(try rw[h]);unfold okN;simp_all<;>(intros;omega),(B0q.alloc L0q _).drew⟩)
theorem z9x(T:zA)(a b c d p:Int)(o:Option Addr)(n r:Nat)(w:World)(t:T.size<=9223372036854775807):
  Calls prog 293 #[.agg #[zI 5,zT T,zU a,zU b,zU c,zU d,.slice o n r,zI p]] w fun e w'=>e=.returned (.bool (okN 5 T a b c d n))/\zB w w':=by
 have y:∀w:World,(Op.equalIn 10000 54 (.agg #[zU a,zU b,zU c,zU d]) (.agg #[zU 0,zU 0,zU 0,zU 0])).run prog w=.ok (zc a b c d) w:=fun w=>Yg 9998 w a b c d 0 0 0 0
 obtain⟨R,h⟩:∃R,R=okN 5 T a b c d n:=⟨_,rfl⟩;rw[<-h];go_enter func293,ntmps293
 go_wp2_with fail
 go_region
 go_wp2_with(go_at_call 281;refine(z1M T _ t).mono ?_;rintro e A ⟨rfl,rfl⟩)
 all_goals(go_ret;exact⟨by(try rw[h]);unfold okN;simp_all<;>(intros;omega),(B0q.alloc L0q _).drew⟩)
theorem z9y(T:zA)(a b c d p:Int)(o:Option Addr)(n r:Nat)(w:World)(t:T.size<=9223372036854775807):
  Calls prog 293 #[.agg #[zI 6,zT T,zU a,zU b,zU c,zU d,.slice o n r,zI p]] w fun e w'=>e=.returned (.bool (okN 6 T a b c d n))/\zB w w':=by
 have y:∀w:World,(Op.equalIn 10000 54 (.agg #[zU a,zU b,zU c,zU d]) (.agg #[zU 0,zU 0,zU 0,zU 0])).run prog w=.ok (zc a b c d) w:=fun w=>Yg 9998 w a b c d 0 0 0 0
 obtain⟨R,h⟩:∃R,R=okN 6 T a b c d n:=⟨_,rfl⟩;rw[<-h];go_enter func293,ntmps293
 go_wp2_with fail
 go_region
 go_wp2_with fail
 all_goals(go_ret;exact⟨by(try rw[h]);unfold okN;simp_all<;>(intros;omega),(B0q.alloc L0q _).drew⟩)
theorem z9z(T:zA)(a b c d p:Int)(o:Option Addr)(n r:Nat)(w:World)(t:T.size<=9223372036854775807):
  Calls prog 293 #[.agg #[zI 7,zT T,zU a,zU b,zU c,zU d,.slice o n r,zI p]] w fun e w'=>e=.returned (.bool (okN 7 T a b c d n))/\zB w w':=by
 have y:∀w:World,(Op.equalIn 10000 54 (.agg #[zU a,zU b,zU c,zU d]) (.agg #[zU 0,zU 0,zU 0,zU 0])).run prog w=.ok (zc a b c d) w:=fun w=>Yg 9998 w a b c d 0 0 0 0
 obtain⟨R,h⟩:∃R,R=okN 7 T a b c d n:=⟨_,rfl⟩;rw[<-h];go_enter func293,ntmps293
 go_wp2_with fail
 go_region
 go_wp2_with fail
 all_goals(go_ret;exact⟨by(try rw[h]);unfold okN;simp_all<;>(intros;omega),(B0q.alloc L0q _).drew⟩)
theorem z9A(T:zA)(a b c d p:Int)(o:Option Addr)(n r:Nat)(w:World)(t:T.size<=9223372036854775807):
  Calls prog 293 #[.agg #[zI 8,zT T,zU a,zU b,zU c,zU d,.slice o n r,zI p]] w fun e w'=>e=.returned (.bool (okN 8 T a b c d n))/\zB w w':=by
 have y:∀w:World,(Op.equalIn 10000 54 (.agg #[zU a,zU b,zU c,zU d]) (.agg #[zU 0,zU 0,zU 0,zU 0])).run prog w=.ok (zc a b c d) w:=fun w=>Yg 9998 w a b c d 0 0 0 0
 obtain⟨R,h⟩:∃R,R=okN 8 T a b c d n:=⟨_,rfl⟩;rw[<-h];go_enter func293,ntmps293
 go_wp2_with fail
 go_region
 go_wp2_with fail
 all_goals(go_ret;exact⟨by(try rw[h]);unfold okN;simp_all<;>(intros;omega),(B0q.alloc L0q _).drew⟩)
theorem z9B(T:zA)(a b c d p:Int)(o:Option Addr)(n r:Nat)(w:World)(t:T.size<=9223372036854775807):
  Calls prog 293 #[.agg #[zI 9,zT T,zU a,zU b,zU c,zU d,.slice o n r,zI p]] w fun e w'=>e=.returned (.bool (okN 9 T a b c d n))/\zB w w':=by
 have y:∀w:World,(Op.equalIn 10000 54 (.agg #[zU a,zU b,zU c,zU d]) (.agg #[zU 0,zU 0,zU 0,zU 0])).run prog w=.ok (zc a b c d) w:=fun w=>Yg 9998 w a b c d 0 0 0 0
 obtain⟨R,h⟩:∃R,R=okN 9 T a b c d n:=⟨_,rfl⟩;rw[<-h];go_enter func293,ntmps293
 go_wp2_with fail
 go_region
 go_wp2_with fail
 all_goals(go_ret;exact⟨by(try rw[h]);unfold okN;simp_all<;>(intros;omega),(B0q.alloc L0q _).drew⟩)
theorem z9C(T:zA)(a b c d p:Int)(o:Option Addr)(n r:Nat)(w:World)(t:T.size<=9223372036854775807):
  Calls prog 293 #[.agg #[zI 10,zT T,zU a,zU b,zU c,zU d,.slice o n r,zI p]] w fun e w'=>e=.returned (.bool (okN 10 T a b c d n))/\zB w w':=by
 have y:∀w:World,(Op.equalIn 10000 54 (.agg #[zU a,zU b,zU c,zU d]) (.agg #[zU 0,zU 0,zU 0,zU 0])).run prog w=.ok (zc a b c d) w:=fun w=>Yg 9998 w a b c d 0 0 0 0
 obtain⟨R,h⟩:∃R,R=okN 10 T a b c d n:=⟨_,rfl⟩;rw[<-h];go_enter func293,ntmps293
 go_wp2_with fail
 go_region
 go_wp2_with fail
 all_goals(go_ret;exact⟨by(try rw[h]);unfold okN;simp_all<;>(intros;omega),(B0q.alloc L0q _).drew⟩)
theorem z9D(T:zA)(a b c d p:Int)(o:Option Addr)(n r:Nat)(w:World)(t:T.size<=9223372036854775807):
  Calls prog 293 #[.agg #[zI 11,zT T,zU a,zU b,zU c,zU d,.slice o n r,zI p]] w fun e w'=>e=.returned (.bool (okN 11 T a b c d n))/\zB w w':=by
 have y:∀w:World,(Op.equalIn 10000 54 (.agg #[zU a,zU b,zU c,zU d]) (.agg #[zU 0,zU 0,zU 0,zU 0])).run prog w=.ok (zc a b c d) w:=fun w=>Yg 9998 w a b c d 0 0 0 0
 obtain⟨R,h⟩:∃R,R=okN 11 T a b c d n:=⟨_,rfl⟩;rw[<-h];go_enter func293,ntmps293
 go_wp2_with fail
 go_region
 go_wp2_with fail
 all_goals(go_ret;exact⟨by(try rw[h]);unfold okN;simp_all<;>(intros;omega),(B0q.alloc L0q _).drew⟩)
theorem z9E(T:zA)(a b c d p:Int)(o:Option Addr)(n r:Nat)(w:World)(t:T.size<=9223372036854775807):
  Calls prog 293 #[.agg #[zI 12,zT T,zU a,zU b,zU c,zU d,.slice o n r,zI p]] w fun e w'=>e=.returned (.bool (okN 12 T a b c d n))/\zB w w':=by
 have y:∀w:World,(Op.equalIn 10000 54 (.agg #[zU a,zU b,zU c,zU d]) (.agg #[zU 0,zU 0,zU 0,zU 0])).run prog w=.ok (zc a b c d) w:=fun w=>Yg 9998 w a b c d 0 0 0 0
 obtain⟨R,h⟩:∃R,R=okN 12 T a b c d n:=⟨_,rfl⟩;rw[<-h];go_enter func293,ntmps293
 go_wp2_with fail
 go_region
 go_wp2_with fail
 all_goals(go_ret;exact⟨by(try rw[h]);unfold okN;simp_all<;>(intros;omega),(B0q.alloc L0q _).drew⟩)
theorem z9F(k:Int)(T:zA)(a b c d p:Int)(o:Option Addr)(n r:Nat)(w:World)(t:k<1∨12<k)(y:T.size<=9223372036854775807):
  Calls prog 293 #[.agg #[zI k,zT T,zU a,zU b,zU c,zU d,.slice o n r,zI p]] w fun e w'=>e=.returned (.bool (okN k T a b c d n))/\zB w w':=by
 have A:∀w:World,(Op.equalIn 10000 54 (.agg #[zU a,zU b,zU c,zU d]) (.agg #[zU 0,zU 0,zU 0,zU 0])).run prog w=.ok (zc a b c d) w:=fun w=>Yg 9998 w a b c d 0 0 0 0
 obtain⟨R,h⟩:∃R,R=okN k T a b c d n:=⟨_,rfl⟩;rw[<-h];have D:(k == 1)=false:=by simp;omega
 have E:(k == 2)=false:=by simp;omega
 have G:(k == 3)=false:=by simp;omega
 have I:(k == 4)=false:=by simp;omega
 have U:(k == 5)=false:=by simp;omega
 have V:(k == 6)=false:=by simp;omega
 have Y:(k == 7)=false:=by simp;omega
 have Z:(k == 8)=false:=by simp;omega
 have q9:(k == 9)=false:=by simp;omega
 have aa:(k == 10)=false:=by simp;omega
 have ab:(k == 11)=false:=by simp;omega
 have ac:(k == 12)=false:=by simp;omega
 go_enter func293,ntmps293
 go_wp2_with fail
 go_region
 go_wp2_with fail
 all_goals(go_ret;exact⟨by rw[h];unfold okN;rw[if_neg (by omega),if_neg (by omega),if_neg (by omega),if_neg (by omega),if_neg (by omega),if_neg (by omega)];rfl,(B0q.alloc L0q _).drew⟩)
theorem z1N(k:Int)(T:zA)(a b c d p:Int)(o:Option Addr)(n r:Nat)(w:World)(t:T.size<=9223372036854775807):
  Calls prog 293 #[.agg #[zI k,zT T,zU a,zU b,zU c,zU d,.slice o n r,zI p]] w fun e w'=>e=.returned (.bool (okN k T a b c d n))/\zB w w':=by
 by_cases hk:k<1∨12<k
 ·exact z9F k T a b c d p o n r w hk t
 have h:k=1∨k=2∨k=3∨k=4∨k=5∨k=6∨k=7∨k=8∨k=9∨k=10∨k=11∨k=12:=by omega
 rcases h with rfl|rfl|rfl|rfl|rfl|rfl|rfl|rfl|rfl|rfl|rfl|rfl
 ·exact z9t T a b c d p o n r w t
 ·exact z9u T a b c d p o n r w t
 ·exact z9v T a b c d p o n r w t
 ·exact z9w T a b c d p o n r w t
 ·exact z9x T a b c d p o n r w t
 ·exact z9y T a b c d p o n r w t
 ·exact z9z T a b c d p o n r w t
 ·exact z9A T a b c d p o n r w t
 ·exact z9B T a b c d p o n r w t
 ·exact z9C T a b c d p o n r w t
 ·exact z9D T a b c d p o n r w t
 ·exact z9E T a b c d p o n r w t
inductive RT where
 |mk (k:Int) (T:ByteArray) (a b c d:Int) (subs:List RT) (p:Int)
@[reducible] def r8 (k:Int) (T:zA) (a b c d:Int) (so:Option Addr) (n cap:Nat) (p:Int):List Value:=
  [zI k,zT T,zU a,zU b,zU c,zU d,.slice so n cap,zI p]
mutual
def Qy(w:World)(B:Nat):RT->List Value->Prop
 | .mk k T a b c d s p,cs=>∃so cap,cs=r8 k T a b c d so (Qv s) cap p/\(s.isEmpty=true∨(s.isEmpty=false/\∃g o,so=some ⟨g,o,none⟩/\g<B/\Qv s<=maxLen/\Zq w B g o s))
def Zq(w:World)(B g:Nat):Nat->List RT->Prop
 |_,[]=>True
 |o,t::r=>(∃cs,Qy w B t cs/\∀j u,cs[j]? =some u->w.cell? ⟨g,o+j,none⟩=some u)/\Zq w B g (o+8) r
def Qv:List RT->Nat
 |[]=>0
 |_::r=>Qv r+1
end
theorem Zm:∀l:List RT,Qv l=l.length
 |[]=>rfl
 |_::r=>by rw[Qv,Zm r];rfl
mutual
def RtZ:RT->Prop
 | .mk _ T _ _ _ _ s _=>T.size<=9223372036854775807/\Xg s
def Xg:List RT->Prop
 |[]=>True
 |t::r=>RtZ t/\Xg r
end
mutual
def okT:RT->Bool
 | .mk k T a b c d s p=>okN k T a b c d (Qv s)&&okL s
def okL:List RT->Bool
 |[]=>true
 |t::r=>okT t&&okL r
end
mutual
theorem Qy.kept{w w':World}{B:Nat}(h:∀g o u,g<B->zC w g o u->zC w' g o u):∀(t:RT) (y:List Value),Qy w B t y->Qy w' B t y
 | .mk k T a b c d s p,y,r=>by
   rw[Qy]at r ⊢;obtain⟨E,G,rfl,r⟩:=r;refine⟨E,G,rfl,?_⟩;rcases r with A|⟨A,g,o,I,D,U,V⟩
   ·exact .inl A
   ·exact .inr ⟨A,g,o,I,D,U,Zq.kept h D s o V⟩
theorem Zq.kept{w w':World}{B g:Nat}(h:∀g o u,g<B->zC w g o u->zC w' g o u)(y:g<B):∀(s:List RT) (o:Nat),Zq w B g o s->Zq w' B g o s
 |[],o,_=>by rw[Zq];trivial
 |t::r,o,ht=>by
  rw[Zq]at ht ⊢;obtain⟨⟨A,D,E⟩,G⟩:=ht;exact⟨⟨A,Qy.kept h t A D,fun j u I=>h g _ u y (E j u I)⟩,Zq.kept h y r _ G⟩
end
theorem Qy.below{w w':World}{B:Nat}{t:RT}{r:List Value}(h:Qy w B t r)(y:Below B w w'):Qy w' B t r:=h.kept (fun g o u A D=>(y.cell (p:=⟨g,o,none⟩) A).trans D) t r
theorem Qy.shape{w:World}{B:Nat}{t:RT}{o:List Value}(h:Qy w B t o):∃k T a b c d r n y p,o=r8 k T a b c d r n y p:=by
 cases t;rw[Qy]at h;obtain⟨r,y,rfl,_⟩:=h;exact⟨_,_,_,_,_,_,_,_,_,_,rfl⟩
def Rc(w:World)(g o:Nat)(k:Int)(T:zA)(a b c d:Int)(sv:Value)(p:Int):Prop:=w.cell? ⟨g,o,none⟩=some (zI k)/\w.cell? ⟨g,o+1,none⟩=some (zT T)/\w.cell? ⟨g,o+2,none⟩=some (zU a)/\w.cell? ⟨g,o+3,none⟩=some (zU b)/\w.cell? ⟨g,o+4,none⟩=some (zU c)/\w.cell? ⟨g,o+5,none⟩=some (zU d)/\w.cell? ⟨g,o+6,none⟩=some sv/\w.cell? ⟨g,o+7,none⟩=some (zI p)
theorem Mk{w:World}{B g:Nat}:∀{s:List RT} {o:Nat},Zq w B g o s->∀(k:Nat) (E:k<s.length),∃kd T a b c d A n D p,Qy w B s[k] (r8 kd T a b c d A n D p)/\Rc w g (o+k*8) kd T a b c d (.slice A n D) p
 |[],o,h,k,E=>by simp at E
 |t::r,o,h,0,E=>by
  rw[Zq]at h;obtain⟨⟨I,G,y⟩,_⟩:=h;obtain⟨kd,T,a,b,c,d,A,n,D,p,rfl⟩:=G.shape;refine⟨kd,T,a,b,c,d,A,n,D,p,G,?_⟩;rw[Nat.zero_mul,Nat.add_zero];exact⟨y 0 _ rfl,y 1 _ rfl,y 2 _ rfl,y 3 _ rfl,y 4 _ rfl,y 5 _ rfl,y 6 _ rfl,y 7 _ rfl⟩
 |t::r,o,h,k+1,E=>by
  rw[Zq]at h;obtain⟨kd,T,a,b,c,d,A,n,D,p,G,y⟩:=Mk h.2 k (by simpa using E);refine⟨kd,T,a,b,c,d,A,n,D,p,G,?_⟩;rw[show o+(k+1)*8=o+8+k*8 by omega];exact y
theorem Rc.below{w W:World}{B g o:Nat}{k a b c d p:Int}{T:zA}{sv:Value}(h:Rc w g o k T a b c d sv p)(r:Below B w W)(t:g<B):Rc W g o k T a b c d sv p:=by
 obtain⟨y,A,D,E,G,I,U,V⟩:=h;have e:∀j,W.cell? ⟨g,j,none⟩=w.cell? ⟨g,j,none⟩:=fun j=>r.cell (p:=⟨g,j,none⟩) t
 exact⟨(e _).trans y,(e _).trans A,(e _).trans D,(e _).trans E,(e _).trans G,(e _).trans I,(e _).trans U,(e _).trans V⟩
theorem Ew:∀{s:List RT},okL s=true->∀(j:Nat) (o:j<s.length),okT s[j]=true
 |[],_,j,o=>by simp at o
 |t::r,h,0,_=>by rw[okL,Bool.and_eq_true]at h;exact h.1
 |t::r,h,j+1,o=>by rw[okL,Bool.and_eq_true]at h;exact Ew h.2 j (by simpa using o)
theorem z1O:∀{s:List RT} (j:Nat) (o:j<s.length),okT s[j]=false->okL s=false
 |[],j,o,_=>by simp at o
 |t::r,0,_,h=>by rw[okL,show okT t=false from h];rfl
 |t::r,j+1,o,h=>by rw[okL,z1O j (by simpa using o) h,Bool.and_false]
theorem z1P:∀{s:List RT},(∀(j:Nat) (o:j<s.length),okT s[j]=true)->okL s=true
 |[],_=>by rw[okL]
 |t::r,h=>by rw[okL,show okT t=true from h 0 (by simp),z1P (s:=r) (fun j o=>h (j+1) (by simpa using o))];rfl
theorem Xg.get:∀{s:List RT},Xg s->∀(j:Nat) (o:j<s.length),RtZ s[j]
 |[],_,j,o=>by simp at o
 |t::r,h,0,_=>by rw[Xg]at h;exact h.1
 |t::r,h,j+1,o=>by rw[Xg]at h;exact Xg.get h.2 j (by simpa using o)
theorem z9G{w:World}{g:Nat}{r a1 a2 a3 a4 t o y:Value}(h:zH w g (.cells #[r,a1,a2,a3,a4,t,o,y] 81)):zC w g 6 o:=(Qg h).1.2.2.2.2.2.2.1
theorem z9H(k:Int)(T:zA)(a b c d p:Int)(h:Option Addr)(n o:Nat)(w:World)(t:T.size<=9223372036854775807)(y:okN k T a b c d n=false):
  Calls prog 282 #[.agg (r8 k T a b c d h n o p).toArray] w fun e w'=>e=.returned (.bool false)/\zB w w':=by
 have r:=hid (fun w:World=>z1N k T a b c d p h n o w t);rw[y]at r;go_enter func282,ntmps282
 go_wp2_with(first|(go_at_call 293;refine(r.out _).mono ?_;rintro e D ⟨rfl,A⟩))
 go_ret;exact⟨rfl,((Below.refl _ w).alloc L0q _).trans (A.mono (by simp))⟩
theorem z1Q(k:Int)(T:zA)(a b c d p:Int)(t:Option Addr)(n D:Nat)(s:List RT)(w:World)(hT:T.size<=9223372036854775807)(hk:okN k T a b c d n=true)(hn:n<=9223372036854775807)(HN:Hid (n=s.length))
  (G:Hid (∀j (hj:j<s.length),∃g o,t=some ⟨g,o,none⟩/\g<w.heap.size/\∃I U a1 V c1 Y Z n1 aa p1,Rc w g (o+j*8) I U a1 V c1 Y (.slice Z n1 aa) p1/\
    ∀W:World,zB w W->Calls prog 282 #[.agg (r8 I U a1 V c1 Y Z n1 aa p1).toArray] W (zR W (.bool (okT s[j]))))):
  Calls prog 282 #[.agg (r8 k T a b c d t n D p).toArray] w fun e w'=>e=.returned (.bool (okL s))/\zB w w':=by
 have HI:=hid (fun w:World=>z1N k T a b c d p t n D w hT);rw[hk]at HI;obtain⟨R,hR⟩:∃R,R=okL s:=⟨_,rfl⟩;have HR:=hid hR;rw[<-hR];clear hR hk hT;obtain⟨y,A⟩:∃y,y=w.alloc (.cells #[zI k,zT T,zU a,zU b,zU c,zU d,.slice t n D,zI p] 81):=⟨_,rfl⟩;have ab:Hid (zB w y):=by rw[A];exact(Below.refl _ w).alloc L0q _
 have ae:Hid (y.heap[w.heap.size]? =some (.cells #[zI k,zT T,zU a,zU b,zU c,zU d,.slice t n D,zI p] 81)):=by rw[A];exact Qx w _ rfl
 have af:Hid (y.heap.size=w.heap.size+1):=by rw[A];exact World.size_alloc _ _
 have ag:=hid A;clear A;dsimp only[r8];go_enter func282,ntmps282
 go_wp2_with(first|(go_at_call 293;rw[<-ag.out];refine(HI.out _).mono ?_;rintro e wq ⟨rfl,ac⟩;have c6:=z9G ((ac.block _ (by rw[af.out];exact Nat.lt_succ_self _)).trans ae.out)))
 have ah:Hid (zB w wq):=ab.out.trans (ac.mono ab.out.size);clear ac c6 ab ae af ag HI
 go_loopw [11] (fun i wr=>∃j:Nat,i=zI (j:Int)/\j<=n/\Hid (zB w wr)/\Hid (∀i (E:i<s.length),i<j->okT s[i]=true)) (fun i _=>n-(intOf i).toNat)
 case atStart=>exact⟨0,rfl,Nat.zero_le _,ah,fun i _ h=>absurd h (by omega)⟩
 case round=>
  obtain⟨j,rfl,hj,r,HO⟩:=hrel;clear ah;by_cases hjn:j<n
  ·have ak:(j:Int)<(n:Int):=by omega
   have a0:decide ((j:Int)<(n:Int))=true:=by simp;omega
   have ai:j<s.length:=by rw[<-HN.out];exact hjn
   obtain⟨g,o,rfl,hg,I,U,a1,V,c1,Y,Z,n1,aa,p1,rc,hc⟩:=G.out j ai;obtain⟨z0,z1,z2,z3,z4,z5,z6,z7⟩:=rc.below r.out hg;have HG:=hid (fun W (hb:zB wr W)=>hc W (r.out.trans (hb.mono r.out.size)));obtain⟨Q,hQ⟩:∃Q,Q=okT s[j]:=⟨_,rfl⟩;rw[<-hQ]at HG;have HQ:=hid hQ;clear hc rc hQ G;dsimp only[r8]at HG
   go_wp2_with(first|(go_at_call 282;refine(HG.out _ ?hh).mono ?_;(case hh=>exact B0q.alloc L0q _);rintro e wz ⟨rfl,aj⟩))
   ·rename_i hq
    have ad:=r.out.trans ((((Below.refl _ wr).alloc L0q _).trans (aj.mono (by simp))).mono r.out.size);go_ret;refine⟨?_,ad⟩;rw[HR.out,z1O j ai (by rw[<-HQ.out];simpa using hq)];rfl
   ·rename_i hq
    have ad:=r.out.trans ((((Below.refl _ wr).alloc L0q _).trans (aj.mono (by simp))).mono r.out.size);refine⟨⟨j+1,by go_num,by omega,ad,fun i E al=> ?_⟩,?_⟩
    ·rcases Nat.lt_or_ge i j with h1|h1
     ·exact HO.out i E h1
     ·obtain rfl:i=j:=by omega
      rw[<-HQ.out];simpa using hq
    ·simp[intOf];omega
  ·have a0:decide ((j:Int)<(n:Int))=false:=by simp;omega
   clear G
   go_wp2_with fail
   go_ret;refine⟨?_,r.out⟩;rw[HR.out,z1P fun i E=>HO.out i E (by have:=HN.out;omega)];rfl
theorem z1R:∀(N:Nat) (t:RT) (A:List Value) (B:Nat) (w:World),SizeOf.sizeOf t<N->RtZ t->Qy w B t A->B<=w.heap.size->
  Calls prog 282 #[.agg A.toArray] w (zR w (.bool (okT t)))
 |0,t,_,_,_,h,_,_,_=>by omega
 |N+1,.mk k T a b c d s p,A,B,w,hN,hz,y,hB=>by
  rw[RtZ]at hz;rw[Qy]at y;obtain⟨E,D,rfl,y⟩:=y;rw[okT];cases hk:okN k T a b c d (Qv s)with
  |false=>exact z9H k T a b c d p E (Qv s) D w hz.1 hk
  |true=>
   rw[Bool.true_and];rcases y with G|⟨G,g,o,rfl,hg,U,V⟩
   ·have Y:s=[]:=by simpa using G
    subst Y;exact z1Q k T a b c d p E _ D [] w hz.1 hk (by rw[Qv];omega) (hid (by rw[Qv];rfl)) (hid (fun j r=>by simp at r))
   ·refine z1Q k T a b c d p _ _ D s w hz.1 hk (by unfold maxLen at U;omega) (hid (Zm s)) (hid (fun j r=> ?_))
    obtain⟨Z,T1,a1,b1,c1,d1,aa,n1,ab,p1,r1,r2⟩:=Mk V j r;refine⟨g,o,rfl,by omega,Z,T1,a1,b1,c1,d1,aa,n1,ab,p1,r2,fun W I=> ?_⟩;have ac:=List.sizeOf_lt_of_mem (List.getElem_mem r);simp only[RT.mk.sizeOf_spec]at hN;exact z1R N s[j] _ B W (by omega) (hz.2.get j r) (r1.below (I.mono hB)) (Nat.le_trans hB I.size)
theorem z9I(t:RT)(o:List Value)(B:Nat)(w:World)(r:RtZ t)(h:Qy w B t o)(y:B<=w.heap.size):
 Calls prog 282 #[.agg o.toArray] w fun e w'=>e=.returned (.bool (okT t))/\zB w w':=z1R _ t o B w (Nat.lt_succ_self _) r h y
abbrev Rr:=ByteArray×RT×Int
def Rk(w:World)(B g o:Nat)(x:Rr):Prop:=∃k T a b c d so n cap p,Qy w B x.2.1 (r8 k T a b c d so n cap p)/\w.cell? ⟨g,o,none⟩=some (zT x.1)/\w.cell? ⟨g,o+1,none⟩=some (zI k)/\w.cell? ⟨g,o+2,none⟩=some (zT T)/\w.cell? ⟨g,o+3,none⟩=some (zU a)/\w.cell? ⟨g,o+4,none⟩=some (zU b)/\w.cell? ⟨g,o+5,none⟩=some (zU c)/\w.cell? ⟨g,o+6,none⟩=some (zU d)/\w.cell? ⟨g,o+7,none⟩=some (.slice so n cap)/\w.cell? ⟨g,o+8,none⟩=some (zI p)/\w.cell? ⟨g,o+9,none⟩=some (zI x.2.2)
def Qb(w:World)(B:Nat)(so:Option Addr)(n:Nat)(rs:List Rr):Prop:=n=rs.length/\n<=maxLen/\∀j (hj:j<rs.length),∃g o,so=some ⟨g,o,none⟩/\g<B/\Rk w B g (o+j*10) rs[j]
theorem Rk.below{w w':World}{B g o:Nat}{x:Rr}(h:Rk w B g o x)(r:Below B w w')(t:g<B):Rk w' B g o x:=by
 obtain⟨k,T,a,b,c,d,y,n,A,p,D,E,G,I,U,V,Y,Z,z7,z8,z9⟩:=h;have e:∀j,w'.cell? ⟨g,j,none⟩=w.cell? ⟨g,j,none⟩:=fun j=>r.cell (p:=⟨g,j,none⟩) t
 exact⟨k,T,a,b,c,d,y,n,A,p,D.below r,(e _).trans E,(e _).trans G,(e _).trans I,(e _).trans U,(e _).trans V,(e _).trans Y,(e _).trans Z,(e _).trans z7,(e _).trans z8,(e _).trans z9⟩
theorem Qb.below{w w':World}{B n:Nat}{r:Option Addr}{rs:List Rr}(h:Qb w B r n rs)(y:Below B w w'):Qb w' B r n rs:=
 ⟨h.1,h.2.1,fun j A=>by
   obtain⟨g,o,D,t,E⟩:=h.2.2 j A;exact⟨g,o,D,t,E.below y t⟩⟩
def RgZ(rs:List Rr):Prop:=∀x∈rs,x.1.size<=9223372036854775807/\RtZ x.2.1
def okR(x:Rr):Bool:=nmS x.1&&okT x.2.1
def okG(rs:List Rr):Bool:=decide (1<=rs.length)&&(decide (rs.length<=64)&&rs.all okR)
theorem z1S{rs:List Rr}(j:Nat)(o:j<rs.length)(h:okR rs[j]=false):rs.all okR=false:=by
 rw[List.all_eq_false];exact⟨_,List.getElem_mem o,by rw[h];simp⟩
theorem z9J{rs:List Rr}(h:∀j (o:j<rs.length),okR rs[j]=true):rs.all okR=true:=by
 rw[List.all_eq_true];intro x hx;obtain⟨j,o,rfl⟩:=List.mem_iff_getElem.1 hx;exact h j o
theorem z1T(U:Option Addr)(n ad:Nat)(rs:List Rr)(B:Nat)(w:World)(hz:RgZ rs)(h:Qb w B U n rs)(D:B<=w.heap.size):
  Calls prog 263 #[.agg #[.slice U n ad]] w fun e w'=>e=.returned (.bool (okG rs))/\zB w w':=by
 obtain⟨R,V⟩:∃R,R=okG rs:=⟨_,rfl⟩;have E:=hid V;rw[<-V];clear V;have t:Hid (n=rs.length):=h.1;have hm:n<=9223372036854775807:=by have:=h.2.1;unfold maxLen at this;omega
 have y:=hid h;have Y:=hid hz;clear h hz;by_cases h0:n=0
 ·have q0:((n:Int) == 0)=true:=by simp;omega
  clear y;go_enter func263,ntmps263
  go_wp2_with fail
  go_ret;refine⟨?_,B0q.alloc L0q _⟩;rw[E.out];unfold okG;rw[decide_eq_false (by have:=t.out;omega)];rfl
 have q0:((n:Int) == 0)=false:=by simp;omega
 by_cases Z:64<n
 ·have q1:(64:Int)<(n:Int):=by omega
  have q2:decide ((64:Int)<(n:Int))=true:=by simp;omega
  clear y;go_enter func263,ntmps263
  go_wp2_with fail
  go_ret;refine⟨?_,B0q.alloc L0q _⟩;rw[E.out];unfold okG;rw[decide_eq_false (p:=rs.length<=64) (by have:=t.out;omega),Bool.false_and,Bool.and_false];rfl
 have q1:¬(64:Int)<(n:Int):=by omega
 have q2:decide ((64:Int)<(n:Int))=false:=by simp;omega
 have aa:Hid (R=rs.all okR):=by
  refine E.out.trans ?_;unfold okG;rw[decide_eq_true (by have:=t.out;omega),decide_eq_true (p:=rs.length<=64) (by have:=t.out;omega)];rfl
 clear E;have ae:Hid (zB w (w.alloc (.cells #[.slice U n ad] 43))):=(Below.refl _ w).alloc L0q _;go_enter func263,ntmps263
 go_wp2_with fail
 go_loopw [18] (fun i wr=>∃j:Nat,i=zI (j:Int)/\j<=n/\Hid (zB w wr)/\Hid (∀i (G:i<rs.length),i<j->okR rs[i]=true)) (fun i _=>n-(intOf i).toNat)
 case atStart=>exact⟨0,rfl,Nat.zero_le _,ae,fun i _ h=>absurd h (by omega)⟩
 case round=>
  obtain⟨j,rfl,hj,r,HO⟩:=hrel;clear ae;by_cases hjn:j<n
  ·have al:(j:Int)<(n:Int):=by omega
   have a0:decide ((j:Int)<(n:Int))=true:=by simp;omega
   have I:j<rs.length:=by rw[<-t.out];exact hjn
   have af:=hid (y.out.below (r.out.mono D));obtain⟨g,o,rfl,hg,k1,T1,a1,b1,c1,d1,am,n1,ao,p1,rt,z0,z1,z2,z3,z4,z5,z6,z7,z8,z9⟩:=af.out.2.2 j I;obtain⟨zn,zt⟩:=Y.out rs[j] (List.getElem_mem I);have HE:=hid (fun W (hb:zB wr W)=>z9I rs[j].2.1 _ B W zt (rt.below (hb.mono (Nat.le_trans D r.out.size))) (Nat.le_trans (Nat.le_trans D r.out.size) hb.size));have HM:=hid (fun W=>z1M rs[j].1 W zn);obtain⟨Q,hQ⟩:∃Q,Q=okT rs[j].2.1:=⟨_,rfl⟩;obtain⟨M,hM⟩:∃M,M=nmS rs[j].1:=⟨_,rfl⟩;have HQ:Hid (okR rs[j]=(M&&Q)):=by show(nmS rs[j].1&&okT rs[j].2.1)=_;rw[hQ,hM]
   obtain⟨N0,ab⟩:∃N0,N0=rs[j].1:=⟨_,rfl⟩;obtain⟨p0,ag⟩:∃p0,p0=rs[j].2.2:=⟨_,rfl⟩;rw[<-hQ]at HE;rw[<-hM,<-ab]at HM;rw[<-ab]at z0;rw[<-ag]at z9;have ap:g<wr.heap.size:=Nat.lt_of_lt_of_le hg (Nat.le_trans D r.out.size);clear rt hQ hM ab ag y af Y zn zt;dsimp only[r8]at HE
   go_wp2_with(first|(go_at_call 281;refine(HM.out _).mono ?_;rintro e wz ⟨rfl,rfl⟩)|(go_at_call 282;refine(HE.out _ ?hh).mono ?_;(case hh=>exact B0q.alloc L0q _);rintro e wy ⟨rfl,ah⟩))
   ·rename_i A
    have ac:=r.out.trans ((((Below.refl _ wr).alloc L0q _).trans (ah.mono (by simp))).mono r.out.size);have ai:Q=false:=by simpa using A
    go_ret;refine⟨?_,ac⟩;rw[aa.out,z1S j I (by rw[HQ.out,ai,Bool.and_false])];rfl
   ·rename_i aq ar A
    have ac:=r.out.trans ((((Below.refl _ wr).alloc L0q _).trans (ah.mono (by simp))).mono r.out.size);have aj:Q=true:=by simpa using A
    refine⟨⟨j+1,by go_num,by omega,ac,fun i G au=> ?_⟩,?_⟩
    ·rcases Nat.lt_or_ge i j with Z|Z
     ·exact HO.out i G Z
     ·obtain rfl:i=j:=by omega
      rw[HQ.out,aj]
      first|rfl|(simp_all)
    ·simp[intOf];omega
   ·rename_i A
    have ak:M=false:=by simpa using A
    go_ret;refine⟨?_,r.out.trans (((Below.refl _ wr).alloc L0q _).mono r.out.size)⟩;rw[aa.out,z1S j I (by rw[HQ.out,ak,Bool.false_and])];rfl
  ·have a0:decide ((j:Int)<(n:Int))=false:=by simp;omega
   clear y Y
   go_wp2_with fail
   go_ret;refine⟨?_,r.out⟩;rw[aa.out,z9J fun i G=>HO.out i G (by have:=t.out;omega)];rfl
section
attribute [local go_sem] Oper.semAt_some
structure Nq where
 k:Int
 T:zA
 a:Int
 b:Int
 c:Int
 d:Int
 so:Option Addr
 n:Nat
 cap:Nat
 p:Int
 z:T.size<=9223372036854775807
@[reducible] def Nq.v (x:Nq):Value:=.agg #[zI x.k,zT x.T,zU x.a,zU x.b,zU x.c,zU x.d,.slice x.so x.n x.cap,zI x.p]
def Nq.tp(x:Nq):zA×Int:=(x.T,x.p)
def tps(q:List Nq):List (ByteArray×Int):=q.map Nq.tp
theorem Pd(a b:List Nq):tps (a++b)=tps a++tps b:=List.map_append
theorem z9K(a:List Nq):(tps a).length=a.length:=List.length_map _
mutual
def rfT:RT->List (ByteArray×Int)
 | .mk k T _ _ _ _ s p=>if k=5 then [(T,p)]else rfL s
def rfL:List RT->List (ByteArray×Int)
 |[]=>[]
 |t::r=>rfT t++rfL r
end
theorem Pp:∀(a b:List RT),rfL (a++b)=rfL a++rfL b
 |[],b=>by rw[List.nil_append,rfL,List.nil_append]
 |x::r,b=>by rw[List.cons_append,rfL,rfL,Pp r b,List.append_assoc]
theorem z9L(s:List RT)(j:Nat)(h:j<s.length):rfL (s.take (j+1))=rfL (s.take j)++rfT s[j]:=by
 rw[show s.take (j+1)=s.take j++[s[j]] by simp,Pp,rfL,rfL,List.append_nil]
theorem z9M(s:List RT)(j:Nat):∃r,rfL s=rfL (s.take j)++r:=by
 refine⟨rfL (s.drop j),?_⟩;rw[<-Pp,List.take_append_drop]
structure Yr (s0 l N:Nat) (J Jx:List Nq->World->Prop):Prop where
 grow:∀s A B,J s A->A.grownBy B none->J s B
 call:∀m pre (x:Nq) W,J pre W->pre.length<N->YieldAt Fence.wide m prog l #[x.v] W fun e W'=>
  (e=.returned (.bool true)/\J (pre++[x]) W'/\Kt s0 W W')∨(e=.returned (.bool false)/\Jx (pre++[x]) W')
def Yq(s0:Nat)(J Jx:List Nq->World->Prop)(pre:List Nq)(ps:List (ByteArray×Int))(W:World)(e:Ending)(W':World):Prop:=
 (e=.returned (.bool true)/\(∃q,tps q=ps/\J (pre++q) W')/\Kt s0 W W')∨(e=.returned (.bool false)/\∃q,tps q<+:ps/\Jx (pre++q) W')
def YR(s0 l N:Nat)(J Jx:List Nq->World->Prop)(t:RT):Prop:=
 ∀(m:Nat) (cs:List Value) (pre:List Nq) (W:World),Qy W s0 t cs->RtZ t->J pre W->pre.length+(rfT t).length<=N->
  CallsIn Fence.wide m prog 261 #[.agg cs.toArray,.func (.yield l) #[] #[]] W (Yq s0 J Jx pre (rfT t) W)
section
variable {s0 l N:Nat} {J Jx:List Nq->World->Prop}
theorem Yr.alloc(h:Yr s0 l N J Jx){s:List Nq}{A:World}(r:J s A)(o:Obj):J s (A.alloc o):=h.grow s A _ r (World.grownBy_alloc A o none)
theorem z9N(t:Yr s0 l N J Jx)(T:zA)(a b c d p:Int)(s:List RT):YR s0 l N J Jx (.mk 5 T a b c d s p):=by
 intro m cs Y W A D E hl;rw[Qy]at A;obtain⟨h,r,rfl,-⟩:=A;rw[RtZ]at D;have y:=D.1;rw[rfT,if_pos rfl]at hl ⊢;have Z:=Xf;have aa:=hid (fun o:Obj=>Kt.alloc (s0:=s0) W o);obtain⟨n,G⟩:∃n,n=Qv s:=⟨_,rfl⟩;obtain⟨fn,ae,af,Qm,I,U⟩:=t.call (m-1) Y ⟨5,T,a,b,c,d,h,n,r,p,y⟩ (W.alloc (.cells #[zI 5,zT T,zU a,zU b,zU c,zU d,.slice h n r,zI p] 81)) (t.alloc E _) (by simp at hl;omega);have V:=hid U;rw[<-G];clear U t E hl G;dsimp only[Nq.v]at I;refine callsIn_of_wp func261 rfl trivial ?_ rfl;simp only[ntmps261,List.size_toArray,List.length_cons,List.length_nil,Nat.reduceAdd,Nat.reduceSub,Array.replicate_succ,Array.replicate_zero,List.push_toArray,List.append_toArray,List.nil_append,List.cons_append]
 gi_wp2
 refine⟨Z _,V.out.mono ?_⟩;clear V I;rintro e W2 (⟨rfl,ab,ac⟩|⟨rfl,ad⟩)
 ·gi_wp2
  go_ret;exact .inl ⟨rfl,⟨[⟨5,T,a,b,c,d,h,n,r,p,y⟩],rfl,ab⟩,(aa.out _).trans ac⟩
 ·gi_wp2
  go_ret;exact .inr ⟨rfl,[⟨5,T,a,b,c,d,h,n,r,p,y⟩],List.prefix_refl _,ad⟩
theorem z9O(Z:Yr s0 l N J Jx)(k:Int)(hk:k≠5)(T:zA)(a b c d p:Int)(s:List RT)(hN:∀t∈s,YR s0 l N J Jx t):YR s0 l N J Jx (.mk k T a b c d s p):=by
 intro m cs G W ht hz hJ hl;rw[Qy]at ht;obtain⟨so,ae,rfl,aa⟩:=ht;rw[RtZ]at hz;have ar:=hid hz.2;clear hz;rw[rfT,if_neg hk]at hl ⊢;have au:=Xf;have aC:(k == 5)=false:=by simp[hk]
 have aD:decide (k=5)=false:=by simp[hk]
 obtain⟨n,I⟩:∃n,n=s.length:=⟨_,rfl⟩;have HC:Hid (∀j (hj:j<s.length),∃g o,so=some ⟨g,o,none⟩/\g<s0/\Zq W s0 g o s):=fun j hj=>by
  rcases aa with y|⟨_,g,o,h2,h3,_,h5⟩
  ·cases s
   ·simp at hj
   ·simp at y
  ·exact⟨g,o,h2,h3,h5⟩
 have aE:n<=9223372036854775807:=by
  rcases aa with y|⟨_,g,o,_,_,h4,_⟩
  ·cases s
   ·simp at I;omega
   ·simp at y
  ·rw[Zm]at h4
   unfold maxLen at h4;omega
 rw[Zm,<-I];obtain⟨A,D⟩:∃A,A=W.alloc (.cells #[zI k,zT T,zU a,zU b,zU c,zU d,.slice so n ae,zI p] 81):=⟨_,rfl⟩;have af:Hid (Kt s0 W A):=by rw[D];exact Kt.alloc W _
 have av:Hid (A.heap[W.heap.size]? =some (.cells #[zI k,zT T,zU a,zU b,zU c,zU d,.slice so n ae,zI p] 81)):=by rw[D];exact Qx W _ rfl
 have aw:Hid (J G A):=by rw[D];exact Z.alloc hJ _
 have HY:Hid (Yr s0 l N J Jx):=Z;have HN:=hid hN;have ag:Hid (n=s.length):=I;have HL:=hid hl;have ah:=hid D;clear hJ Z hN hl I D aa;refine callsIn_of_wp func261 rfl trivial ?_ rfl;simp only[ntmps261,List.size_toArray,List.length_cons,List.length_nil,Nat.reduceAdd,Nat.reduceSub,Array.replicate_succ,Array.replicate_zero,List.push_toArray,List.append_toArray,List.nil_append,List.cons_append]
 gi_wp2
 rw[<-ah.out];clear ah
 gi_loopw [16] (fun i wr=>∃j:Nat,i=zI (j:Int)/\j<=n/\Hid (∃q,tps q=rfL (s.take j)/\J (G++q) wr)/\Hid (Kt s0 A wr)) (fun i _=>n-(intOf i).toNat)
 case atStart=>exact⟨0,rfl,Nat.zero_le _,⟨[],by rw[List.take_zero,rfL];rfl,by rw[List.append_nil];exact aw.out⟩,hid (Kt.refl _)⟩
 case round=>
  obtain⟨j,rfl,hj,U,V⟩:=hrel;by_cases hjn:j<n
  ·have aF:(j:Int)<(n:Int):=by omega
   have a0:decide ((j:Int)<(n:Int))=true:=by simp;omega
   have E:j<s.length:=by rw[<-ag.out];exact hjn
   obtain⟨⟨c0,c1,c2,c3,c4,c5,c6,c7⟩,_⟩:=Qg (V.out.eight av.out);have ax:Kt s0 W wr:=af.out.trans V.out;obtain⟨g,o,rfl,hg,ai⟩:=HC.out j E;obtain⟨k1,T1,a1,b1,aj,d1,ak,n1,al,p1,am,z0,z1,z2,z3,z4,z5,z6,z7⟩:=Mk (Zq.kept (fun q c u h hu=>ax.cell h hu) hg s o ai) j E;have aG:g<wr.heap.size:=World.block_lt_of_cell? wr _ z0;obtain⟨q,h,Y⟩:=U.out;obtain⟨rr,ab⟩:=z9M s (j+1);have ac:=z9L s j E;have ao:(G++q).length+(rfT s[j]).length<=N:=by
    have y:=HL.out;rw[ab,ac]at y;have h2:=congrArg List.length h;rw[z9K]at h2;simp only[List.length_append]at y ⊢;omega
   have K2:=hid (Kt.alloc (s0:=s0) wr (.cells #[zI k1,zT T1,zU a1,zU b1,zU aj,zU d1,.slice ak n1 al,zI p1] 81));have HS:=hid (HN.out s[j] (List.getElem_mem E) (m-1) _ (G++q) (wr.alloc (.cells #[zI k1,zT T1,zU a1,zU b1,zU aj,zU d1,.slice ak n1 al,zI p1] 81)) (Qy.kept (fun g o u hg hu=>K2.out.cell hg hu) _ _ am) (ar.out.get j E) (HY.out.alloc Y _) ao);have HQ:Hid (tps q=rfL (s.take j)):=h;have ap:=hid ac;have ay:=hid ab;clear Y h ao am ai ab ac U;dsimp only[r8]at HS
   gi_wp2
   refine⟨trivial,au _,HS.out.mono ?_⟩;clear HS z0 z1 z2 z3 z4 z5 z6 z7;rintro e W4 (⟨rfl,⟨q2,ad,az⟩,aA⟩|⟨rfl,q2,ad,aB⟩)
   ·gi_wp2
    go_roundw
    case rel=>exact⟨j+1,by go_num,by omega,hid ⟨q++q2,by rw[Pd,HQ.out,ad,ap.out],by rw[<-List.append_assoc];exact az⟩,hid ((V.out.trans K2.out).trans aA)⟩
    case measure=>simp[intOf];omega
   ·gi_wp2
    go_ret;refine .inr ⟨rfl,q++q2,?_,by rw[<-List.append_assoc];exact aB⟩;obtain⟨r,hr⟩:=ad;refine⟨r++rr,?_⟩;rw[ay.out,ap.out,<-hr,Pd,HQ.out];simp
  ·have a0:decide ((j:Int)<(n:Int))=false:=by simp;omega
   have aq:s.take j=s:=List.take_of_length_le (by rw[<-ag.out];omega);rw[aq]at U;clear aq
   gi_wp2
   go_ret;obtain⟨q,h,Y⟩:=U.out;exact .inl ⟨rfl,⟨q,h,Y⟩,af.out.trans V.out⟩
theorem z1U(o:Yr s0 l N J Jx):∀(Q:Nat) (t:RT),SizeOf.sizeOf t<Q->YR s0 l N J Jx t
 |0,t,h=>by omega
 |Q+1,.mk k T a b c d s p,h=>by
  by_cases hk:k=5
  ·subst hk
   exact z9N o T a b c d p s
  ·refine z9O o k hk T a b c d p s fun t r=>z1U o Q t ?_
   have y:=List.sizeOf_lt_of_mem r;simp only[RT.mk.sizeOf_spec]at h;omega
end
end
section
attribute [local go_sem] Oper.semAt_some
section
variable {s0 l N:Nat} {J Jx:List Nq->World->Prop}
theorem z9P(y:Yr s0 l N J Jx)(t:RT)(k:Int)(T:zA)(a b c d:Int)(A:Option Addr)(n D:Nat)(p:Int)(m Bt:Nat)(W:World)(U:zH W Bt (.cells #[zI k,zT T,zU a,zU b,zU c,zU d,.slice A n D,zI p] 81))(E:Qy W s0 t (r8 k T a b c d A n D p))(G:RtZ t)(I:J [] W)(hl:(rfT t).length<=N):
  CallsIn Fence.wide m prog 260 #[.func (.yield l) #[] #[],zP Bt 0] W fun e W'=>(∃v,e=.returned v)/\((∃q,tps q=rfT t/\J q W')∨∃q,tps q<+:rfT t/\Jx q W'):=by
 have V:=Xf;have h:=hid (z1U y _ t (Nat.lt_succ_self _) (m-1) _ [] W E G I (by simpa using hl));obtain⟨⟨c0,c1,c2,c3,c4,c5,c6,c7⟩,_⟩:=Qg U;clear y E G I hl;dsimp only[r8]at h;refine callsIn_of_wp func260 rfl trivial ?_ rfl;simp only[ntmps260,List.size_toArray,List.length_cons,List.length_nil,Nat.reduceAdd,Nat.reduceSub,Array.replicate_succ,Array.replicate_zero,List.push_toArray,List.append_toArray,List.nil_append,List.cons_append]
 gi_wp2
 refine⟨trivial,V _,h.out.mono ?_⟩;clear h;rintro e W4 (⟨rfl,⟨o,r,Y⟩,aa⟩|⟨rfl,o,r,Z⟩)
 ·gi_wp2
  go_end0
  exact⟨⟨_,rfl⟩,.inl ⟨o,r,Y⟩⟩
 ·gi_wp2
  go_end0
  exact⟨⟨_,rfl⟩,.inr ⟨o,r,Z⟩⟩
end
theorem z9Q{s0:Nat}(t:RT)(k:Int)(T:zA)(a b c d:Int)(y:Option Addr)(n D:Nat)(p:Int)(m Bt:Nat)(w:World)(Y:zH w Bt (.cells #[zI k,zT T,zU a,zU b,zU c,zU d,.slice y n D,zI p] 81))(Z:Qy w s0 t (r8 k T a b c d y n D p))(hz:RtZ t):
  SeqStopsK Fence.wide m prog 260 #[zP Bt 0] (fun x:Nq=>#[x.v]) (Kt s0) (fun ys=>tps ys=rfT t) (fun E=>tps E<+:rfT t) (rfT t).length w:=by
 intro l J Jx W hW hJ aa hY h0;have V:=Kt.below (s0:=s0) hW;have yl:Yr s0 l (rfT t).length J Jx:=by
  refine⟨fun s A B h G=>hJ s A B none h G (fun r e=>by cases e),fun m' E x W1 h hl=> ?_⟩;refine YieldAt.mono (Pf rfl m' (hY E x W1 h hl)) fun e' W' hh=> ?_
  rcases hh with⟨I,U,h3⟩|⟨I,U⟩
  ·exact .inl ⟨I,U,h3⟩
  ·exact .inr ⟨I,U⟩
 refine(z9P yl t k T a b c d y n D p m Bt W (V.eight Y) (Qy.kept (fun g o u G hu=>V.cell G hu) _ _ Z) hz h0 L0q).mono fun e W' h=> ?_
 exact⟨h.1,h.2⟩
theorem z9R(m:Nat)(k:Int)(T:zA)(a b c d:Int)(h:Option Addr)(n o:Nat)(p:Int)(w:World):CallsIn Fence.wide m prog 226 #[.agg #[zI k,zT T,zU a,zU b,zU c,zU d,.slice h n o,zI p]] w fun e w'=>e=.returned (.func (.func 260) #[] #[zP w.heap.size 0])/\w'=w.alloc (.cells #[zI k,zT T,zU a,zU b,zU c,zU d,.slice h n o,zI p] 81):=by
 refine callsIn_of_wp func226 rfl trivial ?_ rfl;simp only[ntmps226,List.size_toArray,List.length_cons,List.length_nil,Nat.reduceAdd,Nat.reduceSub,Array.replicate_succ,Array.replicate_zero,List.push_toArray,List.append_toArray,List.nil_append,List.cons_append]
 gi_wp2
 go_ret;exact⟨rfl,rfl⟩
end
open Go.Maps
theorem Gq:Keyed prog 9:=string_keyed Tryz.underlying9
theorem Kq(w:World):(zeroValue 3).run prog w=.ok (zI 0) w:=by kernel_rfl
def kls(s:ByteArray):Lit:=.string s.data.toList
theorem z1V{a b:ByteArray}(h:kls a=kls b):a=b:=by
 unfold kls at h;injection h with h
 apply ByteArray.ext;exact Array.toList_inj.1 h
theorem Pc(s:ByteArray):WideAt.IsKeyLit (kls s):=trivial
theorem Gx{s:ByteArray}(h:s.size<=maxLen):keyOf prog 9 (.string s)=some (kls s):=WideMaps.keyOf_string_mk Tryz.underlying9 h
def ixN(s:zA):List ByteArray->Nat
 |[]=>0
 |a::r=>if a=s then 0 else ixN s r+1
def inN(s:zA):List ByteArray->Bool
 |[]=>false
 |a::r=>if a=s then true else inN s r
theorem z1W(s x:zA):∀l,inN s (l++[x])=(inN s l||decide (x=s))
 |[]=>by rw[List.nil_append,inN,inN,inN];by_cases h:x=s<;>simp[h]
 |a::r=>by rw[List.cons_append,inN,inN,z1W s x r];by_cases h:a=s<;>simp[h]
theorem z1X(s x:zA):∀l,ixN s (l++[x])=if inN s l then ixN s l else if x=s then l.length else l.length+1
 |[]=>by rw[List.nil_append,ixN,inN];by_cases h:x=s<;>simp[h,ixN]
 |a::r=>by
  rw[List.cons_append,ixN,ixN,inN,z1X s x r];by_cases h:a=s
  ·simp[h]
  ·simp only[h,if_false]
   by_cases h2:inN s r=true
   ·simp[h2]
   ·by_cases h3:x=s<;>simp[h2,h3]
theorem Gk(s:zA):∀l,inN s l=true->ixN s l<l.length
 |[],h=>by simp[inN]at h
 |a::r,h=>by
  rw[inN]at h;rw[ixN];by_cases h2:a=s
  ·simp[h2]
  ·rw[if_neg h2]at h ⊢
   have:=Gk s r h;simp only[List.length_cons];omega
def Pm(W:World)(B:Nat)(l:List ByteArray):Prop:=∃D:DataW Unit,W.ownsMap prog 9 (plainElem prog 3) B l.length D/\∀s,Maps.has D (kls s)=inN s l/\(inN s l=true->D.atKey (kls s) (.lit (.int .i64 0))=.lit (.int .i64 (ixN s l:Nat)))
theorem Pm.made(w:World):Pm (w.alloc (.map #[] 0)) w.heap.size []:=⟨.map [],World.ownsMap_made w _ _ _,fun s=>⟨rfl,fun h=>by simp[inN]at h⟩⟩
theorem Pm.kept{W W':World}{B:Nat}{l:List ByteArray}{row:Option Nat}(h:Pm W B l)(o:W.grownBy W' row)(r:some B≠row):Pm W' B l:=by
 obtain⟨D,t,y⟩:=h;exact⟨D,t.kept o r,y⟩
theorem Pm.lt{W:World}{B:Nat}{l:List ByteArray}(h:Pm W B l):B<W.heap.size:=by
 obtain⟨D,o,_⟩:=h;exact o.lt
theorem Pm.below{W W':World}{B base:Nat}{l:List ByteArray}(h:Pm W B l)(o:Below base W W')(r:B<base):Pm W' B l:=by
 obtain⟨D,⟨t,y,A,E,G,I⟩,U⟩:=h;exact⟨D,⟨t,y,(o.block B r).trans A,E,G,I⟩,U⟩
theorem Pm.put{W':World}{B:Nat}{l:List ByteArray}{s:ByteArray}{D:DataW Unit}(o:∀s,Maps.has D (kls s)=inN s l/\(inN s l=true->D.atKey (kls s) (.lit (.int .i64 0))=.lit (.int .i64 (ixN s l:Nat))))(r:Maps.IsMap D)(A:inN s l=false)
  (h:W'.ownsMap prog 9 (plainElem prog 3) B (l.length+1) (D.put (kls s) (.lit (.int .i64 (l.length:Nat))))):Pm W' B (l++[s]):=by
 refine⟨_,by rw[List.length_append];exact h,fun x=> ?_⟩;rw[z1W,z1X];by_cases e:s=x
 ·subst e
  rw[A];refine⟨by rw[Maps.has_put_same r (Pc _)];simp,fun _=> ?_⟩;rw[Maps.atKey_put_same r (Pc _)];simp
 ·have t:kls x≠kls s:=fun h=>e (z1V h).symm
  rw[Maps.has_put_other t,Maps.atKey_put_other t,(o x).1];refine⟨by simp[e],fun h=> ?_⟩;have y:inN x l=true:=by simpa [e]using h
  rw[(o x).2 y,if_pos y]
abbrev Ox:=Int×ByteArray×(Int×Int×Int×Int)×List Int
def sbT:List Int->List UInt8
 |[]=>[]
 |i::r=>Lib.itoa i++32::sbT r
def qB(o:Ox):List UInt8:=keyBytes [.int .i64 o.1,.string o.2.1.data.toList,.int .u64 o.2.2.1.1,.int .u64 o.2.2.1.2.1,.int .u64 o.2.2.1.2.2.1,.int .u64 o.2.2.1.2.2.2,.string (sbT o.2.2.2)]
def qV(o:Ox):Value:=.agg #[zI o.1,zT o.2.1,zU o.2.2.1.1,zU o.2.2.1.2.1,zU o.2.2.1.2.2.1,zU o.2.2.1.2.2.2,zT ⟨(sbT o.2.2.2).toArray⟩]
def qW(o:Ox):Prop:=(Lit.int .i64 o.1).wf=true/\o.2.1.size<=maxLen/\(Lit.int .u64 o.2.2.1.1).wf=true/\(Lit.int .u64 o.2.2.1.2.1).wf=true/\(Lit.int .u64 o.2.2.1.2.2.1).wf=true/\(Lit.int .u64 o.2.2.1.2.2.2).wf=true/\(sbT o.2.2.2).length<=maxLen
theorem Tryz.deepKey:Tryz.prog.keyType 125=true:=by kernel_rfl
theorem Tryz.rowKey:(125:TypeId)<Tryz.prog.types.size:=of_decide_eq_true (by kernel_rfl)
theorem Tryz.wideKey:(match Tryz.prog.underlying 125 with|some (.array _ _)|some (.struct _)=>true|_=>false)=true:=by kernel_rfl
theorem z9S(hl:laidOutB prog=true):Keyed prog 125:=Keyed.of_law (deep_law_laid hl (m:=4) (by omega) Tryz.rowKey (by kernel_rfl) Tryz.wideKey)
theorem Tryz.keyN:∃n,Tryz.prog.types.size+1=n+1+1+1:=⟨_,rfl⟩
theorem Tryz.cells3:Tryz.prog.cellsOf 3=1:=by kernel_rfl
theorem Tryz.cells9:Tryz.prog.cellsOf 9=1:=by kernel_rfl
theorem Tryz.cellsCl:Tryz.prog.cellsOf 54=4:=by kernel_rfl
theorem Tryz.cellsU:Tryz.prog.cellsOf 52=1:=by kernel_rfl
theorem Tryz.cellsKey:Tryz.prog.cellsOf 125=7:=by kernel_rfl
theorem z9T(n:Nat)(x:Int)(h:(Lit.int .i64 x).wf=true):Tryz.prog.keyLits (n+1) 3 [.int .i64 x]=some [.int .i64 x]:=by
 unfold Program.keyLits;simp only[Tryz.underlying3];simp[h]
theorem z1Y(n:Nat)(x:ByteArray)(h:x.size<=maxLen):Tryz.prog.keyLits (n+1) 9 [.string x]=some [.string x.data.toList]:=by
 unfold Program.keyLits;simp only[Tryz.underlying9];simp[h]
theorem Ey(n:Nat)(x:Int)(h:(Lit.int .u64 x).wf=true):Tryz.prog.keyLits (n+1) 52 [.int .u64 x]=some [.int .u64 x]:=by
 unfold Program.keyLits;simp only[Tryz.underlying52];simp[h]
theorem z9U(n:Nat)(a b c d:Int)(ha:(Lit.int .u64 a).wf=true)(h:(Lit.int .u64 b).wf=true)(o:(Lit.int .u64 c).wf=true)(r:(Lit.int .u64 d).wf=true):Tryz.prog.keyLits (n+1+1) 54 [.int .u64 a,.int .u64 b,.int .u64 c,.int .u64 d]=some [.int .u64 a,.int .u64 b,.int .u64 c,.int .u64 d]:=by
 unfold Program.keyLits;simp only[Tryz.underlying54];simp only[List.length_cons,List.length_nil,Tryz.cellsCl,Tryz.cellsU,Nat.zero_add,Nat.reduceAdd,if_true];rw[show List.range 4=[0,1,2,3]from rfl];simp[Ey n _ ha,Ey n _ h,Ey n _ o,Ey n _ r]
theorem z1Z(o:Ox)(h:qW o):keyOf prog 125 (qV o)=some (.string (qB o)):=by
 obtain⟨r,t,y,A,D,E,G⟩:=h;obtain⟨n,I⟩:=Tryz.keyN;have U:(qV o).formed prog 125=true:=by simp[Value.formed,qV,Tryz.underlying125,Tryz.cellsKey]
 have V:Tryz.prog.keyLits (n+1+1+1) 125 (qV o).cells.toList=some [.int .i64 o.1,.string o.2.1.data.toList,.int .u64 o.2.2.1.1,.int .u64 o.2.2.1.2.1,.int .u64 o.2.2.1.2.2.1,.int .u64 o.2.2.1.2.2.2,.string (sbT o.2.2.2)]:=by
  unfold Program.keyLits;simp only[Tryz.underlying125];have Y:=z9T (n+1) _ r;have Z:=z1Y (n+1) _ t;have e3:=z9U n _ _ _ _ y A D E;have e4:=z1Y (n+1) ⟨(sbT o.2.2.2).toArray⟩ (by simpa [ByteArray.size]using G);simp only[qV,Value.cells,Tryz.cellsKey,List.length_cons,List.length_nil,Nat.zero_add,Nat.reduceAdd];simp[Tryz.cells3,Tryz.cells9,Tryz.cellsCl,Y,Z,e3,e4]
 unfold keyOf;rw[Tryz.deepKey,U,I,V,Tryz.underlying125];rfl
theorem Tryz.laidOutC:laidOutB prog=true:=by kernel_rfl
theorem z2a:Keyed prog 125:=z9S Tryz.laidOutC
def ixA(s:List UInt8):List (List UInt8)->Nat
 |[]=>0
 |a::r=>if a=s then 0 else ixA s r+1
def inA(s:List UInt8):List (List UInt8)->Bool
 |[]=>false
 |a::r=>if a=s then true else inA s r
theorem z2b(s x:List UInt8):∀l,inA s (l++[x])=(inA s l||decide (x=s))
 |[]=>by rw[List.nil_append,inA,inA,inA];by_cases h:x=s<;>simp[h]
 |a::r=>by rw[List.cons_append,inA,inA,z2b s x r];by_cases h:a=s<;>simp[h]
theorem z2c(s x:List UInt8):∀l,ixA s (l++[x])=if inA s l then ixA s l else if x=s then l.length else l.length+1
 |[]=>by rw[List.nil_append,ixA,inA];by_cases h:x=s<;>simp[h,ixA]
 |a::r=>by
  rw[List.cons_append,ixA,ixA,inA,z2c s x r];by_cases h:a=s
  ·simp[h]
  ·simp only[h,if_false]
   by_cases h2:inA s r=true
   ·simp[h2]
   ·by_cases h3:x=s<;>simp[h2,h3]
theorem z2d(s:List UInt8):∀l,inA s l=true->ixA s l<l.length
 |[],h=>by simp[inA]at h
 |a::r,h=>by
  rw[inA]at h;rw[ixA];by_cases h2:a=s
  ·simp[h2]
  ·rw[if_neg h2]at h ⊢
   have:=z2d s r h;simp only[List.length_cons];omega
theorem z2e{s:List UInt8}:∀{l},s∈l->inA s l=true
 |a::r,h=>by
  rw[inA];by_cases h2:a=s
  ·simp[h2]
  ·rw[if_neg h2]
   rcases List.mem_cons.1 h with rfl|h
   ·exact absurd rfl h2
   ·exact z2e h
def Pk(W:World)(B:Nat)(l:List (List UInt8)):Prop:=∃D:DataW Unit,W.ownsMap prog 125 (plainElem prog 3) B l.length D/\∀s,Maps.has D (.string s)=inA s l/\(inA s l=true->D.atKey (.string s) (.lit (.int .i64 0))=.lit (.int .i64 (ixA s l:Nat)))
theorem Pk.made(w:World):Pk (w.alloc (.map #[] 0)) w.heap.size []:=⟨.map [],World.ownsMap_made w _ _ _,fun s=>⟨rfl,fun h=>by simp[inA]at h⟩⟩
theorem Pk.lt{W:World}{B:Nat}{l:List (List UInt8)}(h:Pk W B l):B<W.heap.size:=by
 obtain⟨D,o,_⟩:=h;exact o.lt
theorem Pk.same{W W':World}{B:Nat}{l:List (List UInt8)}(h:Pk W B l)(o:W'.heap[B]? =W.heap[B]?):Pk W' B l:=by
 obtain⟨D,⟨r,t,y,A,E,G⟩,I⟩:=h;exact⟨D,⟨r,t,o.trans y,A,E,G⟩,I⟩
theorem Pk.upd{W:World}{B:Nat}{l:List (List UInt8)}{o:Ox}(h:Pk W B l)(E:inA (qB o) l=false)(G:qW o)(hl:l.length<maxLen):∃W',(Instr.mapUpdate 76 (.map (some B)) (qV o) (.int .i64 (l.length:Nat))).run prog W=.ok () W'/\Pk W' B (l++[qB o])/\W.grownBy W' (some B):=by
 obtain⟨D,r,t⟩:=h;obtain⟨W',I,U,V⟩:=r.update z2a Tryz.underlying76 hl (z1Z o G) (plainElem_int Tryz.underlying3 (a:=((l.length:Nat):Int)) (WalkArith.wf_i64 (by unfold maxLen at hl;omega)));refine⟨W',I,⟨_,by rw[List.length_append];exact U,fun x=> ?_⟩,V⟩;rw[z2b,z2c];by_cases e:qB o=x
 ·subst e
  rw[E];refine⟨by rw[Maps.has_put_same r.isMap (show WideAt.IsKeyLit (.string (qB o))from trivial)];simp,fun _=> ?_⟩;rw[Maps.atKey_put_same r.isMap (show WideAt.IsKeyLit (.string (qB o))from trivial)];simp
 ·have y:(Lit.string x)≠.string (qB o):=fun h=>e (Lit.string.inj h).symm
  rw[Maps.has_put_other y,Maps.atKey_put_other y,(t x).1];refine⟨by simp[e],fun h=> ?_⟩;have A:inA x l=true:=by simpa [e]using h
  rw[(t x).2 A,if_pos A]
theorem Pk.look{W:World}{B:Nat}{l:List (List UInt8)}{o:Ox}(h:Pk W B l)(A:qW o):(Instr.lookup 76 (.map (some B)) (qV o) true).run prog W=.ok (.tuple #[.int .i64 (if inA (qB o) l then(ixA (qB o) l:Int)else 0),.bool (inA (qB o) l)]) W:=by
 obtain⟨D,E,t⟩:=h;obtain⟨v,V,G,I⟩:=E.look_ok z2a Tryz.underlying76 (Kq W) (plainElem_int Tryz.underlying3 (a:=0) (WalkArith.wf_i64 (by omega))) (z1Z o A);obtain⟨c,rfl,U,_⟩:=plainElem_int_inv Tryz.underlying3 I;have r:=congrArg Prod.fst U;rw[G,(t (qB o)).1];cases hi:inA (qB o) l with
 |true=>
  rw[(t (qB o)).2 hi]at r;have y:=(Lit.int.inj (DataW.lit.inj r)).2;subst y;rfl
 |false=>
  rw[Maps.atKey_of_not_has (by rw[(t (qB o)).1];exact hi)]at r;have y:=(Lit.int.inj (DataW.lit.inj r)).2;subst y;rfl
def plO(o:Ox)(ops:List Ox):Nat×List Ox:=if inA (qB o) (ops.map qB)then(ixA (qB o) (ops.map qB),ops)else(ops.length,ops++[o])
mutual
def mkT(ix:zA->Int):RT->List Ox->Nat×List Ox
 | .mk k T a b c d s _,ops=>if k=5 then plO (5,{data:=#[]},(0,0,0,0),[ix T]) ops else plO (k,T,(a,b,c,d),(mkL ix s ops).1) (mkL ix s ops).2
def mkL(ix:zA->Int):List RT->List Ox->List Int×List Ox
 |[],ops=>([],ops)
 |t::r,ops=>(((mkT ix t ops).1:Int)::(mkL ix r (mkT ix t ops).2).1,(mkL ix r (mkT ix t ops).2).2)
end
def mkG(ix:zA->Int):List Rr->List Ox->List Int×List Ox
 |[],ops=>([],ops)
 |x::r,ops=>(((mkT ix x.2.1 ops).1:Int)::(mkG ix r (mkT ix x.2.1 ops).2).1,(mkG ix r (mkT ix x.2.1 ops).2).2)
end Go.Proofs.YtgnkkgcgbeianaaGreatDoor
namespace Go.Proofs
open Go.Shelf
shelf_lay LaysM.n176 Nm 176 at Tryz as Tryz.laysM176
end Go.Proofs
namespace Go.Proofs.YtgnkkgcgbeianaaGreatDoor
open Go.Proofs.Tryz
open Go.RowKit Go.Shelf Go.Maps
variable {w w':World} {base:Nat}
def Xm(w:World):Prop:=Lib.TabIs prog w "internal/strconv.uint64pow10" .u64 Lib.pow10Tab
theorem Xm.below(h:Xm w)(o:zB w w'):Xm w':=Lib.tabBelow_of_tabIs h w' o
theorem z9V(B n:Nat)(i:Int)(r: -9223372036854775808<=i)(o:i<=9223372036854775807)(sv:Value)(xs:List Value)(w0 w:World)(t:w.ownsRow B 5 1 sv n xs)(y:w0.heap.size<=B)(A:B<=w.heap.size)(D:zB w0 w)(E:n+21<=140737488355328)(G:Xm w0):
  Calls prog 86 #[sv,zI i,zI 10] w fun e w'=>∃h,e=.returned h/\w'.ownsRow B 5 1 h (n+(Lib.itoa i).length) (xs++Lib.byteCells (Lib.itoa i))/\Below B w w':=
 (Any.strconv_AppendInt_10 Tryz.laysM176 B n i r o sv xs w t A E (fun w' I=>G.below (D.trans (I.mono y)))).mono fun e w' ⟨h,o,U,V,_⟩=>⟨h,o,U,V⟩
def nmL(rs:List Rr):List ByteArray:=rs.map (·.1)
def Yf(l:List ByteArray):List Rr->Option Int
 |[]=>none
 |x::r=>if inN x.1 l then some x.2.2 else Yf (l++[x.1]) r
def Dq(rs:List Rr):Option Int:=Yf [] rs
theorem z2f(l:List ByteArray)(rs:List Rr)(j:Nat)(h:j<rs.length):Yf l (rs.drop j)=if inN rs[j].1 l then some rs[j].2.2 else Yf (l++[rs[j].1]) (rs.drop (j+1)):=by
 rw[List.drop_eq_getElem_cons h,Yf]
theorem Pl(rs:List Rr)(j:Nat)(h:j<rs.length):nmL (rs.take (j+1))=nmL (rs.take j)++[rs[j].1]:=by
 unfold nmL;rw[show rs.take (j+1)=rs.take j++[rs[j]] by simp,List.map_append];rfl
def rfG:List Rr->List (ByteArray×Int)
 |[]=>[]
 |x::r=>rfT x.2.1++rfG r
theorem Rz:∀(a b:List Rr),rfG (a++b)=rfG a++rfG b
 |[],b=>by rw[List.nil_append,rfG,List.nil_append]
 |x::r,b=>by rw[List.cons_append,rfG,rfG,Rz r b,List.append_assoc]
theorem z9W(s:List Rr)(j:Nat)(h:j<s.length):rfG (s.take (j+1))=rfG (s.take j)++rfT s[j].2.1:=by
 rw[show s.take (j+1)=s.take j++[s[j]] by simp,Rz,rfG,rfG,List.append_nil]
def Xz(l:List ByteArray):List (ByteArray×Int)->Option Int
 |[]=>none
 |x::r=>if inN x.1 l then Xz l r else some x.2
theorem Kx(l:List ByteArray):∀(a b:List (ByteArray×Int)),Xz l (a++b)=match Xz l a with|some p=>some p|none=>Xz l b
 |[],b=>by rw[List.nil_append,Xz]
 |x::r,b=>by
  rw[List.cons_append,Xz,Xz,Kx l r b];by_cases h:inN x.1 l=true
  ·rw[if_pos h,if_pos h]
  ·rw[if_neg h,if_neg h]
def ckR(rs:List Rr):Option (Int×Int):=match Dq rs with
 |some p=>some (30,p)
 |none=>match Xz (nmL rs) (rfG rs)with
  |some p=>some (31,p)
  |none=>none
def CkP(w:World)(rs:List Rr)(e:Ending)(w':World):Prop:=zB w w'/\
 ((∃c p g,ckR rs=some (c,p)/\e=.returned (.tuple #[.map none,.iface 134 (zP g 0)])/\w.heap.size<=g/\w'.heap[g]? =some (.cells #[zI c,zI p] 136))∨
  (∃M,ckR rs=none/\e=.returned (.tuple #[.map (some M),.nilIface])/\w.heap.size<=M/\Pm w' M (nmL rs)))
def Kp3(w W2:World)(M:Nat)(wr:World):Prop:=zB w wr/\M+1+1<=wr.heap.size/\(∀k,k<M->wr.heap[k]? =W2.heap[k]?)/\wr.heap[M+1]? =W2.heap[M+1]?
theorem Kp3.step{w y wr A:World}{M:Nat}{o:Obj}(h:Kp3 w y M wr)(r:(wr.alloc o).grownBy A (some M))(D:w.heap.size<=M):Kp3 w y M A:=by
 obtain⟨t,V,E,G⟩:=h;have I:=r.size;rw[World.size_alloc]at I;refine⟨(t.alloc t.size _).grown r (by rw[World.size_alloc];have:=t.size;omega) (fun j e=>by cases e;exact D),by omega,fun k U=> ?_,?_⟩
 ·exact(r.block k (by rw[World.size_alloc];omega) (fun e=>by cases e;omega)).trans ((Below.heap_alloc _ _ _ (by omega)).trans (E k U))
 ·exact(r.block _ (by rw[World.size_alloc];omega) (fun e=>by simp at e)).trans ((Below.heap_alloc _ _ _ (by omega)).trans G)
theorem z9X(n:Int)(w:World):(Instr.makeMap 127 (some (zI n))).run prog w=.ok (.map (some w.heap.size)) (w.alloc (.map #[] 0)):=by kernel_rfl
def Mks(base:Nat):Nat->List Deferred->World->Prop
 |_,[],_=>True
 |lim,d::ds,w=>∃D,d={target:=.collected D,args:=#[]}/\base<=D/\D<lim/\w.heap[D]? =some (.deferred (some []))/\Mks base D ds w
theorem Mks.kept{base:Nat}:∀{o:Nat} {r:List Deferred} {w w':World},Mks base o r w->(∀D,D<o->zH w D (.deferred (some []))->zH w' D (.deferred (some [])))->Mks base o r w'
 |_,[],_,_,_,_=>trivial
 |o,d::r,w,w',h,hk=>by
  obtain⟨D,y,A,t,E,G⟩:=h;exact⟨D,y,A,t,hk D t E,G.kept fun I U h=>hk I (by omega) h⟩
theorem Mks.below{S:Nat}{o:List Deferred}(h:Mks base S o w)(r:Below S w w'):Mks base S o w':=h.kept fun D t e=>(r.block D t).trans e
theorem Mks.mono:∀{o r:Nat} {h:List Deferred} {w:World},Mks base o h w->o<=r->Mks base r h w
 |_,_,[],_,_,_=>trivial
 |_,_,d::h,w,⟨D,h1,h2,h3,h4,h5⟩,hl=>⟨D,h1,h2,Nat.lt_of_lt_of_le h3 hl,h4,h5⟩
def Dk(base:Nat)(w w':World):Prop:=Below base w w'/\∀(k:Nat) (o:Obj),w.heap[k]? =some o->(∀l,o≠.deferred l)->w'.heap[k]? =some o
theorem Ef{F:Fence}{n:Nat}{P:Program}{y:Func}{A:Array Value}{R:Ending->World->Prop}{base:Nat}:∀(r:List Deferred) (E:Nat) (w:World),Mks base E r w->(∀w',Dk base w w'->∃v,(results y A).run P w'=.ok v w'/\R (.returned v) w')->LeavesInM F n P y A R r .returning w
 |[],_,w,_,h=>h w ⟨Below.refl _ _,fun _ _ h _=>h⟩
 |d::r,E,w,⟨D,h1,h2,h3,h4,h5⟩,h=>by
  refine⟨by simp,.inl ⟨D,_,by rw[h1],run_takeDeferred h4,?_⟩⟩;have U:Below base w (w.putObj D (.deferred none)):=(Below.refl base w).grown (grownBy_putObj' w D _) (by have:=(Array.getElem?_eq_some_iff.1 h4).1;omega) (fun k e=>by cases e;omega);refine Ef r D _ (h5.kept fun V Y e=>(World.putObj_heap_other (by omega)).trans e) fun w' G=>h w' ⟨U.trans G.1,fun k o t I=>G.2 k o ?_ I⟩
  refine(World.putObj_heap_other fun e=> ?_).trans t;subst e;rw[h4]at t;cases t;exact I _ rfl
theorem Dk.box{B:Nat}{t:TypeId}{v:Value}(h:Dk base w w')(o:Boxed w B t v):Boxed w' B t v:=h.2 B _ o (fun l e=>by cases e)
theorem Dk.pm{B:Nat}{l:List ByteArray}(h:Dk base w w')(o:Pm w B l):Pm w' B l:=by
 obtain⟨D,⟨r,t,y,A,E,G⟩,I⟩:=o;exact⟨D,⟨r,t,h.2 B _ y (fun l e=>by cases e),A,E,G⟩,I⟩
theorem Kp3.below{r W W':World}{M S:Nat}(h:Kp3 w r M W)(o:Below S W W')(t:w.heap.size<=S)(A:M+1+1<=S):Kp3 w r M W':=
 ⟨h.1.trans (o.mono t),by have:=o.size;have:=h.2.1;omega,fun k y=>(o.block k (by omega)).trans (h.2.2.1 k y),(o.block _ (by omega)).trans h.2.2.2⟩
end Go.Proofs.YtgnkkgcgbeianaaGreatDoor
