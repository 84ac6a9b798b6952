/- Lemmas for the last text. Conditions: those that each names. -/
import Derived.Test.YtlogolpcipiceaaGreatDoorVR7
set_option linter.unusedVariables false
set_option maxRecDepth 100000
set_option maxHeartbeats 8000000
namespace Go.Proofs.YtlogolpcipiceaaGreatDoor
open Go.Proofs.Tryz
open Go.RowKit Go.Shelf
variable {w:World} {B g:Nat}
theorem z8K(S:ByteArray)(w:World)(h32:32<S.size)(hS:S.size<=9223372036854775807):
  Calls prog 284 #[.string S] w fun e w'=>e=.returned (.bool false)/\w'=w:=by
 have hne:S.toList.isEmpty=false:=by
  rw[Go.ByteArray.toList_eq];cases h:S.data.toList with
  |nil=>
   have h1:S.data.toList.length=0:=by rw[h];rfl
   have h2:S.data.size=S.size:=rfl;rw[Array.length_toList]at h1;omega
  |cons _ _=>rfl
 have a0:decide ((S.size:Int)<=32)=false:=by simp;omega
 go_enter func284,ntmps284
 go_wp2_with fail
 go_ret;exact⟨rfl,rfl⟩
theorem z1X(S:ByteArray)(w:World)(hS:S.size<=9223372036854775807):
  Calls prog 284 #[.string S] w fun e w'=>e=.returned (.bool (nmS S))/\w'=w:=by
 rcases Nat.lt_or_ge 32 S.size with h|h
 ·have e:nmS S=false:=by
   unfold nmS;split
   ·rfl
   ·rw[decide_eq_false (by omega)];rfl
  rw[e];exact z8K S w h hS
 ·exact z5P S w (by omega)
def zc(a b c d:Int):Bool:=a == 0&&(b == 0&&(c == 0&&d == 0))
def okN(k:Int)(T:ByteArray)(a b c d:Int)(n:Nat):Bool:=
 if k=1∨k=4 then T.toList.isEmpty&&(zc a b c d&&((n:Int) == 0))
 else if k=2 then decide ((T.size:Int)<=255)&&(zc a b c d&&((n:Int) == 0))
 else if k=3 then T.toList.isEmpty&&((n:Int) == 0)
 else if k=5 then nmS T&&(zc a b c d&&((n:Int) == 0))
 else if k=6∨k=7 then T.toList.isEmpty&&(zc a b c d&&decide (2<=(n:Int)))
 else if 8<=k/\k<=12 then T.toList.isEmpty&&(zc a b c d&&((n:Int) == 1))
 else false
theorem Uj(a b c d:Int)(w:World):(Op.equalIn 10000 68 (.agg #[.int .u64 a,.int .u64 b,.int .u64 c,.int .u64 d]) (.agg #[.int .u64 0,.int .u64 0,.int .u64 0,.int .u64 0])).run prog w=.ok (zc a b c d) w:=Lj 9998 w a b c d 0 0 0 0
theorem z8L(T:ByteArray)(a b c d p:Int)(so:Option Addr)(n cap:Nat)(w:World)(hT:T.size<=9223372036854775807):
  Calls prog 293 #[.agg #[.int .i64 1,.string T,.int .u64 a,.int .u64 b,.int .u64 c,.int .u64 d,.slice so n cap,.int .i64 p]] w fun e w'=>e=.returned (.bool (okN 1 T a b c d n))/\Below w.heap.size w w':=by
 have e3:=Uj a b c d;obtain⟨R,hR⟩:∃R,R=okN 1 T a b c d n:=⟨_,rfl⟩;rw[<-hR];go_enter func293,ntmps293
 go_wp2_with fail
 go_region
 go_wp2_with fail
 all_goals(go_ret;exact⟨by(try rw[hR]);unfold okN;simp_all<;>(intros;omega),(B0q.alloc L0q _).drew⟩)
theorem z8M(T:ByteArray)(a b c d p:Int)(so:Option Addr)(n cap:Nat)(w:World)(hT:T.size<=9223372036854775807):
  Calls prog 293 #[.agg #[.int .i64 2,.string T,.int .u64 a,.int .u64 b,.int .u64 c,.int .u64 d,.slice so n cap,.int .i64 p]] w fun e w'=>e=.returned (.bool (okN 2 T a b c d n))/\Below w.heap.size w w':=by
 have e3:=Uj a b c d;obtain⟨R,hR⟩:∃R,R=okN 2 T a b c d n:=⟨_,rfl⟩;rw[<-hR];go_enter func293,ntmps293
 go_wp2_with fail
 go_region
 go_wp2_with fail
 all_goals(go_ret;exact⟨by(try rw[hR]);unfold okN;simp_all<;>(intros;omega),(B0q.alloc L0q _).drew⟩)
theorem z8N(T:ByteArray)(a b c d p:Int)(so:Option Addr)(n cap:Nat)(w:World)(hT:T.size<=9223372036854775807):
  Calls prog 293 #[.agg #[.int .i64 3,.string T,.int .u64 a,.int .u64 b,.int .u64 c,.int .u64 d,.slice so n cap,.int .i64 p]] w fun e w'=>e=.returned (.bool (okN 3 T a b c d n))/\Below w.heap.size w w':=by
 have e3:=Uj a b c d;obtain⟨R,hR⟩:∃R,R=okN 3 T a b c d n:=⟨_,rfl⟩;rw[<-hR];go_enter func293,ntmps293
 go_wp2_with fail
 go_region
 go_wp2_with fail
 all_goals(go_ret;exact⟨by(try rw[hR]);unfold okN;simp_all<;>(intros;omega),(B0q.alloc L0q _).drew⟩)
theorem z8O(T:ByteArray)(a b c d p:Int)(so:Option Addr)(n cap:Nat)(w:World)(hT:T.size<=9223372036854775807):
  Calls prog 293 #[.agg #[.int .i64 4,.string T,.int .u64 a,.int .u64 b,.int .u64 c,.int .u64 d,.slice so n cap,.int .i64 p]] w fun e w'=>e=.returned (.bool (okN 4 T a b c d n))/\Below w.heap.size w w':=by
 have e3:=Uj a b c d;obtain⟨R,hR⟩:∃R,R=okN 4 T a b c d n:=⟨_,rfl⟩;rw[<-hR];go_enter func293,ntmps293
 go_wp2_with fail
 go_region
 go_wp2_with fail
 all_goals(go_ret;exact⟨by(try rw[hR]);unfold okN;simp_all<;>(intros;omega),(B0q.alloc L0q _).drew⟩)
theorem z8P(T:ByteArray)(a b c d p:Int)(so:Option Addr)(n cap:Nat)(w:World)(hT:T.size<=9223372036854775807):
  Calls prog 293 #[.agg #[.int .i64 5,.string T,.int .u64 a,.int .u64 b,.int .u64 c,.int .u64 d,.slice so n cap,.int .i64 p]] w fun e w'=>e=.returned (.bool (okN 5 T a b c d n))/\Below w.heap.size w w':=by
 have e3:=Uj a b c d;obtain⟨R,hR⟩:∃R,R=okN 5 T a b c d n:=⟨_,rfl⟩;rw[<-hR];go_enter func293,ntmps293
 go_wp2_with fail
 go_region
 go_wp2_with(go_at_call 284;refine(z1X T _ hT).mono ?_;rintro e wq ⟨rfl,rfl⟩)
 all_goals(go_ret;exact⟨by(try rw[hR]);unfold okN;simp_all<;>(intros;omega),(B0q.alloc L0q _).drew⟩)
theorem z8Q(T:ByteArray)(a b c d p:Int)(so:Option Addr)(n cap:Nat)(w:World)(hT:T.size<=9223372036854775807):
  Calls prog 293 #[.agg #[.int .i64 6,.string T,.int .u64 a,.int .u64 b,.int .u64 c,.int .u64 d,.slice so n cap,.int .i64 p]] w fun e w'=>e=.returned (.bool (okN 6 T a b c d n))/\Below w.heap.size w w':=by
 have e3:=Uj a b c d;obtain⟨R,hR⟩:∃R,R=okN 6 T a b c d n:=⟨_,rfl⟩;rw[<-hR];go_enter func293,ntmps293
 go_wp2_with fail
 go_region
 go_wp2_with fail
 all_goals(go_ret;exact⟨by(try rw[hR]);unfold okN;simp_all<;>(intros;omega),(B0q.alloc L0q _).drew⟩)
theorem z8R(T:ByteArray)(a b c d p:Int)(so:Option Addr)(n cap:Nat)(w:World)(hT:T.size<=9223372036854775807):
  Calls prog 293 #[.agg #[.int .i64 7,.string T,.int .u64 a,.int .u64 b,.int .u64 c,.int .u64 d,.slice so n cap,.int .i64 p]] w fun e w'=>e=.returned (.bool (okN 7 T a b c d n))/\Below w.heap.size w w':=by
 have e3:=Uj a b c d;obtain⟨R,hR⟩:∃R,R=okN 7 T a b c d n:=⟨_,rfl⟩;rw[<-hR];go_enter func293,ntmps293
 go_wp2_with fail
 go_region
 go_wp2_with fail
 all_goals(go_ret;exact⟨by(try rw[hR]);unfold okN;simp_all<;>(intros;omega),(B0q.alloc L0q _).drew⟩)
theorem z8S(T:ByteArray)(a b c d p:Int)(so:Option Addr)(n cap:Nat)(w:World)(hT:T.size<=9223372036854775807):
  Calls prog 293 #[.agg #[.int .i64 8,.string T,.int .u64 a,.int .u64 b,.int .u64 c,.int .u64 d,.slice so n cap,.int .i64 p]] w fun e w'=>e=.returned (.bool (okN 8 T a b c d n))/\Below w.heap.size w w':=by
 have e3:=Uj a b c d;obtain⟨R,hR⟩:∃R,R=okN 8 T a b c d n:=⟨_,rfl⟩;rw[<-hR];go_enter func293,ntmps293
 go_wp2_with fail
 go_region
 go_wp2_with fail
 all_goals(go_ret;exact⟨by(try rw[hR]);unfold okN;simp_all<;>(intros;omega),(B0q.alloc L0q _).drew⟩)
theorem z8T(T:ByteArray)(a b c d p:Int)(so:Option Addr)(n cap:Nat)(w:World)(hT:T.size<=9223372036854775807):
  Calls prog 293 #[.agg #[.int .i64 9,.string T,.int .u64 a,.int .u64 b,.int .u64 c,.int .u64 d,.slice so n cap,.int .i64 p]] w fun e w'=>e=.returned (.bool (okN 9 T a b c d n))/\Below w.heap.size w w':=by
 have e3:=Uj a b c d;obtain⟨R,hR⟩:∃R,R=okN 9 T a b c d n:=⟨_,rfl⟩;rw[<-hR];go_enter func293,ntmps293
 go_wp2_with fail
 go_region
 go_wp2_with fail
 all_goals(go_ret;exact⟨by(try rw[hR]);unfold okN;simp_all<;>(intros;omega),(B0q.alloc L0q _).drew⟩)
theorem z8U(T:ByteArray)(a b c d p:Int)(so:Option Addr)(n cap:Nat)(w:World)(hT:T.size<=9223372036854775807):
  Calls prog 293 #[.agg #[.int .i64 10,.string T,.int .u64 a,.int .u64 b,.int .u64 c,.int .u64 d,.slice so n cap,.int .i64 p]] w fun e w'=>e=.returned (.bool (okN 10 T a b c d n))/\Below w.heap.size w w':=by
 have e3:=Uj a b c d;obtain⟨R,hR⟩:∃R,R=okN 10 T a b c d n:=⟨_,rfl⟩;rw[<-hR];go_enter func293,ntmps293
 go_wp2_with fail
 go_region
 go_wp2_with fail
 all_goals(go_ret;exact⟨by(try rw[hR]);unfold okN;simp_all<;>(intros;omega),(B0q.alloc L0q _).drew⟩)
theorem z8V(T:ByteArray)(a b c d p:Int)(so:Option Addr)(n cap:Nat)(w:World)(hT:T.size<=9223372036854775807):
  Calls prog 293 #[.agg #[.int .i64 11,.string T,.int .u64 a,.int .u64 b,.int .u64 c,.int .u64 d,.slice so n cap,.int .i64 p]] w fun e w'=>e=.returned (.bool (okN 11 T a b c d n))/\Below w.heap.size w w':=by
 have e3:=Uj a b c d;obtain⟨R,hR⟩:∃R,R=okN 11 T a b c d n:=⟨_,rfl⟩;rw[<-hR];go_enter func293,ntmps293
 go_wp2_with fail
 go_region
 go_wp2_with fail
 all_goals(go_ret;exact⟨by(try rw[hR]);unfold okN;simp_all<;>(intros;omega),(B0q.alloc L0q _).drew⟩)
theorem z8W(T:ByteArray)(a b c d p:Int)(so:Option Addr)(n cap:Nat)(w:World)(hT:T.size<=9223372036854775807):
  Calls prog 293 #[.agg #[.int .i64 12,.string T,.int .u64 a,.int .u64 b,.int .u64 c,.int .u64 d,.slice so n cap,.int .i64 p]] w fun e w'=>e=.returned (.bool (okN 12 T a b c d n))/\Below w.heap.size w w':=by
 have e3:=Uj a b c d;obtain⟨R,hR⟩:∃R,R=okN 12 T a b c d n:=⟨_,rfl⟩;rw[<-hR];go_enter func293,ntmps293
 go_wp2_with fail
 go_region
 go_wp2_with fail
 all_goals(go_ret;exact⟨by(try rw[hR]);unfold okN;simp_all<;>(intros;omega),(B0q.alloc L0q _).drew⟩)
theorem z8X(k:Int)(T:ByteArray)(a b c d p:Int)(so:Option Addr)(n cap:Nat)(w:World)(hk:k<1∨12<k)(hT:T.size<=9223372036854775807):
  Calls prog 293 #[.agg #[.int .i64 k,.string T,.int .u64 a,.int .u64 b,.int .u64 c,.int .u64 d,.slice so n cap,.int .i64 p]] w fun e w'=>e=.returned (.bool (okN k T a b c d n))/\Below w.heap.size w w':=by
 have e3:=Uj a b c d;obtain⟨R,hR⟩:∃R,R=okN k T a b c d n:=⟨_,rfl⟩;rw[<-hR];have q1:(k == 1)=false:=by simp;omega
 have q2:(k == 2)=false:=by simp;omega
 have q3:(k == 3)=false:=by simp;omega
 have q4:(k == 4)=false:=by simp;omega
 have q5:(k == 5)=false:=by simp;omega
 have q6:(k == 6)=false:=by simp;omega
 have q7:(k == 7)=false:=by simp;omega
 have q8:(k == 8)=false:=by simp;omega
 have q9:(k == 9)=false:=by simp;omega
 have q10:(k == 10)=false:=by simp;omega
 have q11:(k == 11)=false:=by simp;omega
 have q12:(k == 12)=false:=by simp;omega
 go_enter func293,ntmps293
 go_wp2_with fail
 go_region
 go_wp2_with fail
 all_goals(go_ret;exact⟨by rw[hR];unfold okN;rw[if_neg (by omega),if_neg (by omega),if_neg (by omega),if_neg (by omega),if_neg (by omega),if_neg (by omega)];rfl,(B0q.alloc L0q _).drew⟩)
theorem z1Y(k:Int)(T:ByteArray)(a b c d p:Int)(so:Option Addr)(n cap:Nat)(w:World)(hT:T.size<=9223372036854775807):
  Calls prog 293 #[.agg #[.int .i64 k,.string T,.int .u64 a,.int .u64 b,.int .u64 c,.int .u64 d,.slice so n cap,.int .i64 p]] w fun e w'=>e=.returned (.bool (okN k T a b c d n))/\Below w.heap.size w w':=by
 by_cases hk:k<1∨12<k
 ·exact z8X k T a b c d p so n cap w hk hT
 have h:k=1∨k=2∨k=3∨k=4∨k=5∨k=6∨k=7∨k=8∨k=9∨k=10∨k=11∨k=12:=by omega
 rcases h with rfl|rfl|rfl|rfl|rfl|rfl|rfl|rfl|rfl|rfl|rfl|rfl
 ·exact z8L T a b c d p so n cap w hT
 ·exact z8M T a b c d p so n cap w hT
 ·exact z8N T a b c d p so n cap w hT
 ·exact z8O T a b c d p so n cap w hT
 ·exact z8P T a b c d p so n cap w hT
 ·exact z8Q T a b c d p so n cap w hT
 ·exact z8R T a b c d p so n cap w hT
 ·exact z8S T a b c d p so n cap w hT
 ·exact z8T T a b c d p so n cap w hT
 ·exact z8U T a b c d p so n cap w hT
 ·exact z8V T a b c d p so n cap w hT
 ·exact z8W T a b c d p so n cap w hT
inductive RT where
 |mk (k:Int) (T:ByteArray) (a b c d:Int) (subs:List RT) (p:Int)
@[reducible] def r8 (k:Int) (T:ByteArray) (a b c d:Int) (so:Option Addr) (n cap:Nat) (p:Int):List Value:=
  [.int .i64 k,.string T,.int .u64 a,.int .u64 b,.int .u64 c,.int .u64 d,.slice so n cap,.int .i64 p]
mutual
def Qj(w:World)(B:Nat):RT->List Value->Prop
 | .mk k T a b c d s p,cs=>∃so cap,cs=r8 k T a b c d so (Qp s) cap p/\(s.isEmpty=true∨(s.isEmpty=false/\∃g o,so=some ⟨g,o,none⟩/\g<B/\Qp s<=maxLen/\Ql w B g o s))
def Ql(w:World)(B g:Nat):Nat->List RT->Prop
 |_,[]=>True
 |o,t::r=>(∃cs,Qj w B t cs/\∀j u,cs[j]? =some u->w.cell? ⟨g,o+j,none⟩=some u)/\Ql w B g (o+8) r
def Qp:List RT->Nat
 |[]=>0
 |_::r=>Qp r+1
end
theorem Xd:∀l:List RT,Qp l=l.length
 |[]=>rfl
 |_::r=>by rw[Qp,Xd r];rfl
mutual
def RtZ:RT->Prop
 | .mk _ T _ _ _ _ s _=>T.size<=9223372036854775807/\Yd s
def Yd:List RT->Prop
 |[]=>True
 |t::r=>RtZ t/\Yd r
end
mutual
def okT:RT->Bool
 | .mk k T a b c d s p=>okN k T a b c d (Qp s)&&okL s
def okL:List RT->Bool
 |[]=>true
 |t::r=>okT t&&okL r
end
mutual
theorem Qj.kept{w w':World}{B:Nat}(h:∀g o u,g<B->w.cell? ⟨g,o,none⟩=some u->w'.cell? ⟨g,o,none⟩=some u):∀(t:RT) (cs:List Value),Qj w B t cs->Qj w' B t cs
 | .mk k T a b c d s p,cs,ht=>by
   rw[Qj]at ht ⊢;obtain⟨so,cap,rfl,ht⟩:=ht;refine⟨so,cap,rfl,?_⟩;rcases ht with h1|⟨h1,g,o,h2,h3,h4,h5⟩
   ·exact .inl h1
   ·exact .inr ⟨h1,g,o,h2,h3,h4,Ql.kept h h3 s o h5⟩
theorem Ql.kept{w w':World}{B g:Nat}(h:∀g o u,g<B->w.cell? ⟨g,o,none⟩=some u->w'.cell? ⟨g,o,none⟩=some u)(hg:g<B):∀(s:List RT) (o:Nat),Ql w B g o s->Ql w' B g o s
 |[],o,_=>by rw[Ql];trivial
 |t::r,o,ht=>by
  rw[Ql]at ht ⊢;obtain⟨⟨cs,h1,h2⟩,h3⟩:=ht;exact⟨⟨cs,Qj.kept h t cs h1,fun j u hj=>h g _ u hg (h2 j u hj)⟩,Ql.kept h hg r _ h3⟩
end
theorem Qj.below{w':World}{t:RT}{cs:List Value}(h:Qj w B t cs)(hb:Below B w w'):Qj w' B t cs:=h.kept (fun g o u hg hu=>(hb.cell (p:=⟨g,o,none⟩) hg).trans hu) t cs
theorem Ql.below{w':World}{o:Nat}{s:List RT}(h:Ql w B g o s)(hg:g<B)(hb:Below B w w'):Ql w' B g o s:=h.kept (fun g o u hg hu=>(hb.cell (p:=⟨g,o,none⟩) hg).trans hu) hg s o
theorem Qj.shape{t:RT}{cs:List Value}(h:Qj w B t cs):∃k T a b c d so n cap p,cs=r8 k T a b c d so n cap p:=by
 cases t;rw[Qj]at h;obtain⟨so,cap,rfl,_⟩:=h;exact⟨_,_,_,_,_,_,_,_,_,_,rfl⟩
def Rc(w:World)(g o:Nat)(k:Int)(T:ByteArray)(a b c d:Int)(sv:Value)(p:Int):Prop:=w.cell? ⟨g,o,none⟩=some (.int .i64 k)/\w.cell? ⟨g,o+1,none⟩=some (.string T)/\w.cell? ⟨g,o+2,none⟩=some (.int .u64 a)/\w.cell? ⟨g,o+3,none⟩=some (.int .u64 b)/\w.cell? ⟨g,o+4,none⟩=some (.int .u64 c)/\w.cell? ⟨g,o+5,none⟩=some (.int .u64 d)/\w.cell? ⟨g,o+6,none⟩=some sv/\w.cell? ⟨g,o+7,none⟩=some (.int .i64 p)
theorem Dl{w:World}{B g:Nat}:∀{s:List RT} {o:Nat},Ql w B g o s->∀(k:Nat) (hk:k<s.length),∃kd T a b c d so n cap p,Qj w B s[k] (r8 kd T a b c d so n cap p)/\Rc w g (o+k*8) kd T a b c d (.slice so n cap) p
 |[],o,h,k,hk=>by simp at hk
 |t::r,o,h,0,hk=>by
  rw[Ql]at h;obtain⟨⟨cs,h1,h2⟩,_⟩:=h;obtain⟨kd,T,a,b,c,d,so,n,cap,p,rfl⟩:=h1.shape;refine⟨kd,T,a,b,c,d,so,n,cap,p,h1,?_⟩;rw[Nat.zero_mul,Nat.add_zero];exact⟨h2 0 _ rfl,h2 1 _ rfl,h2 2 _ rfl,h2 3 _ rfl,h2 4 _ rfl,h2 5 _ rfl,h2 6 _ rfl,h2 7 _ rfl⟩
 |t::r,o,h,k+1,hk=>by
  rw[Ql]at h;obtain⟨kd,T,a,b,c,d,so,n,cap,p,h1,h2⟩:=Dl h.2 k (by simpa using hk);refine⟨kd,T,a,b,c,d,so,n,cap,p,h1,?_⟩;rw[show o+(k+1)*8=o+8+k*8 by omega];exact h2
theorem Rc.below{W:World}{o:Nat}{k a b c d p:Int}{T:ByteArray}{sv:Value}(h:Rc w g o k T a b c d sv p)(hb:Below B w W)(hg:g<B):Rc W g o k T a b c d sv p:=by
 obtain⟨h0,h1,h2,h3,h4,h5,h6,h7⟩:=h;have e:∀j,W.cell? ⟨g,j,none⟩=w.cell? ⟨g,j,none⟩:=fun j=>hb.cell (p:=⟨g,j,none⟩) hg
 exact⟨(e _).trans h0,(e _).trans h1,(e _).trans h2,(e _).trans h3,(e _).trans h4,(e _).trans h5,(e _).trans h6,(e _).trans h7⟩
theorem Cm:∀{s:List RT},okL s=true->∀(j:Nat) (hj:j<s.length),okT s[j]=true
 |[],_,j,hj=>by simp at hj
 |t::r,h,0,_=>by rw[okL,Bool.and_eq_true]at h;exact h.1
 |t::r,h,j+1,hj=>by rw[okL,Bool.and_eq_true]at h;exact Cm h.2 j (by simpa using hj)
theorem z1Z:∀{s:List RT} (j:Nat) (hj:j<s.length),okT s[j]=false->okL s=false
 |[],j,hj,_=>by simp at hj
 |t::r,0,_,h=>by rw[okL,show okT t=false from h];rfl
 |t::r,j+1,hj,h=>by rw[okL,z1Z j (by simpa using hj) h,Bool.and_false]
theorem z2a:∀{s:List RT},(∀(j:Nat) (hj:j<s.length),okT s[j]=true)->okL s=true
 |[],_=>by rw[okL]
 |t::r,h=>by rw[okL,show okT t=true from h 0 (by simp),z2a (s:=r) (fun j hj=>h (j+1) (by simpa using hj))];rfl
theorem Yd.get:∀{s:List RT},Yd s->∀(j:Nat) (hj:j<s.length),RtZ s[j]
 |[],_,j,hj=>by simp at hj
 |t::r,h,0,_=>by rw[Yd]at h;exact h.1
 |t::r,h,j+1,hj=>by rw[Yd]at h;exact Yd.get h.2 j (by simpa using hj)
theorem z8Y{a0 a1 a2 a3 a4 a5 a6 a7:Value}(h:w.heap[g]? =some (.cells #[a0,a1,a2,a3,a4,a5,a6,a7] 71)):w.cell? ⟨g,6,none⟩=some a6:=(Qw h).1.2.2.2.2.2.2.1
theorem z8Z(k:Int)(T:ByteArray)(a b c d p:Int)(so:Option Addr)(n cap:Nat)(w:World)(hT:T.size<=9223372036854775807)(hk:okN k T a b c d n=false):
  Calls prog 285 #[.agg (r8 k T a b c d so n cap p).toArray] w fun e w'=>e=.returned (.bool false)/\Below w.heap.size w w':=by
 have HI:=hid (fun w:World=>z1Y k T a b c d p so n cap w hT);rw[hk]at HI;go_enter func285,ntmps285
 go_wp2_with(first|(go_at_call 293;refine(HI.out _).mono ?_;rintro e wq ⟨rfl,hbq⟩))
 go_ret;exact⟨rfl,((Below.refl _ w).alloc L0q _).trans (hbq.mono (by simp))⟩
theorem z2b(k:Int)(T:ByteArray)(a b c d p:Int)(so:Option Addr)(n cap:Nat)(s:List RT)(w:World)(hT:T.size<=9223372036854775807)(hk:okN k T a b c d n=true)(hn:n<=9223372036854775807)(HN:Hid (n=s.length))
  (HC:Hid (∀j (hj:j<s.length),∃g o,so=some ⟨g,o,none⟩/\g<w.heap.size/\∃k1 T1 a1 b1 c1 d1 so1 n1 cap1 p1,Rc w g (o+j*8) k1 T1 a1 b1 c1 d1 (.slice so1 n1 cap1) p1/\
    ∀W:World,Below w.heap.size w W->Calls prog 285 #[.agg (r8 k1 T1 a1 b1 c1 d1 so1 n1 cap1 p1).toArray] W fun e w'=>e=.returned (.bool (okT s[j]))/\Below W.heap.size W w')):
  Calls prog 285 #[.agg (r8 k T a b c d so n cap p).toArray] w fun e w'=>e=.returned (.bool (okL s))/\Below w.heap.size w w':=by
 have HI:=hid (fun w:World=>z1Y k T a b c d p so n cap w hT);rw[hk]at HI;obtain⟨R,hR⟩:∃R,R=okL s:=⟨_,rfl⟩;have HR:=hid hR;rw[<-hR];clear hR hk hT;obtain⟨W1,hW1⟩:∃W1,W1=w.alloc (.cells #[.int .i64 k,.string T,.int .u64 a,.int .u64 b,.int .u64 c,.int .u64 d,.slice so n cap,.int .i64 p] 71):=⟨_,rfl⟩;have HB1:Hid (Below w.heap.size w W1):=by rw[hW1];exact(Below.refl _ w).alloc L0q _
 have HC1:Hid (W1.heap[w.heap.size]? =some (.cells #[.int .i64 k,.string T,.int .u64 a,.int .u64 b,.int .u64 c,.int .u64 d,.slice so n cap,.int .i64 p] 71)):=by rw[hW1];exact Qx w _ rfl
 have HZ1:Hid (W1.heap.size=w.heap.size+1):=by rw[hW1];exact World.size_alloc _ _
 have HW1:=hid hW1;clear hW1;dsimp only[r8];go_enter func285,ntmps285
 go_wp2_with(first|(go_at_call 293;rw[<-HW1.out];refine(HI.out _).mono ?_;rintro e wq ⟨rfl,hbq⟩;have c6:=z8Y ((hbq.block _ (by rw[HZ1.out];exact Nat.lt_succ_self _)).trans HC1.out)))
 have HBq:Hid (Below w.heap.size w wq):=HB1.out.trans (hbq.mono HB1.out.size);clear hbq c6 HB1 HC1 HZ1 HW1 HI
 go_loopw [11] (fun i wr=>∃j:Nat,i=.int .i64 j/\j<=n/\Hid (Below w.heap.size w wr)/\Hid (∀i (hi:i<s.length),i<j->okT s[i]=true)) (fun i _=>n-(intOf i).toNat)
 case atStart=>exact⟨0,rfl,Nat.zero_le _,HBq,fun i _ h=>absurd h (by omega)⟩
 case round=>
  obtain⟨j,rfl,hj,HB,HO⟩:=hrel;clear HBq;by_cases hjn:j<n
  ·have hjI:(j:Int)<(n:Int):=by omega
   have a0:decide ((j:Int)<(n:Int))=true:=by simp;omega
   have hjs:j<s.length:=by rw[<-HN.out];exact hjn
   obtain⟨g,o,rfl,hg,k1,T1,a1,b1,c1,d1,so1,n1,cap1,p1,rc,hc⟩:=HC.out j hjs;obtain⟨z0,z1,z2,z3,z4,z5,z6,z7⟩:=rc.below HB.out hg;have HG:=hid (fun W (hb:Below wr.heap.size wr W)=>hc W (HB.out.trans (hb.mono HB.out.size)));obtain⟨Q,hQ⟩:∃Q,Q=okT s[j]:=⟨_,rfl⟩;rw[<-hQ]at HG;have HQ:=hid hQ;clear hc rc hQ HC;dsimp only[r8]at HG
   go_wp2_with(first|(go_at_call 285;refine(HG.out _ ?hh).mono ?_;(case hh=>exact B0q.alloc L0q _);rintro e wz ⟨rfl,hbz⟩))
   ·rename_i hq
    have hb2:=HB.out.trans ((((Below.refl _ wr).alloc L0q _).trans (hbz.mono (by simp))).mono HB.out.size);go_ret;refine⟨?_,hb2⟩;rw[HR.out,z1Z j hjs (by rw[<-HQ.out];simpa using hq)];rfl
   ·rename_i hq
    have hb2:=HB.out.trans ((((Below.refl _ wr).alloc L0q _).trans (hbz.mono (by simp))).mono HB.out.size);refine⟨⟨j+1,by go_num,by omega,hb2,fun i hi hij=> ?_⟩,?_⟩
    ·rcases Nat.lt_or_ge i j with h1|h1
     ·exact HO.out i hi h1
     ·obtain rfl:i=j:=by omega
      rw[<-HQ.out];simpa using hq
    ·simp[intOf];omega
  ·have a0:decide ((j:Int)<(n:Int))=false:=by simp;omega
   clear HC
   go_wp2_with fail
   go_ret;refine⟨?_,HB.out⟩;rw[HR.out,z2a fun i hi=>HO.out i hi (by have:=HN.out;omega)];rfl
theorem z2c:∀(N:Nat) (t:RT) (cs:List Value) (B:Nat) (w:World),SizeOf.sizeOf t<N->RtZ t->Qj w B t cs->B<=w.heap.size->
  Calls prog 285 #[.agg cs.toArray] w fun e w'=>e=.returned (.bool (okT t))/\Below w.heap.size w w'
 |0,t,_,_,_,h,_,_,_=>by omega
 |N+1,.mk k T a b c d s p,cs,B,w,hN,hz,ht,hB=>by
  rw[RtZ]at hz;rw[Qj]at ht;obtain⟨so,cap,rfl,ht⟩:=ht;rw[okT];cases hk:okN k T a b c d (Qp s)with
  |false=>exact z8Z k T a b c d p so (Qp s) cap w hz.1 hk
  |true=>
   rw[Bool.true_and];rcases ht with h1|⟨h1,g,o,rfl,hg,hm,hs⟩
   ·have hs0:s=[]:=by simpa using h1
    subst hs0;exact z2b k T a b c d p so _ cap [] w hz.1 hk (by rw[Qp];omega) (hid (by rw[Qp];rfl)) (hid (fun j hj=>by simp at hj))
   ·refine z2b k T a b c d p _ _ cap s w hz.1 hk (by unfold maxLen at hm;omega) (hid (Xd s)) (hid (fun j hj=> ?_))
    obtain⟨k1,T1,a1,b1,c1,d1,so1,n1,cap1,p1,r1,r2⟩:=Dl hs j hj;refine⟨g,o,rfl,by omega,k1,T1,a1,b1,c1,d1,so1,n1,cap1,p1,r2,fun W hW=> ?_⟩;have hsz:=List.sizeOf_lt_of_mem (List.getElem_mem hj);simp only[RT.mk.sizeOf_spec]at hN;exact z2c N s[j] _ B W (by omega) (hz.2.get j hj) (r1.below (hW.mono hB)) (Nat.le_trans hB hW.size)
theorem z9a(t:RT)(cs:List Value)(B:Nat)(w:World)(hz:RtZ t)(h:Qj w B t cs)(hB:B<=w.heap.size):
 Calls prog 285 #[.agg cs.toArray] w fun e w'=>e=.returned (.bool (okT t))/\Below w.heap.size w w':=z2c _ t cs B w (Nat.lt_succ_self _) hz h hB
end Go.Proofs.YtlogolpcipiceaaGreatDoor
