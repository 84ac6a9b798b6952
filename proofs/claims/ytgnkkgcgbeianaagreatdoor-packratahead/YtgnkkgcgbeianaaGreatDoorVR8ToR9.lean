/- Lemmas for the last text. Conditions: those that each names. -/
import Derived.Test.YtgnkkgcgbeianaaGreatDoorVR5ToR7
set_option linter.unusedVariables false
set_option maxRecDepth 100000
set_option maxHeartbeats 8000000
namespace Go.Proofs.YtgnkkgcgbeianaaGreatDoor
open Go.Proofs.Tryz
open Go.RowKit Go.Shelf
variable {w:World} {B:Nat}
theorem y1M(S:ByteArray)(w:World)(r:32<S.size)(t:S.size<=9223372036854775807):
  Calls prog 281 #[.string S] w fun e w'=>e=.returned (.bool false)/\w'=w:=by
 have y:S.toList.isEmpty=false:=by
  rw[Go.ByteArray.toList_eq];cases h:S.data.toList with
  |nil=>
   have o:S.data.toList.length=0:=by rw[h];rfl
   have A:S.data.size=S.size:=rfl;rw[Array.length_toList]at o;omega
  |cons _ _=>rfl
 have D:decide ((S.size:Int)<=32)=false:=by simp;omega
 go_enter func281,ntmps281
 go_wp2_with fail
 go_ret;exact⟨rfl,rfl⟩
theorem z3v(S:ByteArray)(w:World)(o:S.size<=9223372036854775807):
  Calls prog 281 #[.string S] w fun e w'=>e=.returned (.bool (nmS S))/\w'=w:=by
 rcases Nat.lt_or_ge 32 S.size with h|h
 ·have e:nmS S=false:=by
   unfold nmS;split
   ·rfl
   ·rw[decide_eq_false (by omega)];rfl
  rw[e];exact y1M S w h o
 ·exact z8S S w (by omega)
def zc(a b c d:Int):Bool:=a == 0&&(b == 0&&(c == 0&&d == 0))
def okN(k:Int)(T:ByteArray)(a b c d:Int)(n:Nat):Bool:=
 if k=1∨k=4 then T.toList.isEmpty&&(zc a b c d&&((n:Int) == 0))
 else if k=2 then decide ((T.size:Int)<=255)&&(zc a b c d&&((n:Int) == 0))
 else if k=3 then T.toList.isEmpty&&((n:Int) == 0)
 else if k=5 then nmS T&&(zc a b c d&&((n:Int) == 0))
 else if k=6∨k=7 then T.toList.isEmpty&&(zc a b c d&&decide (2<=(n:Int)))
 else if 8<=k/\k<=12 then T.toList.isEmpty&&(zc a b c d&&((n:Int) == 1))
 else false
theorem Uh(a b c d:Int)(w:World):(Op.equalIn 10000 54 (.agg #[.int .u64 a,.int .u64 b,.int .u64 c,.int .u64 d]) (.agg #[.int .u64 0,.int .u64 0,.int .u64 0,.int .u64 0])).run prog w=.ok (zc a b c d) w:=Rf 9998 w a b c d 0 0 0 0
theorem y1N(T:ByteArray)(a b c d p:Int)(o:Option Addr)(n r:Nat)(w:World)(t:T.size<=9223372036854775807):
  Calls prog 293 #[.agg #[.int .i64 1,.string T,.int .u64 a,.int .u64 b,.int .u64 c,.int .u64 d,.slice o n r,.int .i64 p]] w fun e w'=>e=.returned (.bool (okN 1 T a b c d n))/\Below w.heap.size w w':=by
 have y:=Uh a b c d;obtain⟨R,h⟩:∃R,R=okN 1 T a b c d n:=⟨_,rfl⟩;rw[<-h];go_enter func293,ntmps293
 go_wp2_with fail
 go_region
 go_wp2_with fail
 all_goals(go_ret;exact⟨by(try rw[h]);unfold okN;simp_all<;>(intros;omega),(B0q.alloc L0q _).drew⟩)
theorem y1O(T:ByteArray)(a b c d p:Int)(o:Option Addr)(n r:Nat)(w:World)(t:T.size<=9223372036854775807):
  Calls prog 293 #[.agg #[.int .i64 2,.string T,.int .u64 a,.int .u64 b,.int .u64 c,.int .u64 d,.slice o n r,.int .i64 p]] w fun e w'=>e=.returned (.bool (okN 2 T a b c d n))/\Below w.heap.size w w':=by
 have y:=Uh a b c d;obtain⟨R,h⟩:∃R,R=okN 2 T a b c d n:=⟨_,rfl⟩;rw[<-h];go_enter func293,ntmps293
 go_wp2_with fail
 go_region
 go_wp2_with fail
 all_goals(go_ret;exact⟨by(try rw[h]);unfold okN;simp_all<;>(intros;omega),(B0q.alloc L0q _).drew⟩)
theorem y1P(T:ByteArray)(a b c d p:Int)(o:Option Addr)(n r:Nat)(w:World)(t:T.size<=9223372036854775807):
  Calls prog 293 #[.agg #[.int .i64 3,.string T,.int .u64 a,.int .u64 b,.int .u64 c,.int .u64 d,.slice o n r,.int .i64 p]] w fun e w'=>e=.returned (.bool (okN 3 T a b c d n))/\Below w.heap.size w w':=by
 have y:=Uh a b c d;obtain⟨R,h⟩:∃R,R=okN 3 T a b c d n:=⟨_,rfl⟩;rw[<-h];go_enter func293,ntmps293
 go_wp2_with fail
 go_region
 go_wp2_with fail
 all_goals(go_ret;exact⟨by(try rw[h]);unfold okN;simp_all<;>(intros;omega),(B0q.alloc L0q _).drew⟩)
theorem y1Q(T:ByteArray)(a b c d p:Int)(o:Option Addr)(n r:Nat)(w:World)(t:T.size<=9223372036854775807):
  Calls prog 293 #[.agg #[.int .i64 4,.string T,.int .u64 a,.int .u64 b,.int .u64 c,.int .u64 d,.slice o n r,.int .i64 p]] w fun e w'=>e=.returned (.bool (okN 4 T a b c d n))/\Below w.heap.size w w':=by
 have y:=Uh a b c d;obtain⟨R,h⟩:∃R,R=okN 4 T a b c d n:=⟨_,rfl⟩;rw[<-h];go_enter func293,ntmps293
 go_wp2_with fail
 go_region
 go_wp2_with fail
 all_goals(go_ret;exact⟨by(try rw[h]);unfold okN;simp_all<;>(intros;omega),(B0q.alloc L0q _).drew⟩)
theorem y1R(T:ByteArray)(a b c d p:Int)(o:Option Addr)(n r:Nat)(w:World)(t:T.size<=9223372036854775807):
  Calls prog 293 #[.agg #[.int .i64 5,.string T,.int .u64 a,.int .u64 b,.int .u64 c,.int .u64 d,.slice o n r,.int .i64 p]] w fun e w'=>e=.returned (.bool (okN 5 T a b c d n))/\Below w.heap.size w w':=by
 have y:=Uh a b c d;obtain⟨R,h⟩:∃R,R=okN 5 T a b c d n:=⟨_,rfl⟩;rw[<-h];go_enter func293,ntmps293
 go_wp2_with fail
 go_region
 go_wp2_with(go_at_call 281;refine(z3v T _ t).mono ?_;rintro e A ⟨rfl,rfl⟩)
 all_goals(go_ret;exact⟨by(try rw[h]);unfold okN;simp_all<;>(intros;omega),(B0q.alloc L0q _).drew⟩)
theorem y1S(T:ByteArray)(a b c d p:Int)(o:Option Addr)(n r:Nat)(w:World)(t:T.size<=9223372036854775807):
  Calls prog 293 #[.agg #[.int .i64 6,.string T,.int .u64 a,.int .u64 b,.int .u64 c,.int .u64 d,.slice o n r,.int .i64 p]] w fun e w'=>e=.returned (.bool (okN 6 T a b c d n))/\Below w.heap.size w w':=by
 have y:=Uh a b c d;obtain⟨R,h⟩:∃R,R=okN 6 T a b c d n:=⟨_,rfl⟩;rw[<-h];go_enter func293,ntmps293
 go_wp2_with fail
 go_region
 go_wp2_with fail
 all_goals(go_ret;exact⟨by(try rw[h]);unfold okN;simp_all<;>(intros;omega),(B0q.alloc L0q _).drew⟩)
theorem y1T(T:ByteArray)(a b c d p:Int)(o:Option Addr)(n r:Nat)(w:World)(t:T.size<=9223372036854775807):
  Calls prog 293 #[.agg #[.int .i64 7,.string T,.int .u64 a,.int .u64 b,.int .u64 c,.int .u64 d,.slice o n r,.int .i64 p]] w fun e w'=>e=.returned (.bool (okN 7 T a b c d n))/\Below w.heap.size w w':=by
 have y:=Uh a b c d;obtain⟨R,h⟩:∃R,R=okN 7 T a b c d n:=⟨_,rfl⟩;rw[<-h];go_enter func293,ntmps293
 go_wp2_with fail
 go_region
 go_wp2_with fail
 all_goals(go_ret;exact⟨by(try rw[h]);unfold okN;simp_all<;>(intros;omega),(B0q.alloc L0q _).drew⟩)
theorem y1U(T:ByteArray)(a b c d p:Int)(o:Option Addr)(n r:Nat)(w:World)(t:T.size<=9223372036854775807):
  Calls prog 293 #[.agg #[.int .i64 8,.string T,.int .u64 a,.int .u64 b,.int .u64 c,.int .u64 d,.slice o n r,.int .i64 p]] w fun e w'=>e=.returned (.bool (okN 8 T a b c d n))/\Below w.heap.size w w':=by
 have y:=Uh a b c d;obtain⟨R,h⟩:∃R,R=okN 8 T a b c d n:=⟨_,rfl⟩;rw[<-h];go_enter func293,ntmps293
 go_wp2_with fail
 go_region
 go_wp2_with fail
 all_goals(go_ret;exact⟨by(try rw[h]);unfold okN;simp_all<;>(intros;omega),(B0q.alloc L0q _).drew⟩)
theorem y1V(T:ByteArray)(a b c d p:Int)(o:Option Addr)(n r:Nat)(w:World)(t:T.size<=9223372036854775807):
  Calls prog 293 #[.agg #[.int .i64 9,.string T,.int .u64 a,.int .u64 b,.int .u64 c,.int .u64 d,.slice o n r,.int .i64 p]] w fun e w'=>e=.returned (.bool (okN 9 T a b c d n))/\Below w.heap.size w w':=by
 have y:=Uh a b c d;obtain⟨R,h⟩:∃R,R=okN 9 T a b c d n:=⟨_,rfl⟩;rw[<-h];go_enter func293,ntmps293
 go_wp2_with fail
 go_region
 go_wp2_with fail
 all_goals(go_ret;exact⟨by(try rw[h]);unfold okN;simp_all<;>(intros;omega),(B0q.alloc L0q _).drew⟩)
theorem y1W(T:ByteArray)(a b c d p:Int)(o:Option Addr)(n r:Nat)(w:World)(t:T.size<=9223372036854775807):
  Calls prog 293 #[.agg #[.int .i64 10,.string T,.int .u64 a,.int .u64 b,.int .u64 c,.int .u64 d,.slice o n r,.int .i64 p]] w fun e w'=>e=.returned (.bool (okN 10 T a b c d n))/\Below w.heap.size w w':=by
 have y:=Uh a b c d;obtain⟨R,h⟩:∃R,R=okN 10 T a b c d n:=⟨_,rfl⟩;rw[<-h];go_enter func293,ntmps293
 go_wp2_with fail
 go_region
 go_wp2_with fail
 all_goals(go_ret;exact⟨by(try rw[h]);unfold okN;simp_all<;>(intros;omega),(B0q.alloc L0q _).drew⟩)
theorem y1X(T:ByteArray)(a b c d p:Int)(o:Option Addr)(n r:Nat)(w:World)(t:T.size<=9223372036854775807):
  Calls prog 293 #[.agg #[.int .i64 11,.string T,.int .u64 a,.int .u64 b,.int .u64 c,.int .u64 d,.slice o n r,.int .i64 p]] w fun e w'=>e=.returned (.bool (okN 11 T a b c d n))/\Below w.heap.size w w':=by
 have y:=Uh a b c d;obtain⟨R,h⟩:∃R,R=okN 11 T a b c d n:=⟨_,rfl⟩;rw[<-h];go_enter func293,ntmps293
 go_wp2_with fail
 go_region
 go_wp2_with fail
 all_goals(go_ret;exact⟨by(try rw[h]);unfold okN;simp_all<;>(intros;omega),(B0q.alloc L0q _).drew⟩)
theorem y1Y(T:ByteArray)(a b c d p:Int)(o:Option Addr)(n r:Nat)(w:World)(t:T.size<=9223372036854775807):
  Calls prog 293 #[.agg #[.int .i64 12,.string T,.int .u64 a,.int .u64 b,.int .u64 c,.int .u64 d,.slice o n r,.int .i64 p]] w fun e w'=>e=.returned (.bool (okN 12 T a b c d n))/\Below w.heap.size w w':=by
 have y:=Uh a b c d;obtain⟨R,h⟩:∃R,R=okN 12 T a b c d n:=⟨_,rfl⟩;rw[<-h];go_enter func293,ntmps293
 go_wp2_with fail
 go_region
 go_wp2_with fail
 all_goals(go_ret;exact⟨by(try rw[h]);unfold okN;simp_all<;>(intros;omega),(B0q.alloc L0q _).drew⟩)
theorem y1Z(k:Int)(T:ByteArray)(a b c d p:Int)(o:Option Addr)(n r:Nat)(w:World)(t:k<1∨12<k)(y:T.size<=9223372036854775807):
  Calls prog 293 #[.agg #[.int .i64 k,.string T,.int .u64 a,.int .u64 b,.int .u64 c,.int .u64 d,.slice o n r,.int .i64 p]] w fun e w'=>e=.returned (.bool (okN k T a b c d n))/\Below w.heap.size w w':=by
 have A:=Uh a b c d;obtain⟨R,h⟩:∃R,R=okN k T a b c d n:=⟨_,rfl⟩;rw[<-h];have D:(k == 1)=false:=by simp;omega
 have E:(k == 2)=false:=by simp;omega
 have G:(k == 3)=false:=by simp;omega
 have I:(k == 4)=false:=by simp;omega
 have U:(k == 5)=false:=by simp;omega
 have V:(k == 6)=false:=by simp;omega
 have Y:(k == 7)=false:=by simp;omega
 have Z:(k == 8)=false:=by simp;omega
 have q9:(k == 9)=false:=by simp;omega
 have aa:(k == 10)=false:=by simp;omega
 have ab:(k == 11)=false:=by simp;omega
 have ac:(k == 12)=false:=by simp;omega
 go_enter func293,ntmps293
 go_wp2_with fail
 go_region
 go_wp2_with fail
 all_goals(go_ret;exact⟨by rw[h];unfold okN;rw[if_neg (by omega),if_neg (by omega),if_neg (by omega),if_neg (by omega),if_neg (by omega),if_neg (by omega)];rfl,(B0q.alloc L0q _).drew⟩)
theorem z3w(k:Int)(T:ByteArray)(a b c d p:Int)(o:Option Addr)(n r:Nat)(w:World)(t:T.size<=9223372036854775807):
  Calls prog 293 #[.agg #[.int .i64 k,.string T,.int .u64 a,.int .u64 b,.int .u64 c,.int .u64 d,.slice o n r,.int .i64 p]] w fun e w'=>e=.returned (.bool (okN k T a b c d n))/\Below w.heap.size w w':=by
 by_cases hk:k<1∨12<k
 ·exact y1Z k T a b c d p o n r w hk t
 have h:k=1∨k=2∨k=3∨k=4∨k=5∨k=6∨k=7∨k=8∨k=9∨k=10∨k=11∨k=12:=by omega
 rcases h with rfl|rfl|rfl|rfl|rfl|rfl|rfl|rfl|rfl|rfl|rfl|rfl
 ·exact y1N T a b c d p o n r w t
 ·exact y1O T a b c d p o n r w t
 ·exact y1P T a b c d p o n r w t
 ·exact y1Q T a b c d p o n r w t
 ·exact y1R T a b c d p o n r w t
 ·exact y1S T a b c d p o n r w t
 ·exact y1T T a b c d p o n r w t
 ·exact y1U T a b c d p o n r w t
 ·exact y1V T a b c d p o n r w t
 ·exact y1W T a b c d p o n r w t
 ·exact y1X T a b c d p o n r w t
 ·exact y1Y T a b c d p o n r w t
inductive RT where
 |mk (k:Int) (T:ByteArray) (a b c d:Int) (subs:List RT) (p:Int)
@[reducible] def r8 (k:Int) (T:ByteArray) (a b c d:Int) (so:Option Addr) (n cap:Nat) (p:Int):List Value:=
  [.int .i64 k,.string T,.int .u64 a,.int .u64 b,.int .u64 c,.int .u64 d,.slice so n cap,.int .i64 p]
mutual
def Qv(w:World)(B:Nat):RT->List Value->Prop
 | .mk k T a b c d s p,cs=>∃so cap,cs=r8 k T a b c d so (Qb s) cap p/\(s.isEmpty=true∨(s.isEmpty=false/\∃g o,so=some ⟨g,o,none⟩/\g<B/\Qb s<=maxLen/\Zx w B g o s))
def Zx(w:World)(B g:Nat):Nat->List RT->Prop
 |_,[]=>True
 |o,t::r=>(∃cs,Qv w B t cs/\∀j u,cs[j]? =some u->w.cell? ⟨g,o+j,none⟩=some u)/\Zx w B g (o+8) r
def Qb:List RT->Nat
 |[]=>0
 |_::r=>Qb r+1
end
theorem Xc:∀l:List RT,Qb l=l.length
 |[]=>rfl
 |_::r=>by rw[Qb,Xc r];rfl
mutual
def RtZ:RT->Prop
 | .mk _ T _ _ _ _ s _=>T.size<=9223372036854775807/\Xl s
def Xl:List RT->Prop
 |[]=>True
 |t::r=>RtZ t/\Xl r
end
mutual
def okT:RT->Bool
 | .mk k T a b c d s p=>okN k T a b c d (Qb s)&&okL s
def okL:List RT->Bool
 |[]=>true
 |t::r=>okT t&&okL r
end
mutual
theorem Qv.kept{w w':World}{B:Nat}(h:∀g o u,g<B->w.cell? ⟨g,o,none⟩=some u->w'.cell? ⟨g,o,none⟩=some u):∀(t:RT) (y:List Value),Qv w B t y->Qv w' B t y
 | .mk k T a b c d s p,y,r=>by
   rw[Qv]at r ⊢;obtain⟨E,G,rfl,r⟩:=r;refine⟨E,G,rfl,?_⟩;rcases r with A|⟨A,g,o,I,D,U,V⟩
   ·exact .inl A
   ·exact .inr ⟨A,g,o,I,D,U,Zx.kept h D s o V⟩
theorem Zx.kept{w w':World}{B g:Nat}(h:∀g o u,g<B->w.cell? ⟨g,o,none⟩=some u->w'.cell? ⟨g,o,none⟩=some u)(y:g<B):∀(s:List RT) (o:Nat),Zx w B g o s->Zx w' B g o s
 |[],o,_=>by rw[Zx];trivial
 |t::r,o,ht=>by
  rw[Zx]at ht ⊢;obtain⟨⟨A,D,E⟩,G⟩:=ht;exact⟨⟨A,Qv.kept h t A D,fun j u I=>h g _ u y (E j u I)⟩,Zx.kept h y r _ G⟩
end
theorem Qv.below{w':World}{t:RT}{r:List Value}(h:Qv w B t r)(y:Below B w w'):Qv w' B t r:=h.kept (fun g o u A D=>(y.cell (p:=⟨g,o,none⟩) A).trans D) t r
theorem Qv.shape{t:RT}{o:List Value}(h:Qv w B t o):∃k T a b c d r n y p,o=r8 k T a b c d r n y p:=by
 cases t;rw[Qv]at h;obtain⟨r,y,rfl,_⟩:=h;exact⟨_,_,_,_,_,_,_,_,_,_,rfl⟩
def Rc(w:World)(g o:Nat)(k:Int)(T:ByteArray)(a b c d:Int)(sv:Value)(p:Int):Prop:=w.cell? ⟨g,o,none⟩=some (.int .i64 k)/\w.cell? ⟨g,o+1,none⟩=some (.string T)/\w.cell? ⟨g,o+2,none⟩=some (.int .u64 a)/\w.cell? ⟨g,o+3,none⟩=some (.int .u64 b)/\w.cell? ⟨g,o+4,none⟩=some (.int .u64 c)/\w.cell? ⟨g,o+5,none⟩=some (.int .u64 d)/\w.cell? ⟨g,o+6,none⟩=some sv/\w.cell? ⟨g,o+7,none⟩=some (.int .i64 p)
theorem Aj{w:World}{B g:Nat}:∀{s:List RT} {o:Nat},Zx w B g o s->∀(k:Nat) (E:k<s.length),∃kd T a b c d A n D p,Qv w B s[k] (r8 kd T a b c d A n D p)/\Rc w g (o+k*8) kd T a b c d (.slice A n D) p
 |[],o,h,k,E=>by simp at E
 |t::r,o,h,0,E=>by
  rw[Zx]at h;obtain⟨⟨I,G,y⟩,_⟩:=h;obtain⟨kd,T,a,b,c,d,A,n,D,p,rfl⟩:=G.shape;refine⟨kd,T,a,b,c,d,A,n,D,p,G,?_⟩;rw[Nat.zero_mul,Nat.add_zero];exact⟨y 0 _ rfl,y 1 _ rfl,y 2 _ rfl,y 3 _ rfl,y 4 _ rfl,y 5 _ rfl,y 6 _ rfl,y 7 _ rfl⟩
 |t::r,o,h,k+1,E=>by
  rw[Zx]at h;obtain⟨kd,T,a,b,c,d,A,n,D,p,G,y⟩:=Aj h.2 k (by simpa using E);refine⟨kd,T,a,b,c,d,A,n,D,p,G,?_⟩;rw[show o+(k+1)*8=o+8+k*8 by omega];exact y
theorem Rc.below{W:World}{g o:Nat}{k a b c d p:Int}{T:ByteArray}{sv:Value}(h:Rc w g o k T a b c d sv p)(r:Below B w W)(t:g<B):Rc W g o k T a b c d sv p:=by
 obtain⟨y,A,D,E,G,I,U,V⟩:=h;have e:∀j,W.cell? ⟨g,j,none⟩=w.cell? ⟨g,j,none⟩:=fun j=>r.cell (p:=⟨g,j,none⟩) t
 exact⟨(e _).trans y,(e _).trans A,(e _).trans D,(e _).trans E,(e _).trans G,(e _).trans I,(e _).trans U,(e _).trans V⟩
theorem Hy:∀{s:List RT},okL s=true->∀(j:Nat) (o:j<s.length),okT s[j]=true
 |[],_,j,o=>by simp at o
 |t::r,h,0,_=>by rw[okL,Bool.and_eq_true]at h;exact h.1
 |t::r,h,j+1,o=>by rw[okL,Bool.and_eq_true]at h;exact Hy h.2 j (by simpa using o)
theorem z3x:∀{s:List RT} (j:Nat) (o:j<s.length),okT s[j]=false->okL s=false
 |[],j,o,_=>by simp at o
 |t::r,0,_,h=>by rw[okL,show okT t=false from h];rfl
 |t::r,j+1,o,h=>by rw[okL,z3x j (by simpa using o) h,Bool.and_false]
theorem z3y:∀{s:List RT},(∀(j:Nat) (o:j<s.length),okT s[j]=true)->okL s=true
 |[],_=>by rw[okL]
 |t::r,h=>by rw[okL,show okT t=true from h 0 (by simp),z3y (s:=r) (fun j o=>h (j+1) (by simpa using o))];rfl
theorem Xl.get:∀{s:List RT},Xl s->∀(j:Nat) (o:j<s.length),RtZ s[j]
 |[],_,j,o=>by simp at o
 |t::r,h,0,_=>by rw[Xl]at h;exact h.1
 |t::r,h,j+1,o=>by rw[Xl]at h;exact Xl.get h.2 j (by simpa using o)
theorem y2a{g:Nat}{r a1 a2 a3 a4 t o y:Value}(h:w.heap[g]? =some (.cells #[r,a1,a2,a3,a4,t,o,y] 81)):w.cell? ⟨g,6,none⟩=some o:=(Qy h).1.2.2.2.2.2.2.1
theorem y2b(k:Int)(T:ByteArray)(a b c d p:Int)(h:Option Addr)(n o:Nat)(w:World)(t:T.size<=9223372036854775807)(y:okN k T a b c d n=false):
  Calls prog 282 #[.agg (r8 k T a b c d h n o p).toArray] w fun e w'=>e=.returned (.bool false)/\Below w.heap.size w w':=by
 have r:=hid (fun w:World=>z3w k T a b c d p h n o w t);rw[y]at r;go_enter func282,ntmps282
 go_wp2_with(first|(go_at_call 293;refine(r.out _).mono ?_;rintro e D ⟨rfl,A⟩))
 go_ret;exact⟨rfl,((Below.refl _ w).alloc L0q _).trans (A.mono (by simp))⟩
theorem z3z(k:Int)(T:ByteArray)(a b c d p:Int)(t:Option Addr)(n D:Nat)(s:List RT)(w:World)(hT:T.size<=9223372036854775807)(hk:okN k T a b c d n=true)(hn:n<=9223372036854775807)(HN:Hid (n=s.length))
  (G:Hid (∀j (hj:j<s.length),∃g o,t=some ⟨g,o,none⟩/\g<w.heap.size/\∃I U a1 V c1 Y Z n1 aa p1,Rc w g (o+j*8) I U a1 V c1 Y (.slice Z n1 aa) p1/\
    ∀W:World,Below w.heap.size w W->Calls prog 282 #[.agg (r8 I U a1 V c1 Y Z n1 aa p1).toArray] W fun e w'=>e=.returned (.bool (okT s[j]))/\Below W.heap.size W w')):
  Calls prog 282 #[.agg (r8 k T a b c d t n D p).toArray] w fun e w'=>e=.returned (.bool (okL s))/\Below w.heap.size w w':=by
 have HI:=hid (fun w:World=>z3w k T a b c d p t n D w hT);rw[hk]at HI;obtain⟨R,hR⟩:∃R,R=okL s:=⟨_,rfl⟩;have HR:=hid hR;rw[<-hR];clear hR hk hT;obtain⟨y,A⟩:∃y,y=w.alloc (.cells #[.int .i64 k,.string T,.int .u64 a,.int .u64 b,.int .u64 c,.int .u64 d,.slice t n D,.int .i64 p] 81):=⟨_,rfl⟩;have ab:Hid (Below w.heap.size w y):=by rw[A];exact(Below.refl _ w).alloc L0q _
 have ae:Hid (y.heap[w.heap.size]? =some (.cells #[.int .i64 k,.string T,.int .u64 a,.int .u64 b,.int .u64 c,.int .u64 d,.slice t n D,.int .i64 p] 81)):=by rw[A];exact Qx w _ rfl
 have af:Hid (y.heap.size=w.heap.size+1):=by rw[A];exact World.size_alloc _ _
 have ag:=hid A;clear A;dsimp only[r8];go_enter func282,ntmps282
 go_wp2_with(first|(go_at_call 293;rw[<-ag.out];refine(HI.out _).mono ?_;rintro e wq ⟨rfl,ac⟩;have c6:=y2a ((ac.block _ (by rw[af.out];exact Nat.lt_succ_self _)).trans ae.out)))
 have ah:Hid (Below w.heap.size w wq):=ab.out.trans (ac.mono ab.out.size);clear ac c6 ab ae af ag HI
 go_loopw [11] (fun i wr=>∃j:Nat,i=.int .i64 j/\j<=n/\Hid (Below w.heap.size w wr)/\Hid (∀i (E:i<s.length),i<j->okT s[i]=true)) (fun i _=>n-(intOf i).toNat)
 case atStart=>exact⟨0,rfl,Nat.zero_le _,ah,fun i _ h=>absurd h (by omega)⟩
 case round=>
  obtain⟨j,rfl,hj,r,HO⟩:=hrel;clear ah;by_cases hjn:j<n
  ·have ak:(j:Int)<(n:Int):=by omega
   have a0:decide ((j:Int)<(n:Int))=true:=by simp;omega
   have ai:j<s.length:=by rw[<-HN.out];exact hjn
   obtain⟨g,o,rfl,hg,I,U,a1,V,c1,Y,Z,n1,aa,p1,rc,hc⟩:=G.out j ai;obtain⟨z0,z1,z2,z3,z4,z5,z6,z7⟩:=rc.below r.out hg;have HG:=hid (fun W (hb:Below wr.heap.size wr W)=>hc W (r.out.trans (hb.mono r.out.size)));obtain⟨Q,hQ⟩:∃Q,Q=okT s[j]:=⟨_,rfl⟩;rw[<-hQ]at HG;have HQ:=hid hQ;clear hc rc hQ G;dsimp only[r8]at HG
   go_wp2_with(first|(go_at_call 282;refine(HG.out _ ?hh).mono ?_;(case hh=>exact B0q.alloc L0q _);rintro e wz ⟨rfl,aj⟩))
   ·rename_i hq
    have ad:=r.out.trans ((((Below.refl _ wr).alloc L0q _).trans (aj.mono (by simp))).mono r.out.size);go_ret;refine⟨?_,ad⟩;rw[HR.out,z3x j ai (by rw[<-HQ.out];simpa using hq)];rfl
   ·rename_i hq
    have ad:=r.out.trans ((((Below.refl _ wr).alloc L0q _).trans (aj.mono (by simp))).mono r.out.size);refine⟨⟨j+1,by go_num,by omega,ad,fun i E al=> ?_⟩,?_⟩
    ·rcases Nat.lt_or_ge i j with h1|h1
     ·exact HO.out i E h1
     ·obtain rfl:i=j:=by omega
      rw[<-HQ.out];simpa using hq
    ·simp[intOf];omega
  ·have a0:decide ((j:Int)<(n:Int))=false:=by simp;omega
   clear G
   go_wp2_with fail
   go_ret;refine⟨?_,r.out⟩;rw[HR.out,z3y fun i E=>HO.out i E (by have:=HN.out;omega)];rfl
theorem z3A:∀(N:Nat) (t:RT) (A:List Value) (B:Nat) (w:World),SizeOf.sizeOf t<N->RtZ t->Qv w B t A->B<=w.heap.size->
  Calls prog 282 #[.agg A.toArray] w fun e w'=>e=.returned (.bool (okT t))/\Below w.heap.size w w'
 |0,t,_,_,_,h,_,_,_=>by omega
 |N+1,.mk k T a b c d s p,A,B,w,hN,hz,y,hB=>by
  rw[RtZ]at hz;rw[Qv]at y;obtain⟨E,D,rfl,y⟩:=y;rw[okT];cases hk:okN k T a b c d (Qb s)with
  |false=>exact y2b k T a b c d p E (Qb s) D w hz.1 hk
  |true=>
   rw[Bool.true_and];rcases y with G|⟨G,g,o,rfl,hg,U,V⟩
   ·have Y:s=[]:=by simpa using G
    subst Y;exact z3z k T a b c d p E _ D [] w hz.1 hk (by rw[Qb];omega) (hid (by rw[Qb];rfl)) (hid (fun j r=>by simp at r))
   ·refine z3z k T a b c d p _ _ D s w hz.1 hk (by unfold maxLen at U;omega) (hid (Xc s)) (hid (fun j r=> ?_))
    obtain⟨Z,T1,a1,b1,c1,d1,aa,n1,ab,p1,r1,r2⟩:=Aj V j r;refine⟨g,o,rfl,by omega,Z,T1,a1,b1,c1,d1,aa,n1,ab,p1,r2,fun W I=> ?_⟩;have ac:=List.sizeOf_lt_of_mem (List.getElem_mem r);simp only[RT.mk.sizeOf_spec]at hN;exact z3A N s[j] _ B W (by omega) (hz.2.get j r) (r1.below (I.mono hB)) (Nat.le_trans hB I.size)
theorem y2c(t:RT)(o:List Value)(B:Nat)(w:World)(r:RtZ t)(h:Qv w B t o)(y:B<=w.heap.size):
 Calls prog 282 #[.agg o.toArray] w fun e w'=>e=.returned (.bool (okT t))/\Below w.heap.size w w':=z3A _ t o B w (Nat.lt_succ_self _) r h y
end Go.Proofs.YtgnkkgcgbeianaaGreatDoor
