/- Lemmas for the last text. Conditions: those that each names. -/
import Derived.Test.YtlogolpcipiceaaGreatDoorVO14ToO26
import Derived.Maps.AppendAt
import Derived.Test.YtlogolpcipiceaaGreatDoorVS1ToO4
import Derived.Test.YtlogolpcipiceaaGreatDoorVO6ToS4
import Derived.Deep.RegionHeld3
set_option linter.unusedVariables false
set_option maxRecDepth 100000
set_option maxHeartbeats 4000000
namespace Go.Proofs.YtlogolpcipiceaaGreatDoor
open Go.Proofs.Tryz
open Go.RowKit Go.Shelf
variable {w:World}
def RqR(w:World)(P:Nat->Prop)(x:Rr)(cs:List Value):Prop:=∃c,cs=.string x.1::(c++[.int .i64 x.2.2])/\Zm w P x.2.1 c
def Zb(w:World)(P:Nat->Prop):List Rr->List Value->Prop
 |[],_=>True
 |x::r,vs=>∃c rest,vs=c++rest/\RqR w P x c/\Zb w P r rest
theorem RqR.len{w:World}{P:Nat->Prop}{x:Rr}{c:List Value}(h:RqR w P x c):c.length=10:=by
 obtain⟨c1,rfl,h2⟩:=h;have:=h2.len;simp;omega
theorem Zb.kept{w w':World}{P Q:Nat->Prop}(hk:∀g cur,P g->w.heap[g]? =some (.cells cur 71)->w'.heap[g]? =w.heap[g]? /\Q g):∀(l:List Rr) (vs:List Value),Zb w P l vs->Zb w' Q l vs
 |[],vs,h=>by rw[Zb];trivial
 |n::r,vs,h=>by
  rw[Zb]at h ⊢;obtain⟨c,rest,h1,⟨c1,h2,h3⟩,h4⟩:=h;exact⟨c,rest,h1,⟨c1,h2,Zm.kept hk _ _ h3⟩,Zb.kept hk r rest h4⟩
theorem Zb.append{w:World}{P:Nat->Prop}:∀(l:List Rr) (vs:List Value) (n:Rr) (c:List Value),Zb w P l vs->vs.length=l.length*10->RqR w P n c->Zb w P (l++[n]) (vs++c)
 |[],vs,n,c,_,hl,hn=>by
  have:vs=[]:=List.eq_nil_of_length_eq_zero (by simpa using hl);subst this;rw[List.nil_append,Zb];exact⟨c,[],by simp,hn,by rw[Zb];trivial⟩
 |m::r,vs,n,c,h,hl,hn=>by
  rw[Zb]at h;obtain⟨d,rest,rfl,h2,h3⟩:=h;have hd:=h2.len;rw[List.cons_append,Zb];refine⟨d,rest++c,by rw[List.append_assoc],h2,Zb.append r rest n c h3 ?_ hn⟩;simp at hl;omega
mutual
theorem Zm.is{w:World}{P:Nat->Prop}:∀(t:RT) (c:List Value),Zm w P t c->Qj w w.heap.size t c
 | .mk k T a b c d s p,cs,h=>by
   rw[Zm]at h;rw[Qj];obtain⟨so,cap,h1,h2⟩:=h;refine⟨so,cap,h1,?_⟩;rcases h2 with h2|⟨h3,g,cur,h4,h5,h6,h7,h8⟩
   ·exact .inl h2
   ·exact .inr ⟨h3,g,0,h4,Qq h6,h7,Xk.is s cur.toList g 0 cur h6 (fun i u hu=>by rw[Nat.zero_add];simpa using hu) h8⟩
theorem Xk.is{w:World}{P:Nat->Prop}:∀(s:List RT) (vs:List Value) (g o:Nat) (cur:Array Value),w.heap[g]? =some (.cells cur 71)->(∀i u,vs[i]? =some u->cur[o+i]? =some u)->Xk w P s vs->Ql w w.heap.size g o s
 |[],_,_,_,_,_,_,_=>by rw[Ql];trivial
 |t::r,vs,g,o,cur,hg,hv,h=>by
  rw[Xk]at h;rw[Ql];obtain⟨c,rest,rfl,h2,h3⟩:=h;have hc:=h2.len;refine⟨⟨c,Zm.is t c h2,fun j u hu=> ?_⟩,Xk.is r rest g (o+8) cur hg (fun i u hu=> ?_) h3⟩
  ·have hj:j<c.length:=by
    rcases Nat.lt_or_ge j c.length with h|h
    ·exact h
    ·rw[List.getElem?_eq_none h]at hu;cases hu
   have:=hv j u (by rw[List.getElem?_append_left hj];exact hu);simp[World.cell?,hg,this]
  ·have:=hv (8+i) u (by rw[List.getElem?_append_right (by omega),hc,Nat.add_sub_cancel_left];exact hu)
   rw[Nat.add_assoc];exact this
end
theorem Zb.get{w:World}{P:Nat->Prop}:∀(l:List Rr) (vs:List Value),Zb w P l vs->∀(j:Nat) (hj:j<l.length),∃c,RqR w P l[j] c/\∀i u,c[i]? =some u->vs[j*10+i]? =some u
 |[],_,_,j,hj=>by simp at hj
 |x::r,vs,h,0,_=>by
  rw[Zb]at h;obtain⟨c,rest,rfl,h2,_⟩:=h;refine⟨c,h2,fun i u hu=> ?_⟩;have hi:i<c.length:=by
   rcases Nat.lt_or_ge i c.length with h|h
   ·exact h
   ·rw[List.getElem?_eq_none h]at hu;cases hu
  rw[Nat.zero_mul,Nat.zero_add,List.getElem?_append_left hi];exact hu
 |x::r,vs,h,j+1,hj=>by
  rw[Zb]at h;obtain⟨c,rest,rfl,h2,h3⟩:=h;obtain⟨c',h4,h5⟩:=Zb.get r rest h3 j (by simpa using hj);have hc:=h2.len;refine⟨c',h4,fun i u hu=> ?_⟩;rw[List.getElem?_append_right (by omega),hc,show(j+1)*10+i-10=j*10+i by omega];exact h5 i u hu
theorem Zb.is{w:World}{base n:Nat}{P:Nat->Prop}{a:Value}{xs:List Value}{rs:List Rr}(ho:w.ownsRow base 73 10 a n xs)(hn:n=rs.length)(h:Zb w P rs xs):∃so cap,a=.slice so n cap/\Qy w w.heap.size so n rs:=by
 obtain⟨hx,⟨h1,h0⟩|⟨g,cap,cur,e1,hg1,hg2,hc1,hc2,hc3,ht⟩⟩:=ho
 ·exact⟨none,0,by rw[h1,h0],hn,by rw[h0];unfold maxLen;omega,fun j hj=>by omega⟩
 ·refine⟨some ⟨g,0,none⟩,cap,e1,hn,by omega,fun j hj=>⟨g,0,rfl,Qq hg2,?_⟩⟩
  obtain⟨c,⟨c1,rfl,h2⟩,h3⟩:=Zb.get rs xs h j hj;have rt:=h2.is;obtain⟨k,T,a,b,c,d,so,n1,cap1,p,rfl⟩:=rt.shape;have hcell:∀i u,(Value.string rs[j].1::(r8 k T a b c d so n1 cap1 p++[.int .i64 rs[j].2.2]))[i]? =some u->w.cell? ⟨g,0+j*10+i,none⟩=some u:=fun i u hu=>by
   have h4:=h3 i u hu;rw[<-ht]at h4;have hlt:j*10+i<n*10:=by
    rcases Nat.lt_or_ge (j*10+i) (n*10)with h|h
    ·exact h
    ·rw[List.getElem?_eq_none (by rw[List.length_take];omega)]at h4;cases h4
   rw[List.getElem?_take_of_lt hlt]at h4;have h5:cur[j*10+i]? =some u:=by simpa using h4
   rw[Nat.zero_add];simp[World.cell?,hg2,h5]
  exact⟨k,T,a,b,c,d,so,n1,cap1,p,rt,hcell 0 _ rfl,hcell 1 _ rfl,hcell 2 _ rfl,hcell 3 _ rfl,hcell 4 _ rfl,hcell 5 _ rfl,hcell 6 _ rfl,hcell 7 _ rfl,hcell 8 _ rfl,hcell 9 _ rfl⟩
theorem Fw{base e size n i:Nat}{v:Value}{xs:List Value}{o:Obj}(h:w.ownsRow base e size v n xs)(ho:w.heap[i]? =some o)(hne:∀cur,o≠.cells cur e (0,0)):v.ownBlock≠some i:=by
 obtain⟨_,⟨h1,_⟩|⟨g,cap,cur,rfl,_,hg,_⟩⟩:=h
 ·subst h1;simp[Value.ownBlock]
 ·intro e2
  simp[Value.ownBlock]at e2;subst e2;rw[hg]at ho;cases ho;exact hne cur rfl
theorem y0M(N:ByteArray)(a:Int)(T:ByteArray)(c0 c1 c2 c3:Int)(so:Option Addr)(sl sc:Nat)(p q:Int):∀u∈[Value.string N,Value.int .i64 a,.string T,.int .u64 c0,.int .u64 c1,.int .u64 c2,.int .u64 c3,.slice so sl sc,.int .i64 p,.int .i64 q],u.oneCell'=true:=Ow N a T c0 c1 c2 c3 so sl sc p q
@[reducible] def Ot:=Bool×Bool×Bool
def suc(x:Ot):Bool:=x.1||x.2.1
def Nk(a n:Ot):Ot:=(a.1&&n.1,a.2.1&&suc n||a.1&&n.2.1,a.2.2||suc a&&n.2.2)
def Dp(a n:Ot):Ot:=(a.1||a.2.2&&n.1,a.2.1||a.2.2&&n.2.1,a.2.2&&n.2.2)
def Xb(k:Int)(x:Ot):Ot:=
 if k=8 then(x.1||x.2.2,x.2.1,false)else if k=9 then(x.2.2,x.2.1,false)else if k=10 then(x.1&&x.2.2,x.2.1,x.2.2)else if k=11 then(suc x,false,x.2.2)else if k=12 then(x.2.2,false,suc x)else(false,false,false)
mutual
def ofT(K:ByteArray->Ot):RT->Ot
 | .mk k T a b c d s p=>
   if k=1 then(true,false,false)else if k=2 then(if T.size=0 then(true,false,false)else(false,true,true))else if k=3 then(if a=0/\b=0/\c=0/\d=0 then(false,false,true)else(false,true,true))else if k=4 then(false,true,true)else if k=5 then K T else if k=6 then ofS K (true,false,false) s else if k=7 then ofA K (false,false,true) s else Xb k (ofH K s)
def ofS(K:ByteArray->Ot)(acc:Ot):List RT->Ot
 |[]=>acc
 |t::r=>ofS K (Nk acc (ofT K t)) r
def ofA(K:ByteArray->Ot)(acc:Ot):List RT->Ot
 |[]=>acc
 |t::r=>ofA K (Dp acc (ofT K t)) r
def ofH(K:ByteArray->Ot):List RT->Ot
 |[]=>(false,false,false)
 |t::r=>ofT K t
end
def leO(x y:Ot):Bool:=(!x.1||y.1)&&((!x.2.1||y.2.1)&&(!x.2.2||y.2.2))
theorem Jq(x:Ot):leO x x=true:=by obtain⟨a,b,c⟩:=x;revert a b c;decide
theorem Td{x y z:Ot}:leO x y=true->leO y z=true->leO x z=true:=by
 obtain⟨a,b,c⟩:=x;obtain⟨d,e,f⟩:=y;obtain⟨g,h,i⟩:=z
 revert a b c d e f g h i
 decide
theorem y0N{x y a b:Ot}:leO x y=true->leO a b=true->leO (Nk x a) (Nk y b)=true:=by
 obtain⟨x1,x2,x3⟩:=x;obtain⟨y1,y2,y3⟩:=y;obtain⟨a1,a2,a3⟩:=a;obtain⟨b1,b2,b3⟩:=b
 revert x1 x2 x3 y1 y2 y3 a1 a2 a3 b1 b2 b3
 decide+kernel
theorem y0O{x y a b:Ot}:leO x y=true->leO a b=true->leO (Dp x a) (Dp y b)=true:=by
 obtain⟨x1,x2,x3⟩:=x;obtain⟨y1,y2,y3⟩:=y;obtain⟨a1,a2,a3⟩:=a;obtain⟨b1,b2,b3⟩:=b
 revert x1 x2 x3 y1 y2 y3 a1 a2 a3 b1 b2 b3
 decide+kernel
theorem y0P(k:Int){x y:Ot}:leO x y=true->leO (Xb k x) (Xb k y)=true:=by
 obtain⟨x1,x2,x3⟩:=x;obtain⟨y1,y2,y3⟩:=y;unfold Xb;by_cases h8:k=8
 ·rw[if_pos h8,if_pos h8];revert x1 x2 x3 y1 y2 y3;decide
 rw[if_neg h8,if_neg h8];by_cases h9:k=9
 ·rw[if_pos h9,if_pos h9];revert x1 x2 x3 y1 y2 y3;decide
 rw[if_neg h9,if_neg h9];by_cases h10:k=10
 ·rw[if_pos h10,if_pos h10];revert x1 x2 x3 y1 y2 y3;decide
 rw[if_neg h10,if_neg h10];by_cases h11:k=11
 ·rw[if_pos h11,if_pos h11];revert x1 x2 x3 y1 y2 y3;decide
 rw[if_neg h11,if_neg h11];by_cases h12:k=12
 ·rw[if_pos h12,if_pos h12];revert x1 x2 x3 y1 y2 y3;decide
 rw[if_neg h12,if_neg h12];intro _;exact Jq _
mutual
theorem Av{K K':ByteArray->Ot}(h:∀s,leO (K s) (K' s)=true):∀t:RT,leO (ofT K t) (ofT K' t)=true
 | .mk k T a b c d s p=>by
   rw[ofT,ofT];by_cases h1:k=1
   ·rw[if_pos h1,if_pos h1];exact Jq _
   rw[if_neg h1,if_neg h1];by_cases h2:k=2
   ·rw[if_pos h2,if_pos h2];exact Jq _
   rw[if_neg h2,if_neg h2];by_cases h3:k=3
   ·rw[if_pos h3,if_pos h3];exact Jq _
   rw[if_neg h3,if_neg h3];by_cases h4:k=4
   ·rw[if_pos h4,if_pos h4];exact Jq _
   rw[if_neg h4,if_neg h4];by_cases h5:k=5
   ·rw[if_pos h5,if_pos h5];exact h T
   rw[if_neg h5,if_neg h5];by_cases h6:k=6
   ·rw[if_pos h6,if_pos h6];exact z3K h s _ _ (Jq _)
   rw[if_neg h6,if_neg h6];by_cases h7:k=7
   ·rw[if_pos h7,if_pos h7];exact z3L h s _ _ (Jq _)
   rw[if_neg h7,if_neg h7];exact y0P k (y0Q h s)
theorem z3K{K K':ByteArray->Ot}(h:∀s,leO (K s) (K' s)=true):∀(l:List RT) (x y:Ot),leO x y=true->leO (ofS K x l) (ofS K' y l)=true
 |[],x,y,hx=>by rw[ofS,ofS];exact hx
 |t::r,x,y,hx=>by rw[ofS,ofS];exact z3K h r _ _ (y0N hx (Av h t))
theorem z3L{K K':ByteArray->Ot}(h:∀s,leO (K s) (K' s)=true):∀(l:List RT) (x y:Ot),leO x y=true->leO (ofA K x l) (ofA K' y l)=true
 |[],x,y,hx=>by rw[ofA,ofA];exact hx
 |t::r,x,y,hx=>by rw[ofA,ofA];exact z3L h r _ _ (y0O hx (Av h t))
theorem y0Q{K K':ByteArray->Ot}(h:∀s,leO (K s) (K' s)=true):∀(l:List RT),leO (ofH K l) (ofH K' l)=true
 |[]=>by rw[ofH,ofH];exact Jq _
 |t::r=>by rw[ofH,ofH];exact Av h t
end
def Jj(K:ByteArray->Ot)(s:ByteArray)(x:Ot):ByteArray->Ot:=fun t=>if t=s then x else K t
def Uq(K:ByteArray->Ot)(x:Rr):ByteArray->Ot:=Jj K x.1 (ofT K x.2.1)
def swp(K:ByteArray->Ot):List Rr->(ByteArray->Ot)
 |[]=>K
 |x::r=>Uq (swp K r) x
def z0O:ByteArray->Ot:=fun _=>(false,false,false)
def itr(rs:List Rr):Nat->(ByteArray->Ot)
 |0=>z0O
 |n+1=>swp (itr rs n) rs
def Yk(K:ByteArray->Ot)(rs:List Rr):Prop:=∀x∈rs,ofT K x.2.1=K x.1
theorem z3M{K:ByteArray->Ot}{s:ByteArray}{x:Ot}(h:x=K s):Jj K s x=K:=by
 funext t;unfold Jj;by_cases e:t=s
 ·rw[if_pos e,h,e]
 ·rw[if_neg e]
theorem z3N{K:ByteArray->Ot}:∀{rs:List Rr},Yk K rs->swp K rs=K
 |[],_=>rfl
 |x::r,h=>by
  rw[swp,z3N (fun y hy=>h y (List.mem_cons_of_mem _ hy)),Uq];exact z3M (h x (List.mem_cons_self ..))
theorem Tp{rs:List Rr}{n:Nat}(h:Yk (itr rs n) rs):∀m,itr rs (n+m)=itr rs n
 |0=>rfl
 |m+1=>by rw[<-Nat.add_assoc,itr,Tp h m,z3N h]
theorem y0R{rs:List Rr}{n m:Nat}(h:Yk (itr rs n) rs)(k:Yk (itr rs m) rs):itr rs n=itr rs m:=by
 rcases Nat.le_total n m with e|e
 ·rw[<-Nat.add_sub_cancel' e,Tp h]
 ·rw[<-Nat.add_sub_cancel' e,Tp k]
def Nv(K:ByteArray->Ot)(rs:List Rr):Prop:=∀x∈rs,leO (K x.1) (ofT K x.2.1)=true
theorem z3O{K:ByteArray->Ot}{x:Rr}(h:leO (K x.1) (ofT K x.2.1)=true):∀s,leO (K s) (Uq K x s)=true:=fun s=>by
 unfold Uq Jj;by_cases e:s=x.1
 ·rw[if_pos e,e];exact h
 ·rw[if_neg e];exact Jq _
theorem y0S{K:ByteArray->Ot}{rs:List Rr}{x:Rr}(hu:∀y∈rs,y.1=x.1->y=x)(hx:x∈rs)(h:Nv K rs):Nv (Uq K x) rs:=fun y hy=>by
 have hle:=z3O (h x hx);by_cases e:y.1=x.1
 ·rw[hu y hy e]
  refine Td ?_ (Av hle x.2.1);unfold Uq Jj;rw[if_pos rfl];exact Jq _
 ·refine Td ?_ (Td (h y hy) (Av hle y.2.1))
  unfold Uq Jj;rw[if_neg e];exact Jq _
def Nw(x:Ot):Nat:=x.1.toNat+(x.2.1.toNat+x.2.2.toNat)
theorem z3P(x:Ot):Nw x<=3:=by obtain⟨a,b,c⟩:=x;revert a b c;decide
theorem z3Q{x y:Ot}:leO x y=true->Nw x<=Nw y:=by
 obtain⟨a,b,c⟩:=x;obtain⟨d,e,f⟩:=y
 revert a b c d e f
 decide
theorem y0T{x y:Ot}:leO x y=true->x≠y->Nw x<Nw y:=by
 obtain⟨a,b,c⟩:=x;obtain⟨d,e,f⟩:=y
 revert a b c d e f
 decide
def lck(K:ByteArray->Ot):List Rr->Nat
 |[]=>0
 |x::r=>(3-Nw (K x.1))+lck K r
theorem z3R{K K':ByteArray->Ot}(h:∀s,leO (K s) (K' s)=true):∀rs:List Rr,lck K' rs<=lck K rs
 |[]=>Nat.le_refl _
 |x::r=>by
  have h1:=z3R h r;have h2:=z3Q (h x.1);rw[lck,lck];omega
theorem z3S{K K':ByteArray->Ot}(h:∀s,leO (K s) (K' s)=true):∀{rs:List Rr} {x:Rr},x∈rs->K x.1≠K' x.1->lck K' rs<lck K rs
 |y::r,x,hx,hne=>by
  have h1:=z3R h r;have h2:=z3Q (h y.1);have h4:=z3P (K y.1);have h5:=z3P (K' y.1);rw[lck,lck];rcases List.mem_cons.1 hx with rfl|hx
  ·have h3:=y0T (h x.1) hne
   omega
  ·have h3:=z3S h hx hne
   omega
@[reducible] def ov (x:Ot):Value:=.agg #[.bool x.1,.bool x.2.1,.bool x.2.2]
theorem Hg(z s f:Bool)(w:World):Calls prog 269 #[.agg #[.bool z,.bool s,.bool f]] w fun e w'=>e=.returned (.bool (suc (z,s,f)))/\Hid (Below w.heap.size w w'):=by
 have HB:Hid (∀o:Obj,Below w.heap.size w (w.alloc o)):=fun o=>(Below.refl _ w).alloc L0q o
 cases z<;>cases s<;>(
  go_enter func269,ntmps269
  go_wp2_with fail
  go_ret;exact⟨rfl,hid (HB.out _)⟩)
theorem Qd{B:Nat}{a b c:Value}{t:TypeId}(h:w.heap[B]? =some (.cells #[a,b,c] t)):(w.cell? ⟨B,0,none⟩=some a/\w.cell? ⟨B,1,none⟩=some b/\w.cell? ⟨B,2,none⟩=some c)/\w.frozen? ⟨B,0,none⟩=false/\w.frozen? ⟨B,1,none⟩=false/\w.frozen? ⟨B,2,none⟩=false:=by
 obtain⟨x0,y0⟩:=Xv h 0 a rfl;obtain⟨x1,y1⟩:=Xv h 1 b rfl;obtain⟨x2,y2⟩:=Xv h 2 c rfl;exact⟨⟨x0,x1,x2⟩,y0,y1,y2⟩
theorem z3T{W W':World}{y0 y1 y2:Value}(h:Hid (Below w.heap.size w W)/\W.cell? ⟨w.heap.size,0,none⟩=some y0/\W.cell? ⟨w.heap.size,1,none⟩=some y1/\W.cell? ⟨w.heap.size,2,none⟩=some y2)(hb:Below W.heap.size W W'):Hid (Below w.heap.size w W')/\W'.cell? ⟨w.heap.size,0,none⟩=some y0/\W'.cell? ⟨w.heap.size,1,none⟩=some y1/\W'.cell? ⟨w.heap.size,2,none⟩=some y2:=by
 obtain⟨z,z0,z1,z2⟩:=h;have hl:w.heap.size<W.heap.size:=World.block_lt_of_cell? W ⟨w.heap.size,0,none⟩ z0;have e:∀j,W'.cell? ⟨w.heap.size,j,none⟩=W.cell? ⟨w.heap.size,j,none⟩:=fun j=>hb.cell (p:=⟨w.heap.size,j,none⟩) hl
 exact⟨hid (z.out.trans (hb.mono z.out.size)),(e _).trans z0,(e _).trans z1,(e _).trans z2⟩
theorem z3U{W W':World}{y0 y1 y2:Value}(h:Hid (Below w.heap.size w W)/\W.cell? ⟨w.heap.size,0,none⟩=some y0/\W.cell? ⟨w.heap.size,1,none⟩=some y1/\W.cell? ⟨w.heap.size,2,none⟩=some y2)(hb:W.grownBy W' (some (w.heap.size+1+1))):Hid (Below w.heap.size w W')/\W'.cell? ⟨w.heap.size,0,none⟩=some y0/\W'.cell? ⟨w.heap.size,1,none⟩=some y1/\W'.cell? ⟨w.heap.size,2,none⟩=some y2:=by
 obtain⟨z,z0,z1,z2⟩:=h;have e:∀j,W'.cell? ⟨w.heap.size,j,none⟩=W.cell? ⟨w.heap.size,j,none⟩:=fun j=>World.cell?_of_block (hb.block w.heap.size (World.block_lt_of_cell? W ⟨w.heap.size,0,none⟩ z0) (fun e=>by have:=Option.some.inj e;omega))
 exact⟨hid (z.out.grown hb z.out.size (fun g e=>by have:=Option.some.inj e;omega)),(e _).trans z0,(e _).trans z1,(e _).trans z2⟩
theorem Zp(W:World)(R:Nat)(v0 v1 v2:Value):W.grownBy (((W.setCell ⟨R,0,none⟩ v0).setCell ⟨R,1,none⟩ v1).setCell ⟨R,2,none⟩ v2) (some R):=G.setR (G.setR (G.setR (G.refl _ _)))
theorem y0U(z s f:Bool)(w:World):Calls prog 238 #[.int .i64 8,.agg #[.bool z,.bool s,.bool f]] w fun e w'=>e=.returned (ov (Xb 8 (z,s,f)))/\Hid (Below w.heap.size w w'):=by
 have HB:Hid (∀o1 o2 o3:Obj,Below w.heap.size w (((w.alloc o1).alloc o2).alloc o3)):=fun o1 o2 o3=>(((Below.refl _ w).alloc L0q o1).alloc (by simp) o2).alloc (by simp;omega) o3
 match z,s,f with
 |true,true,true=>
  go_enter func238,ntmps238
  go_wp2_with fail
  refine bodyPost_ret (v:=.agg #[.bool true,.bool true,.bool false]) (by simp[results,Tryz.results238,go_sem]) rfl ?_;exact⟨rfl,hid (HB.out _ _ _)⟩
 |true,true,false=>
  go_enter func238,ntmps238
  go_wp2_with fail
  refine bodyPost_ret (v:=.agg #[.bool true,.bool true,.bool false]) (by simp[results,Tryz.results238,go_sem]) rfl ?_;exact⟨rfl,hid (HB.out _ _ _)⟩
 |true,false,true=>
  go_enter func238,ntmps238
  go_wp2_with fail
  refine bodyPost_ret (v:=.agg #[.bool true,.bool false,.bool false]) (by simp[results,Tryz.results238,go_sem]) rfl ?_;exact⟨rfl,hid (HB.out _ _ _)⟩
 |true,false,false=>
  go_enter func238,ntmps238
  go_wp2_with fail
  refine bodyPost_ret (v:=.agg #[.bool true,.bool false,.bool false]) (by simp[results,Tryz.results238,go_sem]) rfl ?_;exact⟨rfl,hid (HB.out _ _ _)⟩
 |false,true,true=>
  go_enter func238,ntmps238
  go_wp2_with fail
  refine bodyPost_ret (v:=.agg #[.bool true,.bool true,.bool false]) (by simp[results,Tryz.results238,go_sem]) rfl ?_;exact⟨rfl,hid (HB.out _ _ _)⟩
 |false,true,false=>
  go_enter func238,ntmps238
  go_wp2_with fail
  refine bodyPost_ret (v:=.agg #[.bool false,.bool true,.bool false]) (by simp[results,Tryz.results238,go_sem]) rfl ?_;exact⟨rfl,hid (HB.out _ _ _)⟩
 |false,false,true=>
  go_enter func238,ntmps238
  go_wp2_with fail
  refine bodyPost_ret (v:=.agg #[.bool true,.bool false,.bool false]) (by simp[results,Tryz.results238,go_sem]) rfl ?_;exact⟨rfl,hid (HB.out _ _ _)⟩
 |false,false,false=>
  go_enter func238,ntmps238
  go_wp2_with fail
  refine bodyPost_ret (v:=.agg #[.bool false,.bool false,.bool false]) (by simp[results,Tryz.results238,go_sem]) rfl ?_;exact⟨rfl,hid (HB.out _ _ _)⟩
theorem y0V(z s f:Bool)(w:World):Calls prog 238 #[.int .i64 9,.agg #[.bool z,.bool s,.bool f]] w fun e w'=>e=.returned (ov (Xb 9 (z,s,f)))/\Hid (Below w.heap.size w w'):=by
 have HB:Hid (∀o1 o2 o3:Obj,Below w.heap.size w (((w.alloc o1).alloc o2).alloc o3)):=fun o1 o2 o3=>(((Below.refl _ w).alloc L0q o1).alloc (by simp) o2).alloc (by simp;omega) o3
 match z,s,f with
 |true,true,true=>
  go_enter func238,ntmps238
  go_wp2_with fail
  refine bodyPost_ret (v:=.agg #[.bool true,.bool true,.bool false]) (by simp[results,Tryz.results238,go_sem]) rfl ?_;exact⟨rfl,hid (HB.out _ _ _)⟩
 |true,true,false=>
  go_enter func238,ntmps238
  go_wp2_with fail
  refine bodyPost_ret (v:=.agg #[.bool false,.bool true,.bool false]) (by simp[results,Tryz.results238,go_sem]) rfl ?_;exact⟨rfl,hid (HB.out _ _ _)⟩
 |true,false,true=>
  go_enter func238,ntmps238
  go_wp2_with fail
  refine bodyPost_ret (v:=.agg #[.bool true,.bool false,.bool false]) (by simp[results,Tryz.results238,go_sem]) rfl ?_;exact⟨rfl,hid (HB.out _ _ _)⟩
 |true,false,false=>
  go_enter func238,ntmps238
  go_wp2_with fail
  refine bodyPost_ret (v:=.agg #[.bool false,.bool false,.bool false]) (by simp[results,Tryz.results238,go_sem]) rfl ?_;exact⟨rfl,hid (HB.out _ _ _)⟩
 |false,true,true=>
  go_enter func238,ntmps238
  go_wp2_with fail
  refine bodyPost_ret (v:=.agg #[.bool true,.bool true,.bool false]) (by simp[results,Tryz.results238,go_sem]) rfl ?_;exact⟨rfl,hid (HB.out _ _ _)⟩
 |false,true,false=>
  go_enter func238,ntmps238
  go_wp2_with fail
  refine bodyPost_ret (v:=.agg #[.bool false,.bool true,.bool false]) (by simp[results,Tryz.results238,go_sem]) rfl ?_;exact⟨rfl,hid (HB.out _ _ _)⟩
 |false,false,true=>
  go_enter func238,ntmps238
  go_wp2_with fail
  refine bodyPost_ret (v:=.agg #[.bool true,.bool false,.bool false]) (by simp[results,Tryz.results238,go_sem]) rfl ?_;exact⟨rfl,hid (HB.out _ _ _)⟩
 |false,false,false=>
  go_enter func238,ntmps238
  go_wp2_with fail
  refine bodyPost_ret (v:=.agg #[.bool false,.bool false,.bool false]) (by simp[results,Tryz.results238,go_sem]) rfl ?_;exact⟨rfl,hid (HB.out _ _ _)⟩
theorem y0W(z s f:Bool)(w:World):Calls prog 238 #[.int .i64 10,.agg #[.bool z,.bool s,.bool f]] w fun e w'=>e=.returned (ov (Xb 10 (z,s,f)))/\Hid (Below w.heap.size w w'):=by
 have HB:Hid (∀o1 o2 o3:Obj,Below w.heap.size w (((w.alloc o1).alloc o2).alloc o3)):=fun o1 o2 o3=>(((Below.refl _ w).alloc L0q o1).alloc (by simp) o2).alloc (by simp;omega) o3
 match z,s,f with
 |true,true,true=>
  go_enter func238,ntmps238
  go_wp2_with fail
  refine bodyPost_ret (v:=.agg #[.bool true,.bool true,.bool true]) (by simp[results,Tryz.results238,go_sem]) rfl ?_;exact⟨rfl,hid (HB.out _ _ _)⟩
 |true,true,false=>
  go_enter func238,ntmps238
  go_wp2_with fail
  refine bodyPost_ret (v:=.agg #[.bool false,.bool true,.bool false]) (by simp[results,Tryz.results238,go_sem]) rfl ?_;exact⟨rfl,hid (HB.out _ _ _)⟩
 |true,false,true=>
  go_enter func238,ntmps238
  go_wp2_with fail
  refine bodyPost_ret (v:=.agg #[.bool true,.bool false,.bool true]) (by simp[results,Tryz.results238,go_sem]) rfl ?_;exact⟨rfl,hid (HB.out _ _ _)⟩
 |true,false,false=>
  go_enter func238,ntmps238
  go_wp2_with fail
  refine bodyPost_ret (v:=.agg #[.bool false,.bool false,.bool false]) (by simp[results,Tryz.results238,go_sem]) rfl ?_;exact⟨rfl,hid (HB.out _ _ _)⟩
 |false,true,true=>
  go_enter func238,ntmps238
  go_wp2_with fail
  refine bodyPost_ret (v:=.agg #[.bool false,.bool true,.bool true]) (by simp[results,Tryz.results238,go_sem]) rfl ?_;exact⟨rfl,hid (HB.out _ _ _)⟩
 |false,true,false=>
  go_enter func238,ntmps238
  go_wp2_with fail
  refine bodyPost_ret (v:=.agg #[.bool false,.bool true,.bool false]) (by simp[results,Tryz.results238,go_sem]) rfl ?_;exact⟨rfl,hid (HB.out _ _ _)⟩
 |false,false,true=>
  go_enter func238,ntmps238
  go_wp2_with fail
  refine bodyPost_ret (v:=.agg #[.bool false,.bool false,.bool true]) (by simp[results,Tryz.results238,go_sem]) rfl ?_;exact⟨rfl,hid (HB.out _ _ _)⟩
 |false,false,false=>
  go_enter func238,ntmps238
  go_wp2_with fail
  refine bodyPost_ret (v:=.agg #[.bool false,.bool false,.bool false]) (by simp[results,Tryz.results238,go_sem]) rfl ?_;exact⟨rfl,hid (HB.out _ _ _)⟩
theorem y0X(z s f:Bool)(w:World):Calls prog 238 #[.int .i64 11,.agg #[.bool z,.bool s,.bool f]] w fun e w'=>e=.returned (ov (Xb 11 (z,s,f)))/\Hid (Below w.heap.size w w'):=by
 obtain⟨W0,hW0⟩:∃W0,W0=((w.alloc (.cells #[.bool z,.bool s,.bool f] 199)).alloc (.cells #[.bool false,.bool false,.bool false] 199)).alloc (.cells #[.bool false,.bool false,.bool false] 199):=⟨_,rfl⟩;have HB0:Hid (Below w.heap.size w W0):=by rw[hW0];exact(((Below.refl _ w).alloc L0q _).alloc (by simp) _).alloc (by simp;omega) _
 have hT0:W0.heap[w.heap.size]? =some (.cells #[.bool z,.bool s,.bool f] 199):=by rw[hW0];exact(Below.heap_alloc _ _ _ (by simp;omega)).trans ((Below.heap_alloc _ _ _ (by simp)).trans (Qx w _ rfl))
 have HR0:Hid (W0.heap[w.heap.size+1]? =some (.cells #[.bool false,.bool false,.bool false] 199)):=by rw[hW0];exact(Below.heap_alloc _ _ _ (by simp)).trans (Qx _ _ (by simp))
 have HZ0:Hid (W0.heap[w.heap.size+1+1]? =some (.cells #[.bool false,.bool false,.bool false] 199)):=by rw[hW0];exact Qx _ _ (by simp)
 obtain⟨⟨t0,t1,t2⟩,_⟩:=Qd hT0;have S2:(fun W:World=>Hid (Below w.heap.size w W)/\W.cell? ⟨w.heap.size,0,none⟩=some (.bool z)/\W.cell? ⟨w.heap.size,1,none⟩=some (.bool s)/\W.cell? ⟨w.heap.size,2,none⟩=some (.bool f)) W0.drew:=⟨hid HB0.out.drew,t0,t1,t2⟩;have lt0:=Qq hT0;have lz0:=Qq HZ0.out;have lr0:=Qq HR0.out;have HS:=hid (fun W:World=>Hg z s f W);clear hT0;go_enter func238,ntmps238
 go_wp2_with fail
 rw[<-hW0];clear hW0
 go_region_held3 (fun W:World=>Hid (Below w.heap.size w W)/\W.cell? ⟨w.heap.size,0,none⟩=some (.bool z)/\W.cell? ⟨w.heap.size,1,none⟩=some (.bool s)/\W.cell? ⟨w.heap.size,2,none⟩=some (.bool f)) (first|(with_reducible assumption)|(with_reducible exact z3T (by assumption) (by assumption))|(with_reducible exact z3U (by assumption) (Zp _ _ _ _ _))) (first
  |(go_at_call 269;refine(HS.out _).mono ?_;rintro e w4 ⟨rfl,HB4⟩;have hb4:=HB4.out;have HZ4:=hid ((hb4.block (w.heap.size+1+1) lz0).trans HZ0.out);have HR4:=hid ((hb4.block (w.heap.size+1) lr0).trans HR0.out);obtain⟨⟨z0,z1,z2⟩,f0,f1,f2⟩:=Qd HZ4.out;have lz:=Qq HZ4.out))
 obtain⟨X3,hX3⟩:∃X3,X3=((w4.setCell ⟨w.heap.size+1+1,0,none⟩ (.bool (suc (z,s,f)))).setCell ⟨w.heap.size+1+1,1,none⟩ (.bool false)).setCell ⟨w.heap.size+1+1,2,none⟩ (.bool f):=⟨_,rfl⟩;have bX3:X3.heap[w.heap.size+1+1]? =some (.cells #[.bool (suc (z,s,f)),.bool false,.bool f] 199):=by rw[hX3];exact Qh (Qh (Qh HZ4.out 0 _) 1 _) 2 _
 have gX3:w4.grownBy X3 (some (w.heap.size+1+1)):=by rw[hX3];exact Zp _ _ _ _ _
 have rX3:X3.heap[w.heap.size+1]? =some (.cells #[.bool false,.bool false,.bool false] 199):=(gX3.block _ (Qq HR4.out) (fun e=>by have:=Option.some.inj e;omega)).trans HR4.out;rw[<-hX3];obtain⟨Y3,hY3⟩:∃Y3,Y3=((X3.setCell ⟨w.heap.size+1,0,none⟩ (.bool (suc (z,s,f)))).setCell ⟨w.heap.size+1,1,none⟩ (.bool false)).setCell ⟨w.heap.size+1,2,none⟩ (.bool f):=⟨_,rfl⟩;have bY3:Y3.heap[w.heap.size+1]? =some (.cells #[.bool (suc (z,s,f)),.bool false,.bool f] 199):=by rw[hY3];exact Qh (Qh (Qh rX3 0 _) 1 _) 2 _
 have gY3:X3.grownBy Y3 (some (w.heap.size+1)):=by rw[hY3];exact Zp _ _ _ _ _
 have hB4:Below w.heap.size w w4:=HB0.out.drew.trans (hb4.mono HB0.out.drew.size);have hBX:Below w.heap.size w X3:=hB4.grown gX3 hB4.size (fun g e=>by have:=Option.some.inj e;omega);have HBY:=hid (hBX.grown gY3 hBX.size (fun g e=>by have:=Option.some.inj e;omega));obtain⟨⟨u0,u1,u2⟩,_⟩:=Qd bX3;obtain⟨⟨r0,r1,r2⟩,q0,q1,q2⟩:=Qd rX3;obtain⟨⟨e0,e1,e2⟩,_⟩:=Qd bY3;have lx:=Qq bX3;have ly:=Qq rX3;have HY3:=hid hY3;clear hX3 hY3 bX3 gX3 rX3 bY3 gY3 hB4 hBX HZ4 HR4 HB4 hb4 z0 z1 z2 f0 f1 f2 S2 t0 t1 t2 HS
 go_wp2_with fail
 rw[<-HY3.out];refine bodyPost_ret (v:=.agg #[.bool (suc (z,s,f)),.bool false,.bool f]) (by simp[results,Tryz.results238,go_sem,e0,e1,e2]) rfl ?_;exact⟨rfl,HBY⟩
theorem y0Y(z s f:Bool)(w:World):Calls prog 238 #[.int .i64 12,.agg #[.bool z,.bool s,.bool f]] w fun e w'=>e=.returned (ov (Xb 12 (z,s,f)))/\Hid (Below w.heap.size w w'):=by
 obtain⟨W0,hW0⟩:∃W0,W0=((w.alloc (.cells #[.bool z,.bool s,.bool f] 199)).alloc (.cells #[.bool false,.bool false,.bool false] 199)).alloc (.cells #[.bool false,.bool false,.bool false] 199):=⟨_,rfl⟩;have HB0:Hid (Below w.heap.size w W0):=by rw[hW0];exact(((Below.refl _ w).alloc L0q _).alloc (by simp) _).alloc (by simp;omega) _
 have hT0:W0.heap[w.heap.size]? =some (.cells #[.bool z,.bool s,.bool f] 199):=by rw[hW0];exact(Below.heap_alloc _ _ _ (by simp;omega)).trans ((Below.heap_alloc _ _ _ (by simp)).trans (Qx w _ rfl))
 have HR0:Hid (W0.heap[w.heap.size+1]? =some (.cells #[.bool false,.bool false,.bool false] 199)):=by rw[hW0];exact(Below.heap_alloc _ _ _ (by simp)).trans (Qx _ _ (by simp))
 have HZ0:Hid (W0.heap[w.heap.size+1+1]? =some (.cells #[.bool false,.bool false,.bool false] 199)):=by rw[hW0];exact Qx _ _ (by simp)
 obtain⟨⟨t0,t1,t2⟩,_⟩:=Qd hT0;have S2:(fun W:World=>Hid (Below w.heap.size w W)/\W.cell? ⟨w.heap.size,0,none⟩=some (.bool z)/\W.cell? ⟨w.heap.size,1,none⟩=some (.bool s)/\W.cell? ⟨w.heap.size,2,none⟩=some (.bool f)) W0.drew:=⟨hid HB0.out.drew,t0,t1,t2⟩;have lt0:=Qq hT0;have lz0:=Qq HZ0.out;have lr0:=Qq HR0.out;have HS:=hid (fun W:World=>Hg z s f W);clear hT0;go_enter func238,ntmps238
 go_wp2_with fail
 rw[<-hW0];clear hW0
 go_region_held3 (fun W:World=>Hid (Below w.heap.size w W)/\W.cell? ⟨w.heap.size,0,none⟩=some (.bool z)/\W.cell? ⟨w.heap.size,1,none⟩=some (.bool s)/\W.cell? ⟨w.heap.size,2,none⟩=some (.bool f)) (first|(with_reducible assumption)|(with_reducible exact z3T (by assumption) (by assumption))|(with_reducible exact z3U (by assumption) (Zp _ _ _ _ _))) (first
  |(go_at_call 269;refine(HS.out _).mono ?_;rintro e w4 ⟨rfl,HB4⟩;have hb4:=HB4.out;have HZ4:=hid ((hb4.block (w.heap.size+1+1) lz0).trans HZ0.out);have HR4:=hid ((hb4.block (w.heap.size+1) lr0).trans HR0.out);obtain⟨⟨z0,z1,z2⟩,f0,f1,f2⟩:=Qd HZ4.out;have lz:=Qq HZ4.out))
 obtain⟨X3,hX3⟩:∃X3,X3=((w4.setCell ⟨w.heap.size+1+1,0,none⟩ (.bool f)).setCell ⟨w.heap.size+1+1,1,none⟩ (.bool false)).setCell ⟨w.heap.size+1+1,2,none⟩ (.bool (suc (z,s,f))):=⟨_,rfl⟩;have bX3:X3.heap[w.heap.size+1+1]? =some (.cells #[.bool f,.bool false,.bool (suc (z,s,f))] 199):=by rw[hX3];exact Qh (Qh (Qh HZ4.out 0 _) 1 _) 2 _
 have gX3:w4.grownBy X3 (some (w.heap.size+1+1)):=by rw[hX3];exact Zp _ _ _ _ _
 have rX3:X3.heap[w.heap.size+1]? =some (.cells #[.bool false,.bool false,.bool false] 199):=(gX3.block _ (Qq HR4.out) (fun e=>by have:=Option.some.inj e;omega)).trans HR4.out;rw[<-hX3];obtain⟨Y3,hY3⟩:∃Y3,Y3=((X3.setCell ⟨w.heap.size+1,0,none⟩ (.bool f)).setCell ⟨w.heap.size+1,1,none⟩ (.bool false)).setCell ⟨w.heap.size+1,2,none⟩ (.bool (suc (z,s,f))):=⟨_,rfl⟩;have bY3:Y3.heap[w.heap.size+1]? =some (.cells #[.bool f,.bool false,.bool (suc (z,s,f))] 199):=by rw[hY3];exact Qh (Qh (Qh rX3 0 _) 1 _) 2 _
 have gY3:X3.grownBy Y3 (some (w.heap.size+1)):=by rw[hY3];exact Zp _ _ _ _ _
 have hB4:Below w.heap.size w w4:=HB0.out.drew.trans (hb4.mono HB0.out.drew.size);have hBX:Below w.heap.size w X3:=hB4.grown gX3 hB4.size (fun g e=>by have:=Option.some.inj e;omega);have HBY:=hid (hBX.grown gY3 hBX.size (fun g e=>by have:=Option.some.inj e;omega));obtain⟨⟨u0,u1,u2⟩,_⟩:=Qd bX3;obtain⟨⟨r0,r1,r2⟩,q0,q1,q2⟩:=Qd rX3;obtain⟨⟨e0,e1,e2⟩,_⟩:=Qd bY3;have lx:=Qq bX3;have ly:=Qq rX3;have HY3:=hid hY3;clear hX3 hY3 bX3 gX3 rX3 bY3 gY3 hB4 hBX HZ4 HR4 HB4 hb4 z0 z1 z2 f0 f1 f2 S2 t0 t1 t2 HS
 go_wp2_with fail
 rw[<-HY3.out];refine bodyPost_ret (v:=.agg #[.bool f,.bool false,.bool (suc (z,s,f))]) (by simp[results,Tryz.results238,go_sem,e0,e1,e2]) rfl ?_;exact⟨rfl,HBY⟩
end Go.Proofs.YtlogolpcipiceaaGreatDoor
