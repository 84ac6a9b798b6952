/- Lemmas for the last text. Conditions: those that each names. -/
import Derived.Test.YtgnkkgcgbeianaaGreatDoorVS9ToO20
import Derived.Deep.AppendLies
import Derived.Deep.RegionHeld3
import Derived.Maps.AppendAt
import Derived.Test.YtgnkkgcgbeianaaGreatDoorVR8ToO4
import Derived.Test.YtgnkkgcgbeianaaGreatDoorVO5ToS4
set_option linter.unusedVariables false
set_option maxRecDepth 100000
set_option maxHeartbeats 4000000
namespace Go.Proofs.YtgnkkgcgbeianaaGreatDoor
open Go.Proofs.Tryz
open Go.RowKit Go.Shelf
variable {W W' w:World} {y0 y1 y2:Value}
mutual
def Zv(w:World)(P:Nat->Prop):RT->List Value->Prop
 | .mk k T a b c d s p,cs=>∃so cap,cs=r8 k T a b c d so (Qv s) cap p/\(s.isEmpty=true∨(s.isEmpty=false/\∃g cur,so=some ⟨g,0,none⟩/\P g/\w.heap[g]? =some (.cells cur 81)/\Qv s<=maxLen/\Zx w P s cur.toList))
def Zx(w:World)(P:Nat->Prop):List RT->List Value->Prop
 |[],_=>True
 |t::r,vs=>∃c rest,vs=c++rest/\Zv w P t c/\Zx w P r rest
end
theorem Zv.len{P:Nat->Prop}{t:RT}{c:List Value}(h:Zv w P t c):c.length=8:=by
 obtain⟨k,T,a,b,c0,d,s,p⟩:=t;rw[Zv]at h;obtain⟨o,r,rfl,_⟩:=h;rfl
mutual
theorem Zv.kept{w w':World}{P Q:Nat->Prop}(y:∀g o,P g->zH w g (.cells o 81)->w'.heap[g]? =w.heap[g]? /\Q g):∀(t:RT) (c:List Value),Zv w P t c->Zv w' Q t c
 | .mk k T a b c d s p,cs,h=>by
   rw[Zv]at h ⊢;obtain⟨D,E,G,r⟩:=h;refine⟨D,E,G,?_⟩;rcases r with r|⟨I,g,o,U,V,A,Y,Z⟩
   ·exact .inl r
   ·have:=y g o V A
    exact .inr ⟨I,g,o,U,this.2,this.1.trans A,Y,Zx.kept y s o.toList Z⟩
theorem Zx.kept{w w':World}{P Q:Nat->Prop}(o:∀g t,P g->zH w g (.cells t 81)->w'.heap[g]? =w.heap[g]? /\Q g):∀(l:List RT) (vs:List Value),Zx w P l vs->Zx w' Q l vs
 |[],vs,h=>by rw[Zx];trivial
 |n::r,vs,h=>by
  rw[Zx]at h ⊢;obtain⟨c,rest,y,A,D⟩:=h;exact⟨c,rest,y,Zv.kept o n c A,Zx.kept o r rest D⟩
end
theorem Zx.append{w:World}{P:Nat->Prop}:∀(l:List RT) (vs:List Value) (n:RT) (c:List Value),Zx w P l vs->vs.length=l.length*8->Zv w P n c->Zx w P (l++[n]) (vs++c)
 |[],vs,n,c,_,hl,hn=>by
  have:vs=[]:=List.eq_nil_of_length_eq_zero (by simpa using hl);subst this;rw[List.nil_append,Zx];exact⟨c,[],by simp,hn,by rw[Zx];trivial⟩
 |m::r,vs,n,c,h,hl,hn=>by
  rw[Zx]at h;obtain⟨d,rest,rfl,o,t⟩:=h;have y:=o.len;rw[List.cons_append,Zx];refine⟨d,rest++c,by rw[List.append_assoc],o,Zx.append r rest n c t ?_ hn⟩;simp at hl;omega
theorem Zx.more{w:World}{P:Nat->Prop}:∀(l:List RT) (vs us:List Value),Zx w P l vs->Zx w P l (vs++us)
 |[],_,_,_=>by rw[Zx];trivial
 |n::r,vs,us,h=>by
  rw[Zx]at h ⊢;obtain⟨c,rest,rfl,o,t⟩:=h;exact⟨c,rest++us,by rw[List.append_assoc],o,Zx.more r rest us t⟩
def CnA(t:RT)(w:World)(e:Ending)(w':World):Prop:=∃k T a b c d so n cap p,e=.returned (.agg #[zI k,zT T,zU a,zU b,zU c,zU d,.slice so n cap,zI p])/\Hid (Zv w' (fun g=>w.heap.size<=g) t (r8 k T a b c d so n cap p))/\Hid (zB w w')
theorem Rq.app2{base j:Nat}{a y:Value}{xs E:List Value}{acc:List RT}{t:RT}{wr o W4 A:World}
  (G:wr.ownsRow base 81 8 a j xs)(hl:acc.length=j)(Y:Zx wr (fun g=>base<=g/\a.ownBlock≠some g) acc xs)(ae:base<=wr.heap.size)(I:zB wr o)
  (r:Zv o (fun g=>wr.heap.size<=g) t E)(h4:o.heap.size<=W4.heap.size)(Z:∀g,g<o.heap.size->W4.heap[g]? =o.heap[g]?)(aa:W4.grownBy A a.ownBlock)(ab:y.ownBlock=a.ownBlock∨y.ownBlock=some W4.heap.size):
  Zx A (fun g=>base<=g/\y.ownBlock≠some g) (acc++[t]) (xs++E):=by
 have U:∀g,g<o.heap.size->a.ownBlock≠some g->A.heap[g]? =o.heap[g]? /\y.ownBlock≠some g:=fun g hl V=>by
  refine⟨(aa.block g (by omega) (fun e=>V e.symm)).trans (Z g hl),?_⟩;rcases ab with h|h
  ·rw[h];exact V
  ·rw[h];intro e;have:=Option.some.inj e;omega
 refine Zx.append _ _ _ _ (Zx.kept (fun g ac D r=> ?_) _ _ Y) (by rw[hl];exact G.1) (Zv.kept (fun g ac D r=> ?_) _ _ r)
 ·have ad:=Qq r
  have:=I.size;have h:=U g (by omega) D.2;exact⟨h.1.trans (I.block g ad),D.1,h.2⟩
 ·have h:=U g (Qq r) (fun e=>by have:=(G.lt g e).2;omega)
  exact⟨h.1,by omega,h.2⟩
theorem Kk{h:Nat}{y3 r t y A:Value}(o:zC W h 0 y0/\zC W h 1 y1/\zC W h 2 y2/\zC W h 3 y3/\zC W h 4 r/\zC W h 5 t/\zC W h 6 y/\zC W h 7 A)(D:zB W W'):zC W' h 0 y0/\zC W' h 1 y1/\zC W' h 2 y2/\zC W' h 3 y3/\zC W' h 4 r/\zC W' h 5 t/\zC W' h 6 y/\zC W' h 7 A:=
 have k:∀{j:Nat} {v:Value},zC W h j v->zC W' h j v:=fun{j v} e=>(D.cell (p:=⟨h,j,none⟩) (World.block_lt_of_cell? W _ e)).trans e
 ⟨k o.1,k o.2.1,k o.2.2.1,k o.2.2.2.1,k o.2.2.2.2.1,k o.2.2.2.2.2.1,k o.2.2.2.2.2.2.1,k o.2.2.2.2.2.2.2⟩
theorem z2M{o:Obj}{b:Nat}(h:b<=w.heap.size):b<=(w.alloc o).heap.size:=by rw[World.size_alloc];omega
def RqR(w:World)(P:Nat->Prop)(x:Rr)(cs:List Value):Prop:=∃c,cs=zT x.1::(c++[zI x.2.2])/\Zv w P x.2.1 c
def Zk(w:World)(P:Nat->Prop):List Rr->List Value->Prop
 |[],_=>True
 |x::r,vs=>∃c rest,vs=c++rest/\RqR w P x c/\Zk w P r rest
theorem RqR.len{w:World}{P:Nat->Prop}{x:Rr}{c:List Value}(h:RqR w P x c):c.length=10:=by
 obtain⟨c1,rfl,o⟩:=h;have:=o.len;simp;omega
theorem Zk.kept{w w':World}{P Q:Nat->Prop}(o:∀g t,P g->zH w g (.cells t 81)->w'.heap[g]? =w.heap[g]? /\Q g):∀(l:List Rr) (vs:List Value),Zk w P l vs->Zk w' Q l vs
 |[],vs,h=>by rw[Zk];trivial
 |n::r,vs,h=>by
  rw[Zk]at h ⊢;obtain⟨c,rest,y,⟨c1,A,D⟩,E⟩:=h;exact⟨c,rest,y,⟨c1,A,Zv.kept o _ _ D⟩,Zk.kept o r rest E⟩
theorem Zk.append{w:World}{P:Nat->Prop}:∀(l:List Rr) (vs:List Value) (n:Rr) (c:List Value),Zk w P l vs->vs.length=l.length*10->RqR w P n c->Zk w P (l++[n]) (vs++c)
 |[],vs,n,c,_,hl,hn=>by
  have:vs=[]:=List.eq_nil_of_length_eq_zero (by simpa using hl);subst this;rw[List.nil_append,Zk];exact⟨c,[],by simp,hn,by rw[Zk];trivial⟩
 |m::r,vs,n,c,h,hl,hn=>by
  rw[Zk]at h;obtain⟨d,rest,rfl,o,t⟩:=h;have y:=o.len;rw[List.cons_append,Zk];refine⟨d,rest++c,by rw[List.append_assoc],o,Zk.append r rest n c t ?_ hn⟩;simp at hl;omega
mutual
theorem Zv.is{w:World}{P:Nat->Prop}:∀(t:RT) (c:List Value),Zv w P t c->Qy w w.heap.size t c
 | .mk k T a b c d s p,cs,h=>by
   rw[Zv]at h;rw[Qy];obtain⟨A,D,E,o⟩:=h;refine⟨A,D,E,?_⟩;rcases o with o|⟨G,g,r,I,Z,y,U,V⟩
   ·exact .inl o
   ·exact .inr ⟨G,g,0,I,Qq y,U,Zx.is s r.toList g 0 r y (fun i u Y=>by rw[Nat.zero_add];simpa using Y) V⟩
theorem Zx.is{w:World}{P:Nat->Prop}:∀(s:List RT) (vs:List Value) (g o:Nat) (A:Array Value),zH w g (.cells A 81)->(∀i u,vs[i]? =some u->A[o+i]? =some u)->Zx w P s vs->Zq w w.heap.size g o s
 |[],_,_,_,_,_,_,_=>by rw[Zq];trivial
 |t::r,vs,g,o,A,hg,hv,h=>by
  rw[Zx]at h;rw[Zq];obtain⟨c,rest,rfl,D,E⟩:=h;have G:=D.len;refine⟨⟨c,Zv.is t c D,fun j u y=> ?_⟩,Zx.is r rest g (o+8) A hg (fun i u y=> ?_) E⟩
  ·have I:j<c.length:=by
    rcases Nat.lt_or_ge j c.length with h|h
    ·exact h
    ·rw[List.getElem?_eq_none h]at y;cases y
   have:=hv j u (by rw[List.getElem?_append_left I];exact y);simp[World.cell?,hg,this]
  ·have:=hv (8+i) u (by rw[List.getElem?_append_right (by omega),G,Nat.add_sub_cancel_left];exact y)
   rw[Nat.add_assoc];exact this
end
theorem Zk.get{w:World}{P:Nat->Prop}:∀(l:List Rr) (vs:List Value),Zk w P l vs->∀(j:Nat) (t:j<l.length),∃c,RqR w P l[j] c/\∀i u,c[i]? =some u->vs[j*10+i]? =some u
 |[],_,_,j,t=>by simp at t
 |x::r,vs,h,0,_=>by
  rw[Zk]at h;obtain⟨c,rest,rfl,y,_⟩:=h;refine⟨c,y,fun i u o=> ?_⟩;have A:i<c.length:=by
   rcases Nat.lt_or_ge i c.length with h|h
   ·exact h
   ·rw[List.getElem?_eq_none h]at o;cases o
  rw[Nat.zero_mul,Nat.zero_add,List.getElem?_append_left A];exact o
 |x::r,vs,h,j+1,t=>by
  rw[Zk]at h;obtain⟨c,rest,rfl,y,D⟩:=h;obtain⟨E,G,I⟩:=Zk.get r rest D j (by simpa using t);have U:=y.len;refine⟨E,G,fun i u o=> ?_⟩;rw[List.getElem?_append_right (by omega),U,show(j+1)*10+i-10=j*10+i by omega];exact I i u o
theorem Zk.is{w:World}{base n:Nat}{P:Nat->Prop}{a:Value}{xs:List Value}{rs:List Rr}(V:w.ownsRow base 83 10 a n xs)(A:n=rs.length)(h:Zk w P rs xs):∃r y,a=.slice r n y/\Qb w w.heap.size r n rs:=by
 obtain⟨hx,⟨Y,D⟩|⟨g,y,Z,e1,ab,E,ac,ad,ae,ht⟩⟩:=V
 ·exact⟨none,0,by rw[Y,D],A,by rw[D];unfold maxLen;omega,fun j G=>by omega⟩
 ·refine⟨some ⟨g,0,none⟩,y,e1,A,by omega,fun j G=>⟨g,0,rfl,Qq E,?_⟩⟩
  obtain⟨c,⟨c1,rfl,h2⟩,h3⟩:=Zk.get rs xs h j G;have rt:=h2.is;obtain⟨k,T,a,b,c,d,r,I,U,p,rfl⟩:=rt.shape;have o:∀i u,(Value.string rs[j].1::(r8 k T a b c d r I U p++[.int .i64 rs[j].2.2]))[i]? =some u->w.cell? ⟨g,0+j*10+i,none⟩=some u:=fun i u hu=>by
   have t:=h3 i u hu;rw[<-ht]at t;have aa:j*10+i<n*10:=by
    rcases Nat.lt_or_ge (j*10+i) (n*10)with h|h
    ·exact h
    ·rw[List.getElem?_eq_none (by rw[List.length_take];omega)]at t;cases t
   rw[List.getElem?_take_of_lt aa]at t;have h5:Z[j*10+i]? =some u:=by simpa using t
   rw[Nat.zero_add];simp[World.cell?,E,h5]
  exact⟨k,T,a,b,c,d,r,I,U,p,rt,o 0 _ rfl,o 1 _ rfl,o 2 _ rfl,o 3 _ rfl,o 4 _ rfl,o 5 _ rfl,o 6 _ rfl,o 7 _ rfl,o 8 _ rfl,o 9 _ rfl⟩
theorem Fq{base e size n i:Nat}{v:Value}{xs:List Value}{o:Obj}(h:w.ownsRow base e size v n xs)(t:w.heap[i]? =some o)(A:∀r,o≠.cells r e (0,0)):v.ownBlock≠some i:=by
 obtain⟨_,⟨D,_⟩|⟨g,G,r,rfl,_,E,_⟩⟩:=h
 ·subst D;simp[Value.ownBlock]
 ·intro y
  simp[Value.ownBlock]at y;subst y;rw[E]at t;cases t;exact A r rfl
theorem z2N(N:zA)(a:Int)(T:zA)(c0 c1 c2 c3:Int)(h:Option Addr)(o r:Nat)(p q:Int):∀u∈[Value.string N,Value.int .i64 a,zT T,zU c0,zU c1,zU c2,zU c3,.slice h o r,zI p,zI q],u.oneCell'=true:=z1c N a T c0 c1 c2 c3 h o r p q
@[reducible] def Ot:=Bool×Bool×Bool
def suc(x:Ot):Bool:=x.1||x.2.1
def Uc(a n:Ot):Ot:=(a.1&&n.1,a.2.1&&suc n||a.1&&n.2.1,a.2.2||suc a&&n.2.2)
def Ux(a n:Ot):Ot:=(a.1||a.2.2&&n.1,a.2.1||a.2.2&&n.2.1,a.2.2&&n.2.2)
def Zy(k:Int)(x:Ot):Ot:=
 if k=8 then(x.1||x.2.2,x.2.1,false)else if k=9 then(x.2.2,x.2.1,false)else if k=10 then(x.1&&x.2.2,x.2.1,x.2.2)else if k=11 then(suc x,false,x.2.2)else if k=12 then(x.2.2,false,suc x)else(false,false,false)
mutual
def ofT(K:zA->Ot):RT->Ot
 | .mk k T a b c d s p=>
   if k=1 then(true,false,false)else if k=2 then(if T.size=0 then(true,false,false)else(false,true,true))else if k=3 then(if a=0/\b=0/\c=0/\d=0 then(false,false,true)else(false,true,true))else if k=4 then(false,true,true)else if k=5 then K T else if k=6 then ofS K (true,false,false) s else if k=7 then ofA K (false,false,true) s else Zy k (ofH K s)
def ofS(K:zA->Ot)(acc:Ot):List RT->Ot
 |[]=>acc
 |t::r=>ofS K (Uc acc (ofT K t)) r
def ofA(K:zA->Ot)(acc:Ot):List RT->Ot
 |[]=>acc
 |t::r=>ofA K (Ux acc (ofT K t)) r
def ofH(K:zA->Ot):List RT->Ot
 |[]=>(false,false,false)
 |t::r=>ofT K t
end
def leO(x y:Ot):Bool:=(!x.1||y.1)&&((!x.2.1||y.2.1)&&(!x.2.2||y.2.2))
theorem Ul(x:Ot):leO x x=true:=by obtain⟨a,b,c⟩:=x;revert a b c;decide
theorem Sq{x y z:Ot}:leO x y=true->leO y z=true->leO x z=true:=by
 obtain⟨a,b,c⟩:=x;obtain⟨d,e,f⟩:=y;obtain⟨g,h,i⟩:=z
 revert a b c d e f g h i
 decide
theorem y0D{x y a b:Ot}:leO x y=true->leO a b=true->leO (Uc x a) (Uc y b)=true:=by
 obtain⟨x1,x2,x3⟩:=x;obtain⟨y1,y2,y3⟩:=y;obtain⟨a1,a2,a3⟩:=a;obtain⟨h,o,r⟩:=b
 revert x1 x2 x3 y1 y2 y3 a1 a2 a3 h o r
 decide+kernel
theorem y0E{x y a b:Ot}:leO x y=true->leO a b=true->leO (Ux x a) (Ux y b)=true:=by
 obtain⟨x1,x2,x3⟩:=x;obtain⟨y1,y2,y3⟩:=y;obtain⟨a1,a2,a3⟩:=a;obtain⟨h,o,r⟩:=b
 revert x1 x2 x3 y1 y2 y3 a1 a2 a3 h o r
 decide+kernel
theorem y0F(k:Int){x y:Ot}:leO x y=true->leO (Zy k x) (Zy k y)=true:=by
 obtain⟨x1,x2,x3⟩:=x;obtain⟨y1,y2,y3⟩:=y;unfold Zy;by_cases h8:k=8
 ·rw[if_pos h8,if_pos h8];revert x1 x2 x3 y1 y2 y3;decide
 rw[if_neg h8,if_neg h8];by_cases h9:k=9
 ·rw[if_pos h9,if_pos h9];revert x1 x2 x3 y1 y2 y3;decide
 rw[if_neg h9,if_neg h9];by_cases h10:k=10
 ·rw[if_pos h10,if_pos h10];revert x1 x2 x3 y1 y2 y3;decide
 rw[if_neg h10,if_neg h10];by_cases h11:k=11
 ·rw[if_pos h11,if_pos h11];revert x1 x2 x3 y1 y2 y3;decide
 rw[if_neg h11,if_neg h11];by_cases h12:k=12
 ·rw[if_pos h12,if_pos h12];revert x1 x2 x3 y1 y2 y3;decide
 rw[if_neg h12,if_neg h12];intro _;exact Ul _
mutual
theorem Mh{K o:zA->Ot}(h:∀s,leO (K s) (o s)=true):∀t:RT,leO (ofT K t) (ofT o t)=true
 | .mk k T a b c d s p=>by
   rw[ofT,ofT];by_cases h1:k=1
   ·rw[if_pos h1,if_pos h1];exact Ul _
   rw[if_neg h1,if_neg h1];by_cases h2:k=2
   ·rw[if_pos h2,if_pos h2];exact Ul _
   rw[if_neg h2,if_neg h2];by_cases h3:k=3
   ·rw[if_pos h3,if_pos h3];exact Ul _
   rw[if_neg h3,if_neg h3];by_cases h4:k=4
   ·rw[if_pos h4,if_pos h4];exact Ul _
   rw[if_neg h4,if_neg h4];by_cases h5:k=5
   ·rw[if_pos h5,if_pos h5];exact h T
   rw[if_neg h5,if_neg h5];by_cases h6:k=6
   ·rw[if_pos h6,if_pos h6];exact z2O h s _ _ (Ul _)
   rw[if_neg h6,if_neg h6];by_cases h7:k=7
   ·rw[if_pos h7,if_pos h7];exact z2P h s _ _ (Ul _)
   rw[if_neg h7,if_neg h7];exact y0F k (y0G h s)
theorem z2O{K o:zA->Ot}(h:∀s,leO (K s) (o s)=true):∀(l:List RT) (x y:Ot),leO x y=true->leO (ofS K x l) (ofS o y l)=true
 |[],x,y,hx=>by rw[ofS,ofS];exact hx
 |t::r,x,y,hx=>by rw[ofS,ofS];exact z2O h r _ _ (y0D hx (Mh h t))
theorem z2P{K o:zA->Ot}(h:∀s,leO (K s) (o s)=true):∀(l:List RT) (x y:Ot),leO x y=true->leO (ofA K x l) (ofA o y l)=true
 |[],x,y,hx=>by rw[ofA,ofA];exact hx
 |t::r,x,y,hx=>by rw[ofA,ofA];exact z2P h r _ _ (y0E hx (Mh h t))
theorem y0G{K o:zA->Ot}(h:∀s,leO (K s) (o s)=true):∀(l:List RT),leO (ofH K l) (ofH o l)=true
 |[]=>by rw[ofH,ofH];exact Ul _
 |t::r=>by rw[ofH,ofH];exact Mh h t
end
def Jz(K:zA->Ot)(s:zA)(x:Ot):zA->Ot:=fun t=>if t=s then x else K t
def Yw(K:zA->Ot)(x:Rr):zA->Ot:=Jz K x.1 (ofT K x.2.1)
def swp(K:zA->Ot):List Rr->(ByteArray->Ot)
 |[]=>K
 |x::r=>Yw (swp K r) x
def z0O:zA->Ot:=fun _=>(false,false,false)
def itr(rs:List Rr):Nat->(ByteArray->Ot)
 |0=>z0O
 |n+1=>swp (itr rs n) rs
def Xk(K:zA->Ot)(rs:List Rr):Prop:=∀x∈rs,ofT K x.2.1=K x.1
theorem z2Q{K:zA->Ot}{s:zA}{x:Ot}(h:x=K s):Jz K s x=K:=by
 funext t;unfold Jz;by_cases e:t=s
 ·rw[if_pos e,h,e]
 ·rw[if_neg e]
theorem z2R{K:zA->Ot}:∀{rs:List Rr},Xk K rs->swp K rs=K
 |[],_=>rfl
 |x::r,h=>by
  rw[swp,z2R (fun y o=>h y (List.mem_cons_of_mem _ o)),Yw];exact z2Q (h x (List.mem_cons_self ..))
theorem Sx{rs:List Rr}{n:Nat}(h:Xk (itr rs n) rs):∀m,itr rs (n+m)=itr rs n
 |0=>rfl
 |m+1=>by rw[<-Nat.add_assoc,itr,Sx h m,z2R h]
theorem y0H{rs:List Rr}{n m:Nat}(h:Xk (itr rs n) rs)(k:Xk (itr rs m) rs):itr rs n=itr rs m:=by
 rcases Nat.le_total n m with e|e
 ·rw[<-Nat.add_sub_cancel' e,Sx h]
 ·rw[<-Nat.add_sub_cancel' e,Sx k]
def Dj(K:zA->Ot)(rs:List Rr):Prop:=∀x∈rs,leO (K x.1) (ofT K x.2.1)=true
theorem z2S{K:zA->Ot}{x:Rr}(h:leO (K x.1) (ofT K x.2.1)=true):∀s,leO (K s) (Yw K x s)=true:=fun s=>by
 unfold Yw Jz;by_cases e:s=x.1
 ·rw[if_pos e,e];exact h
 ·rw[if_neg e];exact Ul _
theorem y0I{K:zA->Ot}{rs:List Rr}{x:Rr}(t:∀y∈rs,y.1=x.1->y=x)(hx:x∈rs)(h:Dj K rs):Dj (Yw K x) rs:=fun y o=>by
 have r:=z2S (h x hx);by_cases e:y.1=x.1
 ·rw[t y o e]
  refine Sq ?_ (Mh r x.2.1);unfold Yw Jz;rw[if_pos rfl];exact Ul _
 ·refine Sq ?_ (Sq (h y o) (Mh r y.2.1))
  unfold Yw Jz;rw[if_neg e];exact Ul _
def Kv(x:Ot):Nat:=x.1.toNat+(x.2.1.toNat+x.2.2.toNat)
theorem z2T(x:Ot):Kv x<=3:=by obtain⟨a,b,c⟩:=x;revert a b c;decide
theorem z2U{x y:Ot}:leO x y=true->Kv x<=Kv y:=by
 obtain⟨a,b,c⟩:=x;obtain⟨d,e,f⟩:=y
 revert a b c d e f
 decide
theorem y0J{x y:Ot}:leO x y=true->x≠y->Kv x<Kv y:=by
 obtain⟨a,b,c⟩:=x;obtain⟨d,e,f⟩:=y
 revert a b c d e f
 decide
def lck(K:zA->Ot):List Rr->Nat
 |[]=>0
 |x::r=>(3-Kv (K x.1))+lck K r
theorem z2V{K o:zA->Ot}(h:∀s,leO (K s) (o s)=true):∀rs:List Rr,lck o rs<=lck K rs
 |[]=>Nat.le_refl _
 |x::r=>by
  have t:=z2V h r;have y:=z2U (h x.1);rw[lck,lck];omega
theorem z2W{K o:zA->Ot}(h:∀s,leO (K s) (o s)=true):∀{rs:List Rr} {x:Rr},x∈rs->K x.1≠o x.1->lck o rs<lck K rs
 |y::r,x,hx,hne=>by
  have A:=z2V h r;have D:=z2U (h y.1);have E:=z2T (K y.1);have G:=z2T (o y.1);rw[lck,lck];rcases List.mem_cons.1 hx with rfl|hx
  ·have t:=y0J (h x.1) hne
   omega
  ·have t:=z2W h hx hne
   omega
@[reducible] def ov (x:Ot):Value:=.agg #[.bool x.1,.bool x.2.1,.bool x.2.2]
theorem Em(z s f:Bool)(w:World):Calls prog 262 #[.agg #[.bool z,.bool s,.bool f]] w fun e w'=>e=.returned (.bool (suc (z,s,f)))/\Hid (zB w w'):=by
 have h:Hid (∀o:Obj,zB w (w.alloc o)):=fun o=>(Below.refl _ w).alloc L0q o
 cases z<;>cases s<;>(
  go_enter func262,ntmps262
  go_wp2_with fail
  go_ret;exact⟨rfl,hid (h.out _)⟩)
theorem Zz{B:Nat}{a b c:Value}{t:TypeId}(h:zH w B (.cells #[a,b,c] t)):(zC w B 0 a/\zC w B 1 b/\zC w B 2 c)/\w.frozen? ⟨B,0,none⟩=false/\w.frozen? ⟨B,1,none⟩=false/\w.frozen? ⟨B,2,none⟩=false:=by
 obtain⟨x0,y0⟩:=Qj h 0 a rfl;obtain⟨x1,y1⟩:=Qj h 1 b rfl;obtain⟨x2,y2⟩:=Qj h 2 c rfl;exact⟨⟨x0,x1,x2⟩,y0,y1,y2⟩
theorem z2X(h:Hid (zB w W)/\zC W w.heap.size 0 y0/\zC W w.heap.size 1 y1/\zC W w.heap.size 2 y2)(o:zB W W'):Hid (zB w W')/\zC W' w.heap.size 0 y0/\zC W' w.heap.size 1 y1/\zC W' w.heap.size 2 y2:=by
 obtain⟨z,r,t,y⟩:=h;have hl:w.heap.size<W.heap.size:=World.block_lt_of_cell? W ⟨w.heap.size,0,none⟩ r;have e:∀j,W'.cell? ⟨w.heap.size,j,none⟩=W.cell? ⟨w.heap.size,j,none⟩:=fun j=>o.cell (p:=⟨w.heap.size,j,none⟩) hl
 exact⟨hid (z.out.trans (o.mono z.out.size)),(e _).trans r,(e _).trans t,(e _).trans y⟩
theorem z2Y(h:Hid (zB w W)/\zC W w.heap.size 0 y0/\zC W w.heap.size 1 y1/\zC W w.heap.size 2 y2)(o:W.grownBy W' (some (w.heap.size+1+1))):Hid (zB w W')/\zC W' w.heap.size 0 y0/\zC W' w.heap.size 1 y1/\zC W' w.heap.size 2 y2:=by
 obtain⟨z,r,t,y⟩:=h;have e:∀j,W'.cell? ⟨w.heap.size,j,none⟩=W.cell? ⟨w.heap.size,j,none⟩:=fun j=>World.cell?_of_block (o.block w.heap.size (World.block_lt_of_cell? W ⟨w.heap.size,0,none⟩ r) (fun e=>by have:=Option.some.inj e;omega))
 exact⟨hid (z.out.grown o z.out.size (fun g e=>by have:=Option.some.inj e;omega)),(e _).trans r,(e _).trans t,(e _).trans y⟩
theorem Xv(W:World)(R:Nat)(v0 v1 v2:Value):W.grownBy (((W.setCell ⟨R,0,none⟩ v0).setCell ⟨R,1,none⟩ v1).setCell ⟨R,2,none⟩ v2) (some R):=G.setR (G.setR (G.setR (G.refl _ _)))
theorem y0K(z s f:Bool)(w:World):Calls prog 230 #[zI 8,.agg #[.bool z,.bool s,.bool f]] w fun e w'=>e=.returned (ov (Zy 8 (z,s,f)))/\Hid (zB w w'):=by
 have h:Hid (∀o r t:Obj,zB w (((w.alloc o).alloc r).alloc t)):=fun o r t=>(((Below.refl _ w).alloc L0q o).alloc (by simp) r).alloc (by simp;omega) t
 match z,s,f with
 |true,true,true=>
  go_enter func230,ntmps230
  go_wp2_with fail
  refine bodyPost_ret (v:=.agg #[.bool true,.bool true,.bool false]) (by simp[results,Tryz.results230,go_sem]) rfl ?_;exact⟨rfl,hid (h.out _ _ _)⟩
 |true,true,false=>
  go_enter func230,ntmps230
  go_wp2_with fail
  refine bodyPost_ret (v:=.agg #[.bool true,.bool true,.bool false]) (by simp[results,Tryz.results230,go_sem]) rfl ?_;exact⟨rfl,hid (h.out _ _ _)⟩
 |true,false,true=>
  go_enter func230,ntmps230
  go_wp2_with fail
  refine bodyPost_ret (v:=.agg #[.bool true,.bool false,.bool false]) (by simp[results,Tryz.results230,go_sem]) rfl ?_;exact⟨rfl,hid (h.out _ _ _)⟩
 |true,false,false=>
  go_enter func230,ntmps230
  go_wp2_with fail
  refine bodyPost_ret (v:=.agg #[.bool true,.bool false,.bool false]) (by simp[results,Tryz.results230,go_sem]) rfl ?_;exact⟨rfl,hid (h.out _ _ _)⟩
 |false,true,true=>
  go_enter func230,ntmps230
  go_wp2_with fail
  refine bodyPost_ret (v:=.agg #[.bool true,.bool true,.bool false]) (by simp[results,Tryz.results230,go_sem]) rfl ?_;exact⟨rfl,hid (h.out _ _ _)⟩
 |false,true,false=>
  go_enter func230,ntmps230
  go_wp2_with fail
  refine bodyPost_ret (v:=.agg #[.bool false,.bool true,.bool false]) (by simp[results,Tryz.results230,go_sem]) rfl ?_;exact⟨rfl,hid (h.out _ _ _)⟩
 |false,false,true=>
  go_enter func230,ntmps230
  go_wp2_with fail
  refine bodyPost_ret (v:=.agg #[.bool true,.bool false,.bool false]) (by simp[results,Tryz.results230,go_sem]) rfl ?_;exact⟨rfl,hid (h.out _ _ _)⟩
 |false,false,false=>
  go_enter func230,ntmps230
  go_wp2_with fail
  refine bodyPost_ret (v:=.agg #[.bool false,.bool false,.bool false]) (by simp[results,Tryz.results230,go_sem]) rfl ?_;exact⟨rfl,hid (h.out _ _ _)⟩
theorem y0L(z s f:Bool)(w:World):Calls prog 230 #[zI 9,.agg #[.bool z,.bool s,.bool f]] w fun e w'=>e=.returned (ov (Zy 9 (z,s,f)))/\Hid (zB w w'):=by
 have h:Hid (∀o r t:Obj,zB w (((w.alloc o).alloc r).alloc t)):=fun o r t=>(((Below.refl _ w).alloc L0q o).alloc (by simp) r).alloc (by simp;omega) t
 match z,s,f with
 |true,true,true=>
  go_enter func230,ntmps230
  go_wp2_with fail
  refine bodyPost_ret (v:=.agg #[.bool true,.bool true,.bool false]) (by simp[results,Tryz.results230,go_sem]) rfl ?_;exact⟨rfl,hid (h.out _ _ _)⟩
 |true,true,false=>
  go_enter func230,ntmps230
  go_wp2_with fail
  refine bodyPost_ret (v:=.agg #[.bool false,.bool true,.bool false]) (by simp[results,Tryz.results230,go_sem]) rfl ?_;exact⟨rfl,hid (h.out _ _ _)⟩
 |true,false,true=>
  go_enter func230,ntmps230
  go_wp2_with fail
  refine bodyPost_ret (v:=.agg #[.bool true,.bool false,.bool false]) (by simp[results,Tryz.results230,go_sem]) rfl ?_;exact⟨rfl,hid (h.out _ _ _)⟩
 |true,false,false=>
  go_enter func230,ntmps230
  go_wp2_with fail
  refine bodyPost_ret (v:=.agg #[.bool false,.bool false,.bool false]) (by simp[results,Tryz.results230,go_sem]) rfl ?_;exact⟨rfl,hid (h.out _ _ _)⟩
 |false,true,true=>
  go_enter func230,ntmps230
  go_wp2_with fail
  refine bodyPost_ret (v:=.agg #[.bool true,.bool true,.bool false]) (by simp[results,Tryz.results230,go_sem]) rfl ?_;exact⟨rfl,hid (h.out _ _ _)⟩
 |false,true,false=>
  go_enter func230,ntmps230
  go_wp2_with fail
  refine bodyPost_ret (v:=.agg #[.bool false,.bool true,.bool false]) (by simp[results,Tryz.results230,go_sem]) rfl ?_;exact⟨rfl,hid (h.out _ _ _)⟩
 |false,false,true=>
  go_enter func230,ntmps230
  go_wp2_with fail
  refine bodyPost_ret (v:=.agg #[.bool true,.bool false,.bool false]) (by simp[results,Tryz.results230,go_sem]) rfl ?_;exact⟨rfl,hid (h.out _ _ _)⟩
 |false,false,false=>
  go_enter func230,ntmps230
  go_wp2_with fail
  refine bodyPost_ret (v:=.agg #[.bool false,.bool false,.bool false]) (by simp[results,Tryz.results230,go_sem]) rfl ?_;exact⟨rfl,hid (h.out _ _ _)⟩
theorem y0M(z s f:Bool)(w:World):Calls prog 230 #[zI 10,.agg #[.bool z,.bool s,.bool f]] w fun e w'=>e=.returned (ov (Zy 10 (z,s,f)))/\Hid (zB w w'):=by
 have h:Hid (∀o r t:Obj,zB w (((w.alloc o).alloc r).alloc t)):=fun o r t=>(((Below.refl _ w).alloc L0q o).alloc (by simp) r).alloc (by simp;omega) t
 match z,s,f with
 |true,true,true=>
  go_enter func230,ntmps230
  go_wp2_with fail
  refine bodyPost_ret (v:=.agg #[.bool true,.bool true,.bool true]) (by simp[results,Tryz.results230,go_sem]) rfl ?_;exact⟨rfl,hid (h.out _ _ _)⟩
 |true,true,false=>
  go_enter func230,ntmps230
  go_wp2_with fail
  refine bodyPost_ret (v:=.agg #[.bool false,.bool true,.bool false]) (by simp[results,Tryz.results230,go_sem]) rfl ?_;exact⟨rfl,hid (h.out _ _ _)⟩
 |true,false,true=>
  go_enter func230,ntmps230
  go_wp2_with fail
  refine bodyPost_ret (v:=.agg #[.bool true,.bool false,.bool true]) (by simp[results,Tryz.results230,go_sem]) rfl ?_;exact⟨rfl,hid (h.out _ _ _)⟩
 |true,false,false=>
  go_enter func230,ntmps230
  go_wp2_with fail
  refine bodyPost_ret (v:=.agg #[.bool false,.bool false,.bool false]) (by simp[results,Tryz.results230,go_sem]) rfl ?_;exact⟨rfl,hid (h.out _ _ _)⟩
 |false,true,true=>
  go_enter func230,ntmps230
  go_wp2_with fail
  refine bodyPost_ret (v:=.agg #[.bool false,.bool true,.bool true]) (by simp[results,Tryz.results230,go_sem]) rfl ?_;exact⟨rfl,hid (h.out _ _ _)⟩
 |false,true,false=>
  go_enter func230,ntmps230
  go_wp2_with fail
  refine bodyPost_ret (v:=.agg #[.bool false,.bool true,.bool false]) (by simp[results,Tryz.results230,go_sem]) rfl ?_;exact⟨rfl,hid (h.out _ _ _)⟩
 |false,false,true=>
  go_enter func230,ntmps230
  go_wp2_with fail
  refine bodyPost_ret (v:=.agg #[.bool false,.bool false,.bool true]) (by simp[results,Tryz.results230,go_sem]) rfl ?_;exact⟨rfl,hid (h.out _ _ _)⟩
 |false,false,false=>
  go_enter func230,ntmps230
  go_wp2_with fail
  refine bodyPost_ret (v:=.agg #[.bool false,.bool false,.bool false]) (by simp[results,Tryz.results230,go_sem]) rfl ?_;exact⟨rfl,hid (h.out _ _ _)⟩
theorem y0N(z s f:Bool)(w:World):Calls prog 230 #[zI 11,.agg #[.bool z,.bool s,.bool f]] w fun e w'=>e=.returned (ov (Zy 11 (z,s,f)))/\Hid (zB w w'):=by
 obtain⟨o,r⟩:∃o,o=((w.alloc (.cells #[.bool z,.bool s,.bool f] 210)).alloc (.cells #[.bool false,.bool false,.bool false] 210)).alloc (.cells #[.bool false,.bool false,.bool false] 210):=⟨_,rfl⟩;have I:Hid (zB w o):=by rw[r];exact(((Below.refl _ w).alloc L0q _).alloc (by simp) _).alloc (by simp;omega) _
 have U:o.heap[w.heap.size]? =some (.cells #[.bool z,.bool s,.bool f] 210):=by rw[r];exact(Below.heap_alloc _ _ _ (by simp;omega)).trans ((Below.heap_alloc _ _ _ (by simp)).trans (Qx w _ rfl))
 have ad:Hid (o.heap[w.heap.size+1]? =some (.cells #[.bool false,.bool false,.bool false] 210)):=by rw[r];exact(Below.heap_alloc _ _ _ (by simp)).trans (Qx _ _ (by simp))
 have ae:Hid (o.heap[w.heap.size+1+1]? =some (.cells #[.bool false,.bool false,.bool false] 210)):=by rw[r];exact Qx _ _ (by simp)
 obtain⟨⟨t0,t1,t2⟩,_⟩:=Zz U;have S2:(fun W:World=>Hid (zB w W)/\zC W w.heap.size 0 (.bool z)/\zC W w.heap.size 1 (.bool s)/\zC W w.heap.size 2 (.bool f)) o.drew:=⟨hid I.out.drew,t0,t1,t2⟩;have am:=Qq U;have ai:=Qq ae.out;have aj:=Qq ad.out;have HS:=hid (fun W:World=>Em z s f W);clear U;go_enter func230,ntmps230
 go_wp2_with fail
 rw[<-r];clear r
 go_region_held3 (fun W:World=>Hid (zB w W)/\zC W w.heap.size 0 (.bool z)/\zC W w.heap.size 1 (.bool s)/\zC W w.heap.size 2 (.bool f)) (first|(with_reducible assumption)|(with_reducible exact z2X (by assumption) (by assumption))|(with_reducible exact z2Y (by assumption) (Xv _ _ _ _ _))) (first
  |(go_at_call 262;refine(HS.out _).mono ?_;rintro e V ⟨rfl,af⟩;have t:=af.out;have y:=hid ((t.block (w.heap.size+1+1) ai).trans ae.out);have Y:=hid ((t.block (w.heap.size+1) aj).trans ad.out);obtain⟨⟨z0,z1,z2⟩,f0,f1,f2⟩:=Zz y.out;have lz:=Qq y.out))
 obtain⟨h,A⟩:∃h,h=((V.setCell ⟨w.heap.size+1+1,0,none⟩ (.bool (suc (z,s,f)))).setCell ⟨w.heap.size+1+1,1,none⟩ (.bool false)).setCell ⟨w.heap.size+1+1,2,none⟩ (.bool f):=⟨_,rfl⟩;have Z:h.heap[w.heap.size+1+1]? =some (.cells #[.bool (suc (z,s,f)),.bool false,.bool f] 210):=by rw[A];exact Qw (Qw (Qw y.out 0 _) 1 _) 2 _
 have aa:V.grownBy h (some (w.heap.size+1+1)):=by rw[A];exact Xv _ _ _ _ _
 have D:h.heap[w.heap.size+1]? =some (.cells #[.bool false,.bool false,.bool false] 210):=(aa.block _ (Qq Y.out) (fun e=>by have:=Option.some.inj e;omega)).trans Y.out;rw[<-A];obtain⟨E,G⟩:∃E,E=((h.setCell ⟨w.heap.size+1,0,none⟩ (.bool (suc (z,s,f)))).setCell ⟨w.heap.size+1,1,none⟩ (.bool false)).setCell ⟨w.heap.size+1,2,none⟩ (.bool f):=⟨_,rfl⟩;have ag:E.heap[w.heap.size+1]? =some (.cells #[.bool (suc (z,s,f)),.bool false,.bool f] 210):=by rw[G];exact Qw (Qw (Qw D 0 _) 1 _) 2 _
 have ah:h.grownBy E (some (w.heap.size+1)):=by rw[G];exact Xv _ _ _ _ _
 have ab:zB w V:=I.out.drew.trans (t.mono I.out.drew.size);have ac:zB w h:=ab.grown aa ab.size (fun g e=>by have:=Option.some.inj e;omega);have ak:=hid (ac.grown ah ac.size (fun g e=>by have:=Option.some.inj e;omega));obtain⟨⟨u0,u1,u2⟩,_⟩:=Zz Z;obtain⟨⟨r0,r1,r2⟩,q0,q1,q2⟩:=Zz D;obtain⟨⟨e0,e1,e2⟩,_⟩:=Zz ag;have lx:=Qq Z;have ly:=Qq D;have al:=hid G;clear A G Z aa D ag ah ab ac y Y af t z0 z1 z2 f0 f1 f2 S2 t0 t1 t2 HS
 go_wp2_with fail
 rw[<-al.out];refine bodyPost_ret (v:=.agg #[.bool (suc (z,s,f)),.bool false,.bool f]) (by simp[results,Tryz.results230,go_sem,e0,e1,e2]) rfl ?_;exact⟨rfl,ak⟩
theorem y0O(z s f:Bool)(w:World):Calls prog 230 #[zI 12,.agg #[.bool z,.bool s,.bool f]] w fun e w'=>e=.returned (ov (Zy 12 (z,s,f)))/\Hid (zB w w'):=by
 obtain⟨o,r⟩:∃o,o=((w.alloc (.cells #[.bool z,.bool s,.bool f] 210)).alloc (.cells #[.bool false,.bool false,.bool false] 210)).alloc (.cells #[.bool false,.bool false,.bool false] 210):=⟨_,rfl⟩;have I:Hid (zB w o):=by rw[r];exact(((Below.refl _ w).alloc L0q _).alloc (by simp) _).alloc (by simp;omega) _
 have U:o.heap[w.heap.size]? =some (.cells #[.bool z,.bool s,.bool f] 210):=by rw[r];exact(Below.heap_alloc _ _ _ (by simp;omega)).trans ((Below.heap_alloc _ _ _ (by simp)).trans (Qx w _ rfl))
 have ad:Hid (o.heap[w.heap.size+1]? =some (.cells #[.bool false,.bool false,.bool false] 210)):=by rw[r];exact(Below.heap_alloc _ _ _ (by simp)).trans (Qx _ _ (by simp))
 have ae:Hid (o.heap[w.heap.size+1+1]? =some (.cells #[.bool false,.bool false,.bool false] 210)):=by rw[r];exact Qx _ _ (by simp)
 obtain⟨⟨t0,t1,t2⟩,_⟩:=Zz U;have S2:(fun W:World=>Hid (zB w W)/\zC W w.heap.size 0 (.bool z)/\zC W w.heap.size 1 (.bool s)/\zC W w.heap.size 2 (.bool f)) o.drew:=⟨hid I.out.drew,t0,t1,t2⟩;have am:=Qq U;have ai:=Qq ae.out;have aj:=Qq ad.out;have HS:=hid (fun W:World=>Em z s f W);clear U;go_enter func230,ntmps230
 go_wp2_with fail
 rw[<-r];clear r
 go_region_held3 (fun W:World=>Hid (zB w W)/\zC W w.heap.size 0 (.bool z)/\zC W w.heap.size 1 (.bool s)/\zC W w.heap.size 2 (.bool f)) (first|(with_reducible assumption)|(with_reducible exact z2X (by assumption) (by assumption))|(with_reducible exact z2Y (by assumption) (Xv _ _ _ _ _))) (first
  |(go_at_call 262;refine(HS.out _).mono ?_;rintro e V ⟨rfl,af⟩;have t:=af.out;have y:=hid ((t.block (w.heap.size+1+1) ai).trans ae.out);have Y:=hid ((t.block (w.heap.size+1) aj).trans ad.out);obtain⟨⟨z0,z1,z2⟩,f0,f1,f2⟩:=Zz y.out;have lz:=Qq y.out))
 obtain⟨h,A⟩:∃h,h=((V.setCell ⟨w.heap.size+1+1,0,none⟩ (.bool f)).setCell ⟨w.heap.size+1+1,1,none⟩ (.bool false)).setCell ⟨w.heap.size+1+1,2,none⟩ (.bool (suc (z,s,f))):=⟨_,rfl⟩;have Z:h.heap[w.heap.size+1+1]? =some (.cells #[.bool f,.bool false,.bool (suc (z,s,f))] 210):=by rw[A];exact Qw (Qw (Qw y.out 0 _) 1 _) 2 _
 have aa:V.grownBy h (some (w.heap.size+1+1)):=by rw[A];exact Xv _ _ _ _ _
 have D:h.heap[w.heap.size+1]? =some (.cells #[.bool false,.bool false,.bool false] 210):=(aa.block _ (Qq Y.out) (fun e=>by have:=Option.some.inj e;omega)).trans Y.out;rw[<-A];obtain⟨E,G⟩:∃E,E=((h.setCell ⟨w.heap.size+1,0,none⟩ (.bool f)).setCell ⟨w.heap.size+1,1,none⟩ (.bool false)).setCell ⟨w.heap.size+1,2,none⟩ (.bool (suc (z,s,f))):=⟨_,rfl⟩;have ag:E.heap[w.heap.size+1]? =some (.cells #[.bool f,.bool false,.bool (suc (z,s,f))] 210):=by rw[G];exact Qw (Qw (Qw D 0 _) 1 _) 2 _
 have ah:h.grownBy E (some (w.heap.size+1)):=by rw[G];exact Xv _ _ _ _ _
 have ab:zB w V:=I.out.drew.trans (t.mono I.out.drew.size);have ac:zB w h:=ab.grown aa ab.size (fun g e=>by have:=Option.some.inj e;omega);have ak:=hid (ac.grown ah ac.size (fun g e=>by have:=Option.some.inj e;omega));obtain⟨⟨u0,u1,u2⟩,_⟩:=Zz Z;obtain⟨⟨r0,r1,r2⟩,q0,q1,q2⟩:=Zz D;obtain⟨⟨e0,e1,e2⟩,_⟩:=Zz ag;have lx:=Qq Z;have ly:=Qq D;have al:=hid G;clear A G Z aa D ag ah ab ac y Y af t z0 z1 z2 f0 f1 f2 S2 t0 t1 t2 HS
 go_wp2_with fail
 rw[<-al.out];refine bodyPost_ret (v:=.agg #[.bool f,.bool false,.bool (suc (z,s,f))]) (by simp[results,Tryz.results230,go_sem,e0,e1,e2]) rfl ?_;exact⟨rfl,ak⟩
end Go.Proofs.YtgnkkgcgbeianaaGreatDoor
