/- Lemmas for the last text. Conditions: those that each names. -/
import Derived.Test.YtmelafeingcgnaaGreatDoorVY1ToY5
import Derived.WalkLawsBesides
set_option linter.unusedVariables false
set_option maxRecDepth 100000
set_option maxHeartbeats 8000000
namespace Go.Proofs.YtmelafeingcgnaaGreatDoor
open Go.Proofs.Tryz
open Go.RowKit
variable {L:List Tok} {R b k k' ru:Nat} {inn:Nat->Pr} {n:Nd} {W w:World} {v:Value}
def gL(L:List Tok)(k:Nat):Tok:=(L[k]?).getD (6,{data:=#[]},0,0)
theorem Uz(h:k<L.length):gL L k=L[k]:=by
 unfold gL;rw[List.getElem?_eq_getElem h];rfl
structure Ql (L:List Tok):Prop where
 len:L.length<=10000
 nxt:∀k,k<L.length->(gL L k).1≠6->k+1<L.length
 sgn:∀k,(gL L k).1=5->∃x,x<256/\(gL L k).2.1=nb [x]
def Fy(L:List Tok)(inn:Nat->Pr)(k:Nat):Pr:=
 if(gL L k).1=1/\hdB L k=false then .inr (.mk 5 (gL L k).2.1 (gL L k).2.2.1 [] (gL L k).2.2.2,k+1)
 else if(gL L k).1=3 then .inr (.mk 2 (gL L k).2.1 (gL L k).2.2.1 [] (gL L k).2.2.2,k+1)
 else if(gL L k).1=4 then .inr (.mk 3 (gL L k).2.1 (gL L k).2.2.1 [] (gL L k).2.2.2,k+1)
 else if sgT (gL L k)={data:=#[46]}then .inr (.mk 4 {data:=#[]} (gL L k).2.2.1 [] (gL L k).2.2.2,k+1)
 else if sgT (gL L k)={data:=#[40]}then inn k
 else .inl (wrC (gL L k),(gL L k).2.2.2)
def Cw(L:List Tok)(r:Pr):Pr:=match r with
 | .inl e=>.inl e
 | .inr (n,k')=>if rpK (sgT (gL L k'))=0 then .inr (n,k')else .inr (.mk (rpK (sgT (gL L k'))) {data:=#[]} 0 [n] n.at',k'+1)
def Jd(L:List Tok)(inn:Nat->Pr)(k:Nat):Pr:=Cw L (Fy L inn k)
def ovS(kd p:Nat)(r:Pr):Pr:=match r with
 | .inl e=>.inl e
 | .inr (n,k')=>.inr (.mk kd {data:=#[]} 0 [n] p,k')
def Gv(L:List Tok)(inn:Nat->Pr)(k:Nat):Pr:=
 if sgT (gL L k)={data:=#[33]}then ovS 12 (gL L k).2.2.2 (Jd L inn (k+1))
 else if sgT (gL L k)={data:=#[38]}then ovS 11 (gL L k).2.2.2 (Jd L inn (k+1))
 else Jd L inn k
def Xc(L:List Tok)(inn:Nat->Pr):Nat->Nat->List Nd->Pr
 |0,_,_=>.inl (0,0)
 |f+1,k,acc=>if ptB L k (gL L k)=true then(match Gv L inn k with
   | .inl e=>.inl e
   | .inr (n,k')=>Xc L inn f k' (acc++[n]))
  else if acc.isEmpty=true then .inr (.mk 1 {data:=#[]} 0 [] (gL L k).2.2.2,k)else .inr (Jh 6 acc,k)
def Uq(L:List Tok)(inn:Nat->Pr):Nat->Nat->List Nd->Pr
 |0,_,_=>.inl (0,0)
 |f+1,k,acc=>if sgT (gL L k)={data:=#[47]}then(match Xc L inn L.length (k+1) []with
   | .inl e=>.inl e
   | .inr (n,k')=>Uq L inn f k' (acc++[n]))
  else .inr (Jh 7 acc,k)
def chE(L:List Tok)(inn:Nat->Pr)(r:Pr):Pr:=match r with
 | .inl e=>.inl e
 | .inr (n,k')=>Uq L inn L.length k' [n]
def chS(L:List Tok)(inn:Nat->Pr)(k:Nat):Pr:=chE L inn (Xc L inn L.length k [])
def Cy(L:List Tok)(r:Pr):Pr:=match r with
 | .inl e=>.inl e
 | .inr (n,k')=>if sgT (gL L k')={data:=#[41]}then .inr (n,k'+1)else .inl (wrC (gL L k'),(gL L k').2.2.2)
def Vh(L:List Tok):Nat->Nat->Pr
 |0,k=>.inl (2,(gL L k).2.2.2)
 |d+1,k=>Cy L (chS L (Vh L d) (k+1))
def Adv(L:List Tok)(inn:Nat->Pr):Prop:=∀k n k',k<L.length->sgT (gL L k)={data:=#[40]}->inn k=.inr (n,k')->k<k'/\k'<L.length
theorem Ff{t:Tok}{x:UInt8}(h:sgT t={data:=#[x]}):t.1=5:=by
 unfold sgT at h;split at h
 ·assumption
 ·exact absurd (congrArg (fun a:zA=>a.data.size) h) (by simp)
theorem Ql.sg(o:Ql L){x:UInt8}(r:k<L.length)(h:sgT (gL L k)={data:=#[x]}):k+1<L.length:=
 o.nxt k r (by rw[Ff h];decide)
theorem z0X(r:Ql L)(ha:Adv L inn)(o:k<L.length)(h:Fy L inn k=.inr (n,k')):k<k'/\k'<L.length:=by
 unfold Fy at h;split at h
 ·rename_i A
  simp only[Sum.inr.injEq,Prod.mk.injEq]at h;have:=r.nxt k o (by omega);omega
 ·split at h
  ·simp only[Sum.inr.injEq,Prod.mk.injEq]at h
   have:=r.nxt k o (by omega);omega
  ·split at h
   ·simp only[Sum.inr.injEq,Prod.mk.injEq]at h
    have:=r.nxt k o (by omega);omega
   ·split at h
    ·rename_i y
     simp only[Sum.inr.injEq,Prod.mk.injEq]at h;have:=r.sg o y;omega
    ·split at h
     ·rename_i y
      exact ha k n k' o y h
     ·cases h
theorem z7P{t:Tok}(h:rpK (sgT t)≠0):t.1=5:=by
 unfold rpK at h;split at h
 ·rename_i o;exact Ff o
 ·split at h
  ·rename_i o;exact Ff o
  ·split at h
   ·rename_i o;exact Ff o
   ·exact absurd rfl h
theorem z7Q(o:Ql L){r:Pr}(y:∀m j,r=.inr (m,j)->k<j/\j<L.length)(h:Cw L r=.inr (n,k')):k<k'/\k'<L.length:=by
 cases r with
 |inl e=>cases h
 |inr q=>
  obtain⟨m,j⟩:=q;have A:=y m j rfl;unfold Cw at h;simp only at h;split at h
  ·simp only[Sum.inr.injEq,Prod.mk.injEq]at h
   omega
  ·rename_i D
   have:=o.nxt j A.2 (by rw[z7P D];decide);simp only[Sum.inr.injEq,Prod.mk.injEq]at h;omega
theorem Oz(o:Ql L)(ha:Adv L inn)(r:k<L.length)(h:Jd L inn k=.inr (n,k')):k<k'/\k'<L.length:=
 z7Q o (fun m j e=>z0X o ha r e) h
theorem z0Y{kd p:Nat}{r:Pr}(h:ovS kd p r=.inr (n,k')):∃m,r=.inr (m,k'):=by
 cases r with
 |inl e=>cases h
 |inr q=>
  obtain⟨m,j⟩:=q;unfold ovS at h;simp only[Sum.inr.injEq,Prod.mk.injEq]at h;exact⟨m,by rw[h.2]⟩
theorem z0Z(o:Ql L)(ha:Adv L inn)(r:k<L.length)(h:Gv L inn k=.inr (n,k')):k<k'/\k'<L.length:=by
 unfold Gv at h;split at h
 ·rename_i y
  obtain⟨m,A⟩:=z0Y h;have:=Oz o ha (o.sg r y) A;omega
 ·split at h
  ·rename_i y
   obtain⟨m,A⟩:=z0Y h;have:=Oz o ha (o.sg r y) A;omega
  ·exact Oz o ha r h
theorem Nw{L:List Tok}{inn:Nat->Pr}(o:Ql L)(ha:Adv L inn):∀(f k:Nat) (acc:List Nd) (n:Nd) (k':Nat),k<L.length->Xc L inn f k acc=.inr (n,k')->k<=k'/\k'<L.length
 |0,_,_,_,_,_,h=>by rw[Xc]at h;cases h
 |f+1,k,acc,n,k',hk,h=>by
  rw[Xc]at h;split at h
  ·split at h
   ·cases h
   ·rename_i m j r
    have y:=z0Z o ha hk r;have A:=Nw o ha f j (acc++[m]) n k' y.2 h;omega
  ·split at h
   ·simp only[Sum.inr.injEq,Prod.mk.injEq]at h;omega
   ·simp only[Sum.inr.injEq,Prod.mk.injEq]at h;omega
theorem z1a{L:List Tok}{inn:Nat->Pr}(o:Ql L)(ha:Adv L inn):∀(f k:Nat) (acc:List Nd) (n:Nd) (k':Nat),k<L.length->Uq L inn f k acc=.inr (n,k')->k<=k'/\k'<L.length
 |0,_,_,_,_,_,h=>by rw[Uq]at h;cases h
 |f+1,k,acc,n,k',hk,h=>by
  rw[Uq]at h;split at h
  ·rename_i r
   split at h
   ·cases h
   ·rename_i m j y
    have A:=Nw o ha _ _ _ _ _ (o.sg hk r) y;have D:=z1a o ha f j (acc++[m]) n k' A.2 h;omega
  ·simp only[Sum.inr.injEq,Prod.mk.injEq]at h;omega
theorem Oq(o:Ql L)(ha:Adv L inn)(r:k<L.length)(h:chS L inn k=.inr (n,k')):k<=k'/\k'<L.length:=by
 unfold chS at h;cases hr:Xc L inn L.length k []with
 |inl e=>rw[hr]at h;cases h
 |inr q=>
  obtain⟨m,j⟩:=q;rw[hr]at h;have y:=Nw o ha _ _ _ _ _ r hr;have A:=z1a o ha _ _ _ _ _ y.2 h;omega
theorem z7R{r:Pr}(h:Cy L r=.inr (n,k')):∃j,r=.inr (n,j)/\sgT (gL L j)={data:=#[41]}/\k'=j+1:=by
 cases r with
 |inl e=>cases h
 |inr q=>
  obtain⟨m,j⟩:=q;unfold Cy at h;simp only at h;split at h
  ·rename_i o
   simp only[Sum.inr.injEq,Prod.mk.injEq]at h;exact⟨j,by rw[h.1],o,h.2.symm⟩
  ·cases h
theorem Ny{L:List Tok}(o:Ql L):∀d,Adv L (Vh L d)
 |0=>fun k n k' _ _ h=>by rw[Vh]at h;cases h
 |d+1=>fun k n k' r y h=>by
  rw[Vh]at h;obtain⟨j,A,D,G⟩:=z7R h;have E:=Oq o (Ny o d) (o.sg r y) A;have U:=o.sg E.2 D;omega
theorem Qh.shape{P:Nat->Prop}{c:List Value}(h:Qh w P n c):∃kd T C r y A,c=n8 kd T C (.slice r y A) n.at':=by
 obtain⟨o,T,C,G,U⟩:=n;rw[Qh]at h;obtain⟨sv,rfl,D⟩:=h;rcases D with⟨_,rfl⟩|⟨_,g,E,V,rfl,_⟩
 ·exact⟨o,T,C,none,0,0,rfl⟩
 ·exact⟨o,T,C,_,_,E,rfl⟩
theorem G.trans{w w1 r:World}{R:Nat}(h:w.grownBy w1 (some R))(o:w1.grownBy r (some R)):w.grownBy r (some R):=
 ⟨o.os.trans h.os,o.tape.trans h.tape,o.output.trans h.output,Nat.le_trans h.size o.size,fun j y A=>(o.block j (Nat.lt_of_lt_of_le y h.size) A).trans (h.block j y A)⟩
theorem G.refl(w:World)(R:Nat):w.grownBy w (some R):=G.below B0q
theorem Rd.next1{ne:Nat}(h:Rd w R b v L k ru ne):Rd (w.setCell ⟨R,1,none⟩ (zI ((k:Int)+1))) R b v L (k+1) ru ne:=by
 have o:=h.next (k+1);rw[show(((k+1:Nat):Int))=(k:Int)+1 by omega]at o;exact o
theorem Rd.alloc{w:World}{R b:Nat}{v:Value}{L:List Tok}{k ru ne:Nat}(h:Rd w R b v L k ru ne)(o:Obj):Rd (w.alloc o) R b v L k ru ne:=h.below (B0q.alloc L0q _)
def MC(F:Nat)(sp:Nat->Pr)(ok:Nat->Prop)(R b:Nat)(v:Value)(L:List Tok)(ru ne:Nat):Prop:=
 ∀(k B:Nat) (w:World),Rd w R b v L k ru ne->k<L.length->ok k->B<=w.heap.size->Calls prog F #[zP R 0] w fun e w'=>Qd (sp k) B R b v L ru ne w e w'
theorem Jm(R b:Nat)(v:Value)(L:List Tok)(k ru ne:Nat)(o:k<L.length)(r:Ql L):Hid (∀w:World,Rd w R b v L k ru ne->
  Calls prog 132 #[zP R 0] w (zR w (tkv (gL L k)))):=fun w h=>by
 rw[Uz o];exact Jc R b v L k ru ne w h o r.len
theorem Gw(R b:Nat)(v:Value)(L:List Tok)(k ru ne:Nat)(o:k<L.length)(r:Ql L):Hid (∀w:World,Rd w R b v L k ru ne->
  Calls prog 192 #[zP R 0] w (zR w (zT (sgT (gL L k))))):=fun w h=>by
 rw[Uz o];exact Lc R b v L k ru ne w h o r.len
theorem Cf(R b:Nat)(v:Value)(L:List Tok)(k ru ne:Nat)(o:k<L.length)(r:Ql L):Hid (∀w:World,Rd w R b v L k ru ne->
  Calls prog 165 #[zP R 0] w fun e w'=>∃f,e=.returned (zP f 0)/\Hid (w.heap.size<=f/\Flt w' f (wrC (gL L k),(gL L k).2.2.2)/\zB w w')):=fun w h=>by
 rw[Uz o];exact z0U R b v L k ru ne w h o r.len
theorem z1b(R b:Nat)(v:Value)(L:List Tok)(k ru ne:Nat)(o:k<L.length)(r:Ql L):Hid (∀(c:Nat) (w:World),Rd w R b v L k ru ne->
  Calls prog 166 #[zP R 0,zI (c:Int)] w fun e w'=>∃f,e=.returned (zP f 0)/\Hid (w.heap.size<=f/\Flt w' f (c,(gL L k).2.2.2)/\zB w w')):=fun c w h=>by
 rw[Uz o];exact z0T R b v L k ru ne c w h o r.len
theorem z1c(R b:Nat)(v:Value)(L:List Tok)(k ru ne:Nat)(o:k<L.length)(r:(gL L k).1=1)(y:Ql L):Hid (∀w:World,Rd w R b v L k ru ne->
  Calls prog 257 #[zP R 0] w (zR w (.bool (hdB L k)))):=fun w h=>
 z0W R b v L k ru ne w h o (by rw[Uz o]at r;exact r) (y.nxt k o (by rw[r];decide)) y.len
theorem z7S(R b:Nat)(v:Value)(L:List Tok)(k ru ne:Nat)(o:k<L.length)(r:Ql L):Hid (∀w:World,Rd w R b v L k ru ne->
  Calls prog 224 #[zP R 0] w (zR w (.bool (ptB L k (gL L k))))):=fun w h=>by
 rw[Uz o];exact z7K R b v L k ru ne w h o (fun y=>r.nxt k o (by rw[Uz o,y];decide)) (fun A=>by have:=r.sgn k (by rw[Uz o];exact A);rw[Uz o]at this;exact this) r.len
theorem z7T(B R b:Nat)(v:Value)(L:List Tok)(k ru ne:Nat)(w:World)(h:Rd w R b v L k ru ne)(o:k<L.length)(r:(gL L k).1=3)(y:Ql L)(A:B<=w.heap.size):
  Calls prog 280 #[zP R 0] w fun e w'=>Qd (.inr (.mk 2 (gL L k).2.1 (gL L k).2.2.1 [] (gL L k).2.2.2,k+1)) B R b v L ru ne w e w':=
 z7M B R b v L k ru ne _ _ _ w h o (by rw[Uz o]at r ⊢;rw[<-r]) y.len A
theorem z7U(B R b:Nat)(v:Value)(L:List Tok)(k ru ne:Nat)(w:World)(h:Rd w R b v L k ru ne)(o:k<L.length)(r:(gL L k).1=4)(y:Ql L)(A:B<=w.heap.size):
  Calls prog 280 #[zP R 0] w fun e w'=>Qd (.inr (.mk 3 (gL L k).2.1 (gL L k).2.2.1 [] (gL L k).2.2.2,k+1)) B R b v L ru ne w e w':=
 z7N B R b v L k ru ne _ _ _ w h o (by rw[Uz o]at r ⊢;rw[<-r]) y.len A
theorem Qf{g:Nat}{o a1 a2 a3 a4 r y A:Value}(h:w.heap[g]? =some (.cells #[o,a1,a2,a3,a4,r,y,A] 119)):
  (w.cell? ⟨g,0,none⟩=some o/\w.cell? ⟨g,1,none⟩=some a1/\w.cell? ⟨g,2,none⟩=some a2/\w.cell? ⟨g,3,none⟩=some a3/\w.cell? ⟨g,4,none⟩=some a4/\w.cell? ⟨g,5,none⟩=some r/\w.cell? ⟨g,6,none⟩=some y/\w.cell? ⟨g,7,none⟩=some A)/\
  (w.frozen? ⟨g,0,none⟩=false/\w.frozen? ⟨g,1,none⟩=false/\w.frozen? ⟨g,2,none⟩=false/\w.frozen? ⟨g,3,none⟩=false/\w.frozen? ⟨g,4,none⟩=false/\w.frozen? ⟨g,5,none⟩=false/\w.frozen? ⟨g,6,none⟩=false/\w.frozen? ⟨g,7,none⟩=false):=by
 refine⟨⟨?_,?_,?_,?_,?_,?_,?_,?_⟩,⟨?_,?_,?_,?_,?_,?_,?_,?_⟩⟩<;>simp[World.cell?,World.frozen?,h]
@[reducible] def Zo:Obj:=.cells #[zI 0,zT {data:=#[]},zU 0,zU 0,zU 0,zU 0,.slice none 0 0,zI 0] 119
def En(w:World)(R b:Nat)(v:Value)(L:List Tok)(k ru ne:Nat)(W:World):Prop:=
 Rd W R b v L k ru ne/\w.grownBy W (some R)/\W.heap[w.heap.size]? =some Zo/\R<w.heap.size/\(∀g,w.heap.size<=g->v.ownBlock≠some g)
theorem En.start{ne:Nat}(h:Rd w R b v L k ru ne):En w R b v L k ru ne (w.alloc Zo):=
 ⟨h.alloc _,G.alloc (G.refl w R),Qx w _ rfl,h.lt,fun g o e=>by have:=(h.2.lt _ e).2;omega⟩
theorem En.size{w W:World}{R b:Nat}{v:Value}{L:List Tok}{k ru ne:Nat}(h:En w R b v L k ru ne W):w.heap.size<W.heap.size:=by
 rcases Nat.lt_or_ge w.heap.size W.heap.size with o|o
 ·exact o
 ·have:=h.2.2.1;rw[Array.getElem?_eq_none o]at this;cases this
theorem En.grown{W':World}{ne:Nat}(h:En w R b v L k ru ne W)(r:Rd W' R b v L k' ru ne)(o:W.grownBy W' (some R)):En w R b v L k' ru ne W':=
 ⟨r,G.trans h.2.1 o,(o.block _ h.size (fun e=>by have:=Option.some.inj e;have:=h.2.2.2.1;omega)).trans h.2.2.1,h.2.2.2.1,h.2.2.2.2⟩
theorem En.below{w W W':World}{R b:Nat}{v:Value}{L:List Tok}{k ru ne:Nat}(h:En w R b v L k ru ne W)(o:zB W W'):En w R b v L k ru ne W':=
 h.grown (h.1.below o) (G.below o)
theorem En.alloc{w W:World}{R b:Nat}{v:Value}{L:List Tok}{k ru ne:Nat}(h:En w R b v L k ru ne W)(o:Obj):En w R b v L k ru ne (W.alloc o):=
 h.below (B0q.alloc L0q _)
theorem En.next{w W:World}{R b:Nat}{v:Value}{L:List Tok}{k ru ne:Nat}(h:En w R b v L k ru ne W):En w R b v L (k+1) ru ne (W.setCell ⟨R,1,none⟩ (zI ((k:Int)+1))):=
 h.grown h.1.next1 (G.setR (G.refl W R))
theorem En.other{w W:World}{R b g j:Nat}{v u:Value}{L:List Tok}{k ru ne:Nat}(h:En w R b v L k ru ne W)(o:w.heap.size<g):En w R b v L k ru ne (W.setCell ⟨g,j,none⟩ u):=
 ⟨h.1.other (by have:=h.2.2.2.1;omega) (h.2.2.2.2 g (by omega)),G.setN h.2.1 (by omega),(Below.heap_setCell _ _ _ _ (show w.heap.size≠g by omega)).trans h.2.2.1,h.2.2.2.1,h.2.2.2.2⟩
theorem En.lt{ne:Nat}(h:En w R b v L k ru ne W):R<w.heap.size:=h.2.2.2.1
theorem En.fin{B:Nat}{sv:Value}{ne kd C p:Nat}{T:zA}(h:En w R b v L k ru ne W)(A:Qh W (fun g=>w.heap.size+1<=g) n (n8 kd T C sv p))(E:B<=w.heap.size):
  Qd (.inr (n,k)) B R b v L ru ne w (.returned (.agg (n8 kd T C sv p).toArray)) (st8 W w.heap.size (kd:Int) T (wd C 0:Nat) (wd C 1:Nat) (wd C 2:Nat) (wd C 3:Nat) sv (p:Int)):=by
 have o:w.heap.size≠R:=by have:=h.lt;omega
 have r:=h.2.2.2.2 w.heap.size L0q;have y:=Nat.le_refl w.heap.size;refine⟨_,rfl,hid ?_,hid ((((((((h.1.other o r).other o r).other o r).other o r).other o r).other o r).other o r).other o r),hid (G.setN (G.setN (G.setN (G.setN (G.setN (G.setN (G.setN (G.setN h.2.1 y) y) y) y) y) y) y) y)⟩;refine Qh.kept (fun g U Y Z=>⟨?_,by omega⟩) n _ A;have D:∀j:Nat,g≠(⟨w.heap.size,j,none⟩:Addr).block:=fun j e=>by have e2:g=w.heap.size:=e;omega
 have s:∀(V:World) (j:Nat) (u:Value),(V.setCell ⟨w.heap.size,j,none⟩ u).heap[g]? =V.heap[g]? :=fun V j u=>Below.heap_setCell _ _ _ _ (D j)
 unfold st8;rw[s,s,s,s,s,s,s,s]
theorem En.cells{ne:Nat}(h:En w R b v L k ru ne W):
 (zC W w.heap.size 0 (zI 0)/\zC W w.heap.size 1 (zT {data:=#[]})/\zC W w.heap.size 2 (zU 0)/\zC W w.heap.size 3 (zU 0)/\zC W w.heap.size 4 (zU 0)/\zC W w.heap.size 5 (zU 0)/\zC W w.heap.size 6 (.slice none 0 0)/\zC W w.heap.size 7 (zI 0))/\
 (W.frozen? ⟨w.heap.size,0,none⟩=false/\W.frozen? ⟨w.heap.size,1,none⟩=false/\W.frozen? ⟨w.heap.size,2,none⟩=false/\W.frozen? ⟨w.heap.size,3,none⟩=false/\W.frozen? ⟨w.heap.size,4,none⟩=false/\W.frozen? ⟨w.heap.size,5,none⟩=false/\W.frozen? ⟨w.heap.size,6,none⟩=false/\W.frozen? ⟨w.heap.size,7,none⟩=false):=Qf h.2.2.1
theorem Qd.up{w':World}{c:Nat×Nat}{B B':Nat}{ne ne' y:Nat}{e:Ending}(o:En w R b v L k ru y W)(h:Qd (.inl c) B' R b v L ru ne' W e w'):Qd (.inl c) B R b v L ru ne w e w':=by
 obtain⟨f,A,r,D⟩:=h;exact⟨f,A,hid ⟨by have:=r.out.1;have:=o.size;omega,r.out.2⟩,hid (G.trans o.2.1 D.out)⟩
theorem z7V(B R b:Nat)(v:Value)(L:List Tok)(k ru ne:Nat)(w:World)(h:Rd w R b v L k ru ne)(Y:k<L.length)(r:(gL L k).1=1)(hh:hdB L k=false)(A:Ql L)(hB:B<=w.heap.size):
  Calls prog 280 #[zP R 0] w fun e w'=>Qd (.inr (.mk 5 (gL L k).2.1 (gL L k).2.2.1 [] (gL L k).2.2.2,k+1)) B R b v L ru ne w e w':=by
 have ah:=Tryz.fld0;have D:=Jm R b v L k ru ne Y A;have E:=z1c R b v L k ru ne Y r A;rw[hh]at E;obtain⟨t,Z⟩:∃t,t=gL L k:=⟨_,rfl⟩;rw[<-Z]at D r ⊢;clear Z;obtain⟨kd,T,C,p⟩:=t;have ad:kd=1:=r;subst ad;clear r;have G:Hid (En w R b v L k ru ne (w.alloc Zo)):=En.start h;clear h;have ai:(k:Int)+1<9223372036854775807:=by have:=A.len;omega
 go_enter func280,ntmps280
 go_wp2_with fail
 refine(D.out _ G.out.1).mono ?_;rintro e w1 ⟨rfl,aa⟩;have U:=hid (G.out.below aa);clear aa G;dsimp only[tkv];have V:=hid ((U.out.alloc (.cells #[zI 1,zT T,zU (wd C 0:Nat),zU (wd C 1:Nat),zU (wd C 2:Nat),zU (wd C 3:Nat),zI (p:Int)] 186)).alloc (.cells #[zI 0,zT T,zU (wd C 0:Nat),zU (wd C 1:Nat),zU (wd C 2:Nat),zU (wd C 3:Nat),.slice none 0 0,zI (p:Int)] 119));have ab:Hid (((w1.alloc (.cells #[zI 1,zT T,zU (wd C 0:Nat),zU (wd C 1:Nat),zU (wd C 2:Nat),zU (wd C 3:Nat),zI (p:Int)] 186)).alloc (.cells #[zI 0,zT T,zU (wd C 0:Nat),zU (wd C 1:Nat),zU (wd C 2:Nat),zU (wd C 3:Nat),.slice none 0 0,zI (p:Int)] 119)).heap[w1.heap.size+1]? =some (.cells #[zI 0,zT T,zU (wd C 0:Nat),zU (wd C 1:Nat),zU (wd C 2:Nat),zU (wd C 3:Nat),.slice none 0 0,zI (p:Int)] 119)):=Qx _ _ (by simp);have ae:Hid (w.heap.size<w1.heap.size):=U.out.size;clear U
 go_wp2_with fail
 refine(E.out _ V.out.1).mono ?_;rintro e w3 ⟨rfl,y⟩;have o:=hid (V.out.below y);have af:=hid ((y.block _ (by first|(simp;done)|exact HL2.out)).trans ab.out);have ag:Hid (w1.heap.size+1<w3.heap.size):=Nat.lt_of_lt_of_le (by first|(simp;done)|exact HL2.out) y.size;clear y V ab;clear E D;obtain⟨⟨m0,m1,m2,m3,m4,m5,m6,m7⟩,⟨y0,y1,y2,y3,y4,y5,y6,y7⟩⟩:=Qf af.out;obtain⟨⟨k0,k1,k2,k3,k4,k5,k6,k7⟩,⟨f0,f1,f2,f3,f4,f5,f6,f7⟩⟩:=o.out.cells;obtain⟨r0,r1,r2,r3,q0,q1,q2,q3⟩:=o.out.1.cells;have aj:=o.out.lt;have ak:=o.out.size;have al:=ae.out;have am:=ag.out;have ao:R≠w1.heap.size+1:=by omega
 have ap:R≠w.heap.size:=by omega
 have aq:w.heap.size≠w1.heap.size+1:=by omega
 go_wp2_with fail
 (try simp only[Exit.inBlock,Exit.then])
 have ac:En w R b v L (k+1) ru ne ((w3.setCell ⟨w1.heap.size+1,0,none⟩ (zI 5)).setCell ⟨R,1,none⟩ (zI ((k:Int)+1))):=(o.out.other (by omega)).next
 obtain⟨⟨c0,c1,c2,c3,c4,c5,c6,c7⟩,_⟩:=Qf (Vb ac.2.2.1 5 T (wd C 0:Nat) (wd C 1:Nat) (wd C 2:Nat) (wd C 3:Nat) (.slice none 0 0) (p:Int));refine bodyPost_ret (v:=.agg (n8 5 T C (.slice none 0 0) p).toArray) (by simp[results,Tryz.results280,go_sem,c0,c1,c2,c3,c4,c5,c6,c7]) rfl ?_;exact ac.fin (by rw[Qh];exact⟨_,rfl,.inl ⟨rfl,rfl⟩⟩) hB
theorem z7W(B R b:Nat)(v:Value)(L:List Tok)(k ru ne:Nat)(w:World)(h:Rd w R b v L k ru ne)(Z:k<L.length)(y:sgT (gL L k)={data:=#[46]})(A:Ql L)(hB:B<=w.heap.size):
  Calls prog 280 #[zP R 0] w fun e w'=>Qd (.inr (.mk 4 {data:=#[]} (gL L k).2.2.1 [] (gL L k).2.2.2,k+1)) B R b v L ru ne w e w':=by
 have ah:=Tryz.fld0;have D:=Jm R b v L k ru ne Z A;have E:=Gw R b v L k ru ne Z A;have G:(gL L k).1=5:=Ff y;rw[y]at E;clear y;obtain⟨t,ht⟩:∃t,t=gL L k:=⟨_,rfl⟩;rw[<-ht]at D G ⊢;clear ht;obtain⟨kd,T,C,p⟩:=t;have ad:kd=5:=G;subst ad;clear G;have U:Hid (En w R b v L k ru ne (w.alloc Zo)):=En.start h;clear h;have ai:(k:Int)+1<9223372036854775807:=by have:=A.len;omega
 go_enter func280,ntmps280
 go_wp2_with fail
 refine(D.out _ U.out.1).mono ?_;rintro e w1 ⟨rfl,aa⟩;have V:=hid (U.out.below aa);clear aa U;dsimp only[tkv];have Y:=hid ((V.out.alloc (.cells #[zI 5,zT T,zU (wd C 0:Nat),zU (wd C 1:Nat),zU (wd C 2:Nat),zU (wd C 3:Nat),zI (p:Int)] 186)).alloc (.cells #[zI 0,zT T,zU (wd C 0:Nat),zU (wd C 1:Nat),zU (wd C 2:Nat),zU (wd C 3:Nat),.slice none 0 0,zI (p:Int)] 119));have ab:Hid (((w1.alloc (.cells #[zI 5,zT T,zU (wd C 0:Nat),zU (wd C 1:Nat),zU (wd C 2:Nat),zU (wd C 3:Nat),zI (p:Int)] 186)).alloc (.cells #[zI 0,zT T,zU (wd C 0:Nat),zU (wd C 1:Nat),zU (wd C 2:Nat),zU (wd C 3:Nat),.slice none 0 0,zI (p:Int)] 119)).heap[w1.heap.size+1]? =some (.cells #[zI 0,zT T,zU (wd C 0:Nat),zU (wd C 1:Nat),zU (wd C 2:Nat),zU (wd C 3:Nat),.slice none 0 0,zI (p:Int)] 119)):=Qx _ _ (by simp);have ae:Hid (w.heap.size<w1.heap.size):=V.out.size;clear V
 go_wp2_with fail
 refine(E.out _ Y.out.1).mono ?_;rintro e w3 ⟨rfl,r⟩;have o:=hid (Y.out.below r);have af:=hid ((r.block _ (by first|(simp;done)|exact HL2.out)).trans ab.out);have ag:Hid (w1.heap.size+1<w3.heap.size):=Nat.lt_of_lt_of_le (by first|(simp;done)|exact HL2.out) r.size;clear r Y ab;clear E D;obtain⟨⟨m0,m1,m2,m3,m4,m5,m6,m7⟩,⟨y0,y1,y2,y3,y4,y5,y6,y7⟩⟩:=Qf af.out;obtain⟨⟨k0,k1,k2,k3,k4,k5,k6,k7⟩,⟨f0,f1,f2,f3,f4,f5,f6,f7⟩⟩:=o.out.cells;obtain⟨r0,r1,r2,r3,q0,q1,q2,q3⟩:=o.out.1.cells;have aj:=o.out.lt;have ak:=o.out.size;have al:=ae.out;have am:=ag.out;have ao:R≠w1.heap.size+1:=by omega
 have ap:R≠w.heap.size:=by omega
 have aq:w.heap.size≠w1.heap.size+1:=by omega
 go_wp2_with fail
 (try simp only[Exit.inBlock,Exit.then])
 have ac:En w R b v L (k+1) ru ne (((w3.setCell ⟨w1.heap.size+1,0,none⟩ (zI 4)).setCell ⟨w1.heap.size+1,1,none⟩ (zT {data:=#[]})).setCell ⟨R,1,none⟩ (zI ((k:Int)+1))):=((o.out.other (by omega)).other (by omega)).next
 obtain⟨⟨c0,c1,c2,c3,c4,c5,c6,c7⟩,_⟩:=Qf (Vb ac.2.2.1 4 {data:=#[]} (wd C 0:Nat) (wd C 1:Nat) (wd C 2:Nat) (wd C 3:Nat) (.slice none 0 0) (p:Int));refine bodyPost_ret (v:=.agg (n8 4 {data:=#[]} C (.slice none 0 0) p).toArray) (by simp[results,Tryz.results280,go_sem,c0,c1,c2,c3,c4,c5,c6,c7]) rfl ?_;exact ac.fin (by rw[Qh];exact⟨_,rfl,.inl ⟨rfl,rfl⟩⟩) hB
theorem z7X(B R b:Nat)(v:Value)(L:List Tok)(k ru ne:Nat)(w:World)(h:Rd w R b v L k ru ne)(hk:k<L.length)(D:sgT (gL L k)={data:=#[40]})(c:Nat×Nat)(HI:Hid (∀W:World,Rd W R b v L k ru ne->w.heap.size+1<=W.heap.size->Calls prog 296 #[zP R 0] W fun e w'=>Qd (.inl c) (w.heap.size+1) R b v L ru ne W e w'))(E:Ql L)(hB:B<=w.heap.size):
  Calls prog 280 #[zP R 0] w fun e w'=>Qd (.inl c) B R b v L ru ne w e w':=by
 have ah:=Tryz.fld0;have G:=Jm R b v L k ru ne hk E;have o:=Gw R b v L k ru ne hk E;have U:(gL L k).1=5:=Ff D;rw[D]at o;clear D;obtain⟨t,ht⟩:∃t,t=gL L k:=⟨_,rfl⟩;rw[<-ht]at G U;clear ht;obtain⟨kd,T,C,p⟩:=t;have af:kd=5:=U;subst af;clear U;have V:Hid (En w R b v L k ru ne (w.alloc Zo)):=En.start h;clear h;have ai:(k:Int)+1<9223372036854775807:=by have:=E.len;omega
 go_enter func280,ntmps280
 go_wp2_with fail
 refine(G.out _ V.out.1).mono ?_;rintro e w1 ⟨rfl,ab⟩;have Y:=hid (V.out.below ab);clear ab V;dsimp only[tkv];have Z:=hid ((Y.out.alloc (.cells #[zI 5,zT T,zU (wd C 0:Nat),zU (wd C 1:Nat),zU (wd C 2:Nat),zU (wd C 3:Nat),zI (p:Int)] 186)).alloc (.cells #[zI 0,zT T,zU (wd C 0:Nat),zU (wd C 1:Nat),zU (wd C 2:Nat),zU (wd C 3:Nat),.slice none 0 0,zI (p:Int)] 119));clear G;have ac:Hid (((w1.alloc (.cells #[zI 5,zT T,zU (wd C 0:Nat),zU (wd C 1:Nat),zU (wd C 2:Nat),zU (wd C 3:Nat),zI (p:Int)] 186)).alloc (.cells #[zI 0,zT T,zU (wd C 0:Nat),zU (wd C 1:Nat),zU (wd C 2:Nat),zU (wd C 3:Nat),.slice none 0 0,zI (p:Int)] 119)).heap[w1.heap.size+1]? =some (.cells #[zI 0,zT T,zU (wd C 0:Nat),zU (wd C 1:Nat),zU (wd C 2:Nat),zU (wd C 3:Nat),.slice none 0 0,zI (p:Int)] 119)):=Qx _ _ (by simp);have aj:Hid (w.heap.size<w1.heap.size):=Y.out.size;clear Y
 go_wp2_with fail
 refine(o.out _ Z.out.1).mono ?_;rintro e w3 ⟨rfl,r⟩;have aa:=hid (Z.out.below r);have ad:=hid ((r.block _ (by first|(simp;done)|exact HL2.out)).trans ac.out);have ae:Hid (w1.heap.size+1<w3.heap.size):=Nat.lt_of_lt_of_le (by first|(simp;done)|exact HL2.out) r.size;clear r Z ac
 go_wp2_with fail
 refine(o.out _ aa.out.1).mono ?_;rintro e w4 ⟨rfl,y⟩;have A:=hid (aa.out.below y);have ag:=hid ((y.block _ (by first|(simp;done)|exact ae.out)).trans ad.out);have ak:Hid (w1.heap.size+1<w4.heap.size):=Nat.lt_of_lt_of_le (by first|(simp;done)|exact ae.out) y.size;clear y aa ad;clear o ag
 go_wp2_with fail
 refine(HI.out _ A.out.1 A.out.size).mono ?_;rintro e w5 hA;have HA:Hid (Qd (.inl c) B R b v L ru ne w e w5):=Qd.up A.out hA;obtain⟨f,rfl,_,_⟩:=hA;clear A HI
 go_wp2_with fail
 exact⟨rfl,HA.out⟩
theorem z7Y(B R b:Nat)(v:Value)(L:List Tok)(k ru ne:Nat)(w:World)(h:Rd w R b v L k ru ne)(hk:k<L.length)(G:sgT (gL L k)={data:=#[40]})(n:Nd)(U:Nat)(HI:Hid (∀W:World,Rd W R b v L k ru ne->w.heap.size+1<=W.heap.size->Calls prog 296 #[zP R 0] W fun e w'=>Qd (.inr (n,U)) (w.heap.size+1) R b v L ru ne W e w'))(V:Ql L)(hB:B<=w.heap.size):
  Calls prog 280 #[zP R 0] w fun e w'=>Qd (.inr (n,U)) B R b v L ru ne w e w':=by
 have am:=Tryz.fld0;have Y:=Jm R b v L k ru ne hk V;have r:=Gw R b v L k ru ne hk V;have Z:(gL L k).1=5:=Ff G;rw[G]at r;clear G;obtain⟨t,ht⟩:∃t,t=gL L k:=⟨_,rfl⟩;rw[<-ht]at Y Z;clear ht;obtain⟨kd,T,C,p⟩:=t;have ak:kd=5:=Z;subst ak;clear Z;have HE:Hid (En w R b v L k ru ne (w.alloc Zo)):=En.start h;clear h;have ao:(k:Int)+1<9223372036854775807:=by have:=V.len;omega
 go_enter func280,ntmps280
 go_wp2_with fail
 refine(Y.out _ HE.out.1).mono ?_;rintro e w1 ⟨rfl,ae⟩;have aa:=hid (HE.out.below ae);clear ae HE;dsimp only[tkv];have ab:=hid ((aa.out.alloc (.cells #[zI 5,zT T,zU (wd C 0:Nat),zU (wd C 1:Nat),zU (wd C 2:Nat),zU (wd C 3:Nat),zI (p:Int)] 186)).alloc (.cells #[zI 0,zT T,zU (wd C 0:Nat),zU (wd C 1:Nat),zU (wd C 2:Nat),zU (wd C 3:Nat),.slice none 0 0,zI (p:Int)] 119));clear Y;have af:Hid (((w1.alloc (.cells #[zI 5,zT T,zU (wd C 0:Nat),zU (wd C 1:Nat),zU (wd C 2:Nat),zU (wd C 3:Nat),zI (p:Int)] 186)).alloc (.cells #[zI 0,zT T,zU (wd C 0:Nat),zU (wd C 1:Nat),zU (wd C 2:Nat),zU (wd C 3:Nat),.slice none 0 0,zI (p:Int)] 119)).heap[w1.heap.size+1]? =some (.cells #[zI 0,zT T,zU (wd C 0:Nat),zU (wd C 1:Nat),zU (wd C 2:Nat),zU (wd C 3:Nat),.slice none 0 0,zI (p:Int)] 119)):=Qx _ _ (by simp);have ap:Hid (w.heap.size<w1.heap.size):=aa.out.size;clear aa
 go_wp2_with fail
 refine(r.out _ ab.out.1).mono ?_;rintro e w3 ⟨rfl,y⟩;have ac:=hid (ab.out.below y);have ag:=hid ((y.block _ (by first|(simp;done)|exact HL2.out)).trans af.out);have ah:Hid (w1.heap.size+1<w3.heap.size):=Nat.lt_of_lt_of_le (by first|(simp;done)|exact HL2.out) y.size;clear y ab af
 go_wp2_with fail
 refine(r.out _ ac.out.1).mono ?_;rintro e w4 ⟨rfl,A⟩;have D:=hid (ac.out.below A);have al:=hid ((A.block _ (by first|(simp;done)|exact ah.out)).trans ag.out);have aq:Hid (w1.heap.size+1<w4.heap.size):=Nat.lt_of_lt_of_le (by first|(simp;done)|exact ah.out) A.size;clear A ac ag;clear r al
 go_wp2_with fail
 refine(HI.out _ D.out.1 D.out.size).mono ?_;rintro e w5 ⟨cs,rfl,HN,ai,HG⟩;have ad:=hid (D.out.grown ai.out HG.out);clear D HI ai HG;obtain⟨kd,T',o,so,sl,sc,aj⟩:=HN.out.shape;obtain⟨E,hp⟩:∃E,E=n.at':=⟨_,rfl⟩;rw[<-hp]at aj;subst aj;clear hp;dsimp only[n8];obtain⟨⟨k0,k1,U,k3,k4,k5,k6,k7⟩,⟨f0,f1,f2,f3,f4,f5,f6,f7⟩⟩:=ad.out.cells
 go_wp2_with fail
 (try simp only[Exit.inBlock,Exit.then])
 obtain⟨⟨c0,c1,c2,c3,c4,c5,c6,c7⟩,_⟩:=Qf (Vb ad.out.2.2.1 (kd:Int) T' (wd o 0:Nat) (wd o 1:Nat) (wd o 2:Nat) (wd o 3:Nat) (.slice so sl sc) (E:Int));refine bodyPost_ret (v:=.agg (n8 kd T' o (.slice so sl sc) E).toArray) (by simp[results,Tryz.results280,go_sem,c0,c1,c2,c3,c4,c5,c6,c7]) rfl ?_;exact ad.out.fin HN.out hB
theorem z7Z(B R b:Nat)(v:Value)(L:List Tok)(k ru ne:Nat)(w:World)(h:Rd w R b v L k ru ne)(A:k<L.length)(o:(gL L k).1=1)(hh:hdB L k=true)(r:Ql L)(hB:B<=w.heap.size):
  Calls prog 280 #[.pointer (some ⟨R,0,none⟩)] w fun e w'=>Qd (.inl (wrC (gL L k),(gL L k).2.2.2)) B R b v L ru ne w e w':=by
 have ao:=Tryz.fld0;have Y:=Jm R b v L k ru ne A r;have Z:=z1c R b v L k ru ne A o r;rw[hh]at Z;have D:=Gw R b v L k ru ne A r;have HW:=Cf R b v L k ru ne A r;rw[show sgT (gL L k)={data:=#[]} by unfold sgT;rw[o];rfl]at D;obtain⟨t,ht⟩:∃t,t=gL L k:=⟨_,rfl⟩;rw[<-ht]at Y HW o ⊢;clear ht;obtain⟨kd,T,C,p⟩:=t;have al:kd=1:=o;subst al;clear o;have HE:Hid (En w R b v L k ru ne (w.alloc Zo)):=En.start h;clear h;have ap:(k:Int)+1<9223372036854775807:=by have:=r.len;omega
 go_enter func280,ntmps280
 go_wp2_with fail
 refine(Y.out _ HE.out.1).mono ?_;rintro e w1 ⟨rfl,af⟩;have aa:=hid (HE.out.below af);clear af HE;dsimp only[tkv];have ab:=hid ((aa.out.alloc (.cells #[.int .i64 1,.string T,.int .u64 (wd C 0),.int .u64 (wd C 1),.int .u64 (wd C 2),.int .u64 (wd C 3),.int .i64 p] 186)).alloc (.cells #[.int .i64 0,.string T,.int .u64 (wd C 0),.int .u64 (wd C 1),.int .u64 (wd C 2),.int .u64 (wd C 3),.slice none 0 0,.int .i64 p] 119));clear Y;have ag:Hid (((w1.alloc (.cells #[.int .i64 1,.string T,.int .u64 (wd C 0),.int .u64 (wd C 1),.int .u64 (wd C 2),.int .u64 (wd C 3),.int .i64 p] 186)).alloc (.cells #[.int .i64 0,.string T,.int .u64 (wd C 0),.int .u64 (wd C 1),.int .u64 (wd C 2),.int .u64 (wd C 3),.slice none 0 0,.int .i64 p] 119)).heap[w1.heap.size+1]? =some (.cells #[.int .i64 0,.string T,.int .u64 (wd C 0),.int .u64 (wd C 1),.int .u64 (wd C 2),.int .u64 (wd C 3),.slice none 0 0,.int .i64 p] 119)):=Qx _ _ (by simp);have aq:Hid (w.heap.size<w1.heap.size):=aa.out.size;clear aa
 go_wp2_with fail
 refine(Z.out _ ab.out.1).mono ?_;rintro e w3 ⟨rfl,y⟩;have ac:=hid (ab.out.below y);have ah:=hid ((y.block _ (by first|(simp;done)|exact HL2.out)).trans ag.out);have ai:Hid (w1.heap.size+1<w3.heap.size):=Nat.lt_of_lt_of_le (by first|(simp;done)|exact HL2.out) y.size;have z0:w3.cell? ⟨w1.heap.size,0,none⟩=some (.int .i64 1):=by
  rw[World.cell?_of_block (w:=(w1.alloc (.cells #[.int .i64 1,.string T,.int .u64 (wd C 0),.int .u64 (wd C 1),.int .u64 (wd C 2),.int .u64 (wd C 3),.int .i64 p] 186)).alloc (.cells #[.int .i64 0,.string T,.int .u64 (wd C 0),.int .u64 (wd C 1),.int .u64 (wd C 2),.int .u64 (wd C 3),.slice none 0 0,.int .i64 p] 119)) (y.block _ (by simp;omega))];simp
 clear y ab ag;clear Z
 go_wp2_with fail
 refine(D.out _ ac.out.1).mono ?_;rintro e w4 ⟨rfl,E⟩;have ad:=hid (ac.out.below E);have aj:=hid ((E.block _ (by first|(simp;done)|exact ai.out)).trans ah.out);have ak:Hid (w1.heap.size+1<w4.heap.size):=Nat.lt_of_lt_of_le (by first|(simp;done)|exact ai.out) E.size;clear E ac ah
 go_wp2_with fail
 refine(D.out _ ad.out.1).mono ?_;rintro e w5 ⟨rfl,U⟩;have ae:=hid (ad.out.below U);have am:=hid ((U.block _ (by first|(simp;done)|exact ak.out)).trans aj.out);have ar:Hid (w1.heap.size+1<w5.heap.size):=Nat.lt_of_lt_of_le (by first|(simp;done)|exact ak.out) U.size;clear U ad aj;clear D am
 go_wp2_with fail
 refine(HW.out _ ae.out.1).mono ?_;rintro e w6 ⟨f,rfl,V⟩;have HA:Hid (Qd (.inl (wrC (1,T,C,p),p)) B R b v L ru ne w (.panicked [{v:=.iface 181 (.pointer (some ⟨f,0,none⟩)),recovered:=false}]) w6):=Qd.up (B':=0) (ne':=ne) ae.out ⟨f,rfl,hid ⟨V.out.1,V.out.2.1⟩,hid (G.below V.out.2.2)⟩;clear V ae HW
 go_wp2_with fail
 exact⟨rfl,HA.out⟩
theorem z8a(R b:Nat)(v:Value)(L:List Tok)(ru ne:Nat)(inn:Nat->Pr)(y:Ql L)(D:MC 296 inn (fun k=>sgT (gL L k)={data:=#[40]}) R b v L ru ne):
  MC 280 (Fy L inn) (fun _=>True) R b v L ru ne:=by
 intro k B w h o _ r;unfold Fy;by_cases h1:(gL L k).1=1
 ·cases hh:hdB L k with
  |false=>
   rw[if_pos ⟨h1,rfl⟩];exact z7V B R b v L k ru ne w h o h1 hh y r
  |true=>
   rw[if_neg (by simp),if_neg (by omega),if_neg (by omega),if_neg (by unfold sgT;rw[h1];simp),if_neg (by unfold sgT;rw[h1];simp)];exact z7Z B R b v L k ru ne w h o h1 hh y r
 rw[if_neg (by omega)];by_cases h3:(gL L k).1=3
 ·rw[if_pos h3]
  exact z7T B R b v L k ru ne w h o h3 y r
 rw[if_neg h3];by_cases h4:(gL L k).1=4
 ·rw[if_pos h4]
  exact z7U B R b v L k ru ne w h o h4 y r
 rw[if_neg h4];by_cases h5:sgT (gL L k)={data:=#[46]}
 ·rw[if_pos h5]
  exact z7W B R b v L k ru ne w h o h5 y r
 rw[if_neg h5];by_cases h6:sgT (gL L k)={data:=#[40]}
 ·rw[if_pos h6]
  have A:Hid (∀W:World,Rd W R b v L k ru ne->w.heap.size+1<=W.heap.size->Calls prog 296 #[zP R 0] W fun e w'=>Qd (inn k) (w.heap.size+1) R b v L ru ne W e w'):=fun W E r=>D k _ W E o h6 r
  cases hs:inn k with
  |inl c=>rw[hs]at A;exact z7X B R b v L k ru ne w h o h6 c A y r
  |inr q=>obtain⟨n,G⟩:=q;rw[hs]at A;exact z7Y B R b v L k ru ne w h o h6 n G A y r
 rw[if_neg h6,Uz o];rw[Uz o]at h1 h3 h4 h5 h6;exact z7O B R b v L k ru ne _ w h o rfl h1 h3 h4 h5 h6 y.len r
end Go.Proofs.YtmelafeingcgnaaGreatDoor
