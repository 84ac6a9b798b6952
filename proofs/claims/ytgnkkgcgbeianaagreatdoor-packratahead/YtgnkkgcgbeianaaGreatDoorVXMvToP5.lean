/- Lemmas for the last text. Conditions: those that each names. -/
import Derived.Test.YtgnkkgcgbeianaaGreatDoorVQ3ToQ4
import Derived.Test.YtgnkkgcgbeianaaGreatDoorVY14ToR1
set_option linter.unusedVariables false
namespace Go.Proofs.YtgnkkgcgbeianaaGreatDoor
open Go.Proofs.Tryz
open Go.RowKit
theorem y0O{A B:ByteArray}(h:∀j,bt A j=bt B j):A=B:=by
 have y:A.size=B.size:=by
  rcases Nat.lt_trichotomy A.size B.size with r|r|r
  ·have o:=h A.size
   rw[Uf L0q]at o;have:=Xw o.symm;omega
  ·exact r
  ·have o:=h B.size
   rw[Uf L0q]at o;have:=Xw o;omega
 apply ByteArray.ext;apply Array.ext
 ·exact y
 ·intro i r o
  have t:=h i;have D:bt A i=some (A.data[i].toNat):=by unfold bt;rw[dif_pos (show i<A.size from r)];rfl
  have E:bt B i=some (B.data[i].toNat):=by unfold bt;rw[dif_pos (show i<B.size from o)];rfl
  rw[D,E]at t;exact UInt8.toNat.inj (Option.some.inj t)
theorem Sh(S:ByteArray)(p e j:Nat)(o:e<=S.size):bt (S.extract p e) j=if p+j<e then bt S (p+j)else none:=by
 have r:(S.extract p e).size=e-p:=by rw[ByteArray.size_extract];omega
 by_cases h:p+j<e
 ·rw[if_pos h]
  unfold bt;rw[dif_pos (by omega),dif_pos (by omega),ByteArray.getElem_extract]
 ·rw[if_neg h,Uf (by omega)]
def Seg(S X:ByteArray)(a b L:Nat):Prop:=∀j,j<L->bt X (b+j)=bt S (a+j)
theorem Seg.dg{S X:ByteArray}{a b L i:Nat}(h:Seg S X a b L)(o:i<L):dg X (b+i)=dg S (a+i):=by
 show(bt X (b+i)).bind dgv=(bt S (a+i)).bind dgv;rw[h i o]
theorem Seg.digs{S X:ByteArray}{a b L i i' y:Nat}(h:Seg S X a b L)(hd:digs S (a+i)=.inr (y,a+i'))(G:i'<=L):digs X (b+i)=.inr (y,b+i'):=by
 obtain⟨q,r,o,t,A,I⟩:=Cx hd;have D:=h.dg (i:=i) (by omega);have E:=h.dg (i:=i+1) (by omega);unfold Proofs.YtgnkkgcgbeianaaGreatDoor.digs;rw[D,o];simp only;rw[show b+i+1=b+(i+1) by omega,E,show a+(i+1)=a+i+1 by omega,t];simp only;rw[A,show b+i+2=b+i' by omega]
theorem Seg.lsg{S X:ByteArray}{a b L i i' y:Nat}(h:Seg S X a b L)(hd:lsg S (a+i)=.inr (y,a+i'))(o:i'<=L):lsg X (b+i)=.inr (y,b+i'):=by
 have E:=Kf hd;have r:=h i (by omega);unfold Proofs.YtgnkkgcgbeianaaGreatDoor.lsg at hd ⊢;rw[r];cases hb:bt S (a+i)with
 |none=>rw[hb]at hd;cases hd
 |some x=>
  rw[hb]at hd;simp only at hd ⊢;split at hd
  ·cases hd
  ·rename_i t
   rw[if_neg t];split at hd
   ·rename_i hx
    rw[if_pos hx];have G:=z1v hd;have A:=h (i+1) (by omega);unfold Ug at hd ⊢;rw[show b+i+1=b+(i+1) by omega,A,show a+(i+1)=a+i+1 by omega];cases hb2:bt S (a+i+1)with
    |none=>rw[hb2]at hd;cases hd
    |some z=>
     rw[hb2]at hd;simp only at hd ⊢;cases hv:Yc z with
     |some v=>
      rw[hv]at hd;simp only[Sum.inr.injEq,Prod.mk.injEq]at hd ⊢;omega
     |none=>
      rw[hv]at hd;simp only at hd ⊢;split at hd
      ·rename_i D
       rw[if_pos D];rw[show b+(i+1)+1=b+(i+2) by omega];exact h.digs (by rw[show a+(i+2)=a+i+1+1 by omega];exact hd) o
      ·cases hd
   ·rename_i hx
    rw[if_neg hx];simp only[Sum.inr.injEq,Prod.mk.injEq]at hd ⊢;omega
theorem Seg.llit{S X:ByteArray}{a b L q p p' i':Nat}{l:List Nat}(h:Seg S X a b L)(E:i'<=L):∀(f i:Nat) (acc:List Nat),acc.length<=255->(∀x∈acc,x<256)->
  llit S q p f (a+i) acc=.inr (l,a+i')->ll X q p' (b+i) acc=.inr (l,b+i')
 |0,i,acc,_,_,hd=>by rw[Proofs.YtgnkkgcgbeianaaGreatDoor.llit]at hd;cases hd
 |f+1,i,acc,ha,hx,hd=>by
  have U:=Cl S q p _ _ _ _ _ hd hx ha;have t:=h i (by omega);rw[Proofs.YtgnkkgcgbeianaaGreatDoor.llit]at hd;split at hd
  ·rename_i o
   simp only[Sum.inr.injEq,Prod.mk.injEq]at hd;rw[Oc (by rw[t];exact o),hd.1,show b+i+1=b+i' by omega]
  ·rename_i o
   split at hd
   ·cases hd
   ·rename_i y n A
    have V:=Kf A;obtain⟨r,rfl⟩:∃r,n=a+r:=⟨n-a,by omega⟩;split at hd
    ·cases hd
    ·rename_i G
     have D:∀x∈acc++[y],x<256:=fun x I=>by
      rcases List.mem_append.1 I with h|h
      ·exact hx x h
      ·simp at h;omega
     have Y:=Cl S q p _ _ _ _ _ hd D (by simp;omega);rw[Ol (by rw[t];exact o) (h.lsg A (by omega)) G];exact Seg.llit h E f r (acc++[y]) (by simp;omega) D hd
theorem Seg.ll{S X:ByteArray}{a b L q p p' i i':Nat}{l:List Nat}(h:Seg S X a b L)(o:i'<=L)(hd:ll S q p (a+i) []=.inr (l,a+i')):ll X q p' (b+i) []=.inr (l,b+i'):=
 Seg.llit h o _ i [] (by simp) (fun x hx=>by simp at hx) hd
def Agr(T V:ByteArray)(M:Nat):Prop:=∀j,j<M->bt V j=bt T j
theorem Agr.digs{T V:ByteArray}{M k y n:Nat}(h:Agr T V M)(hd:digs T k=.inr (y,n))(o:n<=M):digs V k=.inr (y,n):=by
 have:=Seg.digs (S:=T) (X:=V) (a:=0) (b:=0) (L:=M) (i:=k) (i':=n) (y:=y) (fun j r=>by simpa using h j r) (by simpa using hd) o;simpa using this
theorem Agr.sg{T V:ByteArray}{M k y n:Nat}(h:Agr T V M)(hd:sg T k=.inr (y,n))(o:n<=M):sg V k=.inr (y,n):=by
 have E:=Mz hd;have r:=h k (by omega);unfold Proofs.YtgnkkgcgbeianaaGreatDoor.sg at hd ⊢;rw[r];cases hb:bt T k with
 |none=>rw[hb]at hd;cases hd
 |some x=>
  rw[hb]at hd;simp only at hd ⊢;split at hd
  ·rename_i hx
   rw[if_pos hx];have G:=z1p hd;have t:=h (k+1) (by omega);unfold esc at hd ⊢;rw[t];cases hb2:bt T (k+1)with
   |none=>rw[hb2]at hd;cases hd
   |some z=>
    rw[hb2]at hd;simp only at hd ⊢;cases hv:Gf z with
    |some v=>rw[hv]at hd;exact hd
    |none=>
     rw[hv]at hd;simp only at hd ⊢;split at hd
     ·rename_i A
      rw[if_pos A];exact h.digs hd o
     ·cases hd
  ·rename_i hx
   rw[if_neg hx];split at hd
   ·rename_i D
    rw[if_pos D];exact hd
   ·cases hd
theorem Agr.mbr{T V:ByteArray}{M k y n:Nat}(h:Agr T V M)(hd:mbr T k=.inr (y,n))(I:n<M):mbr V k=.inr (y,n):=by
 have U:=Mq hd;unfold Proofs.YtgnkkgcgbeianaaGreatDoor.mbr at hd ⊢;cases hs:Proofs.YtgnkkgcgbeianaaGreatDoor.sg T k with
 |inl e=>rw[hs]at hd;cases hd
 |inr r=>
  obtain⟨lo,m⟩:=r;have Y:=Mz hs;rw[hs]at hd;simp only at hd;split at hd
  ·rename_i t
   have Z:m<n:=by
    split at hd
    ·cases hd
    ·rename_i D E o
     have:=Mz o;split at hd
     ·cases hd
     ·simp only[Sum.inr.injEq,Prod.mk.injEq]at hd;omega
   rw[h.sg hs (by omega)];simp only;rw[if_pos (by rw[h m (by omega)];exact t)];cases o:Proofs.YtgnkkgcgbeianaaGreatDoor.sg T (m+1)with
   |inl e=>rw[o]at hd;cases hd
   |inr r2=>
    obtain⟨D,E⟩:=r2;rw[o]at hd;simp only at hd;split at hd
    ·cases hd
    ·rename_i G
     have A:=hd;simp only[Sum.inr.injEq,Prod.mk.injEq]at A;rw[h.sg o (by omega)];simp only;rw[if_neg G];exact hd
  ·rename_i t
   have A:=hd;simp only[Sum.inr.injEq,Prod.mk.injEq]at A;rw[h.sg hs (by omega)];simp only;rw[if_neg (by rw[h m (by omega)];exact t)];exact hd
theorem Agr.mems{T V:ByteArray}{M C n:Nat}(h:Agr T V M)(t:n<=M):∀(f k acc:Nat),mems T f k acc=.inr (C,n)->k<n/\n<=T.size/\mm V k acc=.inr (C,n)
 |0,k,acc,hd=>by rw[Proofs.YtgnkkgcgbeianaaGreatDoor.mems]at hd;cases hd
 |f+1,k,acc,hd=>by
  rw[Proofs.YtgnkkgcgbeianaaGreatDoor.mems]at hd;split at hd
  ·rename_i o
   have y:=(Qp o).1;have A:=hd;simp only[Sum.inr.injEq,Prod.mk.injEq]at A;refine⟨by omega,by omega,?_⟩;rw[Cj,if_pos (by rw[h k (by omega)];exact o)];exact hd
  ·rename_i o
   cases hm:Proofs.YtgnkkgcgbeianaaGreatDoor.mbr T k with
   |inl e=>rw[hm]at hd;cases hd
   |inr r=>
    obtain⟨Y,m⟩:=r;rw[hm]at hd;have G:=Mq hm;obtain⟨y,D,E⟩:=Agr.mems h t f m _ hd;refine⟨by omega,D,?_⟩;rw[Cj,if_neg (by rw[h k (by omega)];exact o),h.mbr hm (by omega)];exact E
theorem Agr.cls{T V:ByteArray}{M C n:Nat}(h:Agr T V M)(hd:Fx T=.inr (C,n))(y:n<=M):Fx V=.inr (C,n):=by
 rw[z1s]at hd ⊢;split at hd
 ·rename_i t
  split at hd
  ·rename_i o
   cases hm:mm T 2 0 with
   |inl e=>rw[hm]at hd;cases hd
   |inr r=>
    obtain⟨D,m⟩:=r;rw[hm]at hd;have A:=hd;simp only[ng,Sum.inr.injEq,Prod.mk.injEq]at A;obtain⟨a1,a2,a3⟩:=h.mems (n:=m) (by omega) _ _ _ hm;rw[if_pos (by rw[h 0 (by omega)];exact t),if_pos (by rw[h 1 (by omega)];exact o),a3];exact hd
  ·rename_i o
   obtain⟨a1,a2,a3⟩:=h.mems y _ _ _ hd;rw[if_pos (by rw[h 0 (by omega)];exact t),if_neg (by rw[h 1 (by omega)];exact o),a3]
 ·cases hd
section
mutual
def Wf(Nm:ByteArray->Prop):Nd->Prop
 | .mk kd T C s p=>(kd=2->T.size<=255)/\(kd=5->Nm T)/\C<2^256/\WfL Nm s
def WfL(Nm:ByteArray->Prop):List Nd->Prop
 |[]=>True
 |n::r=>Wf Nm n/\WfL Nm r
end
def Ux(Nm:ByteArray->Prop)(t:Tok):Prop:=(t.1=1->Nm t.2.1/\t.2.2.1=0)/\(t.1=3->t.2.1.size<=255/\t.2.2.1=0)/\(t.1=4->t.2.1={data:=#[]})/\(t.1=5->t.2.2.1=0)/\t.2.2.1<2^256
def Pq(Nm:ByteArray->Prop)(r:Pr):Prop:=∀n k,r=.inr (n,k)->Vk n/\Wf Nm n
theorem VkL.app:∀{a b:List Nd},VkL a->VkL b->VkL (a++b)
 |[],b,_,h=>h
 |n::r,b,h1,h2=>by
  rw[VkL]at h1;rw[List.cons_append,VkL];exact⟨h1.1,VkL.app h1.2 h2⟩
theorem WfL.app{Nm:ByteArray->Prop}:∀{a b:List Nd},WfL Nm a->WfL Nm b->WfL Nm (a++b)
 |[],b,_,h=>h
 |n::r,b,h1,h2=>by
  rw[WfL]at h1;rw[List.cons_append,WfL];exact⟨h1.1,WfL.app h1.2 h2⟩
section
variable {L:List Tok} {Nm:ByteArray->Prop}
theorem Jz:VkL []:=by rw[VkL];trivial
theorem Jq:WfL Nm []:=by rw[WfL];trivial
theorem y0P:(0:Nat)<2^256:=by decide
theorem Ep{kd p:Nat}{s:List Nd}(o:kd≠2)(r:kd≠5)(t:WfL Nm s):Wf Nm (.mk kd {data:=#[]} 0 s p):=by
 rw[Wf];exact⟨fun h=>absurd h o,fun h=>absurd h r,y0P,t⟩
theorem Sd(y:∀k,Ux Nm (gL L k)){t:Nat->Pr}(A:∀k,Pq Nm (t k))(k:Nat):Pq Nm (Uq L t k):=by
 intro n k' h;obtain⟨D,E,G,I,r⟩:=y k;unfold Uq at h;split at h
 ·rename_i o
  simp only[Sum.inr.injEq,Prod.mk.injEq]at h;rw[<-h.1];have:=D o.1;refine⟨?_,?_⟩
  ·rw[Vk];exact⟨.inr (.inr (.inr (.inr (.inl ⟨rfl,this.2,rfl⟩)))),Jz⟩
  ·rw[Wf];exact⟨fun h=>by omega,fun _=>this.1,r,Jq⟩
 ·split at h
  ·rename_i o
   simp only[Sum.inr.injEq,Prod.mk.injEq]at h;rw[<-h.1];have:=E o;refine⟨?_,?_⟩
   ·rw[Vk];exact⟨.inr (.inl ⟨rfl,this.2,rfl⟩),Jz⟩
   ·rw[Wf];exact⟨fun _=>this.1,fun h=>by omega,r,Jq⟩
  ·split at h
   ·rename_i o
    simp only[Sum.inr.injEq,Prod.mk.injEq]at h;rw[<-h.1];refine⟨?_,?_⟩
    ·rw[Vk];exact⟨.inr (.inr (.inl ⟨rfl,G o,rfl⟩)),Jz⟩
    ·rw[Wf];exact⟨fun h=>by omega,fun h=>by omega,r,Jq⟩
   ·split at h
    ·rename_i U
     simp only[Sum.inr.injEq,Prod.mk.injEq]at h;rw[<-h.1];refine⟨?_,?_⟩
     ·rw[Vk];exact⟨.inr (.inr (.inr (.inl ⟨rfl,rfl,I (Fw U),rfl⟩))),Jz⟩
     ·rw[Wf];exact⟨fun h=>by omega,fun h=>by omega,r,Jq⟩
    ·split at h
     ·exact A k n k' h
     ·cases h
theorem Sp{r:Pr}(y:Pq Nm r):Pq Nm (Jf L r):=by
 intro n k' h;cases r with
 |inl e=>cases h
 |inr q=>
  obtain⟨m,j⟩:=q;have o:=y m j rfl;unfold Jf at h;simp only at h;split at h
  ·simp only[Sum.inr.injEq,Prod.mk.injEq]at h
   rw[<-h.1];exact o
  ·rename_i t
   have A:rpK (sgT (gL L j))=8∨rpK (sgT (gL L j))=9∨rpK (sgT (gL L j))=10:=by
    unfold rpK at t ⊢;split
    ·exact .inl rfl
    ·split
     ·exact .inr (.inl rfl)
     ·split
      ·exact .inr (.inr rfl)
      ·rename_i a b c
       rw[if_neg a,if_neg b,if_neg c]at t;exact absurd rfl t
   simp only[Sum.inr.injEq,Prod.mk.injEq]at h;rw[<-h.1];refine⟨?_,Ep (by omega) (by omega) (by rw[WfL];exact⟨o.2,Jq⟩)⟩;rw[Vk];exact⟨.inr (.inr (.inr (.inr (.inr (.inr ⟨by omega,by omega,rfl,rfl,rfl⟩))))),by rw[VkL];exact⟨o.1,Jz⟩⟩
theorem y0Q(o:∀k,Ux Nm (gL L k)){y:Nat->Pr}(t:∀k,Pq Nm (y k))(k:Nat):Pq Nm (Vf L y k):=by
 have ov:∀(kd p:Nat) (r:Pr),(kd=11∨kd=12)->Pq Nm r->Pq Nm (ovS kd p r):=fun kd p r E D n k' h=>by
  cases r with
  |inl e=>cases h
  |inr q=>
   obtain⟨m,j⟩:=q;have A:=D m j rfl;simp only[ovS,Sum.inr.injEq,Prod.mk.injEq]at h;rw[<-h.1];refine⟨?_,Ep (by omega) (by omega) (by rw[WfL];exact⟨A.2,Jq⟩)⟩;rw[Vk];exact⟨.inr (.inr (.inr (.inr (.inr (.inr ⟨by omega,by omega,rfl,rfl,rfl⟩))))),by rw[VkL];exact⟨A.1,Jz⟩⟩
 unfold Vf;split
 ·exact ov 12 _ _ (.inr rfl) (Sp (Sd o t _))
 ·split
  ·exact ov 11 _ _ (.inl rfl) (Sp (Sd o t _))
  ·exact Sp (Sd o t _)
theorem z2N{kd:Nat}(o:kd=6∨kd=7):∀{l:List Nd},l≠[]->VkL l->WfL Nm l->Vk (Vq kd l)/\Wf Nm (Vq kd l)
 |[],h,_,_=>absurd rfl h
 |[n],_,h1,h2=>by
  rw[VkL]at h1;rw[WfL]at h2;exact⟨h1.1,h2.1⟩
 |n::m::r,_,h1,h2=>by
  refine⟨?_,Ep (by omega) (by omega) h2⟩;show Vk (.mk kd _ 0 (n::m::r) n.at');rw[Vk];exact⟨.inr (.inr (.inr (.inr (.inr (.inl ⟨o,rfl,rfl,by simp⟩))))),h1⟩
theorem Sc(o:∀k,Ux Nm (gL L k)){r:Nat->Pr}(t:∀k,Pq Nm (r k)):∀(f k:Nat) (acc:List Nd),VkL acc->WfL Nm acc->Pq Nm (Zy L r f k acc)
 |0,_,_,_,_=>fun n k' h=>by rw[Zy]at h;cases h
 |f+1,k,acc,h1,h2=>fun n k' h=>by
  rw[Zy]at h;split at h
  ·split at h
   ·cases h
   ·rename_i m j A
    have y:=y0Q o t k m j A;exact Sc o t f j (acc++[m]) (h1.app (by rw[VkL];exact⟨y.1,Jz⟩)) (h2.app (by rw[WfL];exact⟨y.2,Jq⟩)) n k' h
  ·split at h
   ·simp only[Sum.inr.injEq,Prod.mk.injEq]at h
    rw[<-h.1];refine⟨?_,Ep (by decide) (by decide) Jq⟩;rw[Vk];exact⟨.inl ⟨rfl,rfl,rfl,rfl⟩,Jz⟩
   ·rename_i D
    simp only[Sum.inr.injEq,Prod.mk.injEq]at h;rw[<-h.1];exact z2N (.inl rfl) (fun e=>D (by rw[e];rfl)) h1 h2
theorem z2O(o:∀k,Ux Nm (gL L k)){r:Nat->Pr}(t:∀k,Pq Nm (r k)):∀(f k:Nat) (acc:List Nd),acc≠[]->VkL acc->WfL Nm acc->Pq Nm (Xq L r f k acc)
 |0,_,_,_,_,_=>fun n k' h=>by rw[Xq]at h;cases h
 |f+1,k,acc,hn,h1,h2=>fun n k' h=>by
  rw[Xq]at h;split at h
  ·split at h
   ·cases h
   ·rename_i m j A
    have y:=Sc o t _ _ [] Jz Jq m j A;exact z2O o t f j (acc++[m]) (by simp) (h1.app (by rw[VkL];exact⟨y.1,Jz⟩)) (h2.app (by rw[WfL];exact⟨y.2,Jq⟩)) n k' h
  ·simp only[Sum.inr.injEq,Prod.mk.injEq]at h
   rw[<-h.1];exact z2N (.inr rfl) hn h1 h2
theorem z2P(r:∀k,Ux Nm (gL L k)){o:Nat->Pr}(t:∀k,Pq Nm (o k))(k:Nat):Pq Nm (chS L o k):=by
 intro n k' h;unfold chS at h;cases hr:Zy L o L.length k []with
 |inl e=>rw[hr]at h;cases h
 |inr q=>
  obtain⟨m,j⟩:=q;rw[hr]at h;have y:=Sc r t _ _ [] Jz Jq m j hr;exact z2O r t _ j [m] (by simp) (by rw[VkL];exact⟨y.1,Jz⟩) (by rw[WfL];exact⟨y.2,Jq⟩) n k' h
theorem z2Q(o:∀k,Ux Nm (gL L k)):∀(d k:Nat),Pq Nm (Zc L d k)
 |0,k=>fun n k' h=>by rw[Zc]at h;cases h
 |d+1,k=>fun n k' h=>by
  rw[Zc]at h;obtain⟨j,r,_⟩:=Rz h;exact z2P o (z2Q o d) (k+1) n j r
def Ruk(Nm:ByteArray->Prop)(x:Rl):Prop:=Nm x.1/\Vk x.2.1/\Wf Nm x.2.1
theorem z2R(o:∀k,Ux Nm (gL L k)){ru k k':Nat}{x:Rl}(h:ruS L ru k=.inr (x,k')):Ruk Nm x:=by
 obtain⟨t,y⟩:=z2o h;have r:=z2P o (z2Q o 24) _ _ _ t;refine⟨?_,r.1,r.2⟩;unfold ruS at h;split at h
 ·cases h
 ·rename_i c
  rw[y];exact((o k).1 (by simpa using c)).1
theorem z2S(r:∀k,Ux Nm (gL L k)):∀(f k:Nat) (acc rs:List Rl),Xx L f k acc=.inr rs->(∀x∈acc,Ruk Nm x)->∀x∈rs,Ruk Nm x
 |0,_,_,_,h,_=>by rw[Xx]at h;cases h
 |f+1,k,acc,rs,h,ha=>by
  rw[Xx]at h;split at h
  ·simp only[Sum.inr.injEq]at h;subst h;exact ha
  ·split at h
   ·cases h
   ·rename_i x k' t
    refine z2S r f k' (acc++[x]) rs h (fun y o=> ?_);rcases List.mem_append.1 o with o|o
    ·exact ha y o
    ·simp at o
     subst o;exact z2R r t
theorem y0R(o:∀k,Ux Nm (gL L k)){rs:List Rl}(h:Vg L=.inr rs):∀x∈rs,Ruk Nm x:=by
 unfold Vg at h;cases hr:ruS L 0 0 with
 |inl c=>rw[hr]at h;cases h
 |inr q=>
  obtain⟨x,k'⟩:=q;rw[hr]at h;refine z2S o _ _ _ _ h (fun y r=> ?_);simp at r;subst r;exact z2R o hr
end
end
section
def bO:ByteArray:={data:=#[40]}
def bC:ByteArray:={data:=#[41]}
def bSp:ByteArray:={data:=#[32]}
def bSl:ByteArray:={data:=#[32,47,32]}
def bAr:ByteArray:={data:=#[32,60,45,32]}
def bNl:ByteArray:={data:=#[10]}
def Ml:ByteArray:={data:=#[46]}
def bE:ByteArray:={data:=#[]}
def bsg(kd:Nat):ByteArray:=if kd=11 then{data:=#[38]}else if kd=12 then{data:=#[33]}else{data:=#[rpS kd]}
section
variable (QT:ByteArray->ByteArray) (CT:Nat->ByteArray)
mutual
def pN:Nd->List ByteArray
 | .mk kd T C s p=>if kd=1 then [bO,bC]else if kd=2 then [QT T]else if kd=3 then [CT C]else if kd=4 then [Ml]else if kd=5 then [T]else if kd=6 then pS 6 bSp s else if kd=7 then pS 7 bSl s
   else if kd=11∨kd=12 then bsg kd::pS kd bE s else pS kd bE s++[bsg kd]
def pS(over:Nat)(sep:ByteArray):List Nd->List ByteArray
 |[]=>[]
 |n::r=>(if wr over n.kd=true then bO::(pN n++[bC])else pN n)++pB over sep r
def pB(over:Nat)(sep:ByteArray):List Nd->List ByteArray
 |[]=>[]
 |n::r=>sep::((if wr over n.kd=true then bO::(pN n++[bC])else pN n)++pB over sep r)
end
def pP(over:Nat)(n:Nd):List ByteArray:=if wr over n.kd=true then bO::(pN QT CT n++[bC])else pN QT CT n
def pR:List Rl->List ByteArray
 |[]=>[]
 |x::r=>x.1::bAr::(pN QT CT x.2.1++(bNl::pR r))
end
def sz:List ByteArray->Nat
 |[]=>0
 |p::r=>p.size+sz r
theorem Xd:∀(a b:List ByteArray),sz (a++b)=sz a+sz b
 |[],b=>by rw[List.nil_append,sz,Nat.zero_add]
 |p::r,b=>by rw[List.cons_append,sz,sz,Xd r b,Nat.add_assoc]
def Pl(X:ByteArray)(a:Nat)(P:ByteArray):Prop:=a+P.size<=X.size/\∀i,i<P.size->bt X (a+i)=bt P i
section
variable {X:ByteArray}
structure Pcs (Nm:ByteArray->Prop) (QT:ByteArray->ByteArray) (CT:Nat->ByteArray):Prop where
 nm:∀T,Nm T->T.size<=32/\(∃x,bt T 0=some x/\Zw x=true)/\∀i x,bt T i=some x->(Zw x||Gq x)=true
 qt:∀T X a,T.size<=255->Pl X a (QT T)->∃p,bt X a=some 39/\Yh X a 39=.inr ((3,T,0,p),a+(QT T).size)
 ct:∀C X a,C<2^256->Pl X a (CT C)->∃p,bt X a=some 91/\Yh X a 91=.inr ((4,{data:=#[]},C,p),a+(CT C).size)
variable {Nm:ByteArray->Prop} {QT:ByteArray->ByteArray} {CT:Nat->ByteArray}
theorem Dm(h:Nat)(o:ByteArray)(n:Nd)(r:List Nd):pS QT CT h o (n::r)=pP QT CT h n++pB QT CT h o r:=by rw[pS];rfl
theorem Dp(h:Nat)(o:ByteArray)(n:Nd)(r:List Nd):pB QT CT h o (n::r)=o::(pP QT CT h n++pB QT CT h o r):=by rw[pB];rfl
theorem Sl(h:Nat)(o:ByteArray):pB QT CT h o []=[]:=by rw[pB]
end
end
section
def cat:List ByteArray->ByteArray
 |[]=>{data:=#[]}
 |p::r=>p++cat r
theorem Tz:∀(h:List ByteArray),(cat h).size=sz h
 |[]=>rfl
 |p::r=>by rw[cat,ByteArray.size_append,Tz r,sz]
theorem z2T:∀(A B:List ByteArray),cat (A++B)=cat A++cat B
 |[],B=>by
  rw[List.nil_append,cat];apply y0O;intro j;rw[y0F,if_neg (by show ¬j<0;omega)];rfl
 |p::r,B=>by rw[List.cons_append,cat,cat,z2T r B,ByteArray.append_assoc]
section
variable {Nm:ByteArray->Prop} {QT:ByteArray->ByteArray} {CT:Nat->ByteArray}
theorem Zl{p q:ByteArray}{x y:Nat}(o:bt p 0=some x)(r:bt q 0=some y)(h:x≠y):p≠q:=fun e=>by
 rw[e,r]at o;cases o;exact h rfl
theorem z2U:bC≠bO:=Zl (x:=41) (y:=40) rfl rfl (by decide)
theorem Ec(kd:Nat):bsg kd≠bO/\bsg kd≠bC:=by
 unfold bsg rpS;split
 ·exact⟨Zl (x:=38) (y:=40) rfl rfl (by decide),Zl (x:=38) (y:=41) rfl rfl (by decide)⟩
 ·split
  ·exact⟨Zl (x:=33) (y:=40) rfl rfl (by decide),Zl (x:=33) (y:=41) rfl rfl (by decide)⟩
  ·split
   ·exact⟨Zl (x:=63) (y:=40) rfl rfl (by decide),Zl (x:=63) (y:=41) rfl rfl (by decide)⟩
   ·split
    ·exact⟨Zl (x:=42) (y:=40) rfl rfl (by decide),Zl (x:=42) (y:=41) rfl rfl (by decide)⟩
    ·exact⟨Zl (x:=43) (y:=40) rfl rfl (by decide),Zl (x:=43) (y:=41) rfl rfl (by decide)⟩
theorem El:bE≠bO/\bE≠bC:=⟨fun e=>by have:=congrArg ByteArray.size e;simp[bE,bO,ByteArray.size]at this,fun e=>by have:=congrArg ByteArray.size e;simp[bE,bC,ByteArray.size]at this⟩
theorem z2V:bSp≠bO/\bSp≠bC:=⟨Zl (x:=32) (y:=40) rfl rfl (by decide),Zl (x:=32) (y:=41) rfl rfl (by decide)⟩
theorem z2W:bSl≠bO/\bSl≠bC:=⟨Zl (x:=32) (y:=40) rfl rfl (by decide),Zl (x:=32) (y:=41) rfl rfl (by decide)⟩
theorem z2X(P:ByteArray):Pl P 0 P:=⟨by omega,fun i _=>by rw[Nat.zero_add]⟩
theorem z2Y(o:Pcs Nm QT CT){T:ByteArray}(h:Nm T):T≠bO/\T≠bC:=by
 obtain⟨_,⟨x,hx,hl⟩,_⟩:=o.nm T h;have:x≠40/\x≠41:=by
  unfold Zw at hl;simp at hl;omega
 exact⟨Zl hx (y:=40) rfl this.1,Zl hx (y:=41) rfl this.2⟩
def dR:List Rl->Nat
 |[]=>0
 |x::r=>max (dN x.2.1) (dR r)
end
end
section
mutual
def eN:Nd->Bool
 | .mk kd T C s p=>decide (kd=1)||eL s
def eL:List Nd->Bool
 |[]=>false
 |n::r=>eN n||eL r
end
theorem Tj:∀(a b:List Nd),eL (a++b)=(eL a||eL b)
 |[],b=>by rw[List.nil_append,eL,Bool.false_or]
 |n::r,b=>by rw[List.cons_append,eL,eL,Tj r b,Bool.or_assoc]
theorem Tv(h:Nat):∀(a b:List Nd),dS h (a++b)=max (dS h a) (dS h b)
 |[],b=>by rw[List.nil_append,dS,Nat.zero_max]
 |n::r,b=>by rw[List.cons_append,Uc,Uc,Tv h r b,Nat.max_assoc]
theorem z2Z(h:Nat)(n:Nd):dN n<=dP h n/\dP h n<=dN n+1:=by
 unfold dP;split<;>omega
theorem y0S(n:Nd):dP 11 n<=dP 8 n:=by
 unfold dP;rw[Rp,wr8];by_cases h:n.kd=6∨n.kd=7∨n.kd=11∨n.kd=12
 ·rw[decide_eq_true h,decide_eq_true (show 6<=n.kd by omega)]
  exact Nat.le_refl _
 ·rw[decide_eq_false h]
  simp only[Bool.false_eq_true,if_false];split<;>omega
theorem y0T(n:Nd):dP 6 n<=dP 11 n:=by
 unfold dP;rw[Rp,wr6];by_cases h:n.kd=6∨n.kd=7
 ·rw[decide_eq_true h,decide_eq_true (show n.kd=6∨n.kd=7∨n.kd=11∨n.kd=12 by omega)]
  exact Nat.le_refl _
 ·rw[decide_eq_false h]
  simp only[Bool.false_eq_true,if_false];split<;>omega
theorem y0U(n:Nd):dP 7 n<=dP 6 n:=by
 unfold dP;rw[wr7,wr6];by_cases h:n.kd=7
 ·rw[decide_eq_true h,decide_eq_true (show n.kd=6∨n.kd=7 from .inr h)]
  exact Nat.le_refl _
 ·rw[decide_eq_false h]
  simp only[Bool.false_eq_true,if_false];split<;>omega
def Dq(g:Nd->Nat)(d:Nat)(r:Pr):Prop:=∀n k,r=.inr (n,k)->eN n=false->g n<=d
section
variable {L:List Tok}
theorem Hz{kd:Nat}{T:ByteArray}{C p:Nat}(h:kd=2∨kd=3∨kd=4∨kd=5)(d:Nat):dP 8 (.mk kd T C [] p)<=d:=by
 unfold dP;rw[wr8];show(if decide (6<=kd)=true then _ else _)<=d;rw[decide_eq_false (by omega)];simp only[Bool.false_eq_true,if_false];rw[dN,if_neg (by omega),dS];exact Nat.zero_le _
theorem Tw{o:Nat->Pr}{d:Nat}(r:∀k,Dq (dP 8) d (o k))(k:Nat):Dq (dP 8) d (Uq L o k):=by
 intro n k' h t;unfold Uq at h;split at h
 ·simp only[Sum.inr.injEq,Prod.mk.injEq]at h
  rw[<-h.1];exact Hz (by omega) d
 ·split at h
  ·simp only[Sum.inr.injEq,Prod.mk.injEq]at h
   rw[<-h.1];exact Hz (by omega) d
  ·split at h
   ·simp only[Sum.inr.injEq,Prod.mk.injEq]at h
    rw[<-h.1];exact Hz (by omega) d
   ·split at h
    ·simp only[Sum.inr.injEq,Prod.mk.injEq]at h
     rw[<-h.1];exact Hz (by omega) d
    ·split at h
     ·exact r k n k' h t
     ·cases h
theorem y0V{T:ByteArray}(h:rpK T≠0):rpK T=8∨rpK T=9∨rpK T=10:=by
 unfold rpK at h ⊢;split
 ·exact .inl rfl
 ·split
  ·exact .inr (.inl rfl)
  ·split
   ·exact .inr (.inr rfl)
   ·rename_i o r t
    rw[if_neg o,if_neg r,if_neg t]at h;exact absurd rfl h
theorem z3a{kd:Nat}{T:ByteArray}{C p:Nat}{m:Nd}(h:eN (.mk kd T C [m] p)=false):eN m=false:=by
 rw[eN,eL,eL]at h;simp at h;exact h.2
theorem Ty{d:Nat}{r:Pr}(o:Dq (dP 8) d r):Dq (dP 11) d (Jf L r):=by
 intro n k' h t;cases r with
 |inl e=>cases h
 |inr q=>
  obtain⟨m,j⟩:=q;unfold Jf at h;simp only at h;split at h
  ·simp only[Sum.inr.injEq,Prod.mk.injEq]at h
   obtain⟨rfl,rfl⟩:=h;have:=o m j rfl t;have:=y0S m;omega
  ·rename_i y
   have A:=y0V y;simp only[Sum.inr.injEq,Prod.mk.injEq]at h;obtain⟨rfl,_⟩:=h;have D:=o m j rfl (z3a t);unfold dP;rw[Rp];show(if decide (rpK (sgT (gL L j))=6∨rpK (sgT (gL L j))=7∨rpK (sgT (gL L j))=11∨rpK (sgT (gL L j))=12)=true then _ else _)<=d;rw[decide_eq_false (by omega)];simp only[Bool.false_eq_true,if_false];rw[(y0h A).2];exact D
theorem y0W{y:Nat->Pr}{d:Nat}(o:∀k,Dq (dP 8) d (y k))(k:Nat):Dq (dP 6) d (Vf L y k):=by
 have ov:∀(kd p:Nat) (r:Pr),(kd=11∨kd=12)->Dq (dP 11) d r->Dq (dP 6) d (ovS kd p r):=fun kd p r D E n k' h t=>by
  cases r with
  |inl e=>cases h
  |inr q=>
   obtain⟨m,j⟩:=q;simp only[ovS,Sum.inr.injEq,Prod.mk.injEq]at h;obtain⟨rfl,_⟩:=h;have A:=E m j rfl (z3a t);unfold dP;rw[wr6];show(if decide (kd=6∨kd=7)=true then _ else _)<=d;rw[decide_eq_false (by omega)];simp only[Bool.false_eq_true,if_false];rw[(y0i D).2];exact A
 unfold Vf;split
 ·exact ov 12 _ _ (.inr rfl) (Ty (Tw o _))
 ·split
  ·exact ov 11 _ _ (.inl rfl) (Ty (Tw o _))
  ·intro n k' h t
   have A:=Ty (Tw o _) n k' h t;have:=y0T n;omega
theorem z3b{kd:Nat}:∀{l:List Nd},l≠[]->kd≠1->eN (Vq kd l)=eL l
 |[],h,_=>absurd rfl h
 |[n],_,_=>by rw[Vq,eL,eL,Bool.or_false]
 |n::m::r,_,h=>by
  show eN (.mk kd _ 0 (n::m::r) n.at')=_;rw[eN,decide_eq_false h,Bool.false_or]
theorem Tf{A:Nat->Pr}{d:Nat}(D:∀k,Dq (dP 8) d (A k)):∀(f k:Nat) (acc:List Nd),(eL acc=false->dS 6 acc<=d)->Dq (dP 7) d (Zy L A f k acc)
 |0,_,_,_=>fun n k' h _=>by rw[Zy]at h;cases h
 |f+1,k,acc,ha=>fun n k' h o=>by
  rw[Zy]at h;split at h
  ·split at h
   ·cases h
   ·rename_i m j G
    refine Tf D f j (acc++[m]) (fun t=> ?_) n k' h o;rw[Tj,eL,eL,Bool.or_false]at t;simp at t;have y:=ha t.1;have U:=y0W D k m j G t.2;rw[Tv,Uc,dS];omega
  ·split at h
   ·simp only[Sum.inr.injEq,Prod.mk.injEq]at h
    rw[<-h.1,eN]at o;simp at o
   ·rename_i I
    simp only[Sum.inr.injEq,Prod.mk.injEq]at h;obtain⟨rfl,_⟩:=h;have E:acc≠[]:=fun e=>I (by rw[e];rfl)
    rw[z3b E (by decide)]at o;have y:=ha o
    match acc,E with
    |[n],_=>
     rw[Uc,dS]at y;have:=y0U n;show dP 7 n<=d;omega
    |n::m::r,_=>
     show dP 7 (.mk 6 _ 0 (n::m::r) n.at')<=d;rw[(y0g (n:=.mk 6 _ 0 (n::m::r) n.at') (by show(6:Nat)≠7;decide)).2,dN,if_neg (by decide)];exact y
theorem z3c{A:Nat->Pr}{d:Nat}(D:∀k,Dq (dP 8) d (A k)):∀(f k:Nat) (acc:List Nd),acc≠[]->(eL acc=false->dS 7 acc<=d)->Dq dN d (Xq L A f k acc)
 |0,_,_,_,_=>fun n k' h _=>by rw[Xq]at h;cases h
 |f+1,k,acc,hn,ha=>fun n k' h t=>by
  rw[Xq]at h;split at h
  ·split at h
   ·cases h
   ·rename_i m j E
    refine z3c D f j (acc++[m]) (by simp) (fun o=> ?_) n k' h t;rw[Tj,eL,eL,Bool.or_false]at o;simp at o;have y:=ha o.1;have G:=Tf D _ _ [] (fun _=>by rw[dS];exact Nat.zero_le _) m j E o.2;rw[Tv,Uc,dS];omega
  ·simp only[Sum.inr.injEq,Prod.mk.injEq]at h
   obtain⟨rfl,_⟩:=h;rw[z3b hn (by decide)]at t;have y:=ha t
   match acc,hn with
   |[n],_=>
    rw[Uc,dS]at y;have:=(z2Z 7 n).1;show dN n<=d;omega
   |n::m::r,_=>
    show dN (.mk 7 _ 0 (n::m::r) n.at')<=d;rw[dN,if_neg (by decide)];exact y
theorem z3d{o:Nat->Pr}{d:Nat}(r:∀k,Dq (dP 8) d (o k))(k:Nat):Dq dN d (chS L o k):=by
 intro n k' h y;unfold chS at h;cases hr:Zy L o L.length k []with
 |inl e=>rw[hr]at h;cases h
 |inr q=>
  obtain⟨m,j⟩:=q;rw[hr]at h;refine z3c r _ j [m] (by simp) (fun t=> ?_) n k' h y;rw[eL,eL,Bool.or_false]at t;have A:=Tf r _ _ [] (fun _=>by rw[dS];exact Nat.zero_le _) m j hr t;rw[Uc,dS];omega
theorem z3e:∀(d k:Nat),Dq (dP 8) d (Zc L d k)
 |0,k=>fun n k' h _=>by rw[Zc]at h;cases h
 |d+1,k=>fun n k' h o=>by
  rw[Zc]at h;obtain⟨j,r,_⟩:=Rz h;have:=z3d (z3e d) (k+1) n j r o;have:=(z2Z 8 n).2;omega
theorem z3f{ru k k':Nat}{x:Rl}(h:ruS L ru k=.inr (x,k'))(o:eN x.2.1=false):dN x.2.1<=24:=
 z3d (z3e 24) (k+2) _ _ (z2o h).1 o
theorem z3g:∀(f k:Nat) (acc rs:List Rl),Xx L f k acc=.inr rs->(∀x∈acc,eN x.2.1=false->dN x.2.1<=24)->∀x∈rs,eN x.2.1=false->dN x.2.1<=24
 |0,_,_,_,h,_=>by rw[Xx]at h;cases h
 |f+1,k,acc,rs,h,ha=>by
  rw[Xx]at h;split at h
  ·simp only[Sum.inr.injEq]at h;subst h;exact ha
  ·split at h
   ·cases h
   ·rename_i x k' t
    refine z3g f k' (acc++[x]) rs h (fun y o r=> ?_);rcases List.mem_append.1 o with o|o
    ·exact ha y o r
    ·simp at o
     subst o;exact z3f t r
theorem y0X{rs:List Rl}(h:Vg L=.inr rs):∀x∈rs,eN x.2.1=false->dN x.2.1<=24:=by
 unfold Vg at h;cases hr:ruS L 0 0 with
 |inl c=>rw[hr]at h;cases h
 |inr q=>
  obtain⟨x,k'⟩:=q;rw[hr]at h;refine z3g _ _ _ _ h (fun y o r=> ?_);simp at o;subst o;exact z3f hr r
end
end
end Go.Proofs.YtgnkkgcgbeianaaGreatDoor
