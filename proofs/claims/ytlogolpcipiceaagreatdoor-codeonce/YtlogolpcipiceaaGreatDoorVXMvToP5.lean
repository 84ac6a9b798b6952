/- Lemmas for the last text. Conditions: those that each names. -/
import Derived.Test.YtlogolpcipiceaaGreatDoorVX19ToQ4
import Derived.Test.YtlogolpcipiceaaGreatDoorVY15ToR1
set_option linter.unusedVariables false
namespace Go.Proofs.YtlogolpcipiceaaGreatDoor
open Go.Proofs.Tryz
open Go.RowKit
theorem z1o{A B:ByteArray}(h:∀j,bt A j=bt B j):A=B:=by
 have hs:A.size=B.size:=by
  rcases Nat.lt_trichotomy A.size B.size with h1|h1|h1
  ·have h2:=h A.size
   rw[Uz L0q]at h2;have:=Xv h2.symm;omega
  ·exact h1
  ·have h2:=h B.size
   rw[Uz L0q]at h2;have:=Xv h2;omega
 apply ByteArray.ext;apply Array.ext
 ·exact hs
 ·intro i h1 h2
  have h3:=h i;have e1:bt A i=some (A.data[i].toNat):=by unfold bt;rw[dif_pos (show i<A.size from h1)];rfl
  have e2:bt B i=some (B.data[i].toNat):=by unfold bt;rw[dif_pos (show i<B.size from h2)];rfl
  rw[e1,e2]at h3;exact UInt8.toNat.inj (Option.some.inj h3)
theorem Mq(S:ByteArray)(p e j:Nat)(he:e<=S.size):bt (S.extract p e) j=if p+j<e then bt S (p+j)else none:=by
 have hsz:(S.extract p e).size=e-p:=by rw[ByteArray.size_extract];omega
 by_cases h:p+j<e
 ·rw[if_pos h]
  unfold bt;rw[dif_pos (by omega),dif_pos (by omega),ByteArray.getElem_extract]
 ·rw[if_neg h,Uz (by omega)]
def Seg(S X:ByteArray)(a b L:Nat):Prop:=∀j,j<L->bt X (b+j)=bt S (a+j)
theorem Seg.dg{S X:ByteArray}{a b L i:Nat}(h:Seg S X a b L)(hi:i<L):dg X (b+i)=dg S (a+i):=by
 show(bt X (b+i)).bind dgv=(bt S (a+i)).bind dgv;rw[h i hi]
theorem Seg.digs{S X:ByteArray}{a b L i i' y:Nat}(h:Seg S X a b L)(hd:digs S (a+i)=.inr (y,a+i'))(hi:i'<=L):digs X (b+i)=.inr (y,b+i'):=by
 obtain⟨q,r,h1,h2,h3,h4⟩:=Ag hd;have e1:=h.dg (i:=i) (by omega);have e2:=h.dg (i:=i+1) (by omega);unfold Proofs.YtlogolpcipiceaaGreatDoor.digs;rw[e1,h1];simp only;rw[show b+i+1=b+(i+1) by omega,e2,show a+(i+1)=a+i+1 by omega,h2];simp only;rw[h3,show b+i+2=b+i' by omega]
theorem Seg.lsg{S X:ByteArray}{a b L i i' y:Nat}(h:Seg S X a b L)(hd:lsg S (a+i)=.inr (y,a+i'))(hi:i'<=L):lsg X (b+i)=.inr (y,b+i'):=by
 have hok:=Df hd;have e0:=h i (by omega);unfold Proofs.YtlogolpcipiceaaGreatDoor.lsg at hd ⊢;rw[e0];cases hb:bt S (a+i)with
 |none=>rw[hb]at hd;cases hd
 |some x=>
  rw[hb]at hd;simp only at hd ⊢;split at hd
  ·cases hd
  ·rename_i hp
   rw[if_neg hp];split at hd
   ·rename_i hx
    rw[if_pos hx];have hok2:=Wh hd;have e1:=h (i+1) (by omega);unfold Uq at hd ⊢;rw[show b+i+1=b+(i+1) by omega,e1,show a+(i+1)=a+i+1 by omega];cases hb2:bt S (a+i+1)with
    |none=>rw[hb2]at hd;cases hd
    |some z=>
     rw[hb2]at hd;simp only at hd ⊢;cases hv:Yv z with
     |some v=>
      rw[hv]at hd;simp only[Sum.inr.injEq,Prod.mk.injEq]at hd ⊢;omega
     |none=>
      rw[hv]at hd;simp only at hd ⊢;split at hd
      ·rename_i hz
       rw[if_pos hz];rw[show b+(i+1)+1=b+(i+2) by omega];exact h.digs (by rw[show a+(i+2)=a+i+1+1 by omega];exact hd) hi
      ·cases hd
   ·rename_i hx
    rw[if_neg hx];simp only[Sum.inr.injEq,Prod.mk.injEq]at hd ⊢;omega
theorem Seg.llit{S X:ByteArray}{a b L q p p' i':Nat}{l:List Nat}(h:Seg S X a b L)(hi:i'<=L):∀(f i:Nat) (acc:List Nat),acc.length<=255->(∀x∈acc,x<256)->
  llit S q p f (a+i) acc=.inr (l,a+i')->ll X q p' (b+i) acc=.inr (l,b+i')
 |0,i,acc,_,_,hd=>by rw[Proofs.YtlogolpcipiceaaGreatDoor.llit]at hd;cases hd
 |f+1,i,acc,ha,hx,hd=>by
  have hok:=Bw S q p _ _ _ _ _ hd hx ha;have e0:=h i (by omega);rw[Proofs.YtlogolpcipiceaaGreatDoor.llit]at hd;split at hd
  ·rename_i hb
   simp only[Sum.inr.injEq,Prod.mk.injEq]at hd;rw[Iq (by rw[e0];exact hb),hd.1,show b+i+1=b+i' by omega]
  ·rename_i hb
   split at hd
   ·cases hd
   ·rename_i y n hs
    have hok1:=Df hs;obtain⟨i1,rfl⟩:∃i1,n=a+i1:=⟨n-a,by omega⟩;split at hd
    ·cases hd
    ·rename_i h5
     have hx2:∀x∈acc++[y],x<256:=fun x hx'=>by
      rcases List.mem_append.1 hx' with h|h
      ·exact hx x h
      ·simp at h;omega
     have hok2:=Bw S q p _ _ _ _ _ hd hx2 (by simp;omega);rw[Ix (by rw[e0];exact hb) (h.lsg hs (by omega)) h5];exact Seg.llit h hi f i1 (acc++[y]) (by simp;omega) hx2 hd
theorem Seg.ll{S X:ByteArray}{a b L q p p' i i':Nat}{l:List Nat}(h:Seg S X a b L)(hi:i'<=L)(hd:ll S q p (a+i) []=.inr (l,a+i')):ll X q p' (b+i) []=.inr (l,b+i'):=
 Seg.llit h hi _ i [] (by simp) (fun x hx=>by simp at hx) hd
def Agr(T V:ByteArray)(M:Nat):Prop:=∀j,j<M->bt V j=bt T j
theorem Agr.digs{T V:ByteArray}{M k y n:Nat}(h:Agr T V M)(hd:digs T k=.inr (y,n))(hn:n<=M):digs V k=.inr (y,n):=by
 have:=Seg.digs (S:=T) (X:=V) (a:=0) (b:=0) (L:=M) (i:=k) (i':=n) (y:=y) (fun j hj=>by simpa using h j hj) (by simpa using hd) hn;simpa using this
theorem Agr.sg{T V:ByteArray}{M k y n:Nat}(h:Agr T V M)(hd:sg T k=.inr (y,n))(hn:n<=M):sg V k=.inr (y,n):=by
 have hok:=Nx hd;have e0:=h k (by omega);unfold Proofs.YtlogolpcipiceaaGreatDoor.sg at hd ⊢;rw[e0];cases hb:bt T k with
 |none=>rw[hb]at hd;cases hd
 |some x=>
  rw[hb]at hd;simp only at hd ⊢;split at hd
  ·rename_i hx
   rw[if_pos hx];have hok2:=Wk hd;have e1:=h (k+1) (by omega);unfold esc at hd ⊢;rw[e1];cases hb2:bt T (k+1)with
   |none=>rw[hb2]at hd;cases hd
   |some z=>
    rw[hb2]at hd;simp only at hd ⊢;cases hv:Jd z with
    |some v=>rw[hv]at hd;exact hd
    |none=>
     rw[hv]at hd;simp only at hd ⊢;split at hd
     ·rename_i hz
      rw[if_pos hz];exact h.digs hd hn
     ·cases hd
  ·rename_i hx
   rw[if_neg hx];split at hd
   ·rename_i hp
    rw[if_pos hp];exact hd
   ·cases hd
theorem Agr.mbr{T V:ByteArray}{M k y n:Nat}(h:Agr T V M)(hd:mbr T k=.inr (y,n))(hn:n<M):mbr V k=.inr (y,n):=by
 have hok:=Nj hd;unfold Proofs.YtlogolpcipiceaaGreatDoor.mbr at hd ⊢;cases hs:Proofs.YtlogolpcipiceaaGreatDoor.sg T k with
 |inl e=>rw[hs]at hd;cases hd
 |inr r=>
  obtain⟨lo,m⟩:=r;have hok1:=Nx hs;rw[hs]at hd;simp only at hd;split at hd
  ·rename_i h45
   have hm:m<n:=by
    split at hd
    ·cases hd
    ·rename_i hi m2 hs2
     have:=Nx hs2;split at hd
     ·cases hd
     ·simp only[Sum.inr.injEq,Prod.mk.injEq]at hd;omega
   rw[h.sg hs (by omega)];simp only;rw[if_pos (by rw[h m (by omega)];exact h45)];cases hs2:Proofs.YtlogolpcipiceaaGreatDoor.sg T (m+1)with
   |inl e=>rw[hs2]at hd;cases hd
   |inr r2=>
    obtain⟨hi,m2⟩:=r2;rw[hs2]at hd;simp only at hd;split at hd
    ·cases hd
    ·rename_i hle
     have hd2:=hd;simp only[Sum.inr.injEq,Prod.mk.injEq]at hd2;rw[h.sg hs2 (by omega)];simp only;rw[if_neg hle];exact hd
  ·rename_i h45
   have hd2:=hd;simp only[Sum.inr.injEq,Prod.mk.injEq]at hd2;rw[h.sg hs (by omega)];simp only;rw[if_neg (by rw[h m (by omega)];exact h45)];exact hd
theorem Agr.mems{T V:ByteArray}{M C n:Nat}(h:Agr T V M)(hn:n<=M):∀(f k acc:Nat),mems T f k acc=.inr (C,n)->k<n/\n<=T.size/\mm V k acc=.inr (C,n)
 |0,k,acc,hd=>by rw[Proofs.YtlogolpcipiceaaGreatDoor.mems]at hd;cases hd
 |f+1,k,acc,hd=>by
  rw[Proofs.YtlogolpcipiceaaGreatDoor.mems]at hd;split at hd
  ·rename_i hb
   have h1:=(Qh hb).1;have hd2:=hd;simp only[Sum.inr.injEq,Prod.mk.injEq]at hd2;refine⟨by omega,by omega,?_⟩;rw[Ab,if_pos (by rw[h k (by omega)];exact hb)];exact hd
  ·rename_i hb
   cases hm:Proofs.YtlogolpcipiceaaGreatDoor.mbr T k with
   |inl e=>rw[hm]at hd;cases hd
   |inr r=>
    obtain⟨Y,m⟩:=r;rw[hm]at hd;have hok:=Nj hm;obtain⟨h1,h2,h3⟩:=Agr.mems h hn f m _ hd;refine⟨by omega,h2,?_⟩;rw[Ab,if_neg (by rw[h k (by omega)];exact hb),h.mbr hm (by omega)];exact h3
theorem Agr.cls{T V:ByteArray}{M C n:Nat}(h:Agr T V M)(hd:Gk T=.inr (C,n))(hn:n<=M):Gk V=.inr (C,n):=by
 rw[Wy]at hd ⊢;split at hd
 ·rename_i h0
  split at hd
  ·rename_i h1
   cases hm:mm T 2 0 with
   |inl e=>rw[hm]at hd;cases hd
   |inr r=>
    obtain⟨D,m⟩:=r;rw[hm]at hd;have hd2:=hd;simp only[ng,Sum.inr.injEq,Prod.mk.injEq]at hd2;obtain⟨a1,a2,a3⟩:=h.mems (n:=m) (by omega) _ _ _ hm;rw[if_pos (by rw[h 0 (by omega)];exact h0),if_pos (by rw[h 1 (by omega)];exact h1),a3];exact hd
  ·rename_i h1
   obtain⟨a1,a2,a3⟩:=h.mems hn _ _ _ hd;rw[if_pos (by rw[h 0 (by omega)];exact h0),if_neg (by rw[h 1 (by omega)];exact h1),a3]
 ·cases hd
theorem Seg.text{S X:ByteArray}{a b L i i':Nat}(h:Seg S X a b L)(hi:i'<=L)(h1:a+i'<=S.size)(h2:b+i'<=X.size):X.extract (b+i) (b+i')=S.extract (a+i) (a+i'):=by
 apply z1o;intro j;rw[Mq X _ _ _ h2,Mq S _ _ _ h1];by_cases hj:i+j<i'
 ·rw[if_pos (by omega),if_pos (by omega),show b+i+j=b+(i+j) by omega,h (i+j) (by omega),show a+(i+j)=a+i+j by omega]
 ·rw[if_neg (by omega),if_neg (by omega)]
theorem z7M(r:Tr):Fh [] r=r:=by cases r<;>simp[Fh]
section
mutual
def Wf(Nm:ByteArray->Prop):Nd->Prop
 | .mk kd T C s p=>(kd=2->T.size<=255)/\(kd=5->Nm T)/\C<2^256/\WfL Nm s
def WfL(Nm:ByteArray->Prop):List Nd->Prop
 |[]=>True
 |n::r=>Wf Nm n/\WfL Nm r
end
def Vh(Nm:ByteArray->Prop)(t:Tok):Prop:=(t.1=1->Nm t.2.1/\t.2.2.1=0)/\(t.1=3->t.2.1.size<=255/\t.2.2.1=0)/\(t.1=4->t.2.1={data:=#[]})/\(t.1=5->t.2.2.1=0)/\t.2.2.1<2^256
def Pq(Nm:ByteArray->Prop)(r:Pr):Prop:=∀n k,r=.inr (n,k)->Vk n/\Wf Nm n
theorem VkL.app:∀{a b:List Nd},VkL a->VkL b->VkL (a++b)
 |[],b,_,h=>h
 |n::r,b,h1,h2=>by
  rw[VkL]at h1;rw[List.cons_append,VkL];exact⟨h1.1,VkL.app h1.2 h2⟩
theorem WfL.app{Nm:ByteArray->Prop}:∀{a b:List Nd},WfL Nm a->WfL Nm b->WfL Nm (a++b)
 |[],b,_,h=>h
 |n::r,b,h1,h2=>by
  rw[WfL]at h1;rw[List.cons_append,WfL];exact⟨h1.1,WfL.app h1.2 h2⟩
section
variable {L:List Tok} {Nm:ByteArray->Prop}
theorem Uy:VkL []:=by rw[VkL];trivial
theorem Uf:WfL Nm []:=by rw[WfL];trivial
theorem z7N:(0:Nat)<2^256:=by decide
theorem Cj{kd p:Nat}{s:List Nd}(h2:kd≠2)(h5:kd≠5)(hs:WfL Nm s):Wf Nm (.mk kd {data:=#[]} 0 s p):=by
 rw[Wf];exact⟨fun h=>absurd h h2,fun h=>absurd h h5,z7N,hs⟩
theorem Ow(ht:∀k,Vh Nm (gL L k)){inn:Nat->Pr}(hi:∀k,Pq Nm (inn k))(k:Nat):Pq Nm (Vb L inn k):=by
 intro n k' h;obtain⟨t1,t3,t4,t5,tc⟩:=ht k;unfold Vb at h;split at h
 ·rename_i hc
  simp only[Sum.inr.injEq,Prod.mk.injEq]at h;rw[<-h.1];have:=t1 hc.1;refine⟨?_,?_⟩
  ·rw[Vk];exact⟨.inr (.inr (.inr (.inr (.inl ⟨rfl,this.2,rfl⟩)))),Uy⟩
  ·rw[Wf];exact⟨fun h=>by omega,fun _=>this.1,tc,Uf⟩
 ·split at h
  ·rename_i hc
   simp only[Sum.inr.injEq,Prod.mk.injEq]at h;rw[<-h.1];have:=t3 hc;refine⟨?_,?_⟩
   ·rw[Vk];exact⟨.inr (.inl ⟨rfl,this.2,rfl⟩),Uy⟩
   ·rw[Wf];exact⟨fun _=>this.1,fun h=>by omega,tc,Uf⟩
  ·split at h
   ·rename_i hc
    simp only[Sum.inr.injEq,Prod.mk.injEq]at h;rw[<-h.1];refine⟨?_,?_⟩
    ·rw[Vk];exact⟨.inr (.inr (.inl ⟨rfl,t4 hc,rfl⟩)),Uy⟩
    ·rw[Wf];exact⟨fun h=>by omega,fun h=>by omega,tc,Uf⟩
   ·split at h
    ·rename_i hs
     simp only[Sum.inr.injEq,Prod.mk.injEq]at h;rw[<-h.1];refine⟨?_,?_⟩
     ·rw[Vk];exact⟨.inr (.inr (.inr (.inl ⟨rfl,rfl,t5 (Gy hs),rfl⟩))),Uy⟩
     ·rw[Wf];exact⟨fun h=>by omega,fun h=>by omega,tc,Uf⟩
    ·split at h
     ·exact hi k n k' h
     ·cases h
theorem Oy{r:Pr}(hr:Pq Nm r):Pq Nm (Uh L r):=by
 intro n k' h;cases r with
 |inl e=>cases h
 |inr q=>
  obtain⟨m,j⟩:=q;have h1:=hr m j rfl;unfold Uh at h;simp only at h;split at h
  ·simp only[Sum.inr.injEq,Prod.mk.injEq]at h
   rw[<-h.1];exact h1
  ·rename_i hs
   have hk:rpK (sgT (gL L j))=8∨rpK (sgT (gL L j))=9∨rpK (sgT (gL L j))=10:=by
    unfold rpK at hs ⊢;split
    ·exact .inl rfl
    ·split
     ·exact .inr (.inl rfl)
     ·split
      ·exact .inr (.inr rfl)
      ·rename_i a b c
       rw[if_neg a,if_neg b,if_neg c]at hs;exact absurd rfl hs
   simp only[Sum.inr.injEq,Prod.mk.injEq]at h;rw[<-h.1];refine⟨?_,Cj (by omega) (by omega) (by rw[WfL];exact⟨h1.2,Uf⟩)⟩;rw[Vk];exact⟨.inr (.inr (.inr (.inr (.inr (.inr ⟨by omega,by omega,rfl,rfl,rfl⟩))))),by rw[VkL];exact⟨h1.1,Uy⟩⟩
theorem z7O(ht:∀k,Vh Nm (gL L k)){inn:Nat->Pr}(hi:∀k,Pq Nm (inn k))(k:Nat):Pq Nm (Vq L inn k):=by
 have ov:∀(kd p:Nat) (r:Pr),(kd=11∨kd=12)->Pq Nm r->Pq Nm (ovS kd p r):=fun kd p r hk hr n k' h=>by
  cases r with
  |inl e=>cases h
  |inr q=>
   obtain⟨m,j⟩:=q;have h1:=hr m j rfl;simp only[ovS,Sum.inr.injEq,Prod.mk.injEq]at h;rw[<-h.1];refine⟨?_,Cj (by omega) (by omega) (by rw[WfL];exact⟨h1.2,Uf⟩)⟩;rw[Vk];exact⟨.inr (.inr (.inr (.inr (.inr (.inr ⟨by omega,by omega,rfl,rfl,rfl⟩))))),by rw[VkL];exact⟨h1.1,Uy⟩⟩
 unfold Vq;split
 ·exact ov 12 _ _ (.inr rfl) (Oy (Ow ht hi _))
 ·split
  ·exact ov 11 _ _ (.inl rfl) (Oy (Ow ht hi _))
  ·exact Oy (Ow ht hi _)
theorem z1p{kd:Nat}(hk:kd=6∨kd=7):∀{l:List Nd},l≠[]->VkL l->WfL Nm l->Vk (Yy kd l)/\Wf Nm (Yy kd l)
 |[],h,_,_=>absurd rfl h
 |[n],_,h1,h2=>by
  rw[VkL]at h1;rw[WfL]at h2;exact⟨h1.1,h2.1⟩
 |n::m::r,_,h1,h2=>by
  refine⟨?_,Cj (by omega) (by omega) h2⟩;show Vk (.mk kd _ 0 (n::m::r) n.at');rw[Vk];exact⟨.inr (.inr (.inr (.inr (.inr (.inl ⟨hk,rfl,rfl,by simp⟩))))),h1⟩
theorem Of(ht:∀k,Vh Nm (gL L k)){inn:Nat->Pr}(hi:∀k,Pq Nm (inn k)):∀(f k:Nat) (acc:List Nd),VkL acc->WfL Nm acc->Pq Nm (Zx L inn f k acc)
 |0,_,_,_,_=>fun n k' h=>by rw[Zx]at h;cases h
 |f+1,k,acc,h1,h2=>fun n k' h=>by
  rw[Zx]at h;split at h
  ·split at h
   ·cases h
   ·rename_i m j hp
    have hm:=z7O ht hi k m j hp;exact Of ht hi f j (acc++[m]) (h1.app (by rw[VkL];exact⟨hm.1,Uy⟩)) (h2.app (by rw[WfL];exact⟨hm.2,Uf⟩)) n k' h
  ·split at h
   ·simp only[Sum.inr.injEq,Prod.mk.injEq]at h
    rw[<-h.1];refine⟨?_,Cj (by decide) (by decide) Uf⟩;rw[Vk];exact⟨.inl ⟨rfl,rfl,rfl,rfl⟩,Uy⟩
   ·rename_i hne
    simp only[Sum.inr.injEq,Prod.mk.injEq]at h;rw[<-h.1];exact z1p (.inl rfl) (fun e=>hne (by rw[e];rfl)) h1 h2
theorem z1q(ht:∀k,Vh Nm (gL L k)){inn:Nat->Pr}(hi:∀k,Pq Nm (inn k)):∀(f k:Nat) (acc:List Nd),acc≠[]->VkL acc->WfL Nm acc->Pq Nm (Zd L inn f k acc)
 |0,_,_,_,_,_=>fun n k' h=>by rw[Zd]at h;cases h
 |f+1,k,acc,hn,h1,h2=>fun n k' h=>by
  rw[Zd]at h;split at h
  ·split at h
   ·cases h
   ·rename_i m j hp
    have hm:=Of ht hi _ _ [] Uy Uf m j hp;exact z1q ht hi f j (acc++[m]) (by simp) (h1.app (by rw[VkL];exact⟨hm.1,Uy⟩)) (h2.app (by rw[WfL];exact⟨hm.2,Uf⟩)) n k' h
  ·simp only[Sum.inr.injEq,Prod.mk.injEq]at h
   rw[<-h.1];exact z1p (.inr rfl) hn h1 h2
theorem z1r(ht:∀k,Vh Nm (gL L k)){inn:Nat->Pr}(hi:∀k,Pq Nm (inn k))(k:Nat):Pq Nm (chS L inn k):=by
 intro n k' h;unfold chS at h;cases hr:Zx L inn L.length k []with
 |inl e=>rw[hr]at h;cases h
 |inr q=>
  obtain⟨m,j⟩:=q;rw[hr]at h;have hm:=Of ht hi _ _ [] Uy Uf m j hr;exact z1q ht hi _ j [m] (by simp) (by rw[VkL];exact⟨hm.1,Uy⟩) (by rw[WfL];exact⟨hm.2,Uf⟩) n k' h
theorem z1s(ht:∀k,Vh Nm (gL L k)):∀(d k:Nat),Pq Nm (Zy L d k)
 |0,k=>fun n k' h=>by rw[Zy]at h;cases h
 |d+1,k=>fun n k' h=>by
  rw[Zy]at h;obtain⟨j,h1,_⟩:=Il h;exact z1r ht (z1s ht d) (k+1) n j h1
def Ruk(Nm:ByteArray->Prop)(x:Rl):Prop:=Nm x.1/\Vk x.2.1/\Wf Nm x.2.1
theorem z1t(ht:∀k,Vh Nm (gL L k)){ru k k':Nat}{x:Rl}(h:ruS L ru k=.inr (x,k')):Ruk Nm x:=by
 obtain⟨h1,h2⟩:=z0P h;have h3:=z1r ht (z1s ht 24) _ _ _ h1;refine⟨?_,h3.1,h3.2⟩;unfold ruS at h;split at h
 ·cases h
 ·rename_i c
  rw[h2];exact((ht k).1 (by simpa using c)).1
theorem z1u(ht:∀k,Vh Nm (gL L k)):∀(f k:Nat) (acc rs:List Rl),Zm L f k acc=.inr rs->(∀x∈acc,Ruk Nm x)->∀x∈rs,Ruk Nm x
 |0,_,_,_,h,_=>by rw[Zm]at h;cases h
 |f+1,k,acc,rs,h,ha=>by
  rw[Zm]at h;split at h
  ·simp only[Sum.inr.injEq]at h;subst h;exact ha
  ·split at h
   ·cases h
   ·rename_i x k' hr
    refine z1u ht f k' (acc++[x]) rs h (fun y hy=> ?_);rcases List.mem_append.1 hy with hy|hy
    ·exact ha y hy
    ·simp at hy
     subst hy;exact z1t ht hr
theorem z7P(ht:∀k,Vh Nm (gL L k)){rs:List Rl}(h:Vx L=.inr rs):∀x∈rs,Ruk Nm x:=by
 unfold Vx at h;cases hr:ruS L 0 0 with
 |inl c=>rw[hr]at h;cases h
 |inr q=>
  obtain⟨x,k'⟩:=q;rw[hr]at h;refine z1u ht _ _ _ _ h (fun y hy=> ?_);simp at hy;subst hy;exact z1t ht hr
end
end
section
def bO:ByteArray:={data:=#[40]}
def bC:ByteArray:={data:=#[41]}
def bSp:ByteArray:={data:=#[32]}
def bSl:ByteArray:={data:=#[32,47,32]}
def bAr:ByteArray:={data:=#[32,60,45,32]}
def bNl:ByteArray:={data:=#[10]}
def Mx:ByteArray:={data:=#[46]}
def bE:ByteArray:={data:=#[]}
def bsg(kd:Nat):ByteArray:=if kd=11 then{data:=#[38]}else if kd=12 then{data:=#[33]}else{data:=#[rpS kd]}
section
variable (QT:ByteArray->ByteArray) (CT:Nat->ByteArray)
mutual
def pN:Nd->List ByteArray
 | .mk kd T C s p=>if kd=1 then [bO,bC]else if kd=2 then [QT T]else if kd=3 then [CT C]else if kd=4 then [Mx]else if kd=5 then [T]else if kd=6 then pS 6 bSp s else if kd=7 then pS 7 bSl s
   else if kd=11∨kd=12 then bsg kd::pS kd bE s else pS kd bE s++[bsg kd]
def pS(over:Nat)(sep:ByteArray):List Nd->List ByteArray
 |[]=>[]
 |n::r=>(if wr over n.kd=true then bO::(pN n++[bC])else pN n)++pB over sep r
def pB(over:Nat)(sep:ByteArray):List Nd->List ByteArray
 |[]=>[]
 |n::r=>sep::((if wr over n.kd=true then bO::(pN n++[bC])else pN n)++pB over sep r)
end
def pP(over:Nat)(n:Nd):List ByteArray:=if wr over n.kd=true then bO::(pN QT CT n++[bC])else pN QT CT n
def pR:List Rl->List ByteArray
 |[]=>[]
 |x::r=>x.1::bAr::(pN QT CT x.2.1++(bNl::pR r))
end
def sz:List ByteArray->Nat
 |[]=>0
 |p::r=>p.size+sz r
theorem Xl:∀(a b:List ByteArray),sz (a++b)=sz a+sz b
 |[],b=>by rw[List.nil_append,sz,Nat.zero_add]
 |p::r,b=>by rw[List.cons_append,sz,sz,Xl r b,Nat.add_assoc]
def Pl(X:ByteArray)(a:Nat)(P:ByteArray):Prop:=a+P.size<=X.size/\∀i,i<P.size->bt X (a+i)=bt P i
def Rds(X:ByteArray)(a b:Nat)(K:List (Nat×ByteArray×Nat)):Prop:=∃ts:List Tok,ts.map tk3=K/\tks X (sb X a) []=Fh ts (tks X (sb X b) [])
section
variable {X:ByteArray}
theorem Rds.refl(a:Nat):Rds X a a []:=⟨[],rfl,(z7M _).symm⟩
theorem Rds.trans{a b c:Nat}{K M:List (Nat×ByteArray×Nat)}(h1:Rds X a b K)(h2:Rds X b c M):Rds X a c (K++M):=by
 obtain⟨t1,e1,f1⟩:=h1;obtain⟨t2,e2,f2⟩:=h2;refine⟨t1++t2,by rw[List.map_append,e1,e2],?_⟩;rw[f1,f2,z7C]
structure Pcs (Nm:ByteArray->Prop) (QT:ByteArray->ByteArray) (CT:Nat->ByteArray):Prop where
 nm:∀T,Nm T->T.size<=32/\(∃x,bt T 0=some x/\Zq x=true)/\∀i x,bt T i=some x->(Zq x||Jj x)=true
 qt:∀T X a,T.size<=255->Pl X a (QT T)->∃p,bt X a=some 39/\Yz X a 39=.inr ((3,T,0,p),a+(QT T).size)
 ct:∀C X a,C<2^256->Pl X a (CT C)->∃p,bt X a=some 91/\Yz X a 91=.inr ((4,{data:=#[]},C,p),a+(CT C).size)
variable {Nm:ByteArray->Prop} {QT:ByteArray->ByteArray} {CT:Nat->ByteArray}
theorem Fd(over:Nat)(sep:ByteArray)(n:Nd)(r:List Nd):pS QT CT over sep (n::r)=pP QT CT over n++pB QT CT over sep r:=by rw[pS];rfl
theorem Fm(over:Nat)(sep:ByteArray)(n:Nd)(r:List Nd):pB QT CT over sep (n::r)=sep::(pP QT CT over n++pB QT CT over sep r):=by rw[pB];rfl
theorem Og(over:Nat)(sep:ByteArray):pB QT CT over sep []=[]:=by rw[pB]
end
end
section
def cat:List ByteArray->ByteArray
 |[]=>{data:=#[]}
 |p::r=>p++cat r
theorem Ob:∀(ps:List ByteArray),(cat ps).size=sz ps
 |[]=>rfl
 |p::r=>by rw[cat,ByteArray.size_append,Ob r,sz]
theorem z1v:∀(A B:List ByteArray),cat (A++B)=cat A++cat B
 |[],B=>by
  rw[List.nil_append,cat];apply z1o;intro j;rw[z7D,if_neg (by show ¬j<0;omega)];rfl
 |p::r,B=>by rw[List.cons_append,cat,cat,z1v r B,ByteArray.append_assoc]
section
variable {Nm:ByteArray->Prop} {QT:ByteArray->ByteArray} {CT:Nat->ByteArray}
theorem Zf{p q:ByteArray}{x y:Nat}(h1:bt p 0=some x)(h2:bt q 0=some y)(h:x≠y):p≠q:=fun e=>by
 rw[e,h2]at h1;cases h1;exact h rfl
theorem z1w:bC≠bO:=Zf (x:=41) (y:=40) rfl rfl (by decide)
theorem Ck(kd:Nat):bsg kd≠bO/\bsg kd≠bC:=by
 unfold bsg rpS;split
 ·exact⟨Zf (x:=38) (y:=40) rfl rfl (by decide),Zf (x:=38) (y:=41) rfl rfl (by decide)⟩
 ·split
  ·exact⟨Zf (x:=33) (y:=40) rfl rfl (by decide),Zf (x:=33) (y:=41) rfl rfl (by decide)⟩
  ·split
   ·exact⟨Zf (x:=63) (y:=40) rfl rfl (by decide),Zf (x:=63) (y:=41) rfl rfl (by decide)⟩
   ·split
    ·exact⟨Zf (x:=42) (y:=40) rfl rfl (by decide),Zf (x:=42) (y:=41) rfl rfl (by decide)⟩
    ·exact⟨Zf (x:=43) (y:=40) rfl rfl (by decide),Zf (x:=43) (y:=41) rfl rfl (by decide)⟩
theorem Cy:bE≠bO/\bE≠bC:=⟨fun e=>by have:=congrArg ByteArray.size e;simp[bE,bO,ByteArray.size]at this,fun e=>by have:=congrArg ByteArray.size e;simp[bE,bC,ByteArray.size]at this⟩
theorem z1x:bSp≠bO/\bSp≠bC:=⟨Zf (x:=32) (y:=40) rfl rfl (by decide),Zf (x:=32) (y:=41) rfl rfl (by decide)⟩
theorem z1y:bSl≠bO/\bSl≠bC:=⟨Zf (x:=32) (y:=40) rfl rfl (by decide),Zf (x:=32) (y:=41) rfl rfl (by decide)⟩
theorem z1z(P:ByteArray):Pl P 0 P:=⟨by omega,fun i _=>by rw[Nat.zero_add]⟩
theorem z1A(hP:Pcs Nm QT CT){T:ByteArray}(h:Nm T):T≠bO/\T≠bC:=by
 obtain⟨_,⟨x,hx,hl⟩,_⟩:=hP.nm T h;have:x≠40/\x≠41:=by
  unfold Zq at hl;simp at hl;omega
 exact⟨Zf hx (y:=40) rfl this.1,Zf hx (y:=41) rfl this.2⟩
def dR:List Rl->Nat
 |[]=>0
 |x::r=>max (dN x.2.1) (dR r)
end
end
section
mutual
def eN:Nd->Bool
 | .mk kd T C s p=>decide (kd=1)||eL s
def eL:List Nd->Bool
 |[]=>false
 |n::r=>eN n||eL r
end
theorem Oh:∀(a b:List Nd),eL (a++b)=(eL a||eL b)
 |[],b=>by rw[List.nil_append,eL,Bool.false_or]
 |n::r,b=>by rw[List.cons_append,eL,eL,Oh r b,Bool.or_assoc]
theorem Od(over:Nat):∀(a b:List Nd),dS over (a++b)=max (dS over a) (dS over b)
 |[],b=>by rw[List.nil_append,dS,Nat.zero_max]
 |n::r,b=>by rw[List.cons_append,Uk,Uk,Od over r b,Nat.max_assoc]
theorem z1B(over:Nat)(n:Nd):dN n<=dP over n/\dP over n<=dN n+1:=by
 unfold dP;split<;>omega
theorem z7Q(n:Nd):dP 11 n<=dP 8 n:=by
 unfold dP;rw[Lg,wr8];by_cases h:n.kd=6∨n.kd=7∨n.kd=11∨n.kd=12
 ·rw[decide_eq_true h,decide_eq_true (show 6<=n.kd by omega)]
  exact Nat.le_refl _
 ·rw[decide_eq_false h]
  simp only[Bool.false_eq_true,if_false];split<;>omega
theorem z7R(n:Nd):dP 6 n<=dP 11 n:=by
 unfold dP;rw[Lg,wr6];by_cases h:n.kd=6∨n.kd=7
 ·rw[decide_eq_true h,decide_eq_true (show n.kd=6∨n.kd=7∨n.kd=11∨n.kd=12 by omega)]
  exact Nat.le_refl _
 ·rw[decide_eq_false h]
  simp only[Bool.false_eq_true,if_false];split<;>omega
theorem z7S(n:Nd):dP 7 n<=dP 6 n:=by
 unfold dP;rw[wr7,wr6];by_cases h:n.kd=7
 ·rw[decide_eq_true h,decide_eq_true (show n.kd=6∨n.kd=7 from .inr h)]
  exact Nat.le_refl _
 ·rw[decide_eq_false h]
  simp only[Bool.false_eq_true,if_false];split<;>omega
def Dq(g:Nd->Nat)(d:Nat)(r:Pr):Prop:=∀n k,r=.inr (n,k)->eN n=false->g n<=d
section
variable {L:List Tok}
theorem Cf{kd:Nat}{T:ByteArray}{C p:Nat}(h:kd=2∨kd=3∨kd=4∨kd=5)(d:Nat):dP 8 (.mk kd T C [] p)<=d:=by
 unfold dP;rw[wr8];show(if decide (6<=kd)=true then _ else _)<=d;rw[decide_eq_false (by omega)];simp only[Bool.false_eq_true,if_false];rw[dN,if_neg (by omega),dS];exact Nat.zero_le _
theorem Om{inn:Nat->Pr}{d:Nat}(hi:∀k,Dq (dP 8) d (inn k))(k:Nat):Dq (dP 8) d (Vb L inn k):=by
 intro n k' h he;unfold Vb at h;split at h
 ·simp only[Sum.inr.injEq,Prod.mk.injEq]at h
  rw[<-h.1];exact Cf (by omega) d
 ·split at h
  ·simp only[Sum.inr.injEq,Prod.mk.injEq]at h
   rw[<-h.1];exact Cf (by omega) d
  ·split at h
   ·simp only[Sum.inr.injEq,Prod.mk.injEq]at h
    rw[<-h.1];exact Cf (by omega) d
   ·split at h
    ·simp only[Sum.inr.injEq,Prod.mk.injEq]at h
     rw[<-h.1];exact Cf (by omega) d
    ·split at h
     ·exact hi k n k' h he
     ·cases h
theorem z7T{T:ByteArray}(h:rpK T≠0):rpK T=8∨rpK T=9∨rpK T=10:=by
 unfold rpK at h ⊢;split
 ·exact .inl rfl
 ·split
  ·exact .inr (.inl rfl)
  ·split
   ·exact .inr (.inr rfl)
   ·rename_i h1 h2 h3
    rw[if_neg h1,if_neg h2,if_neg h3]at h;exact absurd rfl h
theorem z1C{kd:Nat}{T:ByteArray}{C p:Nat}{m:Nd}(h:eN (.mk kd T C [m] p)=false):eN m=false:=by
 rw[eN,eL,eL]at h;simp at h;exact h.2
theorem Oc{d:Nat}{r:Pr}(hr:Dq (dP 8) d r):Dq (dP 11) d (Uh L r):=by
 intro n k' h he;cases r with
 |inl e=>cases h
 |inr q=>
  obtain⟨m,j⟩:=q;unfold Uh at h;simp only at h;split at h
  ·simp only[Sum.inr.injEq,Prod.mk.injEq]at h
   obtain⟨rfl,rfl⟩:=h;have:=hr m j rfl he;have:=z7Q m;omega
  ·rename_i hs
   have hk:=z7T hs;simp only[Sum.inr.injEq,Prod.mk.injEq]at h;obtain⟨rfl,_⟩:=h;have h1:=hr m j rfl (z1C he);unfold dP;rw[Lg];show(if decide (rpK (sgT (gL L j))=6∨rpK (sgT (gL L j))=7∨rpK (sgT (gL L j))=11∨rpK (sgT (gL L j))=12)=true then _ else _)<=d;rw[decide_eq_false (by omega)];simp only[Bool.false_eq_true,if_false];rw[(z7e hk).2];exact h1
theorem z7U{inn:Nat->Pr}{d:Nat}(hi:∀k,Dq (dP 8) d (inn k))(k:Nat):Dq (dP 6) d (Vq L inn k):=by
 have ov:∀(kd p:Nat) (r:Pr),(kd=11∨kd=12)->Dq (dP 11) d r->Dq (dP 6) d (ovS kd p r):=fun kd p r hk hr n k' h he=>by
  cases r with
  |inl e=>cases h
  |inr q=>
   obtain⟨m,j⟩:=q;simp only[ovS,Sum.inr.injEq,Prod.mk.injEq]at h;obtain⟨rfl,_⟩:=h;have h1:=hr m j rfl (z1C he);unfold dP;rw[wr6];show(if decide (kd=6∨kd=7)=true then _ else _)<=d;rw[decide_eq_false (by omega)];simp only[Bool.false_eq_true,if_false];rw[(z7f hk).2];exact h1
 unfold Vq;split
 ·exact ov 12 _ _ (.inr rfl) (Oc (Om hi _))
 ·split
  ·exact ov 11 _ _ (.inl rfl) (Oc (Om hi _))
  ·intro n k' h he
   have h1:=Oc (Om hi _) n k' h he;have:=z7R n;omega
theorem z1D{kd:Nat}:∀{l:List Nd},l≠[]->kd≠1->eN (Yy kd l)=eL l
 |[],h,_=>absurd rfl h
 |[n],_,_=>by rw[Yy,eL,eL,Bool.or_false]
 |n::m::r,_,h=>by
  show eN (.mk kd _ 0 (n::m::r) n.at')=_;rw[eN,decide_eq_false h,Bool.false_or]
theorem Ol{inn:Nat->Pr}{d:Nat}(hi:∀k,Dq (dP 8) d (inn k)):∀(f k:Nat) (acc:List Nd),(eL acc=false->dS 6 acc<=d)->Dq (dP 7) d (Zx L inn f k acc)
 |0,_,_,_=>fun n k' h _=>by rw[Zx]at h;cases h
 |f+1,k,acc,ha=>fun n k' h he=>by
  rw[Zx]at h;split at h
  ·split at h
   ·cases h
   ·rename_i m j hp
    refine Ol hi f j (acc++[m]) (fun hel=> ?_) n k' h he;rw[Oh,eL,eL,Bool.or_false]at hel;simp at hel;have h1:=ha hel.1;have h2:=z7U hi k m j hp hel.2;rw[Od,Uk,dS];omega
  ·split at h
   ·simp only[Sum.inr.injEq,Prod.mk.injEq]at h
    rw[<-h.1,eN]at he;simp at he
   ·rename_i hne
    simp only[Sum.inr.injEq,Prod.mk.injEq]at h;obtain⟨rfl,_⟩:=h;have hn:acc≠[]:=fun e=>hne (by rw[e];rfl)
    rw[z1D hn (by decide)]at he;have h1:=ha he
    match acc,hn with
    |[n],_=>
     rw[Uk,dS]at h1;have:=z7S n;show dP 7 n<=d;omega
    |n::m::r,_=>
     show dP 7 (.mk 6 _ 0 (n::m::r) n.at')<=d;rw[(z7d (n:=.mk 6 _ 0 (n::m::r) n.at') (by show(6:Nat)≠7;decide)).2,dN,if_neg (by decide)];exact h1
theorem z1E{inn:Nat->Pr}{d:Nat}(hi:∀k,Dq (dP 8) d (inn k)):∀(f k:Nat) (acc:List Nd),acc≠[]->(eL acc=false->dS 7 acc<=d)->Dq dN d (Zd L inn f k acc)
 |0,_,_,_,_=>fun n k' h _=>by rw[Zd]at h;cases h
 |f+1,k,acc,hn,ha=>fun n k' h he=>by
  rw[Zd]at h;split at h
  ·split at h
   ·cases h
   ·rename_i m j hp
    refine z1E hi f j (acc++[m]) (by simp) (fun hel=> ?_) n k' h he;rw[Oh,eL,eL,Bool.or_false]at hel;simp at hel;have h1:=ha hel.1;have h2:=Ol hi _ _ [] (fun _=>by rw[dS];exact Nat.zero_le _) m j hp hel.2;rw[Od,Uk,dS];omega
  ·simp only[Sum.inr.injEq,Prod.mk.injEq]at h
   obtain⟨rfl,_⟩:=h;rw[z1D hn (by decide)]at he;have h1:=ha he
   match acc,hn with
   |[n],_=>
    rw[Uk,dS]at h1;have:=(z1B 7 n).1;show dN n<=d;omega
   |n::m::r,_=>
    show dN (.mk 7 _ 0 (n::m::r) n.at')<=d;rw[dN,if_neg (by decide)];exact h1
theorem z1F{inn:Nat->Pr}{d:Nat}(hi:∀k,Dq (dP 8) d (inn k))(k:Nat):Dq dN d (chS L inn k):=by
 intro n k' h he;unfold chS at h;cases hr:Zx L inn L.length k []with
 |inl e=>rw[hr]at h;cases h
 |inr q=>
  obtain⟨m,j⟩:=q;rw[hr]at h;refine z1E hi _ j [m] (by simp) (fun hel=> ?_) n k' h he;rw[eL,eL,Bool.or_false]at hel;have h1:=Ol hi _ _ [] (fun _=>by rw[dS];exact Nat.zero_le _) m j hr hel;rw[Uk,dS];omega
theorem z1G:∀(d k:Nat),Dq (dP 8) d (Zy L d k)
 |0,k=>fun n k' h _=>by rw[Zy]at h;cases h
 |d+1,k=>fun n k' h he=>by
  rw[Zy]at h;obtain⟨j,h1,_⟩:=Il h;have:=z1F (z1G d) (k+1) n j h1 he;have:=(z1B 8 n).2;omega
theorem z1H{ru k k':Nat}{x:Rl}(h:ruS L ru k=.inr (x,k'))(he:eN x.2.1=false):dN x.2.1<=24:=
 z1F (z1G 24) (k+2) _ _ (z0P h).1 he
theorem z1I:∀(f k:Nat) (acc rs:List Rl),Zm L f k acc=.inr rs->(∀x∈acc,eN x.2.1=false->dN x.2.1<=24)->∀x∈rs,eN x.2.1=false->dN x.2.1<=24
 |0,_,_,_,h,_=>by rw[Zm]at h;cases h
 |f+1,k,acc,rs,h,ha=>by
  rw[Zm]at h;split at h
  ·simp only[Sum.inr.injEq]at h;subst h;exact ha
  ·split at h
   ·cases h
   ·rename_i x k' hr
    refine z1I f k' (acc++[x]) rs h (fun y hy hey=> ?_);rcases List.mem_append.1 hy with hy|hy
    ·exact ha y hy hey
    ·simp at hy
     subst hy;exact z1H hr hey
theorem z7V{rs:List Rl}(h:Vx L=.inr rs):∀x∈rs,eN x.2.1=false->dN x.2.1<=24:=by
 unfold Vx at h;cases hr:ruS L 0 0 with
 |inl c=>rw[hr]at h;cases h
 |inr q=>
  obtain⟨x,k'⟩:=q;rw[hr]at h;refine z1I _ _ _ _ h (fun y hy hey=> ?_);simp at hy;subst hy;exact z1H hr hey
end
end
end Go.Proofs.YtlogolpcipiceaaGreatDoor
