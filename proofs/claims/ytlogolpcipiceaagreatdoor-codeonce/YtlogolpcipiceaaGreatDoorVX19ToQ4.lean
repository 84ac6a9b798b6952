/- Lemmas for the last text. Conditions: those that each names. -/
import Derived.Test.YtlogolpcipiceaaGreatDoorVX10ToY2
import Derived.Laws.Strings
import Derived.WideShapes
import Derived.Test.YtlogolpcipiceaaGreatDoorVX17ToQ1
import Derived.Test.YtlogolpcipiceaaGreatDoorVQ2ToQ3
set_option linter.unusedVariables false
namespace Go.Proofs.YtlogolpcipiceaaGreatDoor
open Go.Proofs.Tryz
open Go.RowKit
variable {S:ByteArray} {k x:Nat}
def Fh(acc:List Tok)(r:Tr):Tr:=match r with
 | .inl c=>.inl c
 | .inr l=>.inr (acc++l)
theorem z7C(a b:List Tok)(r:Tr):Fh a (Fh b r)=Fh (a++b) r:=by
 cases r<;>simp[Fh]
theorem z1b{l:List Tok}(h:tkS S=.inr l):∃m,tks S (sb S 0) []=.inr m/\l=m++[(6,{data:=#[]},0,S.size)]:=by
 unfold tkS at h;cases hm:tks S (sb S 0) []with
 |inl c=>rw[hm]at h;cases h
 |inr m=>rw[hm]at h;simp[tkE]at h;exact⟨m,rfl,h.symm⟩
theorem Lc(S:ByteArray):∀f k:Nat,S.size-k=f->k<=S.size->(ne S k=S.size↔∀i x,k<=i->bt S i=some x->(Zq x||Jj x)=true)
 |0,k,hf,hk=>by
  have:k=S.size:=by omega
  rw[z0a (Uz (by omega))];refine⟨fun _ i x hi hx=> ?_,fun _=>this⟩;have:=(Qh hx).1;omega
 |f+1,k,hf,hk=>by
  cases hb:bt S k with
  |none=>have:=Xv hb;omega
  |some y=>
   rw[Fg hb];cases hy:(Zq y||Jj y)with
   |false=>
    simp only[Bool.false_eq_true,if_false];refine⟨fun e=>by have:=(Qh hb).1;omega,fun h=> ?_⟩;have:=h k y L0q hb;rw[hy]at this;cases this
   |true=>
    simp only[if_true];rw[Lc S f (k+1) (by omega) (by omega)];refine⟨fun h i x hi hx=> ?_,fun h i x hi hx=>h i x (by omega) hx⟩;rcases Nat.lt_or_ge k i with h1|h1
    ·exact h i x (by omega) hx
    ·obtain rfl:i=k:=by omega
     rw[hb]at hx;cases hx;exact hy
theorem z7D(S T:ByteArray)(i:Nat):bt (S++T) i=if i<S.size then bt S i else bt T (i-S.size):=by
 unfold bt;by_cases h:i<S.size
 ·rw[if_pos h,dif_pos h,dif_pos (by rw[ByteArray.size_append];omega),ByteArray.getElem_append_left h]
 ·rw[if_neg h]
  by_cases h2:i<(S++T).size
  ·have h3:=h2
   rw[ByteArray.size_append]at h3;rw[dif_pos h2,dif_pos (by omega),ByteArray.getElem_append_right (by omega)]
  ·have h3:=h2
   rw[ByteArray.size_append]at h3;rw[dif_neg h2,dif_neg (by omega)]
theorem Ll:∀d,d<16->dgv (Xf d)=some d:=by decide+kernel
def Hr(S:ByteArray)(k:Nat)(l:List Nat):Prop:=∀j x,l[j]? =some x->bt S (k+j)=some x
theorem z7E{b:Nat}(hb:b<256)(h:Hr S k (lq b)):lsg S k=.inr (b,k+(lq b).length)/\¬bt S k=some 39:=by
 have p92:plB 92=true:=rfl;unfold lq at h ⊢;split at h
 ·rename_i e;subst e
  have a0:=h 0 92 rfl;have a1:=h 1 110 rfl;simp only[Nat.add_zero]at a0;refine⟨?_,by rw[a0];simp⟩;unfold lsg Uq;rw[a0];simp[a1,Yv,p92]
 ·rename_i h1
  split at h
  ·rename_i e;subst e
   have a0:=h 0 92 rfl;have a1:=h 1 114 rfl;simp only[Nat.add_zero]at a0;refine⟨?_,by rw[a0];simp⟩;unfold lsg Uq;rw[a0];simp[a1,Yv,p92]
  ·rename_i h2
   split at h
   ·rename_i e;subst e
    have a0:=h 0 92 rfl;have a1:=h 1 116 rfl;simp only[Nat.add_zero]at a0;refine⟨?_,by rw[a0];simp⟩;unfold lsg Uq;rw[a0];simp[a1,Yv,p92]
   ·rename_i h3
    split at h
    ·rename_i hm
     have a0:=h 0 92 rfl;have a1:=h 1 b rfl;simp only[Nat.add_zero]at a0;refine⟨?_,by rw[a0];simp⟩;have hv:Yv b=some b:=by
      unfold Yv;rw[if_neg (by omega),if_neg (by omega),if_neg (by omega),if_pos (by omega)]
     unfold lsg Uq;rw[a0];simp[a1,hv,p92,hm,h1,h2,h3]
    ·rename_i hm
     split at h
     ·rename_i hp
      have a0:=h 0 b rfl;simp only[Nat.add_zero]at a0;refine⟨?_,by rw[a0];simp;omega⟩;unfold lsg;rw[a0];simp[hp,h1,h2,h3,hm];omega
     ·rename_i hp
      have a0:=h 0 92 rfl;have a1:=h 1 120 rfl;have a2:=h 2 _ rfl;have a3:=h 3 _ rfl;simp only[Nat.add_zero]at a0;refine⟨?_,by rw[a0];simp⟩;have d1:dg S (k+2)=some (b/16):=by unfold dg;rw[a2];exact Ll _ (by omega)
      have d2:dg S (k+3)=some (b%16):=by unfold dg;rw[a3];exact Ll _ (by omega)
      have hd:digs S (k+1+1)=.inr (b,k+4):=by
       unfold digs;rw[show k+1+1=k+2 by omega,d1];simp only;rw[show k+2+1=k+3 by omega,d2];simp only;rw[show 16*(b/16)+b%16=b by omega]
      have hv:Yv 120=none:=rfl;unfold lsg Uq;rw[a0];simp[a1,hv,p92,hp,h1,h2,h3,hm,hd]
def bp(S:ByteArray):Nat->List Nat
 |0=>[]
 |k+1=>bp S k++(match bt S k with|some x=>[x]|none=>[])
theorem Oz(h:bt S k=some x):bp S (k+1)=bp S k++[x]:=by rw[bp,h]
theorem z1c(S:ByteArray):∀k,k<=S.size->(bp S k).length=k
 |0,_=>rfl
 |k+1,h=>by
  cases hb:bt S k with
  |none=>have:=Xv hb;omega
  |some x=>rw[Oz hb,List.length_append,z1c S k (by omega)];rfl
theorem z1d(S:ByteArray):∀k,k<=S.size->(bp S k).map UInt8.ofNat=S.data.toList.take k
 |0,_=>by simp[bp]
 |k+1,h=>by
  cases hb:bt S k with
  |none=>have:=Xv hb;omega
  |some x=>
   obtain⟨hk,hx⟩:=Xk hb;have hk2:k<S.data.toList.length:=by rw[Array.length_toList];exact hk
   have h1:UInt8.ofNat x=S.data.toList[k]:=by
    rw[<-hx];apply UInt8.toNat.inj;have:=(Qh hb).2;simp;rfl
   rw[Oz hb,List.map_append,z1d S k (by omega),List.take_succ_eq_append_getElem hk2];simp[h1]
theorem z7F(S:ByteArray):nb (bp S S.size)=S:=by
 apply ByteArray.ext;unfold nb;simp only;rw[z1d S S.size L0q];apply Array.toList_inj.1;simp only;exact List.take_of_length_le (by rw[Array.length_toList];exact Nat.le_refl _)
theorem Cx(l:List Nat)(h:∀x∈l,x<256)(i:Nat):bt (nb l) i=l[i]? :=by
 unfold bt;by_cases hi:i<(nb l).size
 ·rw[dif_pos hi]
  rw[Yc]at hi;rw[List.getElem?_eq_getElem hi];have:=h _ (List.getElem_mem hi);show some (((nb l).data[i]).toNat)=_;simp[nb];omega
 ·rw[dif_neg hi]
  rw[Yc]at hi;rw[List.getElem?_eq_none (by omega)]
theorem Oq(P:ByteArray):∀f k:Nat,P.size-k=f->k<=P.size->∃r,qt P=qp P k++r
 |0,k,hf,hk=>by
  obtain rfl:k=P.size:=by omega
  exact⟨[39],rfl⟩
 |f+1,k,hf,hk=>by
  obtain⟨r,hr⟩:=Oq P f (k+1) (by omega) (by omega);cases hb:bt P k with
  |none=>have:=Xv hb;omega
  |some x=>rw[Bp hb]at hr;exact⟨lq x++r,by rw[hr,List.append_assoc]⟩
theorem z7G{P:ByteArray}(h:bt P k=some x):Hr (nb (qt P)) (qp P k).length (lq x):=by
 have hk:=(Qh h).1;obtain⟨r,hr⟩:=Oq P _ (k+1) rfl (by omega);rw[Bp h,List.append_assoc]at hr;intro j y hj;rw[Cx _ (Bc P),hr,List.getElem?_append_right (by omega),Nat.add_sub_cancel_left];have hjl:j<(lq x).length:=by
  rcases Nat.lt_or_ge j (lq x).length with h1|h1
  ·exact h1
  ·rw[List.getElem?_eq_none h1]at hj;cases hj
 rw[List.getElem?_append_left hjl];exact hj
theorem z1e(P:ByteArray):∀f k:Nat,P.size-k=f->k<=P.size->k<=255->
  ll (nb (qt P)) 39 0 (qp P k).length (bp P k)=if P.size<=255 then .inr (bp P P.size,(nb (qt P)).size)else .inl (2,0)
 |0,k,hf,hk,h5=>by
  obtain rfl:k=P.size:=by omega
  have hb:bt (nb (qt P)) (qp P P.size).length=some 39:=by
   rw[Cx _ (Bc P)];unfold qt;rw[List.getElem?_append_right L0q,Nat.sub_self];rfl
  rw[Iq hb,if_pos (by omega),Yc];unfold qt;rw[List.length_append];rfl
 |f+1,k,hf,hk,h5=>by
  cases hb:bt P k with
  |none=>have:=Xv hb;omega
  |some x=>
   obtain⟨hs,hq⟩:=z7E (Qh hb).2 (z7G hb);have hlen:=z1c P k hk;by_cases h6:k=255
   ·rw[Wl hq hs (by omega),if_neg (by omega)]
   ·rw[Ix hq hs (by omega),<-Oz hb,<-List.length_append,<-Bp hb]
    exact z1e P f (k+1) (by omega) (by omega) (by omega)
theorem z7H(l:List Nat)(hl:∀x∈l,x<256)(k x:Nat)(h:l[k]? =some x):At (nb l) k x:=by
 obtain⟨hk,e⟩:=List.getElem?_eq_some_iff.1 h;refine⟨by rw[Yc];exact hk,?_⟩;have hx:=hl x (by rw[<-e];exact List.getElem_mem hk);have hg:(nb l)[k]'(by rw[Yc];exact hk)=UInt8.ofNat x:=by
  rw[ByteArray.getElem_eq_getElem_data];simp[nb,e]
 rw[hg];simp;omega
theorem z7I(b:Nat):(∃t,sgn b=92::t/\t≠[])∨(sgn b=[b]/\mark b=false/\32<=b/\b<=126):=by
 unfold sgn;split
 ·exact .inl ⟨_,rfl,by simp⟩
 ·split
  ·exact .inl ⟨_,rfl,by simp⟩
  ·split
   ·exact .inl ⟨_,rfl,by simp⟩
   ·split
    ·exact .inl ⟨_,rfl,by simp⟩
    ·rename_i hm
     split
     ·rename_i hp
      exact .inr ⟨rfl,by simpa using hm,hp.1,hp.2⟩
     ·exact .inl ⟨_,rfl,by simp⟩
def Yg(S:ByteArray)(k:Nat)(l:List Nat):Prop:=∀j x,l[j]? =some x->At S (k+j) x
theorem Yg.left{a b:List Nat}(h:Yg S k (a++b)):Yg S k a:=fun j x hj=>h j x (by
 rw[List.getElem?_append_left (List.getElem?_eq_some_iff.1 hj).1];exact hj)
theorem Yg.right{a b:List Nat}(h:Yg S k (a++b)):Yg S (k+a.length) b:=fun j x hj=>by
 have:=h (a.length+j) x (by rw[List.getElem?_append_right (by omega),show a.length+j-a.length=j by omega];exact hj);rw[<-Nat.add_assoc]at this;exact this
theorem Yg.head{l:List Nat}(h:Yg S k (x::l)):At S k x:=h 0 x rfl
def its:List (Nat×Nat)->List (Nat×Nat)
 |[]=>[]
 |p::t=>(if p.2=p.1+1 then [(p.1,p.1),(p.2,p.2)]else [p])++its t
def Um(p:Nat×Nat):List Nat:=if p.1=p.2 then sgn p.1 else sgn p.1++([45]++sgn p.2)
def Xx:List (Nat×Nat)->List Nat
 |[]=>[]
 |p::t=>Um p++Xx t
theorem z1f:∀(a b:List (Nat×Nat)),Xx (a++b)=Xx a++Xx b
 |[],b=>rfl
 |p::t,b=>by simp only[List.cons_append,Xx,z1f t b,List.append_assoc]
theorem z1g:∀(L:List (Nat×Nat)),(∀p∈L,p.1<=p.2)->Qg L=Xx (its L)
 |[],_=>rfl
 |p::t,h=>by
  have hp:=h p (List.mem_cons_self ..);rw[Qg,its,z1f,z1g t (fun q hq=>h q (List.mem_cons_of_mem _ hq))];congr 1;unfold Yf;by_cases h1:p.2=p.1+1
  ·rw[if_pos h1,if_neg (by omega),if_pos (by omega)]
   simp[Xx,Um]
  ·rw[if_neg h1]
   by_cases h2:p.1=p.2
   ·rw[if_neg (by omega),if_neg (by omega)]
    simp[Xx,Um,h2]
   ·rw[if_pos (by omega),if_pos (by omega)]
    simp[Xx,Um,h2]
def uo:List (Nat×Nat)->Nat
 |[]=>0
 |p::t=>seg p.1 (p.2+1)|||uo t
theorem Ok:∀(a b:List (Nat×Nat)),uo (a++b)=uo a|||uo b
 |[],b=>by simp[uo]
 |p::t,b=>by simp only[List.cons_append,uo,Ok t b,Nat.or_assoc]
theorem z1h:∀(Q:List (Nat×Nat)),uo Q.reverse=un Q
 |[]=>rfl
 |p::t=>by rw[List.reverse_cons,Ok,z1h t,un];simp[uo]
theorem z7J(a:Nat):seg a (a+1+1)=seg a (a+1)|||seg (a+1) (a+1+1):=by
 apply Nat.eq_of_testBit_eq;intro j;rw[Nat.testBit_or,Fx,Fx,Fx];by_cases h1:a<=j<;>by_cases h2:j<a+1<;>by_cases h3:a+1<=j<;>by_cases h4:j<a+1+1<;>simp[h1,h2,h3,h4]<;>omega
theorem z1i:∀(L:List (Nat×Nat)),uo (its L)=uo L
 |[]=>rfl
 |p::t=>by
  rw[its,Ok,z1i t,uo];congr 1;by_cases h1:p.2=p.1+1
  ·rw[if_pos h1,h1,z7J];simp[uo]
  ·rw[if_neg h1];simp[uo]
theorem z1j:∀(L:List (Nat×Nat)),(∀p∈L,p.1<=p.2/\p.2<256)->∀p∈its L,p.1<=p.2/\p.2<256
 |[],_,p,hp=>by simp[its]at hp
 |q::t,h,p,hp=>by
  have hq:=h q (List.mem_cons_self ..);rw[its,List.mem_append]at hp;rcases hp with hp|hp
  ·split at hp
   ·simp at hp;rcases hp with rfl|rfl<;>simp<;>omega
   ·simp at hp;subst hp;exact hq
  ·exact z1j t (fun r hr=>h r (List.mem_cons_of_mem _ hr)) p hp
theorem z1k(p:Nat×Nat):∃y t,Um p=y::t/\(y == 45)=false/\(y == 94)=false/\(y == 93)=false:=by
 have:∃t,Um p=sgn p.1++t:=by
  unfold Um;split
  ·exact⟨[],by simp⟩
  ·exact⟨_,rfl⟩
 obtain⟨t,ht⟩:=this;rcases z7I p.1 with⟨u,hu,_⟩|⟨hu,hm,_,_⟩
 ·exact⟨92,u++t,by rw[ht,hu];rfl,rfl,rfl,rfl⟩
 ·unfold mark at hm
  simp at hm;exact⟨p.1,t,by rw[ht,hu];rfl,by simp;omega,by simp;omega,by simp;omega⟩
theorem z1l(I:List (Nat×Nat)):∃y t,Xx I++[93]=y::t/\(y == 45)=false/\(y == 94)=false:=by
 cases I with
 |nil=>exact⟨93,[],rfl,rfl,rfl⟩
 |cons p t=>
  obtain⟨y,u,hu,h1,h2,h3⟩:=z1k p;exact⟨y,u++Xx t++[93],by rw[Xx,hu];simp,h1,h2⟩
theorem z1m{d:Nat}(hd:d<16)(h:At S k (Xf d)):dg S k=some d:=by
 unfold dg;rw[Xp h];exact Ll d hd
theorem Ov{b:Nat}(hb:b<256)(h:Yg S k (sgn b)):sg S k=.inr (b,k+(sgn b).length):=by
 unfold sgn at h ⊢;split at h
 ·rename_i e;subst e
  have a0:=Xp (h 0 92 rfl);have a1:=Xp (h 1 110 rfl);simp only[Nat.add_zero]at a0;unfold sg esc;rw[a0];simp[a1,Jd]
 ·rename_i h1
  split at h
  ·rename_i e;subst e
   have a0:=Xp (h 0 92 rfl);have a1:=Xp (h 1 114 rfl);simp only[Nat.add_zero]at a0;unfold sg esc;rw[a0];simp[a1,Jd]
  ·rename_i h2
   split at h
   ·rename_i e;subst e
    have a0:=Xp (h 0 92 rfl);have a1:=Xp (h 1 116 rfl);simp only[Nat.add_zero]at a0;unfold sg esc;rw[a0];simp[a1,Jd]
   ·rename_i h3
    split at h
    ·rename_i hm
     have a0:=Xp (h 0 92 rfl);have a1:=Xp (h 1 b rfl);simp only[Nat.add_zero]at a0;have hn:b≠110/\b≠114/\b≠116:=by
      unfold mark at hm;simp at hm;omega
     rw[if_neg h1,if_neg h2,if_neg h3,if_pos hm];unfold sg esc;rw[a0];simp[a1,Jd,hn.1,hn.2.1,hn.2.2,hm]
    ·rename_i hm
     split at h
     ·rename_i hp
      have a0:=Xp (h 0 b rfl);simp only[Nat.add_zero]at a0;have hmf:mark b=false:=by simpa using hm
      have hn:b≠92:=by intro e;subst e;simp[mark]at hmf
      rw[if_neg h1,if_neg h2,if_neg h3,if_neg hm,if_pos hp];unfold sg;rw[a0];simp[hn,Wj,hmf,hp.1,hp.2]
     ·rename_i hp
      have a0:=Xp (h 0 92 rfl);have a1:=Xp (h 1 120 rfl);have a2:=z1m (by omega) (h 2 _ rfl);have a3:=z1m (by omega) (h 3 _ rfl);simp only[Nat.add_zero]at a0;rw[if_neg h1,if_neg h2,if_neg h3,if_neg hm,if_neg hp];unfold sg esc;rw[a0];have hm120:mark 120=false:=rfl;simp only[if_true,a1,Jd,hm120];unfold digs;rw[show k+1+1=k+2 from rfl,a2,show k+2+1=k+3 from rfl,a3];simp;omega
theorem z7K{y:Nat}{p:Nat×Nat}{t:List Nat}(h1:p.1<=p.2)(h2:p.2<256)(hy:(y == 45)=false)(h:Yg S k (Um p++(y::t))):mbr S k=.inr (seg p.1 (p.2+1),k+(Um p).length):=by
 have hl:=h.left;have hr:=h.right;unfold Um at hl hr ⊢;by_cases e:p.1=p.2
 ·rw[if_pos e]at hl hr ⊢
  unfold mbr;rw[Ov (by omega) hl];have hb:=Xp hr.head;simp only;rw[hb,if_neg (by simpa using hy),<-e]
 ·rw[if_neg e]at hl ⊢
  have hl1:=hl.left;have hl2:=hl.right;have hb:=Xp hl2.head;have hl3:Yg S (k+(sgn p.1).length+1) (sgn p.2):=hl2.right;unfold mbr;rw[Ov (by omega) hl1];simp only;rw[hb,if_pos rfl,Ov h2 hl3];simp only;rw[if_neg (by omega)];simp;omega
theorem z1n{S:ByteArray}:∀(I:List (Nat×Nat)) (k acc:Nat),(∀p∈I,p.1<=p.2/\p.2<256)->Yg S k (Xx I++[93])->mm S k acc=.inr (acc|||uo I,k+(Xx I).length+1)
 |[],k,acc,_,h=>by
  rw[z5x (Xp h.head)];simp[uo,Xx]
 |p::t,k,acc,hI,h=>by
  obtain⟨y,u,hyu,hy,_⟩:=z1l t;have hp:=hI p (List.mem_cons_self ..);have h':Yg S k (Um p++(Xx t++[93])):=by rw[<-List.append_assoc];exact h
  have hr:=h'.right;rw[hyu]at h';have hm:=z7K hp.1 hp.2 hy h';obtain⟨z,v,hz,_,_,hz3⟩:=z1k p;have h93:¬bt S k=some 93:=by
   have h2:=h;rw[Xx,hz]at h2;rw[Xp h2.head];simpa using hz3
  rw[z5y h93 hm,z1n t _ _ (fun q hq=>hI q (List.mem_cons_of_mem _ hq)) hr];simp only[uo,Xx,List.length_append,Nat.or_assoc];simp;omega
theorem z7L{I:List (Nat×Nat)}(hI:∀p∈I,p.1<=p.2/\p.2<256)(h:Yg S 0 ([91]++(Xx I++[93]))):Gk S=.inr (uo I,1+(Xx I).length+1):=by
 have h1:Yg S 1 (Xx I++[93]):=h.right;obtain⟨y,u,hyu,_,hy⟩:=z1l I;have h94:¬bt S 1=some 94:=by
  have h2:=h1;rw[hyu]at h2;rw[Xp h2.head];simpa using hy
 unfold Gk;rw[if_pos (Xp h.head),if_neg h94,z1n I 1 0 hI h1];simp
end Go.Proofs.YtlogolpcipiceaaGreatDoor
