/- Lemmas for the last text. Conditions: those that each names. -/
import Derived.Test.YtikfnaffiehpaaaGreatDoorVEAs2ToX16
import Derived.Laws.Strings
import Derived.WideShapes
import Derived.Test.YtikfnaffiehpaaaGreatDoorVP2ToX17
import Derived.Test.YtikfnaffiehpaaaGreatDoorVQ3
set_option linter.unusedVariables false
namespace Go.Proofs.YtikfnaffiehpaaaGreatDoor
open Go.Proofs.Tryz
open Go.RowKit
variable {k x:Nat} {S:ByteArray}
def Ul(acc:List Tok)(r:Tr):Tr:=match r with
 | .inl c=>.inl c
 | .inr l=>.inr (acc++l)
theorem z2c(a b:List Tok)(r:Tr):Ul a (Ul b r)=Ul (a++b) r:=by
 cases r<;>simp[Ul]
theorem Ty(S:ByteArray):∀(f k:Nat) (acc:List Tok),tkl S f k acc=Ul acc (tkl S f k [])
 |0,k,acc=>by simp[tkl,Ul]
 |f+1,k,acc=>by
  rw[tkl,tkl];cases bt S k with
  |none=>simp[Ul]
  |some x=>
   simp only;cases Zp S k x with
   |inl b=>rfl
   |inr r=>
    obtain⟨t,n⟩:=r;simp only[List.nil_append];rw[Ty S f (sb S n) (acc++[t]),Ty S f (sb S n) [t],z2c]
theorem z7v(S:ByteArray)(k:Nat)(acc:List Tok):tks S k acc=Ul acc (tks S k []):=Ty S _ k acc
theorem z7w(h:Qy x=true):blB x=false/\x≠35:=by
 unfold Qy at h;unfold blB;simp at h;refine⟨?_,by omega⟩;simp;omega
theorem z2d{l:List Tok}(h:tkS S=.inr l):∃m,tks S (sb S 0) []=.inr m/\l=m++[(6,{data:=#[]},0,S.size)]:=by
 unfold tkS at h;cases hm:tks S (sb S 0) []with
 |inl c=>rw[hm]at h;cases h
 |inr m=>rw[hm]at h;simp[tkE]at h;exact⟨m,rfl,h.symm⟩
theorem Tf(S:ByteArray):∀f k:Nat,S.size-k=f->k<=S.size->(ne S k=S.size↔∀i x,k<=i->bt S i=some x->(Qy x||Xg x)=true)
 |0,k,hf,hk=>by
  have:k=S.size:=by omega
  rw[Iq (Vw (by omega))];refine⟨fun _ i x hi hx=> ?_,fun _=>this⟩;have:=(Qx hx).1;omega
 |f+1,k,hf,hk=>by
  cases hb:bt S k with
  |none=>have:=Qm hb;omega
  |some y=>
   rw[Ud hb];cases hy:(Qy y||Xg y)with
   |false=>
    simp only[Bool.false_eq_true,if_false];refine⟨fun e=>by have:=(Qx hb).1;omega,fun h=> ?_⟩;have:=h k y L0q hb;rw[hy]at this;cases this
   |true=>
    simp only[if_true];rw[Tf S f (k+1) (by omega) (by omega)];refine⟨fun h i x hi hx=> ?_,fun h i x hi hx=>h i x (by omega) hx⟩;rcases Nat.lt_or_ge k i with h1|h1
    ·exact h i x (by omega) hx
    ·obtain rfl:i=k:=by omega
     rw[hb]at hx;cases hx;exact hy
theorem Ex(S T:ByteArray)(i:Nat):bt (S++T) i=if i<S.size then bt S i else bt T (i-S.size):=by
 unfold bt;by_cases h:i<S.size
 ·rw[if_pos h,dif_pos h,dif_pos (by rw[ByteArray.size_append];omega),ByteArray.getElem_append_left h]
 ·rw[if_neg h]
  by_cases h2:i<(S++T).size
  ·have h3:=h2
   rw[ByteArray.size_append]at h3;rw[dif_pos h2,dif_pos (by omega),ByteArray.getElem_append_right (by omega)]
  ·have h3:=h2
   rw[ByteArray.size_append]at h3;rw[dif_neg h2,dif_neg (by omega)]
theorem Tg:∀d,d<16->dgv (Qd d)=some d:=by decide+kernel
def Hr(S:ByteArray)(k:Nat)(l:List Nat):Prop:=∀j x,l[j]? =some x->bt S (k+j)=some x
theorem z7x{b:Nat}(hb:b<256)(h:Hr S k (lq b)):lsg S k=.inr (b,k+(lq b).length)/\¬bt S k=some 39:=by
 have p92:plB 92=true:=rfl;unfold lq at h ⊢;split at h
 ·rename_i e;subst e
  have a0:=h 0 92 rfl;have a1:=h 1 110 rfl;simp only[Nat.add_zero]at a0;refine⟨?_,by rw[a0];simp⟩;unfold lsg Yx;rw[a0];simp[a1,Yf,p92]
 ·rename_i h1
  split at h
  ·rename_i e;subst e
   have a0:=h 0 92 rfl;have a1:=h 1 114 rfl;simp only[Nat.add_zero]at a0;refine⟨?_,by rw[a0];simp⟩;unfold lsg Yx;rw[a0];simp[a1,Yf,p92]
  ·rename_i h2
   split at h
   ·rename_i e;subst e
    have a0:=h 0 92 rfl;have a1:=h 1 116 rfl;simp only[Nat.add_zero]at a0;refine⟨?_,by rw[a0];simp⟩;unfold lsg Yx;rw[a0];simp[a1,Yf,p92]
   ·rename_i h3
    split at h
    ·rename_i hm
     have a0:=h 0 92 rfl;have a1:=h 1 b rfl;simp only[Nat.add_zero]at a0;refine⟨?_,by rw[a0];simp⟩;have hv:Yf b=some b:=by
      unfold Yf;rw[if_neg (by omega),if_neg (by omega),if_neg (by omega),if_pos (by omega)]
     unfold lsg Yx;rw[a0];simp[a1,hv,p92,hm,h1,h2,h3]
    ·rename_i hm
     split at h
     ·rename_i hp
      have a0:=h 0 b rfl;simp only[Nat.add_zero]at a0;refine⟨?_,by rw[a0];simp;omega⟩;unfold lsg;rw[a0];simp[hp,h1,h2,h3,hm];omega
     ·rename_i hp
      have a0:=h 0 92 rfl;have a1:=h 1 120 rfl;have a2:=h 2 _ rfl;have a3:=h 3 _ rfl;simp only[Nat.add_zero]at a0;refine⟨?_,by rw[a0];simp⟩;have d1:dg S (k+2)=some (b/16):=by unfold dg;rw[a2];exact Tg _ (by omega)
      have d2:dg S (k+3)=some (b%16):=by unfold dg;rw[a3];exact Tg _ (by omega)
      have hd:digs S (k+1+1)=.inr (b,k+4):=by
       unfold digs;rw[show k+1+1=k+2 by omega,d1];simp only;rw[show k+2+1=k+3 by omega,d2];simp only;rw[show 16*(b/16)+b%16=b by omega]
      have hv:Yf 120=none:=rfl;unfold lsg Yx;rw[a0];simp[a1,hv,p92,hp,h1,h2,h3,hm,hd]
def bp(S:ByteArray):Nat->List Nat
 |0=>[]
 |k+1=>bp S k++(match bt S k with|some x=>[x]|none=>[])
theorem Tb(h:bt S k=some x):bp S (k+1)=bp S k++[x]:=by rw[bp,h]
theorem z2e(S:ByteArray):∀k,k<=S.size->(bp S k).length=k
 |0,_=>rfl
 |k+1,h=>by
  cases hb:bt S k with
  |none=>have:=Qm hb;omega
  |some x=>rw[Tb hb,List.length_append,z2e S k (by omega)];rfl
theorem z2f(S:ByteArray):∀k,k<=S.size->(bp S k).map UInt8.ofNat=S.data.toList.take k
 |0,_=>by simp[bp]
 |k+1,h=>by
  cases hb:bt S k with
  |none=>have:=Qm hb;omega
  |some x=>
   obtain⟨hk,hx⟩:=Qj hb;have hk2:k<S.data.toList.length:=by rw[Array.length_toList];exact hk
   have h1:UInt8.ofNat x=S.data.toList[k]:=by
    rw[<-hx];apply UInt8.toNat.inj;have:=(Qx hb).2;simp;rfl
   rw[Tb hb,List.map_append,z2f S k (by omega),List.take_succ_eq_append_getElem hk2];simp[h1]
theorem z7y(S:ByteArray):nb (bp S S.size)=S:=by
 apply ByteArray.ext;unfold nb;simp only;rw[z2f S S.size L0q];apply Array.toList_inj.1;simp only;exact List.take_of_length_le (by rw[Array.length_toList];exact Nat.le_refl _)
theorem Lf(l:List Nat)(h:∀x∈l,x<256)(i:Nat):bt (nb l) i=l[i]? :=by
 unfold bt;by_cases hi:i<(nb l).size
 ·rw[dif_pos hi]
  rw[Yk]at hi;rw[List.getElem?_eq_getElem hi];have:=h _ (List.getElem_mem hi);show some (((nb l).data[i]).toNat)=_;simp[nb];omega
 ·rw[dif_neg hi]
  rw[Yk]at hi;rw[List.getElem?_eq_none (by omega)]
theorem Th(P:ByteArray):∀f k:Nat,P.size-k=f->k<=P.size->∃r,qt P=qp P k++r
 |0,k,hf,hk=>by
  obtain rfl:k=P.size:=by omega
  exact⟨[39],rfl⟩
 |f+1,k,hf,hk=>by
  obtain⟨r,hr⟩:=Th P f (k+1) (by omega) (by omega);cases hb:bt P k with
  |none=>have:=Qm hb;omega
  |some x=>rw[Cd hb]at hr;exact⟨lq x++r,by rw[hr,List.append_assoc]⟩
theorem z7z{P:ByteArray}(h:bt P k=some x):Hr (nb (qt P)) (qp P k).length (lq x):=by
 have hk:=(Qx h).1;obtain⟨r,hr⟩:=Th P _ (k+1) rfl (by omega);rw[Cd h,List.append_assoc]at hr;intro j y hj;rw[Lf _ (Cm P),hr,List.getElem?_append_right (by omega),Nat.add_sub_cancel_left];have hjl:j<(lq x).length:=by
  rcases Nat.lt_or_ge j (lq x).length with h1|h1
  ·exact h1
  ·rw[List.getElem?_eq_none h1]at hj;cases hj
 rw[List.getElem?_append_left hjl];exact hj
theorem z2g(P:ByteArray):∀f k:Nat,P.size-k=f->k<=P.size->k<=255->
  ll (nb (qt P)) 39 0 (qp P k).length (bp P k)=if P.size<=255 then .inr (bp P P.size,(nb (qt P)).size)else .inl (2,0)
 |0,k,hf,hk,h5=>by
  obtain rfl:k=P.size:=by omega
  have hb:bt (nb (qt P)) (qp P P.size).length=some 39:=by
   rw[Lf _ (Cm P)];unfold qt;rw[List.getElem?_append_right L0q,Nat.sub_self];rfl
  rw[Hl hb,if_pos (by omega),Yk];unfold qt;rw[List.length_append];rfl
 |f+1,k,hf,hk,h5=>by
  cases hb:bt P k with
  |none=>have:=Qm hb;omega
  |some x=>
   obtain⟨hs,hq⟩:=z7x (Qx hb).2 (z7z hb);have hlen:=z2e P k hk;by_cases h6:k=255
   ·rw[Ry hq hs (by omega),if_neg (by omega)]
   ·rw[Iz hq hs (by omega),<-Tb hb,<-List.length_append,<-Cd hb]
    exact z2g P f (k+1) (by omega) (by omega) (by omega)
theorem z7A(l:List Nat)(hl:∀x∈l,x<256)(k x:Nat)(h:l[k]? =some x):At (nb l) k x:=by
 obtain⟨hk,e⟩:=List.getElem?_eq_some_iff.1 h;refine⟨by rw[Yk];exact hk,?_⟩;have hx:=hl x (by rw[<-e];exact List.getElem_mem hk);have hg:(nb l)[k]'(by rw[Yk];exact hk)=UInt8.ofNat x:=by
  rw[ByteArray.getElem_eq_getElem_data];simp[nb,e]
 rw[hg];simp;omega
theorem z7B(b:Nat):(∃t,sgn b=92::t/\t≠[])∨(sgn b=[b]/\Qp b=false/\32<=b/\b<=126):=by
 unfold sgn;split
 ·exact .inl ⟨_,rfl,by simp⟩
 ·split
  ·exact .inl ⟨_,rfl,by simp⟩
  ·split
   ·exact .inl ⟨_,rfl,by simp⟩
   ·split
    ·exact .inl ⟨_,rfl,by simp⟩
    ·rename_i hm
     split
     ·rename_i hp
      exact .inr ⟨rfl,by simpa using hm,hp.1,hp.2⟩
     ·exact .inl ⟨_,rfl,by simp⟩
def Vf(S:ByteArray)(k:Nat)(l:List Nat):Prop:=∀j x,l[j]? =some x->At S (k+j) x
theorem Vf.left{a b:List Nat}(h:Vf S k (a++b)):Vf S k a:=fun j x hj=>h j x (by
 rw[List.getElem?_append_left (List.getElem?_eq_some_iff.1 hj).1];exact hj)
theorem Vf.right{a b:List Nat}(h:Vf S k (a++b)):Vf S (k+a.length) b:=fun j x hj=>by
 have:=h (a.length+j) x (by rw[List.getElem?_append_right (by omega),show a.length+j-a.length=j by omega];exact hj);rw[<-Nat.add_assoc]at this;exact this
theorem Vf.head{l:List Nat}(h:Vf S k (x::l)):At S k x:=h 0 x rfl
def its:List (Nat×Nat)->List (Nat×Nat)
 |[]=>[]
 |p::t=>(if p.2=p.1+1 then [(p.1,p.1),(p.2,p.2)]else [p])++its t
def Gb(p:Nat×Nat):List Nat:=if p.1=p.2 then sgn p.1 else sgn p.1++([45]++sgn p.2)
def Xc:List (Nat×Nat)->List Nat
 |[]=>[]
 |p::t=>Gb p++Xc t
theorem z2h:∀(a b:List (Nat×Nat)),Xc (a++b)=Xc a++Xc b
 |[],b=>rfl
 |p::t,b=>by simp only[List.cons_append,Xc,z2h t b,List.append_assoc]
theorem z2i:∀(L:List (Nat×Nat)),(∀p∈L,p.1<=p.2)->Zq L=Xc (its L)
 |[],_=>rfl
 |p::t,h=>by
  have hp:=h p (List.mem_cons_self ..);rw[Zq,its,z2h,z2i t (fun q hq=>h q (List.mem_cons_of_mem _ hq))];congr 1;unfold Yb;by_cases h1:p.2=p.1+1
  ·rw[if_pos h1,if_neg (by omega),if_pos (by omega)]
   simp[Xc,Gb]
  ·rw[if_neg h1]
   by_cases h2:p.1=p.2
   ·rw[if_neg (by omega),if_neg (by omega)]
    simp[Xc,Gb,h2]
   ·rw[if_pos (by omega),if_pos (by omega)]
    simp[Xc,Gb,h2]
def uo:List (Nat×Nat)->Nat
 |[]=>0
 |p::t=>seg p.1 (p.2+1)|||uo t
theorem Td:∀(a b:List (Nat×Nat)),uo (a++b)=uo a|||uo b
 |[],b=>by simp[uo]
 |p::t,b=>by simp only[List.cons_append,uo,Td t b,Nat.or_assoc]
theorem z2j:∀(Q:List (Nat×Nat)),uo Q.reverse=un Q
 |[]=>rfl
 |p::t=>by rw[List.reverse_cons,Td,z2j t,un];simp[uo]
theorem z7C(a:Nat):seg a (a+1+1)=seg a (a+1)|||seg (a+1) (a+1+1):=by
 apply Nat.eq_of_testBit_eq;intro j;rw[Nat.testBit_or,Nv,Nv,Nv];by_cases h1:a<=j<;>by_cases h2:j<a+1<;>by_cases h3:a+1<=j<;>by_cases h4:j<a+1+1<;>simp[h1,h2,h3,h4]<;>omega
theorem z2k:∀(L:List (Nat×Nat)),uo (its L)=uo L
 |[]=>rfl
 |p::t=>by
  rw[its,Td,z2k t,uo];congr 1;by_cases h1:p.2=p.1+1
  ·rw[if_pos h1,h1,z7C];simp[uo]
  ·rw[if_neg h1];simp[uo]
theorem z2l:∀(L:List (Nat×Nat)),(∀p∈L,p.1<=p.2/\p.2<256)->∀p∈its L,p.1<=p.2/\p.2<256
 |[],_,p,hp=>by simp[its]at hp
 |q::t,h,p,hp=>by
  have hq:=h q (List.mem_cons_self ..);rw[its,List.mem_append]at hp;rcases hp with hp|hp
  ·split at hp
   ·simp at hp;rcases hp with rfl|rfl<;>simp<;>omega
   ·simp at hp;subst hp;exact hq
  ·exact z2l t (fun r hr=>h r (List.mem_cons_of_mem _ hr)) p hp
theorem z2m(p:Nat×Nat):∃y t,Gb p=y::t/\(y == 45)=false/\(y == 94)=false/\(y == 93)=false:=by
 have:∃t,Gb p=sgn p.1++t:=by
  unfold Gb;split
  ·exact⟨[],by simp⟩
  ·exact⟨_,rfl⟩
 obtain⟨t,ht⟩:=this;rcases z7B p.1 with⟨u,hu,_⟩|⟨hu,hm,_,_⟩
 ·exact⟨92,u++t,by rw[ht,hu];rfl,rfl,rfl,rfl⟩
 ·unfold Qp at hm
  simp at hm;exact⟨p.1,t,by rw[ht,hu];rfl,by simp;omega,by simp;omega,by simp;omega⟩
theorem z2n(I:List (Nat×Nat)):∃y t,Xc I++[93]=y::t/\(y == 45)=false/\(y == 94)=false:=by
 cases I with
 |nil=>exact⟨93,[],rfl,rfl,rfl⟩
 |cons p t=>
  obtain⟨y,u,hu,h1,h2,h3⟩:=z2m p;exact⟨y,u++Xc t++[93],by rw[Xc,hu];simp,h1,h2⟩
theorem z2o{d:Nat}(hd:d<16)(h:At S k (Qd d)):dg S k=some d:=by
 unfold dg;rw[Ym h];exact Tg d hd
theorem Tp{b:Nat}(hb:b<256)(h:Vf S k (sgn b)):sg S k=.inr (b,k+(sgn b).length):=by
 unfold sgn at h ⊢;split at h
 ·rename_i e;subst e
  have a0:=Ym (h 0 92 rfl);have a1:=Ym (h 1 110 rfl);simp only[Nat.add_zero]at a0;unfold sg esc;rw[a0];simp[a1,Yq]
 ·rename_i h1
  split at h
  ·rename_i e;subst e
   have a0:=Ym (h 0 92 rfl);have a1:=Ym (h 1 114 rfl);simp only[Nat.add_zero]at a0;unfold sg esc;rw[a0];simp[a1,Yq]
  ·rename_i h2
   split at h
   ·rename_i e;subst e
    have a0:=Ym (h 0 92 rfl);have a1:=Ym (h 1 116 rfl);simp only[Nat.add_zero]at a0;unfold sg esc;rw[a0];simp[a1,Yq]
   ·rename_i h3
    split at h
    ·rename_i hm
     have a0:=Ym (h 0 92 rfl);have a1:=Ym (h 1 b rfl);simp only[Nat.add_zero]at a0;have hn:b≠110/\b≠114/\b≠116:=by
      unfold Qp at hm;simp at hm;omega
     rw[if_neg h1,if_neg h2,if_neg h3,if_pos hm];unfold sg esc;rw[a0];simp[a1,Yq,hn.1,hn.2.1,hn.2.2,hm]
    ·rename_i hm
     split at h
     ·rename_i hp
      have a0:=Ym (h 0 b rfl);simp only[Nat.add_zero]at a0;have hmf:Qp b=false:=by simpa using hm
      have hn:b≠92:=by intro e;subst e;simp[Qp]at hmf
      rw[if_neg h1,if_neg h2,if_neg h3,if_neg hm,if_pos hp];unfold sg;rw[a0];simp[hn,Fk,hmf,hp.1,hp.2]
     ·rename_i hp
      have a0:=Ym (h 0 92 rfl);have a1:=Ym (h 1 120 rfl);have a2:=z2o (by omega) (h 2 _ rfl);have a3:=z2o (by omega) (h 3 _ rfl);simp only[Nat.add_zero]at a0;rw[if_neg h1,if_neg h2,if_neg h3,if_neg hm,if_neg hp];unfold sg esc;rw[a0];have hm120:Qp 120=false:=rfl;simp only[if_true,a1,Yq,hm120];unfold digs;rw[show k+1+1=k+2 from rfl,a2,show k+2+1=k+3 from rfl,a3];simp;omega
theorem z7D{y:Nat}{p:Nat×Nat}{t:List Nat}(h1:p.1<=p.2)(h2:p.2<256)(hy:(y == 45)=false)(h:Vf S k (Gb p++(y::t))):mbr S k=.inr (seg p.1 (p.2+1),k+(Gb p).length):=by
 have hl:=h.left;have hr:=h.right;unfold Gb at hl hr ⊢;by_cases e:p.1=p.2
 ·rw[if_pos e]at hl hr ⊢
  unfold mbr;rw[Tp (by omega) hl];have hb:=Ym hr.head;simp only;rw[hb,if_neg (by simpa using hy),<-e]
 ·rw[if_neg e]at hl ⊢
  have hl1:=hl.left;have hl2:=hl.right;have hb:=Ym hl2.head;have hl3:Vf S (k+(sgn p.1).length+1) (sgn p.2):=hl2.right;unfold mbr;rw[Tp (by omega) hl1];simp only;rw[hb,if_pos rfl,Tp h2 hl3];simp only;rw[if_neg (by omega)];simp;omega
theorem z2p{S:ByteArray}:∀(I:List (Nat×Nat)) (k acc:Nat),(∀p∈I,p.1<=p.2/\p.2<256)->Vf S k (Xc I++[93])->mm S k acc=.inr (acc|||uo I,k+(Xc I).length+1)
 |[],k,acc,_,h=>by
  rw[Bd (Ym h.head)];simp[uo,Xc]
 |p::t,k,acc,hI,h=>by
  obtain⟨y,u,hyu,hy,_⟩:=z2n t;have hp:=hI p (List.mem_cons_self ..);have h':Vf S k (Gb p++(Xc t++[93])):=by rw[<-List.append_assoc];exact h
  have hr:=h'.right;rw[hyu]at h';have hm:=z7D hp.1 hp.2 hy h';obtain⟨z,v,hz,_,_,hz3⟩:=z2m p;have h93:¬bt S k=some 93:=by
   have h2:=h;rw[Xc,hz]at h2;rw[Ym h2.head];simpa using hz3
  rw[Dw h93 hm,z2p t _ _ (fun q hq=>hI q (List.mem_cons_of_mem _ hq)) hr];simp only[uo,Xc,List.length_append,Nat.or_assoc];simp;omega
theorem z7E{I:List (Nat×Nat)}(hI:∀p∈I,p.1<=p.2/\p.2<256)(h:Vf S 0 ([91]++(Xc I++[93]))):Xm S=.inr (uo I,1+(Xc I).length+1):=by
 have h1:Vf S 1 (Xc I++[93]):=h.right;obtain⟨y,u,hyu,_,hy⟩:=z2n I;have h94:¬bt S 1=some 94:=by
  have h2:=h1;rw[hyu]at h2;rw[Ym h2.head];simpa using hy
 unfold Xm;rw[if_pos (Ym h.head),if_neg h94,z2p I 1 0 hI h1];simp
theorem Lg{A B:ByteArray}(h:∀j,bt A j=bt B j):A=B:=by
 have hs:A.size=B.size:=by
  rcases Nat.lt_trichotomy A.size B.size with h1|h1|h1
  ·have h2:=h A.size
   rw[Vw L0q]at h2;have:=Qm h2.symm;omega
  ·exact h1
  ·have h2:=h B.size
   rw[Vw L0q]at h2;have:=Qm h2;omega
 apply ByteArray.ext;apply Array.ext
 ·exact hs
 ·intro i h1 h2
  have h3:=h i;have e1:bt A i=some (A.data[i].toNat):=by unfold bt;rw[dif_pos (show i<A.size from h1)];rfl
  have e2:bt B i=some (B.data[i].toNat):=by unfold bt;rw[dif_pos (show i<B.size from h2)];rfl
  rw[e1,e2]at h3;exact UInt8.toNat.inj (Option.some.inj h3)
theorem Lb(S:ByteArray)(p e j:Nat)(he:e<=S.size):bt (S.extract p e) j=if p+j<e then bt S (p+j)else none:=by
 have hsz:(S.extract p e).size=e-p:=by rw[ByteArray.size_extract];omega
 by_cases h:p+j<e
 ·rw[if_pos h]
  unfold bt;rw[dif_pos (by omega),dif_pos (by omega),ByteArray.getElem_extract]
 ·rw[if_neg h,Vw (by omega)]
def Seg(S X:ByteArray)(a b L:Nat):Prop:=∀j,j<L->bt X (b+j)=bt S (a+j)
theorem Seg.dg{S X:ByteArray}{a b L i:Nat}(h:Seg S X a b L)(hi:i<L):dg X (b+i)=dg S (a+i):=by
 show(bt X (b+i)).bind dgv=(bt S (a+i)).bind dgv;rw[h i hi]
theorem Seg.digs{S X:ByteArray}{a b L i i' y:Nat}(h:Seg S X a b L)(hd:digs S (a+i)=.inr (y,a+i'))(hi:i'<=L):digs X (b+i)=.inr (y,b+i'):=by
 obtain⟨q,r,h1,h2,h3,h4⟩:=Bb hd;have e1:=h.dg (i:=i) (by omega);have e2:=h.dg (i:=i+1) (by omega);unfold Proofs.YtikfnaffiehpaaaGreatDoor.digs;rw[e1,h1];simp only;rw[show b+i+1=b+(i+1) by omega,e2,show a+(i+1)=a+i+1 by omega,h2];simp only;rw[h3,show b+i+2=b+i' by omega]
theorem Seg.lsg{S X:ByteArray}{a b L i i' y:Nat}(h:Seg S X a b L)(hd:lsg S (a+i)=.inr (y,a+i'))(hi:i'<=L):lsg X (b+i)=.inr (y,b+i'):=by
 have hok:=Ny hd;have e0:=h i (by omega);unfold Proofs.YtikfnaffiehpaaaGreatDoor.lsg at hd ⊢;rw[e0];cases hb:bt S (a+i)with
 |none=>rw[hb]at hd;cases hd
 |some x=>
  rw[hb]at hd;simp only at hd ⊢;split at hd
  ·cases hd
  ·rename_i hp
   rw[if_neg hp];split at hd
   ·rename_i hx
    rw[if_pos hx];have hok2:=z0Z hd;have e1:=h (i+1) (by omega);unfold Yx at hd ⊢;rw[show b+i+1=b+(i+1) by omega,e1,show a+(i+1)=a+i+1 by omega];cases hb2:bt S (a+i+1)with
    |none=>rw[hb2]at hd;cases hd
    |some z=>
     rw[hb2]at hd;simp only at hd ⊢;cases hv:Yf z with
     |some v=>
      rw[hv]at hd;simp only[Sum.inr.injEq,Prod.mk.injEq]at hd ⊢;omega
     |none=>
      rw[hv]at hd;simp only at hd ⊢;split at hd
      ·rename_i hz
       rw[if_pos hz];rw[show b+(i+1)+1=b+(i+2) by omega];exact h.digs (by rw[show a+(i+2)=a+i+1+1 by omega];exact hd) hi
      ·cases hd
   ·rename_i hx
    rw[if_neg hx];simp only[Sum.inr.injEq,Prod.mk.injEq]at hd ⊢;omega
theorem Seg.llit{S X:ByteArray}{a b L q p p' i':Nat}{l:List Nat}(h:Seg S X a b L)(hi:i'<=L):∀(f i:Nat) (acc:List Nat),acc.length<=255->(∀x∈acc,x<256)->
  llit S q p f (a+i) acc=.inr (l,a+i')->ll X q p' (b+i) acc=.inr (l,b+i')
 |0,i,acc,_,_,hd=>by rw[Proofs.YtikfnaffiehpaaaGreatDoor.llit]at hd;cases hd
 |f+1,i,acc,ha,hx,hd=>by
  have hok:=Ix S q p _ _ _ _ _ hd hx ha;have e0:=h i (by omega);rw[Proofs.YtikfnaffiehpaaaGreatDoor.llit]at hd;split at hd
  ·rename_i hb
   simp only[Sum.inr.injEq,Prod.mk.injEq]at hd;rw[Hl (by rw[e0];exact hb),hd.1,show b+i+1=b+i' by omega]
  ·rename_i hb
   split at hd
   ·cases hd
   ·rename_i y n hs
    have hok1:=Ny hs;obtain⟨i1,rfl⟩:∃i1,n=a+i1:=⟨n-a,by omega⟩;split at hd
    ·cases hd
    ·rename_i h5
     have hx2:∀x∈acc++[y],x<256:=fun x hx'=>by
      rcases List.mem_append.1 hx' with h|h
      ·exact hx x h
      ·simp at h;omega
     have hok2:=Ix S q p _ _ _ _ _ hd hx2 (by simp;omega);rw[Iz (by rw[e0];exact hb) (h.lsg hs (by omega)) h5];exact Seg.llit h hi f i1 (acc++[y]) (by simp;omega) hx2 hd
theorem Seg.ll{S X:ByteArray}{a b L q p p' i i':Nat}{l:List Nat}(h:Seg S X a b L)(hi:i'<=L)(hd:ll S q p (a+i) []=.inr (l,a+i')):ll X q p' (b+i) []=.inr (l,b+i'):=
 Seg.llit h hi _ i [] (by simp) (fun x hx=>by simp at hx) hd
def Agr(T V:ByteArray)(M:Nat):Prop:=∀j,j<M->bt V j=bt T j
theorem Agr.digs{T V:ByteArray}{M k y n:Nat}(h:Agr T V M)(hd:digs T k=.inr (y,n))(hn:n<=M):digs V k=.inr (y,n):=by
 have:=Seg.digs (S:=T) (X:=V) (a:=0) (b:=0) (L:=M) (i:=k) (i':=n) (y:=y) (fun j hj=>by simpa using h j hj) (by simpa using hd) hn;simpa using this
theorem Agr.sg{T V:ByteArray}{M k y n:Nat}(h:Agr T V M)(hd:sg T k=.inr (y,n))(hn:n<=M):sg V k=.inr (y,n):=by
 have hok:=Ug hd;have e0:=h k (by omega);unfold Proofs.YtikfnaffiehpaaaGreatDoor.sg at hd ⊢;rw[e0];cases hb:bt T k with
 |none=>rw[hb]at hd;cases hd
 |some x=>
  rw[hb]at hd;simp only at hd ⊢;split at hd
  ·rename_i hx
   rw[if_pos hx];have hok2:=z0K hd;have e1:=h (k+1) (by omega);unfold esc at hd ⊢;rw[e1];cases hb2:bt T (k+1)with
   |none=>rw[hb2]at hd;cases hd
   |some z=>
    rw[hb2]at hd;simp only at hd ⊢;cases hv:Yq z with
    |some v=>rw[hv]at hd;exact hd
    |none=>
     rw[hv]at hd;simp only at hd ⊢;split at hd
     ·rename_i hz
      rw[if_pos hz];exact h.digs hd hn
     ·cases hd
  ·rename_i hx
   rw[if_neg hx];split at hd
   ·rename_i hp
    rw[if_pos hp];exact hd
   ·cases hd
theorem Agr.mbr{T V:ByteArray}{M k y n:Nat}(h:Agr T V M)(hd:mbr T k=.inr (y,n))(hn:n<M):mbr V k=.inr (y,n):=by
 have hok:=Ub hd;unfold Proofs.YtikfnaffiehpaaaGreatDoor.mbr at hd ⊢;cases hs:Proofs.YtikfnaffiehpaaaGreatDoor.sg T k with
 |inl e=>rw[hs]at hd;cases hd
 |inr r=>
  obtain⟨lo,m⟩:=r;have hok1:=Ug hs;rw[hs]at hd;simp only at hd;split at hd
  ·rename_i h45
   have hm:m<n:=by
    split at hd
    ·cases hd
    ·rename_i hi m2 hs2
     have:=Ug hs2;split at hd
     ·cases hd
     ·simp only[Sum.inr.injEq,Prod.mk.injEq]at hd;omega
   rw[h.sg hs (by omega)];simp only;rw[if_pos (by rw[h m (by omega)];exact h45)];cases hs2:Proofs.YtikfnaffiehpaaaGreatDoor.sg T (m+1)with
   |inl e=>rw[hs2]at hd;cases hd
   |inr r2=>
    obtain⟨hi,m2⟩:=r2;rw[hs2]at hd;simp only at hd;split at hd
    ·cases hd
    ·rename_i hle
     have hd2:=hd;simp only[Sum.inr.injEq,Prod.mk.injEq]at hd2;rw[h.sg hs2 (by omega)];simp only;rw[if_neg hle];exact hd
  ·rename_i h45
   have hd2:=hd;simp only[Sum.inr.injEq,Prod.mk.injEq]at hd2;rw[h.sg hs (by omega)];simp only;rw[if_neg (by rw[h m (by omega)];exact h45)];exact hd
theorem Agr.mems{T V:ByteArray}{M C n:Nat}(h:Agr T V M)(hn:n<=M):∀(f k acc:Nat),mems T f k acc=.inr (C,n)->k<n/\n<=T.size/\mm V k acc=.inr (C,n)
 |0,k,acc,hd=>by rw[Proofs.YtikfnaffiehpaaaGreatDoor.mems]at hd;cases hd
 |f+1,k,acc,hd=>by
  rw[Proofs.YtikfnaffiehpaaaGreatDoor.mems]at hd;split at hd
  ·rename_i hb
   have h1:=(Qx hb).1;have hd2:=hd;simp only[Sum.inr.injEq,Prod.mk.injEq]at hd2;refine⟨by omega,by omega,?_⟩;rw[Bh,if_pos (by rw[h k (by omega)];exact hb)];exact hd
  ·rename_i hb
   cases hm:Proofs.YtikfnaffiehpaaaGreatDoor.mbr T k with
   |inl e=>rw[hm]at hd;cases hd
   |inr r=>
    obtain⟨Y,m⟩:=r;rw[hm]at hd;have hok:=Ub hm;obtain⟨h1,h2,h3⟩:=Agr.mems h hn f m _ hd;refine⟨by omega,h2,?_⟩;rw[Bh,if_neg (by rw[h k (by omega)];exact hb),h.mbr hm (by omega)];exact h3
theorem Agr.cls{T V:ByteArray}{M C n:Nat}(h:Agr T V M)(hd:Xm T=.inr (C,n))(hn:n<=M):Xm V=.inr (C,n):=by
 rw[Bp]at hd ⊢;split at hd
 ·rename_i h0
  split at hd
  ·rename_i h1
   cases hm:mm T 2 0 with
   |inl e=>rw[hm]at hd;cases hd
   |inr r=>
    obtain⟨D,m⟩:=r;rw[hm]at hd;have hd2:=hd;simp only[ng,Sum.inr.injEq,Prod.mk.injEq]at hd2;obtain⟨a1,a2,a3⟩:=h.mems (n:=m) (by omega) _ _ _ hm;rw[if_pos (by rw[h 0 (by omega)];exact h0),if_pos (by rw[h 1 (by omega)];exact h1),a3];exact hd
  ·rename_i h1
   obtain⟨a1,a2,a3⟩:=h.mems hn _ _ _ hd;rw[if_pos (by rw[h 0 (by omega)];exact h0),if_neg (by rw[h 1 (by omega)];exact h1),a3]
 ·cases hd
theorem z7F{X:ByteArray}(hb:bt X k=some x)(h1:blB x=false)(h2:x≠35):sb X k=k:=by
 rw[Nb hb,h1];simp[h2]
theorem z2q(r:Tr):Ul [] r=r:=by cases r<;>simp[Ul]
end Go.Proofs.YtikfnaffiehpaaaGreatDoor
