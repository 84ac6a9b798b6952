/- Lemmas for the last text. Conditions: those that each names. -/
import Derived.Test.YtgnkkgcgbeianaaGreatDoorVPAToPD
import Derived.Test.YtgnkkgcgbeianaaGreatDoorVC9ToHA
import Derived.ChangeKeys
import Derived.Test.YtgnkkgcgbeianaaGreatDoorVU15ToT11
set_option linter.unusedVariables false
set_option maxRecDepth 100000
set_option maxHeartbeats 16000000
namespace Go.Proofs.YtgnkkgcgbeianaaGreatDoor
open Go.Proofs.Tryz
section
open Go.RowKit Go.Shelf Go.Maps
theorem z5a(u:Nat):∀x∈Lib.decDigits u,x≠32:=by
 induction u using Nat.strongRecOn with
 |_ u ih=>
  intro x hx;rw[Lib.decDigits]at hx;have o:∀d:Nat,d<10->UInt8.ofNat (48+d)≠32:=fun d t e=>by
   have:=congrArg UInt8.toNat e;rw[UInt8.toNat_ofNat']at this;have r:(32:UInt8).toNat=32:=rfl;rw[r]at this;omega
  by_cases h:u<10
  ·rw[dif_pos h]at hx
   obtain rfl:x=UInt8.ofNat (48+u):=by simpa using hx
   exact o u h
  ·rw[dif_neg h]at hx
   rcases List.mem_append.1 hx with hx|hx
   ·exact ih (u/10) (by omega) x hx
   ·obtain rfl:x=UInt8.ofNat (48+u%10):=by simpa using hx
    exact o _ (by omega)
theorem z5b(u:Nat):Lib.decDigits u≠[]:=by
 rw[Lib.decDigits];split<;>simp
theorem z5c{a b:Nat}(ha:a<10)(o:b<10)(h:UInt8.ofNat (48+a)=UInt8.ofNat (48+b)):a=b:=by
 have:=congrArg UInt8.toNat h;rw[UInt8.toNat_ofNat',UInt8.toNat_ofNat']at this;omega
theorem Wg{u:Nat}(h:¬u<10):Lib.decDigits u=Lib.decDigits (u/10)++[UInt8.ofNat (48+u%10)]:=by rw[Lib.decDigits,dif_neg h]
theorem y4j(u:Nat):∀v,Lib.decDigits u=Lib.decDigits v->u=v:=by
 induction u using Nat.strongRecOn with
 |_ u ih=>
  intro v h;by_cases hu:u<10
  ·rw[Lib.decDigits_one hu]at h
   by_cases hv:v<10
   ·rw[Lib.decDigits_one hv]at h
    injection h with h
    exact z5c hu hv h
   ·rw[Wg hv]at h
    have o:=congrArg List.length h;have r:=List.length_pos_iff.2 (z5b (v/10));simp only[List.length_append,List.length_cons,List.length_nil]at o;omega
  ·rw[Wg hu]at h
   by_cases hv:v<10
   ·rw[Lib.decDigits_one hv]at h
    have o:=congrArg List.length h;have r:=List.length_pos_iff.2 (z5b (u/10));simp only[List.length_append,List.length_cons,List.length_nil]at o;omega
   ·rw[Wg hv]at h
    obtain⟨o,r⟩:=List.append_inj' h rfl;have t:=ih (u/10) (by omega) _ o;injection r with r
    have y:=z5c (by omega) (by omega) r;omega
theorem y4k{a b r s:List UInt8}(ha:∀x∈a,x≠32)(t:∀x∈b,x≠32):a++32::r=b++32::s->a=b/\r=s:=by
 induction a generalizing b with
 |nil=>
  cases b with
  |nil=>intro h;injection h with _ h;exact⟨rfl,h⟩
  |cons y b=>intro h;injection h with h _;exact absurd h.symm (t y (by simp))
 |cons x a ih=>
  cases b with
  |nil=>intro h;injection h with h _;exact absurd h (ha x (by simp))
  |cons y b=>
   intro h;injection h with h1 h2
   obtain⟨A,D⟩:=ih (fun z o=>ha z (by simp[o])) (fun z o=>t z (by simp[o])) h2;exact⟨by rw[h1,A],D⟩
theorem z5d{x:Int}(h:0<=x):Lib.itoa x=Lib.decDigits x.toNat:=by
 unfold Lib.itoa;rw[if_neg (by omega)]
theorem z5e:∀(l l':List Int),(∀x∈l,0<=x)->(∀x∈l',0<=x)->sbT l=sbT l'->l=l'
 |[],[],_,_,_=>rfl
 |[],y::l',_,_,h=>by rw[sbT,sbT]at h;have:=congrArg List.length h;simp at this
 |x::l,[],_,_,h=>by rw[sbT,sbT]at h;have:=congrArg List.length h;simp at this
 |x::l,y::l',hl,hl',h=>by
  rw[sbT,sbT,z5d (hl x (by simp)),z5d (hl' y (by simp))]at h;obtain⟨r,t⟩:=y4k (z5a _) (z5a _) h;have D:=y4j _ _ r;have hx:=hl x (by simp);have E:=hl' y (by simp);have A:=z5e l l' (fun z o=>hl z (by simp[o])) (fun z o=>hl' z (by simp[o])) t;rw[A];congr 1;omega
def Wx(o:Ox):Prop:=qW o/\∀x∈o.2.2.2,0<=x
theorem y4l{o r:Ox}(h:Wx o)(D:Wx r)(e:qB o=qB r):o=r:=by
 obtain⟨k,N,⟨a,b,c,d⟩,s⟩:=o;obtain⟨k',y,⟨E,G,I,U⟩,A⟩:=r;obtain⟨⟨V,Y,Z,w4,w5,w6,w7⟩,w8⟩:=h;obtain⟨⟨v1,v2,v3,v4,v5,v6,v7⟩,v8⟩:=D;have hl:=keyBytes_inj (l:=[.int .i64 k,.string N.data.toList,.int .u64 a,.int .u64 b,.int .u64 c,.int .u64 d,.string (sbT s)]) (l':=[.int .i64 k',.string y.data.toList,.int .u64 E,.int .u64 G,.int .u64 I,.int .u64 U,.string (sbT A)])
  ⟨rfl,trivial,rfl,rfl,rfl,rfl,trivial,trivial⟩
  (by
    intro x hx;simp only[List.mem_cons,List.not_mem_nil,or_false]at hx;rcases hx with rfl|rfl|rfl|rfl|rfl|rfl|rfl
    ·exact V
    ·exact Y
    ·exact Z
    ·exact w4
    ·exact w5
    ·exact w6
    ·exact w7)
  (by
    intro x hx;simp only[List.mem_cons,List.not_mem_nil,or_false]at hx;rcases hx with rfl|rfl|rfl|rfl|rfl|rfl|rfl
    ·exact v1
    ·exact v2
    ·exact v3
    ·exact v4
    ·exact v5
    ·exact v6
    ·exact v7) e
 simp only[List.cons.injEq,Lit.int.injEq,Lit.string.injEq,true_and,and_true]at hl;obtain⟨rfl,t,rfl,rfl,rfl,rfl,hs⟩:=hl;have t:N=y:=by
  apply ByteArray.ext;exact Array.toList_inj.1 t
 rw[t,z5e s A w8 v8 hs]
theorem z5f{s:List UInt8}:∀{l:List (List UInt8)},inA s l=true->l[ixA s l]? =some s
 |[],h=>by simp[inA]at h
 |x::l,h=>by
  unfold ixA;unfold inA at h;by_cases e:x=s
  ·simp[e]
  ·simp[e]at h ⊢
   exact z5f h
theorem y4m{o:Ox}{ops:List Ox}(y:Wx o)(ha:∀r∈ops,Wx r):(plO o ops).2[(plO o ops).1]? =some o/\(∀r∈(plO o ops).2,Wx r)/\∃l,(plO o ops).2=ops++l/\(l=[]∨l=[o]):=by
 unfold plO;split
 ·rename_i h
  have A:=z5f h;rw[List.getElem?_map]at A;obtain⟨r,D,E⟩:=Option.map_eq_some_iff.1 A;have:=y4l (ha r (List.mem_of_getElem? D)) y E;subst this;exact⟨D,ha,[],by simp,.inl rfl⟩
 ·refine⟨by simp,fun r t=> ?_,[o],rfl,.inr rfl⟩
  rcases List.mem_append.1 t with t|t
  ·exact ha r t
  ·obtain rfl:r=o:=by simpa using t
   exact y
mutual
def Dn(ix:ByteArray->Int)(ops:List Ox):RT->Int->Prop
 | .mk k T a b c d s _,n=>0<=n/\((k=5/\ops[n.toNat]? =some (5,{data:=#[]},(0,0,0,0),[ix T]))∨(k≠5/\∃l,ops[n.toNat]? =some (k,T,(a,b,c,d),l)/\DnL ix ops s l))
def DnL(ix:ByteArray->Int)(ops:List Ox):List RT->List Int->Prop
 |[],l=>l=[]
 |t::r,l=>∃n l',l=n::l'/\Dn ix ops t n/\DnL ix ops r l'
end
mutual
theorem Dn.mono{ix:ByteArray->Int}{ops:List Ox}(m:List Ox):∀(t:RT) (n:Int),Dn ix ops t n->Dn ix (ops++m) t n
 | .mk k T a b c d s p,n,h=>by
   rw[Dn]at h ⊢;have r:∀o,ops[n.toNat]? =some o->(ops++m)[n.toNat]? =some o:=fun o A=>by
    rw[List.getElem?_append_left (List.getElem?_eq_some_iff.1 A).1];exact A
   refine⟨h.1,h.2.imp (fun x=>⟨x.1,r _ x.2⟩) fun⟨x,l,y,z⟩=>⟨x,l,r _ y,DnL.mono m s l z⟩⟩
theorem DnL.mono{ix:ByteArray->Int}{ops:List Ox}(m:List Ox):∀(s:List RT) (l:List Int),DnL ix ops s l->DnL ix (ops++m) s l
 |[],l,h=>by rw[DnL]at h ⊢;exact h
 |t::r,l,h=>by
  rw[DnL]at h ⊢;obtain⟨n,l',o,y,A⟩:=h;exact⟨n,l',o,Dn.mono m t n y,DnL.mono m r l' A⟩
end
def Src(Pt:RT->Prop)(ix:ByteArray->Int)(ops:List Ox):Prop:=(∀o∈ops,Wx o)/\∀k,k<ops.length->∃t,Pt t/\Dn ix ops t (k:Int)
theorem z5g{A:RT->Prop}{ix:ByteArray->Int}{ops:List Ox}{o:Ox}(G:Wx o)(h:Src A ix ops){t:RT}(I:A t)(E:∀D:List Ox,(∃m,D=ops++m)->∀n:Int,0<=n->D[n.toNat]? =some o->Dn ix D t n):Src A ix (plO o ops).2/\Dn ix (plO o ops).2 t ((plO o ops).1:Int):=by
 obtain⟨U,V,l,r,Y⟩:=y4m G h.1;have Z:Dn ix (plO o ops).2 t ((plO o ops).1:Int):=E _ ⟨l,r⟩ _ (by omega) U;refine⟨⟨V,fun k y=> ?_⟩,Z⟩;by_cases e:k<ops.length
 ·obtain⟨u,hu,aa⟩:=h.2 k e
  exact⟨u,hu,by rw[r];exact Dn.mono l u _ aa⟩
 ·refine⟨t,I,?_⟩
  rcases Y with rfl|rfl
  ·rw[r,List.append_nil]at y;exact absurd y e
  ·rw[r,List.length_append]at y
   obtain rfl:k=ops.length:=by simp at y;omega
   refine E _ ⟨_,r⟩ _ (by omega) ?_;rw[r];simp
theorem y4n{x:Int}(h:0<=x)(o:x<=1048576):Wx (5,{data:=#[]},(0,0,0,0),[x]):=⟨(Tv x ⟨by omega,o⟩).1,fun y r=>by
 obtain rfl:y=x:=by simpa using r
 exact h⟩
mutual
theorem z5h{r:RT->Prop}{ix:ByteArray->Int}(D:∀k T a b c d s p,r (.mk k T a b c d s p)->∀t∈s,r t)(E:∀t,r t->TrK t)(hx:∀T a b c d s p,r (.mk 5 T a b c d s p)->0<=ix T/\ix T<=1048576):∀(t:RT) (ops:List Ox),r t->ops.length+ndT t<=1048576->Src r ix ops->Src r ix (mkT ix t ops).2/\Dn ix (mkT ix t ops).2 t ((mkT ix t ops).1:Int)
 | .mk k T a b c d s p,ops,ht,y,h=>by
   rw[mkT];rw[ndT]at y;by_cases h5:k=5
   ·subst h5
    rw[if_pos rfl];have G:=hx _ _ _ _ _ _ _ ht;refine z5g (y4n G.1 G.2) h ht fun U _ n y A=> ?_
    rw[Dn];exact⟨y,.inl ⟨rfl,A⟩⟩
   ·rw[if_neg h5]
    obtain⟨V,Y⟩:=z5i D E hx s ops (D _ _ _ _ _ _ _ _ ht) (by omega) h;obtain⟨l1,⟨Z,I⟩,l4,l5⟩:=Fw ix s ops;have o:=E _ ht;rw[TrK]at o;have hw:Wx (k,T,(a,b,c,d),(mkL ix s ops).1):=by
     refine⟨⟨o.1.1,?_,o.1.2.2.1,o.1.2.2.2.1,o.1.2.2.2.2.1,o.1.2.2.2.2.2.1,?_⟩,fun x hx=>(I x hx).1⟩
     ·have:=o.1.2.1
      show T.size<=maxLen;unfold maxLen;omega
     ·have h8:=Tj (mkL ix s ops).2.length (by omega) _ I
      have h9:=o.1.2.2.2.2.2.2;show(sbT (mkL ix s ops).1).length<=maxLen;rw[Z]at h8;unfold maxLen;omega
    refine z5g hw V ht fun U hm n y A=> ?_
    obtain⟨m,rfl⟩:=hm;rw[Dn];exact⟨y,.inr ⟨h5,_,A,DnL.mono m s _ Y⟩⟩
theorem z5i{o:RT->Prop}{ix:ByteArray->Int}(y:∀k T a b c d s p,o (.mk k T a b c d s p)->∀t∈s,o t)(A:∀t,o t->TrK t)(hx:∀T a b c d s p,o (.mk 5 T a b c d s p)->0<=ix T/\ix T<=1048576):∀(s:List RT) (ops:List Ox),(∀t∈s,o t)->ops.length+ndL s<=1048576->Src o ix ops->Src o ix (mkL ix s ops).2/\DnL ix (mkL ix s ops).2 s (mkL ix s ops).1
 |[],ops,_,_,h=>by rw[mkL,DnL];exact⟨h,rfl⟩
 |t::r,ops,ht,hn,h=>by
  rw[ndL]at hn;rw[mkL];obtain⟨D,E⟩:=z5h y A hx t ops (ht t (by simp)) (by omega) h;obtain⟨_,Y,Z,l4⟩:=Ix ix t ops;obtain⟨G,I⟩:=z5i y A hx r (mkT ix t ops).2 (fun u U=>ht u (by simp[U])) (by omega) D;obtain⟨_,_,m,V⟩:=Fw ix r (mkT ix t ops).2;refine⟨G,?_⟩;rw[DnL];refine⟨_,_,rfl,?_,I⟩;show Dn ix (mkL ix r (mkT ix t ops).2).2 t _;rw[V];exact Dn.mono m t _ E
end
theorem Wb{o:RT->Prop}{ix:ByteArray->Int}(A:∀k T a b c d s p,o (.mk k T a b c d s p)->∀t∈s,o t)(D:∀t,o t->TrK t)(hx:∀T a b c d s p,o (.mk 5 T a b c d s p)->0<=ix T/\ix T<=1048576):∀(s:List Rr) (ops:List Ox),(∀x∈s,o x.2.1)->ops.length+ndG s<=1048576->Src o ix ops->Src o ix (mkG ix s ops).2/\∀j (y:j<s.length),∃n,(mkG ix s ops).1[j]? =some n/\Dn ix (mkG ix s ops).2 s[j].2.1 n
 |[],ops,_,_,h=>by rw[mkG];exact⟨h,fun j y=>by simp at y⟩
 |x::r,ops,ht,hn,h=>by
  rw[ndG]at hn;rw[mkG];obtain⟨E,G⟩:=z5h A D hx x.2.1 ops (ht x (by simp)) (by omega) h;obtain⟨_,Z,l3,l4⟩:=Ix ix x.2.1 ops;obtain⟨I,U⟩:=Wb A D hx r (mkT ix x.2.1 ops).2 (fun u V=>ht u (by simp[V])) (by omega) E;obtain⟨_,_,m,Y⟩:=Vp ix r (mkT ix x.2.1 ops).2;refine⟨I,fun j y=> ?_⟩;cases j with
  |zero=>
   refine⟨_,rfl,?_⟩;show Dn ix (mkG ix r (mkT ix x.2.1 ops).2).2 x.2.1 _;rw[Y];exact Dn.mono m _ _ G
  |succ j=>exact U j (by simpa using y)
section
variable {B:ByteArray->Option RT} {T:ByteArray} {ops:List Ox} {ro:List Int} {ix:ByteArray->Int}
def Mm(ops:List Ox)(ro:List Int)(T:ByteArray)(ix:ByteArray->Int):Jb->Nat->Option Nat->Nat->Prop
 | .one t,i,e,n=>∀k,Dn ix ops t k->Mo ops ro T (.nd k) i e n
 | .row s,i,e,n=>∀l,DnL ix ops s l->Mo ops ro T (.row l) i e n
 | .alt s,i,e,n=>∀l,DnL ix ops s l->Mo ops ro T (.alt l) i e n
 | .rep t,i,e,n=>∀k,Dn ix ops t k->Mo ops ro T (.rep k) i e n
theorem Uf{k:Int}{N:ByteArray}{a b c d:Int}{s:List RT}{p n:Int}(h:Dn ix ops (.mk k N a b c d s p) n)(o:k≠5):∃l,ops[n.toNat]? =some (k,N,(a,b,c,d),l)/\DnL ix ops s l:=by
 rw[Dn]at h;rcases h.2 with h|h
 ·exact absurd h.1 o
 ·exact h.2
theorem z5j(E:∀N t,B N=some t->∃q,ro[(ix N).toNat]? =some q/\Dn ix ops t q){j:Jb}{i:Nat}{e:Option Nat}{n:Nat}(h:Mt B T j i e n):Mm ops ro T ix j i e n:=by
 induction h with
 |emp=>intro k o;obtain⟨l,y,r⟩:=Uf o (by decide);exact .nd y .emp
 |lit=>intro k o;obtain⟨l,y,r⟩:=Uf o (by decide);exact .nd y .lit
 |set=>intro k o;obtain⟨l,y,r⟩:=Uf o (by decide);exact .nd y .set
 |any=>intro k o;obtain⟨l,y,r⟩:=Uf o (by decide);exact .nd y .any
 |ref y _ ih=>
  intro k o;rw[Dn]at o;rcases o.2 with⟨_,o⟩|⟨o,_⟩
  ·obtain⟨q,r,A⟩:=E _ _ y
   exact .nd o (.ref r (ih q A))
  ·exact absurd rfl o
 |seq _ ih=>intro k o;obtain⟨l,y,r⟩:=Uf o (by decide);exact .nd y (.seq (ih l r))
 |cho _ ih=>intro k o;obtain⟨l,y,r⟩:=Uf o (by decide);exact .nd y (.cho (ih l r))
 |opt _ ih=>intro k o;obtain⟨l,y,r⟩:=Uf o (by decide);rw[DnL]at r;obtain⟨m,l',rfl,A,_⟩:=r;exact .nd y (.opt (ih m A))
 |star _ ih=>intro k o;obtain⟨l,y,r⟩:=Uf o (by decide);rw[DnL]at r;obtain⟨m,l',rfl,A,_⟩:=r;exact .nd y (.star (ih m A))
 |plus_no _ ih=>intro k o;obtain⟨l,y,r⟩:=Uf o (by decide);rw[DnL]at r;obtain⟨m,l',rfl,A,_⟩:=r;exact .nd y (.plus_no (ih m A))
 |plus_ok _ _ ih1 ih2=>intro k o;obtain⟨l,y,r⟩:=Uf o (by decide);rw[DnL]at r;obtain⟨m,l',rfl,A,_⟩:=r;exact .nd y (.plus_ok (ih1 m A) (ih2 m A))
 |and _ ih=>intro k o;obtain⟨l,y,r⟩:=Uf o (by decide);rw[DnL]at r;obtain⟨m,l',rfl,A,_⟩:=r;exact .nd y (.and (ih m A))
 |not _ ih=>intro k o;obtain⟨l,y,r⟩:=Uf o (by decide);rw[DnL]at r;obtain⟨m,l',rfl,A,_⟩:=r;exact .nd y (.not (ih m A))
 |row_nil=>intro l hl;rw[DnL]at hl;subst hl;exact .row_nil
 |row_no _ ih=>intro l hl;rw[DnL]at hl;obtain⟨m,l',rfl,A,_⟩:=hl;exact .row_no (ih m A)
 |row_ok _ _ ih1 ih2=>intro l hl;rw[DnL]at hl;obtain⟨m,l',rfl,A,D⟩:=hl;exact .row_ok (ih1 m A) (ih2 l' D)
 |alt_nil=>intro l hl;rw[DnL]at hl;subst hl;exact .alt_nil
 |alt_ok _ ih=>intro l hl;rw[DnL]at hl;obtain⟨m,l',rfl,A,_⟩:=hl;exact .alt_ok (ih m A)
 |alt_no _ _ ih1 ih2=>intro l hl;rw[DnL]at hl;obtain⟨m,l',rfl,A,D⟩:=hl;exact .alt_no (ih1 m A) (ih2 l' D)
 |rep_end _ ih=>intro k o;exact .rep_end (ih k o)
 |rep_go _ _ ih1 ih2=>intro k o;exact .rep_go (ih1 k o) (ih2 k o)
end
end
section
open Go.RowKit Go.Shelf Go.Maps
def Ptt(rs:List Rr)(t:RT):Prop:=okT t=true/\flT (kG rs) t=none/\(∀y∈rfT t,inN y.1 (nmL rs)=true)/\TrK t
theorem y4o{s:List RT}(h:Gy s){t:RT}(o:t∈s):TrK t:=by
 obtain⟨j,r,rfl⟩:=List.getElem_of_mem o;exact Tw h j r
theorem ok5{N:zA}{a b c d:Int}{s:List RT}{p:Int}(h:okT (.mk 5 N a b c d s p)=true):s=[]:=by
 rw[okT,Bool.and_eq_true]at h;have:=h.1;unfold okN at this;simp at this;have o:Qv s=0:=by omega
 cases s with
 |nil=>rfl
 |cons=>simp[Qv]at o
theorem Id{rs:List Rr}:∀k T a b c d s p,Ptt rs (.mk k T a b c d s p)->∀t∈s,Ptt rs t:=fun k T a b c d s p ⟨r,o,D,A⟩ t h=>by
 have E:k≠5:=fun e=>by
  subst e;rw[ok5 r]at h;cases h
 rw[okT,Bool.and_eq_true]at r;rw[flT]at o;rw[TrK]at A;have G:flL (kG rs) s=none:=by
  by_cases e:(k=9∨k=10)/\(ofH (kG rs) s).1=true
  ·rw[if_pos e]at o;cases o
  ·rw[if_neg e]at o;exact o
 refine⟨Tc r.2 t h,Tp G t h,fun y I=>D y ?_,y4o A.2 h⟩;rw[rfT,if_neg E];exact Aj h I
theorem z5k{rs:List Rr}(hl:rs.length<=64):∀T a b c d s p,Ptt rs (.mk 5 T a b c d s p)->0<=fdI T (nmL rs)/\fdI T (nmL rs)<=1048576:=fun T a b c d s p ⟨_,_,o,_⟩=>by
 have h:=o (T,p) (by rw[rfT,if_pos rfl];exact List.mem_singleton.2 rfl);have:=Gk T (nmL rs) h;rw[Uy]at this;unfold fdI;rw[if_pos h];omega
structure Snd (rs:List Rr):Prop where
 ok:okG rs=true
 ck:ckR rs=none
 so:soZ rs none=none
 tr:∀x∈rs,TrK x.2.1
 nd:ndG rs<=1048576
 len:rs.length<=64
theorem Snd.pt{rs:List Rr}(h:Snd rs){x:Rr}(hx:x∈rs):Ptt rs x.2.1:=⟨Wv h.ok hx,If (Wk h.so) x hx,Ib h.ck hx,h.tr x hx⟩
theorem Snd.src{rs:List Rr}(h:Snd rs):Src (Ptt rs) (fun T=>fdI T (nmL rs)) (pgG rs).2/\∀j (D:j<rs.length),∃n,(pgG rs).1[j]? =some n/\Dn (fun T=>fdI T (nmL rs)) (pgG rs).2 rs[j].2.1 n:=
 Wb Id (fun t r=>r.2.2.2) (z5k h.len) rs [] (fun x hx=>h.pt hx) (by have:=h.nd;simpa using this) ⟨(fun o y=>by cases y),fun k A=>by simp at A⟩
theorem Snd.roots{rs:List Rr}(h:Snd rs):∀N t,bdQ rs N=some t->∃q,(pgG rs).1[(fdI N (nmL rs)).toNat]? =some q/\Dn (fun T=>fdI T (nmL rs)) (pgG rs).2 t q:=fun N t o=>by
 have r:inN N (nmL rs)=true:=by
  obtain⟨x,hx,rfl,_⟩:=Kd o;exact Hv.2 (List.mem_map.2 ⟨x,hx,rfl⟩)
 obtain⟨y,A⟩:=Ig r;rw[A]at o;obtain rfl:=Option.some.inj o;obtain⟨n,D,E⟩:=h.src.2 _ y;refine⟨n,?_,E⟩;unfold fdI;rw[if_pos r,Int.toNat_natCast];exact D
theorem Snd.tot{rs:List Rr}(h:Snd rs)(T:zA){t:RT}(A:Ptt rs t){i:Nat}(E:i<=T.size):Dv (bdQ rs) T (.one t) i:=by
 have I:∀N t,bdQ rs N=some t->ofT (kG rs) t=kG rs N:=fun N t r=>by
  obtain⟨x,hx,rfl,rfl⟩:=Kd r;exact Wj h.ck x hx
 have G:∀o,o<=T.size->∀N D,bdQ rs N=some D->Dv (bdQ rs) T (.one D) o:=fun o U N D r=>by
  obtain⟨x,hx,rfl,rfl⟩:=Kd r;obtain⟨q,V,rfl⟩:=List.getElem_of_mem hx;exact y4f h.ok h.ck h.so T _ _ q o V L0q L0q U
 refine Tl I _ t (Nat.lt_succ_self _) A.1 A.2.1 (fun y Y=> ?_) i E (fun o _ Z=>G o Z) (fun N _=>G i E N);obtain⟨_,r⟩:=Ig (A.2.2.1 y Y);exact⟨_,r⟩
theorem y4p{ops:List Ox}{o:Ox}(h:o∈ops):∃k,k<ops.length/\ops[k]? =some o:=by
 obtain⟨k,r,rfl⟩:=List.getElem_of_mem h;exact⟨k,r,List.getElem?_eq_getElem r⟩
theorem Snd.wfo{rs:List Rr}(h:Snd rs)(T:zA):Wfo (pgG rs).2 (pgG rs).1 T:=by
 have hs:=h.src.1;have aa:∀o∈(pgG rs).2,(o.1=5)∨∃N a b c d s p,okT (.mk o.1 N a b c d s p)=true/\DnL (fun T=>fdI T (nmL rs)) (pgG rs).2 s o.2.2.2/\Ptt rs (.mk o.1 N a b c d s p):=fun o A=>by
  obtain⟨k,G,ab⟩:=y4p A;obtain⟨t,I,U⟩:=hs.2 k G;obtain⟨kd,N,a,b,c,d,s,p⟩:=t;rw[Dn,Int.toNat_natCast]at U;rcases U.2 with⟨_,y⟩|⟨_,l,y,D⟩
  ·rw[ab]at y
   cases y;exact .inl rfl
  ·rw[ab]at y
   cases y;exact .inr ⟨N,a,b,c,d,s,p,I.1,D,I⟩
 refine⟨fun o A=>(hs.1 o A).2,fun x hx=> ?_,?_,fun o A G=> ?_,fun o A G=> ?_⟩
 ·exact((Vp (fun T=>fdI T (nmL rs)) rs []).2.1.2 x hx).1
 ·intro k M cl k' l G i x n hi hM
  obtain⟨t,I,U⟩:=hs.2 k.toNat (List.getElem?_eq_some_iff.1 G).1;obtain⟨kd,N,a,b,c,d,s,p⟩:=t;rw[Dn,Int.toNat_natCast]at U;rcases U.2 with⟨_,y⟩|⟨_,l',y,D⟩
  ·rw[G]at y;cases y
  ·rw[G]at y
   cases y;have E:=I.1;rw[okT,Bool.and_eq_true]at E;have h4:=E.1;unfold okN at h4;simp at h4;obtain⟨Y,rfl⟩:=z4R (s:=s) (by omega);rw[DnL]at D;obtain⟨n',af,e1,ad,_⟩:=D;cases e1;have ae:=Id _ _ _ _ _ _ _ _ I Y (by simp);obtain⟨e,n2,ac⟩:=h.tot T ae hi;have hB:∀N t,bdQ rs N=some t->ofT (kG rs) t=kG rs N:=fun N t V=>by
    obtain⟨x,hx,rfl,rfl⟩:=Kd V;exact Wj h.ck x hx
   obtain⟨rfl,_⟩:=Ww hM (z5j h.roots ac k' ad);have A:okO (ofT (kG rs) Y) i (some x):=Iy hB ac;have hz:(ofT (kG rs) Y).1=false:=by
    cases hz:(ofT (kG rs) Y).1 with
    |false=>rfl
    |true=>
     have Z:=I.2.1;rw[flT,if_pos ⟨.inr rfl,by rw[ofH];exact hz⟩]at Z;cases Z
   rcases Nat.lt_or_ge i x with V|V
   ·exact V
   ·have:=A.2.1 (Nat.le_antisymm V A.1)
    rw[hz]at this;cases this
 ·rcases aa o A with Z|⟨N,a,b,c,d,s,p,y,D,_⟩
  ·omega
  ·rw[okT,Bool.and_eq_true]at y
   have E:=y.1;unfold okN at E;have h0:Qv s=0:=by
    rcases G with e|e|e|e<;>rw[e]at E<;>simp at E<;>omega
   cases s with
   |nil=>rw[DnL]at D;exact D
   |cons=>simp[Qv]at h0
 ·rcases aa o A with Z|⟨N,a,b,c,d,s,p,y,D,_⟩
  ·omega
  ·rw[okT,Bool.and_eq_true]at y
   have E:=y.1;unfold okN at E;have h0:2<=Qv s:=by
    rcases G with e|e<;>rw[e]at E<;>simp at E<;>omega
   cases s with
   |nil=>simp[Qv]at h0
   |cons t r=>
    rw[DnL]at D;obtain⟨n,l',e,_⟩:=D;rw[e];simp
def N0:Nt:=fun _ _=>none
theorem y4q(L M:Nat):crd L M N0=0:=by
 unfold crd N0;simp
theorem y4r{rs:List Rr}(h:Snd rs)(T:zA)(mo j i:Nat)(y:j<rs.length)(A:i<=T.size):∃e n o c r,Mt (bdQ rs) T (.one rs[j].2.1) i e n/\(pgG rs).1[j]? =some r/\0<=r/\c<=n/\c<=(pgG rs).2.length*(T.size+1)/\(c<=mo->∃q,Mch (pgG rs).2 (pgG rs).1 T mo N0 0 [] (.beg r i) (some (e,c,o)) q)/\(mo<c->∃q,Mch (pgG rs).2 (pgG rs).1 T mo N0 0 [] (.beg r i) none q):=by
 obtain⟨e,n,D⟩:=h.tot T (h.pt (List.getElem_mem y)) A;obtain⟨r,E,I⟩:=h.src.2 j y;have G:0<=r:=((Vp (fun T=>fdI T (nmL rs)) rs []).2.1.2 r (List.mem_of_getElem? E)).1;have U:Mo (pgG rs).2 (pgG rs).1 T (.nd r) i e n:=z5j h.roots D r I;obtain⟨o,c,v,x,a,b,d,f,g⟩:=y4i (mo:=mo) (h.wfo T) U A G N0 0 [] (fun k i e h=>by cases h);rw[y4q]at d;refine⟨e,n,o,c,r,D,E,G,by omega,?_,fun t=>f t _ _ .done,fun t=>g (Nat.zero_le _) t⟩;have:=y4h (pgG rs).2.length (T.size+1) o;omega
section
variable {ops:List Ox} {ro:List Int} {T:ByteArray} {mo:Nat}
theorem Im{N:Nt}{c:Nat}{S:List Wq}{m:Mde}{r:Option (Option Nat×Nat×Nt)}{q:Nat}(h:Mch ops ro T mo N c S m r q):∀{e:Option Nat} {o:Nat} {t:Nt},r=some (e,o,t)->c<=o:=by
 induction h with
 |done=>intro e o t h;cases h;exact Nat.le_refl _
 |bud _=>intro e o t h;cases h
 |noted _ _ ih=>exact ih
 |leaf _ _ _ _ _ ih=>intro e o t h;have:=ih h;omega
 |push _ _ _ _ _ ih=>intro e o t h;have:=ih h;omega
 |next _ _ _ ih=>exact ih
 |pop _ _ _ ih=>exact ih
theorem y4s{N:Nt}{c:Nat}{S:List Wq}{k:Int}{i:Nat}{e:Option Nat}{o:Nat}{r:Nt}{q:Nat}(h:Mch ops ro T mo N c S (.beg k i) (some (e,o,r)) q)(t:N k i=none):c+1<=o:=by
 cases h with
 |noted h1 _=>rw[t]at h1;cases h1
 |leaf _ _ _ _ h=>exact Im h rfl
 |push _ _ _ _ h=>exact Im h rfl
theorem y4t{A:Nat}{N:Nt}{c:Nat}{S:List Wq}{m:Mde}{r:Option (Option Nat×Nat×Nt)}{q:Nat}(h:Mch ops ro T mo N c S m r q):∀{e:Option Nat} {o:Nat} {y:Nt},r=some (e,o,y)->o<=A->Mch ops ro T A N c S m r q:=by
 induction h with
 |done=>intro e o y h _;exact .done
 |bud _=>intro e o y h;cases h
 |noted h1 _ ih=>intro e o y h t;exact .noted h1 (ih h t)
 |leaf h1 h2 h3 h4 h5 ih=>intro e o y h t;have:=Im h5 h;exact .leaf h1 (by omega) h3 h4 (ih h t)
 |push h1 h2 h3 h4 h5 ih=>intro e o y h t;have:=Im h5 h;exact .push h1 (by omega) h3 h4 (ih h t)
 |next h1 h2 _ ih=>intro e o y h t;exact .next h1 h2 (ih h t)
 |pop h1 h2 _ ih=>intro e o y h t;exact .pop h1 h2 (ih h t)
theorem y4u{U:Nat}{N:Nt}{c:Nat}{S:List Wq}{m:Mde}{r:Option (Option Nat×Nat×Nt)}{q:Nat}(h:Mch ops ro T mo N c S m r q):∀{e:Option Nat} {y:Nat} {E:Nt},r=some (e,y,E)->c<=U->U<y->∃V,Mch ops ro T U N c S m none V:=by
 induction h with
 |done=>intro e y E h t I;cases h;omega
 |bud _=>intro e y E h;cases h
 |noted t _ ih=>intro e y E h G A;obtain⟨q,D⟩:=ih h G A;exact⟨_,.noted t D⟩
 | @leaf N c S k i o r q t I h3 h4 h5 ih=>
   intro e y E h G A;by_cases hc:c=U
   ·subst hc;exact⟨_,.bud t⟩
   ·obtain⟨q,D⟩:=ih h (by omega) A;exact⟨_,.leaf t hc h3 h4 D⟩
 | @push N c S k i o r q t I h3 h4 h5 ih=>
   intro e y E h G A;by_cases hc:c=U
   ·subst hc;exact⟨_,.bud t⟩
   ·obtain⟨q,D⟩:=ih h (by omega) A;exact⟨_,.push t hc h3 h4 D⟩
 |next t I _ ih=>intro e y E h G A;obtain⟨q,D⟩:=ih h G A;exact⟨_,.next t I D⟩
 |pop t I _ ih=>intro e y E h G A;obtain⟨q,D⟩:=ih h G A;exact⟨_,.pop t I D⟩
end
end
open Go.RowKit Go.Shelf Go.Maps
mutual
def stT:RT->RT
 | .mk k T a b c d s _=>.mk k T a b c d (stL s) 0
def stL:List RT->List RT
 |[]=>[]
 |t::r=>stT t::stL r
end
def stR(x:Rr):Rr:=(x.1,stT x.2.1,0)
def stG(rs:List Rr):List Rr:=rs.map stR
theorem Wh:∀s:List RT,(stL s).length=s.length
 |[]=>rfl
 |t::r=>by rw[stL,List.length_cons,List.length_cons,Wh r]
theorem z5l:∀s:List RT,stL s=s.map stT
 |[]=>rfl
 |t::r=>by rw[stL,List.map_cons,z5l r]
theorem y4v(s:List RT):Qv (stL s)=Qv s:=by rw[Zm,Zm,Wh]
mutual
theorem z5m:∀t:RT,okT (stT t)=okT t
 | .mk k T a b c d s p=>by rw[stT,okT,okT,y4v,z5n s]
theorem z5n:∀s:List RT,okL (stL s)=okL s
 |[]=>by rw[stL]
 |t::r=>by rw[stL,okL,okL,z5m t,z5n r]
end
mutual
theorem z5o:∀t:RT,(rfT (stT t)).map (·.1)=(rfT t).map (·.1)
 | .mk k T a b c d s p=>by
   rw[stT,rfT,rfT];by_cases h:k=5
   ·rw[if_pos h,if_pos h];rfl
   ·rw[if_neg h,if_neg h];exact z5p s
theorem z5p:∀s:List RT,(rfL (stL s)).map (·.1)=(rfL s).map (·.1)
 |[]=>by rw[stL]
 |t::r=>by rw[stL,rfL,rfL,List.map_append,List.map_append,z5o t,z5p r]
end
mutual
theorem Dy(K:zA->Ot):∀t:RT,ofT K (stT t)=ofT K t
 | .mk k T a b c d s p=>by rw[stT,ofT,ofT,z5q K s,z5r K s,z5s K s]
theorem z5q(K:zA->Ot):∀(s:List RT) (x:Ot),ofS K x (stL s)=ofS K x s
 |[],x=>by rw[stL]
 |t::r,x=>by rw[stL,ofS,ofS,Dy K t,z5q K r]
theorem z5r(K:zA->Ot):∀(s:List RT) (x:Ot),ofA K x (stL s)=ofA K x s
 |[],x=>by rw[stL]
 |t::r,x=>by rw[stL,ofA,ofA,Dy K t,z5r K r]
theorem z5s(K:zA->Ot):∀s:List RT,ofH K (stL s)=ofH K s
 |[]=>by rw[stL]
 |t::r=>by rw[stL,ofH,ofH,Dy K t]
end
mutual
theorem z5t(K:zA->Ot):∀t:RT,flT K t=none->flT K (stT t)=none
 | .mk k T a b c d s p,h=>by
   rw[flT]at h;rw[stT,flT,z5s];by_cases e:(k=9∨k=10)/\(ofH K s).1=true
   ·rw[if_pos e]at h;cases h
   ·rw[if_neg e]at h ⊢;exact z5u K s h
theorem z5u(K:zA->Ot):∀s:List RT,flL K s=none->flL K (stL s)=none
 |[],_=>by rw[stL,flL]
 |t::r,h=>by
  rw[flL]at h;cases ht:flT K t with
  |some p=>rw[ht]at h;cases h
  |none=>
   rw[ht]at h;rw[stL,flL,z5t K t ht];exact z5u K r h
end
mutual
theorem z5v(K:zA->Ot):∀t:RT,fbT K (stT t)=fbT K t
 | .mk k T a b c d s p=>by rw[stT,fbT,fbT,z5w K _ s]
theorem z5w(K:zA->Ot)(h:Bool):∀s:List RT,fbL K h (stL s)=fbL K h s
 |[]=>by rw[stL]
 |t::r=>by rw[stL,fbL,fbL,z5v K t,Dy,z5w K h r]
end
mutual
theorem z5x:∀(t:RT) (n:Nd),Tq t n->Tq (stT t) n
 | .mk k T a b c d s p,.mk kd T' C s' p',h=>by
   rw[Tq]at h;rw[stT,Tq];exact⟨h.1,h.2.1,h.2.2.1,h.2.2.2.1,h.2.2.2.2.1,h.2.2.2.2.2.1,z5y s s' h.2.2.2.2.2.2⟩
theorem z5y:∀(s:List RT) (q:List Nd),TqL s q->TqL (stL s) q
 |[],[],_=>by rw[stL,TqL];trivial
 |[],_::_,h=>by simp[TqL]at h
 |_::_,[],h=>by simp[TqL]at h
 |t::r,n::q,h=>by
  rw[TqL]at h;rw[stL,TqL];exact⟨z5x t n h.1,z5y r q h.2⟩
end
mutual
theorem z5z(ix:zA->Int):∀(t:RT) (ops:List Ox),mkT ix (stT t) ops=mkT ix t ops
 | .mk k T a b c d s p,ops=>by rw[stT,mkT,mkT,z5A ix s ops]
theorem z5A(ix:zA->Int):∀(s:List RT) (ops:List Ox),mkL ix (stL s) ops=mkL ix s ops
 |[],ops=>by rw[stL]
 |t::r,ops=>by rw[stL,mkL,mkL,z5z ix t ops,z5A ix r]
end
mutual
theorem z5B:∀t:RT,RtU t->RtU (stT t)
 | .mk k T a b c d s p,h=>by
   rw[RtU]at h;rw[stT,RtU];exact⟨h.1,h.2.1,h.2.2.1,h.2.2.2.1,z5C s h.2.2.2.2⟩
theorem z5C:∀s:List RT,Xj s->Xj (stL s)
 |[],_=>by rw[stL,Xj];trivial
 |t::r,h=>by
  rw[Xj]at h;rw[stL,Xj];exact⟨z5B t h.1,z5C r h.2⟩
end
mutual
theorem z5D:∀t:RT,RtZ t->RtZ (stT t)
 | .mk k T a b c d s p,h=>by
   rw[RtZ]at h;rw[stT,RtZ];exact⟨h.1,z5E s h.2⟩
theorem z5E:∀s:List RT,Xg s->Xg (stL s)
 |[],_=>by rw[stL,Xg];trivial
 |t::r,h=>by
  rw[Xg]at h;rw[stL,Xg];exact⟨z5D t h.1,z5E r h.2⟩
end
theorem Ay(rs:List Rr):(stG rs).length=rs.length:=List.length_map _
theorem Af(rs:List Rr):nmL (stG rs)=nmL rs:=by
 unfold nmL stG;rw[List.map_map];rfl
theorem y4w{rs:List Rr}(h:okG rs=true):okG (stG rs)=true:=by
 unfold okG at h ⊢;simp only[Bool.and_eq_true,List.all_eq_true]at h ⊢;rw[Ay];refine⟨h.1,h.2.1,fun x hx=> ?_⟩;obtain⟨y,o,rfl⟩:=List.mem_map.1 hx;have:=h.2.2 y o;unfold okR at this ⊢;unfold stR;rw[z5m];exact this
theorem y4x{rs:List Rr}(h:ckR rs=none):ckR (stG rs)=none:=by
 refine z3w (by rw[Af];exact Hw h) fun x hx y r=> ?_
 obtain⟨z,t,rfl⟩:=List.mem_map.1 hx;rw[Af];have o:y.1∈(rfT (stT z.2.1)).map (·.1):=List.mem_map.2 ⟨y,r,rfl⟩;rw[z5o]at o;obtain⟨q,A,e⟩:=List.mem_map.1 o;rw[<-e];exact Ib h t q A
theorem z5F(K:zA->Ot):∀rs:List Rr,swp K (stG rs)=swp K rs
 |[]=>rfl
 |x::r=>by
  show Yw (swp K (stG r)) (stR x)=Yw (swp K r) x;rw[z5F K r];unfold Yw stR;rw[Dy]
theorem Wm(rs:List Rr):∀m,itr (stG rs) m=itr rs m
 |0=>rfl
 |m+1=>by rw[itr,itr,Wm rs m,z5F]
theorem y4y{K:zA->Ot}{rs:List Rr}:Xk K (stG rs)↔Xk K rs:=by
 constructor
 ·intro h x hx
  have:=h (stR x) (List.mem_map.2 ⟨x,hx,rfl⟩);unfold stR at this;rw[Dy]at this;exact this
 ·intro h x hx
  obtain⟨y,o,rfl⟩:=List.mem_map.1 hx;unfold stR;rw[Dy];exact h y o
theorem z5G(rs:List Rr):kG (stG rs)=kG rs:=by
 unfold kG;have e:(fun m=>Xk (itr (stG rs) m) (stG rs))=fun m=>Xk (itr rs m) rs:=by
  funext m;rw[Wm];exact propext y4y
 rw[e,Wm]
theorem y4z(rs:List Rr):bgU (stG rs)=bgU rs:=by
 unfold bgU;rw[z5G];unfold stG;rw[List.map_map];refine List.map_congr_left fun x _=> ?_
 show bgR (rs.map stR) (kG rs) (stR x)=_;unfold bgR;rw[show nmL (rs.map stR)=nmL rs from Af rs];unfold stR;rw[z5v]
theorem y4A{K:zA->Ot}{rs:List Rr}(h:flG K rs=none):flG K (stG rs)=none:=z4T fun x hx=>by
 obtain⟨y,o,rfl⟩:=List.mem_map.1 hx;exact z5t K _ (If h y o)
theorem y4B{rs:List Rr}(h:soZ rs none=none):soZ (stG rs) none=none:=by
 have r:=Wk h;have o:lfG rs=none:=by
  unfold soZ at h;simp only at h;have e:flX (kG rs) rs=none:=by unfold flX;rw[r];rfl
  rw[e]at h;cases e2:lfG rs with
  |none=>rfl
  |some p=>rw[e2]at h;cases h
 have t:lfG (stG rs)=none:=by
  unfold lfG at o ⊢;rw[Option.map_eq_none_iff]at o ⊢;rw[Ay];have e:bkB (stG rs)=bkB rs:=by
   funext i;unfold bkB;rw[y4z]
  rw[e];exact o
 unfold soZ;simp only;have e:flX (kG (stG rs)) (stG rs)=none:=by
  unfold flX;rw[z5G,y4A r];rfl
 rw[e,t];rfl
theorem z5H:∀{rs:List Rr} {ns:List Rl},TqR rs ns->TqR (stG rs) ns
 |[],[],h=>h
 |[],_::_,h=>h.elim
 |_::_,[],h=>h.elim
 |x::r,n::q,h=>by
  obtain⟨o,t,y⟩:=h;exact⟨o,z5x _ _ t,z5H y⟩
theorem z5I{rs:List Rr}(h:PrG rs):PrG (stG rs):=by
 obtain⟨o,ns,r,t⟩:=h;exact⟨y4w o,ns,z5H r,t⟩
theorem y4C{rs:List Rr}(h:RgU rs):RgU (stG rs):=fun x hx=>by
 obtain⟨y,o,rfl⟩:=List.mem_map.1 hx;exact z5B _ (h y o)
theorem z5J{rs:List Rr}(h:RgZ rs):RgZ (stG rs):=fun x hx=>by
 obtain⟨y,o,rfl⟩:=List.mem_map.1 hx;exact⟨(h y o).1,z5D _ (h y o).2⟩
theorem z5K(ix:zA->Int):∀(rs:List Rr) (ops:List Ox),mkG ix (stG rs) ops=mkG ix rs ops
 |[],ops=>rfl
 |x::r,ops=>by
  show mkG ix (stR x::stG r) ops=_;rw[mkG,mkG];unfold stR;rw[z5z,z5K ix r]
theorem Wp(rs:List Rr):pgG (stG rs)=pgG rs:=by
 unfold pgG;rw[Af,z5K]
mutual
def szT:RT->Nat
 | .mk k T _ _ _ _ s _=>if k=5 then 1 else 1+T.size+szL s
def szL:List RT->Nat
 |[]=>0
 |t::r=>szT t+szL r
end
def szG:List Rr->Nat
 |[]=>0
 |x::r=>szT x.2.1+szG r
theorem y4D(b:Nat):1<=(lq b).length:=by
 unfold lq
 repeat(split;(· simp))
 simp
theorem z5L(S:zA):∀n,n<=S.size->n+1<=(qp S n).length
 |0,_=>by simp[qp]
 |n+1,h=>by
  have:=z5L S n (by omega);rw[qp,List.length_append];cases hb:bt S n with
  |none=>have:=Yy hb;omega
  |some x=>have:=y4D x;simp only;omega
theorem y4E(T:zA):T.size+2<=(qT T).size:=by
 show _<=(nb (qt T)).size;rw[Uh];unfold qt;have:=z5L T T.size L0q;simp;omega
mutual
theorem z5M:∀(t:RT) (n:Nd),Tq t n->Vk n->Wf Nmq n->szT t<=sz (pN qT cT n)
 | .mk k T a b c d s p,.mk kd T' C s' p',ht,hv,hw=>by
   have r:=z3F (.mk kd T' C s' p') hv hw;rw[Tq]at ht;obtain⟨rfl,rfl,_,_,_,_,h⟩:=ht;rw[Vk]at hv;rw[Wf]at hw;rw[szT];have o:({data:=#[]}:zA).size=0:=rfl;rcases hv.1 with⟨rfl,rfl,_,rfl⟩|⟨rfl,_,rfl⟩|⟨rfl,rfl,rfl⟩|⟨rfl,rfl,_,rfl⟩|⟨rfl,_,rfl⟩|⟨A,rfl,_,D⟩|⟨E,G,rfl,_,I⟩
   ·have:s=[]:=by
     cases s with
     |nil=>rfl
     |cons=>simp[TqL]at h
    subst this;rw[if_neg (by decide),o,szL];exact r
   ·have:s=[]:=by
     cases s with
     |nil=>rfl
     |cons=>simp[TqL]at h
    subst this;have:=y4E T';rw[pN];simp[szL,sz];omega
   ·have:s=[]:=by
     cases s with
     |nil=>rfl
     |cons=>simp[TqL]at h
    subst this;rw[if_neg (by decide),o,szL];exact r
   ·have:s=[]:=by
     cases s with
     |nil=>rfl
     |cons=>simp[TqL]at h
    subst this;rw[if_neg (by decide),o,szL];exact r
   ·simpa using r
   ·have y:=Wc s s' h hv.2 hw.2.2.2
    rw[pN];rcases A with rfl|rfl
    ·have:=(y 6 bSp).1
     have e:bSp.size=1:=rfl;rw[e]at this;rw[if_neg (by decide),o];simp;omega
    ·have:=(y 7 bSl).1
     have e:bSl.size=3:=rfl;rw[e]at this;rw[if_neg (by decide),o];simp;omega
   ·have y:=(Wc s s' h hv.2 hw.2.2.2 kd bE).1
    have e:bE.size=0:=rfl;rw[e]at y;have U:1<=(bsg kd).size:=by
     rcases(by omega:kd=8∨kd=9∨kd=10∨kd=11∨kd=12)with rfl|rfl|rfl|rfl|rfl<;>decide
    rw[pN,if_neg (by omega),if_neg (by omega),if_neg (by omega),if_neg (by omega),if_neg (by omega),if_neg (by omega),if_neg (by omega)];rw[if_neg (by omega)];rw[o];by_cases h11:kd=11∨kd=12
    ·rw[if_pos h11,sz]
     omega
    ·rw[if_neg h11,Xy,sz,sz]
     omega
theorem Wc:∀(s:List RT) (q:List Nd),TqL s q->VkL q->WfL Nmq q->∀(over:Nat) (o:zA),(szL s+(q.length-1)*o.size<=sz (pS qT cT over o q))/\szL s+q.length*o.size<=sz (pB qT cT over o q)
 |[],[],_,_,_=>fun over o=>by rw[pS,pB,szL];simp[sz]
 |[],_::_,h,_,_=>by simp[TqL]at h
 |_::_,[],h,_,_=>by simp[TqL]at h
 |t::r,n::q,h,hv,hw=>fun over o=>by
  rw[TqL]at h;rw[VkL]at hv;rw[WfL]at hw;have y:=z5M t n h.1 hv.1 hw.1;have A:=(Wc r q h.2 hv.2 hw.2 over o).2;have D:szT t<=sz (if wr over n.kd=true then bO::(pN qT cT n++[bC])else pN qT cT n):=by
   split
   ·rw[sz,Xy];omega
   ·exact y
  rw[pS,pB,szL,sz,Xy];have e:(n::q).length-1=q.length:=rfl;rw[e,List.length_cons,Nat.succ_mul];omega
end
theorem z5N:∀(rs:List Rr) (ns:List Rl),TqR rs ns->(∀x∈ns,Ruk Nmq x)->szG rs<=sz (pR qT cT ns)
 |[],[],_,_=>Nat.zero_le _
 |[],_::_,h,_=>h.elim
 |_::_,[],h,_=>h.elim
 |x::r,n::q,h,hx=>by
  obtain⟨_,t,A⟩:=h;have o:=hx n (by simp);have E:=z5M _ _ t o.2.1 o.2.2;have G:=z5N r q A (fun y D=>hx y (by simp[D]));rw[szG,pR,sz,sz,Xy,sz];omega
theorem z5O{rs:List Rr}(h:PrG rs):szG rs<=8192:=by
 obtain⟨_,ns,o,r,t,_⟩:=h;exact Nat.le_trans (z5N rs ns o r) t
theorem z5P(m n:Int)(h:0<=n)(o:n<m)(w:World):Calls prog 100 #[zI m,zI n] w fun e w'=>e=.returned (.bool true)/\w'=w:=by
 have r:decide ((0:Int)<=n)=true:=by simp[h]
 have a1:decide (n<m)=true:=by simp[o]
 go_enter func100,ntmps100
 go_wp2_with fail
 go_ret;exact⟨rfl,rfl⟩
def ttl(z:List Int):List Int->Int
 |[]=>0
 |x::r=>z.getD x.toNat 0+ttl z r
theorem Wl(z:List Int):∀a b:List Int,ttl z (a++b)=ttl z a+ttl z b
 |[],b=>by rw[List.nil_append,ttl,Int.zero_add]
 |x::r,b=>by rw[List.cons_append,ttl,ttl,Wl z r b,Int.add_assoc]
theorem Ag{z:List Int}(o:∀x∈z,0<=x):∀s:List Int,0<=ttl z s
 |[]=>Int.le_refl _
 |x::r=>by
  have t:=Ag o r;have A:0<=z.getD x.toNat 0:=by
   rw[List.getD_eq_getElem?_getD];cases h:z[x.toNat]? with
   |none=>simp
   |some y=>exact o y (List.mem_of_getElem? h)
  rw[ttl];omega
theorem y4F{z:List Int}(h:∀x∈z,0<=x)(s:List Int)(j:Nat):ttl z (s.take j)<=ttl z s:=by
 have o:=Wl z (s.take j) (s.drop j);rw[List.take_append_drop]at o;have:=Ag h (s.drop j);omega
theorem y4G(z s:List Int)(j:Nat)(h:j<s.length):ttl z (s.take (j+1))=ttl z (s.take j)+z.getD s[j].toNat 0:=by
 rw[List.take_succ_eq_append_getElem h,Wl,ttl,ttl,Int.add_zero]
theorem z5Q(U V:Option Addr)(ab ac n m:Nat)(s z:List Int)(Y:n=s.length)(Z:m=z.length)(P P2:Nat->Prop)(w:World)(h:RwC w P U s)(h2:RwC w P2 V z)(hz:∀x∈z,0<=x)(hs:∀x∈s,0<=x/\x<(m:Int))(ht:ttl z s<=8192)(hl:n<=1048576):
  Calls prog 64 #[.slice U n ab,.slice V m ac] w fun e w'=>e=.returned (.tuple #[zI (ttl z s),.bool true])/\w'=w:=by
 have HN:Hid (n=s.length):=Y;have HM:Hid (m=z.length):=Z;have HR:=hid h;have HZ:=hid h2;have HS:=hid hs;have o:=hid (And.intro hz ht);clear Y Z h h2 hs hz ht;go_enter func64,ntmps64
 go_wp2_with fail
 go_loopw [6,11] (fun v i wr=>∃j:Nat,v=zI (ttl z (s.take j))/\i=zI (j:Int)/\j<=n/\wr=w) (fun _ i _=>n-(intOf i).toNat)
 case atStart=>exact⟨0,rfl,rfl,Nat.zero_le _,rfl⟩
 case round=>
  obtain⟨j,rfl,rfl,hj,rfl⟩:=hrel;by_cases hjn:j<n
  rotate_left
  ·have a0:decide ((j:Int)<(n:Int))=false:=by simp;omega
   have a1:decide (j<n)=false:=by simp;omega
   have A:Hid (ttl z (s.take j)=ttl z s):=by
    show _=_;rw[List.take_of_length_le (by rw[<-HN.out];omega)]
   go_wp2_with fail
   (try simp only[Exit.inBlock,Exit.then])
   refine bodyPost_ret (v:=.tuple #[zI (ttl z (s.take j)),.bool true]) (by simp[results,Tryz.results64,go_sem]) rfl ?_;rw[A.out];exact⟨rfl,by first|rfl|trivial⟩
  have D:j<s.length:=by rw[<-HN.out];exact hjn
  obtain⟨g,q,rfl,_,hc⟩:=HR.out j D;obtain⟨x,hx⟩:∃x,x=s[j]:=⟨_,rfl⟩;have r:=HS.out s[j] (List.getElem_mem D);rw[<-hx]at hc r;have ad:=r.1;have ae:=r.2;have E:x.toNat<z.length:=by rw[<-HM.out];omega
  obtain⟨g2,q2,rfl,_,aa⟩:=HZ.out x.toNat E;obtain⟨y,t⟩:∃y,y=z[x.toNat]:=⟨_,rfl⟩;rw[<-t]at aa;have ah:0<=y:=by rw[t];exact o.out.1 _ (List.getElem_mem E)
  have HX:Hid (x=s[j]):=hx;have G:ttl z (s.take (j+1))=ttl z (s.take j)+y:=by
   rw[y4G z s j D,<-HX.out,List.getD_eq_getElem?_getD,List.getElem?_eq_getElem E,t];rfl
  have af:ttl z (s.take (j+1))<=8192:=Int.le_trans (y4F o.out.1 s (j+1)) o.out.2;have ag:0<=ttl z (s.take j):=Ag o.out.1 _;have A:=hid G;obtain⟨k,rfl⟩:∃k:Nat,x=(k:Int):=⟨x.toNat,by omega⟩;rw[Int.toNat_natCast]at aa;obtain⟨u,I⟩:∃u,u=ttl z (s.take j):=⟨_,rfl⟩;rw[<-I]at ag G ⊢;have HU:=hid I;rw[G]at af;have HB:=hid (z5P (m:Int) (k:Int) ad ae);have a0:decide ((j:Int)<(n:Int))=true:=by simp;omega
  have a1:decide (j<n)=true:=by simp;omega
  have ai:(j:Int)<(n:Int):=by omega
  have aj:k<m:=by omega
  have ak:IntKind.i64.wrap (u+y)=u+y:=by rw[IntKind.wrap_i64];omega
  have a2:decide ((8192:Int)<u+y)=false:=by simp;omega
  have al:IntKind.i64.wrap ((j:Int)+1)=(j:Int)+1:=by rw[IntKind.wrap_i64];omega
  clear I hx t r
  go_wp2_with fail
  refine(HB.out _).mono ?_;rintro e w1 ⟨rfl,rfl⟩
  go_wp2_with fail
  go_roundw
  case rel=>exact⟨j+1,by rw[A.out,<-HU.out],by simp,by omega,by first|rfl|trivial⟩
  case measure=>simp[intOf];omega
def OpM(W:World)(g q:Nat)(o:Ox):Prop:=∃so cap,(W.cell? ⟨g,q,none⟩=some (zI o.1)/\W.cell? ⟨g,q+1,none⟩=some (zT o.2.1)/\W.cell? ⟨g,q+2,none⟩=some (zU o.2.2.1.1)/\W.cell? ⟨g,q+3,none⟩=some (zU o.2.2.1.2.1)/\W.cell? ⟨g,q+4,none⟩=some (zU o.2.2.1.2.2.1)/\W.cell? ⟨g,q+5,none⟩=some (zU o.2.2.1.2.2.2)/\W.cell? ⟨g,q+6,none⟩=some (.slice so o.2.2.2.length cap))/\o.2.2.2.length<=1048576/\RwC W (· <W.heap.size) so o.2.2.2
structure PgM (ops:List Ox) (ns:List ByteArray) (ro:List Int) (oso nso rso:Option Addr) (W:World):Prop where
 l2:ops.length<=200
 l6:ns.length<=64
 lr:ro.length=ns.length
 o:∀i (hi:i<ops.length),∃g,oso=some ⟨g,0,none⟩/\g<W.heap.size/\OpM W g (i*7) ops[i]
 n:∀i (hi:i<ns.length),∃g,nso=some ⟨g,0,none⟩/\g<W.heap.size/\W.cell? ⟨g,i,none⟩=some (zT ns[i])
 r:∀i (hi:i<ro.length),∃g,rso=some ⟨g,0,none⟩/\g<W.heap.size/\W.cell? ⟨g,i,none⟩=some (zI ro[i])
theorem OpM.below{W W':World}{g q:Nat}{o:Ox}(h:OpM W g q o)(y:g<W.heap.size)(r:zB W W'):OpM W' g q o:=by
 obtain⟨A,D,⟨c0,c1,c2,c3,E,G,I⟩,hl,U⟩:=h;have k:∀(j:Nat) (u:Value),zC W g j u->zC W' g j u:=fun j u V=>(r.cell (p:=⟨g,j,none⟩) y).trans V
 exact⟨A,D,⟨k _ _ c0,k _ _ c1,k _ _ c2,k _ _ c3,k _ _ E,k _ _ G,k _ _ I⟩,hl,U.keep fun b t=>⟨Nat.lt_of_lt_of_le t r.size,r.block b t⟩⟩
theorem PgM.below{ops:List Ox}{ns:List ByteArray}{ro:List Int}{oso nso rso:Option Addr}{W W':World}(h:PgM ops ns ro oso nso rso W)(y:zB W W'):PgM ops ns ro oso nso rso W':=by
 refine⟨h.l2,h.l6,h.lr,fun i A=> ?_,fun i A=> ?_,fun i A=> ?_⟩
 ·obtain⟨g,e,t,D⟩:=h.o i A
  exact⟨g,e,Nat.lt_of_lt_of_le t y.size,D.below t y⟩
 ·obtain⟨g,e,t,D⟩:=h.n i A
  exact⟨g,e,Nat.lt_of_lt_of_le t y.size,(y.cell (p:=⟨g,i,none⟩) t).trans D⟩
 ·obtain⟨g,e,t,D⟩:=h.r i A
  exact⟨g,e,Nat.lt_of_lt_of_le t y.size,(y.cell (p:=⟨g,i,none⟩) t).trans D⟩
theorem PgM.roots{ops:List Ox}{ns:List ByteArray}{ro:List Int}{oso nso rso:Option Addr}{W:World}(h:PgM ops ns ro oso nso rso W):RwC W (· <W.heap.size) rso ro:=fun j o=>by
 obtain⟨g,e,t,y⟩:=h.r j o;exact⟨g,0,e,t,by rw[Nat.zero_add];exact y⟩
def PgZ(rs:List Rr)(X:Option (Int ⊕ (Int×Int)))(W:World)(e:Ending)(w':World):Prop:=∃oso ol oc nso nl nc rso rl rc ev,e=.returned (.tuple #[.agg #[.slice oso ol oc,.slice nso nl nc,.slice rso rl rc],ev])/\Hid (zB W w')/\
 ((∃tt uu,ev=.iface tt uu/\oso=none/\ol=0/\oc=0/\nso=none/\nl=0/\nc=0/\rso=none/\rl=0/\rc=0/\(soZ rs X≠none∨200<(pgG rs).2.length))∨(ev=.nilIface/\Hid (ol=(pgG rs).2.length/\nl=rs.length/\rl=rs.length/\ol<=oc/\Snd rs/\PrG rs/\PgM (pgG rs).2 (nmL rs) (pgG rs).1 oso nso rso w')))
theorem z0a(D:Option Addr)(n G:Nat)(rs:List Rr)(X:Option (Int ⊕ (Int×Int)))(B:Nat)(fp:Addr)(w:World)(hX:CkX rs X)(I:X=none->PrG rs)(hC:CkC D n G rs X w)(hz:RgZ rs)(hu:RgU rs)(h:Qb w B D n rs)(hB:B<=w.heap.size)(hT:TabIs w)(hF:zC w (1) 0 (.iface 363 (.pointer (some fp))))(ad:Xm w)(W:World)(hW:zB w W):
  Calls prog 15 #[.agg #[.slice D n G]] W (PgZ rs X W):=by
 refine(y3S D n G rs X B fp w hX I hC hz hu h hB hT hF ad W hW).mono fun e w' he=> ?_
 obtain⟨U,⟨y,tt,uu,rfl⟩|⟨_,y,rfl⟩|⟨y,hl,Q,v,vn,vr,xs,B2,rfl,am,V,ae,hq,hn,hr⟩⟩:=he
 ·exact⟨_,_,_,_,_,_,_,_,_,_,rfl,U,.inl ⟨tt,uu,rfl,rfl,rfl,rfl,rfl,rfl,rfl,rfl,rfl,rfl,.inl y⟩⟩
 ·exact⟨_,_,_,_,_,_,_,_,_,_,rfl,U,.inl ⟨_,_,rfl,rfl,rfl,rfl,rfl,rfl,rfl,rfl,rfl,rfl,.inr y⟩⟩
 ·have Y:soZ rs X=none:=Classical.not_not.1 y
  obtain rfl:X=none:=by
   cases X with
   |none=>rfl
   |some x=>unfold soZ at Y;cases Y
  obtain⟨Z,aa,_⟩:=hX;have ab:=(Jm Z).2;obtain⟨_,h2,h3⟩:=z4E Z aa (I rfl) hz hu;obtain⟨oso,oc,ev⟩:=Vm V;obtain⟨nso,nc,en⟩:=Vm hn;obtain⟨rso,rc,er⟩:=Vm hr;have ac:(pgG rs).1.length=rs.length:=(Vp (fun T=>fdI T (nmL rs)) rs []).2.1.1;refine⟨oso,_,oc,nso,_,nc,rso,_,rc,_,by rw[ev,en,er];rfl,U,.inr ⟨rfl,hid ⟨rfl,rfl,rfl,y3X V ev,⟨Z,aa,Y,fun x hx=>(h2 x hx).1,h3,ab⟩,I rfl,hl,by rw[Uy];exact ab,by rw[Uy];exact ac,fun i t=> ?_,fun i t=> ?_,fun i t=> ?_⟩⟩⟩
  ·obtain⟨g,c,o,_,A,r⟩:=Iw V (Nat.lt_of_le_of_lt (Nat.zero_le i) t)
   rw[ev]at o;injection o with o _ _
   obtain⟨cs,⟨af,ag,ah,ai,aj⟩,hx⟩:=ae i t;subst ah;exact⟨g,o,A,af,ag,⟨r (i*7) _ (hx 0 _ rfl),r (i*7+1) _ (hx 1 _ rfl),r (i*7+2) _ (hx 2 _ rfl),r (i*7+3) _ (hx 3 _ rfl),r (i*7+4) _ (hx 4 _ rfl),r (i*7+5) _ (hx 5 _ rfl),r (i*7+6) _ (hx 6 _ rfl)⟩,ai,aj.keep fun b ak=>⟨hq b ak,rfl⟩⟩
  ·have E:i<rs.length:=by rw[Uy]at t;exact t
   obtain⟨g,c,o,_,A,r⟩:=Iw hn (Nat.lt_of_le_of_lt (Nat.zero_le i) E);rw[en]at o;injection o with o _ _
   refine⟨g,o,A,r i _ ?_⟩;have al:(nmL rs)[i]=rs[i].1:=List.getElem_map ..;rw[al];unfold nS;rw[List.getElem?_map,List.getElem?_eq_getElem E];rfl
  ·have E:i<rs.length:=by rw[ac]at t;exact t
   obtain⟨g,c,o,_,A,r⟩:=Iw hr (Nat.lt_of_le_of_lt (Nat.zero_le i) E);rw[er]at o;injection o with o _ _
   refine⟨g,o,A,r i _ ?_⟩;unfold nI;rw[List.getElem?_map];show((pgG rs).1[i]?).map _=_;rw[List.getElem?_eq_getElem t];rfl
theorem y4H(N:zA)(h:N.size<=32)(w:World):Calls prog 62 #[zT N] w fun e w'=>e=.returned (.bool false)/\w'=w:=by
 have o:decide ((32:Int)<(N.size:Int))=false:=by simp;omega
 go_enter func62,ntmps62
 go_wp2_with fail
 go_ret;exact⟨rfl,rfl⟩
theorem y4I(nso:Option Addr)(n nc:Nat)(ns:List ByteArray)(o:n=ns.length)(V:n<=64)(w:World)(h:∀i (Y:i<ns.length),∃g,nso=some ⟨g,0,none⟩/\g<w.heap.size/\zC w g i (zT ns[i]))(r:∀x∈ns,x.size<=32):
  Calls prog 99 #[.slice nso n nc,.func (.func 62) #[] #[]] w fun e w'=>e=.returned (zI (-1))/\w'=w:=by
 have A:Hid (n=ns.length):=o;have D:=hid h;have E:=hid r;clear o h r;go_enter func99,ntmps99
 go_wp2_with fail
 go_loopw [8] (fun i wr=>∃j:Nat,i=zI (j:Int)/\j<=n/\wr=w) (fun i _=>n-(intOf i).toNat)
 case atStart=>exact⟨0,rfl,Nat.zero_le _,rfl⟩
 case round=>
  obtain⟨j,rfl,Z,rfl⟩:=hrel;by_cases hjn:j<n
  rotate_left
  ·have G:decide ((j:Int)<(n:Int))=false:=by simp;omega
   have a1:decide (j<n)=false:=by simp;omega
   go_wp2_with fail
   (try simp only[Exit.inBlock,Exit.then])
   go_ret;exact⟨rfl,by first|rfl|trivial⟩
  have t:j<ns.length:=by rw[<-A.out];exact hjn
  obtain⟨g,rfl,hg,I⟩:=D.out j t;obtain⟨x,hx⟩:∃x,x=ns[j]:=⟨_,rfl⟩;have y:=E.out ns[j] (List.getElem_mem t);rw[<-hx]at I y;have U:=hid (y4H x y);have G:decide ((j:Int)<(n:Int))=true:=by simp;omega
  have a1:decide (j<n)=true:=by simp;omega
  have aa:(j:Int)<(n:Int):=by omega
  have ab:IntKind.i64.wrap ((j:Int)+1)=(j:Int)+1:=by rw[IntKind.wrap_i64];omega
  clear hx
  go_wp2_with fail
  refine(U.out _).mono ?_;rintro e w1 ⟨rfl,rfl⟩
  go_wp2_with fail
  go_roundw
  case rel=>exact⟨j+1,by simp,by omega,by first|rfl|trivial⟩
  case measure=>simp[intOf];omega
theorem y4J(nso:Option Addr)(n nc:Nat)(ns:List ByteArray)(o:n=ns.length)(r:n<=64)(w:World)(h:∀i (A:i<ns.length),∃g,nso=some ⟨g,0,none⟩/\g<w.heap.size/\zC w g i (zT ns[i]))(t:∀x∈ns,x.size<=32):
  Calls prog 61 #[.slice nso n nc,.func (.func 62) #[] #[]] w fun e w'=>e=.returned (.bool false)/\w'=w:=by
 have y:=hid (y4I nso n nc ns o r w h t);clear o r h t;go_enter func61,ntmps61
 go_wp2_with fail
 refine y.out.mono ?_;rintro e D ⟨rfl,rfl⟩
 go_wp2_with fail
 go_ret;exact⟨rfl,rfl⟩
def szO(z:List Int)(o:Ox):Int:=if o.1=5 then 1 else 1+(o.2.1.size:Int)+ttl z o.2.2.2
theorem y4K(M:zA)(a b c d r:Int)(o G:Option Addr)(t m I:Nat)(k:Int)(w:World)(h:RwC w (· <w.heap.size) o [r])(y:0<=r)(A:r<k):
  Calls prog 63 #[.agg #[zI 5,zT M,zU a,zU b,zU c,zU d,.slice o 1 t],.slice G m I,zI k] w fun e w'=>e=.returned (.tuple #[zI 1,.bool true])/\zB w w':=by
 obtain⟨g,q,rfl,D,E⟩:=h 0 (by simp);have E:zC w g q (zI r):=E;have D:g<w.heap.size:=D;have Y:g<w.heap.size+1:=by omega
 have U:=hid (z5P k r y A);have V:Hid (zB w (w.alloc (.cells #[zI 5,zT M,zU a,zU b,zU c,zU d,.slice (some ⟨g,q,none⟩) 1 t] 56))):=(Below.refl _ w).alloc L0q _;clear h y A;go_enter func63,ntmps63
 go_wp2_with fail
 refine(U.out _).mono ?_;rintro e Z ⟨rfl,rfl⟩
 go_wp2_with fail
 refine bodyPost_ret (v:=.tuple #[zI 1,.bool true]) (by simp[results,Tryz.results63,go_sem]) rfl ?_;exact⟨rfl,V.out⟩
theorem y4L(kd:Int)(M:zA)(a b c d:Int)(r y:Option Addr)(n A m I:Nat)(s z:List Int)(k:Int)(w:World)(h5:kd≠5)(U:n=s.length)(V:m=z.length)(h:RwC w (· <w.heap.size) r s)(P2:Nat->Prop)(Y:RwC w (fun b=>b<w.heap.size) y z)(D:∀x∈z,0<=x)(Z:∀x∈s,0<=x/\x<(m:Int))(ht:ttl z s<=8192)(hl:n<=1048576)(hM:M.size<=1073741824):
  Calls prog 63 #[.agg #[zI kd,zT M,zU a,zU b,zU c,zU d,.slice r n A],.slice y m I,zI k] w fun e w'=>e=.returned (.tuple #[zI (1+(M.size:Int)+ttl z s),.bool true])/\zB w w':=by
 obtain⟨W,E⟩:∃W,W=w.alloc (.cells #[zI kd,zT M,zU a,zU b,zU c,zU d,.slice r n A] 56):=⟨_,rfl⟩;have o:zB w W:=by rw[E];exact(Below.refl _ w).alloc L0q _
 have HB:Hid (zB w W):=o;have G:=hid (z5Q r y A I n m s z U V (· <W.heap.size) (· <W.heap.size) W (h.keep fun x hx=>⟨Nat.lt_of_lt_of_le hx o.size,o.block x hx⟩) (Y.keep fun x hx=>⟨Nat.lt_of_lt_of_le hx o.size,o.block x hx⟩) D Z ht hl);have h0:=Ag D s;obtain⟨u,hu⟩:∃u,u=ttl z s:=⟨_,rfl⟩;rw[<-hu]at G h0 ht ⊢;have a0:(kd == 5)=false:=by simpa using h5
 have aa:IntKind.i64.wrap (1+(M.size:Int))=1+(M.size:Int):=by rw[IntKind.wrap_i64];omega
 have ab:IntKind.i64.wrap (1+(M.size:Int)+u)=1+(M.size:Int)+u:=by rw[IntKind.wrap_i64];omega
 have t:=hid E;clear U V h Y D Z E o hu;go_enter func63,ntmps63
 go_wp2_with fail
 rw[<-t.out];refine G.out.mono ?_;rintro e w1 ⟨rfl,hw⟩;rw[hw,t.out];rw[t.out]at HB;clear hw t G
 go_wp2_with fail
 refine bodyPost_ret (v:=.tuple #[zI (1+(M.size:Int)+u),.bool true]) (by simp[results,Tryz.results63,go_sem]) rfl ?_;exact⟨rfl,HB.out⟩
def zsF(z:List Int):List Ox->List Int
 |[]=>z
 |o::r=>zsF (z++[szO z o]) r
theorem z0b(b:List Ox):∀(a:List Ox) (z:List Int),zsF z (a++b)=zsF (zsF z a) b
 |[],z=>by rw[List.nil_append,zsF]
 |o::r,z=>by rw[List.cons_append,zsF,zsF,z0b b r]
theorem Ip:∀(a:List Ox) (z:List Int),(zsF z a).length=z.length+a.length
 |[],z=>by rw[zsF];rfl
 |o::r,z=>by rw[zsF,Ip r,List.length_append,List.length_cons,List.length_cons,List.length_nil];omega
theorem z5R(ops:List Ox)(j:Nat)(h:j<ops.length):zsF [] (ops.take (j+1))=zsF [] (ops.take j)++[szO (zsF [] (ops.take j)) ops[j]]:=by
 rw[List.take_succ_eq_append_getElem h,z0b,zsF,zsF]
theorem y4M{z:List Int}(h:∀x∈z,0<=x)(o:Ox):1<=szO z o:=by
 unfold szO;split
 ·exact Int.le_refl _
 ·have:=Ag h o.2.2.2
  omega
theorem z0c:∀(a:List Ox) (z:List Int),(∀x∈z,0<=x)->∀x∈zsF z a,0<=x
 |[],z,h=>by rw[zsF];exact h
 |o::r,z,h=>by
  rw[zsF];refine z0c r _ fun x hx=> ?_
  rcases List.mem_append.1 hx with hx|hx
  ·exact h x hx
  ·obtain rfl:x=szO z o:=by simpa using hx
   have:=y4M h o;omega
structure Unf (ops:List Ox) (ns:List ByteArray) (ro:List Int):Prop where
 rf:∀i (hi:i<ops.length),ops[i].1=5->∃r,ops[i].2.2.2=[r]/\0<=r/\r<(ns.length:Int)
 ot:∀i (hi:i<ops.length),ops[i].1≠5->(∀x∈ops[i].2.2.2,0<=x/\x<(i:Int))/\ttl (zsF [] (ops.take i)) ops[i].2.2.2<=8192
 tx:∀i (hi:i<ops.length),ops[i].2.1.size<=1073741824
 rt:∀x∈ro,0<=x/\x<(ops.length:Int)
 tt:ttl (zsF [] ops) ro<=8192
 nm:∀x∈ns,x.size<=32
theorem z5S{W:World}{B n:Nat}{v:Value}{s:List Int}{o:Option Addr}{r:Nat}(h:W.ownsRow B 3 1 v n (nI s))(E:n=s.length)(t:v=.slice o n r):RwC W (· <W.heap.size) o s:=fun j y=>by
 obtain⟨g,c,e,_,A,D⟩:=Iw h (by omega);rw[t]at e;injection e with e _ _
 refine⟨g,0,e,A,?_⟩;rw[Nat.zero_add];refine D j _ ?_;unfold nI;rw[List.getElem?_map,List.getElem?_eq_getElem y];rfl
theorem y4N(z:List Int)(o:Ox)(m:Nat)(k:Int)(t y:Option Addr)(A D:Nat)(w:World)(I:m=z.length)(U:o.1=5->∃r,o.2.2.2=[r]/\0<=r/\r<k)(G:o.1≠5->(∀x∈o.2.2.2,0<=x/\x<(m:Int))/\ttl z o.2.2.2<=8192)(V:o.2.1.size<=1073741824)(Y:∀x∈z,0<=x)(hl:o.2.2.2.length<=1048576)(h:RwC w (· <w.heap.size) t o.2.2.2)(Z:RwC w (· <w.heap.size) y z):
  Calls prog 63 #[.agg #[zI o.1,zT o.2.1,zU o.2.2.1.1,zU o.2.2.1.2.1,zU o.2.2.1.2.2.1,zU o.2.2.1.2.2.2,.slice t o.2.2.2.length A],.slice y m D,zI k] w fun e w'=>e=.returned (.tuple #[zI (szO z o),.bool true])/\zB w w':=by
 obtain⟨kd,M,⟨a,b,c,d⟩,s⟩:=o;unfold szO;by_cases h5:kd=5
 ·subst h5
  obtain⟨r,E,h0,h1⟩:=U rfl;have E:s=[r]:=E;subst E;exact y4K M a b c d r t y A m D k w h h0 h1
 ·rw[if_neg h5]
  exact y4L kd M a b c d t y _ A m D s z k w h5 rfl I h (fun _=>True) Z Y (G h5).1 (G h5).2 hl V
theorem y4O(ops:List Ox)(ns:List ByteArray)(ro:List Int)(oso nso rso:Option Addr)(r oc nl nc t rc:Nat)(w:World)(ae:r=ops.length)(I:nl=ns.length)(af:t=ro.length)(h:PgM ops ns ro oso nso rso w)(hu:Unf ops ns ro):
  Calls prog 36 #[.agg #[.slice oso r oc,.slice nso nl nc,.slice rso t rc]] w fun e w'=>e=.returned (.bool true)/\zB w w':=by
 obtain⟨iT,aD,aE,aF,aG⟩:=info_parts Tryz.infoInt;obtain rfl:t=nl:=by rw[af,I];exact h.lr
 obtain⟨W,U⟩:∃W,W=w.alloc (.cells #[.slice oso r oc,.slice nso t nc,.slice rso t rc] 26):=⟨_,rfl⟩;obtain⟨p,hp⟩:∃p,p=w.heap.size:=⟨_,rfl⟩;have A:zB w W:=by rw[U];exact(Below.refl _ w).alloc L0q _
 have E:zH W p (.cells #[.slice oso r oc,.slice nso t nc,.slice rso t rc] 26):=by rw[U,hp];exact Qx w _ rfl
 have am:W.heap.size=p+1:=by rw[U,hp];simp
 have hM:=h.below A;have g0:zC W p 0 (.slice oso r oc):=(Qj E 0 _ rfl).1;have g1:zC W p 1 (.slice nso t nc):=(Qj E 1 _ rfl).1;have g2:zC W p 2 (.slice rso t rc):=(Qj E 2 _ rfl).1;have l0:=Qq E;have aT:r<=200:=by rw[ae];exact h.l2
 have aH:t<=64:=by rw[I];exact h.l6
 have HC:=hid (y4J nso t nc ns I aH W hM.n hu.nm);have ao:Hid (zB w W):=A;have HM:=hid hM;have G:=hid hu;have ab:Hid (r=ops.length):=ae;have aI:Hid (t=ns.length):=I;have aJ:Hid (t=ro.length):=af;have ap:=hid E;have aq:=hid am;have HW:=hid U;have Hp:=hid hp;have a0:decide ((200:Int)<(r:Int))=false:=by simp;omega
 have a1:decide ((64:Int)<(t:Int))=false:=by simp;omega
 clear U hp A E am hM h hu ae I af;go_enter func36,ntmps36
 go_wp2_with fail
 rw[<-HW.out,<-Hp.out];refine HC.out.mono ?_;rintro e w1 ⟨rfl,ar⟩;rw[ar];clear ar HC HW
 go_wp2_with fail
 clear g0 g1 g2 l0 a0 a1
 go_loopw [3,35] (fun v i wr=>∃j:Nat,i=zI (j:Int)/\j<=r/\Hid (zB W wr)/\Hid (wr.ownsRow (p+1) 3 1 v j (nI (zsF [] (ops.take j))))) (fun _ i _=>r-(intOf i).toNat)
 case atStart=>exact⟨0,rfl,Nat.zero_le _,hid B0q,hid (World.ownsRow_nil _ _ _ _)⟩
 case round=>
  obtain⟨j,rfl,hj,D,V⟩:=hrel;have ac:=hid ((D.out.block _ (Qq ap.out)).trans ap.out);have g0:zC wr p 0 (.slice oso r oc):=(Qj ac.out 0 _ rfl).1;have g1:zC wr p 1 (.slice nso t nc):=(Qj ac.out 1 _ rfl).1;have g2:zC wr p 2 (.slice rso t rc):=(Qj ac.out 2 _ rfl).1;have lp:=Qq ac.out;obtain⟨au,av,hv⟩:=Vm V.out;have Y:(zsF [] (ops.take j)).length=j:=by rw[Ip,List.length_take,<-ab.out];simp;omega
  by_cases hjn:j<r
  rotate_left
  ·have a0:decide ((j:Int)<(r:Int))=false:=by simp;omega
   have a1:decide (j<r)=false:=by simp;omega
   obtain rfl:j=r:=by omega
   have ag:zsF [] (ops.take j)=zsF [] ops:=by rw[List.take_of_length_le (by rw[<-ab.out];omega)]
   have aw:=(HM.out.below D.out).roots;have HT:=hid (z5Q rso au rc av t j ro (zsF [] ops) aJ.out (by rw[<-ag];exact Y.symm) _ _ wr aw (z5S V.out (by rw[Y]) hv|>fun h=>by rw[ag]at h;exact h) (z0c _ _ (fun x hx=>by cases hx)) (fun x hx=>by have:=G.out.rt x hx;rw[<-ab.out]at this;exact this) G.out.tt (by omega));have aK:=hid (ao.out.trans (D.out.mono ao.out.size));subst hv;clear Y ag aw HM G
   go_wp2_with fail
   (try simp only[Exit.inBlock,Exit.then])
   refine HT.out.mono ?_;rintro e w5 ⟨rfl,ax⟩;rw[ax];clear ax
   go_wp2_with fail
   go_ret;exact⟨rfl,aK.out⟩
  have Z:j<ops.length:=by rw[<-ab.out];exact hjn
  obtain⟨g,rfl,hg,so,aL,⟨c0,c1,c2,c3,c4,c5,c6⟩,ah,ai⟩:=(HM.out.below D.out).o j Z;obtain⟨o,ho⟩:∃o,o=ops[j]:=⟨_,rfl⟩;have aj:=G.out.rf j Z;have ak:=G.out.ot j Z;have al:=G.out.tx j Z;rw[<-ho]at c0 c1 c2 c3 c4 c5 c6 ah ai aj ak al;have HS:=hid (fun(w':World) (A:zB wr w')=>y4N (zsF [] (ops.take j)) o j (t:Int) so au aL av w' Y.symm (by rw[aI.out];exact aj) ak al (z0c _ _ (fun x hx=>by cases hx)) ah (ai.keep fun b aa=>⟨Nat.lt_of_lt_of_le aa A.size,A.block b aa⟩) ((z5S V.out Y.symm hv).keep fun b aa=>⟨Nat.lt_of_lt_of_le aa A.size,A.block b aa⟩));have HZ:Hid (zsF [] (ops.take (j+1))=zsF [] (ops.take j)++[szO (zsF [] (ops.take j)) o]):=by rw[ho];exact z5R ops j Z
  obtain⟨y,hy⟩:∃y,y=szO (zsF [] (ops.take j)) o:=⟨_,rfl⟩;rw[<-hy]at HS HZ;obtain⟨sl,ay⟩:∃sl,sl=o.2.2.2.length:=⟨_,rfl⟩;rw[<-ay]at c6 HS;have a0:decide ((j:Int)<(r:Int))=true:=by simp;omega
  have a1:decide (j<r)=true:=by simp;omega
  have aU:(j:Int)<(r:Int):=by omega
  have aV:IntKind.i64.wrap ((j:Int)+1)=(j:Int)+1:=by rw[IntKind.wrap_i64];omega
  have aM:p+1<=wr.heap.size:=by have:=D.out.size;rw[aq.out]at this;exact this
  have aN:=hid aM;subst hv;clear ho hy ay aj ak al ai ah
  go_wp2_with fail
  refine(HS.out _ ((Below.refl _ wr).alloc L0q _)).mono ?_;rintro e w2 ⟨rfl,az⟩;have ad:zB wr w2:=((Below.refl _ wr).alloc L0q _).trans (az.mono (by simp));have aO:=hid ad;have aA:=hid (Xh V.out ad);have aP:p+1<=w2.heap.size:=Nat.le_trans aN.out ad.size;have aW:=hid aP;clear az ad HS V c0 c1 c2 c3 c4 c5 c6
  go_wp2_with(first|(at_builtin;refine wpList_append_own _ rfl (.tmp 50) (.tmp 52) 24 rfl (p+1) 3 iT (zI 0) 1 8 Tryz.underlying24 aD aE aF aG rfl (by decide) _ _ _ rfl (aA.out.alloc _) ⟨w2.heap.size,0,none⟩ 1 1 [zI y] rfl rfl (cell_one_new _ _ _) (by simp[Value.oneCell']) (by unfold maxLen;omega) (by omega) (by simp;omega) ?_;intro v3 w3 aB aC aQ))
  have aR:Hid (zB W w3):=by
   have h1:=(D.out.trans (aO.out.mono D.out.size));have h2:=h1.alloc h1.size (.cells #[zI y] 3);refine h2.grown aC (by have:=h1.size;simp;omega) (fun b e=> ?_);have:=(aA.out.lt b e).1;rw[aq.out];exact this
  have aS:Hid (w3.ownsRow (p+1) 3 1 v3 (j+1) (nI (zsF [] (ops.take (j+1))))):=by
   show w3.ownsRow _ _ _ _ _ _;rw[HZ.out];unfold nI;rw[List.map_append];exact aB
  clear aB aC aQ
  go_roundw
  case rel=>exact⟨j+1,by simp,by omega,aR,aS⟩
  case measure=>simp[intOf];omega
end Go.Proofs.YtgnkkgcgbeianaaGreatDoor
