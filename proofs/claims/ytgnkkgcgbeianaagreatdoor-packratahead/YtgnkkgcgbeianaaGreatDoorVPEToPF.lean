/- Lemmas for the last text. Conditions: those that each names. -/
import Derived.Test.YtgnkkgcgbeianaaGreatDoorVPAToPD
import Derived.Test.YtgnkkgcgbeianaaGreatDoorVC10aToHA
import Derived.ChangeKeys
set_option linter.unusedVariables false
namespace Go.Proofs.YtgnkkgcgbeianaaGreatDoor
open Go.Proofs.Tryz
section
open Go.RowKit Go.Shelf Go.Maps
theorem z6U(u:Nat):∀x∈Lib.decDigits u,x≠32:=by
 induction u using Nat.strongRecOn with
 |_ u ih=>
  intro x hx;rw[Lib.decDigits]at hx;have o:∀d:Nat,d<10->UInt8.ofNat (48+d)≠32:=fun d hd e=>by
   have:=congrArg UInt8.toNat e;rw[UInt8.toNat_ofNat']at this;have r:(32:UInt8).toNat=32:=rfl;rw[r]at this;omega
  by_cases h:u<10
  ·rw[dif_pos h]at hx
   obtain rfl:x=UInt8.ofNat (48+u):=by simpa using hx
   exact o u h
  ·rw[dif_neg h]at hx
   rcases List.mem_append.1 hx with hx|hx
   ·exact ih (u/10) (by omega) x hx
   ·obtain rfl:x=UInt8.ofNat (48+u%10):=by simpa using hx
    exact o _ (by omega)
theorem z6V(u:Nat):Lib.decDigits u≠[]:=by
 rw[Lib.decDigits];split<;>simp
theorem z6W{a b:Nat}(ha:a<10)(o:b<10)(h:UInt8.ofNat (48+a)=UInt8.ofNat (48+b)):a=b:=by
 have:=congrArg UInt8.toNat h;rw[UInt8.toNat_ofNat',UInt8.toNat_ofNat']at this;omega
theorem z0P{u:Nat}(h:¬u<10):Lib.decDigits u=Lib.decDigits (u/10)++[UInt8.ofNat (48+u%10)]:=by rw[Lib.decDigits,dif_neg h]
theorem y6L(u:Nat):∀v,Lib.decDigits u=Lib.decDigits v->u=v:=by
 induction u using Nat.strongRecOn with
 |_ u ih=>
  intro v h;by_cases hu:u<10
  ·rw[Lib.decDigits_one hu]at h
   by_cases hv:v<10
   ·rw[Lib.decDigits_one hv]at h
    injection h with h
    exact z6W hu hv h
   ·rw[z0P hv]at h
    have o:=congrArg List.length h;have r:=List.length_pos_iff.2 (z6V (v/10));simp only[List.length_append,List.length_cons,List.length_nil]at o;omega
  ·rw[z0P hu]at h
   by_cases hv:v<10
   ·rw[Lib.decDigits_one hv]at h
    have o:=congrArg List.length h;have r:=List.length_pos_iff.2 (z6V (u/10));simp only[List.length_append,List.length_cons,List.length_nil]at o;omega
   ·rw[z0P hv]at h
    obtain⟨o,r⟩:=List.append_inj' h rfl;have t:=ih (u/10) (by omega) _ o;injection r with r
    have y:=z6W (by omega) (by omega) r;omega
theorem y6M{a b r s:List UInt8}(ha:∀x∈a,x≠32)(t:∀x∈b,x≠32):a++32::r=b++32::s->a=b/\r=s:=by
 induction a generalizing b with
 |nil=>
  cases b with
  |nil=>intro h;injection h with _ h;exact⟨rfl,h⟩
  |cons y b=>intro h;injection h with h _;exact absurd h.symm (t y (by simp))
 |cons x a ih=>
  cases b with
  |nil=>intro h;injection h with h _;exact absurd h (ha x (by simp))
  |cons y b=>
   intro h;injection h with h1 h2
   obtain⟨A,D⟩:=ih (fun z o=>ha z (by simp[o])) (fun z o=>t z (by simp[o])) h2;exact⟨by rw[h1,A],D⟩
theorem z6X{x:Int}(h:0<=x):Lib.itoa x=Lib.decDigits x.toNat:=by
 unfold Lib.itoa;rw[if_neg (by omega)]
theorem z6Y:∀(l l':List Int),(∀x∈l,0<=x)->(∀x∈l',0<=x)->sbT l=sbT l'->l=l'
 |[],[],_,_,_=>rfl
 |[],y::l',_,_,h=>by rw[sbT,sbT]at h;have:=congrArg List.length h;simp at this
 |x::l,[],_,_,h=>by rw[sbT,sbT]at h;have:=congrArg List.length h;simp at this
 |x::l,y::l',hl,hl',h=>by
  rw[sbT,sbT,z6X (hl x (by simp)),z6X (hl' y (by simp))]at h;obtain⟨r,t⟩:=y6M (z6U _) (z6U _) h;have D:=y6L _ _ r;have hx:=hl x (by simp);have E:=hl' y (by simp);have A:=z6Y l l' (fun z o=>hl z (by simp[o])) (fun z o=>hl' z (by simp[o])) t;rw[A];congr 1;omega
def Wx(o:Ox):Prop:=qW o/\∀x∈o.2.2.2,0<=x
theorem y6N{o r:Ox}(h:Wx o)(D:Wx r)(e:qB o=qB r):o=r:=by
 obtain⟨k,N,⟨a,b,c,d⟩,s⟩:=o;obtain⟨k',y,⟨E,G,I,U⟩,A⟩:=r;obtain⟨⟨V,Y,Z,w4,w5,w6,w7⟩,w8⟩:=h;obtain⟨⟨v1,v2,v3,v4,v5,v6,v7⟩,v8⟩:=D;have hl:=keyBytes_inj (l:=[.int .i64 k,.string N.data.toList,.int .u64 a,.int .u64 b,.int .u64 c,.int .u64 d,.string (sbT s)]) (l':=[.int .i64 k',.string y.data.toList,.int .u64 E,.int .u64 G,.int .u64 I,.int .u64 U,.string (sbT A)])
  ⟨rfl,trivial,rfl,rfl,rfl,rfl,trivial,trivial⟩
  (by
    intro x hx;simp only[List.mem_cons,List.not_mem_nil,or_false]at hx;rcases hx with rfl|rfl|rfl|rfl|rfl|rfl|rfl
    ·exact V
    ·exact Y
    ·exact Z
    ·exact w4
    ·exact w5
    ·exact w6
    ·exact w7)
  (by
    intro x hx;simp only[List.mem_cons,List.not_mem_nil,or_false]at hx;rcases hx with rfl|rfl|rfl|rfl|rfl|rfl|rfl
    ·exact v1
    ·exact v2
    ·exact v3
    ·exact v4
    ·exact v5
    ·exact v6
    ·exact v7) e
 simp only[List.cons.injEq,Lit.int.injEq,Lit.string.injEq,true_and,and_true]at hl;obtain⟨rfl,t,rfl,rfl,rfl,rfl,hs⟩:=hl;have t:N=y:=by
  apply ByteArray.ext;exact Array.toList_inj.1 t
 rw[t,z6Y s A w8 v8 hs]
theorem z6Z{s:List UInt8}:∀{l:List (List UInt8)},inA s l=true->l[ixA s l]? =some s
 |[],h=>by simp[inA]at h
 |x::l,h=>by
  unfold ixA;unfold inA at h;by_cases e:x=s
  ·simp[e]
  ·simp[e]at h ⊢
   exact z6Z h
theorem y6O{o:Ox}{ops:List Ox}(y:Wx o)(ha:∀r∈ops,Wx r):(plO o ops).2[(plO o ops).1]? =some o/\(∀r∈(plO o ops).2,Wx r)/\∃l,(plO o ops).2=ops++l/\(l=[]∨l=[o]):=by
 unfold plO;split
 ·rename_i h
  have A:=z6Z h;rw[List.getElem?_map]at A;obtain⟨r,D,E⟩:=Option.map_eq_some_iff.1 A;have:=y6N (ha r (List.mem_of_getElem? D)) y E;subst this;exact⟨D,ha,[],by simp,.inl rfl⟩
 ·refine⟨by simp,fun r t=> ?_,[o],rfl,.inr rfl⟩
  rcases List.mem_append.1 t with t|t
  ·exact ha r t
  ·obtain rfl:r=o:=by simpa using t
   exact y
mutual
def Dn(ix:ByteArray->Int)(ops:List Ox):RT->Int->Prop
 | .mk k T a b c d s _,n=>0<=n/\((k=5/\ops[n.toNat]? =some (5,{data:=#[]},(0,0,0,0),[ix T]))∨(k≠5/\∃l,ops[n.toNat]? =some (k,T,(a,b,c,d),l)/\DnL ix ops s l))
def DnL(ix:ByteArray->Int)(ops:List Ox):List RT->List Int->Prop
 |[],l=>l=[]
 |t::r,l=>∃n l',l=n::l'/\Dn ix ops t n/\DnL ix ops r l'
end
mutual
theorem Dn.mono{ix:ByteArray->Int}{ops:List Ox}(m:List Ox):∀(t:RT) (n:Int),Dn ix ops t n->Dn ix (ops++m) t n
 | .mk k T a b c d s p,n,h=>by
   rw[Dn]at h ⊢;have r:∀o,ops[n.toNat]? =some o->(ops++m)[n.toNat]? =some o:=fun o A=>by
    rw[List.getElem?_append_left (List.getElem?_eq_some_iff.1 A).1];exact A
   refine⟨h.1,h.2.imp (fun x=>⟨x.1,r _ x.2⟩) fun⟨x,l,y,z⟩=>⟨x,l,r _ y,DnL.mono m s l z⟩⟩
theorem DnL.mono{ix:ByteArray->Int}{ops:List Ox}(m:List Ox):∀(s:List RT) (l:List Int),DnL ix ops s l->DnL ix (ops++m) s l
 |[],l,h=>by rw[DnL]at h ⊢;exact h
 |t::r,l,h=>by
  rw[DnL]at h ⊢;obtain⟨n,l',o,y,A⟩:=h;exact⟨n,l',o,Dn.mono m t n y,DnL.mono m r l' A⟩
end
def Src(Pt:RT->Prop)(ix:ByteArray->Int)(ops:List Ox):Prop:=(∀o∈ops,Wx o)/\∀k,k<ops.length->∃t,Pt t/\Dn ix ops t (k:Int)
theorem z7a{A:RT->Prop}{ix:ByteArray->Int}{ops:List Ox}{o:Ox}(E:Wx o)(h:Src A ix ops){t:RT}(G:A t)(hd:∀D:List Ox,(∃m,D=ops++m)->∀n:Int,0<=n->D[n.toNat]? =some o->Dn ix D t n):Src A ix (plO o ops).2/\Dn ix (plO o ops).2 t ((plO o ops).1:Int):=by
 obtain⟨I,U,l,r,V⟩:=y6O E h.1;have Y:Dn ix (plO o ops).2 t ((plO o ops).1:Int):=hd _ ⟨l,r⟩ _ (by omega) I;refine⟨⟨U,fun k y=> ?_⟩,Y⟩;by_cases e:k<ops.length
 ·obtain⟨u,Z,aa⟩:=h.2 k e
  exact⟨u,Z,by rw[r];exact Dn.mono l u _ aa⟩
 ·refine⟨t,G,?_⟩
  rcases V with rfl|rfl
  ·rw[r,List.append_nil]at y;exact absurd y e
  ·rw[r,List.length_append]at y
   obtain rfl:k=ops.length:=by simp at y;omega
   refine hd _ ⟨_,r⟩ _ (by omega) ?_;rw[r];simp
theorem y6P{x:Int}(h:0<=x)(o:x<=1048576):Wx (5,{data:=#[]},(0,0,0,0),[x]):=⟨(z0z x ⟨by omega,o⟩).1,fun y r=>by
 obtain rfl:y=x:=by simpa using r
 exact h⟩
mutual
theorem z7b{r:RT->Prop}{ix:ByteArray->Int}(D:∀k T a b c d s p,r (.mk k T a b c d s p)->∀t∈s,r t)(E:∀t,r t->TrK t)(hx:∀T a b c d s p,r (.mk 5 T a b c d s p)->0<=ix T/\ix T<=1048576):∀(t:RT) (ops:List Ox),r t->ops.length+ndT t<=1048576->Src r ix ops->Src r ix (mkT ix t ops).2/\Dn ix (mkT ix t ops).2 t ((mkT ix t ops).1:Int)
 | .mk k T a b c d s p,ops,ht,y,h=>by
   rw[mkT];rw[ndT]at y;by_cases h5:k=5
   ·subst h5
    rw[if_pos rfl];have G:=hx _ _ _ _ _ _ _ ht;refine z7a (y6P G.1 G.2) h ht fun U _ n y A=> ?_
    rw[Dn];exact⟨y,.inl ⟨rfl,A⟩⟩
   ·rw[if_neg h5]
    obtain⟨V,Y⟩:=z7c D E hx s ops (D _ _ _ _ _ _ _ _ ht) (by omega) h;obtain⟨l1,⟨Z,I⟩,l4,l5⟩:=Dx ix s ops;have o:=E _ ht;rw[TrK]at o;have hw:Wx (k,T,(a,b,c,d),(mkL ix s ops).1):=by
     refine⟨⟨o.1.1,?_,o.1.2.2.1,o.1.2.2.2.1,o.1.2.2.2.2.1,o.1.2.2.2.2.2.1,?_⟩,fun x hx=>(I x hx).1⟩
     ·have:=o.1.2.1
      show T.size<=maxLen;unfold maxLen;omega
     ·have h8:=z0y (mkL ix s ops).2.length (by omega) _ I
      have h9:=o.1.2.2.2.2.2.2;show(sbT (mkL ix s ops).1).length<=maxLen;rw[Z]at h8;unfold maxLen;omega
    refine z7a hw V ht fun U hm n y A=> ?_
    obtain⟨m,rfl⟩:=hm;rw[Dn];exact⟨y,.inr ⟨h5,_,A,DnL.mono m s _ Y⟩⟩
theorem z7c{o:RT->Prop}{ix:ByteArray->Int}(y:∀k T a b c d s p,o (.mk k T a b c d s p)->∀t∈s,o t)(A:∀t,o t->TrK t)(hx:∀T a b c d s p,o (.mk 5 T a b c d s p)->0<=ix T/\ix T<=1048576):∀(s:List RT) (ops:List Ox),(∀t∈s,o t)->ops.length+ndL s<=1048576->Src o ix ops->Src o ix (mkL ix s ops).2/\DnL ix (mkL ix s ops).2 s (mkL ix s ops).1
 |[],ops,_,_,h=>by rw[mkL,DnL];exact⟨h,rfl⟩
 |t::r,ops,ht,hn,h=>by
  rw[ndL]at hn;rw[mkL];obtain⟨D,E⟩:=z7b y A hx t ops (ht t (by simp)) (by omega) h;obtain⟨_,Y,Z,l4⟩:=Ic ix t ops;obtain⟨G,I⟩:=z7c y A hx r (mkT ix t ops).2 (fun u U=>ht u (by simp[U])) (by omega) D;obtain⟨_,_,m,V⟩:=Dx ix r (mkT ix t ops).2;refine⟨G,?_⟩;rw[DnL];refine⟨_,_,rfl,?_,I⟩;show Dn ix (mkL ix r (mkT ix t ops).2).2 t _;rw[V];exact Dn.mono m t _ E
end
theorem z0Q{o:RT->Prop}{ix:ByteArray->Int}(A:∀k T a b c d s p,o (.mk k T a b c d s p)->∀t∈s,o t)(D:∀t,o t->TrK t)(hx:∀T a b c d s p,o (.mk 5 T a b c d s p)->0<=ix T/\ix T<=1048576):∀(s:List Rr) (ops:List Ox),(∀x∈s,o x.2.1)->ops.length+ndG s<=1048576->Src o ix ops->Src o ix (mkG ix s ops).2/\∀j (y:j<s.length),∃n,(mkG ix s ops).1[j]? =some n/\Dn ix (mkG ix s ops).2 s[j].2.1 n
 |[],ops,_,_,h=>by rw[mkG];exact⟨h,fun j y=>by simp at y⟩
 |x::r,ops,ht,hn,h=>by
  rw[ndG]at hn;rw[mkG];obtain⟨E,G⟩:=z7b A D hx x.2.1 ops (ht x (by simp)) (by omega) h;obtain⟨_,Z,l3,l4⟩:=Ic ix x.2.1 ops;obtain⟨I,U⟩:=z0Q A D hx r (mkT ix x.2.1 ops).2 (fun u V=>ht u (by simp[V])) (by omega) E;obtain⟨_,_,m,Y⟩:=Uv ix r (mkT ix x.2.1 ops).2;refine⟨I,fun j y=> ?_⟩;cases j with
  |zero=>
   refine⟨_,rfl,?_⟩;show Dn ix (mkG ix r (mkT ix x.2.1 ops).2).2 x.2.1 _;rw[Y];exact Dn.mono m _ _ G
  |succ j=>exact U j (by simpa using y)
section
variable {B:ByteArray->Option RT} {T:ByteArray} {ops:List Ox} {ro:List Int} {ix:ByteArray->Int}
def Mm(ops:List Ox)(ro:List Int)(T:ByteArray)(ix:ByteArray->Int):Jb->Nat->Option Nat->Nat->Prop
 | .one t,i,e,n=>∀k,Dn ix ops t k->Mo ops ro T (.nd k) i e n
 | .row s,i,e,n=>∀l,DnL ix ops s l->Mo ops ro T (.row l) i e n
 | .alt s,i,e,n=>∀l,DnL ix ops s l->Mo ops ro T (.alt l) i e n
 | .rep t,i,e,n=>∀k,Dn ix ops t k->Mo ops ro T (.rep k) i e n
theorem Jw{k:Int}{N:ByteArray}{a b c d:Int}{s:List RT}{p n:Int}(h:Dn ix ops (.mk k N a b c d s p) n)(o:k≠5):∃l,ops[n.toNat]? =some (k,N,(a,b,c,d),l)/\DnL ix ops s l:=by
 rw[Dn]at h;rcases h.2 with h|h
 ·exact absurd h.1 o
 ·exact h.2
theorem z7d(E:∀N t,B N=some t->∃q,ro[(ix N).toNat]? =some q/\Dn ix ops t q){j:Jb}{i:Nat}{e:Option Nat}{n:Nat}(h:Mt B T j i e n):Mm ops ro T ix j i e n:=by
 induction h with
 |emp=>intro k o;obtain⟨l,y,r⟩:=Jw o (by decide);exact .nd y .emp
 |lit=>intro k o;obtain⟨l,y,r⟩:=Jw o (by decide);exact .nd y .lit
 |set=>intro k o;obtain⟨l,y,r⟩:=Jw o (by decide);exact .nd y .set
 |any=>intro k o;obtain⟨l,y,r⟩:=Jw o (by decide);exact .nd y .any
 |ref y _ ih=>
  intro k o;rw[Dn]at o;rcases o.2 with⟨_,o⟩|⟨o,_⟩
  ·obtain⟨q,r,A⟩:=E _ _ y
   exact .nd o (.ref r (ih q A))
  ·exact absurd rfl o
 |seq _ ih=>intro k o;obtain⟨l,y,r⟩:=Jw o (by decide);exact .nd y (.seq (ih l r))
 |cho _ ih=>intro k o;obtain⟨l,y,r⟩:=Jw o (by decide);exact .nd y (.cho (ih l r))
 |opt _ ih=>intro k o;obtain⟨l,y,r⟩:=Jw o (by decide);rw[DnL]at r;obtain⟨m,l',rfl,A,_⟩:=r;exact .nd y (.opt (ih m A))
 |star _ ih=>intro k o;obtain⟨l,y,r⟩:=Jw o (by decide);rw[DnL]at r;obtain⟨m,l',rfl,A,_⟩:=r;exact .nd y (.star (ih m A))
 |plus_no _ ih=>intro k o;obtain⟨l,y,r⟩:=Jw o (by decide);rw[DnL]at r;obtain⟨m,l',rfl,A,_⟩:=r;exact .nd y (.plus_no (ih m A))
 |plus_ok _ _ ih1 ih2=>intro k o;obtain⟨l,y,r⟩:=Jw o (by decide);rw[DnL]at r;obtain⟨m,l',rfl,A,_⟩:=r;exact .nd y (.plus_ok (ih1 m A) (ih2 m A))
 |and _ ih=>intro k o;obtain⟨l,y,r⟩:=Jw o (by decide);rw[DnL]at r;obtain⟨m,l',rfl,A,_⟩:=r;exact .nd y (.and (ih m A))
 |not _ ih=>intro k o;obtain⟨l,y,r⟩:=Jw o (by decide);rw[DnL]at r;obtain⟨m,l',rfl,A,_⟩:=r;exact .nd y (.not (ih m A))
 |row_nil=>intro l hl;rw[DnL]at hl;subst hl;exact .row_nil
 |row_no _ ih=>intro l hl;rw[DnL]at hl;obtain⟨m,l',rfl,A,_⟩:=hl;exact .row_no (ih m A)
 |row_ok _ _ ih1 ih2=>intro l hl;rw[DnL]at hl;obtain⟨m,l',rfl,A,D⟩:=hl;exact .row_ok (ih1 m A) (ih2 l' D)
 |alt_nil=>intro l hl;rw[DnL]at hl;subst hl;exact .alt_nil
 |alt_ok _ ih=>intro l hl;rw[DnL]at hl;obtain⟨m,l',rfl,A,_⟩:=hl;exact .alt_ok (ih m A)
 |alt_no _ _ ih1 ih2=>intro l hl;rw[DnL]at hl;obtain⟨m,l',rfl,A,D⟩:=hl;exact .alt_no (ih1 m A) (ih2 l' D)
 |rep_end _ ih=>intro k o;exact .rep_end (ih k o)
 |rep_go _ _ ih1 ih2=>intro k o;exact .rep_go (ih1 k o) (ih2 k o)
end
end
section
open Go.RowKit Go.Shelf Go.Maps
def Ptt(rs:List Rr)(t:RT):Prop:=okT t=true/\flT (kG rs) t=none/\(∀y∈rfT t,inN y.1 (nmL rs)=true)/\TrK t
theorem y6Q{s:List RT}(h:Fz s){t:RT}(o:t∈s):TrK t:=by
 obtain⟨j,r,rfl⟩:=List.getElem_of_mem o;exact z0A h j r
theorem ok5{N:ByteArray}{a b c d:Int}{s:List RT}{p:Int}(h:okT (.mk 5 N a b c d s p)=true):s=[]:=by
 rw[okT,Bool.and_eq_true]at h;have:=h.1;unfold okN at this;simp at this;have o:Qb s=0:=by omega
 cases s with
 |nil=>rfl
 |cons=>simp[Qb]at o
theorem Lc{rs:List Rr}:∀k T a b c d s p,Ptt rs (.mk k T a b c d s p)->∀t∈s,Ptt rs t:=fun k T a b c d s p ⟨r,o,D,A⟩ t h=>by
 have E:k≠5:=fun e=>by
  subst e;rw[ok5 r]at h;cases h
 rw[okT,Bool.and_eq_true]at r;rw[flT]at o;rw[TrK]at A;have G:flL (kG rs) s=none:=by
  by_cases e:(k=9∨k=10)/\(ofH (kG rs) s).1=true
  ·rw[if_pos e]at o;cases o
  ·rw[if_neg e]at o;exact o
 refine⟨z0G r.2 t h,z0F G t h,fun y I=>D y ?_,y6Q A.2 h⟩;rw[rfT,if_neg E];exact Bq h I
theorem z7e{rs:List Rr}(hl:rs.length<=64):∀T a b c d s p,Ptt rs (.mk 5 T a b c d s p)->0<=fdI T (nmL rs)/\fdI T (nmL rs)<=1048576:=fun T a b c d s p ⟨_,_,o,_⟩=>by
 have h:=o (T,p) (by rw[rfT,if_pos rfl];exact List.mem_singleton.2 rfl);have:=Fm T (nmL rs) h;rw[Um]at this;unfold fdI;rw[if_pos h];omega
structure Snd (rs:List Rr):Prop where
 ok:okG rs=true
 ck:ckR rs=none
 so:soZ rs none=none
 tr:∀x∈rs,TrK x.2.1
 nd:ndG rs<=1048576
 len:rs.length<=64
theorem Snd.pt{rs:List Rr}(h:Snd rs){x:Rr}(hx:x∈rs):Ptt rs x.2.1:=⟨z0L h.ok hx,Lh (z0K h.so) x hx,Lm h.ck hx,h.tr x hx⟩
theorem Snd.src{rs:List Rr}(h:Snd rs):Src (Ptt rs) (fun T=>fdI T (nmL rs)) (pgG rs).2/\∀j (D:j<rs.length),∃n,(pgG rs).1[j]? =some n/\Dn (fun T=>fdI T (nmL rs)) (pgG rs).2 rs[j].2.1 n:=
 z0Q Lc (fun t r=>r.2.2.2) (z7e h.len) rs [] (fun x hx=>h.pt hx) (by have:=h.nd;simpa using this) ⟨(fun o y=>by cases y),fun k A=>by simp at A⟩
theorem Snd.roots{rs:List Rr}(h:Snd rs):∀N t,bdQ rs N=some t->∃q,(pgG rs).1[(fdI N (nmL rs)).toNat]? =some q/\Dn (fun T=>fdI T (nmL rs)) (pgG rs).2 t q:=fun N t o=>by
 have r:inN N (nmL rs)=true:=by
  obtain⟨x,hx,rfl,_⟩:=Ng o;exact z0j.2 (List.mem_map.2 ⟨x,hx,rfl⟩)
 obtain⟨y,A⟩:=Ld r;rw[A]at o;obtain rfl:=Option.some.inj o;obtain⟨n,D,E⟩:=h.src.2 _ y;refine⟨n,?_,E⟩;unfold fdI;rw[if_pos r,Int.toNat_natCast];exact D
theorem Snd.tot{rs:List Rr}(h:Snd rs)(T:ByteArray){t:RT}(r:Ptt rs t){i:Nat}(D:i<=T.size):Dv (bdQ rs) T (.one t) i:=by
 have G:∀N t,bdQ rs N=some t->ofT (kG rs) t=kG rs N:=fun N t o=>by
  obtain⟨x,hx,rfl,rfl⟩:=Ng o;exact z0J h.ck x hx
 have E:∀i',i'<=T.size->∀N A,bdQ rs N=some A->Dv (bdQ rs) T (.one A) i':=fun i' I N A o=>by
  obtain⟨x,hx,rfl,rfl⟩:=Ng o;obtain⟨q,U,rfl⟩:=List.getElem_of_mem hx;exact y6H h.ok h.ck h.so T _ _ q i' U L0q L0q I
 refine z0H G _ t (Nat.lt_succ_self _) r.1 r.2.1 (fun y V=> ?_) i D (fun i' _ Y=>E i' Y) (fun N _=>E i D N);obtain⟨_,o⟩:=Ld (r.2.2.1 y V);exact⟨_,o⟩
theorem y6R{ops:List Ox}{o:Ox}(h:o∈ops):∃k,k<ops.length/\ops[k]? =some o:=by
 obtain⟨k,r,rfl⟩:=List.getElem_of_mem h;exact⟨k,r,List.getElem?_eq_getElem r⟩
theorem Snd.wfo{rs:List Rr}(h:Snd rs)(T:ByteArray):Wfo (pgG rs).2 (pgG rs).1 T:=by
 have Z:=h.src.1;have aa:∀o∈(pgG rs).2,(o.1=5)∨∃N a b c d s p,okT (.mk o.1 N a b c d s p)=true/\DnL (fun T=>fdI T (nmL rs)) (pgG rs).2 s o.2.2.2/\Ptt rs (.mk o.1 N a b c d s p):=fun o A=>by
  obtain⟨k,G,ab⟩:=y6R A;obtain⟨t,I,hd⟩:=Z.2 k G;obtain⟨kd,N,a,b,c,d,s,p⟩:=t;rw[Dn,Int.toNat_natCast]at hd;rcases hd.2 with⟨_,y⟩|⟨_,l,y,D⟩
  ·rw[ab]at y
   cases y;exact .inl rfl
  ·rw[ab]at y
   cases y;exact .inr ⟨N,a,b,c,d,s,p,I.1,D,I⟩
 refine⟨fun o A=>(Z.1 o A).2,fun x hx=> ?_,?_,fun o A G=> ?_,fun o A G=> ?_⟩
 ·exact((Uv (fun T=>fdI T (nmL rs)) rs []).2.1.2 x hx).1
 ·intro k M cl k' l G i x n hi hM
  obtain⟨t,I,hd⟩:=Z.2 k.toNat (List.getElem?_eq_some_iff.1 G).1;obtain⟨kd,N,a,b,c,d,s,p⟩:=t;rw[Dn,Int.toNat_natCast]at hd;rcases hd.2 with⟨_,y⟩|⟨_,l',y,D⟩
  ·rw[G]at y;cases y
  ·rw[G]at y
   cases y;have E:=I.1;rw[okT,Bool.and_eq_true]at E;have h4:=E.1;unfold okN at h4;simp at h4;obtain⟨V,rfl⟩:=z6L (s:=s) (by omega);rw[DnL]at D;obtain⟨n',af,e1,ad,_⟩:=D;cases e1;have ae:=Lc _ _ _ _ _ _ _ _ I V (by simp);obtain⟨e,n2,ac⟩:=h.tot T ae hi;have hB:∀N t,bdQ rs N=some t->ofT (kG rs) t=kG rs N:=fun N t U=>by
    obtain⟨x,hx,rfl,rfl⟩:=Ng U;exact z0J h.ck x hx
   obtain⟨rfl,_⟩:=z0M hM (z7d h.roots ac k' ad);have A:okO (ofT (kG rs) V) i (some x):=Lb hB ac;have hz:(ofT (kG rs) V).1=false:=by
    cases hz:(ofT (kG rs) V).1 with
    |false=>rfl
    |true=>
     have Y:=I.2.1;rw[flT,if_pos ⟨.inr rfl,by rw[ofH];exact hz⟩]at Y;cases Y
   rcases Nat.lt_or_ge i x with U|U
   ·exact U
   ·have:=A.2.1 (Nat.le_antisymm U A.1)
    rw[hz]at this;cases this
 ·rcases aa o A with Y|⟨N,a,b,c,d,s,p,y,D,_⟩
  ·omega
  ·rw[okT,Bool.and_eq_true]at y
   have E:=y.1;unfold okN at E;have h0:Qb s=0:=by
    rcases G with e|e|e|e<;>rw[e]at E<;>simp at E<;>omega
   cases s with
   |nil=>rw[DnL]at D;exact D
   |cons=>simp[Qb]at h0
 ·rcases aa o A with Y|⟨N,a,b,c,d,s,p,y,D,_⟩
  ·omega
  ·rw[okT,Bool.and_eq_true]at y
   have E:=y.1;unfold okN at E;have h0:2<=Qb s:=by
    rcases G with e|e<;>rw[e]at E<;>simp at E<;>omega
   cases s with
   |nil=>simp[Qb]at h0
   |cons t r=>
    rw[DnL]at D;obtain⟨n,l',e,_⟩:=D;rw[e];simp
def N0:Nt:=fun _ _=>none
theorem y6S(L M:Nat):crd L M N0=0:=by
 unfold crd N0;simp
theorem y6T{rs:List Rr}(h:Snd rs)(T:ByteArray)(mo j i:Nat)(y:j<rs.length)(A:i<=T.size):∃e n o c r,Mt (bdQ rs) T (.one rs[j].2.1) i e n/\(pgG rs).1[j]? =some r/\0<=r/\c<=n/\c<=(pgG rs).2.length*(T.size+1)/\(c<=mo->∃q,Mch (pgG rs).2 (pgG rs).1 T mo N0 0 [] (.beg r i) (some (e,c,o)) q)/\(mo<c->∃q,Mch (pgG rs).2 (pgG rs).1 T mo N0 0 [] (.beg r i) none q):=by
 obtain⟨e,n,D⟩:=h.tot T (h.pt (List.getElem_mem y)) A;obtain⟨r,E,hd⟩:=h.src.2 j y;have G:0<=r:=((Uv (fun T=>fdI T (nmL rs)) rs []).2.1.2 r (List.mem_of_getElem? E)).1;have I:Mo (pgG rs).2 (pgG rs).1 T (.nd r) i e n:=z7d h.roots D r hd;obtain⟨o,c,v,x,a,b,d,f,g⟩:=y6K (mo:=mo) (h.wfo T) I A G N0 0 [] (fun k i e h=>by cases h);rw[y6S]at d;refine⟨e,n,o,c,r,D,E,G,by omega,?_,fun t=>f t _ _ .done,fun t=>g (Nat.zero_le _) t⟩;have:=y6J (pgG rs).2.length (T.size+1) o;omega
section
variable {ops:List Ox} {ro:List Int} {T:ByteArray} {mo:Nat}
theorem Ll{N:Nt}{c:Nat}{S:List Wq}{m:Mde}{r:Option (Option Nat×Nat×Nt)}{q:Nat}(h:Mch ops ro T mo N c S m r q):∀{e:Option Nat} {o:Nat} {t:Nt},r=some (e,o,t)->c<=o:=by
 induction h with
 |done=>intro e o t h;cases h;exact Nat.le_refl _
 |bud _=>intro e o t h;cases h
 |noted _ _ ih=>exact ih
 |leaf _ _ _ _ _ ih=>intro e o t h;have:=ih h;omega
 |push _ _ _ _ _ ih=>intro e o t h;have:=ih h;omega
 |next _ _ _ ih=>exact ih
 |pop _ _ _ ih=>exact ih
theorem y6U{N:Nt}{c:Nat}{S:List Wq}{k:Int}{i:Nat}{e:Option Nat}{o:Nat}{r:Nt}{q:Nat}(h:Mch ops ro T mo N c S (.beg k i) (some (e,o,r)) q)(t:N k i=none):c+1<=o:=by
 cases h with
 |noted h1 _=>rw[t]at h1;cases h1
 |leaf _ _ _ _ h=>exact Ll h rfl
 |push _ _ _ _ h=>exact Ll h rfl
theorem y6V{A:Nat}{N:Nt}{c:Nat}{S:List Wq}{m:Mde}{r:Option (Option Nat×Nat×Nt)}{q:Nat}(h:Mch ops ro T mo N c S m r q):∀{e:Option Nat} {o:Nat} {y:Nt},r=some (e,o,y)->o<=A->Mch ops ro T A N c S m r q:=by
 induction h with
 |done=>intro e o y h _;exact .done
 |bud _=>intro e o y h;cases h
 |noted h1 _ ih=>intro e o y h t;exact .noted h1 (ih h t)
 |leaf h1 h2 h3 h4 h5 ih=>intro e o y h t;have:=Ll h5 h;exact .leaf h1 (by omega) h3 h4 (ih h t)
 |push h1 h2 h3 h4 h5 ih=>intro e o y h t;have:=Ll h5 h;exact .push h1 (by omega) h3 h4 (ih h t)
 |next h1 h2 _ ih=>intro e o y h t;exact .next h1 h2 (ih h t)
 |pop h1 h2 _ ih=>intro e o y h t;exact .pop h1 h2 (ih h t)
theorem y6W{U:Nat}{N:Nt}{c:Nat}{S:List Wq}{m:Mde}{r:Option (Option Nat×Nat×Nt)}{q:Nat}(h:Mch ops ro T mo N c S m r q):∀{e:Option Nat} {y:Nat} {E:Nt},r=some (e,y,E)->c<=U->U<y->∃V,Mch ops ro T U N c S m none V:=by
 induction h with
 |done=>intro e y E h t I;cases h;omega
 |bud _=>intro e y E h;cases h
 |noted t _ ih=>intro e y E h G A;obtain⟨q,D⟩:=ih h G A;exact⟨_,.noted t D⟩
 | @leaf N c S k i o r q t I h3 h4 h5 ih=>
   intro e y E h G A;by_cases hc:c=U
   ·subst hc;exact⟨_,.bud t⟩
   ·obtain⟨q,D⟩:=ih h (by omega) A;exact⟨_,.leaf t hc h3 h4 D⟩
 | @push N c S k i o r q t I h3 h4 h5 ih=>
   intro e y E h G A;by_cases hc:c=U
   ·subst hc;exact⟨_,.bud t⟩
   ·obtain⟨q,D⟩:=ih h (by omega) A;exact⟨_,.push t hc h3 h4 D⟩
 |next t I _ ih=>intro e y E h G A;obtain⟨q,D⟩:=ih h G A;exact⟨_,.next t I D⟩
 |pop t I _ ih=>intro e y E h G A;obtain⟨q,D⟩:=ih h G A;exact⟨_,.pop t I D⟩
end
end
end Go.Proofs.YtgnkkgcgbeianaaGreatDoor
