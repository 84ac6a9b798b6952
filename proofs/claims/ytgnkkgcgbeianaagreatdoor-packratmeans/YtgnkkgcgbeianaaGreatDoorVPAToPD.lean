/- Lemmas for the last text. Conditions: those that each names. -/
import Derived.Test.YtgnkkgcgbeianaaGreatDoorVC9ToHA
import Derived.Test.YtgnkkgcgbeianaaGreatDoorVT21ToC4
import Derived.Test.YtgnkkgcgbeianaaGreatDoorVU15ToT11
import Derived.Test.YtgnkkgcgbeianaaGreatDoorVU9ToU14
import Derived.Test.YtgnkkgcgbeianaaGreatDoorVR8ToO4
set_option linter.unusedVariables false
namespace Go.Proofs.YtgnkkgcgbeianaaGreatDoor
open Go.Proofs.Tryz
section
open Go.RowKit Go.Shelf
section
variable {B:ByteArray->Option RT} {T:ByteArray} {K:ByteArray->Ot}
def Dv(B:zA->Option RT)(T:zA)(j:Jb)(i:Nat):Prop:=∃e n,Mt B T j i e n
def Ltr(B:zA->Option RT)(T:zA)(i:Nat):Prop:=∀i',i<i'->i'<=T.size->∀N t',B N=some t'->Dv B T (.one t') i'
def Hds(B:zA->Option RT)(T:zA)(l:List ByteArray)(i:Nat):Prop:=∀N∈l,∀t',B N=some t'->Dv B T (.one t') i
def Gd(B:zA->Option RT)(T:zA)(K:zA->Ot)(t:RT):Prop:=∀i,i<=T.size->Ltr B T i->Hds B T (fbT K t) i->Dv B T (.one t) i
theorem Ltr.on{i x:Nat}(h:Ltr B T i)(hx:i<=x):Ltr B T x:=fun o t r=>h o (by omega) r
theorem Ltr.heads{i x:Nat}(h:Ltr B T i)(hx:i<x)(o:x<=T.size)(l:List ByteArray):Hds B T l x:=fun N _ r t=>h x hx o N r t
theorem Th(y:∀N t,B N=some t->ofT K t=K N):∀(s:List RT),(∀t∈s,Gd B T K t)->∀i,i<=T.size->Ltr B T i->Hds B T (fbL K true s) i->Dv B T (.row s) i
 |[],_,i,_,_,_=>⟨_,_,.row_nil⟩
 |t::r,hg,i,hi,hl,hh=>by
  rw[fbL]at hh;obtain⟨e,n,o⟩:=hg t (by simp) i hi hl (fun N A=>hh N (List.mem_append_left _ A));cases e with
  |none=>exact⟨_,_,.row_no o⟩
  |some x=>
   obtain⟨G,E⟩:=Kh o hi x rfl;have I:okO (ofT K t) i (some x):=Iy y o;have U:Dv B T (.row r) x:=by
    rcases Nat.lt_or_ge i x with h|h
    ·exact Th y r (fun u D=>hg u (by simp[D])) x E (hl.on G) (hl.heads h E _)
    ·obtain rfl:x=i:=by omega
     have V:=I.2.1 rfl;refine Th y r (fun u D=>hg u (by simp[D])) x hi hl (fun N A=>hh N (List.mem_append_right _ ?_));simp[V,A]
   obtain⟨Z,n2,Y⟩:=U;exact⟨_,_,.row_ok o Y⟩
theorem z4Q:∀(s:List RT),(∀t∈s,Gd B T K t)->∀i,i<=T.size->Ltr B T i->Hds B T (fbL K false s) i->Dv B T (.alt s) i
 |[],_,i,_,_,_=>⟨_,_,.alt_nil⟩
 |t::r,hg,i,hi,hl,hh=>by
  rw[fbL]at hh;obtain⟨e,n,o⟩:=hg t (by simp) i hi hl (fun N h=>hh N (List.mem_append_left _ h));cases e with
  |some x=>exact⟨_,_,.alt_ok o⟩
  |none=>
   obtain⟨D,E,y⟩:=z4Q r (fun u A=>hg u (by simp[A])) i hi hl (fun N h=>hh N (List.mem_append_right _ (by simpa using h)));exact⟨_,_,.alt_no o y⟩
theorem Td(r:∀N t,B N=some t->ofT K t=K N){t:RT}(y:Gd B T K t)(A:(ofT K t).1=false):∀(d i:Nat),T.size-i<=d->i<=T.size->Ltr B T i->Hds B T (fbT K t) i->Dv B T (.rep t) i
 |d,i,hd,hi,hl,hh=>by
  obtain⟨e,n,o⟩:=y i hi hl hh;cases e with
  |none=>exact⟨_,_,.rep_end o⟩
  |some x=>
   obtain⟨E,D⟩:=Kh o hi x rfl;have G:okO (ofT K t) i (some x):=Iy r o;have hx:i<x:=by
    rcases Nat.lt_or_ge i x with h|h
    ·exact h
    ·have:=G.2.1 (by omega)
     rw[A]at this;cases this
   match d,hd with
   |0,hd=>omega
   |d+1,hd=>
    obtain⟨U,V,I⟩:=Td r y A d x (by omega) D (hl.on E) (hl.heads hx D _);exact⟨_,_,.rep_go o I⟩
theorem z4R{s:List RT}(h:Qv s=1):∃t,s=[t]:=by
 match s,h with
 |[],h=>simp[Qv]at h
 |[t],_=>exact⟨t,rfl⟩
 |_::_::_,h=>simp[Qv]at h
theorem Tp{K:zA->Ot}:∀{s:List RT},flL K s=none->∀t∈s,flT K t=none
 |[],_,t,h=>by simp at h
 |a::r,hf,t,h=>by
  rw[flL]at hf;cases ha:flT K a with
  |some p=>rw[ha]at hf;cases hf
  |none=>
   rw[ha]at hf;rcases List.mem_cons.1 h with rfl|h
   ·exact ha
   ·exact Tp hf t h
theorem Tc:∀{s:List RT},okL s=true->∀t∈s,okT t=true
 |[],_,t,h=>by simp at h
 |a::r,ho,t,h=>by
  rw[okL,Bool.and_eq_true]at ho;rcases List.mem_cons.1 h with rfl|h
  ·exact ho.1
  ·exact Tc ho.2 t h
theorem y4c{t:RT}:∀{s:List RT},t∈s->SizeOf.sizeOf t<SizeOf.sizeOf s:=fun h=>List.sizeOf_lt_of_mem h
theorem Tl(E:∀N t,B N=some t->ofT K t=K N):∀(Q:Nat) (t:RT),SizeOf.sizeOf t<Q->okT t=true->flT K t=none->(∀y∈rfT t,∃D,B y.1=some D)->Gd B T K t
 |0,t,h=>by omega
 |Q+1,.mk k N a b c d s p,h=>by
  intro U A ad i G hl V;rw[okT,Bool.and_eq_true]at U;rw[flT]at A;rw[fbT]at V;have Z:∀t∈s,Gd B T K t:=by
   have ag:flL K s=none:=by
    by_cases e:(k=9∨k=10)/\(ofH K s).1=true
    ·rw[if_pos e]at A;cases A
    ·rw[if_neg e]at A;exact A
   intro t I;refine Tl E Q t ?_ (Tc U.2 t I) (Tp ag t I) (fun y hy=>ad y ?_)
   ·have:=y4c I
    simp at h;omega
   ·rw[rfT]
    by_cases h5:k=5
    ·exfalso
     subst h5;have:=U.1;unfold okN at this;simp at this;have h0:Qv s=0:=by omega
     cases s with
     |nil=>cases I
     |cons=>simp[Qv]at h0
    ·simp[h5,Aj I hy]
  have r:=U.1;unfold okN at r;by_cases h14:k=1∨k=4
  ·rcases h14 with rfl|rfl
   ·exact⟨_,_,.emp⟩
   ·exact⟨_,_,.any⟩
  rw[if_neg h14]at r;by_cases h2:k=2
  ·subst h2;exact⟨_,_,.lit⟩
  rw[if_neg h2]at r;by_cases h3:k=3
  ·subst h3;exact⟨_,_,.set⟩
  rw[if_neg h3]at r;by_cases h5:k=5
  ·subst h5
   obtain⟨D,ae⟩:=ad (N,p) (by rw[rfT];simp);obtain⟨e,n,o⟩:=V N (by simp) D ae;exact⟨_,_,.ref ae o⟩
  rw[if_neg h5]at r V;have Y:∀M∈fbL K (decide (k=6)) s,∀D,B M=some D->Dv B T (.one D) i:=fun M o=>V M (by simpa using o)
  by_cases h6:k=6
  ·subst h6
   obtain⟨e,n,o⟩:=Th E s Z i G hl Y;exact⟨_,_,.seq o⟩
  have ah:decide (k=6)=false:=by simp[h6]
  rw[ah]at Y;by_cases h7:k=7
  ·subst h7
   obtain⟨e,n,o⟩:=z4Q s Z i G hl Y;exact⟨_,_,.cho o⟩
  rw[if_neg (by omega)]at r;by_cases h8:8<=k/\k<=12
  ·rw[if_pos h8]at r
   simp only[Bool.and_eq_true,beq_iff_eq]at r;obtain⟨t,rfl⟩:=z4R (s:=s) (by omega);have aa:=Z t (by simp);have af:Hds B T (fbT K t) i:=fun M o=>Y M (by rw[fbL];exact List.mem_append_left _ o)
   obtain⟨e,n,o⟩:=aa i G hl af;have ab:k=9∨k=10->(ofT K t).1=false:=fun hk=>by
    cases hz:(ofT K t).1 with
    |false=>rfl
    |true=>
     rw[if_pos ⟨hk,by rw[ofH];exact hz⟩]at A;cases A
   rcases(by omega:k=8∨k=9∨k=10∨k=11∨k=12)with rfl|rfl|rfl|rfl|rfl
   ·exact⟨_,_,.opt o⟩
   ·obtain⟨e2,n2,ac⟩:=Td E aa (ab (.inl rfl)) _ i L0q G hl af
    exact⟨_,_,.star ac⟩
   ·cases e with
    |none=>exact⟨_,_,.plus_no o⟩
    |some x=>
     obtain⟨l1,l2⟩:=Kh o G x rfl;have ho:okO (ofT K t) i (some x):=Iy E o;have hx:i<x:=by
      rcases Nat.lt_or_ge i x with h|h
      ·exact h
      ·have:=ho.2.1 (by omega)
       rw[ab (.inr rfl)]at this;cases this
     obtain⟨e2,n2,ac⟩:=Td E aa (ab (.inr rfl)) _ x L0q l2 (hl.on l1) (hl.heads hx l2 _);exact⟨_,_,.plus_ok o ac⟩
   ·exact⟨_,_,.and o⟩
   ·exact⟨_,_,.not o⟩
  ·rw[if_neg h8]at r
   cases r
end
end
open Go.RowKit Go.Shelf
theorem z4S(K:zA->Ot):∀rs:List Rr,lck K rs<=3*rs.length
 |[]=>Nat.le_refl _
 |x::r=>by
  have:=z4S K r;rw[lck,List.length_cons];omega
theorem Wz{rs:List Rr}(t:∀x∈rs,∀y∈rs,y.1=x.1->y=x){K0:zA->Ot}:∀(r l:List Rr) (K:zA->Ot) (b:Bool) (n:Nat),Rnd rs K0 K l b n->(∀x∈r,x∈rs)->∃A D E,Rnd rs K0 A (l++r) D E
 |[],l,K,b,n,h,_=>⟨K,b,n,by rw[List.append_nil];exact h⟩
 |x::r,l,K,b,n,h,hr=>by
  have hx:=hr x (by simp);have e:l++x::r=(l++[x])++r:=by simp
  rw[e];by_cases hs:ofT K x.2.1=K x.1
  ·exact Wz t r _ K b n (h.same hs) (fun y o=>hr y (by simp[o]))
  ·exact Wz t r _ _ true (n+1) (h.new hx (fun y o=>t x hx y o) hs) (fun y o=>hr y (by simp[o]))
theorem y4d{rs:List Rr}(t:ckR rs=none):∃m,Xk (itr rs m) rs:=by
 have y:∀(k m:Nat),Dj (itr rs m) rs->lck (itr rs m) rs<=k->∃A,Xk (itr rs A) rs:=by
  intro k
  induction k using Nat.strongRecOn with
  |_ k ih=>
   intro m D hl;obtain⟨E,b,n,h⟩:=Wz (z3q t) rs.reverse [] _ false 0 (Rnd.start D (by have:=z4S (itr rs m) rs;omega)) (fun x hx=>List.mem_reverse.1 hx);rw[List.nil_append]at h;cases b with
   |false=>exact⟨m,h.fix.2⟩
   |true=>
    have o:=h.yes rfl;have r:=h.inv;rw[h.last]at o r;exact ih (lck (itr rs (m+1)) rs) (Nat.lt_of_lt_of_le o hl) (m+1) r L0q
 exact y _ 0 (z3j rs) L0q
theorem If{K:zA->Ot}:∀{rs:List Rr},flG K rs=none->∀x∈rs,flT K x.2.1=none
 |[],_,x,hx=>by simp at hx
 |a::r,h,x,hx=>by
  rw[flG]at h;cases e:flT K a.2.1 with
  |some p=>rw[e]at h;cases h
  |none=>
   rw[e]at h;rcases List.mem_cons.1 hx with rfl|hx
   ·exact e
   ·exact If h x hx
theorem z4T{K:zA->Ot}:∀{rs:List Rr},(∀x∈rs,flT K x.2.1=none)->flG K rs=none
 |[],_=>by rw[flG]
 |a::r,h=>by
  rw[flG,h a (by simp)];exact z4T fun x hx=>h x (by simp[hx])
theorem y4e{rs:List Rr}{i:Nat}(h:i<rs.length):(bgU rs).getD i []=bgR rs (kG rs) rs[i]:=by
 unfold bgU;rw[List.getD_eq_getElem?_getD,List.getElem?_map,List.getElem?_eq_getElem h];rfl
def bdQ(rs:List Rr)(N:zA):Option RT:=(rs[ixN N (nmL rs)]?).map (·.2.1)
theorem z4U{s:zA}:∀(l:List ByteArray) (i:Nat),ixN s l=i->∀x,l[i]? =some x->x=s
 |[],i,_,x,h=>by simp at h
 |y::l,i,hi,x,h=>by
  unfold ixN at hi;by_cases e:y=s
  ·simp[e]at hi
   subst hi;simp at h;exact h.symm.trans e
  ·simp[e]at hi
   subst hi;rw[show(y::l)[ixN s l+1]? =l[ixN s l]? from rfl]at h;exact z4U l _ rfl x h
theorem Kd{rs:List Rr}{N:zA}{t:RT}(h:bdQ rs N=some t):∃x∈rs,x.1=N/\x.2.1=t:=by
 unfold bdQ at h;cases hx:rs[ixN N (nmL rs)]? with
 |none=>rw[hx]at h;cases h
 |some x=>
  rw[hx]at h;refine⟨x,List.mem_of_getElem? hx,?_,Option.some.inj h⟩;refine z4U (nmL rs) _ rfl _ ?_;rw[show(nmL rs)[ixN N (nmL rs)]? =(rs[ixN N (nmL rs)]?).map (·.1)from List.getElem?_map ..,hx];rfl
theorem Uy(rs:List Rr):(nmL rs).length=rs.length:=List.length_map _
theorem Ig{rs:List Rr}{N:zA}(h:inN N (nmL rs)=true):∃(o:ixN N (nmL rs)<rs.length),bdQ rs N=some (rs[ixN N (nmL rs)]'o).2.1:=by
 have o:=Gk N (nmL rs) h;rw[Uy]at o;refine⟨o,?_⟩;unfold bdQ;rw[List.getElem?_eq_getElem o];rfl
theorem Wj{rs:List Rr}(o:ckR rs=none):Xk (kG rs) rs:=by
 obtain⟨m,h⟩:=y4d o;rw[<-Sh h];exact h
theorem Wk{rs:List Rr}(h:soZ rs none=none):flG (kG rs) rs=none:=by
 unfold soZ at h;simp only at h;cases e:flX (kG rs) rs with
 |some x=>rw[e]at h;cases h
 |none=>
  unfold flX at e;cases e2:flG (kG rs) rs with
  |none=>rfl
  |some p=>rw[e2]at e;cases e
theorem Wv{rs:List Rr}(h:okG rs=true){x:Rr}(hx:x∈rs):okT x.2.1=true:=by
 unfold okG at h;simp only[Bool.and_eq_true,List.all_eq_true]at h;have:=h.2.2 x hx;unfold okR at this;simp only[Bool.and_eq_true]at this;exact this.2
theorem Ib{rs:List Rr}(h:ckR rs=none){x:Rr}(hx:x∈rs):∀y∈rfT x.2.1,inN y.1 (nmL rs)=true:=fun y o=>Aq (Hy h) y (Ky.2 ⟨x,hx,o⟩)
theorem y4f{rs:List Rr}(G:okG rs=true)(r:ckR rs=none)(V:soZ rs none=none)(T:zA):∀(D R j i:Nat) (A:j<rs.length),T.size-i<=D->rkP (bgU rs) j<=R->i<=T.size->Dv (bdQ rs) T (.one rs[j].2.1) i:=by
 have ab:=Wj r;have ac:=If (Wk V);have hB:∀N t,bdQ rs N=some t->ofT (kG rs) t=kG rs N:=fun N t h=>by
  obtain⟨x,hx,rfl,rfl⟩:=Kd h;exact ab x hx
 have ad:=y3m V;have hg:∀i x,x∈(bgU rs).getD i []->∃m:Nat,m<(bgU rs).length/\x=(m:Int):=fun i x hx=>by
  rw[List.getD_eq_getElem?_getD]at hx;cases e:(bgU rs)[i]? with
  |none=>rw[e]at hx;simp at hx
  |some u=>
   rw[e]at hx;rw[Iz];exact z4h G r u (List.mem_of_getElem? e) x hx
 intro D
 induction D using Nat.strongRecOn with
 |_ D ihD=>
  intro R
  induction R using Nat.strongRecOn with
  |_ R ihR=>
   intro j i A hD hR Y;have o:rs[j]∈rs:=List.getElem_mem A;refine Tl hB _ _ (Nat.lt_succ_self _) (Wv G o) (ac _ o) (fun y I=> ?_) i Y ?_ ?_
   ·obtain⟨_,h⟩:=Ig (Ib r o y I)
    exact⟨_,h⟩
   ·intro Z h1 h2 N t' E
    obtain⟨x,hx,rfl,rfl⟩:=Kd E;obtain⟨q,U,rfl⟩:=List.getElem_of_mem hx;exact ihD (T.size-Z) (by omega) _ q Z U L0q L0q h2
   ·intro N hN t' E
    obtain⟨y,I,rfl⟩:=Sw _ _ (Nat.lt_succ_self _) (Wv G o) N hN;have aa:=Ib r o y I;obtain⟨U,he⟩:=Ig aa;rw[he]at E;obtain rfl:=Option.some.inj E;have ae:((ixN y.1 (nmL rs):Nat):Int)∈(bgU rs).getD j []:=by
     rw[y4e A];refine Sy.2 ⟨y.1,hN,?_⟩;unfold fdI;rw[if_pos aa]
    have af:=y3k ad hg (i:=j) (by rw[Iz];exact A) ae;exact ihR (rkP (bgU rs) (ixN y.1 (nmL rs))) (by have:((ixN y.1 (nmL rs):Nat):Int).toNat=ixN y.1 (nmL rs):=(by omega);rw[this]at af;omega) _ i U hD L0q Y
section
inductive Jo where
 |nd (k:Int)
 |wk (kd:Int) (M:ByteArray) (cl:Int×Int×Int×Int) (s:List Int)
 |row (s:List Int)
 |alt (s:List Int)
 |rep (k:Int)
section
variable (ops:List Ox) (ro:List Int) (T:ByteArray)
inductive Mo:Jo->Nat->Option Nat->Nat->Prop
 |nd {k kd M cl s i e n}:ops[k.toNat]? =some (kd,M,cl,s)->Mo (.wk kd M cl s) i e n->Mo (.nd k) i e (n+1)
 |emp {M cl s i}:Mo (.wk 1 M cl s) i (some i) 0
 |lit {M cl s i}:Mo (.wk 2 M cl s) i (Zd (Vc M T i) (i+M.size)) 0
 |set {M a b c d s i}:Mo (.wk 3 M (a,b,c,d) s) i (Zd (Xq (cl4 a b c d) T i) (i+1)) 0
 |any {M cl s i}:Mo (.wk 4 M cl s) i (Zd (Xq Xp T i) (i+1)) 0
 |ref {M cl r s q i e n}:ro[r.toNat]? =some q->Mo (.nd q) i e n->Mo (.wk 5 M cl (r::s)) i e n
 |seq {M cl s i e n}:Mo (.row s) i e n->Mo (.wk 6 M cl s) i e n
 |cho {M cl s i e n}:Mo (.alt s) i e n->Mo (.wk 7 M cl s) i e n
 |opt {M cl k s i e n}:Mo (.nd k) i e n->Mo (.wk 8 M cl (k::s)) i (some (e.getD i)) n
 |star {M cl k s i e n}:Mo (.rep k) i e n->Mo (.wk 9 M cl (k::s)) i e n
 |plus_no {M cl k s i n}:Mo (.nd k) i none n->Mo (.wk 10 M cl (k::s)) i none n
 |plus_ok {M cl k s i x e n m}:Mo (.nd k) i (some x) n->Mo (.rep k) x e m->Mo (.wk 10 M cl (k::s)) i e (n+m)
 |and {M cl k s i e n}:Mo (.nd k) i e n->Mo (.wk 11 M cl (k::s)) i (Zd e.isSome i) n
 |not {M cl k s i e n}:Mo (.nd k) i e n->Mo (.wk 12 M cl (k::s)) i (Zd e.isNone i) n
 |row_nil {i}:Mo (.row []) i (some i) 0
 |row_no {k r i n}:Mo (.nd k) i none n->Mo (.row (k::r)) i none n
 |row_ok {k r i x e n m}:Mo (.nd k) i (some x) n->Mo (.row r) x e m->Mo (.row (k::r)) i e (n+m)
 |alt_nil {i}:Mo (.alt []) i none 0
 |alt_ok {k r i x n}:Mo (.nd k) i (some x) n->Mo (.alt (k::r)) i (some x) n
 |alt_no {k r i e n m}:Mo (.nd k) i none n->Mo (.alt r) i e m->Mo (.alt (k::r)) i e (n+m)
 |rep_end {k i n}:Mo (.nd k) i none n->Mo (.rep k) i (some i) n
 |rep_go {k i x e n m}:Mo (.nd k) i (some x) n->Mo (.rep k) x e m->Mo (.rep k) i e (n+m)
end
variable {ops:List Ox} {ro:List Int} {T:ByteArray}
theorem Ww{j:Jo}{i:Nat}{e:Option Nat}{n:Nat}(h:Mo ops ro T j i e n):∀{o:Option Nat} {r:Nat},Mo ops ro T j i o r->e=o/\n=r:=by
 induction h with
 |nd t h2 ih=>
  intro o r k;cases k with
  |nd k1 k2=>
   rw[t]at k1;cases k1;obtain⟨rfl,rfl⟩:=ih k2;exact⟨rfl,rfl⟩
 |emp|lit|set|any=>intro o r k;cases k;exact⟨rfl,rfl⟩
 |row_nil|alt_nil=>intro o r k;cases k;exact⟨rfl,rfl⟩
 |ref t h2 ih=>
  intro o r k;cases k with
  |ref k1 k2=>
   rw[t]at k1;cases k1;exact ih k2
 |seq _ ih|cho _ ih|opt _ ih|star _ ih|and _ ih|not _ ih=>
  intro o r k;cases k;rename_i k;obtain⟨rfl,rfl⟩:=ih k;exact⟨rfl,rfl⟩
 |plus_no _ ih=>
  intro o r k;cases k with
  |plus_no k=>obtain⟨_,rfl⟩:=ih k;exact⟨rfl,rfl⟩
  |plus_ok k _=>cases(ih k).1
 |plus_ok _ _ ih1 ih2=>
  intro o r k;cases k with
  |plus_no k=>cases(ih1 k).1
  |plus_ok k1 k2=>
   obtain⟨t,rfl⟩:=ih1 k1;cases t;obtain⟨rfl,rfl⟩:=ih2 k2;exact⟨rfl,rfl⟩
 |row_no _ ih=>
  intro o r k;cases k with
  |row_no k=>obtain⟨_,rfl⟩:=ih k;exact⟨rfl,rfl⟩
  |row_ok k _=>cases(ih k).1
 |row_ok _ _ ih1 ih2=>
  intro o r k;cases k with
  |row_no k=>cases(ih1 k).1
  |row_ok k1 k2=>
   obtain⟨t,rfl⟩:=ih1 k1;cases t;obtain⟨rfl,rfl⟩:=ih2 k2;exact⟨rfl,rfl⟩
 |alt_ok _ ih=>
  intro o r k;cases k with
  |alt_ok k=>exact ih k
  |alt_no k _=>cases(ih k).1
 |alt_no _ _ ih1 ih2=>
  intro o r k;cases k with
  |alt_ok k=>cases(ih1 k).1
  |alt_no k1 k2=>
   obtain⟨_,rfl⟩:=ih1 k1;obtain⟨rfl,rfl⟩:=ih2 k2;exact⟨rfl,rfl⟩
 |rep_end _ ih=>
  intro o r k;cases k with
  |rep_end k=>obtain⟨_,rfl⟩:=ih k;exact⟨rfl,rfl⟩
  |rep_go k _=>cases(ih k).1
 |rep_go _ _ ih1 ih2=>
  intro o r k;cases k with
  |rep_end k=>cases(ih1 k).1
  |rep_go k1 k2=>
   obtain⟨t,rfl⟩:=ih1 k1;cases t;obtain⟨rfl,rfl⟩:=ih2 k2;exact⟨rfl,rfl⟩
theorem Wy{j:Jo}{i:Nat}{e:Option Nat}{n:Nat}(h:Mo ops ro T j i e n):i<=T.size->∀x,e=some x->i<=x/\x<=T.size:=by
 induction h with
 |nd _ _ ih=>exact ih
 |emp=>intro o x e;cases e;exact⟨Nat.le_refl _,o⟩
 | @lit M cl s i=>
   intro o x e;cases hb:Vc M T i with
   |false=>rw[hb]at e;cases e
   |true=>rw[hb]at e;cases e;exact⟨by omega,Aw o hb⟩
 | @set M a b c d s i=>
   intro o x e;cases hb:Xq (cl4 a b c d) T i with
   |false=>rw[hb]at e;cases e
   |true=>rw[hb]at e;cases e;have:=Kg hb;exact⟨by omega,by omega⟩
 | @any M cl s i=>
   intro o x e;cases hb:Xq Xp T i with
   |false=>rw[hb]at e;cases e
   |true=>rw[hb]at e;cases e;have:=Kg hb;exact⟨by omega,by omega⟩
 |ref _ _ ih|seq _ ih|cho _ ih|star _ ih=>exact ih
 | @opt M cl k s i e n _ ih=>
   intro o x hx;cases e with
   |none=>cases hx;exact⟨Nat.le_refl _,o⟩
   |some y=>cases hx;exact ih o y rfl
 |plus_no _ _=>intro _ x e;cases e
 |plus_ok _ _ ih1 ih2=>
  intro o x e;have r:=ih1 o _ rfl;have t:=ih2 r.2 x e;omega
 | @and M cl k s i e n _ ih=>
   intro o x hx;cases e with
   |none=>cases hx
   |some y=>cases hx;exact⟨Nat.le_refl _,o⟩
 | @not M cl k s i e n _ ih=>
   intro o x hx;cases e with
   |some y=>cases hx
   |none=>cases hx;exact⟨Nat.le_refl _,o⟩
 |row_nil=>intro o x e;cases e;exact⟨Nat.le_refl _,o⟩
 |row_no _ _=>intro _ x e;cases e
 |row_ok _ _ ih1 ih2=>
  intro o x e;have r:=ih1 o _ rfl;have t:=ih2 r.2 x e;omega
 |alt_nil=>intro _ x e;cases e
 |alt_ok _ ih=>exact ih
 |alt_no _ _ _ ih2=>exact ih2
 |rep_end _ _=>intro o x e;cases e;exact⟨Nat.le_refl _,o⟩
 |rep_go _ _ ih1 ih2=>
  intro o x e;have r:=ih1 o _ rfl;have t:=ih2 r.2 x e;omega
abbrev Wq:=Int×Nat×Nat×Nat
abbrev Nt:=Int->Nat->Option (Option Nat)
def Zf(N:Nt)(k:Int)(i:Nat)(e:Option Nat):Nt:=fun k' i'=>if k'=k/\i'=i then some e else N k' i'
inductive Mde where
 |beg (k:Int) (i:Nat)
 |ret (e:Option Nat)
section
variable (ops:List Ox) (ro:List Int) (T:ByteArray)
def prt(o:Ox)(p:Nat):Int:=if o.1=5 then ro.getD (o.2.2.2.getD p 0).toNat 0 else o.2.2.2.getD p 0
def aln(o:Ox)(i:Nat):Option Nat:=
 if o.1=2 then Zd (Vc o.2.1 T i) (i+o.2.1.size)else if o.1=3 then Zd (Xq (cl4 o.2.2.1.1 o.2.2.1.2.1 o.2.2.1.2.2.1 o.2.2.1.2.2.2) T i) (i+1)else if o.1=4 then Zd (Xq Xp T i) (i+1)else if o.1=1 then some i else none
def nxt(o:Ox)(w:Wq)(e:Option Nat):Option Wq:=
 if o.1=6 then(match e with
  |some x=>if w.2.2.1+1=o.2.2.2.length then none else some (w.1,w.2.1,w.2.2.1+1,x)
  |none=>none)
 else if o.1=7 then(match e with
  |some _=>none
  |none=>if w.2.2.1+1=o.2.2.2.length then none else some (w.1,w.2.1,w.2.2.1+1,w.2.1))
 else if o.1=9∨o.1=10 then e.map fun x=>(w.1,w.2.1,0,x)
 else none
def otc(o:Ox)(w:Wq)(e:Option Nat):Option Nat:=
 if o.1=8 then some (e.getD w.2.1)else if o.1=9 then some w.2.2.2 else if o.1=10 then(if w.2.1<w.2.2.2 then some w.2.2.2 else e)else if o.1=11 then Zd e.isSome w.2.1 else if o.1=12 then Zd e.isNone w.2.1 else e
inductive Mch (mo:Nat):Nt->Nat->List Wq->Mde->Option (Option Nat×Nat×Nt)->Nat->Prop
 |done {N c e}:Mch mo N c [] (.ret e) (some (e,c,N)) 0
 |bud {N S k i}:N k i=none->Mch mo N mo S (.beg k i) none 0
 |noted {N c S k i e r q}:N k i=some e->Mch mo N c S (.ret e) r q->Mch mo N c S (.beg k i) r (q+1)
 |leaf {N c S k i o r q}:N k i=none->c≠mo->ops[k.toNat]? =some o->o.2.2.2=[]->Mch mo (Zf N k i (aln T o i)) (c+1) S (.ret (aln T o i)) r q->Mch mo N c S (.beg k i) r (q+1)
 |push {N c S k i o r q}:N k i=none->c≠mo->ops[k.toNat]? =some o->o.2.2.2≠[]->Mch mo N (c+1) ((k,i,0,i)::S) (.beg (prt ro o 0) i) r q->Mch mo N c S (.beg k i) r (q+1)
 |next {N c S w w' o e r q}:ops[w.1.toNat]? =some o->nxt o w e=some w'->Mch mo N c (w'::S) (.beg (prt ro o w'.2.2.1) w'.2.2.2) r q->Mch mo N c (w::S) (.ret e) r (q+1)
 |pop {N c S w o e r q}:ops[w.1.toNat]? =some o->nxt o w e=none->Mch mo (Zf N w.1 w.2.1 (otc o w e)) c S (.ret (otc o w e)) r q->Mch mo N c (w::S) (.ret e) r (q+1)
end
end
section
section
variable {ops:List Ox} {ro:List Int} {T:ByteArray}
def Val(ops:List Ox)(ro:List Int)(T:zA)(N:Nt):Prop:=∀k i e,N k i=some e->∃n,Mo ops ro T (.nd k) i e n
def Xt(ops:List Ox)(ro:List Int)(T:zA)(N N':Nt)(n:Nat):Prop:=∀k i e,N' k i=some e->N k i=some e∨∃m,m<=n/\Mo ops ro T (.nd k) i e m
def plc:Nat->Nat->List (Int×Nat)
 |0,_=>[]
 |L+1,M=>plc L M++(List.range M).map fun i=>((L:Int),i)
def crd(L M:Nat)(N:Nt):Nat:=(plc L M).countP fun p=>(N p.1 p.2).isSome
theorem z4V{M:Nat}{p:Int×Nat}:∀{L:Nat},p∈plc L M->p.1<(L:Int)
 |0,h=>by simp[plc]at h
 |L+1,h=>by
  rw[plc,List.mem_append]at h;rcases h with h|h
  ·have:=z4V h;omega
  ·obtain⟨i,_,rfl⟩:=List.mem_map.1 h
   show(L:Int)<_;omega
theorem z4W(M:Nat):∀L:Nat,(plc L M).Nodup
 |0=>by rw[plc];exact List.Pairwise.nil
 |L+1=>by
  rw[plc,List.nodup_append];refine⟨z4W M L,?_,fun a ha b o=> ?_⟩
  ·unfold List.Nodup
   rw[List.pairwise_map];exact List.Pairwise.imp (fun h e=>h (by cases e;rfl)) (List.nodup_range (n:=M))
  ·have:=z4V ha
   obtain⟨i,_,rfl⟩:=List.mem_map.1 o;rintro rfl;exact Int.lt_irrefl _ this
theorem z4X{M:Nat}{k:Int}{i:Nat}(o:0<=k)(r:i<M):∀{L:Nat},k.toNat<L->(k,i)∈plc L M
 |0,h=>by omega
 |L+1,h=>by
  rw[plc,List.mem_append];by_cases e:k.toNat=L
  ·refine .inr (List.mem_map.2 ⟨i,List.mem_range.2 r,?_⟩)
   rw[<-e,Int.toNat_of_nonneg o]
  ·exact .inl (z4X o r (by omega))
theorem z4Y(M:Nat):∀L:Nat,(plc L M).length=L*M
 |0=>by simp[plc]
 |L+1=>by rw[plc,List.length_append,z4Y M L,List.length_map,List.length_range,Nat.succ_mul]
theorem z4Z(N:Nt)(k:Int)(i:Nat)(e:Option Nat)(t:N k i=none):∀(l:List (Int×Nat)),l.Nodup->(k,i)∈l->l.countP (fun p=>((Zf N k i e) p.1 p.2).isSome)=l.countP (fun p=>(N p.1 p.2).isSome)+1
 |[],_,h=>by cases h
 |a::l,hd,h=>by
  rw[List.nodup_cons]at hd;rw[List.countP_cons,List.countP_cons];by_cases ha:a=(k,i)
  ·subst ha
   have hl:l.countP (fun p=>((Zf N k i e) p.1 p.2).isSome)=l.countP (fun p=>(N p.1 p.2).isSome):=by
    refine List.countP_congr fun p y=> ?_
    have o:¬(p.1=k/\p.2=i):=fun hx=>hd.1 (by
     obtain⟨p1,p2⟩:=p;obtain⟨rfl,rfl⟩:=hx;exact y)
    unfold Zf;rw[if_neg o]
   rw[hl];have r:((Zf N k i e) k i).isSome=true:=by unfold Zf;rw[if_pos ⟨rfl,rfl⟩];rfl
   have A:(N k i).isSome=false:=by rw[t];rfl
   simp[r,A]
  ·have D:(k,i)∈l:=by
    rcases List.mem_cons.1 h with h|h
    ·exact absurd h.symm ha
    ·exact h
   rw[z4Z N k i e t l hd.2 D];have o:¬(a.1=k/\a.2=i):=fun hx=>ha (by obtain⟨a1,a2⟩:=a;obtain⟨rfl,rfl⟩:=hx;rfl)
   have r:(Zf N k i e) a.1 a.2=N a.1 a.2:=by unfold Zf;rw[if_neg o]
   rw[r];omega
theorem y4g{L M:Nat}{N:Nt}{k:Int}{i:Nat}(e:Option Nat)(h:N k i=none)(o:0<=k)(r:k.toNat<L)(t:i<M):crd L M (Zf N k i e)=crd L M N+1:=
 z4Z N k i e h _ (z4W M L) (z4X o t r)
theorem y4h(L M:Nat)(N:Nt):crd L M N<=L*M:=by
 rw[<-z4Y M L];exact List.countP_le_length
def Gon(ops:List Ox)(ro:List Int)(T:zA)(mo:Nat)(N:Nt)(c n:Nat)(A:Option (Option Nat×Nat×Nt)->Nat->Prop)(Z:Nt->Nat->Option (Option Nat×Nat×Nt)->Nat->Prop):Prop:=
 ∃N' c',Val ops ro T N'/\Xt ops ro T N N' n/\c<=c'/\c'<=c+n/\c'+crd ops.length (T.size+1) N=c+crd ops.length (T.size+1) N'/\(c'<=mo->∀r q,Z N' c' r q->∃q',A r q')/\(c<=mo->mo<c'->∃q,A none q)
theorem Xt.refl{N:Nt}{n:Nat}:Xt ops ro T N N n:=fun k i e h=>.inl h
theorem Xt.trans{N r t:Nt}{n m:Nat}(h:Xt ops ro T N r n)(y:Xt ops ro T r t m):Xt ops ro T N t (n+m):=fun k i e A=>by
 rcases y k i e A with D|⟨q,E,o⟩
 ·rcases h k i e D with G|⟨q,E,o⟩
  ·exact .inl G
  ·exact .inr ⟨q,by omega,o⟩
 ·exact .inr ⟨q,by omega,o⟩
theorem Gon.then{mo:Nat}{N:Nt}{c n m:Nat}{A:Option (Option Nat×Nat×Nt)->Nat->Prop}{Z Z':Nt->Nat->Option (Option Nat×Nat×Nt)->Nat->Prop}(h:Gon ops ro T mo N c n A Z)
  (G:∀t D,Val ops ro T t->Gon ops ro T mo t D m (Z t D) Z'):Gon ops ro T mo N c (n+m) A Z':=by
 obtain⟨I,c1,v1,x1,a1,b1,d1,E,u1⟩:=h;obtain⟨U,c2,v2,x2,a2,b2,d2,V,u2⟩:=G I c1 v1;refine⟨U,c2,v2,x1.trans x2,by omega,by omega,by omega,fun y r q Y=> ?_,fun y hm=> ?_⟩
 ·obtain⟨q1,aa⟩:=V y r q Y
  exact E (by omega) r q1 aa
 ·rcases Nat.lt_or_ge mo c1 with o|o
  ·exact u1 y o
  ·obtain⟨q,hq⟩:=u2 o hm
   exact E o none q hq
theorem Gon.from{mo:Nat}{N:Nt}{c n:Nat}{A D:Option (Option Nat×Nat×Nt)->Nat->Prop}{Z:Nt->Nat->Option (Option Nat×Nat×Nt)->Nat->Prop}(h:Gon ops ro T mo N c n A Z)(E:∀r q,A r q->∃G,D r G):Gon ops ro T mo N c n D Z:=by
 obtain⟨I,c1,v1,x1,a1,U,V,Y,u1⟩:=h;refine⟨I,c1,v1,x1,a1,U,V,fun o r q hz=> ?_,fun o hm=> ?_⟩
 ·obtain⟨t,y⟩:=Y o r q hz
  exact E r t y
 ·obtain⟨t,y⟩:=u1 o hm
  exact E none t y
theorem Gon.last{mo:Nat}{N:Nt}{c n:Nat}{A:Option (Option Nat×Nat×Nt)->Nat->Prop}{Z Z':Nt->Nat->Option (Option Nat×Nat×Nt)->Nat->Prop}(h:Gon ops ro T mo N c n A Z)(D:∀o t r q,Z' o t r q->∃E,Z o t r E):Gon ops ro T mo N c n A Z':=by
 obtain⟨y,c1,v1,x1,a1,G,I,U,u1⟩:=h;refine⟨y,c1,v1,x1,a1,G,I,fun V r q Y=> ?_,u1⟩;obtain⟨q1,aa⟩:=D y c1 r q Y;exact U V r q1 aa
theorem Gon.none{mo:Nat}{N:Nt}{c:Nat}(n:Nat){A:Option (Option Nat×Nat×Nt)->Nat->Prop}{Z:Nt->Nat->Option (Option Nat×Nat×Nt)->Nat->Prop}(o:Val ops ro T N)(h:∀r q,Z N c r q->∃t,A r t):Gon ops ro T mo N c n A Z:=
 ⟨N,c,o,Xt.refl,Nat.le_refl _,by omega,rfl,fun _ r q y=>h r q y,fun E D=>absurd D (by omega)⟩
def Pj(ops:List Ox)(ro:List Int)(T:zA)(mo:Nat):Jo->Nat->Option Nat->Nat->Prop
 | .nd k,i,e,n=>i<=T.size->0<=k->∀(N:Nt) (c:Nat) (S:List Wq),Val ops ro T N->Gon ops ro T mo N c n (Mch ops ro T mo N c S (.beg k i)) (fun N' c'=>Mch ops ro T mo N' c' S (.ret e))
 | .wk kd M cl s,i,e,n=>i<=T.size->∀(k:Int) (N:Nt) (c:Nat) (S:List Wq),ops[k.toNat]? =some (kd,M,cl,s)->N k i=none->c≠mo->Val ops ro T N->Gon ops ro T mo N (c+1) n (Mch ops ro T mo N c S (.beg k i)) (fun N' c'=>Mch ops ro T mo (Zf N' k i e) c' S (.ret e))
 | .row s,i,e,n=>i<=T.size->∀(k:Int) (fr p:Nat) (M:zA) (cl:Int×Int×Int×Int) (l:List Int) (N:Nt) (c:Nat) (S:List Wq),ops[k.toNat]? =some (6,M,cl,l)->l.drop p=s->s≠[]->Val ops ro T N->Gon ops ro T mo N c n (Mch ops ro T mo N c ((k,fr,p,i)::S) (.beg (l.getD p 0) i)) (fun N' c'=>Mch ops ro T mo (Zf N' k fr e) c' S (.ret e))
 | .alt s,i,e,n=>i<=T.size->∀(k:Int) (p:Nat) (M:zA) (cl:Int×Int×Int×Int) (l:List Int) (N:Nt) (c:Nat) (S:List Wq),ops[k.toNat]? =some (7,M,cl,l)->l.drop p=s->s≠[]->Val ops ro T N->Gon ops ro T mo N c n (Mch ops ro T mo N c ((k,i,p,i)::S) (.beg (l.getD p 0) i)) (fun N' c'=>Mch ops ro T mo (Zf N' k i e) c' S (.ret e))
 | .rep k',i,e,n=>i<=T.size->∀(k:Int) (fr:Nat) (kd:Int) (M:zA) (cl:Int×Int×Int×Int) (l:List Int) (N:Nt) (c:Nat) (S:List Wq),ops[k.toNat]? =some (kd,M,cl,k'::l)->kd=9∨kd=10/\fr<i->Val ops ro T N->Gon ops ro T mo N c n (Mch ops ro T mo N c ((k,fr,0,i)::S) (.beg k' i)) (fun N' c'=>Mch ops ro T mo (Zf N' k fr e) c' S (.ret e))
theorem Ih{l:List Int}{p:Nat}{k:Int}{r:List Int}(h:l.drop p=k::r):l.getD p 0=k/\l.drop (p+1)=r/\p<l.length/\(p+1=l.length↔r=[]):=by
 have o:p<l.length:=by
  rcases Nat.lt_or_ge p l.length with t|t
  ·exact t
  ·rw[List.drop_eq_nil_of_le t]at h;cases h
 rw[List.drop_eq_getElem_cons o]at h;injection h with h1 h2
 refine⟨?_,h2,o,?_⟩
 ·rw[List.getD_eq_getElem?_getD,List.getElem?_eq_getElem o];exact h1
 ·rw[<-h2]
  constructor
  ·intro e;exact List.drop_eq_nil_of_le (by omega)
  ·intro e
   have:=List.drop_eq_nil_iff.1 e;omega
structure Wfo (ops:List Ox) (ro:List Int) (T:zA):Prop where
 sub:∀o∈ops,∀x∈o.2.2.2,0<=x
 rt:∀x∈ro,0<=x
 go:∀(k:Int) (M:zA) (cl:Int×Int×Int×Int) (k':Int) (l:List Int),ops[k.toNat]? =some (10,M,cl,k'::l)->∀i x n,i<=T.size->Mo ops ro T (.nd k') i (some x) n->i<x
 few:∀o∈ops,(o.1=1∨o.1=2∨o.1=3∨o.1=4)->o.2.2.2=[]
 two:∀o∈ops,(o.1=6∨o.1=7)->o.2.2.2≠[]
theorem y4i{mo:Nat}(hw:Wfo ops ro T){j:Jo}{i:Nat}{e:Option Nat}{n:Nat}(h:Mo ops ro T j i e n):Pj ops ro T mo j i e n:=by
 have aa:∀{k:Int} {o:Ox},ops[k.toNat]? =some o->o∈ops/\k.toNat<ops.length:=fun h=>⟨List.mem_of_getElem? h,(List.getElem?_eq_some_iff.1 h).1⟩
 induction h with
 | @nd k kd M I s i e n t Z ih=>
   intro A hk N c S D;cases U:N k i with
   |some e0=>
    obtain⟨m,hm⟩:=D k i e0 U;obtain⟨rfl,_⟩:=Ww hm (Mo.nd t Z);exact Gon.none _ D (fun r q y=>⟨_,.noted U y⟩)
   |none=>
    have fin:∀(c0:Nat),c0≠mo->∃G E,Val ops ro T G/\Xt ops ro T N G (n+1)/\c0+1<=E/\E<=c0+(n+1)/\E+crd ops.length (T.size+1) N=c0+crd ops.length (T.size+1) G/\(E<=mo->∀r q,Mch ops ro T mo G E S (.ret e) r q->∃V,Mch ops ro T mo N c0 S (.beg k i) r V)/\(c0+1<=mo->mo<E->∃q,Mch ops ro T mo N c0 S (.beg k i) none q):=fun c0 af=>by
     obtain⟨N1,c1,v1,x1,a1,b1,d1,r1,u1⟩:=ih A k N c0 S t U af D;have ag:N1 k i=none:=by
      cases hx:N1 k i with
      |none=>rfl
      |some e1=>
       rcases x1 k i e1 hx with h'|⟨m,hm,ad⟩
       ·rw[U]at h';cases h'
       ·have:=(Ww ad (Mo.nd t Z)).2
        omega
     refine⟨Zf N1 k i e,c1,?_,?_,a1,by omega,?_,r1,u1⟩
     ·intro k' i' e' h'
      unfold Zf at h';by_cases hx:k'=k/\i'=i
      ·rw[if_pos hx]at h'
       obtain⟨rfl,rfl⟩:=hx;cases h';exact⟨_,Mo.nd t Z⟩
      ·rw[if_neg hx]at h'
       exact v1 k' i' e' h'
     ·intro k' i' e' h'
      unfold Zf at h';by_cases hx:k'=k/\i'=i
      ·rw[if_pos hx]at h'
       obtain⟨rfl,rfl⟩:=hx;cases h';exact .inr ⟨_,Nat.le_refl _,Mo.nd t Z⟩
      ·rw[if_neg hx]at h'
       rcases x1 k' i' e' h' with ae|⟨m,hm,ad⟩
       ·exact .inl ae
       ·exact .inr ⟨m,by omega,ad⟩
     ·rw[y4g e ag hk (aa t).2 (by omega)]
      omega
    by_cases Y:c=mo
    ·obtain⟨N1,c1,v1,x1,a1,b1,d1,_,_⟩:=fin (mo+1) (by omega)
     exact⟨N1,c1-1,v1,x1,by omega,by omega,by omega,fun h'=>by omega,fun _ _=>⟨_,by rw[Y];exact .bud U⟩⟩
    ·obtain⟨N1,c1,v1,x1,a1,b1,d1,r1,u1⟩:=fin c Y
     exact⟨N1,c1,v1,x1,by omega,b1,d1,r1,fun h' ae=>u1 (by omega) ae⟩
 | @emp M I s i=>
   intro A k N c S t U Y D;have hs:=hw.few _ (aa t).1 (.inl rfl);exact Gon.none _ D (fun r q y=>⟨_,.leaf U Y t hs y⟩)
 | @lit M I s i=>
   intro A k N c S t U Y D;have hs:=hw.few _ (aa t).1 (.inr (.inl rfl));exact Gon.none _ D (fun r q y=>⟨_,.leaf U Y t hs y⟩)
 | @set M a b c d s i=>
   intro A k N E S t U Y D;have hs:=hw.few _ (aa t).1 (.inr (.inr (.inl rfl)));exact Gon.none _ D (fun r q y=>⟨_,.leaf U Y t hs y⟩)
 | @any M I s i=>
   intro A k N c S t U Y D;have hs:=hw.few _ (aa t).1 (.inr (.inr (.inr rfl)));exact Gon.none _ D (fun r q y=>⟨_,.leaf U Y t hs y⟩)
 | @ref M I r s q i e n Z h3 ih=>
   intro A k N c S t U Y D;have hp:prt ro (5,M,I,r::s) 0=q:=by unfold prt;simp[Z]
   refine((ih A (hw.rt q (List.mem_of_getElem? Z)) N (c+1) ((k,i,0,i)::S) D).last fun G E r' V y=>⟨_,.pop t rfl y⟩).from fun r' V y=>⟨_,.push U Y t (by simp) (by rw[hp];exact y)⟩
 | @seq M I s i e n Z ih=>
   intro A k N c S t U Y D;have hs:s≠[]:=hw.two _ (aa t).1 (.inl rfl);exact(ih A k i 0 M I s N (c+1) S t rfl hs D).from fun r' V y=>⟨_,.push U Y t hs y⟩
 | @cho M I s i e n Z ih=>
   intro A k N c S t U Y D;have hs:s≠[]:=hw.two _ (aa t).1 (.inr rfl);exact(ih A k 0 M I s N (c+1) S t rfl hs D).from fun r' V y=>⟨_,.push U Y t hs y⟩
 | @opt M I k' s i e n Z ih=>
   intro A k N c S t U Y D;refine((ih A (hw.sub _ (aa t).1 k' (by simp)) N (c+1) ((k,i,0,i)::S) D).last fun G E r' V y=>⟨_,.pop t rfl y⟩).from fun r' V y=>⟨_,.push U Y t (by simp) y⟩
 | @star M I k' s i e n Z ih=>
   intro A k N c S t U Y D;exact(ih A k i 9 M I s N (c+1) S t (.inl rfl) D).from fun r' V y=>⟨_,.push U Y t (by simp) y⟩
 | @plus_no M I k' s i n Z ih=>
   intro A k N c S t U Y D;refine((ih A (hw.sub _ (aa t).1 k' (by simp)) N (c+1) ((k,i,0,i)::S) D).last fun G E r' V y=>⟨V+1,.pop t rfl ?_⟩).from fun r' V y=>⟨_,.push U Y t (by simp) y⟩
   have:otc (10,M,I,k'::s) (k,i,0,i) none=none:=by unfold otc;simp
   rw[this];exact y
 | @plus_ok M I k' s i x e n m Z h3 ih1 ih2=>
   intro A k N c S t U Y D;have hx:=hw.go k M I k' s t i x n A Z;have hl:=Wy Z A x rfl;refine Gon.then (((ih1 A (hw.sub _ (aa t).1 k' (by simp)) N (c+1) ((k,i,0,i)::S) D).last (Z':=fun G E=>Mch ops ro T mo G E ((k,i,0,x)::S) (.beg k' x)) fun G E r' V y=>⟨V+1,.next (w':=(k,i,0,x)) t rfl y⟩).from fun r' V y=>⟨_,.push U Y t (by simp) y⟩) fun G E v'=> ?_
   exact ih2 hl.2 k i 10 M I s G E S t (.inr ⟨rfl,hx⟩) v'
 | @and M I k' s i e n Z ih=>
   intro A k N c S t U Y D;refine((ih A (hw.sub _ (aa t).1 k' (by simp)) N (c+1) ((k,i,0,i)::S) D).last fun G E r' V y=>⟨_,.pop t rfl y⟩).from fun r' V y=>⟨_,.push U Y t (by simp) y⟩
 | @not M I k' s i e n Z ih=>
   intro A k N c S t U Y D;refine((ih A (hw.sub _ (aa t).1 k' (by simp)) N (c+1) ((k,i,0,i)::S) D).last fun G E r' V y=>⟨_,.pop t rfl y⟩).from fun r' V y=>⟨_,.push U Y t (by simp) y⟩
 |row_nil=>intro A k fr p M I l N c S t Z h3;exact absurd rfl h3
 | @row_no k' r i n Z ih=>
   intro A k fr p M I l N c S t hd _ D;obtain⟨d1,d2,d3,d4⟩:=Ih hd;have ab:0<=k':=hw.sub _ (aa t).1 k' (by have:k'∈l.drop p:=(by rw[hd];simp);exact List.mem_of_mem_drop this);rw[d1];exact(ih A ab N c ((k,fr,p,i)::S) D).last fun G E r' V y=>⟨_,.pop t rfl y⟩
 | @row_ok k' r i x e n m Z h3 ih1 ih2=>
   intro A k fr p M I l N c S t hd _ D;obtain⟨d1,d2,d3,d4⟩:=Ih hd;have ab:0<=k':=hw.sub _ (aa t).1 k' (by have:k'∈l.drop p:=(by rw[hd];simp);exact List.mem_of_mem_drop this);have hl:=Wy Z A x rfl;rw[d1];by_cases hr:r=[]
   ·subst hr
    cases h3;refine((ih1 A ab N c ((k,fr,p,i)::S) D).last fun G E r' V y=>⟨_,.pop t ?_ y⟩);unfold nxt;simp[d4]
   ·refine Gon.then ((ih1 A ab N c ((k,fr,p,i)::S) D).last (Z':=fun G E=>Mch ops ro T mo G E ((k,fr,p+1,x)::S) (.beg (l.getD (p+1) 0) x)) fun G E r' V y=>⟨_,.next (w':=(k,fr,p+1,x)) t ?_ y⟩) fun G E v'=> ?_
    ·unfold nxt
     have:¬p+1=l.length:=fun h=>hr (d4.1 h)
     simp[this]
    ·exact ih2 hl.2 k fr (p+1) M I l G E S t d2 hr v'
 |alt_nil=>intro A k p M I l N c S t Z h3;exact absurd rfl h3
 | @alt_ok k' r i x n Z ih=>
   intro A k p M I l N c S t hd _ D;obtain⟨d1,d2,d3,d4⟩:=Ih hd;have ab:0<=k':=hw.sub _ (aa t).1 k' (by have:k'∈l.drop p:=(by rw[hd];simp);exact List.mem_of_mem_drop this);rw[d1];exact(ih A ab N c ((k,i,p,i)::S) D).last fun G E r' V y=>⟨_,.pop t rfl y⟩
 | @alt_no k' r i e n m Z h3 ih1 ih2=>
   intro A k p M I l N c S t hd _ D;obtain⟨d1,d2,d3,d4⟩:=Ih hd;have ab:0<=k':=hw.sub _ (aa t).1 k' (by have:k'∈l.drop p:=(by rw[hd];simp);exact List.mem_of_mem_drop this);rw[d1];by_cases hr:r=[]
   ·subst hr
    cases h3;refine((ih1 A ab N c ((k,i,p,i)::S) D).last fun G E r' V y=>⟨_,.pop t ?_ y⟩);unfold nxt;simp[d4]
   ·refine Gon.then ((ih1 A ab N c ((k,i,p,i)::S) D).last (Z':=fun G E=>Mch ops ro T mo G E ((k,i,p+1,i)::S) (.beg (l.getD (p+1) 0) i)) fun G E r' V y=>⟨_,.next (w':=(k,i,p+1,i)) t ?_ y⟩) fun G E v'=> ?_
    ·unfold nxt
     have:¬p+1=l.length:=fun h=>hr (d4.1 h)
     simp[this]
    ·exact ih2 A k (p+1) M I l G E S t d2 hr v'
 | @rep_end k' i n Z ih=>
   intro A k fr kd M I l N c S t ac D;have ab:0<=k':=hw.sub _ (aa t).1 k' (by simp);refine(ih A ab N c ((k,fr,0,i)::S) D).last fun G E r' V y=>⟨V+1,.pop t ?_ ?_⟩
   ·unfold nxt
    rcases ac with rfl|⟨rfl,_⟩<;>simp
   ·have:otc (kd,M,I,k'::l) (k,fr,0,i) none=some i:=by
     unfold otc;rcases ac with rfl|⟨rfl,h⟩
     ·simp
     ·simp[h]
    rw[this];exact y
 | @rep_go k' i x e n m Z h3 ih1 ih2=>
   intro A k fr kd M I l N c S t ac D;have ab:0<=k':=hw.sub _ (aa t).1 k' (by simp);have hl:=Wy Z A x rfl;refine Gon.then ((ih1 A ab N c ((k,fr,0,i)::S) D).last (Z':=fun G E=>Mch ops ro T mo G E ((k,fr,0,x)::S) (.beg k' x)) fun G E r' V y=>⟨V+1,.next (w':=(k,fr,0,x)) t ?_ ?_⟩) fun G E v'=> ?_
   ·unfold nxt
    rcases ac with rfl|⟨rfl,_⟩<;>simp
   ·have:prt ro (kd,M,I,k'::l) 0=k':=by
     unfold prt;rcases ac with rfl|⟨rfl,_⟩<;>simp
    show Mch ops ro T mo G E _ (.beg (prt ro (kd,M,I,k'::l) 0) x) r' V;rw[this];exact y
   ·exact ih2 hl.2 k fr kd M I l G E S t (ac.imp id fun h=>⟨h.1,by omega⟩) v'
end
end
end Go.Proofs.YtgnkkgcgbeianaaGreatDoor
