/-
  Grammars of which some rules stay, plain: what is right stays right; what the rules that stay may come to. Conditions: those that each theorem names.
  A grammar's rules that its start leads to: their names, what they use, what they may come to. Conditions: those that each theorem names.
  What scope.Prune answers at any grammar; that what stays is right. Conditions: those that each theorem names.
  What stays of a sound grammar is sound; plain. Conditions: those that each theorem names.
  muntinlaw08.SoundPruned answers true at any grammar. Conditions: those that each theorem names.
  muntinlaw08.SoundPruned answers true whatever its arguments, and they read as they did (the given card). Condition: the listed package-level variables are what the program's own text lays; the card ties them to that text.
-/
import Derived.Test.YthmgblmoobkliaaGreatDoorEO23ToPR1
import Derived.Test.YthmgblmoobkliaaGreatDoorVT22ToEBase
import Derived.Test.YthmgblmoobkliaaGreatDoorCards
import Derived.Test.YthmgblmoobkliaaGreatDoorTie
set_option linter.unusedVariables false
set_option maxRecDepth 100000
set_option maxHeartbeats 8000000
namespace Go.Proofs.YthmgblmoobkliaaGreatDoor
open Go.Proofs.Tryz
open Go.RowKit Go.Shelf
theorem TqL.length':∀{s:List RT} {q:List Nd},TqL s q->q.length=s.length
 |[],[],_=>rfl
 |[],_::_,h=>by simp[TqL]at h
 |_::_,[],h=>by simp[TqL]at h
 |t::r,n::q,h=>by
  rw[TqL]at h;simp[h.2.length']
theorem y4Z{k:Int}{T:ByteArray}{a b c d:Int}{n:Nat}(h:okN k T a b c d n=true):T.size<=255:=by
 have he:T.toList.isEmpty=true->T.size<=255:=fun e=>by
  have:T.toList=[]:=by simpa using e
  have:=congrArg List.length this;rw[ByteArray.toList_eq]at this;have e2:T.size=0:=by simpa using this
  omega
 unfold okN at h;by_cases h1:k=1∨k=4
 ·rw[if_pos h1,Bool.and_eq_true]at h;exact he h.1
 rw[if_neg h1]at h;by_cases h2:k=2
 ·rw[if_pos h2,Bool.and_eq_true]at h;have:=h.1;simp at this;omega
 rw[if_neg h2]at h;by_cases h3:k=3
 ·rw[if_pos h3,Bool.and_eq_true]at h;exact he h.1
 rw[if_neg h3]at h;by_cases h5:k=5
 ·rw[if_pos h5,Bool.and_eq_true]at h
  have hn:=h.1;unfold nmS at hn;cases hb:bt T 0 with
  |none=>rw[hb]at hn;cases hn
  |some x=>
   rw[hb]at hn;simp only[Bool.and_eq_true,decide_eq_true_eq]at hn;omega
 rw[if_neg h5]at h;by_cases h6:k=6∨k=7
 ·rw[if_pos h6,Bool.and_eq_true]at h;exact he h.1
 rw[if_neg h6]at h;by_cases h8:8<=k/\k<=12
 ·rw[if_pos h8,Bool.and_eq_true]at h;exact he h.1
 ·rw[if_neg h8]at h;cases h
mutual
theorem z0k:∀(t:RT) (n:Nd),Tq t n->Vk n->okT t=true->sz (pN qT cT n)<=8192->RtB t
 | .mk k T a b c d s p,.mk kd T' C s' p',hq,hv,hok,hs=>by
   rw[Tq]at hq;obtain⟨hk,hT,_,_,_,_,hl⟩:=hq;rw[Vk]at hv;rw[okT,Bool.and_eq_true]at hok;have hsz:=y4Z hok.1;have hlen:s'.length=s.length:=hl.length';have Qg:∀over sep,sz (pS qT cT over sep s')<=8192->Um s:=fun over sep h=>by
    cases s with
    |nil=>rw[Um];trivial
    |cons t r=>
     cases s' with
     |nil=>simp[TqL]at hl
     |cons n q=>
      rw[TqL]at hl;have hvl:=hv.2;rw[VkL]at hvl;have hol:=hok.2;rw[okL,Bool.and_eq_true]at hol;have e:sz (pS qT cT over sep (n::q))=sz (pP qT cT over n)+sz (pB qT cT over sep q):=by rw[pS,Xv];rfl
      have e2:=Nz over n;rw[Um];exact⟨z0k t n hl.1 hvl.1 hol.1 (by omega),z5Z r q over sep hl.2 hvl.2 hol.2 (by omega)⟩
   rw[RtB];rw[pN]at hs;refine⟨by omega,?_⟩;rw[Xc,<-hlen];rcases hv.1 with⟨rfl,_,_,rfl⟩|⟨rfl,_,rfl⟩|⟨rfl,_,rfl⟩|⟨rfl,_,_,rfl⟩|⟨rfl,_,rfl⟩|⟨h67,_,_,h2⟩|⟨h8,h12,_,_,h1⟩
   ·exact⟨by simp,Qg 0 {data:=#[]} (by rw[pS];simp[sz])⟩
   ·exact⟨by simp,Qg 0 {data:=#[]} (by rw[pS];simp[sz])⟩
   ·exact⟨by simp,Qg 0 {data:=#[]} (by rw[pS];simp[sz])⟩
   ·exact⟨by simp,Qg 0 {data:=#[]} (by rw[pS];simp[sz])⟩
   ·exact⟨by simp,Qg 0 {data:=#[]} (by rw[pS];simp[sz])⟩
   ·rcases h67 with rfl|rfl
    ·simp only[Nat.reduceEqDiff,if_false,if_true]at hs
     have:=Hp 6 bSp (by decide) s';exact⟨by omega,Qg 6 bSp hs⟩
    ·simp only[Nat.reduceEqDiff,if_false,if_true]at hs
     have:=Hp 7 bSl (by decide) s';exact⟨by omega,Qg 7 bSl hs⟩
   ·refine⟨by omega,?_⟩
    rw[if_neg (by omega),if_neg (by omega),if_neg (by omega),if_neg (by omega),if_neg (by omega),if_neg (by omega),if_neg (by omega)]at hs;by_cases h11:kd=11∨kd=12
    ·rw[if_pos h11,sz]at hs
     exact Qg kd bE (by omega)
    ·rw[if_neg h11,Xv]at hs
     exact Qg kd bE (by omega)
theorem z5Z:∀(s:List RT) (q:List Nd) (over:Nat) (sep:ByteArray),TqL s q->VkL q->okL s=true->sz (pB qT cT over sep q)<=8192->Um s
 |[],_,_,_,_,_,_,_=>by rw[Um];trivial
 |t::r,[],_,_,h,_,_,_=>by simp[TqL]at h
 |t::r,n::q,over,sep,hl,hv,hok,hs=>by
  rw[TqL]at hl;rw[VkL]at hv;rw[okL,Bool.and_eq_true]at hok;have e:sz (pB qT cT over sep (n::q))=sep.size+(sz (pP qT cT over n)+sz (pB qT cT over sep q)):=by rw[pB,sz,Xv];rfl
  have e2:=Nz over n;rw[Um];exact⟨z0k t n hl.1 hv.1 hok.1 (by omega),z5Z r q over sep hl.2 hv.2 hok.2 (by omega)⟩
end
theorem z6a{x:Rl}:∀{ns:List Rl},x∈ns->sz (pN qT cT x.2.1)<=sz (pR qT cT ns)
 |y::r,h=>by
  rw[pR,sz,sz,Xv,sz];rcases List.mem_cons.1 h with rfl|h
  ·omega
  ·have:=z6a h
   omega
theorem y5a{rs:List Rr}(h:PrG rs):∀x∈rs,x.1.size<=281474976710656/\RtB x.2.1:=fun x hx=>by
 obtain⟨hok,ns,hq,hn,hs,_⟩:=h;obtain⟨j,hj,rfl⟩:=List.getElem_of_mem hx;have hj2:j<ns.length:=by rw[hq.len];exact hj
 have h1:=hq.get j hj hj2;have ho:=Gz hok _ (List.getElem_mem hj);have hv:=(hn _ (List.getElem_mem hj2)).2.1;refine⟨?_,z0k _ _ h1.2 hv ho.2 (Nat.le_trans (z6a (List.getElem_mem hj2)) hs)⟩;have hnm:=ho.1;unfold nmS at hnm;cases hb:bt rs[j].1 0 with
 |none=>rw[hb]at hnm;cases hnm
 |some x=>
  rw[hb]at hnm;simp only[Bool.and_eq_true,decide_eq_true_eq]at hnm;omega
theorem z6b{rs:List Rr}:∀{L:List Int} (k:Nat),L.Pairwise (· < ·)->(∀x∈L,∃m:Nat,m<rs.length/\x=(m:Int)/\k<=m)->(prn rs L).Sublist (rs.drop k)
 |[],k,_,_=>List.nil_sublist _
 |x::r,k,hp,h=>by
  obtain⟨m,hm,rfl,hk⟩:=h x (by simp);rw[List.pairwise_cons]at hp;have e:prn rs ((m:Int)::r)=rs[m]::prn rs r:=by unfold prn;simp[hm]
  have h2:=z6b (L:=r) (m+1) hp.2 (fun y hy=>by
   obtain⟨q,hq,rfl,_⟩:=h y (by simp[hy]);have:=hp.1 _ hy;exact⟨q,hq,rfl,by omega⟩)
  have h3:(rs.drop m).Sublist (rs.drop k):=by
   rw[show rs.drop m=(rs.drop k).drop (m-k) by rw[List.drop_drop];congr 1;omega];exact List.drop_sublist _ _
  rw[e];refine List.Sublist.trans ?_ h3;rw[List.drop_eq_getElem_cons hm];exact h2.cons_cons _
theorem z0l:∀{ps rs:List Rr},ps.Sublist rs->∀{ns:List Rl},TqR rs ns->∃ns',TqR ps ns'/\ns'.Sublist ns
 |_,_,.slnil,ns,h=>by
  cases ns with
  |nil=>exact⟨[],h,List.Sublist.refl _⟩
  |cons a r=>simp[TqR]at h
 |_,_,.cons a hs,ns,h=>by
  cases ns with
  |nil=>simp[TqR]at h
  |cons y q=>
   rw[TqR]at h;obtain⟨ns',h1,h2⟩:=z0l hs h.2.2;exact⟨ns',h1,h2.cons _⟩
 |_,_,.cons_cons a hs,ns,h=>by
  cases ns with
  |nil=>simp[TqR]at h
  |cons y q=>
   rw[TqR]at h;obtain⟨ns',h1,h2⟩:=z0l hs h.2.2;exact⟨y::ns',by rw[TqR];exact⟨h.1,h.2.1,h1⟩,h2.cons_cons _⟩
theorem z0m:∀{a b:List Rl},a.Sublist b->sz (pR qT cT a)<=sz (pR qT cT b)/\dR a<=dR b
 |_,_,.slnil=>⟨Nat.le_refl _,Nat.le_refl _⟩
 |_,_,.cons x hs=>by
  have h:=z0m hs;rw[pR,sz,sz,Xv,sz,dR];omega
 |_,_,.cons_cons x hs=>by
  have h:=z0m hs;rw[pR,pR,sz,sz,Xv,sz,sz,sz,Xv,sz,dR,dR];omega
theorem y5b{ps rs:List Rr}(h:PrG rs)(hs:ps.Sublist rs)(h1:1<=ps.length):PrG ps:=by
 obtain⟨hok,ns,hq,hn,hsz,hd⟩:=h;obtain⟨ns',k1,k2⟩:=z0l hs hq;have hz:=z0m k2;refine⟨?_,ns',k1,fun x hx=>hn x (k2.subset hx),by omega,by omega⟩;have hl:=Xd hok;have hl2:=hs.length_le;unfold okG;rw[Bool.and_eq_true,Bool.and_eq_true];refine⟨by simpa using h1,by simp;omega,List.all_eq_true.2 fun x hx=> ?_⟩;unfold okG at hok;rw[Bool.and_eq_true,Bool.and_eq_true]at hok;exact List.all_eq_true.1 hok.2.2 x (hs.subset hx)
theorem z0n{s:ByteArray}:∀(l:List ByteArray),inN s l=true->l[ixN s l]? =some s
 |[],h=>by simp[inN]at h
 |a::r,h=>by
  rw[inN]at h;rw[ixN];by_cases e:a=s
  ·rw[if_pos e,e];rfl
  ·rw[if_neg e]at h ⊢
   rw[List.getElem?_cons_succ];exact z0n r h
structure Sty (rs ps:List Rr):Prop where
 sub:ps.Sublist rs
 ref:∀x∈ps,∀y∈rfT x.2.1,inN y.1 (nmL ps)=true
theorem z6c{ps rs:List Rr}(h:ps.Sublist rs):(nmL ps).Sublist (nmL rs):=h.map _
theorem Sty.ck{rs ps:List Rr}(h:Sty rs ps)(hck:ckR rs=none):ckR ps=none:=Wy ((z6c h.sub).nodup (Hl hck)) h.ref
theorem z0o{P:ByteArray->Bool}:∀{ps rs:List Rr},ps.Sublist rs->(nmL rs).Nodup->(∀x∈ps,P x.1=true)->(∀x∈rs,P x.1=true->x.1∈nmL ps)->rs.filter (fun x=>P x.1)=ps
 |_,_,.slnil,_,_,_=>rfl
 |ps,_,.cons (l₂:=r) a hs,hn,h1,h2=>by
  have hn':a.1 ∉ nmL r/\(nmL r).Nodup:=by simpa [nmL]using hn
  have ha:P a.1=false:=by
   cases e:P a.1 with
   |false=>rfl
   |true=>exact absurd ((z6c hs).subset (h2 a (by simp) e)) hn'.1
  rw[List.filter_cons,ha];simp only[Bool.false_eq_true,if_false];exact z0o hs hn'.2 h1 fun x hx=>h2 x (by simp[hx])
 |_,_,.cons_cons (l₁:=p) (l₂:=r) a hs,hn,h1,h2=>by
  have hn':a.1 ∉ nmL r/\(nmL r).Nodup:=by simpa [nmL]using hn
  rw[List.filter_cons,h1 a (by simp)];simp only[if_true];congr 1;refine z0o hs hn'.2 (fun x hx=>h1 x (by simp[hx])) fun x hx hp=> ?_
  have:=h2 x (by simp[hx]) hp;rcases List.mem_cons.1 (show x.1∈a.1::nmL p from this)with e|e
  ·exact absurd (e▸List.mem_map.2 ⟨x,hx,rfl⟩) hn'.1
  ·exact e
theorem z6d{P:ByteArray->Bool}{K K':ByteArray->Ot}(h0:∀s,P s=true->K s=K' s):∀(rs:List Rr),(∀x∈rs,P x.1=true->∀y∈rfT x.2.1,P y.1=true)->∀s,P s=true->swp K (rs.filter (fun x=>P x.1)) s=swp K' rs s
 |[],_,s,hs=>by rw[List.filter_nil,swp,swp];exact h0 s hs
 |x::r,h,s,hs=>by
  have ih:=z6d h0 r (fun y hy=>h y (by simp[hy]));rw[List.filter_cons];cases hx:P x.1 with
  |true=>
   simp only[if_true];rw[swp,swp];unfold Vz Uk;by_cases e:s=x.1
   ·rw[if_pos e,if_pos e]
    exact Nv _ fun y hy=>ih y.1 (h x (by simp) hx y hy)
   ·rw[if_neg e,if_neg e]
    exact ih s hs
  |false=>
   simp only[Bool.false_eq_true,if_false];rw[swp];unfold Vz Uk;rw[if_neg (fun e=>by rw[e,hx]at hs;cases hs)];exact ih s hs
theorem z6e{rs ps:List Rr}(h:Sty rs ps)(hck:ckR rs=none):∀(m:Nat) (s:ByteArray),inN s (nmL ps)=true->itr ps m s=itr rs m s
 |0,s,_=>rfl
 |m+1,s,hs=>by
  have hf:rs.filter (fun x=>inN x.1 (nmL ps))=ps:=z0o (P:=fun s=>inN s (nmL ps)) h.sub (Hl hck) (fun x hx=>Hc.2 (List.mem_map.2 ⟨x,hx,rfl⟩)) (fun x _ hp=>Ah hp);have hr:∀x∈rs,inN x.1 (nmL ps)=true->∀y∈rfT x.2.1,inN y.1 (nmL ps)=true:=fun x hx hp=>by
   have:x∈rs.filter (fun x=>inN x.1 (nmL ps)):=List.mem_filter.2 ⟨hx,hp⟩;rw[hf]at this;exact h.ref x this
  have:=z6d (P:=fun s=>inN s (nmL ps)) (K:=itr ps m) (K':=itr rs m) (fun s hs=>z6e h hck m s hs) rs hr s hs;rw[hf]at this;exact this
theorem y5c{rs ps:List Rr}(h:Sty rs ps)(hck:ckR rs=none){a b:Nat}(ha:Xb (itr ps a) ps)(hb:Xb (itr rs b) rs)(s:ByteArray)(hs:inN s (nmL ps)=true):itr ps a s=itr rs b s:=by
 have h1:=z6e h hck (a+b) s hs;rw[Av ha b,Nat.add_comm a b,Av hb a]at h1;exact h1
theorem Ib{rs:List Rr}{L:List Int}(hok:okG rs=true)(hck:ckR rs=none)(hL:Gq (rs.map (usR (nmL rs))) 0 L):Sty rs (prn rs L)/\(∀x∈L,∃m:Nat,m<rs.length/\x=(m:Int))/\1<=L.length:=by
 have h1:=(Xd hok).1;have hlen:(nmL rs).length=rs.length:=List.length_map _;have hlt:∀{i:Nat},Rch (rs.map (usR (nmL rs))) 0 i->i<rs.length:=fun{i} hr=>by
  induction hr with
  |refl=>omega
  | @step b c _ hm ih=>
    rw[List.getD_eq_getElem?_getD,List.getElem?_map,List.getElem?_eq_getElem ih]at hm;obtain⟨m,hm1,hm2⟩:=Hf (l:=nmL rs) (y:=rs[b]) (by omega) hm;omega
 have hin:∀x∈L,∃m:Nat,m<rs.length/\x=(m:Int):=fun x hx=>by
  obtain⟨i,e,hr⟩:=(hL.2 x).1 hx;exact⟨i,hlt hr,e⟩
 have hsub:(prn rs L).Sublist rs:=by
  have:=z6b (rs:=rs) 0 hL.1 (fun x hx=>by obtain⟨m,hm,e⟩:=hin x hx;exact⟨m,hm,e,Nat.zero_le _⟩);simpa using this
 have h0:(0:Int)∈L:=(hL.2 0).2 ⟨0,rfl,.refl⟩;refine⟨⟨hsub,fun x hx y hy=> ?_⟩,hin,List.length_pos_of_mem h0⟩;unfold prn at hx;obtain⟨v,hv,hg⟩:=List.mem_filterMap.1 hx;obtain⟨m,e,hr⟩:=(hL.2 v).1 hv;subst e;have hm:=hlt hr;rw[Int.toNat_natCast,List.getElem?_eq_getElem hm]at hg;obtain rfl:rs[m]=x:=Option.some.inj hg;have hny:=Iz (Ww hck) y (Ad.2 ⟨rs[m],List.getElem_mem hm,hy⟩);obtain⟨i,hi,ei⟩:∃i:Nat,∃hi:i<rs.length,rs[i].1=y.1/\(i:Int)∈usR (nmL rs) rs[m]:=by
  have hl:=Sh y.1 (nmL rs) hny;have hl2:ixN y.1 (nmL rs)<rs.length:=by omega
  refine⟨ixN y.1 (nmL rs),hl2,?_,z3X.2 ?_⟩
  ·have h1:=z0n (nmL rs) hny
   unfold nmL at h1;rw[List.getElem?_map]at h1;change((rs[ixN y.1 (nmL rs)]?).map (·.1))=some y.1 at h1;rw[List.getElem?_eq_getElem hl2]at h1;exact Option.some.inj h1
  ·unfold ixL
   refine List.mem_map.2 ⟨y,hy,?_⟩;unfold ixV;rw[if_pos hny]
 have hri:Rch (rs.map (usR (nmL rs))) 0 i:=hr.step (by
  rw[List.getD_eq_getElem?_getD,List.getElem?_map,List.getElem?_eq_getElem hm];exact ei.2)
 have hiL:(i:Int)∈L:=(hL.2 _).2 ⟨i,rfl,hri⟩;refine Hc.2 (List.mem_map.2 ⟨rs[i],List.mem_filterMap.2 ⟨(i:Int),hiL,?_⟩,ei.1⟩);rw[Int.toNat_natCast,List.getElem?_eq_getElem hi]
open Classical in
theorem y5d{us:List (List Int)}{n:Nat}(h:∀i,Rch us 0 i->i<n):∃L,Gq us 0 L:=by
 refine⟨((List.range n).filter (fun i=>decide (Rch us 0 i))).map (fun i:Nat=>(i:Int)),?_,fun x=>⟨fun hx=> ?_,fun⟨i,e,hi⟩=> ?_⟩⟩
 ·rw[List.pairwise_map]
  exact(List.Pairwise.filter _ List.pairwise_lt_range).imp (fun h=>by omega)
 ·obtain⟨i,hi,rfl⟩:=List.mem_map.1 hx
  exact⟨i,rfl,by simpa using(List.mem_filter.1 hi).2⟩
 ·subst e
  exact List.mem_map.2 ⟨i,List.mem_filter.2 ⟨List.mem_range.2 (h i hi),by simpa using hi⟩,rfl⟩
def PrP(rs:List Rr)(X:Option (Int ⊕ (Int×Int)))(W:World)(e:Ending)(w':World):Prop:=Below W.heap.size W w'/\
 ((X≠none/\∃v,e=.returned (.tuple #[.agg #[.slice none 0 0],v])/\Qm X W.heap.size w' v)∨
  (X=none/\∃so' cap' L,e=.returned (.tuple #[.agg #[.slice so' (List.length L) cap'],.nilIface])/\Gq (rs.map (usR (nmL rs))) 0 L/\Qv w' w'.heap.size so' L.length (prn rs L)))
theorem y5e{rs:List Rr}(hok:okG rs=true):∀i,Rch (rs.map (usR (nmL rs))) 0 i->i<rs.length:=fun i hr=>by
 have h1:=(Xd hok).1;have hlen:(nmL rs).length=rs.length:=List.length_map _
 induction hr with
 |refl=>omega
 | @step b c _ hm ih=>
   rw[List.getD_eq_getElem?_getD,List.getElem?_map,List.getElem?_eq_getElem ih]at hm;obtain⟨m,hm1,hm2⟩:=Hf (l:=nmL rs) (y:=rs[b]) (by omega) hm;omega
theorem y5f(so:Option Addr)(n cap:Nat)(rs:List Rr)(X:Option (Int ⊕ (Int×Int)))(B:Nat)(w:World)(hX:CkX rs X)(hP:X=none->PrG rs)(hC:CkC so n cap rs X w)(hz:RgZ rs)(h:Qv w B so n rs)(hB:B<=w.heap.size)(hTg:3<w.heap.size):
  ∀W:World,Below w.heap.size w W->Calls prog 22 #[.agg #[.slice so n cap]] W (PrP rs X W):=fun W hW=>by
 have hup:∀{W'},Below W.heap.size W W'->Below w.heap.size w W':=fun hW'=>hW.trans (hW'.mono hW.size)
 have hRe:=fun(W':World) (hW':Below W.heap.size W W')=>y4M so n cap rs X B 0 W' hX (hC.from (hup hW')) (h.below ((hup hW').mono hB)) (Nat.le_trans hB (hup hW').size) hz (Nat.lt_of_lt_of_le hTg (hup hW').size)
 cases X with
 |some x=>
  refine(y4X so n cap (some x) W (fun W' hW'=>(hRe W' hW').mono fun e w' he=> ?_)).mono fun e w' he=> ?_
  ·obtain⟨hb,⟨_,v,h1,h2⟩|⟨h0,_⟩|⟨h0,_⟩⟩:=he
   ·obtain⟨tt,uu,rfl⟩:=h2.shape (by simp)
    exact⟨tt,uu,h1,h2,hb⟩
   ·cases h0
   ·cases h0
  ·obtain⟨v,h1,h2,h3⟩:=he
   exact⟨h3,.inl ⟨by simp,v,h1,h2⟩⟩
 |none=>
  obtain⟨hok,hck,_⟩:=hX;have hpr:=hP rfl;obtain⟨L,hL⟩:=y5d (y5e hok);obtain⟨_,hin,hl1⟩:=Ib hok hck hL;have hsub:=(Ib hok hck hL).1.sub;have hll:L.length<=64:=by
   have h1:=hsub.length_le;rw[Bj hin]at h1;have:=(Xd hok).2;omega
  refine(y4Y so n cap rs L W ((h.below (hW.mono hB)).upto (Nat.le_trans hB hW.size)) hin (by omega) (y5a hpr) (fun W' hW'=>(hRe W' hW').mono fun e w' he=> ?_)).mono fun e w' he=> ?_
  ·obtain⟨hb,⟨h0,_⟩|⟨_,h0,_⟩|⟨_,k,v,L',ek,hk,he,hL',hl',hr⟩⟩:=he
   ·exact absurd rfl h0
   ·have:=(Xd hok).1
    omega
   ·obtain rfl:k=0:=by omega
    obtain rfl:L'=L:=y4N hL' hL;exact⟨v,he,hr,hb⟩
  ·obtain⟨so',cap',h1,h2,h3⟩:=he
   exact⟨h3.out,.inr ⟨rfl,so',cap',L,h1,hL,h2.out⟩⟩
open Go.Maps
mutual
theorem z6f{K K':ByteArray->Ot}:∀t:RT,okT t=true->(∀y∈rfT t,K y.1=K' y.1)->flT K t=flT K' t
 | .mk k T a b c d s p,hok,h=>by
   by_cases h5:k=5
   ·subst h5
    have:=Ac hok;subst this;rw[flT,flT,if_neg (by omega),if_neg (by omega),flL,flL]
   ·rw[rfT,if_neg h5]at h
    rw[okT,Bool.and_eq_true]at hok;rw[flT,flT,z4P s h,z6g s hok.2 h]
theorem z6g{K K':ByteArray->Ot}:∀s:List RT,okL s=true->(∀y∈rfL s,K y.1=K' y.1)->flL K s=flL K' s
 |[],_,_=>by rw[flL,flL]
 |t::r,hok,h=>by
  rw[okL,Bool.and_eq_true]at hok;rw[rfL]at h;rw[flL,flL,z6f t hok.1 (fun y hy=>h y (List.mem_append.2 (.inl hy))),z6g r hok.2 (fun y hy=>h y (List.mem_append.2 (.inr hy)))]
end
mutual
theorem z6h{K K':ByteArray->Ot}:∀t:RT,okT t=true->(∀y∈rfT t,K y.1=K' y.1)->fbT K t=fbT K' t
 | .mk k T a b c d s p,hok,h=>by
   by_cases h5:k=5
   ·subst h5
    have:=Ac hok;subst this;rw[fbT,fbT,fbL,fbL]
   ·rw[rfT,if_neg h5]at h
    rw[okT,Bool.and_eq_true]at hok;rw[fbT,fbT,z6i _ s hok.2 h]
theorem z6i{K K':ByteArray->Ot}(sq:Bool):∀s:List RT,okL s=true->(∀y∈rfL s,K y.1=K' y.1)->fbL K sq s=fbL K' sq s
 |[],_,_=>by rw[fbL,fbL]
 |t::r,hok,h=>by
  rw[okL,Bool.and_eq_true]at hok;rw[rfL]at h;have h1:∀y∈rfT t,K y.1=K' y.1:=fun y hy=>h y (List.mem_append.2 (.inl hy))
  rw[fbL,fbL,z6h t hok.1 h1,Nv t h1,z6i sq r hok.2 (fun y hy=>h y (List.mem_append.2 (.inr hy)))]
end
theorem z6j{K:ByteArray->Ot}:∀{rs:List Rr},flG K rs=none->∀x∈rs,flT K x.2.1=none
 |[],_,x,hx=>by simp at hx
 |a::r,h,x,hx=>by
  rw[flG]at h;cases e:flT K a.2.1 with
  |some p=>rw[e]at h;cases h
  |none=>
   rw[e]at h;rcases List.mem_cons.1 hx with rfl|hx
   ·exact e
   ·exact z6j h x hx
theorem z6k{K:ByteArray->Ot}:∀{rs:List Rr},(∀x∈rs,flT K x.2.1=none)->flG K rs=none
 |[],_=>by rw[flG]
 |a::r,h=>by
  rw[flG,h a (by simp)];exact z6k fun x hx=>h x (by simp[hx])
theorem y5g{rs:List Rr}{L:List Int}(hok:okG rs=true)(hck:ckR rs=none)(hL:Gq (rs.map (usR (nmL rs))) 0 L)(hZ:soZ rs none=none):soZ (prn rs L) none=none:=by
 obtain⟨hsty,hin,hl1⟩:=Ib hok hck hL;have hpl:=Bj hin;have hckp:=hsty.ck hck;obtain⟨a,ha⟩:=z5P hckp;obtain⟨b,hb⟩:=z5P hck;have hK:∀s,inN s (nmL (prn rs L))=true->kG (prn rs L) s=kG rs s:=fun s hs=>by
  rw[<-Ny ha,<-Ny hb];exact y5c hsty hck ha hb s hs
 have hokp:∀x∈prn rs L,okT x.2.1=true:=fun x hx=>(Gz hok x (hsty.sub.subset hx)).2
 have hrf:∀x∈prn rs L,∀y∈rfT x.2.1,kG (prn rs L) y.1=kG rs y.1:=fun x hx y hy=>hK y.1 (hsty.ref x hx y hy)
 have hfl:flX (kG rs) rs=none:=by
  unfold soZ at hZ;simp only at hZ;cases e:flX (kG rs) rs with
  |some x=>rw[e]at hZ;cases hZ
  |none=>rfl
 have hlf:lfG rs=none:=by
  unfold soZ at hZ;simp only at hZ;rw[hfl]at hZ;simpa using hZ
 have hfl0:flG (kG rs) rs=none:=by unfold flX at hfl;simpa using hfl
 have hflp:flX (kG (prn rs L)) (prn rs L)=none:=by
  unfold flX;rw[z6k fun x hx=>by rw[z6f x.2.1 (hokp x hx) (hrf x hx)];exact z6j hfl0 x (hsty.sub.subset hx)];rfl
 have hpos:∀(i:Nat) (hi:i<(prn rs L).length),∃m:Nat,∃hm:m<rs.length,L[i]'(by omega)=(m:Int)/\(prn rs L)[i]=rs[m]:=fun i hi=>z0j hin i (by omega) hi
 have hedge:∀(i:Nat) (hi:i<(prn rs L).length) (j:Nat) (hj:j<(prn rs L).length) (m q:Nat),L[i]'(by omega)=(m:Int)->L[j]'(by omega)=(q:Int)->(j:Int)∈(bgU (prn rs L)).getD i []->(q:Int)∈(bgU rs).getD m []:=fun i hi j hj m q em eq hm=>by
  obtain⟨m',hm',e1,e2⟩:=hpos i hi;obtain rfl:m'=m:=by omega
  obtain⟨q',hq',e3,e4⟩:=hpos j hj;obtain rfl:q'=q:=by omega
  rw[Ig hi]at hm;obtain⟨s,hs,es⟩:=Ap.1 hm;have hmem:=List.getElem_mem hi;rw[z6h _ (hokp _ hmem) (hrf _ hmem)]at hs;obtain⟨y,hy,ey⟩:=Wd _ _ (Nat.lt_succ_self _) (hokp _ hmem) s hs;have hns:inN s (nmL (prn rs L))=true:=by rw[<-ey];exact hsty.ref _ hmem y hy
  rw[Ig hm'];refine Ap.2 ⟨s,by rw[<-e2];exact hs,?_⟩;have hx:(prn rs L)[j].1=s:=by
   have h1:=z0n (nmL (prn rs L)) hns;rw[z4W hns]at es;unfold ixV at es;rw[if_pos hns]at es;have h2:ixN s (nmL (prn rs L))=j:=by omega
   rw[h2]at h1;unfold nmL at h1;rw[List.getElem?_map,List.getElem?_eq_getElem hj]at h1;exact Option.some.inj h1
  rw[<-hx,e4];exact Wk hck _ hq'
 have hjlt:∀{i j:Nat},(j:Int)∈(bgU (prn rs L)).getD i []->j<(prn rs L).length:=fun{i j} hm=>by
  have hi:=z5Q hm;rw[Ig hi]at hm;have hprl:okG (prn rs L)=true:=by
   have h2:=(Xd hok).2;have h3:=hsty.sub.length_le;unfold okG;rw[Bool.and_eq_true,Bool.and_eq_true];refine⟨by simp;omega,by simp;omega,List.all_eq_true.2 fun x hx=> ?_⟩;have:=Gz hok x (hsty.sub.subset hx);unfold okR;rw[this.1,this.2];rfl
  obtain⟨m,h1,h2⟩:=z4Y hprl hckp (List.getElem_mem hi) _ hm;omega
 have hrch:∀{i j:Nat} (hi:i<(prn rs L).length),Rch (bgU (prn rs L)) i j->∃hj:j<(prn rs L).length,∀m q:Nat,L[i]'(by omega)=(m:Int)->L[j]'(by omega)=(q:Int)->Rch (bgU rs) m q:=fun{i j} hi hr=>by
  induction hr with
  |refl=>exact⟨hi,fun m q e1 e2=>by obtain rfl:m=q:=(by omega);exact .refl⟩
  | @step b c _ hm ih=>
    obtain⟨hb',hR⟩:=ih;have hc:=hjlt hm;refine⟨hc,fun m q e1 e2=> ?_⟩;obtain⟨x,hx,e3,_⟩:=hpos b hb';exact(hR m x e1 e3).step (hedge b hb' c hc x q e3 e2 hm)
 have hlfp:lfG (prn rs L)=none:=Wc fun i hi hbk=>by
  obtain⟨x,hx,hr⟩:=hbk;have hxl:=hjlt hx;obtain⟨_,hR⟩:=hrch hxl hr;obtain⟨m,hm,e1,_⟩:=hpos i hi;obtain⟨q,hq,e2,_⟩:=hpos x hxl;exact z5A hlf m hm ⟨q,hedge i hi x hxl m q e1 e2 hx,hR q m e2 e1⟩
 unfold soZ;simp only;rw[hflp];simp only;rw[hlfp];rfl
theorem y5h(so:Option Addr)(n cap:Nat)(rs:List Rr)(fp:Addr)(w:World)(hE:Zj w)(hT:TabIs w)(hF:w.cell? ⟨1,0,none⟩=some (.iface 281 (.pointer (some fp))))(hz:RgZ rs)(hu:RgU rs)(h:Qv w w.heap.size so n rs):
  Calls prog 5 #[.agg #[.slice so n cap]] w fun e w'=>e=.returned (.bool true)/\Below w.heap.size w w':=by
 obtain⟨X,hX,hP,hC⟩:=Iq so n cap rs w.heap.size w hz hu h L0q hT;obtain⟨u1,hu1⟩:∃u1,u1=w.alloc (.cells #[.slice so n cap] 24):=⟨_,rfl⟩;have hbu:Below w.heap.size w u1:=by rw[hu1];exact(Below.refl _ w).alloc L0q _
 have gu:u1.heap[w.heap.size]? =some (.cells #[.slice so n cap] 24):=by rw[hu1];exact Qx w _ rfl
 have hfl:1<w.heap.size:=World.block_lt_of_cell? w _ hF;have HS:=hid (Bz fp u1 (hE.below hbu hE.lt) (hT.below hbu hT.lt) ((hbu.cell (p:=⟨1,0,none⟩) hfl).trans hF));have HPr:=hid (y5f so n cap rs X w.heap.size w hX hP hC hz h L0q hT.lt);have HCh:=hid (fun(W:World) (hb:Below w.heap.size w W)=>Dm so n cap rs X w.heap.size fp w hX hP hC hz h L0q hT hF W hb);have HX:=hid hX;have HP:=hid hP;have HZ:=hid hz;have HT:=hid hT;have HF:=hid hF;have HFl:Hid (1<w.heap.size):=hfl;clear hE hT hz hu h hC hX hF hfl hP;go_enter func5,ntmps5
 go_wp2_with fail
 rw[<-hu1];refine HS.out.mono ?_;rintro e w1 ⟨rfl,HB1⟩;have HBw1:=hid (hbu.trans (HB1.out.mono hbu.size));have HG1:=hid ((HB1.out.block _ (Qq gu)).trans gu);obtain⟨x1,f1⟩:=Qk HG1.out;have l1:=Qq HG1.out;clear HS HB1 hu1 hbu gu
 go_wp2_with fail
 refine(HCh.out w1 HBw1.out).mono ?_;clear HCh;rintro e w2 ⟨ev,rfl,hev,hb2⟩;have HBw2:=hid (HBw1.out.trans (hb2.mono HBw1.out.size));have HG2:=hid ((hb2.block _ (Qq HG1.out)).trans HG1.out);obtain⟨x2,f2⟩:=Qk HG2.out;have l2:=Qq HG2.out;have HPr2:=hid (HPr.out w2 HBw2.out);clear x1 f1 l1 HG1 hb2 HPr;cases hZ:soZ rs X with
 |some z=>
  rw[hZ]at hev;obtain⟨tt,uu,rfl⟩:=hev.shape (by simp);have HPr3:Hid (Calls prog 22 #[.agg #[.slice so n cap]] w2 fun e w'=>∃so' n' cap' v,e=.returned (.tuple #[.agg #[.slice so' n' cap'],v])/\Below w2.heap.size w2 w'):=HPr2.out.mono fun e w' he=>by
   obtain⟨hb,⟨_,v,h1,_⟩|⟨_,so',cap',L,h1,_⟩⟩:=he
   ·exact⟨_,_,_,_,h1,hb⟩
   ·exact⟨_,_,_,_,h1,hb⟩
  clear hev hZ HPr2
  go_wp2_with fail
  refine HPr3.out.mono ?_;clear HPr3;rintro e w3 ⟨so',n',cap',v,rfl,hb3⟩;have HBw3:=hid (HBw2.out.trans (hb3.mono HBw2.out.size));clear hb3 x2 f2 l2
  go_wp2_with fail
  go_ret;exact⟨rfl,HBw3.out.alloc HBw3.out.size _⟩
 |none=>
  rw[hZ]at hev;obtain rfl:ev=.nilIface:=hev;have hXn:X=none:=by
   cases X with
   |none=>rfl
   |some x=>unfold soZ at hZ;simp at hZ
  subst hXn;have HZz:=hid hZ;clear hZ
  go_wp2_with fail
  refine HPr2.out.mono ?_;clear HPr2;rintro e w3 ⟨hb3,⟨h0,_⟩|⟨_,so',cap',L,rfl,hL,hrg⟩⟩
  ·exact absurd rfl h0
  obtain⟨hok,hck,_⟩:=HX.out;have hprg:=HP.out (by simp);obtain⟨hsty,hin,hl1⟩:=Ib hok hck hL;have hpl:=Bj hin;have hprp:=y5b hprg hsty.sub (by rw[hpl];exact hl1);have hckp:=hsty.ck hck;have hzs:=y5g hok hck hL HZz.out;obtain⟨k,hk⟩:∃k,k=L.length:=⟨_,rfl⟩;rw[<-hk]at hpl hrg ⊢;have hb34:Below w3.heap.size w3 (w3.alloc (.cells #[.slice so' k cap'] 24)):=B0q.alloc L0q _;have hB4:=(HBw2.out.trans (hb3.mono HBw2.out.size)).trans (hb34.mono (HBw2.out.trans (hb3.mono HBw2.out.size)).size);have hrg4:=(hrg.below hb34).upto hb34.size;have hzp:RgZ (prn rs L):=fun x hx=>HZ.out x (hsty.sub.subset hx)
  have hT4:=HT.out.below hB4 HT.out.lt;obtain⟨hX4,hC4⟩:=Wg so' k cap' (prn rs L) _ _ hzp hrg4 L0q hT4 hprp hckp;have HCk:=hid (Dm so' k cap' (prn rs L) none _ fp _ hX4 (fun _=>hprp) hC4 hzp hrg4 L0q hT4 ((hB4.cell (p:=⟨1,0,none⟩) HFl.out).trans HF.out) _ B0q);rw[hzs]at HCk;have HB4:=hid hB4;clear hok hck hprg hsty hin hl1 hpl hprp hckp hzs hk hb34 hB4 hrg4 hzp hT4 hX4 hC4 hrg hL hb3 x2 f2 l2 HX HP HZz
  go_wp2_with fail
  refine HCk.out.mono ?_;clear HCk;rintro e w5 ⟨v5,rfl,h5,hb5⟩;obtain rfl:v5=.nilIface:=h5;have HB5:=hid (HB4.out.trans (hb5.mono HB4.out.size));clear hb5
  go_wp2_with fail
  go_ret;exact⟨rfl,HB5.out⟩
open Go.ChangeShapes Go.WideShapes Go.ChangeAt
theorem y5i(os:Os)(args:Array Value):laidMetH prog Rows.soundPrunedRow.laid ((World.doorLaid prog 400 os).forCall (fun _ _=>0) ⟨#[],args,[]⟩).memory:=
 laidMetH_of_parts3 (fuel:=8) (laidMet_of_run' 8 (by kernel_rfl) (by kernel_rfl)) (by kernel_rfl) (by kernel_rfl)
theorem y5j(os:Os)(started:os.Started)(H:Type)(enc:TypeId×Value->H):
  ReturnsInHanded {} Tryz.checked os 5 .any (fun w args=>(Rows.soundPrunedSpec.pre enc prog Tryz.f5 [] false w args/\laidMetH prog Rows.soundPrunedRow.laid w)/\sizedMet enc prog Tryz.f5 (OpenSpec.ofChange Rows.soundPrunedSpec) false w args)
   (Rows.soundPrunedSpec.post enc prog Tryz.f5 false true false false):=by
 refine returnsInHanded_of_change_and (C:=Tryz.checked) (X:=fun w _=>laidMetH prog Rows.soundPrunedRow.laid w) (fun _ _ _ hh h=>h.of_heap hh) Tryz.own started (by kernel_rfl) func5
  (ChangeSpec.witness_shaped (enc:=enc) (C:=Tryz.checked) (os:=os) (X:=fun w _=>laidMetH prog Rows.soundPrunedRow.laid w) false (World.doorLaid prog 400 os) #[.agg #[.slice none 0 0]] 8 rfl (World.shaped_of_RefB (by kernel_rfl) (by kernel_rfl)) (by kernel_rfl) (by kernel_rfl) (by kernel_rfl) (y5i os _)) ?_
 intro W base args ds gs before hval0 hW _ hsz0 hL _;have hval:∀(j:Nat) t v,Tryz.f5.params[j]? =some t->args[j]? =some v->Value.okWide prog W .any base t v:=hval0;have hW':=hW;obtain⟨p,q,hA0,hV,rfl,hfz,hnd⟩:=hW;have hA:DataW.TrodAll enc prog W 0 (fun _=>true) true Tryz.f5.params.toList args.toList ds p:=hA0;rw[Tryz.params5]at hA hval;obtain⟨v0,vs0,d0,ds0,p0,q0,hargs,rfl,rfl,h0,r0⟩:=trodAll_cons hA;obtain⟨rfl,rfl,rfl⟩:=trodAll_nil r0;obtain rfl:args=#[v0]:=by cases args;simp_all
 obtain⟨rfl,rfl⟩:=trodVars_none hV;have k0:=h0;have lt0:∀x∈p0,x.block<W.heap.size:=by obtain⟨m,hm⟩:=k0;exact DataW.trod_lt m _ _ _ hm
 obtain⟨so0,n0,cap0,rs0,rfl,hg0,hz0,hu0⟩:=Hw (hval 0 24 v0 rfl rfl) h0;clear hA0 hval0;have hwalk:Calls prog 5 #[.agg #[.slice so0 n0 cap0]] W fun e w'=>e=.returned (.bool true)/\Below W.heap.size W w':=by
  obtain⟨hE,hT,fp,hF⟩:=Bq hL;exact y5h so0 n0 cap0 rs0 fp W hE hT hF hz0 hu0 hg0
 refine hwalk.mono fun e W' ⟨he,bel⟩=> ?_
 subst he;exact⟨_,rfl,_,_,_,[],_,[],hW',trodAll_mk1 (shut_bool Tryz.underlying4 _),(trodAll_cons_mk (Below.trod Tryz.laidOutW (by kernel_rfl) (of_decide_eq_true (by kernel_rfl)) k0 bel lt0) trodAll_mk0),rfl,bel.frame _,fun h=>by cases h⟩
theorem y5k:Rows.SoundPrunedSaid:=
 OpenClaim.holds_of_wide 5 Tryz.f5 rfl rfl rfl rfl rfl rfl rfl ⟨rfl,rfl,rfl,rfl,rfl⟩ rfl rfl rfl rfl rfl (by kernel_rfl) func5 (by kernel_rfl)
  (of_decide_eq_true (by kernel_rfl)) (by unfold Func.isWrapper;first|(rw[if_pos (by decide+kernel)];kernel_rfl)|(rw[if_neg (by decide+kernel)];exact⟨rfl,rfl⟩))
  (fun os started H enc _=>y5j os started H enc)
theorem epruned_proved:Rows.SoundPrunedCardSaid:=
 Claim7.holds_tied_plain_at .later [] _ _ _ _ y5k (fun _ h=>by cases h) (by kernel_rfl) (fun _ h=>by cases h) soundPruned_row_tie rfl ⟨rfl,rfl⟩ (by kernel_rfl) rfl
  (fun f fn hf hfn=>by
    obtain rfl:f=5:=Option.some.inj ((show Tryz.prog.funcNamed "muntin/muntinlaw08.SoundPruned"=some 5 by kernel_rfl).symm.trans hf)|>.symm;obtain rfl:fn=Tryz.f5:=(Option.some.inj (Tryz.func5.symm.trans hfn)).symm;exact⟨by kernel_rfl,fun j t ht=>by
     rw[Tryz.params5]at ht;have hm:t∈[24]:=by simpa using Array.mem_of_getElem? ht
     have hall:([24].all fun u=> !Tryz.prog.wantsStandIn u)=true:=by kernel_rfl
     exact(show Tryz.prog.wantsStandIn t=false by simpa using List.all_eq_true.1 hall t hm)⟩)
  (by kernel_rfl)
#print axioms epruned_proved
end Go.Proofs.YthmgblmoobkliaaGreatDoor
