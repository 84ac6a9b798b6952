/- Lemmas for the last text. Conditions: those that each names. -/
import Derived.Test.YtjodljnddflgfaaGreatDoorEO23ToPR1
import Derived.Test.YtjodljnddflgfaaGreatDoorVFIToFBase
import Derived.Stop.RegionWithIn
set_option linter.unusedVariables false
namespace Go.Proofs.YtjodljnddflgfaaGreatDoor
open Go.Proofs.Tryz
open Go.RowKit Go.Shelf
theorem y5D{k:Int}{T:ByteArray}{a b c d:Int}{n:Nat}(h:okN k T a b c d n=true):T.size<=255:=by
 have he:T.toList.isEmpty=true->T.size<=255:=fun e=>by
  have:T.toList=[]:=by simpa using e
  have:=congrArg List.length this;rw[ByteArray.toList_eq]at this;have e2:T.size=0:=by simpa using this
  omega
 unfold okN at h;by_cases h1:k=1∨k=4
 ·rw[if_pos h1,Bool.and_eq_true]at h;exact he h.1
 rw[if_neg h1]at h;by_cases h2:k=2
 ·rw[if_pos h2,Bool.and_eq_true]at h;have:=h.1;simp at this;omega
 rw[if_neg h2]at h;by_cases h3:k=3
 ·rw[if_pos h3,Bool.and_eq_true]at h;exact he h.1
 rw[if_neg h3]at h;by_cases h5:k=5
 ·rw[if_pos h5,Bool.and_eq_true]at h
  have hn:=h.1;unfold nmS at hn;cases hb:bt T 0 with
  |none=>rw[hb]at hn;cases hn
  |some x=>
   rw[hb]at hn;simp only[Bool.and_eq_true,decide_eq_true_eq]at hn;omega
 rw[if_neg h5]at h;by_cases h6:k=6∨k=7
 ·rw[if_pos h6,Bool.and_eq_true]at h;exact he h.1
 rw[if_neg h6]at h;by_cases h8:8<=k/\k<=12
 ·rw[if_pos h8,Bool.and_eq_true]at h;exact he h.1
 ·rw[if_neg h8]at h;cases h
mutual
theorem y4h:∀(t:RT) (n:Nd),Tq t n->Vk n->okT t=true->sz (pN qT cT n)<=8192->RtB t
 | .mk k T a b c d s p,.mk kd T' C s' p',hq,hv,hok,hs=>by
   rw[Tq]at hq;obtain⟨hk,hT,_,_,_,_,hl⟩:=hq;rw[Vk]at hv;rw[okT,Bool.and_eq_true]at hok;have hsz:=y5D hok.1;have hlen:s'.length=s.length:=hl.length';have Qp:∀over sep,sz (pS qT cT over sep s')<=8192->y3V s:=fun over sep h=>by
    cases s with
    |nil=>rw[y3V];trivial
    |cons t r=>
     cases s' with
     |nil=>simp[TqL]at hl
     |cons n q=>
      rw[TqL]at hl;have hvl:=hv.2;rw[VkL]at hvl;have hol:=hok.2;rw[okL,Bool.and_eq_true]at hol;have e:sz (pS qT cT over sep (n::q))=sz (pP qT cT over n)+sz (pB qT cT over sep q):=by rw[pS,Vp];rfl
      have e2:=Hh over n;rw[y3V];exact⟨y4h t n hl.1 hvl.1 hol.1 (by omega),y4C r q over sep hl.2 hvl.2 hol.2 (by omega)⟩
   rw[RtB];rw[pN]at hs;refine⟨by omega,?_⟩;rw[Xc,<-hlen];rcases hv.1 with⟨rfl,_,_,rfl⟩|⟨rfl,_,rfl⟩|⟨rfl,_,rfl⟩|⟨rfl,_,_,rfl⟩|⟨rfl,_,rfl⟩|⟨h67,_,_,h2⟩|⟨h8,h12,_,_,h1⟩
   ·exact⟨by simp,Qp 0 {data:=#[]} (by rw[pS];simp[sz])⟩
   ·exact⟨by simp,Qp 0 {data:=#[]} (by rw[pS];simp[sz])⟩
   ·exact⟨by simp,Qp 0 {data:=#[]} (by rw[pS];simp[sz])⟩
   ·exact⟨by simp,Qp 0 {data:=#[]} (by rw[pS];simp[sz])⟩
   ·exact⟨by simp,Qp 0 {data:=#[]} (by rw[pS];simp[sz])⟩
   ·rcases h67 with rfl|rfl
    ·simp only[Nat.reduceEqDiff,if_false,if_true]at hs
     have:=Ij 6 bSp (by decide) s';exact⟨by omega,Qp 6 bSp hs⟩
    ·simp only[Nat.reduceEqDiff,if_false,if_true]at hs
     have:=Ij 7 bSl (by decide) s';exact⟨by omega,Qp 7 bSl hs⟩
   ·refine⟨by omega,?_⟩
    rw[if_neg (by omega),if_neg (by omega),if_neg (by omega),if_neg (by omega),if_neg (by omega),if_neg (by omega),if_neg (by omega)]at hs;by_cases h11:kd=11∨kd=12
    ·rw[if_pos h11,sz]at hs
     exact Qp kd bE (by omega)
    ·rw[if_neg h11,Vp]at hs
     exact Qp kd bE (by omega)
theorem y4C:∀(s:List RT) (q:List Nd) (over:Nat) (sep:ByteArray),TqL s q->VkL q->okL s=true->sz (pB qT cT over sep q)<=8192->y3V s
 |[],_,_,_,_,_,_,_=>by rw[y3V];trivial
 |t::r,[],_,_,h,_,_,_=>by simp[TqL]at h
 |t::r,n::q,over,sep,hl,hv,hok,hs=>by
  rw[TqL]at hl;rw[VkL]at hv;rw[okL,Bool.and_eq_true]at hok;have e:sz (pB qT cT over sep (n::q))=sep.size+(sz (pP qT cT over n)+sz (pB qT cT over sep q)):=by rw[pB,sz,Vp];rfl
  have e2:=Hh over n;rw[y3V];exact⟨y4h t n hl.1 hv.1 hok.1 (by omega),y4C r q over sep hl.2 hv.2 hok.2 (by omega)⟩
end
theorem y4D{x:Rl}:∀{ns:List Rl},x∈ns->sz (pN qT cT x.2.1)<=sz (pR qT cT ns)
 |y::r,h=>by
  rw[pR,sz,sz,Vp,sz];rcases List.mem_cons.1 h with rfl|h
  ·omega
  ·have:=y4D h
   omega
theorem y5E{rs:List Rr}(h:PrG rs):∀x∈rs,x.1.size<=281474976710656/\RtB x.2.1:=fun x hx=>by
 obtain⟨hok,ns,hq,hn,hs,_⟩:=h;obtain⟨j,hj,rfl⟩:=List.getElem_of_mem hx;have hj2:j<ns.length:=by rw[hq.len];exact hj
 have h1:=hq.get j hj hj2;have ho:=Bf hok _ (List.getElem_mem hj);have hv:=(hn _ (List.getElem_mem hj2)).2.1;refine⟨?_,y4h _ _ h1.2 hv ho.2 (Nat.le_trans (y4D (List.getElem_mem hj2)) hs)⟩;have hnm:=ho.1;unfold nmS at hnm;cases hb:bt rs[j].1 0 with
 |none=>rw[hb]at hnm;cases hnm
 |some x=>
  rw[hb]at hnm;simp only[Bool.and_eq_true,decide_eq_true_eq]at hnm;omega
theorem y4E{rs:List Rr}:∀{L:List Int} (k:Nat),L.Pairwise (· < ·)->(∀x∈L,∃m:Nat,m<rs.length/\x=(m:Int)/\k<=m)->(prn rs L).Sublist (rs.drop k)
 |[],k,_,_=>List.nil_sublist _
 |x::r,k,hp,h=>by
  obtain⟨m,hm,rfl,hk⟩:=h x (by simp);rw[List.pairwise_cons]at hp;have e:prn rs ((m:Int)::r)=rs[m]::prn rs r:=by unfold prn;simp[hm]
  have h2:=y4E (L:=r) (m+1) hp.2 (fun y hy=>by
   obtain⟨q,hq,rfl,_⟩:=h y (by simp[hy]);have:=hp.1 _ hy;exact⟨q,hq,rfl,by omega⟩)
  have h3:(rs.drop m).Sublist (rs.drop k):=by
   rw[show rs.drop m=(rs.drop k).drop (m-k) by rw[List.drop_drop];congr 1;omega];exact List.drop_sublist _ _
  rw[e];refine List.Sublist.trans ?_ h3;rw[List.drop_eq_getElem_cons hm];exact h2.cons_cons _
theorem y4i:∀{ps rs:List Rr},ps.Sublist rs->∀{ns:List Rl},TqR rs ns->∃ns',TqR ps ns'/\ns'.Sublist ns
 |_,_,.slnil,ns,h=>by
  cases ns with
  |nil=>exact⟨[],h,List.Sublist.refl _⟩
  |cons a r=>simp[TqR]at h
 |_,_,.cons a hs,ns,h=>by
  cases ns with
  |nil=>simp[TqR]at h
  |cons y q=>
   rw[TqR]at h;obtain⟨ns',h1,h2⟩:=y4i hs h.2.2;exact⟨ns',h1,h2.cons _⟩
 |_,_,.cons_cons a hs,ns,h=>by
  cases ns with
  |nil=>simp[TqR]at h
  |cons y q=>
   rw[TqR]at h;obtain⟨ns',h1,h2⟩:=y4i hs h.2.2;exact⟨y::ns',by rw[TqR];exact⟨h.1,h.2.1,h1⟩,h2.cons_cons _⟩
theorem y4j:∀{a b:List Rl},a.Sublist b->sz (pR qT cT a)<=sz (pR qT cT b)/\dR a<=dR b
 |_,_,.slnil=>⟨Nat.le_refl _,Nat.le_refl _⟩
 |_,_,.cons x hs=>by
  have h:=y4j hs;rw[pR,sz,sz,Vp,sz,dR];omega
 |_,_,.cons_cons x hs=>by
  have h:=y4j hs;rw[pR,pR,sz,sz,Vp,sz,sz,sz,Vp,sz,dR,dR];omega
theorem y5F{ps rs:List Rr}(h:PrG rs)(hs:ps.Sublist rs)(h1:1<=ps.length):PrG ps:=by
 obtain⟨hok,ns,hq,hn,hsz,hd⟩:=h;obtain⟨ns',k1,k2⟩:=y4i hs hq;have hz:=y4j k2;refine⟨?_,ns',k1,fun x hx=>hn x (k2.subset hx),by omega,by omega⟩;have hl:=Dx hok;have hl2:=hs.length_le;unfold okG;rw[Bool.and_eq_true,Bool.and_eq_true];refine⟨by simpa using h1,by simp;omega,List.all_eq_true.2 fun x hx=> ?_⟩;unfold okG at hok;rw[Bool.and_eq_true,Bool.and_eq_true]at hok;exact List.all_eq_true.1 hok.2.2 x (hs.subset hx)
theorem y4F{s:ByteArray}:∀(l:List ByteArray),inN s l=true->l[ixN s l]? =some s
 |[],h=>by simp[inN]at h
 |a::r,h=>by
  rw[inN]at h;rw[ixN];by_cases e:a=s
  ·rw[if_pos e,e];rfl
  ·rw[if_neg e]at h ⊢
   rw[List.getElem?_cons_succ];exact y4F r h
structure Sty (rs ps:List Rr):Prop where
 sub:ps.Sublist rs
 ref:∀x∈ps,∀y∈rfT x.2.1,inN y.1 (nmL ps)=true
theorem y4G{ps rs:List Rr}(h:ps.Sublist rs):(nmL ps).Sublist (nmL rs):=h.map _
theorem Sty.ck{rs ps:List Rr}(h:Sty rs ps)(hck:ckR rs=none):ckR ps=none:=y1O ((y4G h.sub).nodup (z4H hck)) h.ref
theorem y4b{P:ByteArray->Bool}:∀{ps rs:List Rr},ps.Sublist rs->(nmL rs).Nodup->(∀x∈ps,P x.1=true)->(∀x∈rs,P x.1=true->x.1∈nmL ps)->rs.filter (fun x=>P x.1)=ps
 |_,_,.slnil,_,_,_=>rfl
 |ps,_,.cons (l₂:=r) a hs,hn,h1,h2=>by
  have hn':a.1 ∉ nmL r/\(nmL r).Nodup:=by simpa [nmL]using hn
  have ha:P a.1=false:=by
   cases e:P a.1 with
   |false=>rfl
   |true=>exact absurd ((y4G hs).subset (h2 a (by simp) e)) hn'.1
  rw[List.filter_cons,ha];simp only[Bool.false_eq_true,if_false];exact y4b hs hn'.2 h1 fun x hx=>h2 x (by simp[hx])
 |_,_,.cons_cons (l₁:=p) (l₂:=r) a hs,hn,h1,h2=>by
  have hn':a.1 ∉ nmL r/\(nmL r).Nodup:=by simpa [nmL]using hn
  rw[List.filter_cons,h1 a (by simp)];simp only[if_true];congr 1;refine y4b hs hn'.2 (fun x hx=>h1 x (by simp[hx])) fun x hx hp=> ?_
  have:=h2 x (by simp[hx]) hp;rcases List.mem_cons.1 (show x.1∈a.1::nmL p from this)with e|e
  ·exact absurd (e▸List.mem_map.2 ⟨x,hx,rfl⟩) hn'.1
  ·exact e
theorem y4H{P:ByteArray->Bool}{K K':ByteArray->Ot}(h0:∀s,P s=true->K s=K' s):∀(rs:List Rr),(∀x∈rs,P x.1=true->∀y∈rfT x.2.1,P y.1=true)->∀s,P s=true->swp K (rs.filter (fun x=>P x.1)) s=swp K' rs s
 |[],_,s,hs=>by rw[List.filter_nil,swp,swp];exact h0 s hs
 |x::r,h,s,hs=>by
  have ih:=y4H h0 r (fun y hy=>h y (by simp[hy]));rw[List.filter_cons];cases hx:P x.1 with
  |true=>
   simp only[if_true];rw[swp,swp];unfold Ud Gz;by_cases e:s=x.1
   ·rw[if_pos e,if_pos e]
    exact Iv _ fun y hy=>ih y.1 (h x (by simp) hx y hy)
   ·rw[if_neg e,if_neg e]
    exact ih s hs
  |false=>
   simp only[Bool.false_eq_true,if_false];rw[swp];unfold Ud Gz;rw[if_neg (fun e=>by rw[e,hx]at hs;cases hs)];exact ih s hs
theorem y4I{rs ps:List Rr}(h:Sty rs ps)(hck:ckR rs=none):∀(m:Nat) (s:ByteArray),inN s (nmL ps)=true->itr ps m s=itr rs m s
 |0,s,_=>rfl
 |m+1,s,hs=>by
  have hf:rs.filter (fun x=>inN x.1 (nmL ps))=ps:=y4b (P:=fun s=>inN s (nmL ps)) h.sub (z4H hck) (fun x hx=>z4E.2 (List.mem_map.2 ⟨x,hx,rfl⟩)) (fun x _ hp=>Ik hp);have hr:∀x∈rs,inN x.1 (nmL ps)=true->∀y∈rfT x.2.1,inN y.1 (nmL ps)=true:=fun x hx hp=>by
   have:x∈rs.filter (fun x=>inN x.1 (nmL ps)):=List.mem_filter.2 ⟨hx,hp⟩;rw[hf]at this;exact h.ref x this
  have:=y4H (P:=fun s=>inN s (nmL ps)) (K:=itr ps m) (K':=itr rs m) (fun s hs=>y4I h hck m s hs) rs hr s hs;rw[hf]at this;exact this
theorem y5G{rs ps:List Rr}(h:Sty rs ps)(hck:ckR rs=none){a b:Nat}(ha:Yk (itr ps a) ps)(hb:Yk (itr rs b) rs)(s:ByteArray)(hs:inN s (nmL ps)=true):itr ps a s=itr rs b s:=by
 have h1:=y4I h hck (a+b) s hs;rw[Sh ha b,Nat.add_comm a b,Sh hb a]at h1;exact h1
theorem y4k{rs:List Rr}{L:List Int}(hok:okG rs=true)(hck:ckR rs=none)(hL:y3W (rs.map (usR (nmL rs))) 0 L):Sty rs (prn rs L)/\(∀x∈L,∃m:Nat,m<rs.length/\x=(m:Int))/\1<=L.length:=by
 have h1:=(Dx hok).1;have hlen:(nmL rs).length=rs.length:=List.length_map _;have hlt:∀{i:Nat},Rch (rs.map (usR (nmL rs))) 0 i->i<rs.length:=fun{i} hr=>by
  induction hr with
  |refl=>omega
  | @step b c _ hm ih=>
    rw[List.getD_eq_getElem?_getD,List.getElem?_map,List.getElem?_eq_getElem ih]at hm;obtain⟨m,hm1,hm2⟩:=y4f (l:=nmL rs) (y:=rs[b]) (by omega) hm;omega
 have hin:∀x∈L,∃m:Nat,m<rs.length/\x=(m:Int):=fun x hx=>by
  obtain⟨i,e,hr⟩:=(hL.2 x).1 hx;exact⟨i,hlt hr,e⟩
 have hsub:(prn rs L).Sublist rs:=by
  have:=y4E (rs:=rs) 0 hL.1 (fun x hx=>by obtain⟨m,hm,e⟩:=hin x hx;exact⟨m,hm,e,Nat.zero_le _⟩);simpa using this
 have h0:(0:Int)∈L:=(hL.2 0).2 ⟨0,rfl,.refl⟩;refine⟨⟨hsub,fun x hx y hy=> ?_⟩,hin,List.length_pos_of_mem h0⟩;unfold prn at hx;obtain⟨v,hv,hg⟩:=List.mem_filterMap.1 hx;obtain⟨m,e,hr⟩:=(hL.2 v).1 hv;subst e;have hm:=hlt hr;rw[Int.toNat_natCast,List.getElem?_eq_getElem hm]at hg;obtain rfl:rs[m]=x:=Option.some.inj hg;have hny:=z4I (y1N hck) y (Wd.2 ⟨rs[m],List.getElem_mem hm,hy⟩);obtain⟨i,hi,ei⟩:∃i:Nat,∃hi:i<rs.length,rs[i].1=y.1/\(i:Int)∈usR (nmL rs) rs[m]:=by
  have hl:=y4c y.1 (nmL rs) hny;have hl2:ixN y.1 (nmL rs)<rs.length:=by omega
  refine⟨ixN y.1 (nmL rs),hl2,?_,y5r.2 ?_⟩
  ·have h1:=y4F (nmL rs) hny
   unfold nmL at h1;rw[List.getElem?_map]at h1;change((rs[ixN y.1 (nmL rs)]?).map (·.1))=some y.1 at h1;rw[List.getElem?_eq_getElem hl2]at h1;exact Option.some.inj h1
  ·unfold ixL
   refine List.mem_map.2 ⟨y,hy,?_⟩;unfold ixV;rw[if_pos hny]
 have hri:Rch (rs.map (usR (nmL rs))) 0 i:=hr.step (by
  rw[List.getD_eq_getElem?_getD,List.getElem?_map,List.getElem?_eq_getElem hm];exact ei.2)
 have hiL:(i:Int)∈L:=(hL.2 _).2 ⟨i,rfl,hri⟩;refine z4E.2 (List.mem_map.2 ⟨rs[i],List.mem_filterMap.2 ⟨(i:Int),hiL,?_⟩,ei.1⟩);rw[Int.toNat_natCast,List.getElem?_eq_getElem hi]
open Classical in
theorem y5H{us:List (List Int)}{n:Nat}(h:∀i,Rch us 0 i->i<n):∃L,y3W us 0 L:=by
 refine⟨((List.range n).filter (fun i=>decide (Rch us 0 i))).map (fun i:Nat=>(i:Int)),?_,fun x=>⟨fun hx=> ?_,fun⟨i,e,hi⟩=> ?_⟩⟩
 ·rw[List.pairwise_map]
  exact(List.Pairwise.filter _ List.pairwise_lt_range).imp (fun h=>by omega)
 ·obtain⟨i,hi,rfl⟩:=List.mem_map.1 hx
  exact⟨i,rfl,by simpa using(List.mem_filter.1 hi).2⟩
 ·subst e
  exact List.mem_map.2 ⟨i,List.mem_filter.2 ⟨List.mem_range.2 (h i hi),by simpa using hi⟩,rfl⟩
def PrP(rs:List Rr)(X:Option (Int ⊕ (Int×Int)))(W:World)(e:Ending)(w':World):Prop:=Below W.heap.size W w'/\
 ((X≠none/\∃v,e=.returned (.tuple #[.agg #[.slice none 0 0],v])/\Zd X W.heap.size w' v)∨
  (X=none/\∃so' cap' L,e=.returned (.tuple #[.agg #[.slice so' (List.length L) cap'],.nilIface])/\y3W (rs.map (usR (nmL rs))) 0 L/\Qh w' w'.heap.size so' L.length (prn rs L)))
theorem y5I{rs:List Rr}(hok:okG rs=true):∀i,Rch (rs.map (usR (nmL rs))) 0 i->i<rs.length:=fun i hr=>by
 have h1:=(Dx hok).1;have hlen:(nmL rs).length=rs.length:=List.length_map _
 induction hr with
 |refl=>omega
 | @step b c _ hm ih=>
   rw[List.getD_eq_getElem?_getD,List.getElem?_map,List.getElem?_eq_getElem ih]at hm;obtain⟨m,hm1,hm2⟩:=y4f (l:=nmL rs) (y:=rs[b]) (by omega) hm;omega
theorem y5J(so:Option Addr)(n cap:Nat)(rs:List Rr)(X:Option (Int ⊕ (Int×Int)))(B:Nat)(w:World)(hX:CkX rs X)(hP:X=none->PrG rs)(hC:CkC so n cap rs X w)(hz:RgZ rs)(h:Qh w B so n rs)(hB:B<=w.heap.size)(hTg:1<w.heap.size):
  ∀W:World,Below w.heap.size w W->Calls prog 21 #[.agg #[.slice so n cap]] W (PrP rs X W):=fun W hW=>by
 have hup:∀{W'},Below W.heap.size W W'->Below w.heap.size w W':=fun hW'=>hW.trans (hW'.mono hW.size)
 have hRe:=fun(W':World) (hW':Below W.heap.size W W')=>y5p so n cap rs X B 0 W' hX (hC.from (hup hW')) (h.below ((hup hW').mono hB)) (Nat.le_trans hB (hup hW').size) hz (Nat.lt_of_lt_of_le hTg (hup hW').size)
 cases X with
 |some x=>
  refine(y5B so n cap (some x) W (fun W' hW'=>(hRe W' hW').mono fun e w' he=> ?_)).mono fun e w' he=> ?_
  ·obtain⟨hb,⟨_,v,h1,h2⟩|⟨h0,_⟩|⟨h0,_⟩⟩:=he
   ·obtain⟨tt,uu,rfl⟩:=h2.shape (by simp)
    exact⟨tt,uu,h1,h2,hb⟩
   ·cases h0
   ·cases h0
  ·obtain⟨v,h1,h2,h3⟩:=he
   exact⟨h3,.inl ⟨by simp,v,h1,h2⟩⟩
 |none=>
  obtain⟨hok,hck,_⟩:=hX;have hpr:=hP rfl;obtain⟨L,hL⟩:=y5H (y5I hok);obtain⟨_,hin,hl1⟩:=y4k hok hck hL;have hsub:=(y4k hok hck hL).1.sub;have hll:L.length<=64:=by
   have h1:=hsub.length_le;rw[y4a hin]at h1;have:=(Dx hok).2;omega
  refine(y5C so n cap rs L W ((h.below (hW.mono hB)).upto (Nat.le_trans hB hW.size)) hin (by omega) (y5E hpr) (fun W' hW'=>(hRe W' hW').mono fun e w' he=> ?_)).mono fun e w' he=> ?_
  ·obtain⟨hb,⟨h0,_⟩|⟨_,h0,_⟩|⟨_,k,v,L',ek,hk,he,hL',hl',hr⟩⟩:=he
   ·exact absurd rfl h0
   ·have:=(Dx hok).1
    omega
   ·obtain rfl:k=0:=by omega
    obtain rfl:L'=L:=y5s hL' hL;exact⟨v,he,hr,hb⟩
  ·obtain⟨so',cap',h1,h2,h3⟩:=he
   exact⟨h3.out,.inr ⟨rfl,so',cap',L,h1,hL,h2.out⟩⟩
mutual
theorem y3Z{K K':ByteArray->Ot}{F F':ByteArray->Ah}:∀t:RT,(∀y∈rfT t,K y.1=K' y.1/\F y.1=F' y.1)->afT K F t=afT K' F' t
 | .mk k T a b c d s p,h=>by
   rw[afT,afT];rw[rfT]at h;by_cases h2:k=2
   ·rw[if_pos h2,if_pos h2]
   rw[if_neg h2,if_neg h2];by_cases h1:k=1∨k=8∨k=9
   ·rw[if_pos h1,if_pos h1]
   rw[if_neg h1,if_neg h1];by_cases h3:k=3
   ·rw[if_pos h3,if_pos h3]
   rw[if_neg h3,if_neg h3];by_cases h4:k=4
   ·rw[if_pos h4,if_pos h4]
   rw[if_neg h4,if_neg h4];by_cases h5:k=5
   ·rw[if_pos h5,if_pos h5]
    rw[if_pos h5]at h;exact(h (T,p) (by simp)).2
   rw[if_neg h5,if_neg h5];rw[if_neg h5]at h;rw[y4J s _ _ h,y4K s _ h,y5K s h,y5L s h]
theorem y4J{K K':ByteArray->Ot}{F F':ByteArray->Ah}:∀(s:List RT) (on:Bool) (x:Ah),(∀y∈rfL s,K y.1=K' y.1/\F y.1=F' y.1)->afS K F on x s=afS K' F' on x s
 |[],on,x,_=>by rw[afS,afS]
 |t::r,on,x,h=>by
  rw[rfL]at h;rw[afS,afS,y3Z t (fun y hy=>h y (List.mem_append.2 (.inl hy))),Iv t (fun y hy=>(h y (List.mem_append.2 (.inl hy))).1),y4J r _ _ (fun y hy=>h y (List.mem_append.2 (.inr hy)))]
theorem y4K{K K':ByteArray->Ot}{F F':ByteArray->Ah}:∀(s:List RT) (x:Ah),(∀y∈rfL s,K y.1=K' y.1/\F y.1=F' y.1)->afA K F x s=afA K' F' x s
 |[],x,_=>by rw[afA,afA]
 |t::r,x,h=>by
  rw[rfL]at h;rw[afA,afA,y3Z t (fun y hy=>h y (List.mem_append.2 (.inl hy))),y4K r _ (fun y hy=>h y (List.mem_append.2 (.inr hy)))]
theorem y5K{K K':ByteArray->Ot}{F F':ByteArray->Ah}:∀(s:List RT),(∀y∈rfL s,K y.1=K' y.1/\F y.1=F' y.1)->afN K F s=afN K' F' s
 |[],_=>by rw[afN,afN]
 |t::r,h=>by
  rw[rfL]at h;rw[afN,afN,y3Z t (fun y hy=>h y (List.mem_append.2 (.inl hy)))]
theorem y5L{K K':ByteArray->Ot}{F F':ByteArray->Ah}:∀(s:List RT),(∀y∈rfL s,K y.1=K' y.1/\F y.1=F' y.1)->afH K F s=afH K' F' s
 |[],_=>by rw[afH,afH]
 |t::r,h=>by
  rw[rfL]at h;rw[afH,afH,y3Z t (fun y hy=>h y (List.mem_append.2 (.inl hy)))]
end
theorem y4L{P:ByteArray->Bool}{K K':ByteArray->Ot}{F F':ByteArray->Ah}(hK:∀s,P s=true->K s=K' s)(h0:∀s,P s=true->F s=F' s):∀(rs:List Rr),(∀x∈rs,P x.1=true->∀y∈rfT x.2.1,P y.1=true)->∀s,P s=true->Kx K F (rs.filter (fun x=>P x.1)) s=Kx K' F' rs s
 |[],_,s,hs=>by rw[List.filter_nil,Kx,Kx];exact h0 s hs
 |x::r,h,s,hs=>by
  have ih:=y4L hK h0 r (fun y hy=>h y (by simp[hy]));rw[List.filter_cons];cases hx:P x.1 with
  |true=>
   simp only[if_true];rw[Kx,Kx];unfold Jk Jd;by_cases e:s=x.1
   ·rw[if_pos e,if_pos e]
    exact y3Z _ fun y hy=>⟨hK y.1 (h x (by simp) hx y hy),ih y.1 (h x (by simp) hx y hy)⟩
   ·rw[if_neg e,if_neg e]
    exact ih s hs
  |false=>
   simp only[Bool.false_eq_true,if_false];rw[Kx];unfold Jk Jd;rw[if_neg (fun e=>by rw[e,hx]at hs;cases hs)];exact ih s hs
theorem y4M{rs ps:List Rr}(h:Sty rs ps)(hck:ckR rs=none){K K':ByteArray->Ot}(hK:∀s,inN s (nmL ps)=true->K s=K' s):∀(m:Nat) (s:ByteArray),inN s (nmL ps)=true->Qm K ps m s=Qm K' rs m s
 |0,_,_=>rfl
 |m+1,s,hs=>by
  rw[Qm,Qm];have hf:rs.filter (fun x=>inN x.1 (nmL ps))=ps:=y4b (P:=fun s=>inN s (nmL ps)) h.sub (z4H hck) (fun x hx=>z4E.2 (List.mem_map.2 ⟨x,hx,rfl⟩)) fun x hx hp=>Ik hp
  have hx:∀x∈rs,inN x.1 (nmL ps)=true->x∈ps:=fun x hx hp=>by
   rw[<-hf];exact List.mem_filter.2 ⟨hx,hp⟩
  have:=y4L (P:=fun s=>inN s (nmL ps)) hK (fun s hs=>y4M h hck hK m s hs) rs (fun x hx' hp y hy=>h.ref x (hx x hx' hp) y hy) s hs;rw[hf]at this;exact this
theorem y5M{rs ps:List Rr}(h:Sty rs ps)(hck:ckR rs=none){K K':ByteArray->Ot}(hK:∀s,inN s (nmL ps)=true->K s=K' s){a b:Nat}(ha:Uc K (Qm K ps a) ps)(hb:Uc K' (Qm K' rs b) rs)(s:ByteArray)(hs:inN s (nmL ps)=true):Qm K ps a s=Qm K' rs b s:=by
 have h1:=y4M h hck hK (a+b) s hs;rw[Sd K ha b,Nat.add_comm,Sd K' hb a]at h1;exact h1
section
attribute [local go_sem] Oper.semAt_some
section
variable {A:ByteArray->Ot} {w:World} {B:Nat} {ts:List RT}
end
section
variable {A:ByteArray->Ot} {w:World} {B Bt:Nat} {ts:List RT} {l:Nat} {J Jx:List (By A w B ts)->World->Prop}
end
end
open Go.Maps
attribute [local go_sem] Oper.semAt_some
end Go.Proofs.YtjodljnddflgfaaGreatDoor
