/- Lemmas for the last text. Conditions: those that each names. -/
import Derived.Test.YtgmcjddjdidpjabGreatDoorVPR1ToT1
import Derived.Test.YtgmcjddjdidpjabGreatDoorVGGToO5
import Derived.Test.YtgmcjddjdidpjabGreatDoorVU8
import Derived.Laws.EntriesVeiled
set_option linter.unusedVariables false
set_option maxRecDepth 100000
set_option maxHeartbeats 4000000
namespace Go.Proofs.YtgmcjddjdidpjabGreatDoor
open Go.Proofs.Tryz
open Go.RowKit Go.Shelf
theorem y2I{nm:ByteArray}(h:nmS nm=true)(o:Ot):∃nd,Tq (sI nm o) nd/\Vk nd/\Wf Nmq nd/\sz (pN qT cT nd)<=32/\dN nd<=24:=by
 obtain⟨a,b,c⟩:=o;have w0:((wd 0 0:Nat):Int)=0/\((wd 0 1:Nat):Int)=0/\((wd 0 2:Nat):Int)=0/\((wd 0 3:Nat):Int)=0:=by decide
 have hp:(0:Nat)<2^256:=by decide
 cases a<;>cases b<;>cases c
 ·refine⟨.mk 5 nm 0 [] 0,?_,?_,?_,?_,?_⟩
  ·simp[sI,Tq,TqL,w0]
  ·simp[Vk,VkL]
  ·simp[Wf,WfL];exact h
  ·have h32:nm.size<=32:=by
    unfold nmS at h;cases hb:bt nm 0 with
    |none=>rw[hb]at h;cases h
    |some x=>
     rw[hb]at h;simp only[Bool.and_eq_true,decide_eq_true_eq]at h;exact h.1.1
   rw[show pN qT cT (.mk 5 nm 0 [] 0)=[nm] by rw[pN];simp,sz,sz];omega
  ·rw[dN,if_neg (by decide),dS];decide
 ·exact⟨.mk 3 bE0 0 [] 0,by simp[sI,Tq,TqL,w0],by simp[Vk,VkL],by simp[Wf,WfL],by decide+kernel,by decide+kernel⟩
 ·exact⟨.mk 10 bE0 0 [.mk 8 bE0 0 [.mk 4 bE0 0 [] 0] 0] 0,by simp[sI,Tq,TqL,w0],by simp[Vk,VkL],by simp[Wf,WfL],by decide+kernel,by decide+kernel⟩
 ·exact⟨.mk 4 bE0 0 [] 0,by simp[sI,Tq,TqL,w0],by simp[Vk,VkL],by simp[Wf,WfL],by decide+kernel,by decide+kernel⟩
 ·exact⟨.mk 1 bE0 0 [] 0,by simp[sI,Tq,TqL,w0],by simp[Vk,VkL],by simp[Wf,WfL],by decide+kernel,by decide+kernel⟩
 ·exact⟨.mk 12 bE0 0 [.mk 4 bE0 0 [] 0] 0,by simp[sI,Tq,TqL,w0],by simp[Vk,VkL],by simp[Wf,WfL],by decide+kernel,by decide+kernel⟩
 ·exact⟨.mk 8 bE0 0 [.mk 4 bE0 0 [] 0] 0,by simp[sI,Tq,TqL,w0],by simp[Vk,VkL],by simp[Wf,WfL],by decide+kernel,by decide+kernel⟩
 ·exact⟨.mk 7 bE0 0 [.mk 4 bE0 0 [] 0,.mk 12 bE0 0 [.mk 4 bE0 0 [] 0] 0] 0,by simp[sI,Tq,TqL,w0],by simp[Vk,VkL],by simp[Wf,WfL],by decide+kernel,by decide+kernel⟩
theorem y2J{nm:ByteArray}(h:nmS nm=true):nm.size<=32:=by
 unfold nmS at h;cases hb:bt nm 0 with
 |none=>rw[hb]at h;cases h
 |some x=>
  rw[hb]at h;simp only[Bool.and_eq_true,decide_eq_true_eq]at h;exact h.1.1
theorem z4E(K:ByteArray->Ot):∀{rs:List Rr},(∀x∈rs,nmS x.1=true)->∃ns,TqR (bG rs K) ns/\(∀x∈ns,Ruk Nmq x)/\sz (pR qT cT ns)<=rs.length*80/\dR ns<=24
 |[],_=>⟨[],by unfold bG;rw[List.map_nil,TqR];trivial,fun x hx=>by simp at hx,by rw[pR];simp[sz],by rw[dR];omega⟩
 |x::r,h=>by
  obtain⟨ns,h1,h2,h3,h4⟩:=z4E K (rs:=r) (fun y hy=>h y (by simp[hy]));have hx:=h x (by simp);obtain⟨nd,q1,q2,q3,q4,q5⟩:=y2I hx (K x.1);have h32:=y2J hx;refine⟨(x.1,nd,0)::ns,?_,fun y hy=> ?_,?_,?_⟩
  ·unfold bG
   rw[List.map_cons,TqR];exact⟨rfl,q1,h1⟩
  ·rcases List.mem_cons.1 hy with rfl|hy
   ·exact⟨hx,q2,q3⟩
   ·exact h2 y hy
  ·have e1:bAr.size<=10:=by decide
   have e2:bNl.size<=2:=by decide
   rw[pR,sz,sz,Vf,sz,List.length_cons];simp only at q4 ⊢;omega
  ·rw[dR]
   simp only;omega
theorem y2K{rs:List Rr}(K:ByteArray->Ot)(h:okG rs=true):PrG (bG rs K):=by
 obtain⟨ns,h1,h2,h3,h4⟩:=z4E K (fun x hx=>(Kk h x hx).1);have:=(Fl h).2;exact⟨z4C K h,ns,h1,h2,by omega,h4⟩
theorem y2L:∀(n:Nd),Vk n->Wf Nmq n->1<=sz (pN qT cT n)
 | .mk kd T C s p,hv,hw=>by
   rw[Vk]at hv;rw[Wf]at hw;rw[pN];rcases hv.1 with⟨rfl,_,_,rfl⟩|⟨rfl,_,rfl⟩|⟨rfl,_,rfl⟩|⟨rfl,_,_,rfl⟩|⟨rfl,_,rfl⟩|⟨h67,_,_,h2⟩|⟨h8,h12,_,_,h1⟩
   ·simp only[if_true,sz];decide
   ·simp only[Nat.reduceEqDiff,if_false,if_true,sz,Vj]
    unfold qt;simp
   ·simp only[Nat.reduceEqDiff,if_false,if_true,sz,Vj]
    unfold txt;simp
   ·simp only[Nat.reduceEqDiff,if_false,if_true,sz];decide
   ·have:=Wq (hw.2.1 rfl)
    simp only[Nat.reduceEqDiff,if_false,if_true,sz];omega
   ·rcases h67 with rfl|rfl
    ·simp only[Nat.reduceEqDiff,if_false,if_true]
     have:=Ik 6 bSp (by decide) s;omega
    ·simp only[Nat.reduceEqDiff,if_false,if_true]
     have:=Ik 7 bSl (by decide) s;omega
   ·rw[if_neg (by omega),if_neg (by omega),if_neg (by omega),if_neg (by omega),if_neg (by omega),if_neg (by omega),if_neg (by omega)]
    have hb:1<=(bsg kd).size:=by
     rcases(by omega:kd=8∨kd=9∨kd=10∨kd=11∨kd=12)with rfl|rfl|rfl|rfl|rfl<;>decide
    by_cases h11:kd=11∨kd=12
    ·rw[if_pos h11,sz]
     omega
    ·rw[if_neg h11,Vf,sz]
     omega
mutual
def flT(K:ByteArray->Ot):RT->Option Int
 | .mk k T a b c d s p=>if(k=9∨k=10)/\(ofH K s).1=true then some p else flL K s
def flL(K:ByteArray->Ot):List RT->Option Int
 |[]=>none
 |t::r=>match flT K t with
  |some p=>some p
  |none=>flL K r
end
def flG(K:ByteArray->Ot):List Rr->Option Int
 |[]=>none
 |x::r=>match flT K x.2.1 with
  |some p=>some p
  |none=>flG K r
mutual
def fbT(K:ByteArray->Ot):RT->List ByteArray
 | .mk k T a b c d s p=>(if k=5 then [T]else [])++fbL K (decide (k=6)) s
def fbL(K:ByteArray->Ot)(sq:Bool):List RT->List ByteArray
 |[]=>[]
 |t::r=>fbT K t++(if sq&& !(ofT K t).1 then []else fbL K sq r)
end
theorem z4F{K:ByteArray->Ot}{sq:Bool}:∀{s:List RT} {x:ByteArray},x∈fbL K sq s->∃t∈s,x∈fbT K t
 |[],x,h=>by simp[fbL]at h
 |t::r,x,h=>by
  rw[fbL,List.mem_append]at h;rcases h with h|h
  ·exact⟨t,by simp,h⟩
  ·by_cases e:(sq&& !(ofT K t).1)=true
   ·rw[if_pos e]at h;simp at h
   ·rw[if_neg e]at h
    obtain⟨u,hu,hx⟩:=z4F h;exact⟨u,by simp[hu],hx⟩
theorem Wh{y:ByteArray×Int}:∀{s:List RT} {t:RT},t∈s->y∈rfT t->y∈rfL s
 |a::r,t,h,hy=>by
  rw[rfL,List.mem_append];rcases List.mem_cons.1 h with rfl|h
  ·exact .inl hy
  ·exact .inr (Wh h hy)
theorem z4G{K:ByteArray->Ot}:∀(Q:Nat) (t:RT),SizeOf.sizeOf t<Q->okT t=true->∀x∈fbT K t,∃y∈rfT t,y.1=x
 |0,t,h=>by omega
 |Q+1,.mk k T a b c d s p,h=>by
  intro hok x hx;rw[okT,Bool.and_eq_true]at hok;rw[fbT,List.mem_append]at hx;rw[rfT];by_cases h5:k=5
  ·subst h5
   have hs:Qw s=0:=by
    have:=hok.1;unfold okN at this;rw[if_neg (by decide),if_neg (by decide),if_neg (by decide),if_pos rfl,Bool.and_eq_true,Bool.and_eq_true]at this;have h2:=this.2.2;simp at h2;omega
   rw[Xk]at hs;have hs:s=[]:=List.eq_nil_of_length_eq_zero hs;subst hs;rw[if_pos rfl]at hx ⊢;rcases hx with hx|hx
   ·exact⟨(T,p),by simp,(by simpa using hx:x=T).symm⟩
   ·simp[fbL]at hx
  ·rw[if_neg h5]at hx ⊢
   rcases hx with hx|hx
   ·simp at hx
   ·obtain⟨t,ht,hx⟩:=z4F hx
    obtain⟨j,hj,rfl⟩:=List.getElem_of_mem ht;have h1:=List.sizeOf_lt_of_mem (List.getElem_mem hj);simp only[RT.mk.sizeOf_spec]at h;obtain⟨y,hy,e⟩:=z4G Q s[j] (by omega) (Hk hok.2 j hj) x hx;exact⟨y,Wh (List.getElem_mem hj) hy,e⟩
def bgR(rs:List Rr)(K:ByteArray->Ot)(x:Rr):List Int:=Lib.compact (srt ((fbT K x.2.1).map fun s=>fdI s (nmL rs)))
theorem y2M{rs:List Rr}{s:ByteArray}(h:inN s (nmL rs)=true):fdI s (nmL rs)=(ixV (nmL rs) s:Int):=by
 unfold fdI ixV;rw[if_pos h,if_pos h]
theorem z4H{rs:List Rr}{K:ByteArray->Ot}{x:Rr}{i:Int}:i∈bgR rs K x↔∃s∈fbT K x.2.1,fdI s (nmL rs)=i:=by
 unfold bgR;refine⟨fun h=> ?_,fun⟨s,hs,e⟩=> ?_⟩
 ·have:=(Ac _).mem_iff.1 (Wj h)
  exact List.mem_map.1 this
 ·exact z3V ((Ac _).mem_iff.2 (List.mem_map.2 ⟨s,hs,e⟩))
theorem y2N{rs:List Rr}{K:ByteArray->Ot}(hok:okG rs=true)(hck:ckR rs=none){x:Rr}(hx:x∈rs):∀i∈bgR rs K x,i∈usR (nmL rs) x:=fun i hi=>by
 obtain⟨s,hs,e⟩:=z4H.1 hi;obtain⟨y,hy,rfl⟩:=z4G _ x.2.1 (Nat.lt_succ_self _) (Kk hok x hx).2 s hs;have hny:=Wg (z4x hck) y (Iw.2 ⟨x,hx,hy⟩);refine y1n.2 ?_;unfold ixL;exact List.mem_map.2 ⟨y,hy,by rw[<-e,y2M hny]⟩
theorem y2O{rs:List Rr}{K:ByteArray->Ot}(hok:okG rs=true)(hck:ckR rs=none){x:Rr}(hx:x∈rs):∀i∈bgR rs K x,∃m:Nat,m<rs.length/\i=(m:Int):=fun i hi=>by
 have hl:(nmL rs).length=rs.length:=List.length_map _;have:=y1l (l:=nmL rs) (y:=x) (by rw[hl];exact(Fl hok).1) (y2N hok hck hx i hi);rw[hl]at this;exact this
theorem z4I(over:Nat)(sep:ByteArray){n:Nd}:∀{s:List Nd},n∈s->sz (pN qT cT n)<=sz (pB qT cT over sep s)
 |a::r,h=>by
  have e:sz (pB qT cT over sep (a::r))=sep.size+(sz (pP qT cT over a)+sz (pB qT cT over sep r)):=by rw[pB,sz,Vf];rfl
  rcases List.mem_cons.1 h with rfl|h
  ·have:=Hc over n
   omega
  ·have:=z4I over sep h
   omega
theorem Wd(over:Nat)(sep:ByteArray){n:Nd}:∀{s:List Nd},n∈s->sz (pN qT cT n)<=sz (pS qT cT over sep s)
 |a::r,h=>by
  have e:sz (pS qT cT over sep (a::r))=sz (pP qT cT over a)+sz (pB qT cT over sep r):=by rw[pS,Vf];rfl
  rcases List.mem_cons.1 h with rfl|h
  ·have:=Hc over n
   omega
  ·have:=z4I over sep h
   omega
theorem If(over:Nat){n:Nd}:∀{s:List Nd},n∈s->dN n<=dS over s
 |a::r,h=>by
  rw[Ud];rcases List.mem_cons.1 h with rfl|h
  ·have:dN n<=dP over n:=by unfold dP;split<;>omega
   omega
  ·have:=If over h
   omega
theorem y2P{kd:Nat}{T:ByteArray}{C p:Nat}{s:List Nd}(hv:Vk (.mk kd T C s p)){n:Nd}(h:n∈s):sz (pN qT cT n)<=sz (pN qT cT (.mk kd T C s p))/\dN n<=dN (.mk kd T C s p):=by
 rw[Vk]at hv;rw[pN,dN];rcases hv.1 with⟨_,_,_,rfl⟩|⟨_,_,rfl⟩|⟨_,_,rfl⟩|⟨_,_,_,rfl⟩|⟨_,_,rfl⟩|⟨h67,_,_,h2⟩|⟨h8,h12,_,_,h1⟩
 ·simp at h
 ·simp at h
 ·simp at h
 ·simp at h
 ·simp at h
 ·rcases h67 with rfl|rfl
  ·simp only[Nat.reduceEqDiff,if_false,if_true]
   exact⟨Wd 6 bSp h,If 6 h⟩
  ·simp only[Nat.reduceEqDiff,if_false,if_true]
   exact⟨Wd 7 bSl h,If 7 h⟩
 ·have hk1:¬kd=1:=by omega
  have hk2:¬kd=2:=by omega
  have hk3:¬kd=3:=by omega
  have hk4:¬kd=4:=by omega
  have hk5:¬kd=5:=by omega
  have hk6:¬kd=6:=by omega
  have hk7:¬kd=7:=by omega
  simp only[if_neg hk1,if_neg hk2,if_neg hk3,if_neg hk4,if_neg hk5,if_neg hk6,if_neg hk7];have h3:=Wd kd bE h;refine⟨?_,If kd h⟩;by_cases h11:kd=11∨kd=12
  ·rw[if_pos h11,sz];omega
  ·rw[if_neg h11,Vf];omega
theorem z4J{n:Nat}:∀{s:List RT} {q:List Nd},TqL s q->∀(j:Nat) (h1:j<s.length),∃h2:j<q.length,Tq s[j] q[j]
 |[],_,_,j,h1=>by simp at h1
 |_::_,[],h,_,_=>by simp[TqL]at h
 |t::r,n::q,h,0,_=>by rw[TqL]at h;exact⟨by simp,h.1⟩
 |t::r,a::q,h,j+1,h1=>by
  rw[TqL]at h;obtain⟨h2,h3⟩:=z4J (n:=n) h.2 j (by simpa using h1);exact⟨by simpa using h2,h3⟩
theorem z4K{Nm:ByteArray->Prop}:∀{s:List Nd},WfL Nm s->∀n∈s,Wf Nm n
 |[],_,n,h=>by simp at h
 |a::r,h,n,hn=>by
  rw[WfL]at h;rcases List.mem_cons.1 hn with rfl|hn
  ·exact h.1
  ·exact z4K h.2 n hn
theorem z4L:∀{s:List RT},Yy s->∀(j:Nat) (hj:j<s.length),RtU s[j]
 |t::r,h,0,_=>by rw[Yy]at h;exact h.1
 |t::r,h,j+1,hj=>by rw[Yy]at h;exact z4L h.2 j (by simpa using hj)
structure Fit (l:List ByteArray) (t:RT):Prop where
 ok:okT t=true
 z:RtZ t
 txt:∃nd,Tq t nd/\Vk nd/\Wf Nmq nd/\sz (pN qT cT nd)<=8186/\dN nd<=24
 rf:∀y∈rfT t,inN y.1 l=true
theorem Wm{T:ByteArray}{a b c d p:Int}{s:List RT}(h:okT (.mk 5 T a b c d s p)=true):s=[]:=by
 rw[okT,Bool.and_eq_true]at h;have:=h.1;unfold okN at this;rw[if_neg (by decide),if_neg (by decide),if_neg (by decide),if_pos rfl,Bool.and_eq_true,Bool.and_eq_true]at this;have h2:=this.2.2;simp at h2;have hs:Qw s=0:=by omega
 rw[Xk]at hs;exact List.eq_nil_of_length_eq_zero hs
theorem Fit.sub{l:List ByteArray}{k a b c d p:Int}{T:ByteArray}{s:List RT}(h:Fit l (.mk k T a b c d s p))(j:Nat)(hj:j<s.length):Fit l s[j]:=by
 obtain⟨hok,hz,⟨nd,hq,hv,hw,hs,hd⟩,hr⟩:=h;obtain⟨kd,T',C,s',p'⟩:=nd;have hk5:k≠5:=fun e=>by
  subst e;have:=Wm hok;subst this;simp at hj
 rw[okT,Bool.and_eq_true]at hok;rw[RtZ]at hz;rw[Tq]at hq;obtain⟨h2,h3⟩:=z4J (n:=0) hq.2.2.2.2.2.2 j hj;have hpn:=y2P hv (List.getElem_mem h2);rw[Vk]at hv;rw[Wf]at hw;refine⟨Hk hok.2 j hj,hz.2.get j hj,⟨s'[j],h3,hv.2.mem _ (List.getElem_mem h2),z4K (by first|exact hw.2.2|exact hw.2.2.2|exact hw.2) _ (List.getElem_mem h2),by omega,by omega⟩,fun y hy=>hr y ?_⟩;rw[rfT,if_neg hk5];exact Wh (List.getElem_mem hj) hy
theorem z4M{x:Rl}(hx:1<=x.1.size):∀{ns:List Rl},x∈ns->sz (pN qT cT x.2.1)+6<=sz (pR qT cT ns)
 |y::r,h=>by
  have e1:bAr.size=4:=by decide
  have e2:bNl.size=1:=by decide
  rw[pR,sz,sz,Vf,sz];rcases List.mem_cons.1 h with rfl|h
  ·omega
  ·have:=z4M hx h
   omega
theorem z4N{x:Rl}:∀{ns:List Rl},x∈ns->dN x.2.1<=dR ns
 |y::r,h=>by
  rw[dR];rcases List.mem_cons.1 h with rfl|h
  ·omega
  ·have:=z4N h
   omega
theorem Wp{rs:List Rr}(hp:PrG rs)(hck:ckR rs=none)(hz:RgZ rs){x:Rr}(hx:x∈rs):Fit (nmL rs) x.2.1:=by
 obtain⟨hok,ns,hq,hn,hs,hd⟩:=hp;obtain⟨j,hj,rfl⟩:=List.getElem_of_mem hx;have hj2:j<ns.length:=by rw[hq.len];exact hj
 have h1:=hq.get j hj hj2;have ho:=Kk hok _ (List.getElem_mem hj);obtain⟨r1,r2,r3⟩:=hn _ (List.getElem_mem hj2);have h6:=z4M (Wq r1) (List.getElem_mem hj2);have h7:=z4N (List.getElem_mem hj2);exact⟨ho.2,(hz _ (List.getElem_mem hj)).2,⟨_,h1.2,r2,r3,by omega,by omega⟩,fun y hy=>Wg (z4x hck) y (Iw.2 ⟨_,List.getElem_mem hj,hy⟩)⟩
theorem y2Q{nd:Nd}(hv:Vk nd)(hw:Wf Nmq nd)(hs:sz (pN qT cT nd)<=8186)(hd:dN nd<=24):(exS nd).size≠0:=by
 have hz:sz (pR qT cT [(bA,nd,0)])<=8192:=by
  rw[pR,pR];simp only[sz,Vf];have e1:bA.size=1:=rfl;have e2:bAr.size=4:=by decide
  have e3:bNl.size=1:=by decide
  omega
 have hdr:dR [(bA,nd,0)]<=24:=by
  rw[dR,dR];simp only;omega
 unfold exS;rw[if_neg (by omega)];have h1:=Rh (pN qT cT nd);have h2:=y2L nd hv hw;omega
mutual
theorem z4O{l:List ByteArray}:∀t:RT,(∀y∈rfT t,inN y.1 l=true)->hrT l t=true
 | .mk k T a b c d s p,h=>by
   rw[hrT];rw[rfT]at h;by_cases h5:k=5
   ·rw[if_pos h5]at h ⊢
    exact h (T,p) (by simp)
   ·rw[if_neg h5]at h ⊢
    exact z4P s h
theorem z4P{l:List ByteArray}:∀s:List RT,(∀y∈rfL s,inN y.1 l=true)->hrL l s=true
 |[],_=>by rw[hrL]
 |t::r,h=>by
  rw[rfL]at h;rw[hrL,z4O t (fun y hy=>h y (List.mem_append.2 (.inl hy))),z4P r (fun y hy=>h y (List.mem_append.2 (.inr hy)))];rfl
end
section
section
variable {rs:List Rr} {T:ByteArray} {mB:Nat} {L:Nat->Prop} {pv sv:Value} {M:Nat}
theorem Fit.lenG{l:List ByteArray}{k a b c d p:Int}{T:ByteArray}{s:List RT}(h:Fit l (.mk k T a b c d s p)):s.length<=8192:=by
 obtain⟨hok,hz,⟨nd,hq,hv,hw,hs,hd⟩,hr⟩:=h;obtain⟨kd,T',C,s',p'⟩:=nd;rw[Tq]at hq;obtain⟨_,_,_,_,_,_,hl⟩:=hq;rw[Vk]at hv;have hlen:s'.length=s.length:=hl.length';rw[<-hlen];rw[pN]at hs;rcases hv.1 with⟨rfl,_,_,rfl⟩|⟨rfl,_,rfl⟩|⟨rfl,_,rfl⟩|⟨rfl,_,_,rfl⟩|⟨rfl,_,rfl⟩|⟨h67,_,_,h2⟩|⟨h8,h12,_,_,h1⟩
 ·simp
 ·simp
 ·simp
 ·simp
 ·simp
 ·rcases h67 with rfl|rfl
  ·simp only[Nat.reduceEqDiff,if_false,if_true]at hs
   have:=Ik 6 bSp (by decide) s';omega
  ·simp only[Nat.reduceEqDiff,if_false,if_true]at hs
   have:=Ik 7 bSl (by decide) s';omega
 ·omega
theorem z4Q{k a b c d p:Int}{T:ByteArray}{s:List RT}(h:okT (.mk k T a b c d s p)=true)(hk:k=6∨k=7):2<=s.length:=by
 rw[okT,Bool.and_eq_true]at h;have:=h.1;unfold okN at this;rw[if_neg (by omega),if_neg (by omega),if_neg (by omega),if_neg (by omega),if_pos hk]at this;simp only[Bool.and_eq_true,decide_eq_true_eq]at this;have:=this.2.2;rw[Xk]at this;omega
theorem Uk{w:World}{ix:ByteArray->Nat}{t:RT}{x:Value}(h:Mv w mB L ix t x):∃d1 d2,x=fq2 43 d1 d2:=by
 obtain⟨k,N,a,b,c,d,s,p⟩:=t;rw[Mv]at h;obtain⟨b1,b2,_,e,_⟩:=h;exact⟨b1,b2,e⟩
theorem z4R(hT:T.size<=4096)(hM:M<=1048576)(hF:∀x∈rs,Fit (nmL rs) x.2.1)(hrl:rs.length<=1048576):∀(f:Nat) (t:RT) (b1 b2:Nat) (w:World) (i k:Nat),Mv w mB L (fun N=>ixN N (nmL rs)) t (fq2 43 b1 b2)->Fit (nmL rs) t->Bd w mB L rs sv->Smn w mB T pv sv k M->k<=M->M-k<f->i<=T.size->
  Calls prog 43 #[.int .i64 i,.pointer (some ⟨b1,0,none⟩),.pointer (some ⟨b2,0,none⟩)] w (Po rs T mB pv sv M (.one t) i k w)
 |0,_,_,_,_,_,_,_,_,_,_,_,h,_=>by omega
 |f+1,.mk kd N a b c d s p,b1,b2,w,i,k,hv,hf,hB,hS,hk,hfu,hi=>by
  have ih:=z4R hT hM hF hrl f;rw[Mv]at hv;obtain⟨b1',b2',u,e,hm1,hm2,hu⟩:=hv;obtain⟨rfl,rfl⟩:b1=b1'/\b2=b2':=by simpa using e
  clear e;have hok:=hf.ok;rw[okT,Bool.and_eq_true]at hok;have hkd:=Wv hok.1;clear hok;rcases(by omega:kd=1∨kd=2∨kd=3∨kd=4∨kd=5∨kd=6∨kd=7∨kd=8∨kd=9∨kd=10∨kd=11∨kd=12)with hkd|hkd|hkd|hkd|hkd|hkd|hkd|hkd|hkd|hkd|hkd|hkd
  ·subst hkd
   rw[if_neg (by decide)]at hu;rw[if_neg (by decide)]at hu;rw[if_neg (by decide)]at hu;rw[if_neg (by decide)]at hu;rw[if_neg (by decide)]at hu;rw[if_neg (by decide)]at hu;rw[if_neg (by decide)]at hu;rw[if_neg (by decide)]at hu;rw[if_neg (by decide)]at hu;rw[if_neg (by decide)]at hu;rw[if_neg (by decide)]at hu;subst hu;refine Jj i k b1 b2 84 _ w hm1 hm2 hS hk hM (fun _ _=>by kernel_rfl) (hid fun W hg hs hk1=> ?_);exact y0w i k W hs hk1
  ·subst hkd
   rw[if_pos rfl]at hu;obtain⟨c1,c2,rfl,h1,h2⟩:=hu;refine Jj i k b1 b2 110 _ w hm1 hm2 hS hk hM (fun _ _=>by kernel_rfl) (hid fun W hg hs hk1=> ?_);rw[show(#[Value.int .i64 i]++#[Value.pointer (some ⟨c1,0,none⟩),Value.pointer (some ⟨c2,0,none⟩)]:Array Value)=#[.int .i64 i,.pointer (some ⟨c1,0,none⟩),.pointer (some ⟨c2,0,none⟩)] by simp];exact y0F i k c1 c2 W (h1.kept hg) (h2.kept hg) hs hk1 hi hT
  ·subst hkd
   rw[if_neg (by decide)]at hu;rw[if_pos rfl]at hu;obtain⟨c1,c2,rfl,h1,h2⟩:=hu;refine Jj i k b1 b2 111 _ w hm1 hm2 hS hk hM (fun _ _=>by kernel_rfl) (hid fun W hg hs hk1=> ?_);rw[show(#[Value.int .i64 i]++#[Value.pointer (some ⟨c1,0,none⟩),Value.pointer (some ⟨c2,0,none⟩)]:Array Value)=#[.int .i64 i,.pointer (some ⟨c1,0,none⟩),.pointer (some ⟨c2,0,none⟩)] by simp];exact z3j _ i k c1 c2 W .set (h1.kept hg) (h2.kept hg) hs hk1 hi hT
  ·subst hkd
   rw[if_neg (by decide)]at hu;rw[if_neg (by decide)]at hu;rw[if_pos rfl]at hu;obtain⟨c1,c2,rfl,h1,h2⟩:=hu;refine Jj i k b1 b2 111 _ w hm1 hm2 hS hk hM (fun _ _=>by kernel_rfl) (hid fun W hg hs hk1=> ?_);rw[show(#[Value.int .i64 i]++#[Value.pointer (some ⟨c1,0,none⟩),Value.pointer (some ⟨c2,0,none⟩)]:Array Value)=#[.int .i64 i,.pointer (some ⟨c1,0,none⟩),.pointer (some ⟨c2,0,none⟩)] by simp];exact z3j _ i k c1 c2 W .any (h1.kept hg) (h2.kept hg) hs hk1 hi hT
  ·subst hkd
   rw[if_neg (by decide)]at hu;rw[if_neg (by decide)]at hu;rw[if_neg (by decide)]at hu;rw[if_pos rfl]at hu;obtain⟨c1,c2,rfl,h1,h2⟩:=hu;have hin:inN N (nmL rs)=true:=by
    have:=hf.rf (N,p) (by rw[rfT,if_pos rfl];simp);exact this
   have hlt:=Tj N (nmL rs) hin;have hll:(nmL rs).length=rs.length:=List.length_map _;rw[hll]at hlt;obtain⟨so,cap,hsv,hbd⟩:=hB;obtain⟨g0,o0,x,hso,hg0,hc,hvx⟩:=Jq hbd (ixN N (nmL rs)) (by simpa using hlt);subst hso;rw[Nat.zero_add]at hc;obtain⟨d1,d2,rfl⟩:=Uk hvx;have hget:(rs.map (fun x=>x.2.1))[ixN N (nmL rs)]'(by simpa using hlt)=rs[ixN N (nmL rs)].2.1:=by simp
   rw[hget]at hvx;have hbR:bdR rs N=some rs[ixN N (nmL rs)].2.1:=by
    unfold bdR;rw[List.getElem?_eq_getElem hlt];rfl
   refine Jj i k b1 b2 113 _ w hm1 hm2 hS hk hM (fun _ _=>by kernel_rfl) (hid fun W hg hs hk1=> ?_);rw[show(#[Value.int .i64 i]++#[Value.pointer (some ⟨c1,0,none⟩),Value.pointer (some ⟨c2,0,none⟩)]:Array Value)=#[.int .i64 i,.pointer (some ⟨c1,0,none⟩),.pointer (some ⟨c2,0,none⟩)] by simp];refine y0I i k (ixN N (nmL rs)) g0 o0 rs.length cap c1 c2 d1 d2 W (h1.kept hg) (h2.kept hg) hsv hg0 hlt hrl (hg.cell hc (fun e=>hg0 (Option.some.inj e))) hs (hid ?_);have hgd:w.grownBy W.drew (some mB):=G.to hg (Below.refl _ W).drew;refine(ih _ d1 d2 W.drew i (k+1) (Vg hgd _ _ hvx) (hF _ (List.getElem_mem hlt)) (Bd.kept ⟨_,cap,hsv,hbd⟩ hgd) hs hk1 (by omega) hi).mono fun e w' he=> ?_
   rcases he with⟨q1,⟨x,m,q2,q3,q4,q5⟩|⟨q2,q4,q5⟩⟩
   ·obtain⟨c0,hc0,ec0⟩:=(Ri.ref (k:=k) hbR).done q2
    rw[q4];exact Po.ok q1 hc0 ec0.symm q3 q5
   ·rw[q4]
    exact Po.no q1 (y0v hbR q2) q5
  ·subst hkd
   rw[if_neg (by decide)]at hu;rw[if_neg (by decide)]at hu;rw[if_neg (by decide)]at hu;rw[if_neg (by decide)]at hu;rw[if_pos rfl]at hu;obtain⟨c1,so,cap,rfl,h1,h2⟩:=hu;have hl2:=z4Q hf.ok (by decide);have hle:=hf.lenG;obtain⟨g0,o0,_,hso,hg0,_⟩:=Jq h2 0 (by omega);subst hso;refine Jj i k b1 b2 114 _ w hm1 hm2 hS hk hM (fun _ _=>by kernel_rfl) (hid fun W hg hs hk1=> ?_);rw[show(#[Value.int .i64 i]++#[Value.pointer (some ⟨c1,0,none⟩)]:Array Value)=#[.int .i64 i,.pointer (some ⟨c1,0,none⟩)] by simp];refine y0J i k g0 o0 (Qw s) cap c1 W (h1.kept hg).2 (Xk s) (by rw[Xk];omega) hg0 hi hs hk1 (hid fun j hj=> ?_);obtain⟨g',o',x,e,_,hc,hv⟩:=Jq (Kj hg _ _ h2) j hj;cases e;rw[Nat.zero_add]at hc;obtain⟨d1,d2,rfl⟩:=Uk hv;exact⟨d1,d2,hc,fun W' i' k' hg' hs' hk2 hk3 hi'=>ih s[j] d1 d2 W' i' k' (Vg hg' _ _ hv) (hf.sub j hj) (hB.kept (G.trans hg hg')) hs' hk3 (by omega) hi'⟩
  ·subst hkd
   rw[if_neg (by decide)]at hu;rw[if_neg (by decide)]at hu;rw[if_neg (by decide)]at hu;rw[if_neg (by decide)]at hu;rw[if_neg (by decide)]at hu;rw[if_pos rfl]at hu;obtain⟨c1,so,cap,rfl,h1,h2⟩:=hu;have hl2:=z4Q hf.ok (by decide);have hle:=hf.lenG;obtain⟨g0,o0,_,hso,hg0,_⟩:=Jq h2 0 (by omega);subst hso;refine Jj i k b1 b2 115 _ w hm1 hm2 hS hk hM (fun _ _=>by kernel_rfl) (hid fun W hg hs hk1=> ?_);rw[show(#[Value.int .i64 i]++#[Value.pointer (some ⟨c1,0,none⟩)]:Array Value)=#[.int .i64 i,.pointer (some ⟨c1,0,none⟩)] by simp];refine y0K i k g0 o0 (Qw s) cap c1 W (h1.kept hg).2 (Xk s) (by rw[Xk];omega) hg0 hi hs hk1 (hid fun j hj=> ?_);obtain⟨g',o',x,e,_,hc,hv⟩:=Jq (Kj hg _ _ h2) j hj;cases e;rw[Nat.zero_add]at hc;obtain⟨d1,d2,rfl⟩:=Uk hv;exact⟨d1,d2,hc,fun W' i' k' hg' hs' hk2 hk3 hi'=>ih s[j] d1 d2 W' i' k' (Vg hg' _ _ hv) (hf.sub j hj) (hB.kept (G.trans hg hg')) hs' hk3 (by omega) hi'⟩
  ·subst hkd
   rw[if_neg (by decide)]at hu;rw[if_neg (by decide)]at hu;rw[if_neg (by decide)]at hu;rw[if_neg (by decide)]at hu;rw[if_neg (by decide)]at hu;rw[if_neg (by decide)]at hu;rw[if_pos rfl]at hu;obtain⟨c1,x,rfl,h1,h2⟩:=hu;obtain⟨t0,r,rfl⟩:∃t0 r,s=t0::r:=by cases s with|nil=>rw[MvH]at h2;exact h2.elim|cons t0 r=>exact⟨t0,r,rfl⟩
   rw[MvH]at h2;obtain⟨d1,d2,rfl⟩:=Uk h2;have hf0:=hf.sub 0 (by simp);refine Jj i k b1 b2 116 _ w hm1 hm2 hS hk hM (fun _ _=>by kernel_rfl) (hid fun W hg hs hk1=> ?_);rw[show(#[Value.int .i64 i]++#[Value.pointer (some ⟨c1,0,none⟩)]:Array Value)=#[.int .i64 i,.pointer (some ⟨c1,0,none⟩)] by simp];exact y0x i k c1 d1 d2 W (h1.kept hg).2 (hid (ih t0 d1 d2 W i (k+1) (Vg hg _ _ h2) hf0 (hB.kept hg) hs hk1 (by omega) hi))
  ·subst hkd
   rw[if_neg (by decide)]at hu;rw[if_neg (by decide)]at hu;rw[if_neg (by decide)]at hu;rw[if_neg (by decide)]at hu;rw[if_neg (by decide)]at hu;rw[if_neg (by decide)]at hu;rw[if_neg (by decide)]at hu;rw[if_pos rfl]at hu;obtain⟨c1,x,rfl,h1,h2⟩:=hu;obtain⟨t0,r,rfl⟩:∃t0 r,s=t0::r:=by cases s with|nil=>rw[MvH]at h2;exact h2.elim|cons t0 r=>exact⟨t0,r,rfl⟩
   rw[MvH]at h2;obtain⟨d1,d2,rfl⟩:=Uk h2;have hf0:=hf.sub 0 (by simp);refine Jj i k b1 b2 117 _ w hm1 hm2 hS hk hM (fun _ _=>by kernel_rfl) (hid fun W hg hs hk1=> ?_);rw[show(#[Value.int .i64 i]++#[Value.pointer (some ⟨c1,0,none⟩)]:Array Value)=#[.int .i64 i,.pointer (some ⟨c1,0,none⟩)] by simp];exact z3k i k i (k+1) c1 d1 d2 W (h1.kept hg).2 h1.1 hi hs hk1 Ri.star (hid fun W' i' k' hg' hs' hk2 hk3 hi'=>ih t0 d1 d2 W' i' k' (Vg (G.trans hg hg') _ _ h2) hf0 (hB.kept (G.trans hg hg')) hs' hk3 (by omega) hi')
  ·subst hkd
   rw[if_neg (by decide)]at hu;rw[if_neg (by decide)]at hu;rw[if_neg (by decide)]at hu;rw[if_neg (by decide)]at hu;rw[if_neg (by decide)]at hu;rw[if_neg (by decide)]at hu;rw[if_neg (by decide)]at hu;rw[if_neg (by decide)]at hu;rw[if_pos rfl]at hu;obtain⟨c1,c2,c3,x,rfl,h1,h2,h3,h4⟩:=hu;obtain⟨t0,r,rfl⟩:∃t0 r,s=t0::r:=by cases s with|nil=>rw[MvH]at h4;exact h4.elim|cons t0 r=>exact⟨t0,r,rfl⟩
   rw[MvH]at h4;obtain⟨d1,d2,rfl⟩:=Uk h4;have hf0:=hf.sub 0 (by simp);refine Jj i k b1 b2 118 _ w hm1 hm2 hS hk hM (fun _ _=>by kernel_rfl) (hid fun W hg hs hk1=> ?_);rw[show(#[Value.int .i64 i]++#[Value.pointer (some ⟨c1,0,none⟩),Value.pointer (some ⟨c2,0,none⟩)]:Array Value)=#[.int .i64 i,.pointer (some ⟨c1,0,none⟩),.pointer (some ⟨c2,0,none⟩)] by simp];refine y0L i k c1 c2 c3 d1 d2 W (h1.kept hg).2 (h2.kept hg).2 h2.1 (hid (ih t0 d1 d2 W i (k+1) (Vg hg _ _ h4) hf0 (hB.kept hg) hs hk1 (by omega) hi)) (hid fun W' y n hg' hs' hk' hm=> ?_);exact z3k i k y (k+1+n) c3 d1 d2 W' (h3.kept (G.trans hg hg')).2 h3.1 (Sp hm hi y rfl).2 hs' hk' (Ri.plus hm) (hid fun W2 i2 k2 hg2 hs2 hk2 hk3 hi2=>ih t0 d1 d2 W2 i2 k2 (Vg (G.trans (G.trans hg hg') hg2) _ _ h4) hf0 (hB.kept (G.trans (G.trans hg hg') hg2)) hs2 hk3 (by omega) hi2)
  ·subst hkd
   rw[if_neg (by decide)]at hu;rw[if_neg (by decide)]at hu;rw[if_neg (by decide)]at hu;rw[if_neg (by decide)]at hu;rw[if_neg (by decide)]at hu;rw[if_neg (by decide)]at hu;rw[if_neg (by decide)]at hu;rw[if_neg (by decide)]at hu;rw[if_neg (by decide)]at hu;rw[if_pos rfl]at hu;obtain⟨c1,x,rfl,h1,h2⟩:=hu;obtain⟨t0,r,rfl⟩:∃t0 r,s=t0::r:=by cases s with|nil=>rw[MvH]at h2;exact h2.elim|cons t0 r=>exact⟨t0,r,rfl⟩
   rw[MvH]at h2;obtain⟨d1,d2,rfl⟩:=Uk h2;have hf0:=hf.sub 0 (by simp);refine Jj i k b1 b2 119 _ w hm1 hm2 hS hk hM (fun _ _=>by kernel_rfl) (hid fun W hg hs hk1=> ?_);rw[show(#[Value.int .i64 i]++#[Value.pointer (some ⟨c1,0,none⟩)]:Array Value)=#[.int .i64 i,.pointer (some ⟨c1,0,none⟩)] by simp];exact y0y i k c1 d1 d2 W (h1.kept hg).2 (hid (ih t0 d1 d2 W i (k+1) (Vg hg _ _ h2) hf0 (hB.kept hg) hs hk1 (by omega) hi))
  ·subst hkd
   rw[if_neg (by decide)]at hu;rw[if_neg (by decide)]at hu;rw[if_neg (by decide)]at hu;rw[if_neg (by decide)]at hu;rw[if_neg (by decide)]at hu;rw[if_neg (by decide)]at hu;rw[if_neg (by decide)]at hu;rw[if_neg (by decide)]at hu;rw[if_neg (by decide)]at hu;rw[if_neg (by decide)]at hu;rw[if_pos rfl]at hu;obtain⟨c1,x,rfl,h1,h2⟩:=hu;obtain⟨t0,r,rfl⟩:∃t0 r,s=t0::r:=by cases s with|nil=>rw[MvH]at h2;exact h2.elim|cons t0 r=>exact⟨t0,r,rfl⟩
   rw[MvH]at h2;obtain⟨d1,d2,rfl⟩:=Uk h2;have hf0:=hf.sub 0 (by simp);refine Jj i k b1 b2 120 _ w hm1 hm2 hS hk hM (fun _ _=>by kernel_rfl) (hid fun W hg hs hk1=> ?_);rw[show(#[Value.int .i64 i]++#[Value.pointer (some ⟨c1,0,none⟩)]:Array Value)=#[.int .i64 i,.pointer (some ⟨c1,0,none⟩)] by simp];exact y0z i k c1 d1 d2 W (h1.kept hg).2 (hid (ih t0 d1 d2 W i (k+1) (Vg hg _ _ h2) hf0 (hB.kept hg) hs hk1 (by omega) hi))
end
end
section
open Go.Maps
section
variable {mB:Nat} {L:Nat->Prop}
theorem y2R(N:ByteArray)(W:World):
  Calls prog 72 #[.pointer (some ⟨mB,0,none⟩),.string N] W fun e w'=>e=.returned (fq2 110 W.heap.size (W.heap.size+1))/\w'=(W.alloc (.cells #[.pointer (some ⟨mB,0,none⟩)] 55)).alloc (.cells #[.string N] 9):=by
 have hmf:∀(fn:Fn) (first cap:Array Value) (w:World),(Instr.makeFunc fn first cap).run prog w=.ok (.func fn first cap) w:=fun _ _ _ _=>rfl
 go_enter func72,ntmps72
 go_wp2_with fail
 go_ret;exact⟨rfl,rfl⟩
theorem y2S(j:Nat)(W:World):
  Calls prog 75 #[.pointer (some ⟨mB,0,none⟩),.int .i64 j] W fun e w'=>e=.returned (fq2 113 W.heap.size (W.heap.size+1))/\w'=(W.alloc (.cells #[.pointer (some ⟨mB,0,none⟩)] 55)).alloc (.cells #[.int .i64 j] 3):=by
 have hmf:∀(fn:Fn) (first cap:Array Value) (w:World),(Instr.makeFunc fn first cap).run prog w=.ok (.func fn first cap) w:=fun _ _ _ _=>rfl
 go_enter func75,ntmps75
 go_wp2_with fail
 go_ret;exact⟨rfl,rfl⟩
theorem y2T(a b c d:Int)(W:World):
  Calls prog 73 #[.pointer (some ⟨mB,0,none⟩),.agg #[.int .u64 a,.int .u64 b,.int .u64 c,.int .u64 d]] W fun e w'=>e=.returned (fq2 111 W.heap.size (W.heap.size+1))/\w'=(W.alloc (.cells #[.pointer (some ⟨mB,0,none⟩)] 55)).alloc (.cells #[.int .u64 a,.int .u64 b,.int .u64 c,.int .u64 d] 27):=by
 have hmf:∀(fn:Fn) (first cap:Array Value) (w:World),(Instr.makeFunc fn first cap).run prog w=.ok (.func fn first cap) w:=fun _ _ _ _=>rfl
 go_enter func73,ntmps73
 go_wp2_with fail
 go_ret;exact⟨rfl,rfl⟩
theorem y2U(so:Option Addr)(n cap:Nat)(W:World):
  Calls prog 76 #[.slice so n cap] W fun e w'=>e=.returned (fq1 114 W.heap.size)/\w'=W.alloc (.cells #[.slice so n cap] 75):=by
 have hmf:∀(fn:Fn) (first cap:Array Value) (w:World),(Instr.makeFunc fn first cap).run prog w=.ok (.func fn first cap) w:=fun _ _ _ _=>rfl
 go_enter func76,ntmps76
 go_wp2_with fail
 go_ret;exact⟨rfl,rfl⟩
theorem y2V(so:Option Addr)(n cap:Nat)(W:World):
  Calls prog 78 #[.slice so n cap] W fun e w'=>e=.returned (fq1 115 W.heap.size)/\w'=W.alloc (.cells #[.slice so n cap] 75):=by
 have hmf:∀(fn:Fn) (first cap:Array Value) (w:World),(Instr.makeFunc fn first cap).run prog w=.ok (.func fn first cap) w:=fun _ _ _ _=>rfl
 go_enter func78,ntmps78
 go_wp2_with fail
 go_ret;exact⟨rfl,rfl⟩
theorem y2W(d1 d2:Nat)(W:World):
  Calls prog 79 #[fq2 43 d1 d2] W fun e w'=>e=.returned (fq1 116 W.heap.size)/\w'=W.alloc (.cells #[fq2 43 d1 d2] 79):=by
 have hmf:∀(fn:Fn) (first cap:Array Value) (w:World),(Instr.makeFunc fn first cap).run prog w=.ok (.func fn first cap) w:=fun _ _ _ _=>rfl
 go_enter func79,ntmps79
 go_wp2_with fail
 go_ret;exact⟨rfl,rfl⟩
theorem z4S(d1 d2:Nat)(W:World):
  Calls prog 80 #[fq2 43 d1 d2] W fun e w'=>e=.returned (fq1 117 W.heap.size)/\w'=W.alloc (.cells #[fq2 43 d1 d2] 79):=by
 have hmf:∀(fn:Fn) (first cap:Array Value) (w:World),(Instr.makeFunc fn first cap).run prog w=.ok (.func fn first cap) w:=fun _ _ _ _=>rfl
 go_enter func80,ntmps80
 go_wp2_with fail
 go_ret;exact⟨rfl,rfl⟩
theorem y2X(d1 d2:Nat)(W:World):
  Calls prog 82 #[fq2 43 d1 d2] W fun e w'=>e=.returned (fq1 119 W.heap.size)/\w'=W.alloc (.cells #[fq2 43 d1 d2] 79):=by
 have hmf:∀(fn:Fn) (first cap:Array Value) (w:World),(Instr.makeFunc fn first cap).run prog w=.ok (.func fn first cap) w:=fun _ _ _ _=>rfl
 go_enter func82,ntmps82
 go_wp2_with fail
 go_ret;exact⟨rfl,rfl⟩
theorem y2Y(d1 d2:Nat)(W:World):
  Calls prog 83 #[fq2 43 d1 d2] W fun e w'=>e=.returned (fq1 120 W.heap.size)/\w'=W.alloc (.cells #[fq2 43 d1 d2] 79):=by
 have hmf:∀(fn:Fn) (first cap:Array Value) (w:World),(Instr.makeFunc fn first cap).run prog w=.ok (.func fn first cap) w:=fun _ _ _ _=>rfl
 go_enter func83,ntmps83
 go_wp2_with fail
 go_ret;exact⟨rfl,rfl⟩
theorem y2Z(d1 d2:Nat)(W:World):
  Calls prog 81 #[fq2 43 d1 d2] W fun e w'=>e=.returned (fq2 118 W.heap.size (W.heap.size+1+1))/\w'=((W.alloc (.cells #[fq2 43 d1 d2] 79)).alloc (.cells #[fq2 43 d1 d2] 79)).alloc (.cells #[fq1 117 (W.heap.size+1)] 79):=by
 have hmf:∀(fn:Fn) (first cap:Array Value) (w:World),(Instr.makeFunc fn first cap).run prog w=.ok (.func fn first cap) w:=fun _ _ _ _=>rfl
 have HM:=hid (z4S d1 d2);dsimp only[fq1,fq2]at HM ⊢;go_enter func81,ntmps81
 go_wp2_with fail
 refine(HM.out _).mono ?_;rintro e w1 ⟨rfl,rfl⟩
 go_wp2_with fail
 go_ret;exact⟨by simp,by simp⟩
theorem Uh{w:World}{xs:Array Value}{t:TypeId}(h:mB<w.heap.size)(hL:∀b,w.heap.size<=b->L b):Hb (w.alloc (.cells xs t)) mB L w.heap.size xs t:=⟨fun e=>by omega,Qx w _ rfl,hL _ L0q⟩
theorem Bf{w:World}{xs:Array Value}{t:TypeId}{b:Nat}(h:mB<w.heap.size)(hL:∀b,w.heap.size<=b->L b)(hb:b=w.heap.size):Hb (w.alloc (.cells xs t)) mB L b xs t:=by subst hb;exact Uh h hL
theorem Kv{w:World}{b:Nat}{xs:Array Value}{t:TypeId}(o:Obj)(h:Hb w mB L b xs t):Hb (w.alloc o) mB L b xs t:=h.kept (G.alloc (G.refl _ _))
theorem be2(W:World)(o1 o2:Obj):Below W.heap.size W ((W.alloc o1).alloc o2):=((Below.refl _ W).alloc L0q _).alloc (by simp) _
theorem y3a(N:ByteArray){W:World}(h:mB<W.heap.size)(hL:∀b,W.heap.size<=b->L b):Calls prog 72 #[.pointer (some ⟨mB,0,none⟩),.string N] W fun e w'=>∃c1 c2,e=.returned (.func (.func 110) #[] #[.pointer (some ⟨c1,0,none⟩),.pointer (some ⟨c2,0,none⟩)])/\Hid (Hm w' mB L c1/\Hb w' mB L c2 #[.string N] 9/\Below W.heap.size W w'):=
 (y2R N W).mono fun e w' ⟨h1,h2⟩=>⟨_,_,h1,by rw[h2];exact⟨Kv _ (Uh h hL),Bf (by simp;omega) (fun b hb=>hL b (by simp at hb;omega)) (by simp),be2 _ _ _⟩⟩
theorem y3b(j:Nat){W:World}(h:mB<W.heap.size)(hL:∀b,W.heap.size<=b->L b):Calls prog 75 #[.pointer (some ⟨mB,0,none⟩),.int .i64 j] W fun e w'=>∃c1 c2,e=.returned (.func (.func 113) #[] #[.pointer (some ⟨c1,0,none⟩),.pointer (some ⟨c2,0,none⟩)])/\Hid (Hm w' mB L c1/\Hb w' mB L c2 #[.int .i64 j] 3/\Below W.heap.size W w'):=
 (y2S j W).mono fun e w' ⟨h1,h2⟩=>⟨_,_,h1,by rw[h2];exact⟨Kv _ (Uh h hL),Bf (by simp;omega) (fun b hb=>hL b (by simp at hb;omega)) (by simp),be2 _ _ _⟩⟩
theorem z4T(a b c d:Int){W:World}(h:mB<W.heap.size)(hL:∀b,W.heap.size<=b->L b):Calls prog 73 #[.pointer (some ⟨mB,0,none⟩),.agg #[.int .u64 a,.int .u64 b,.int .u64 c,.int .u64 d]] W fun e w'=>∃c1 c2,e=.returned (.func (.func 111) #[] #[.pointer (some ⟨c1,0,none⟩),.pointer (some ⟨c2,0,none⟩)])/\Hid (Hm w' mB L c1/\Hb w' mB L c2 #[.int .u64 a,.int .u64 b,.int .u64 c,.int .u64 d] 27/\Below W.heap.size W w'):=
 (y2T a b c d W).mono fun e w' ⟨h1,h2⟩=>⟨_,_,h1,by rw[h2];exact⟨Kv _ (Uh h hL),Bf (by simp;omega) (fun b hb=>hL b (by simp at hb;omega)) (by simp),be2 _ _ _⟩⟩
theorem y3c(so:Option Addr)(n cap:Nat){W:World}(h:mB<W.heap.size)(hL:∀b,W.heap.size<=b->L b):Calls prog 76 #[.slice so n cap] W fun e w'=>∃c1,e=.returned (.func (.func 114) #[] #[.pointer (some ⟨c1,0,none⟩)])/\Hid (Hb w' mB L c1 #[.slice so n cap] 75/\Below W.heap.size W w'):=
 (y2U so n cap W).mono fun e w' ⟨h1,h2⟩=>⟨_,h1,by rw[h2];exact⟨Uh h hL,(Below.refl _ W).alloc L0q _⟩⟩
theorem y3d(so:Option Addr)(n cap:Nat){W:World}(h:mB<W.heap.size)(hL:∀b,W.heap.size<=b->L b):Calls prog 78 #[.slice so n cap] W fun e w'=>∃c1,e=.returned (.func (.func 115) #[] #[.pointer (some ⟨c1,0,none⟩)])/\Hid (Hb w' mB L c1 #[.slice so n cap] 75/\Below W.heap.size W w'):=
 (y2V so n cap W).mono fun e w' ⟨h1,h2⟩=>⟨_,h1,by rw[h2];exact⟨Uh h hL,(Below.refl _ W).alloc L0q _⟩⟩
theorem y3e(d1 d2:Nat){W:World}(h:mB<W.heap.size)(hL:∀b,W.heap.size<=b->L b):Calls prog 79 #[.func (.func 43) #[] #[.pointer (some ⟨d1,0,none⟩),.pointer (some ⟨d2,0,none⟩)]] W fun e w'=>∃c1,e=.returned (.func (.func 116) #[] #[.pointer (some ⟨c1,0,none⟩)])/\Hid (Hb w' mB L c1 #[.func (.func 43) #[] #[.pointer (some ⟨d1,0,none⟩),.pointer (some ⟨d2,0,none⟩)]] 79/\Below W.heap.size W w'):=
 (y2W d1 d2 W).mono fun e w' ⟨h1,h2⟩=>⟨_,h1,by rw[h2];exact⟨Uh h hL,(Below.refl _ W).alloc L0q _⟩⟩
theorem y3f(d1 d2:Nat){W:World}(h:mB<W.heap.size)(hL:∀b,W.heap.size<=b->L b):Calls prog 80 #[.func (.func 43) #[] #[.pointer (some ⟨d1,0,none⟩),.pointer (some ⟨d2,0,none⟩)]] W fun e w'=>∃c1,e=.returned (.func (.func 117) #[] #[.pointer (some ⟨c1,0,none⟩)])/\Hid (Hb w' mB L c1 #[.func (.func 43) #[] #[.pointer (some ⟨d1,0,none⟩),.pointer (some ⟨d2,0,none⟩)]] 79/\Below W.heap.size W w'):=
 (z4S d1 d2 W).mono fun e w' ⟨h1,h2⟩=>⟨_,h1,by rw[h2];exact⟨Uh h hL,(Below.refl _ W).alloc L0q _⟩⟩
theorem y3g(d1 d2:Nat){W:World}(h:mB<W.heap.size)(hL:∀b,W.heap.size<=b->L b):Calls prog 82 #[.func (.func 43) #[] #[.pointer (some ⟨d1,0,none⟩),.pointer (some ⟨d2,0,none⟩)]] W fun e w'=>∃c1,e=.returned (.func (.func 119) #[] #[.pointer (some ⟨c1,0,none⟩)])/\Hid (Hb w' mB L c1 #[.func (.func 43) #[] #[.pointer (some ⟨d1,0,none⟩),.pointer (some ⟨d2,0,none⟩)]] 79/\Below W.heap.size W w'):=
 (y2X d1 d2 W).mono fun e w' ⟨h1,h2⟩=>⟨_,h1,by rw[h2];exact⟨Uh h hL,(Below.refl _ W).alloc L0q _⟩⟩
theorem y3h(d1 d2:Nat){W:World}(h:mB<W.heap.size)(hL:∀b,W.heap.size<=b->L b):Calls prog 83 #[.func (.func 43) #[] #[.pointer (some ⟨d1,0,none⟩),.pointer (some ⟨d2,0,none⟩)]] W fun e w'=>∃c1,e=.returned (.func (.func 120) #[] #[.pointer (some ⟨c1,0,none⟩)])/\Hid (Hb w' mB L c1 #[.func (.func 43) #[] #[.pointer (some ⟨d1,0,none⟩),.pointer (some ⟨d2,0,none⟩)]] 79/\Below W.heap.size W w'):=
 (y2Y d1 d2 W).mono fun e w' ⟨h1,h2⟩=>⟨_,h1,by rw[h2];exact⟨Uh h hL,(Below.refl _ W).alloc L0q _⟩⟩
theorem y3i(d1 d2:Nat){W:World}(h:mB<W.heap.size)(hL:∀b,W.heap.size<=b->L b):Calls prog 81 #[.func (.func 43) #[] #[.pointer (some ⟨d1,0,none⟩),.pointer (some ⟨d2,0,none⟩)]] W fun e w'=>∃c1 c2 c3,e=.returned (.func (.func 118) #[] #[.pointer (some ⟨c1,0,none⟩),.pointer (some ⟨c2,0,none⟩)])/\Hid (Hb w' mB L c1 #[.func (.func 43) #[] #[.pointer (some ⟨d1,0,none⟩),.pointer (some ⟨d2,0,none⟩)]] 79/\Hb w' mB L c2 #[fq1 117 c3] 79/\Hb w' mB L c3 #[.func (.func 43) #[] #[.pointer (some ⟨d1,0,none⟩),.pointer (some ⟨d2,0,none⟩)]] 79/\Below W.heap.size W w'):=
 (y2Z d1 d2 W).mono fun e w' ⟨h1,h2⟩=>⟨_,_,W.heap.size+1,h1,by rw[h2];exact⟨Kv _ (Kv _ (Uh h hL)),Bf (by simp;omega) (fun b hb=>hL b (by simp at hb;omega)) (by simp),Kv _ (Bf (by simp;omega) (fun b hb=>hL b (by simp at hb;omega)) (by simp)),(be2 _ _ _).alloc (by simp;omega) _⟩⟩
end
end
end Go.Proofs.YtgmcjddjdidpjabGreatDoor
