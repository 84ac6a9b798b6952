/- Lemmas for the last text. Conditions: those that each names. -/
import Derived.Test.YtgnkkgcgbeianaaGreatDoorVPEToPF
import Derived.Test.YtgnkkgcgbeianaaGreatDoorVPR1ToT11
import Derived.Test.YtgnkkgcgbeianaaGreatDoorVC10aToHA
set_option linter.unusedVariables false
set_option maxRecDepth 100000
set_option maxHeartbeats 16000000
namespace Go.Proofs.YtgnkkgcgbeianaaGreatDoor
open Go.Proofs.Tryz
open Go.RowKit Go.Shelf Go.Maps
variable {W:World}
mutual
def stT:RT->RT
 | .mk k T a b c d s _=>.mk k T a b c d (stL s) 0
def stL:List RT->List RT
 |[]=>[]
 |t::r=>stT t::stL r
end
def stR(x:Rr):Rr:=(x.1,stT x.2.1,0)
def stG(rs:List Rr):List Rr:=rs.map stR
theorem z0R:∀s:List RT,(stL s).length=s.length
 |[]=>rfl
 |t::r=>by rw[stL,List.length_cons,List.length_cons,z0R r]
theorem z7f:∀s:List RT,stL s=s.map stT
 |[]=>rfl
 |t::r=>by rw[stL,List.map_cons,z7f r]
theorem y6X(s:List RT):Qb (stL s)=Qb s:=by rw[Xc,Xc,z0R]
mutual
theorem z7g:∀t:RT,okT (stT t)=okT t
 | .mk k T a b c d s p=>by rw[stT,okT,okT,y6X,z7h s]
theorem z7h:∀s:List RT,okL (stL s)=okL s
 |[]=>by rw[stL]
 |t::r=>by rw[stL,okL,okL,z7g t,z7h r]
end
mutual
theorem z7i:∀t:RT,(rfT (stT t)).map (·.1)=(rfT t).map (·.1)
 | .mk k T a b c d s p=>by
   rw[stT,rfT,rfT];by_cases h:k=5
   ·rw[if_pos h,if_pos h];rfl
   ·rw[if_neg h,if_neg h];exact z7j s
theorem z7j:∀s:List RT,(rfL (stL s)).map (·.1)=(rfL s).map (·.1)
 |[]=>by rw[stL]
 |t::r=>by rw[stL,rfL,rfL,List.map_append,List.map_append,z7i t,z7j r]
end
mutual
theorem Kv(K:ByteArray->Ot):∀t:RT,ofT K (stT t)=ofT K t
 | .mk k T a b c d s p=>by rw[stT,ofT,ofT,z7k K s,z7l K s,z7m K s]
theorem z7k(K:ByteArray->Ot):∀(s:List RT) (x:Ot),ofS K x (stL s)=ofS K x s
 |[],x=>by rw[stL]
 |t::r,x=>by rw[stL,ofS,ofS,Kv K t,z7k K r]
theorem z7l(K:ByteArray->Ot):∀(s:List RT) (x:Ot),ofA K x (stL s)=ofA K x s
 |[],x=>by rw[stL]
 |t::r,x=>by rw[stL,ofA,ofA,Kv K t,z7l K r]
theorem z7m(K:ByteArray->Ot):∀s:List RT,ofH K (stL s)=ofH K s
 |[]=>by rw[stL]
 |t::r=>by rw[stL,ofH,ofH,Kv K t]
end
mutual
theorem z7n(K:ByteArray->Ot):∀t:RT,flT K t=none->flT K (stT t)=none
 | .mk k T a b c d s p,h=>by
   rw[flT]at h;rw[stT,flT,z7m];by_cases e:(k=9∨k=10)/\(ofH K s).1=true
   ·rw[if_pos e]at h;cases h
   ·rw[if_neg e]at h ⊢;exact z7o K s h
theorem z7o(K:ByteArray->Ot):∀s:List RT,flL K s=none->flL K (stL s)=none
 |[],_=>by rw[stL,flL]
 |t::r,h=>by
  rw[flL]at h;cases ht:flT K t with
  |some p=>rw[ht]at h;cases h
  |none=>
   rw[ht]at h;rw[stL,flL,z7n K t ht];exact z7o K r h
end
mutual
theorem z7p(K:ByteArray->Ot):∀t:RT,fbT K (stT t)=fbT K t
 | .mk k T a b c d s p=>by rw[stT,fbT,fbT,z7q K _ s]
theorem z7q(K:ByteArray->Ot)(h:Bool):∀s:List RT,fbL K h (stL s)=fbL K h s
 |[]=>by rw[stL]
 |t::r=>by rw[stL,fbL,fbL,z7p K t,Kv,z7q K h r]
end
mutual
theorem z7r:∀(t:RT) (n:Nd),Tq t n->Tq (stT t) n
 | .mk k T a b c d s p,.mk kd T' C s' p',h=>by
   rw[Tq]at h;rw[stT,Tq];exact⟨h.1,h.2.1,h.2.2.1,h.2.2.2.1,h.2.2.2.2.1,h.2.2.2.2.2.1,z7s s s' h.2.2.2.2.2.2⟩
theorem z7s:∀(s:List RT) (q:List Nd),TqL s q->TqL (stL s) q
 |[],[],_=>by rw[stL,TqL];trivial
 |[],_::_,h=>by simp[TqL]at h
 |_::_,[],h=>by simp[TqL]at h
 |t::r,n::q,h=>by
  rw[TqL]at h;rw[stL,TqL];exact⟨z7r t n h.1,z7s r q h.2⟩
end
mutual
theorem z7t(ix:ByteArray->Int):∀(t:RT) (ops:List Ox),mkT ix (stT t) ops=mkT ix t ops
 | .mk k T a b c d s p,ops=>by rw[stT,mkT,mkT,z7u ix s ops]
theorem z7u(ix:ByteArray->Int):∀(s:List RT) (ops:List Ox),mkL ix (stL s) ops=mkL ix s ops
 |[],ops=>by rw[stL]
 |t::r,ops=>by rw[stL,mkL,mkL,z7t ix t ops,z7u ix r]
end
mutual
theorem z7v:∀t:RT,RtU t->RtU (stT t)
 | .mk k T a b c d s p,h=>by
   rw[RtU]at h;rw[stT,RtU];exact⟨h.1,h.2.1,h.2.2.1,h.2.2.2.1,z7w s h.2.2.2.2⟩
theorem z7w:∀s:List RT,Yz s->Yz (stL s)
 |[],_=>by rw[stL,Yz];trivial
 |t::r,h=>by
  rw[Yz]at h;rw[stL,Yz];exact⟨z7v t h.1,z7w r h.2⟩
end
mutual
theorem z7x:∀t:RT,RtZ t->RtZ (stT t)
 | .mk k T a b c d s p,h=>by
   rw[RtZ]at h;rw[stT,RtZ];exact⟨h.1,z7y s h.2⟩
theorem z7y:∀s:List RT,Xl s->Xl (stL s)
 |[],_=>by rw[stL,Xl];trivial
 |t::r,h=>by
  rw[Xl]at h;rw[stL,Xl];exact⟨z7x t h.1,z7y r h.2⟩
end
theorem By(rs:List Rr):(stG rs).length=rs.length:=List.length_map _
theorem Bf(rs:List Rr):nmL (stG rs)=nmL rs:=by
 unfold nmL stG;rw[List.map_map];rfl
theorem y6Y{rs:List Rr}(h:okG rs=true):okG (stG rs)=true:=by
 unfold okG at h ⊢;simp only[Bool.and_eq_true,List.all_eq_true]at h ⊢;rw[By];refine⟨h.1,h.2.1,fun x hx=> ?_⟩;obtain⟨y,o,rfl⟩:=List.mem_map.1 hx;have:=h.2.2 y o;unfold okR at this ⊢;unfold stR;rw[z7g];exact this
theorem y6Z{rs:List Rr}(h:ckR rs=none):ckR (stG rs)=none:=by
 refine z5r (by rw[Bf];exact z0k h) fun x hx y r=> ?_
 obtain⟨z,t,rfl⟩:=List.mem_map.1 hx;rw[Bf];have o:y.1∈(rfT (stT z.2.1)).map (·.1):=List.mem_map.2 ⟨y,r,rfl⟩;rw[z7i]at o;obtain⟨q,A,e⟩:=List.mem_map.1 o;rw[<-e];exact Lm h t q A
theorem z7z(K:ByteArray->Ot):∀rs:List Rr,swp K (stG rs)=swp K rs
 |[]=>rfl
 |x::r=>by
  show Ym (swp K (stG r)) (stR x)=Ym (swp K r) x;rw[z7z K r];unfold Ym stR;rw[Kv]
theorem z0S(rs:List Rr):∀m,itr (stG rs) m=itr rs m
 |0=>rfl
 |m+1=>by rw[itr,itr,z0S rs m,z7z]
theorem y7a{K:ByteArray->Ot}{rs:List Rr}:Xy K (stG rs)↔Xy K rs:=by
 constructor
 ·intro h x hx
  have:=h (stR x) (List.mem_map.2 ⟨x,hx,rfl⟩);unfold stR at this;rw[Kv]at this;exact this
 ·intro h x hx
  obtain⟨y,o,rfl⟩:=List.mem_map.1 hx;unfold stR;rw[Kv];exact h y o
theorem z7A(rs:List Rr):kG (stG rs)=kG rs:=by
 unfold kG;have e:(fun m=>Xy (itr (stG rs) m) (stG rs))=fun m=>Xy (itr rs m) rs:=by
  funext m;rw[z0S];exact propext y7a
 rw[e,z0S]
theorem y7b(rs:List Rr):bgU (stG rs)=bgU rs:=by
 unfold bgU;rw[z7A];unfold stG;rw[List.map_map];refine List.map_congr_left fun x _=> ?_
 show bgR (rs.map stR) (kG rs) (stR x)=_;unfold bgR;rw[show nmL (rs.map stR)=nmL rs from Bf rs];unfold stR;rw[z7p]
theorem y7c{K:ByteArray->Ot}{rs:List Rr}(h:flG K rs=none):flG K (stG rs)=none:=z6N fun x hx=>by
 obtain⟨y,o,rfl⟩:=List.mem_map.1 hx;exact z7n K _ (Lh h y o)
theorem y7d{rs:List Rr}(h:soZ rs none=none):soZ (stG rs) none=none:=by
 have r:=z0K h;have o:lfG rs=none:=by
  unfold soZ at h;simp only at h;have e:flX (kG rs) rs=none:=by unfold flX;rw[r];rfl
  rw[e]at h;cases e2:lfG rs with
  |none=>rfl
  |some p=>rw[e2]at h;cases h
 have t:lfG (stG rs)=none:=by
  unfold lfG at o ⊢;rw[Option.map_eq_none_iff]at o ⊢;rw[By];have e:bkB (stG rs)=bkB rs:=by
   funext i;unfold bkB;rw[y7b]
  rw[e];exact o
 unfold soZ;simp only;have e:flX (kG (stG rs)) (stG rs)=none:=by
  unfold flX;rw[z7A,y7c r];rfl
 rw[e,t];rfl
theorem z7B:∀{rs:List Rr} {ns:List Rl},TqR rs ns->TqR (stG rs) ns
 |[],[],h=>h
 |[],_::_,h=>h.elim
 |_::_,[],h=>h.elim
 |x::r,n::q,h=>by
  obtain⟨o,t,y⟩:=h;exact⟨o,z7r _ _ t,z7B y⟩
theorem z7C{rs:List Rr}(h:PrG rs):PrG (stG rs):=by
 obtain⟨o,ns,r,t⟩:=h;exact⟨y6Y o,ns,z7B r,t⟩
theorem y7e{rs:List Rr}(h:RgU rs):RgU (stG rs):=fun x hx=>by
 obtain⟨y,o,rfl⟩:=List.mem_map.1 hx;exact z7v _ (h y o)
theorem z7D{rs:List Rr}(h:RgZ rs):RgZ (stG rs):=fun x hx=>by
 obtain⟨y,o,rfl⟩:=List.mem_map.1 hx;exact⟨(h y o).1,z7x _ (h y o).2⟩
theorem z7E(ix:ByteArray->Int):∀(rs:List Rr) (ops:List Ox),mkG ix (stG rs) ops=mkG ix rs ops
 |[],ops=>rfl
 |x::r,ops=>by
  show mkG ix (stR x::stG r) ops=_;rw[mkG,mkG];unfold stR;rw[z7t,z7E ix r]
theorem z0T(rs:List Rr):pgG (stG rs)=pgG rs:=by
 unfold pgG;rw[Bf,z7E]
mutual
def szT:RT->Nat
 | .mk k T _ _ _ _ s _=>if k=5 then 1 else 1+T.size+szL s
def szL:List RT->Nat
 |[]=>0
 |t::r=>szT t+szL r
end
def szG:List Rr->Nat
 |[]=>0
 |x::r=>szT x.2.1+szG r
theorem y7f(b:Nat):1<=(lq b).length:=by
 unfold lq
 repeat(split;(· simp))
 simp
theorem z7F(S:ByteArray):∀n,n<=S.size->n+1<=(qp S n).length
 |0,_=>by simp[qp]
 |n+1,h=>by
  have:=z7F S n (by omega);rw[qp,List.length_append];cases hb:bt S n with
  |none=>have:=Xw hb;omega
  |some x=>have:=y7f x;simp only;omega
theorem y7g(T:ByteArray):T.size+2<=(qT T).size:=by
 show _<=(nb (qt T)).size;rw[Vz];unfold qt;have:=z7F T T.size L0q;simp;omega
mutual
theorem z7G:∀(t:RT) (n:Nd),Tq t n->Vk n->Wf Nmq n->szT t<=sz (pN qT cT n)
 | .mk k T a b c d s p,.mk kd T' C s' p',ht,hv,hw=>by
   have r:=z5B (.mk kd T' C s' p') hv hw;rw[Tq]at ht;obtain⟨rfl,rfl,_,_,_,_,h⟩:=ht;rw[Vk]at hv;rw[Wf]at hw;rw[szT];have o:({data:=#[]}:ByteArray).size=0:=rfl;rcases hv.1 with⟨rfl,rfl,_,rfl⟩|⟨rfl,_,rfl⟩|⟨rfl,rfl,rfl⟩|⟨rfl,rfl,_,rfl⟩|⟨rfl,_,rfl⟩|⟨A,rfl,_,D⟩|⟨E,G,rfl,_,I⟩
   ·have:s=[]:=by
     cases s with
     |nil=>rfl
     |cons=>simp[TqL]at h
    subst this;rw[if_neg (by decide),o,szL];exact r
   ·have:s=[]:=by
     cases s with
     |nil=>rfl
     |cons=>simp[TqL]at h
    subst this;have:=y7g T';rw[pN];simp[szL,sz];omega
   ·have:s=[]:=by
     cases s with
     |nil=>rfl
     |cons=>simp[TqL]at h
    subst this;rw[if_neg (by decide),o,szL];exact r
   ·have:s=[]:=by
     cases s with
     |nil=>rfl
     |cons=>simp[TqL]at h
    subst this;rw[if_neg (by decide),o,szL];exact r
   ·simpa using r
   ·have y:=z0U s s' h hv.2 hw.2.2.2
    rw[pN];rcases A with rfl|rfl
    ·have:=(y 6 bSp).1
     have e:bSp.size=1:=rfl;rw[e]at this;rw[if_neg (by decide),o];simp;omega
    ·have:=(y 7 bSl).1
     have e:bSl.size=3:=rfl;rw[e]at this;rw[if_neg (by decide),o];simp;omega
   ·have y:=(z0U s s' h hv.2 hw.2.2.2 kd bE).1
    have e:bE.size=0:=rfl;rw[e]at y;have U:1<=(bsg kd).size:=by
     rcases(by omega:kd=8∨kd=9∨kd=10∨kd=11∨kd=12)with rfl|rfl|rfl|rfl|rfl<;>decide
    rw[pN,if_neg (by omega),if_neg (by omega),if_neg (by omega),if_neg (by omega),if_neg (by omega),if_neg (by omega),if_neg (by omega)];rw[if_neg (by omega)];rw[o];by_cases h11:kd=11∨kd=12
    ·rw[if_pos h11,sz]
     omega
    ·rw[if_neg h11,Xd,sz,sz]
     omega
theorem z0U:∀(s:List RT) (q:List Nd),TqL s q->VkL q->WfL Nmq q->∀(y:Nat) (o:ByteArray),(szL s+(q.length-1)*o.size<=sz (pS qT cT y o q))/\szL s+q.length*o.size<=sz (pB qT cT y o q)
 |[],[],_,_,_=>fun y o=>by rw[pS,pB,szL];simp[sz]
 |[],_::_,h,_,_=>by simp[TqL]at h
 |_::_,[],h,_,_=>by simp[TqL]at h
 |t::r,n::q,h,hv,hw=>fun y o=>by
  rw[TqL]at h;rw[VkL]at hv;rw[WfL]at hw;have A:=z7G t n h.1 hv.1 hw.1;have D:=(z0U r q h.2 hv.2 hw.2 y o).2;have E:szT t<=sz (if wr y n.kd=true then bO::(pN qT cT n++[bC])else pN qT cT n):=by
   split
   ·rw[sz,Xd];omega
   ·exact A
  rw[pS,pB,szL,sz,Xd];have e:(n::q).length-1=q.length:=rfl;rw[e,List.length_cons,Nat.succ_mul];omega
end
theorem z7H:∀(rs:List Rr) (ns:List Rl),TqR rs ns->(∀x∈ns,Ruk Nmq x)->szG rs<=sz (pR qT cT ns)
 |[],[],_,_=>Nat.zero_le _
 |[],_::_,h,_=>h.elim
 |_::_,[],h,_=>h.elim
 |x::r,n::q,h,hx=>by
  obtain⟨_,t,A⟩:=h;have o:=hx n (by simp);have E:=z7G _ _ t o.2.1 o.2.2;have G:=z7H r q A (fun y D=>hx y (by simp[D]));rw[szG,pR,sz,sz,Xd,sz];omega
theorem z7I{rs:List Rr}(h:PrG rs):szG rs<=8192:=by
 obtain⟨_,ns,o,r,t,_⟩:=h;exact Nat.le_trans (z7H rs ns o r) t
theorem z7J(m n:Int)(h:0<=n)(o:n<m)(w:World):Calls prog 100 #[.int .i64 m,.int .i64 n] w fun e w'=>e=.returned (.bool true)/\w'=w:=by
 have r:decide ((0:Int)<=n)=true:=by simp[h]
 have a1:decide (n<m)=true:=by simp[o]
 go_enter func100,ntmps100
 go_wp2_with fail
 go_ret;exact⟨rfl,rfl⟩
def ttl(z:List Int):List Int->Int
 |[]=>0
 |x::r=>z.getD x.toNat 0+ttl z r
theorem z0V(z:List Int):∀a b:List Int,ttl z (a++b)=ttl z a+ttl z b
 |[],b=>by rw[List.nil_append,ttl,Int.zero_add]
 |x::r,b=>by rw[List.cons_append,ttl,ttl,z0V z r b,Int.add_assoc]
theorem Bg{z:List Int}(o:∀x∈z,0<=x):∀s:List Int,0<=ttl z s
 |[]=>Int.le_refl _
 |x::r=>by
  have t:=Bg o r;have A:0<=z.getD x.toNat 0:=by
   rw[List.getD_eq_getElem?_getD];cases h:z[x.toNat]? with
   |none=>simp
   |some y=>exact o y (List.mem_of_getElem? h)
  rw[ttl];omega
theorem y7h{z:List Int}(h:∀x∈z,0<=x)(s:List Int)(j:Nat):ttl z (s.take j)<=ttl z s:=by
 have o:=z0V z (s.take j) (s.drop j);rw[List.take_append_drop]at o;have:=Bg h (s.drop j);omega
theorem y7i(z s:List Int)(j:Nat)(h:j<s.length):ttl z (s.take (j+1))=ttl z (s.take j)+z.getD s[j].toNat 0:=by
 rw[List.take_succ_eq_append_getElem h,z0V,ttl,ttl,Int.add_zero]
theorem z7K(U V:Option Addr)(ab ac n m:Nat)(s z:List Int)(Y:n=s.length)(Z:m=z.length)(P P2:Nat->Prop)(w:World)(h:RwC w P U s)(h2:RwC w P2 V z)(hz:∀x∈z,0<=x)(hs:∀x∈s,0<=x/\x<(m:Int))(ht:ttl z s<=8192)(hl:n<=1048576):
  Calls prog 64 #[.slice U n ab,.slice V m ac] w fun e w'=>e=.returned (.tuple #[.int .i64 (ttl z s),.bool true])/\w'=w:=by
 have HN:Hid (n=s.length):=Y;have HM:Hid (m=z.length):=Z;have HR:=hid h;have HZ:=hid h2;have HS:=hid hs;have o:=hid (And.intro hz ht);clear Y Z h h2 hs hz ht;go_enter func64,ntmps64
 go_wp2_with fail
 go_loopw [6,11] (fun v i wr=>∃j:Nat,v=.int .i64 (ttl z (s.take j))/\i=.int .i64 j/\j<=n/\wr=w) (fun _ i _=>n-(intOf i).toNat)
 case atStart=>exact⟨0,rfl,rfl,Nat.zero_le _,rfl⟩
 case round=>
  obtain⟨j,rfl,rfl,hj,rfl⟩:=hrel;by_cases hjn:j<n
  rotate_left
  ·have a0:decide ((j:Int)<(n:Int))=false:=by simp;omega
   have a1:decide (j<n)=false:=by simp;omega
   have A:Hid (ttl z (s.take j)=ttl z s):=by
    show _=_;rw[List.take_of_length_le (by rw[<-HN.out];omega)]
   go_wp2_with fail
   (try simp only[Exit.inBlock,Exit.then])
   refine bodyPost_ret (v:=.tuple #[.int .i64 (ttl z (s.take j)),.bool true]) (by simp[results,Tryz.results64,go_sem]) rfl ?_;rw[A.out];exact⟨rfl,by first|rfl|trivial⟩
  have D:j<s.length:=by rw[<-HN.out];exact hjn
  obtain⟨g,q,rfl,_,hc⟩:=HR.out j D;obtain⟨x,hx⟩:∃x,x=s[j]:=⟨_,rfl⟩;have r:=HS.out s[j] (List.getElem_mem D);rw[<-hx]at hc r;have ad:=r.1;have ae:=r.2;have E:x.toNat<z.length:=by rw[<-HM.out];omega
  obtain⟨g2,q2,rfl,_,aa⟩:=HZ.out x.toNat E;obtain⟨y,t⟩:∃y,y=z[x.toNat]:=⟨_,rfl⟩;rw[<-t]at aa;have ah:0<=y:=by rw[t];exact o.out.1 _ (List.getElem_mem E)
  have HX:Hid (x=s[j]):=hx;have G:ttl z (s.take (j+1))=ttl z (s.take j)+y:=by
   rw[y7i z s j D,<-HX.out,List.getD_eq_getElem?_getD,List.getElem?_eq_getElem E,t];rfl
  have af:ttl z (s.take (j+1))<=8192:=Int.le_trans (y7h o.out.1 s (j+1)) o.out.2;have ag:0<=ttl z (s.take j):=Bg o.out.1 _;have A:=hid G;obtain⟨k,rfl⟩:∃k:Nat,x=(k:Int):=⟨x.toNat,by omega⟩;rw[Int.toNat_natCast]at aa;obtain⟨u,I⟩:∃u,u=ttl z (s.take j):=⟨_,rfl⟩;rw[<-I]at ag G ⊢;have HU:=hid I;rw[G]at af;have HB:=hid (z7J (m:Int) (k:Int) ad ae);have a0:decide ((j:Int)<(n:Int))=true:=by simp;omega
  have a1:decide (j<n)=true:=by simp;omega
  have ai:(j:Int)<(n:Int):=by omega
  have aj:k<m:=by omega
  have ak:IntKind.i64.wrap (u+y)=u+y:=by rw[IntKind.wrap_i64];omega
  have a2:decide ((8192:Int)<u+y)=false:=by simp;omega
  have al:IntKind.i64.wrap ((j:Int)+1)=(j:Int)+1:=by rw[IntKind.wrap_i64];omega
  clear I hx t r
  go_wp2_with fail
  refine(HB.out _).mono ?_;rintro e w1 ⟨rfl,rfl⟩
  go_wp2_with fail
  go_roundw
  case rel=>exact⟨j+1,by rw[A.out,<-HU.out],by simp,by omega,by first|rfl|trivial⟩
  case measure=>simp[intOf];omega
def OpM(W:World)(g q:Nat)(o:Ox):Prop:=∃so cap,(W.cell? ⟨g,q,none⟩=some (.int .i64 o.1)/\W.cell? ⟨g,q+1,none⟩=some (.string o.2.1)/\W.cell? ⟨g,q+2,none⟩=some (.int .u64 o.2.2.1.1)/\W.cell? ⟨g,q+3,none⟩=some (.int .u64 o.2.2.1.2.1)/\W.cell? ⟨g,q+4,none⟩=some (.int .u64 o.2.2.1.2.2.1)/\W.cell? ⟨g,q+5,none⟩=some (.int .u64 o.2.2.1.2.2.2)/\W.cell? ⟨g,q+6,none⟩=some (.slice so o.2.2.2.length cap))/\o.2.2.2.length<=1048576/\RwC W (· <W.heap.size) so o.2.2.2
structure PgM (ops:List Ox) (ns:List ByteArray) (ro:List Int) (oso nso rso:Option Addr) (W:World):Prop where
 l2:ops.length<=200
 l6:ns.length<=64
 lr:ro.length=ns.length
 o:∀i (hi:i<ops.length),∃g,oso=some ⟨g,0,none⟩/\g<W.heap.size/\OpM W g (i*7) ops[i]
 n:∀i (hi:i<ns.length),∃g,nso=some ⟨g,0,none⟩/\g<W.heap.size/\W.cell? ⟨g,i,none⟩=some (.string ns[i])
 r:∀i (hi:i<ro.length),∃g,rso=some ⟨g,0,none⟩/\g<W.heap.size/\W.cell? ⟨g,i,none⟩=some (.int .i64 ro[i])
theorem OpM.below{W':World}{g q:Nat}{o:Ox}(h:OpM W g q o)(y:g<W.heap.size)(r:Below W.heap.size W W'):OpM W' g q o:=by
 obtain⟨A,D,⟨c0,c1,c2,c3,E,G,I⟩,hl,U⟩:=h;have k:∀(j:Nat) (u:Value),W.cell? ⟨g,j,none⟩=some u->W'.cell? ⟨g,j,none⟩=some u:=fun j u V=>(r.cell (p:=⟨g,j,none⟩) y).trans V
 exact⟨A,D,⟨k _ _ c0,k _ _ c1,k _ _ c2,k _ _ c3,k _ _ E,k _ _ G,k _ _ I⟩,hl,U.keep fun b t=>⟨Nat.lt_of_lt_of_le t r.size,r.block b t⟩⟩
theorem PgM.below{ops:List Ox}{ns:List ByteArray}{ro:List Int}{oso nso rso:Option Addr}{W W':World}(h:PgM ops ns ro oso nso rso W)(y:Below W.heap.size W W'):PgM ops ns ro oso nso rso W':=by
 refine⟨h.l2,h.l6,h.lr,fun i A=> ?_,fun i A=> ?_,fun i A=> ?_⟩
 ·obtain⟨g,e,t,D⟩:=h.o i A
  exact⟨g,e,Nat.lt_of_lt_of_le t y.size,D.below t y⟩
 ·obtain⟨g,e,t,D⟩:=h.n i A
  exact⟨g,e,Nat.lt_of_lt_of_le t y.size,(y.cell (p:=⟨g,i,none⟩) t).trans D⟩
 ·obtain⟨g,e,t,D⟩:=h.r i A
  exact⟨g,e,Nat.lt_of_lt_of_le t y.size,(y.cell (p:=⟨g,i,none⟩) t).trans D⟩
theorem PgM.roots{ops:List Ox}{ns:List ByteArray}{ro:List Int}{oso nso rso:Option Addr}(h:PgM ops ns ro oso nso rso W):RwC W (· <W.heap.size) rso ro:=fun j o=>by
 obtain⟨g,e,t,y⟩:=h.r j o;exact⟨g,0,e,t,by rw[Nat.zero_add];exact y⟩
def PgZ(rs:List Rr)(X:Option (Int ⊕ (Int×Int)))(W:World)(e:Ending)(w':World):Prop:=∃oso ol oc nso nl nc rso rl rc ev,e=.returned (.tuple #[.agg #[.slice oso ol oc,.slice nso nl nc,.slice rso rl rc],ev])/\Hid (Below W.heap.size W w')/\
 ((∃tt uu,ev=.iface tt uu/\oso=none/\ol=0/\oc=0/\nso=none/\nl=0/\nc=0/\rso=none/\rl=0/\rc=0/\(soZ rs X≠none∨200<(pgG rs).2.length))∨(ev=.nilIface/\Hid (ol=(pgG rs).2.length/\nl=rs.length/\rl=rs.length/\ol<=oc/\Snd rs/\PrG rs/\PgM (pgG rs).2 (nmL rs) (pgG rs).1 oso nso rso w')))
theorem z0W(D:Option Addr)(n G:Nat)(rs:List Rr)(X:Option (Int ⊕ (Int×Int)))(B:Nat)(fp:Addr)(w:World)(hX:CkX rs X)(I:X=none->PrG rs)(hC:CkC D n G rs X w)(hz:RgZ rs)(hu:RgU rs)(h:Qf w B D n rs)(hB:B<=w.heap.size)(hT:TabIs w)(hF:w.cell? ⟨1,0,none⟩=some (.iface 363 (.pointer (some fp))))(ad:Xp w)(W:World)(hW:Below w.heap.size w W):
  Calls prog 15 #[.agg #[.slice D n G]] W (PgZ rs X W):=by
 refine(y6o D n G rs X B fp w hX I hC hz hu h hB hT hF ad W hW).mono fun e w' he=> ?_
 obtain⟨U,⟨y,tt,uu,rfl⟩|⟨_,y,rfl⟩|⟨y,hl,Q,v,vn,vr,xs,B2,rfl,am,V,ae,hq,hn,hr⟩⟩:=he
 ·exact⟨_,_,_,_,_,_,_,_,_,_,rfl,U,.inl ⟨tt,uu,rfl,rfl,rfl,rfl,rfl,rfl,rfl,rfl,rfl,rfl,.inl y⟩⟩
 ·exact⟨_,_,_,_,_,_,_,_,_,_,rfl,U,.inl ⟨_,_,rfl,rfl,rfl,rfl,rfl,rfl,rfl,rfl,rfl,rfl,.inr y⟩⟩
 ·have Y:soZ rs X=none:=Classical.not_not.1 y
  obtain rfl:X=none:=by
   cases X with
   |none=>rfl
   |some x=>unfold soZ at Y;cases Y
  obtain⟨Z,aa,_⟩:=hX;have ab:=(Gc Z).2;obtain⟨_,h2,h3⟩:=z6z Z aa (I rfl) hz hu;obtain⟨oso,oc,ev⟩:=Ub V;obtain⟨nso,nc,en⟩:=Ub hn;obtain⟨rso,rc,er⟩:=Ub hr;have ac:(pgG rs).1.length=rs.length:=(Uv (fun T=>fdI T (nmL rs)) rs []).2.1.1;refine⟨oso,_,oc,nso,_,nc,rso,_,rc,_,by rw[ev,en,er];rfl,U,.inr ⟨rfl,hid ⟨rfl,rfl,rfl,y6x V ev,⟨Z,aa,Y,fun x hx=>(h2 x hx).1,h3,ab⟩,I rfl,hl,by rw[Um];exact ab,by rw[Um];exact ac,fun i t=> ?_,fun i t=> ?_,fun i t=> ?_⟩⟩⟩
  ·obtain⟨g,c,o,_,A,r⟩:=Lv V (Nat.lt_of_le_of_lt (Nat.zero_le i) t)
   rw[ev]at o;injection o with o _ _
   obtain⟨cs,⟨af,ag,ah,ai,aj⟩,hx⟩:=ae i t;subst ah;exact⟨g,o,A,af,ag,⟨r (i*7) _ (hx 0 _ rfl),r (i*7+1) _ (hx 1 _ rfl),r (i*7+2) _ (hx 2 _ rfl),r (i*7+3) _ (hx 3 _ rfl),r (i*7+4) _ (hx 4 _ rfl),r (i*7+5) _ (hx 5 _ rfl),r (i*7+6) _ (hx 6 _ rfl)⟩,ai,aj.keep fun b ak=>⟨hq b ak,rfl⟩⟩
  ·have E:i<rs.length:=by rw[Um]at t;exact t
   obtain⟨g,c,o,_,A,r⟩:=Lv hn (Nat.lt_of_le_of_lt (Nat.zero_le i) E);rw[en]at o;injection o with o _ _
   refine⟨g,o,A,r i _ ?_⟩;have al:(nmL rs)[i]=rs[i].1:=List.getElem_map ..;rw[al];unfold nS;rw[List.getElem?_map,List.getElem?_eq_getElem E];rfl
  ·have E:i<rs.length:=by rw[ac]at t;exact t
   obtain⟨g,c,o,_,A,r⟩:=Lv hr (Nat.lt_of_le_of_lt (Nat.zero_le i) E);rw[er]at o;injection o with o _ _
   refine⟨g,o,A,r i _ ?_⟩;unfold nI;rw[List.getElem?_map];show((pgG rs).1[i]?).map _=_;rw[List.getElem?_eq_getElem t];rfl
theorem y7j(N:ByteArray)(h:N.size<=32)(w:World):Calls prog 62 #[.string N] w fun e w'=>e=.returned (.bool false)/\w'=w:=by
 have o:decide ((32:Int)<(N.size:Int))=false:=by simp;omega
 go_enter func62,ntmps62
 go_wp2_with fail
 go_ret;exact⟨rfl,rfl⟩
theorem y7k(nso:Option Addr)(n nc:Nat)(ns:List ByteArray)(o:n=ns.length)(V:n<=64)(w:World)(h:∀i (Y:i<ns.length),∃g,nso=some ⟨g,0,none⟩/\g<w.heap.size/\w.cell? ⟨g,i,none⟩=some (.string ns[i]))(r:∀x∈ns,x.size<=32):
  Calls prog 99 #[.slice nso n nc,.func (.func 62) #[] #[]] w fun e w'=>e=.returned (.int .i64 (-1))/\w'=w:=by
 have A:Hid (n=ns.length):=o;have D:=hid h;have E:=hid r;clear o h r;go_enter func99,ntmps99
 go_wp2_with fail
 go_loopw [8] (fun i wr=>∃j:Nat,i=.int .i64 j/\j<=n/\wr=w) (fun i _=>n-(intOf i).toNat)
 case atStart=>exact⟨0,rfl,Nat.zero_le _,rfl⟩
 case round=>
  obtain⟨j,rfl,Z,rfl⟩:=hrel;by_cases hjn:j<n
  rotate_left
  ·have G:decide ((j:Int)<(n:Int))=false:=by simp;omega
   have a1:decide (j<n)=false:=by simp;omega
   go_wp2_with fail
   (try simp only[Exit.inBlock,Exit.then])
   go_ret;exact⟨rfl,by first|rfl|trivial⟩
  have t:j<ns.length:=by rw[<-A.out];exact hjn
  obtain⟨g,rfl,hg,I⟩:=D.out j t;obtain⟨x,hx⟩:∃x,x=ns[j]:=⟨_,rfl⟩;have y:=E.out ns[j] (List.getElem_mem t);rw[<-hx]at I y;have U:=hid (y7j x y);have G:decide ((j:Int)<(n:Int))=true:=by simp;omega
  have a1:decide (j<n)=true:=by simp;omega
  have aa:(j:Int)<(n:Int):=by omega
  have ab:IntKind.i64.wrap ((j:Int)+1)=(j:Int)+1:=by rw[IntKind.wrap_i64];omega
  clear hx
  go_wp2_with fail
  refine(U.out _).mono ?_;rintro e w1 ⟨rfl,rfl⟩
  go_wp2_with fail
  go_roundw
  case rel=>exact⟨j+1,by simp,by omega,by first|rfl|trivial⟩
  case measure=>simp[intOf];omega
theorem y7l(nso:Option Addr)(n nc:Nat)(ns:List ByteArray)(o:n=ns.length)(r:n<=64)(w:World)(h:∀i (A:i<ns.length),∃g,nso=some ⟨g,0,none⟩/\g<w.heap.size/\w.cell? ⟨g,i,none⟩=some (.string ns[i]))(t:∀x∈ns,x.size<=32):
  Calls prog 61 #[.slice nso n nc,.func (.func 62) #[] #[]] w fun e w'=>e=.returned (.bool false)/\w'=w:=by
 have y:=hid (y7k nso n nc ns o r w h t);clear o r h t;go_enter func61,ntmps61
 go_wp2_with fail
 refine y.out.mono ?_;rintro e D ⟨rfl,rfl⟩
 go_wp2_with fail
 go_ret;exact⟨rfl,rfl⟩
def szO(z:List Int)(o:Ox):Int:=if o.1=5 then 1 else 1+(o.2.1.size:Int)+ttl z o.2.2.2
theorem y7m(M:ByteArray)(a b c d r:Int)(o G:Option Addr)(t m I:Nat)(k:Int)(w:World)(h:RwC w (· <w.heap.size) o [r])(y:0<=r)(A:r<k):
  Calls prog 63 #[.agg #[.int .i64 5,.string M,.int .u64 a,.int .u64 b,.int .u64 c,.int .u64 d,.slice o 1 t],.slice G m I,.int .i64 k] w fun e w'=>e=.returned (.tuple #[.int .i64 1,.bool true])/\Below w.heap.size w w':=by
 obtain⟨g,q,rfl,D,E⟩:=h 0 (by simp);have E:w.cell? ⟨g,q,none⟩=some (.int .i64 r):=E;have D:g<w.heap.size:=D;have Y:g<w.heap.size+1:=by omega
 have U:=hid (z7J k r y A);have V:Hid (Below w.heap.size w (w.alloc (.cells #[.int .i64 5,.string M,.int .u64 a,.int .u64 b,.int .u64 c,.int .u64 d,.slice (some ⟨g,q,none⟩) 1 t] 56))):=(Below.refl _ w).alloc L0q _;clear h y A;go_enter func63,ntmps63
 go_wp2_with fail
 refine(U.out _).mono ?_;rintro e Z ⟨rfl,rfl⟩
 go_wp2_with fail
 refine bodyPost_ret (v:=.tuple #[.int .i64 1,.bool true]) (by simp[results,Tryz.results63,go_sem]) rfl ?_;exact⟨rfl,V.out⟩
theorem y7n(kd:Int)(M:ByteArray)(a b c d:Int)(r y:Option Addr)(n A m I:Nat)(s z:List Int)(k:Int)(w:World)(h5:kd≠5)(U:n=s.length)(V:m=z.length)(h:RwC w (· <w.heap.size) r s)(P2:Nat->Prop)(Y:RwC w (fun b=>b<w.heap.size) y z)(D:∀x∈z,0<=x)(Z:∀x∈s,0<=x/\x<(m:Int))(ht:ttl z s<=8192)(hl:n<=1048576)(hM:M.size<=1073741824):
  Calls prog 63 #[.agg #[.int .i64 kd,.string M,.int .u64 a,.int .u64 b,.int .u64 c,.int .u64 d,.slice r n A],.slice y m I,.int .i64 k] w fun e w'=>e=.returned (.tuple #[.int .i64 (1+(M.size:Int)+ttl z s),.bool true])/\Below w.heap.size w w':=by
 obtain⟨W,E⟩:∃W,W=w.alloc (.cells #[.int .i64 kd,.string M,.int .u64 a,.int .u64 b,.int .u64 c,.int .u64 d,.slice r n A] 56):=⟨_,rfl⟩;have o:Below w.heap.size w W:=by rw[E];exact(Below.refl _ w).alloc L0q _
 have HB:Hid (Below w.heap.size w W):=o;have G:=hid (z7K r y A I n m s z U V (· <W.heap.size) (· <W.heap.size) W (h.keep fun x hx=>⟨Nat.lt_of_lt_of_le hx o.size,o.block x hx⟩) (Y.keep fun x hx=>⟨Nat.lt_of_lt_of_le hx o.size,o.block x hx⟩) D Z ht hl);have h0:=Bg D s;obtain⟨u,hu⟩:∃u,u=ttl z s:=⟨_,rfl⟩;rw[<-hu]at G h0 ht ⊢;have a0:(kd == 5)=false:=by simpa using h5
 have aa:IntKind.i64.wrap (1+(M.size:Int))=1+(M.size:Int):=by rw[IntKind.wrap_i64];omega
 have ab:IntKind.i64.wrap (1+(M.size:Int)+u)=1+(M.size:Int)+u:=by rw[IntKind.wrap_i64];omega
 have t:=hid E;clear U V h Y D Z E o hu;go_enter func63,ntmps63
 go_wp2_with fail
 rw[<-t.out];refine G.out.mono ?_;rintro e w1 ⟨rfl,hw⟩;rw[hw,t.out];rw[t.out]at HB;clear hw t G
 go_wp2_with fail
 refine bodyPost_ret (v:=.tuple #[.int .i64 (1+(M.size:Int)+u),.bool true]) (by simp[results,Tryz.results63,go_sem]) rfl ?_;exact⟨rfl,HB.out⟩
def zsF(z:List Int):List Ox->List Int
 |[]=>z
 |o::r=>zsF (z++[szO z o]) r
theorem z0X(b:List Ox):∀(a:List Ox) (z:List Int),zsF z (a++b)=zsF (zsF z a) b
 |[],z=>by rw[List.nil_append,zsF]
 |o::r,z=>by rw[List.cons_append,zsF,zsF,z0X b r]
theorem Oz:∀(a:List Ox) (z:List Int),(zsF z a).length=z.length+a.length
 |[],z=>by rw[zsF];rfl
 |o::r,z=>by rw[zsF,Oz r,List.length_append,List.length_cons,List.length_cons,List.length_nil];omega
theorem z7L(ops:List Ox)(j:Nat)(h:j<ops.length):zsF [] (ops.take (j+1))=zsF [] (ops.take j)++[szO (zsF [] (ops.take j)) ops[j]]:=by
 rw[List.take_succ_eq_append_getElem h,z0X,zsF,zsF]
theorem y7o{z:List Int}(h:∀x∈z,0<=x)(o:Ox):1<=szO z o:=by
 unfold szO;split
 ·exact Int.le_refl _
 ·have:=Bg h o.2.2.2
  omega
theorem z0Y:∀(a:List Ox) (z:List Int),(∀x∈z,0<=x)->∀x∈zsF z a,0<=x
 |[],z,h=>by rw[zsF];exact h
 |o::r,z,h=>by
  rw[zsF];refine z0Y r _ fun x hx=> ?_
  rcases List.mem_append.1 hx with hx|hx
  ·exact h x hx
  ·obtain rfl:x=szO z o:=by simpa using hx
   have:=y7o h o;omega
structure Unf (ops:List Ox) (ns:List ByteArray) (ro:List Int):Prop where
 rf:∀i (hi:i<ops.length),ops[i].1=5->∃r,ops[i].2.2.2=[r]/\0<=r/\r<(ns.length:Int)
 ot:∀i (hi:i<ops.length),ops[i].1≠5->(∀x∈ops[i].2.2.2,0<=x/\x<(i:Int))/\ttl (zsF [] (ops.take i)) ops[i].2.2.2<=8192
 tx:∀i (hi:i<ops.length),ops[i].2.1.size<=1073741824
 rt:∀x∈ro,0<=x/\x<(ops.length:Int)
 tt:ttl (zsF [] ops) ro<=8192
 nm:∀x∈ns,x.size<=32
theorem z7M{B n:Nat}{v:Value}{s:List Int}{o:Option Addr}{r:Nat}(h:W.ownsRow B 3 1 v n (nI s))(E:n=s.length)(t:v=.slice o n r):RwC W (· <W.heap.size) o s:=fun j y=>by
 obtain⟨g,c,e,_,A,D⟩:=Lv h (by omega);rw[t]at e;injection e with e _ _
 refine⟨g,0,e,A,?_⟩;rw[Nat.zero_add];refine D j _ ?_;unfold nI;rw[List.getElem?_map,List.getElem?_eq_getElem y];rfl
theorem y7p(z:List Int)(o:Ox)(m:Nat)(k:Int)(t y:Option Addr)(A D:Nat)(w:World)(I:m=z.length)(U:o.1=5->∃r,o.2.2.2=[r]/\0<=r/\r<k)(G:o.1≠5->(∀x∈o.2.2.2,0<=x/\x<(m:Int))/\ttl z o.2.2.2<=8192)(V:o.2.1.size<=1073741824)(Y:∀x∈z,0<=x)(hl:o.2.2.2.length<=1048576)(h:RwC w (· <w.heap.size) t o.2.2.2)(Z:RwC w (· <w.heap.size) y z):
  Calls prog 63 #[.agg #[.int .i64 o.1,.string o.2.1,.int .u64 o.2.2.1.1,.int .u64 o.2.2.1.2.1,.int .u64 o.2.2.1.2.2.1,.int .u64 o.2.2.1.2.2.2,.slice t o.2.2.2.length A],.slice y m D,.int .i64 k] w fun e w'=>e=.returned (.tuple #[.int .i64 (szO z o),.bool true])/\Below w.heap.size w w':=by
 obtain⟨kd,M,⟨a,b,c,d⟩,s⟩:=o;unfold szO;by_cases h5:kd=5
 ·subst h5
  obtain⟨r,E,h0,h1⟩:=U rfl;have E:s=[r]:=E;subst E;exact y7m M a b c d r t y A m D k w h h0 h1
 ·rw[if_neg h5]
  exact y7n kd M a b c d t y _ A m D s z k w h5 rfl I h (fun _=>True) Z Y (G h5).1 (G h5).2 hl V
theorem z7N(ops:List Ox)(ns:List ByteArray)(ro:List Int)(oso nso rso:Option Addr)(r oc nl nc t rc:Nat)(w:World)(ae:r=ops.length)(I:nl=ns.length)(af:t=ro.length)(h:PgM ops ns ro oso nso rso w)(hu:Unf ops ns ro):
  Calls prog 36 #[.agg #[.slice oso r oc,.slice nso nl nc,.slice rso t rc]] w fun e w'=>e=.returned (.bool true)/\Below w.heap.size w w':=by
 obtain⟨iT,aD,aE,aF,aG⟩:=info_parts Tryz.infoInt;obtain rfl:t=nl:=by rw[af,I];exact h.lr
 obtain⟨W,U⟩:∃W,W=w.alloc (.cells #[.slice oso r oc,.slice nso t nc,.slice rso t rc] 26):=⟨_,rfl⟩;obtain⟨p,hp⟩:∃p,p=w.heap.size:=⟨_,rfl⟩;have A:Below w.heap.size w W:=by rw[U];exact(Below.refl _ w).alloc L0q _
 have E:W.heap[p]? =some (.cells #[.slice oso r oc,.slice nso t nc,.slice rso t rc] 26):=by rw[U,hp];exact Qx w _ rfl
 have am:W.heap.size=p+1:=by rw[U,hp];simp
 have hM:=h.below A;have g0:W.cell? ⟨p,0,none⟩=some (.slice oso r oc):=(Qj E 0 _ rfl).1;have g1:W.cell? ⟨p,1,none⟩=some (.slice nso t nc):=(Qj E 1 _ rfl).1;have g2:W.cell? ⟨p,2,none⟩=some (.slice rso t rc):=(Qj E 2 _ rfl).1;have l0:=Qq E;have aT:r<=200:=by rw[ae];exact h.l2
 have aH:t<=64:=by rw[I];exact h.l6
 have HC:=hid (y7l nso t nc ns I aH W hM.n hu.nm);have ao:Hid (Below w.heap.size w W):=A;have HM:=hid hM;have G:=hid hu;have ab:Hid (r=ops.length):=ae;have aI:Hid (t=ns.length):=I;have aJ:Hid (t=ro.length):=af;have ap:=hid E;have aq:=hid am;have HW:=hid U;have Hp:=hid hp;have a0:decide ((200:Int)<(r:Int))=false:=by simp;omega
 have a1:decide ((64:Int)<(t:Int))=false:=by simp;omega
 clear U hp A E am hM h hu ae I af;go_enter func36,ntmps36
 go_wp2_with fail
 rw[<-HW.out,<-Hp.out];refine HC.out.mono ?_;rintro e w1 ⟨rfl,ar⟩;rw[ar];clear ar HC HW
 go_wp2_with fail
 clear g0 g1 g2 l0 a0 a1
 go_loopw [3,35] (fun v i wr=>∃j:Nat,i=.int .i64 j/\j<=r/\Hid (Below W.heap.size W wr)/\Hid (wr.ownsRow (p+1) 3 1 v j (nI (zsF [] (ops.take j))))) (fun _ i _=>r-(intOf i).toNat)
 case atStart=>exact⟨0,rfl,Nat.zero_le _,hid B0q,hid (World.ownsRow_nil _ _ _ _)⟩
 case round=>
  obtain⟨j,rfl,hj,D,V⟩:=hrel;have ac:=hid ((D.out.block _ (Qq ap.out)).trans ap.out);have g0:wr.cell? ⟨p,0,none⟩=some (.slice oso r oc):=(Qj ac.out 0 _ rfl).1;have g1:wr.cell? ⟨p,1,none⟩=some (.slice nso t nc):=(Qj ac.out 1 _ rfl).1;have g2:wr.cell? ⟨p,2,none⟩=some (.slice rso t rc):=(Qj ac.out 2 _ rfl).1;have lp:=Qq ac.out;obtain⟨au,av,hv⟩:=Ub V.out;have Y:(zsF [] (ops.take j)).length=j:=by rw[Oz,List.length_take,<-ab.out];simp;omega
  by_cases hjn:j<r
  rotate_left
  ·have a0:decide ((j:Int)<(r:Int))=false:=by simp;omega
   have a1:decide (j<r)=false:=by simp;omega
   obtain rfl:j=r:=by omega
   have ag:zsF [] (ops.take j)=zsF [] ops:=by rw[List.take_of_length_le (by rw[<-ab.out];omega)]
   have aw:=(HM.out.below D.out).roots;have HT:=hid (z7K rso au rc av t j ro (zsF [] ops) aJ.out (by rw[<-ag];exact Y.symm) _ _ wr aw (z7M V.out (by rw[Y]) hv|>fun h=>by rw[ag]at h;exact h) (z0Y _ _ (fun x hx=>by cases hx)) (fun x hx=>by have:=G.out.rt x hx;rw[<-ab.out]at this;exact this) G.out.tt (by omega));have aK:=hid (ao.out.trans (D.out.mono ao.out.size));subst hv;clear Y ag aw HM G
   go_wp2_with fail
   (try simp only[Exit.inBlock,Exit.then])
   refine HT.out.mono ?_;rintro e w5 ⟨rfl,ax⟩;rw[ax];clear ax
   go_wp2_with fail
   go_ret;exact⟨rfl,aK.out⟩
  have Z:j<ops.length:=by rw[<-ab.out];exact hjn
  obtain⟨g,rfl,hg,so,aL,⟨c0,c1,c2,c3,c4,c5,c6⟩,ah,ai⟩:=(HM.out.below D.out).o j Z;obtain⟨o,ho⟩:∃o,o=ops[j]:=⟨_,rfl⟩;have aj:=G.out.rf j Z;have ak:=G.out.ot j Z;have al:=G.out.tx j Z;rw[<-ho]at c0 c1 c2 c3 c4 c5 c6 ah ai aj ak al;have HS:=hid (fun(w':World) (A:Below wr.heap.size wr w')=>y7p (zsF [] (ops.take j)) o j (t:Int) so au aL av w' Y.symm (by rw[aI.out];exact aj) ak al (z0Y _ _ (fun x hx=>by cases hx)) ah (ai.keep fun b aa=>⟨Nat.lt_of_lt_of_le aa A.size,A.block b aa⟩) ((z7M V.out Y.symm hv).keep fun b aa=>⟨Nat.lt_of_lt_of_le aa A.size,A.block b aa⟩));have HZ:Hid (zsF [] (ops.take (j+1))=zsF [] (ops.take j)++[szO (zsF [] (ops.take j)) o]):=by rw[ho];exact z7L ops j Z
  obtain⟨y,hy⟩:∃y,y=szO (zsF [] (ops.take j)) o:=⟨_,rfl⟩;rw[<-hy]at HS HZ;obtain⟨sl,ay⟩:∃sl,sl=o.2.2.2.length:=⟨_,rfl⟩;rw[<-ay]at c6 HS;have a0:decide ((j:Int)<(r:Int))=true:=by simp;omega
  have a1:decide (j<r)=true:=by simp;omega
  have aU:(j:Int)<(r:Int):=by omega
  have aV:IntKind.i64.wrap ((j:Int)+1)=(j:Int)+1:=by rw[IntKind.wrap_i64];omega
  have aM:p+1<=wr.heap.size:=by have:=D.out.size;rw[aq.out]at this;exact this
  have aN:=hid aM;subst hv;clear ho hy ay aj ak al ai ah
  go_wp2_with fail
  refine(HS.out _ ((Below.refl _ wr).alloc L0q _)).mono ?_;rintro e w2 ⟨rfl,az⟩;have ad:Below wr.heap.size wr w2:=((Below.refl _ wr).alloc L0q _).trans (az.mono (by simp));have aO:=hid ad;have aA:=hid (Yf V.out ad);have aP:p+1<=w2.heap.size:=Nat.le_trans aN.out ad.size;have aW:=hid aP;clear az ad HS V c0 c1 c2 c3 c4 c5 c6
  go_wp2_with(first|(at_builtin;refine wpList_append_own _ rfl (.tmp 50) (.tmp 52) 24 rfl (p+1) 3 iT (.int .i64 0) 1 8 Tryz.underlying24 aD aE aF aG rfl (by decide) _ _ _ rfl (aA.out.alloc _) ⟨w2.heap.size,0,none⟩ 1 1 [.int .i64 y] rfl rfl (cell_one_new _ _ _) (by simp[Value.oneCell']) (by unfold maxLen;omega) (by omega) (by simp;omega) ?_;intro v3 w3 aB aC aQ))
  have aR:Hid (Below W.heap.size W w3):=by
   have h1:=(D.out.trans (aO.out.mono D.out.size));have h2:=h1.alloc h1.size (.cells #[.int .i64 y] 3);refine h2.grown aC (by have:=h1.size;simp;omega) (fun b e=> ?_);have:=(aA.out.lt b e).1;rw[aq.out];exact this
  have aS:Hid (w3.ownsRow (p+1) 3 1 v3 (j+1) (nI (zsF [] (ops.take (j+1))))):=by
   show w3.ownsRow _ _ _ _ _ _;rw[HZ.out];unfold nI;rw[List.map_append];exact aB
  clear aB aC aQ
  go_roundw
  case rel=>exact⟨j+1,by simp,by omega,aR,aS⟩
  case measure=>simp[intOf];omega
end Go.Proofs.YtgnkkgcgbeianaaGreatDoor
