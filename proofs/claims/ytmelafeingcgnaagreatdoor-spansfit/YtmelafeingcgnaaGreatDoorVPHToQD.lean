/- Lemmas for the last text. Conditions: those that each names. -/
import Derived.Test.YtmelafeingcgnaaGreatDoorVC10aToPF
import Derived.Test.YtmelafeingcgnaaGreatDoorVU15ToT11
set_option linter.unusedVariables false
set_option maxRecDepth 100000
set_option maxHeartbeats 16000000
namespace Go.Proofs.YtmelafeingcgnaaGreatDoor
open Go.Proofs.Tryz
open Go.RowKit Go.Shelf Go.Maps
variable {W:World}
mutual
def stT:RT->RT
 | .mk k T a b c d s _=>.mk k T a b c d (stL s) 0
def stL:List RT->List RT
 |[]=>[]
 |t::r=>stT t::stL r
end
def stR(x:Rr):Rr:=(x.1,stT x.2.1,0)
def stG(rs:List Rr):List Rr:=rs.map stR
theorem Wg:∀s:List RT,(stL s).length=s.length
 |[]=>rfl
 |t::r=>by rw[stL,List.length_cons,List.length_cons,Wg r]
theorem z5n:∀s:List RT,stL s=s.map stT
 |[]=>rfl
 |t::r=>by rw[stL,List.map_cons,z5n r]
theorem y4H(s:List RT):Qb (stL s)=Qb s:=by rw[Xg,Xg,Wg]
mutual
theorem z5o:∀t:RT,okT (stT t)=okT t
 | .mk k T a b c d s p=>by rw[stT,okT,okT,y4H,z5p s]
theorem z5p:∀s:List RT,okL (stL s)=okL s
 |[]=>by rw[stL]
 |t::r=>by rw[stL,okL,okL,z5o t,z5p r]
end
mutual
theorem z5q:∀t:RT,(rfT (stT t)).map (·.1)=(rfT t).map (·.1)
 | .mk k T a b c d s p=>by
   rw[stT,rfT,rfT];by_cases h:k=5
   ·rw[if_pos h,if_pos h];rfl
   ·rw[if_neg h,if_neg h];exact z5r s
theorem z5r:∀s:List RT,(rfL (stL s)).map (·.1)=(rfL s).map (·.1)
 |[]=>by rw[stL]
 |t::r=>by rw[stL,rfL,rfL,List.map_append,List.map_append,z5q t,z5r r]
end
mutual
theorem Dw(K:zA->Ot):∀t:RT,ofT K (stT t)=ofT K t
 | .mk k T a b c d s p=>by rw[stT,ofT,ofT,z5s K s,z5t K s,z5u K s]
theorem z5s(K:zA->Ot):∀(s:List RT) (x:Ot),ofS K x (stL s)=ofS K x s
 |[],x=>by rw[stL]
 |t::r,x=>by rw[stL,ofS,ofS,Dw K t,z5s K r]
theorem z5t(K:zA->Ot):∀(s:List RT) (x:Ot),ofA K x (stL s)=ofA K x s
 |[],x=>by rw[stL]
 |t::r,x=>by rw[stL,ofA,ofA,Dw K t,z5t K r]
theorem z5u(K:zA->Ot):∀s:List RT,ofH K (stL s)=ofH K s
 |[]=>by rw[stL]
 |t::r=>by rw[stL,ofH,ofH,Dw K t]
end
mutual
theorem z5v(K:zA->Ot):∀t:RT,flT K t=none->flT K (stT t)=none
 | .mk k T a b c d s p,h=>by
   rw[flT]at h;rw[stT,flT,z5u];by_cases e:(k=9∨k=10)/\(ofH K s).1=true
   ·rw[if_pos e]at h;cases h
   ·rw[if_neg e]at h ⊢;exact z5w K s h
theorem z5w(K:zA->Ot):∀s:List RT,flL K s=none->flL K (stL s)=none
 |[],_=>by rw[stL,flL]
 |t::r,h=>by
  rw[flL]at h;cases ht:flT K t with
  |some p=>rw[ht]at h;cases h
  |none=>
   rw[ht]at h;rw[stL,flL,z5v K t ht];exact z5w K r h
end
mutual
theorem z5x(K:zA->Ot):∀t:RT,fbT K (stT t)=fbT K t
 | .mk k T a b c d s p=>by rw[stT,fbT,fbT,z5y K _ s]
theorem z5y(K:zA->Ot)(h:Bool):∀s:List RT,fbL K h (stL s)=fbL K h s
 |[]=>by rw[stL]
 |t::r=>by rw[stL,fbL,fbL,z5x K t,Dw,z5y K h r]
end
mutual
theorem z5z:∀(t:RT) (n:Nd),Tq t n->Tq (stT t) n
 | .mk k T a b c d s p,.mk kd T' C s' p',h=>by
   rw[Tq]at h;rw[stT,Tq];exact⟨h.1,h.2.1,h.2.2.1,h.2.2.2.1,h.2.2.2.2.1,h.2.2.2.2.2.1,z5A s s' h.2.2.2.2.2.2⟩
theorem z5A:∀(s:List RT) (q:List Nd),TqL s q->TqL (stL s) q
 |[],[],_=>by rw[stL,TqL];trivial
 |[],_::_,h=>by simp[TqL]at h
 |_::_,[],h=>by simp[TqL]at h
 |t::r,n::q,h=>by
  rw[TqL]at h;rw[stL,TqL];exact⟨z5z t n h.1,z5A r q h.2⟩
end
mutual
theorem z5B(ix:zA->Int):∀(t:RT) (ops:List Ox),mkT ix (stT t) ops=mkT ix t ops
 | .mk k T a b c d s p,ops=>by rw[stT,mkT,mkT,z5C ix s ops]
theorem z5C(ix:zA->Int):∀(s:List RT) (ops:List Ox),mkL ix (stL s) ops=mkL ix s ops
 |[],ops=>by rw[stL]
 |t::r,ops=>by rw[stL,mkL,mkL,z5B ix t ops,z5C ix r]
end
mutual
theorem z5D:∀t:RT,RtU t->RtU (stT t)
 | .mk k T a b c d s p,h=>by
   rw[RtU]at h;rw[stT,RtU];exact⟨h.1,h.2.1,h.2.2.1,h.2.2.2.1,z5E s h.2.2.2.2⟩
theorem z5E:∀s:List RT,Xh s->Xh (stL s)
 |[],_=>by rw[stL,Xh];trivial
 |t::r,h=>by
  rw[Xh]at h;rw[stL,Xh];exact⟨z5D t h.1,z5E r h.2⟩
end
mutual
theorem z5F:∀t:RT,RtZ t->RtZ (stT t)
 | .mk k T a b c d s p,h=>by
   rw[RtZ]at h;rw[stT,RtZ];exact⟨h.1,z5G s h.2⟩
theorem z5G:∀s:List RT,Xb s->Xb (stL s)
 |[],_=>by rw[stL,Xb];trivial
 |t::r,h=>by
  rw[Xb]at h;rw[stL,Xb];exact⟨z5F t h.1,z5G r h.2⟩
end
theorem Ay(rs:List Rr):(stG rs).length=rs.length:=List.length_map _
theorem Af(rs:List Rr):nmL (stG rs)=nmL rs:=by
 unfold nmL stG;rw[List.map_map];rfl
theorem y4I{rs:List Rr}(h:okG rs=true):okG (stG rs)=true:=by
 unfold okG at h ⊢;simp only[Bool.and_eq_true,List.all_eq_true]at h ⊢;rw[Ay];refine⟨h.1,h.2.1,fun x hx=> ?_⟩;obtain⟨y,o,rfl⟩:=List.mem_map.1 hx;have:=h.2.2 y o;unfold okR at this ⊢;unfold stR;rw[z5o];exact this
theorem y4J{rs:List Rr}(h:ckR rs=none):ckR (stG rs)=none:=by
 refine z3A (by rw[Af];exact Sq h) fun x hx y r=> ?_
 obtain⟨z,A,rfl⟩:=List.mem_map.1 hx;rw[Af];have o:y.1∈(rfT (stT z.2.1)).map (·.1):=List.mem_map.2 ⟨y,r,rfl⟩;rw[z5q]at o;obtain⟨q,D,e⟩:=List.mem_map.1 o;rw[<-e];exact Iq h A q D
theorem z5H(K:zA->Ot):∀rs:List Rr,swp K (stG rs)=swp K rs
 |[]=>rfl
 |x::r=>by
  show Yy (swp K (stG r)) (stR x)=Yy (swp K r) x;rw[z5H K r];unfold Yy stR;rw[Dw]
theorem Wb(rs:List Rr):∀m,itr (stG rs) m=itr rs m
 |0=>rfl
 |m+1=>by rw[itr,itr,Wb rs m,z5H]
theorem y4K{K:zA->Ot}{rs:List Rr}:Xq K (stG rs)↔Xq K rs:=by
 constructor
 ·intro h x hx
  have:=h (stR x) (List.mem_map.2 ⟨x,hx,rfl⟩);unfold stR at this;rw[Dw]at this;exact this
 ·intro h x hx
  obtain⟨y,o,rfl⟩:=List.mem_map.1 hx;unfold stR;rw[Dw];exact h y o
theorem z5I(rs:List Rr):kG (stG rs)=kG rs:=by
 unfold kG;have e:(fun m=>Xq (itr (stG rs) m) (stG rs))=fun m=>Xq (itr rs m) rs:=by
  funext m;rw[Wb];exact propext y4K
 rw[e,Wb]
theorem y4L(rs:List Rr):bgU (stG rs)=bgU rs:=by
 unfold bgU;rw[z5I];unfold stG;rw[List.map_map];refine List.map_congr_left fun x _=> ?_
 show bgR (rs.map stR) (kG rs) (stR x)=_;unfold bgR;rw[show nmL (rs.map stR)=nmL rs from Af rs];unfold stR;rw[z5x]
theorem y4M{K:zA->Ot}{rs:List Rr}(h:flG K rs=none):flG K (stG rs)=none:=z4r fun x hx=>by
 obtain⟨y,o,rfl⟩:=List.mem_map.1 hx;exact z5v K _ (Hc h y o)
theorem y4N{rs:List Rr}(h:soZ rs none=none):soZ (stG rs) none=none:=by
 have r:=Tf h;have o:lfG rs=none:=by
  unfold soZ at h;simp only at h;have e:flX (kG rs) rs=none:=by unfold flX;rw[r];rfl
  rw[e]at h;cases e2:lfG rs with
  |none=>rfl
  |some p=>rw[e2]at h;cases h
 have y:lfG (stG rs)=none:=by
  unfold lfG at o ⊢;rw[Option.map_eq_none_iff]at o ⊢;rw[Ay];have e:bkB (stG rs)=bkB rs:=by
   funext i;unfold bkB;rw[y4L]
  rw[e];exact o
 unfold soZ;simp only;have e:flX (kG (stG rs)) (stG rs)=none:=by
  unfold flX;rw[z5I,y4M r];rfl
 rw[e,y];rfl
theorem z5J:∀{rs:List Rr} {ns:List Rl},TqR rs ns->TqR (stG rs) ns
 |[],[],h=>h
 |[],_::_,h=>h.elim
 |_::_,[],h=>h.elim
 |x::r,n::q,h=>by
  obtain⟨o,y,A⟩:=h;exact⟨o,z5z _ _ y,z5J A⟩
theorem z5K{rs:List Rr}(h:PrG rs):PrG (stG rs):=by
 obtain⟨o,ns,r,y⟩:=h;exact⟨y4I o,ns,z5J r,y⟩
theorem y4O{rs:List Rr}(h:RgU rs):RgU (stG rs):=fun x hx=>by
 obtain⟨y,o,rfl⟩:=List.mem_map.1 hx;exact z5D _ (h y o)
theorem z5L{rs:List Rr}(h:RgZ rs):RgZ (stG rs):=fun x hx=>by
 obtain⟨y,o,rfl⟩:=List.mem_map.1 hx;exact⟨(h y o).1,z5F _ (h y o).2⟩
theorem z5M(ix:zA->Int):∀(rs:List Rr) (ops:List Ox),mkG ix (stG rs) ops=mkG ix rs ops
 |[],ops=>rfl
 |x::r,ops=>by
  show mkG ix (stR x::stG r) ops=_;rw[mkG,mkG];unfold stR;rw[z5B,z5M ix r]
theorem Wh(rs:List Rr):pgG (stG rs)=pgG rs:=by
 unfold pgG;rw[Af,z5M]
mutual
def szT:RT->Nat
 | .mk k T _ _ _ _ s _=>if k=5 then 1 else 1+T.size+szL s
def szL:List RT->Nat
 |[]=>0
 |t::r=>szT t+szL r
end
def szG:List Rr->Nat
 |[]=>0
 |x::r=>szT x.2.1+szG r
theorem y4P(b:Nat):1<=(lq b).length:=by
 unfold lq
 repeat(split;(· simp))
 simp
theorem z5N(S:zA):∀n,n<=S.size->n+1<=(qp S n).length
 |0,_=>by simp[qp]
 |n+1,h=>by
  have:=z5N S n (by omega);rw[qp,List.length_append];cases hb:bt S n with
  |none=>have:=Yg hb;omega
  |some x=>have:=y4P x;simp only;omega
theorem y4Q(T:zA):T.size+2<=(qT T).size:=by
 show _<=(nb (qt T)).size;rw[Uc];unfold qt;have:=z5N T T.size L0q;simp;omega
mutual
theorem z5O:∀(t:RT) (n:Nd),Tq t n->Vk n->Wf Nmq n->szT t<=sz (pN qT cT n)
 | .mk k T a b c d s p,.mk kd T' C s' p',ht,hv,hw=>by
   have r:=z3J (.mk kd T' C s' p') hv hw;rw[Tq]at ht;obtain⟨rfl,rfl,_,_,_,_,h⟩:=ht;rw[Vk]at hv;rw[Wf]at hw;rw[szT];have o:({data:=#[]}:zA).size=0:=rfl;rcases hv.1 with⟨rfl,rfl,_,rfl⟩|⟨rfl,_,rfl⟩|⟨rfl,rfl,rfl⟩|⟨rfl,rfl,_,rfl⟩|⟨rfl,_,rfl⟩|⟨A,rfl,_,D⟩|⟨E,G,rfl,_,U⟩
   ·have:s=[]:=by
     cases s with
     |nil=>rfl
     |cons=>simp[TqL]at h
    subst this;rw[if_neg (by decide),o,szL];exact r
   ·have:s=[]:=by
     cases s with
     |nil=>rfl
     |cons=>simp[TqL]at h
    subst this;have:=y4Q T';rw[pN];simp[szL,sz];omega
   ·have:s=[]:=by
     cases s with
     |nil=>rfl
     |cons=>simp[TqL]at h
    subst this;rw[if_neg (by decide),o,szL];exact r
   ·have:s=[]:=by
     cases s with
     |nil=>rfl
     |cons=>simp[TqL]at h
    subst this;rw[if_neg (by decide),o,szL];exact r
   ·simpa using r
   ·have y:=Wm s s' h hv.2 hw.2.2.2
    rw[pN];rcases A with rfl|rfl
    ·have:=(y 6 bSp).1
     have e:bSp.size=1:=rfl;rw[e]at this;rw[if_neg (by decide),o];simp;omega
    ·have:=(y 7 bSl).1
     have e:bSl.size=3:=rfl;rw[e]at this;rw[if_neg (by decide),o];simp;omega
   ·have y:=(Wm s s' h hv.2 hw.2.2.2 kd bE).1
    have e:bE.size=0:=rfl;rw[e]at y;have V:1<=(bsg kd).size:=by
     rcases(by omega:kd=8∨kd=9∨kd=10∨kd=11∨kd=12)with rfl|rfl|rfl|rfl|rfl<;>decide
    rw[pN,if_neg (by omega),if_neg (by omega),if_neg (by omega),if_neg (by omega),if_neg (by omega),if_neg (by omega),if_neg (by omega)];rw[if_neg (by omega)];rw[o];by_cases h11:kd=11∨kd=12
    ·rw[if_pos h11,sz]
     omega
    ·rw[if_neg h11,Xv,sz,sz]
     omega
theorem Wm:∀(s:List RT) (q:List Nd),TqL s q->VkL q->WfL Nmq q->∀(y:Nat) (o:zA),(szL s+(q.length-1)*o.size<=sz (pS qT cT y o q))/\szL s+q.length*o.size<=sz (pB qT cT y o q)
 |[],[],_,_,_=>fun y o=>by rw[pS,pB,szL];simp[sz]
 |[],_::_,h,_,_=>by simp[TqL]at h
 |_::_,[],h,_,_=>by simp[TqL]at h
 |t::r,n::q,h,hv,hw=>fun y o=>by
  rw[TqL]at h;rw[VkL]at hv;rw[WfL]at hw;have A:=z5O t n h.1 hv.1 hw.1;have D:=(Wm r q h.2 hv.2 hw.2 y o).2;have E:szT t<=sz (if wr y n.kd=true then bO::(pN qT cT n++[bC])else pN qT cT n):=by
   split
   ·rw[sz,Xv];omega
   ·exact A
  rw[pS,pB,szL,sz,Xv];have e:(n::q).length-1=q.length:=rfl;rw[e,List.length_cons,Nat.succ_mul];omega
end
theorem z5P:∀(rs:List Rr) (ns:List Rl),TqR rs ns->(∀x∈ns,Ruk Nmq x)->szG rs<=sz (pR qT cT ns)
 |[],[],_,_=>Nat.zero_le _
 |[],_::_,h,_=>h.elim
 |_::_,[],h,_=>h.elim
 |x::r,n::q,h,hx=>by
  obtain⟨_,A,D⟩:=h;have o:=hx n (by simp);have G:=z5O _ _ A o.2.1 o.2.2;have U:=z5P r q D (fun y E=>hx y (by simp[E]));rw[szG,pR,sz,sz,Xv,sz];omega
theorem z5Q{rs:List Rr}(h:PrG rs):szG rs<=8192:=by
 obtain⟨_,ns,o,r,y,_⟩:=h;exact Nat.le_trans (z5P rs ns o r) y
theorem z5R(m n:Int)(h:0<=n)(o:n<m)(w:World):Calls prog 136 #[zI m,zI n] w fun e w'=>e=.returned (.bool true)/\w'=w:=by
 have r:decide ((0:Int)<=n)=true:=by simp[h]
 have a1:decide (n<m)=true:=by simp[o]
 go_enter func136,ntmps136
 go_wp2_with fail
 go_ret;exact⟨rfl,rfl⟩
def ttl(z:List Int):List Int->Int
 |[]=>0
 |x::r=>z.getD x.toNat 0+ttl z r
theorem Wp(z:List Int):∀a b:List Int,ttl z (a++b)=ttl z a+ttl z b
 |[],b=>by rw[List.nil_append,ttl,Int.zero_add]
 |x::r,b=>by rw[List.cons_append,ttl,ttl,Wp z r b,Int.add_assoc]
theorem Ag{z:List Int}(o:∀x∈z,0<=x):∀s:List Int,0<=ttl z s
 |[]=>Int.le_refl _
 |x::r=>by
  have A:=Ag o r;have D:0<=z.getD x.toNat 0:=by
   rw[List.getD_eq_getElem?_getD];cases h:z[x.toNat]? with
   |none=>simp
   |some y=>exact o y (List.mem_of_getElem? h)
  rw[ttl];omega
theorem y4R{z:List Int}(h:∀x∈z,0<=x)(s:List Int)(j:Nat):ttl z (s.take j)<=ttl z s:=by
 have o:=Wp z (s.take j) (s.drop j);rw[List.take_append_drop]at o;have:=Ag h (s.drop j);omega
theorem y4S(z s:List Int)(j:Nat)(h:j<s.length):ttl z (s.take (j+1))=ttl z (s.take j)+z.getD s[j].toNat 0:=by
 rw[List.take_succ_eq_append_getElem h,Wp,ttl,ttl,Int.add_zero]
theorem z5S(Y Z:Option Addr)(ab ac n m:Nat)(s z:List Int)(hn:n=s.length)(hm:m=z.length)(P P2:Nat->Prop)(w:World)(h:RwC w P Y s)(h2:RwC w P2 Z z)(hz:∀x∈z,0<=x)(hs:∀x∈s,0<=x/\x<(m:Int))(ht:ttl z s<=8192)(hl:n<=1048576):
  Calls prog 104 #[.slice Y n ab,.slice Z m ac] w fun e w'=>e=.returned (.tuple #[zI (ttl z s),.bool true])/\w'=w:=by
 have HN:Hid (n=s.length):=hn;have HM:Hid (m=z.length):=hm;have HR:=hid h;have HZ:=hid h2;have HS:=hid hs;have o:=hid (And.intro hz ht);clear hn hm h h2 hs hz ht;go_enter func104,ntmps104
 go_wp2_with fail
 go_loopw [6,11] (fun v i wr=>∃j:Nat,v=zI (ttl z (s.take j))/\i=zI (j:Int)/\j<=n/\wr=w) (fun _ i _=>n-(intOf i).toNat)
 case atStart=>exact⟨0,rfl,rfl,Nat.zero_le _,rfl⟩
 case round=>
  obtain⟨j,rfl,rfl,hj,rfl⟩:=hrel;by_cases hjn:j<n
  rotate_left
  ·have a0:decide ((j:Int)<(n:Int))=false:=by simp;omega
   have a1:decide (j<n)=false:=by simp;omega
   have D:Hid (ttl z (s.take j)=ttl z s):=by
    show _=_;rw[List.take_of_length_le (by rw[<-HN.out];omega)]
   go_wp2_with fail
   (try simp only[Exit.inBlock,Exit.then])
   refine bodyPost_ret (v:=.tuple #[zI (ttl z (s.take j)),.bool true]) (by simp[results,Tryz.results104,go_sem]) rfl ?_;rw[D.out];exact⟨rfl,by first|rfl|trivial⟩
  have E:j<s.length:=by rw[<-HN.out];exact hjn
  obtain⟨g,q,rfl,_,hc⟩:=HR.out j E;obtain⟨x,hx⟩:∃x,x=s[j]:=⟨_,rfl⟩;have r:=HS.out s[j] (List.getElem_mem E);rw[<-hx]at hc r;have ad:=r.1;have ae:=r.2;have G:x.toNat<z.length:=by rw[<-HM.out];omega
  obtain⟨g2,q2,rfl,_,aa⟩:=HZ.out x.toNat G;obtain⟨y,A⟩:∃y,y=z[x.toNat]:=⟨_,rfl⟩;rw[<-A]at aa;have ah:0<=y:=by rw[A];exact o.out.1 _ (List.getElem_mem G)
  have HX:Hid (x=s[j]):=hx;have U:ttl z (s.take (j+1))=ttl z (s.take j)+y:=by
   rw[y4S z s j E,<-HX.out,List.getD_eq_getElem?_getD,List.getElem?_eq_getElem G,A];rfl
  have af:ttl z (s.take (j+1))<=8192:=Int.le_trans (y4R o.out.1 s (j+1)) o.out.2;have ag:0<=ttl z (s.take j):=Ag o.out.1 _;have D:=hid U;obtain⟨k,rfl⟩:∃k:Nat,x=(k:Int):=⟨x.toNat,by omega⟩;rw[Int.toNat_natCast]at aa;obtain⟨u,V⟩:∃u,u=ttl z (s.take j):=⟨_,rfl⟩;rw[<-V]at ag U ⊢;have HU:=hid V;rw[U]at af;have HB:=hid (z5R (m:Int) (k:Int) ad ae);have a0:decide ((j:Int)<(n:Int))=true:=by simp;omega
  have a1:decide (j<n)=true:=by simp;omega
  have ai:(j:Int)<(n:Int):=by omega
  have aj:k<m:=by omega
  have ak:IntKind.i64.wrap (u+y)=u+y:=by rw[IntKind.wrap_i64];omega
  have a2:decide ((8192:Int)<u+y)=false:=by simp;omega
  have al:IntKind.i64.wrap ((j:Int)+1)=(j:Int)+1:=by rw[IntKind.wrap_i64];omega
  clear V hx A r
  go_wp2_with fail
  refine(HB.out _).mono ?_;rintro e w1 ⟨rfl,rfl⟩
  go_wp2_with fail
  go_roundw
  case rel=>exact⟨j+1,by rw[D.out,<-HU.out],by simp,by omega,by first|rfl|trivial⟩
  case measure=>simp[intOf];omega
def OpM(W:World)(g q:Nat)(o:Ox):Prop:=∃so cap,(W.cell? ⟨g,q,none⟩=some (zI o.1)/\W.cell? ⟨g,q+1,none⟩=some (zT o.2.1)/\W.cell? ⟨g,q+2,none⟩=some (zU o.2.2.1.1)/\W.cell? ⟨g,q+3,none⟩=some (zU o.2.2.1.2.1)/\W.cell? ⟨g,q+4,none⟩=some (zU o.2.2.1.2.2.1)/\W.cell? ⟨g,q+5,none⟩=some (zU o.2.2.1.2.2.2)/\W.cell? ⟨g,q+6,none⟩=some (.slice so o.2.2.2.length cap))/\o.2.2.2.length<=1048576/\RwC W (· <W.heap.size) so o.2.2.2
structure PgM (ops:List Ox) (ns:List ByteArray) (ro:List Int) (oso nso rso:Option Addr) (W:World):Prop where
 l2:ops.length<=200
 l6:ns.length<=64
 lr:ro.length=ns.length
 o:∀i (hi:i<ops.length),∃g,oso=some ⟨g,0,none⟩/\g<W.heap.size/\OpM W g (i*7) ops[i]
 n:∀i (hi:i<ns.length),∃g,nso=some ⟨g,0,none⟩/\g<W.heap.size/\W.cell? ⟨g,i,none⟩=some (zT ns[i])
 r:∀i (hi:i<ro.length),∃g,rso=some ⟨g,0,none⟩/\g<W.heap.size/\W.cell? ⟨g,i,none⟩=some (zI ro[i])
theorem OpM.below{W':World}{g q:Nat}{o:Ox}(h:OpM W g q o)(A:g<W.heap.size)(r:zB W W'):OpM W' g q o:=by
 obtain⟨D,E,⟨c0,c1,c2,c3,G,U,V⟩,hl,Y⟩:=h;have k:∀(j:Nat) (u:Value),zC W g j u->zC W' g j u:=fun j u Z=>(r.cell (p:=⟨g,j,none⟩) A).trans Z
 exact⟨D,E,⟨k _ _ c0,k _ _ c1,k _ _ c2,k _ _ c3,k _ _ G,k _ _ U,k _ _ V⟩,hl,Y.keep fun b y=>⟨Nat.lt_of_lt_of_le y r.size,r.block b y⟩⟩
theorem PgM.below{ops:List Ox}{ns:List ByteArray}{ro:List Int}{oso nso rso:Option Addr}{W W':World}(h:PgM ops ns ro oso nso rso W)(A:zB W W'):PgM ops ns ro oso nso rso W':=by
 refine⟨h.l2,h.l6,h.lr,fun i D=> ?_,fun i D=> ?_,fun i D=> ?_⟩
 ·obtain⟨g,e,y,E⟩:=h.o i D
  exact⟨g,e,Nat.lt_of_lt_of_le y A.size,E.below y A⟩
 ·obtain⟨g,e,y,E⟩:=h.n i D
  exact⟨g,e,Nat.lt_of_lt_of_le y A.size,(A.cell (p:=⟨g,i,none⟩) y).trans E⟩
 ·obtain⟨g,e,y,E⟩:=h.r i D
  exact⟨g,e,Nat.lt_of_lt_of_le y A.size,(A.cell (p:=⟨g,i,none⟩) y).trans E⟩
theorem PgM.roots{ops:List Ox}{ns:List ByteArray}{ro:List Int}{oso nso rso:Option Addr}(h:PgM ops ns ro oso nso rso W):RwC W (· <W.heap.size) rso ro:=fun j o=>by
 obtain⟨g,e,y,A⟩:=h.r j o;exact⟨g,0,e,y,by rw[Nat.zero_add];exact A⟩
def PgZ(rs:List Rr)(X:Option (Int ⊕ (Int×Int)))(W:World)(e:Ending)(w':World):Prop:=∃oso ol oc nso nl nc rso rl rc ev,e=.returned (.tuple #[.agg #[.slice oso ol oc,.slice nso nl nc,.slice rso rl rc],ev])/\Hid (zB W w')/\
 ((∃tt uu,ev=.iface tt uu/\oso=none/\ol=0/\oc=0/\nso=none/\nl=0/\nc=0/\rso=none/\rl=0/\rc=0/\(soZ rs X≠none∨200<(pgG rs).2.length))∨(ev=.nilIface/\Hid (ol=(pgG rs).2.length/\nl=rs.length/\rl=rs.length/\ol<=oc/\Snd rs/\PrG rs/\PgM (pgG rs).2 (nmL rs) (pgG rs).1 oso nso rso w')))
theorem Wc(E:Option Addr)(n U:Nat)(rs:List Rr)(X:Option (Int ⊕ (Int×Int)))(B:Nat)(fp:Addr)(w:World)(hX:CkX rs X)(V:X=none->PrG rs)(hC:CkC E n U rs X w)(hz:RgZ rs)(hu:RgU rs)(h:Qg w B E n rs)(hB:B<=w.heap.size)(hT:TabIs w)(hF:zC w (1) 0 (.iface 405 (.pointer (some fp))))(ae:Xm w)(W:World)(hW:zB w W):
  Calls prog 19 #[.agg #[.slice E n U]] W (PgZ rs X W):=by
 refine(y4r E n U rs X B fp w hX V hC hz hu h hB hT hF ae W hW).mono fun e w' he=> ?_
 obtain⟨Y,⟨A,tt,uu,rfl⟩|⟨_,A,rfl⟩|⟨A,hl,Q,v,vn,vr,xs,B2,rfl,ao,Z,af,hq,hn,hr⟩⟩:=he
 ·exact⟨_,_,_,_,_,_,_,_,_,_,rfl,Y,.inl ⟨tt,uu,rfl,rfl,rfl,rfl,rfl,rfl,rfl,rfl,rfl,rfl,.inl A⟩⟩
 ·exact⟨_,_,_,_,_,_,_,_,_,_,rfl,Y,.inl ⟨_,_,rfl,rfl,rfl,rfl,rfl,rfl,rfl,rfl,rfl,rfl,.inr A⟩⟩
 ·have e0:soZ rs X=none:=Classical.not_not.1 A
  obtain rfl:X=none:=by
   cases X with
   |none=>rfl
   |some x=>unfold soZ at e0;cases e0
  obtain⟨aa,ab,_⟩:=hX;have ac:=(Gz aa).2;obtain⟨_,h2,h3⟩:=z4W aa ab (V rfl) hz hu;obtain⟨oso,oc,ev⟩:=Ux Z;obtain⟨nso,nc,en⟩:=Ux hn;obtain⟨rso,rc,er⟩:=Ux hr;have ad:(pgG rs).1.length=rs.length:=(Vv (fun T=>fdI T (nmL rs)) rs []).2.1.1;refine⟨oso,_,oc,nso,_,nc,rso,_,rc,_,by rw[ev,en,er];rfl,Y,.inr ⟨rfl,hid ⟨rfl,rfl,rfl,Wk Z ev,⟨aa,ab,e0,fun x hx=>(h2 x hx).1,h3,ac⟩,V rfl,hl,by rw[Vj];exact ac,by rw[Vj];exact ad,fun i y=> ?_,fun i y=> ?_,fun i y=> ?_⟩⟩⟩
  ·obtain⟨g,c,o,_,D,r⟩:=Kg Z (Nat.lt_of_le_of_lt (Nat.zero_le i) y)
   rw[ev]at o;injection o with o _ _
   obtain⟨cs,⟨ag,ah,ai,aj,ak⟩,hx⟩:=af i y;subst ai;exact⟨g,o,D,ag,ah,⟨r (i*7) _ (hx 0 _ rfl),r (i*7+1) _ (hx 1 _ rfl),r (i*7+2) _ (hx 2 _ rfl),r (i*7+3) _ (hx 3 _ rfl),r (i*7+4) _ (hx 4 _ rfl),r (i*7+5) _ (hx 5 _ rfl),r (i*7+6) _ (hx 6 _ rfl)⟩,aj,ak.keep fun b al=>⟨hq b al,rfl⟩⟩
  ·have G:i<rs.length:=by rw[Vj]at y;exact y
   obtain⟨g,c,o,_,D,r⟩:=Kg hn (Nat.lt_of_le_of_lt (Nat.zero_le i) G);rw[en]at o;injection o with o _ _
   refine⟨g,o,D,r i _ ?_⟩;have am:(nmL rs)[i]=rs[i].1:=List.getElem_map ..;rw[am];unfold nS;rw[List.getElem?_map,List.getElem?_eq_getElem G];rfl
  ·have G:i<rs.length:=by rw[ad]at y;exact y
   obtain⟨g,c,o,_,D,r⟩:=Kg hr (Nat.lt_of_le_of_lt (Nat.zero_le i) G);rw[er]at o;injection o with o _ _
   refine⟨g,o,D,r i _ ?_⟩;unfold nI;rw[List.getElem?_map];show((pgG rs).1[i]?).map _=_;rw[List.getElem?_eq_getElem y];rfl
theorem y4T(N:zA)(h:N.size<=32)(w:World):Calls prog 102 #[zT N] w fun e w'=>e=.returned (.bool false)/\w'=w:=by
 have o:decide ((32:Int)<(N.size:Int))=false:=by simp;omega
 go_enter func102,ntmps102
 go_wp2_with fail
 go_ret;exact⟨rfl,rfl⟩
theorem y4U(nso:Option Addr)(n nc:Nat)(ns:List ByteArray)(o:n=ns.length)(Z:n<=64)(w:World)(h:∀i (hi:i<ns.length),∃g,nso=some ⟨g,0,none⟩/\g<w.heap.size/\zC w g i (zT ns[i]))(r:∀x∈ns,x.size<=32):
  Calls prog 135 #[.slice nso n nc,.func (.func 102) #[] #[]] w fun e w'=>e=.returned (zI (-1))/\w'=w:=by
 have D:Hid (n=ns.length):=o;have E:=hid h;have G:=hid r;clear o h r;go_enter func135,ntmps135
 go_wp2_with fail
 go_loopw [8] (fun i wr=>∃j:Nat,i=zI (j:Int)/\j<=n/\wr=w) (fun i _=>n-(intOf i).toNat)
 case atStart=>exact⟨0,rfl,Nat.zero_le _,rfl⟩
 case round=>
  obtain⟨j,rfl,hj,rfl⟩:=hrel;by_cases hjn:j<n
  rotate_left
  ·have U:decide ((j:Int)<(n:Int))=false:=by simp;omega
   have a1:decide (j<n)=false:=by simp;omega
   go_wp2_with fail
   (try simp only[Exit.inBlock,Exit.then])
   go_ret;exact⟨rfl,by first|rfl|trivial⟩
  have y:j<ns.length:=by rw[<-D.out];exact hjn
  obtain⟨g,rfl,hg,V⟩:=E.out j y;obtain⟨x,hx⟩:∃x,x=ns[j]:=⟨_,rfl⟩;have A:=G.out ns[j] (List.getElem_mem y);rw[<-hx]at V A;have Y:=hid (y4T x A);have U:decide ((j:Int)<(n:Int))=true:=by simp;omega
  have a1:decide (j<n)=true:=by simp;omega
  have aa:(j:Int)<(n:Int):=by omega
  have ab:IntKind.i64.wrap ((j:Int)+1)=(j:Int)+1:=by rw[IntKind.wrap_i64];omega
  clear hx
  go_wp2_with fail
  refine(Y.out _).mono ?_;rintro e w1 ⟨rfl,rfl⟩
  go_wp2_with fail
  go_roundw
  case rel=>exact⟨j+1,by simp,by omega,by first|rfl|trivial⟩
  case measure=>simp[intOf];omega
theorem y4V(nso:Option Addr)(n nc:Nat)(ns:List ByteArray)(o:n=ns.length)(r:n<=64)(w:World)(h:∀i (D:i<ns.length),∃g,nso=some ⟨g,0,none⟩/\g<w.heap.size/\zC w g i (zT ns[i]))(y:∀x∈ns,x.size<=32):
  Calls prog 101 #[.slice nso n nc,.func (.func 102) #[] #[]] w fun e w'=>e=.returned (.bool false)/\w'=w:=by
 have A:=hid (y4U nso n nc ns o r w h y);clear o r h y;go_enter func101,ntmps101
 go_wp2_with fail
 refine A.out.mono ?_;rintro e w1 ⟨rfl,rfl⟩
 go_wp2_with fail
 go_ret;exact⟨rfl,rfl⟩
def szO(z:List Int)(o:Ox):Int:=if o.1=5 then 1 else 1+(o.2.1.size:Int)+ttl z o.2.2.2
theorem y4W(M:zA)(a b c d r:Int)(o U:Option Addr)(y m V:Nat)(k:Int)(w:World)(h:RwC w (· <w.heap.size) o [r])(A:0<=r)(D:r<k):
  Calls prog 103 #[.agg #[zI 5,zT M,zU a,zU b,zU c,zU d,.slice o 1 y],.slice U m V,zI k] w fun e w'=>e=.returned (.tuple #[zI 1,.bool true])/\zB w w':=by
 obtain⟨g,q,rfl,E,G⟩:=h 0 (by simp);have G:zC w g q (zI r):=G;have E:g<w.heap.size:=E;have aa:g<w.heap.size+1:=by omega
 have Y:=hid (z5R k r A D);have Z:Hid (zB w (w.alloc (.cells #[zI 5,zT M,zU a,zU b,zU c,zU d,.slice (some ⟨g,q,none⟩) 1 y] 65))):=(Below.refl _ w).alloc L0q _;clear h A D;go_enter func103,ntmps103
 go_wp2_with fail
 refine(Y.out _).mono ?_;rintro e w1 ⟨rfl,rfl⟩
 go_wp2_with fail
 refine bodyPost_ret (v:=.tuple #[zI 1,.bool true]) (by simp[results,Tryz.results103,go_sem]) rfl ?_;exact⟨rfl,Z.out⟩
theorem y4X(kd:Int)(M:zA)(a b c d:Int)(r A:Option Addr)(n D m V:Nat)(s z:List Int)(k:Int)(w:World)(h5:kd≠5)(Y:n=s.length)(Z:m=z.length)(h:RwC w (· <w.heap.size) r s)(P2:Nat->Prop)(h2:RwC w (fun b=>b<w.heap.size) A z)(E:∀x∈z,0<=x)(hs:∀x∈s,0<=x/\x<(m:Int))(ht:ttl z s<=8192)(hl:n<=1048576)(hM:M.size<=1073741824):
  Calls prog 103 #[.agg #[zI kd,zT M,zU a,zU b,zU c,zU d,.slice r n D],.slice A m V,zI k] w fun e w'=>e=.returned (.tuple #[zI (1+(M.size:Int)+ttl z s),.bool true])/\zB w w':=by
 obtain⟨W,G⟩:∃W,W=w.alloc (.cells #[zI kd,zT M,zU a,zU b,zU c,zU d,.slice r n D] 65):=⟨_,rfl⟩;have o:zB w W:=by rw[G];exact(Below.refl _ w).alloc L0q _
 have HB:Hid (zB w W):=o;have U:=hid (z5S r A D V n m s z Y Z (· <W.heap.size) (· <W.heap.size) W (h.keep fun x hx=>⟨Nat.lt_of_lt_of_le hx o.size,o.block x hx⟩) (h2.keep fun x hx=>⟨Nat.lt_of_lt_of_le hx o.size,o.block x hx⟩) E hs ht hl);have h0:=Ag E s;obtain⟨u,hu⟩:∃u,u=ttl z s:=⟨_,rfl⟩;rw[<-hu]at U h0 ht ⊢;have a0:(kd == 5)=false:=by simpa using h5
 have aa:IntKind.i64.wrap (1+(M.size:Int))=1+(M.size:Int):=by rw[IntKind.wrap_i64];omega
 have ab:IntKind.i64.wrap (1+(M.size:Int)+u)=1+(M.size:Int)+u:=by rw[IntKind.wrap_i64];omega
 have y:=hid G;clear Y Z h h2 E hs G o hu;go_enter func103,ntmps103
 go_wp2_with fail
 rw[<-y.out];refine U.out.mono ?_;rintro e w1 ⟨rfl,hw⟩;rw[hw,y.out];rw[y.out]at HB;clear hw y U
 go_wp2_with fail
 refine bodyPost_ret (v:=.tuple #[zI (1+(M.size:Int)+u),.bool true]) (by simp[results,Tryz.results103,go_sem]) rfl ?_;exact⟨rfl,HB.out⟩
def zsF(z:List Int):List Ox->List Int
 |[]=>z
 |o::r=>zsF (z++[szO z o]) r
theorem Wl(b:List Ox):∀(a:List Ox) (z:List Int),zsF z (a++b)=zsF (zsF z a) b
 |[],z=>by rw[List.nil_append,zsF]
 |o::r,z=>by rw[List.cons_append,zsF,zsF,Wl b r]
theorem Ih:∀(a:List Ox) (z:List Int),(zsF z a).length=z.length+a.length
 |[],z=>by rw[zsF];rfl
 |o::r,z=>by rw[zsF,Ih r,List.length_append,List.length_cons,List.length_cons,List.length_nil];omega
theorem z5T(ops:List Ox)(j:Nat)(h:j<ops.length):zsF [] (ops.take (j+1))=zsF [] (ops.take j)++[szO (zsF [] (ops.take j)) ops[j]]:=by
 rw[List.take_succ_eq_append_getElem h,Wl,zsF,zsF]
theorem y4Y{z:List Int}(h:∀x∈z,0<=x)(o:Ox):1<=szO z o:=by
 unfold szO;split
 ·exact Int.le_refl _
 ·have:=Ag h o.2.2.2
  omega
theorem z0a:∀(a:List Ox) (z:List Int),(∀x∈z,0<=x)->∀x∈zsF z a,0<=x
 |[],z,h=>by rw[zsF];exact h
 |o::r,z,h=>by
  rw[zsF];refine z0a r _ fun x hx=> ?_
  rcases List.mem_append.1 hx with hx|hx
  ·exact h x hx
  ·obtain rfl:x=szO z o:=by simpa using hx
   have:=y4Y h o;omega
structure Unf (ops:List Ox) (ns:List ByteArray) (ro:List Int):Prop where
 rf:∀i (hi:i<ops.length),ops[i].1=5->∃r,ops[i].2.2.2=[r]/\0<=r/\r<(ns.length:Int)
 ot:∀i (hi:i<ops.length),ops[i].1≠5->(∀x∈ops[i].2.2.2,0<=x/\x<(i:Int))/\ttl (zsF [] (ops.take i)) ops[i].2.2.2<=8192
 tx:∀i (hi:i<ops.length),ops[i].2.1.size<=1073741824
 rt:∀x∈ro,0<=x/\x<(ops.length:Int)
 tt:ttl (zsF [] ops) ro<=8192
 nm:∀x∈ns,x.size<=32
theorem z5U{B n:Nat}{v:Value}{s:List Int}{o:Option Addr}{r:Nat}(h:W.ownsRow B 3 1 v n (nI s))(G:n=s.length)(y:v=.slice o n r):RwC W (· <W.heap.size) o s:=fun j A=>by
 obtain⟨g,c,e,_,D,E⟩:=Kg h (by omega);rw[y]at e;injection e with e _ _
 refine⟨g,0,e,D,?_⟩;rw[Nat.zero_add];refine E j _ ?_;unfold nI;rw[List.getElem?_map,List.getElem?_eq_getElem A];rfl
theorem y4Z(z:List Int)(o:Ox)(m:Nat)(k:Int)(y A:Option Addr)(D E:Nat)(w:World)(V:m=z.length)(Y:o.1=5->∃r,o.2.2.2=[r]/\0<=r/\r<k)(U:o.1≠5->(∀x∈o.2.2.2,0<=x/\x<(m:Int))/\ttl z o.2.2.2<=8192)(Z:o.2.1.size<=1073741824)(hz:∀x∈z,0<=x)(hl:o.2.2.2.length<=1048576)(h:RwC w (· <w.heap.size) y o.2.2.2)(h2:RwC w (· <w.heap.size) A z):
  Calls prog 103 #[.agg #[zI o.1,zT o.2.1,zU o.2.2.1.1,zU o.2.2.1.2.1,zU o.2.2.1.2.2.1,zU o.2.2.1.2.2.2,.slice y o.2.2.2.length D],.slice A m E,zI k] w fun e w'=>e=.returned (.tuple #[zI (szO z o),.bool true])/\zB w w':=by
 obtain⟨kd,M,⟨a,b,c,d⟩,s⟩:=o;unfold szO;by_cases h5:kd=5
 ·subst h5
  obtain⟨r,G,h0,h1⟩:=Y rfl;have G:s=[r]:=G;subst G;exact y4W M a b c d r y A D m E k w h h0 h1
 ·rw[if_neg h5]
  exact y4X kd M a b c d y A _ D m E s z k w h5 rfl V h (fun _=>True) h2 hz (U h5).1 (U h5).2 hl Z
theorem y5a(ops:List Ox)(ns:List ByteArray)(ro:List Int)(oso nso rso:Option Addr)(ol oc nl nc rl rc:Nat)(w:World)(ae:ol=ops.length)(G:nl=ns.length)(af:rl=ro.length)(h:PgM ops ns ro oso nso rso w)(hu:Unf ops ns ro):
  Calls prog 64 #[.agg #[.slice oso ol oc,.slice nso nl nc,.slice rso rl rc]] w fun e w'=>e=.returned (.bool true)/\zB w w':=by
 obtain⟨iT,aD,aE,aF,aG⟩:=info_parts Tryz.infoInt;obtain rfl:rl=nl:=by rw[af,G];exact h.lr
 obtain⟨W,U⟩:∃W,W=w.alloc (.cells #[.slice oso ol oc,.slice nso rl nc,.slice rso rl rc] 26):=⟨_,rfl⟩;obtain⟨p,hp⟩:∃p,p=w.heap.size:=⟨_,rfl⟩;have r:zB w W:=by rw[U];exact(Below.refl _ w).alloc L0q _
 have D:zH W p (.cells #[.slice oso ol oc,.slice nso rl nc,.slice rso rl rc] 26):=by rw[U,hp];exact Qx w _ rfl
 have am:W.heap.size=p+1:=by rw[U,hp];simp
 have hM:=h.below r;have g0:zC W p 0 (.slice oso ol oc):=(Qj D 0 _ rfl).1;have g1:zC W p 1 (.slice nso rl nc):=(Qj D 1 _ rfl).1;have g2:zC W p 2 (.slice rso rl rc):=(Qj D 2 _ rfl).1;have l0:=Qq D;have aT:ol<=200:=by rw[ae];exact h.l2
 have aH:rl<=64:=by rw[G];exact h.l6
 have HC:=hid (y4V nso rl nc ns G aH W hM.n hu.nm);have ao:Hid (zB w W):=r;have HM:=hid hM;have E:=hid hu;have ab:Hid (ol=ops.length):=ae;have aI:Hid (rl=ns.length):=G;have aJ:Hid (rl=ro.length):=af;have ap:=hid D;have aq:=hid am;have HW:=hid U;have Hp:=hid hp;have a0:decide ((200:Int)<(ol:Int))=false:=by simp;omega
 have a1:decide ((64:Int)<(rl:Int))=false:=by simp;omega
 clear U hp r D am hM h hu ae G af;go_enter func64,ntmps64
 go_wp2_with fail
 rw[<-HW.out,<-Hp.out];refine HC.out.mono ?_;rintro e w1 ⟨rfl,ar⟩;rw[ar];clear ar HC HW
 go_wp2_with fail
 clear g0 g1 g2 l0 a0 a1
 go_loopw [3,35] (fun v i wr=>∃j:Nat,i=zI (j:Int)/\j<=ol/\Hid (zB W wr)/\Hid (wr.ownsRow (p+1) 3 1 v j (nI (zsF [] (ops.take j))))) (fun _ i _=>ol-(intOf i).toNat)
 case atStart=>exact⟨0,rfl,Nat.zero_le _,hid B0q,hid (World.ownsRow_nil _ _ _ _)⟩
 case round=>
  obtain⟨j,rfl,hj,A,V⟩:=hrel;have ac:=hid ((A.out.block _ (Qq ap.out)).trans ap.out);have g0:zC wr p 0 (.slice oso ol oc):=(Qj ac.out 0 _ rfl).1;have g1:zC wr p 1 (.slice nso rl nc):=(Qj ac.out 1 _ rfl).1;have g2:zC wr p 2 (.slice rso rl rc):=(Qj ac.out 2 _ rfl).1;have lp:=Qq ac.out;obtain⟨au,av,hv⟩:=Ux V.out;have Y:(zsF [] (ops.take j)).length=j:=by rw[Ih,List.length_take,<-ab.out];simp;omega
  by_cases hjn:j<ol
  rotate_left
  ·have a0:decide ((j:Int)<(ol:Int))=false:=by simp;omega
   have a1:decide (j<ol)=false:=by simp;omega
   obtain rfl:j=ol:=by omega
   have ag:zsF [] (ops.take j)=zsF [] ops:=by rw[List.take_of_length_le (by rw[<-ab.out];omega)]
   have aw:=(HM.out.below A.out).roots;have HT:=hid (z5S rso au rc av rl j ro (zsF [] ops) aJ.out (by rw[<-ag];exact Y.symm) _ _ wr aw (z5U V.out (by rw[Y]) hv|>fun h=>by rw[ag]at h;exact h) (z0a _ _ (fun x hx=>by cases hx)) (fun x hx=>by have:=E.out.rt x hx;rw[<-ab.out]at this;exact this) E.out.tt (by omega));have aK:=hid (ao.out.trans (A.out.mono ao.out.size));subst hv;clear Y ag aw HM E
   go_wp2_with fail
   (try simp only[Exit.inBlock,Exit.then])
   refine HT.out.mono ?_;rintro e w5 ⟨rfl,ax⟩;rw[ax];clear ax
   go_wp2_with fail
   go_ret;exact⟨rfl,aK.out⟩
  have Z:j<ops.length:=by rw[<-ab.out];exact hjn
  obtain⟨g,rfl,hg,so,aL,⟨c0,c1,c2,c3,c4,c5,c6⟩,ah,ai⟩:=(HM.out.below A.out).o j Z;obtain⟨o,ho⟩:∃o,o=ops[j]:=⟨_,rfl⟩;have aj:=E.out.rf j Z;have ak:=E.out.ot j Z;have al:=E.out.tx j Z;rw[<-ho]at c0 c1 c2 c3 c4 c5 c6 ah ai aj ak al;have HS:=hid (fun(w':World) (r:zB wr w')=>y4Z (zsF [] (ops.take j)) o j (rl:Int) so au aL av w' Y.symm (by rw[aI.out];exact aj) ak al (z0a _ _ (fun x hx=>by cases hx)) ah (ai.keep fun b aa=>⟨Nat.lt_of_lt_of_le aa r.size,r.block b aa⟩) ((z5U V.out Y.symm hv).keep fun b aa=>⟨Nat.lt_of_lt_of_le aa r.size,r.block b aa⟩));have HZ:Hid (zsF [] (ops.take (j+1))=zsF [] (ops.take j)++[szO (zsF [] (ops.take j)) o]):=by rw[ho];exact z5T ops j Z
  obtain⟨y,hy⟩:∃y,y=szO (zsF [] (ops.take j)) o:=⟨_,rfl⟩;rw[<-hy]at HS HZ;obtain⟨sl,ay⟩:∃sl,sl=o.2.2.2.length:=⟨_,rfl⟩;rw[<-ay]at c6 HS;have a0:decide ((j:Int)<(ol:Int))=true:=by simp;omega
  have a1:decide (j<ol)=true:=by simp;omega
  have aU:(j:Int)<(ol:Int):=by omega
  have aV:IntKind.i64.wrap ((j:Int)+1)=(j:Int)+1:=by rw[IntKind.wrap_i64];omega
  have aM:p+1<=wr.heap.size:=by have:=A.out.size;rw[aq.out]at this;exact this
  have aN:=hid aM;subst hv;clear ho hy ay aj ak al ai ah
  go_wp2_with fail
  refine(HS.out _ ((Below.refl _ wr).alloc L0q _)).mono ?_;rintro e w2 ⟨rfl,az⟩;have ad:zB wr w2:=((Below.refl _ wr).alloc L0q _).trans (az.mono (by simp));have aO:=hid ad;have aA:=hid (Xf V.out ad);have aP:p+1<=w2.heap.size:=Nat.le_trans aN.out ad.size;have aW:=hid aP;clear az ad HS V c0 c1 c2 c3 c4 c5 c6
  go_wp2_with(first|(at_builtin;refine wpList_append_own _ rfl (.tmp 50) (.tmp 52) 24 rfl (p+1) 3 iT (zI 0) 1 8 Tryz.underlying24 aD aE aF aG rfl (by decide) _ _ _ rfl (aA.out.alloc _) ⟨w2.heap.size,0,none⟩ 1 1 [zI y] rfl rfl (cell_one_new _ _ _) (by simp[Value.oneCell']) (by unfold maxLen;omega) (by omega) (by simp;omega) ?_;intro v3 w3 aB aC aQ))
  have aR:Hid (zB W w3):=by
   have h1:=(A.out.trans (aO.out.mono A.out.size));have h2:=h1.alloc h1.size (.cells #[zI y] 3);refine h2.grown aC (by have:=h1.size;simp;omega) (fun b e=> ?_);have:=(aA.out.lt b e).1;rw[aq.out];exact this
  have aS:Hid (w3.ownsRow (p+1) 3 1 v3 (j+1) (nI (zsF [] (ops.take (j+1))))):=by
   show w3.ownsRow _ _ _ _ _ _;rw[HZ.out];unfold nI;rw[List.map_append];exact aB
  clear aB aC aQ
  go_roundw
  case rel=>exact⟨j+1,by simp,by omega,aR,aS⟩
  case measure=>simp[intOf];omega
end Go.Proofs.YtmelafeingcgnaaGreatDoor
