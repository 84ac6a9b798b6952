/- Lemmas for the last text. Conditions: those that each names. -/
import Derived.Test.YtikfnaffiehpaaaGreatDoorVP3
import Derived.Test.YtikfnaffiehpaaaGreatDoorVP2ToX17
import Derived.Test.YtikfnaffiehpaaaGreatDoorVX19ToXMw
set_option linter.unusedVariables false
namespace Go.Proofs.YtikfnaffiehpaaaGreatDoor
open Go.Proofs.Tryz
open Go.RowKit
def kR:List Rl->List (Nat×ByteArray×Nat)
 |[]=>[]
 |x::r=>(1,x.1,0)::(2,{data:=#[]},0)::(kN x.2.1++kR r)
def Fo(L:List Tok)(k:Nat):Prop:=(gL L k).1≠2/\rpK (sgT (gL L k))=0/\ptB L k (gL L k)=false/\sgT (gL L k)≠{data:=#[47]}
theorem z7O{L:List Tok}{k:Nat}(h:(gL L k).1=6):Fo L k:=by
 have hs:sgT (gL L k)={data:=#[]}:=by unfold sgT;rw[h];rfl
 refine⟨by rw[h];decide,by rw[hs];decide,?_,by rw[hs];decide⟩;unfold ptB;rw[h];rfl
theorem z7P{L:List Tok}{k:Nat}(h1:(gL L k).1=1)(h2:(gL L (k+1)).1=2)(hk:k+1<L.length):Fo L k:=by
 have hs:sgT (gL L k)={data:=#[]}:=by unfold sgT;rw[h1];rfl
 refine⟨by rw[h1];decide,by rw[hs];decide,?_,by rw[hs];decide⟩;unfold ptB;rw[h1,if_pos rfl,Cb L k hk,h1,h2];rfl
theorem z2C{L:List Tok}(hL:L.length<=10000):∀(rs:List Rl) (f k:Nat) (acc:List Rl),(∀x∈rs,Vk x.2.1/\dN x.2.1<=24)->rs.length<f->acc.length+rs.length<=64->AtK L k (kR rs)->k+(kR rs).length+1=L.length->(gL L (k+(kR rs).length)).1=6->
  ∃rs',RlL rs rs'/\Zy L f k acc=.inr (acc++rs')
 |[],f,k,acc,_,hf,_,_,_,h6=>by
  obtain⟨g,rfl⟩:∃g,f=g+1:=⟨f-1,by simp at hf;omega⟩;have h6':(gL L k).1=6:=by rw[kR]at h6;exact h6
  refine⟨[],by rw[RlL];trivial,?_⟩;rw[Zy,if_pos h6',List.append_nil]
 |x::r,f,k,acc,hx,hf,h64,ha,hlen,h6=>by
  obtain⟨g,rfl⟩:∃g,f=g+1:=⟨f-1,by simp at hf;omega⟩;rw[kR]at ha hlen h6;simp only[List.length_cons,List.length_append]at hlen h6;obtain⟨_,b,c,_⟩:=Uj ha.head (by show(1:Nat)≠5;decide);have b':(gL L k).1=1:=b;have c':(gL L k).2.1=x.1:=c;obtain⟨_,b2,_⟩:=Uj ha.tail.head (by show(2:Nat)≠5;decide);have b2':(gL L (k+1)).1=2:=b2;have hbody:=ha.tail.tail.left;have hrest:=ha.tail.tail.right;have hfo:Fo L (k+1+1+(kN x.2.1).length):=by
   cases r with
   |nil=>
    rw[kR,List.length_nil]at h6;exact z7O (by rw[<-h6];congr 2;omega)
   |cons y q=>
    rw[kR]at hrest hlen;simp only[List.length_cons,List.length_append]at hlen;obtain⟨_,u,_⟩:=Uj hrest.head (by show(1:Nat)≠5;decide);obtain⟨_,v,_⟩:=Uj hrest.tail.head (by show(2:Nat)≠5;decide);exact z7P u v (by omega)
  obtain⟨f1,f2,f3,f4⟩:=hfo;obtain⟨hv,hd⟩:=hx x (by simp);obtain⟨n',e,hs⟩:=(z2B _ x.2.1 (Nat.lt_succ_self _) hv).2.2.2.2 L 24 (k+1+1) hL hbody (by omega) f1 f2 f3 f4 hd;obtain⟨rs',hr,e'⟩:=z2C hL r g (k+1+1+(kN x.2.1).length) (acc++[(x.1,n',(gL L k).2.2.2)]) (fun y hy=>hx y (by simp[hy])) (by simp at hf;omega) (by simp at h64 ⊢;omega) hrest (by omega) (by rw[<-h6];congr 2;omega);refine⟨(x.1,n',(gL L k).2.2.2)::rs',by rw[RlL];exact⟨⟨rfl,hs⟩,hr⟩,?_⟩;rw[Zy,if_neg (by rw[b'];decide)];have hru:ruS L acc.length k=.inr ((x.1,n',(gL L k).2.2.2),k+1+1+(kN x.2.1).length):=by
   unfold ruS;rw[if_neg (by rw[b'];decide),if_neg (by simp at h64;omega),if_neg (by rw[b2'];decide),show k+2=k+1+1 from rfl,e,c'];rfl
  rw[hru];simp only;rw[e',List.append_assoc];rfl
theorem z7Q{L:List Tok}{rs:List Rl}(hL:L.length<=10000)(hx:∀x∈rs,Vk x.2.1/\dN x.2.1<=24)(h1:0<rs.length)(h64:rs.length<=64)(ha:AtK L 0 (kR rs))(hlen:(kR rs).length+1=L.length)(h6:(gL L (kR rs).length).1=6):
  ∃rs',Zf L=.inr rs'/\RlL rs rs':=by
 have hl:rs.length<=(kR rs).length:=by
  clear hx h1 h64 ha hlen h6
  induction rs with
  |nil=>exact Nat.zero_le _
  |cons x r ih=>rw[kR];simp only[List.length_cons,List.length_append];omega
 have h0:(gL L 0).1≠6:=by
  match rs,h1 with
  |x::r,_=>
   rw[kR]at ha;obtain⟨_,b,_⟩:=Uj ha.head (by show(1:Nat)≠5;decide);rw[b];show(1:Nat)≠6;decide
 obtain⟨rs',hr,e⟩:=z2C hL rs (L.length+1) 0 [] hx (by omega) (by simp;omega) ha (by omega) (by rw[Nat.zero_add];exact h6);refine⟨rs',?_,hr⟩;rw[z6W h0,e];rfl
section
mutual
def Wf(Nm:ByteArray->Prop):Nd->Prop
 | .mk kd T C s p=>(kd=2->T.size<=255)/\(kd=5->Nm T)/\C<2^256/\WfL Nm s
def WfL(Nm:ByteArray->Prop):List Nd->Prop
 |[]=>True
 |n::r=>Wf Nm n/\WfL Nm r
end
def Uk(Nm:ByteArray->Prop)(t:Tok):Prop:=(t.1=1->Nm t.2.1/\t.2.2.1=0)/\(t.1=3->t.2.1.size<=255/\t.2.2.1=0)/\(t.1=4->t.2.1={data:=#[]})/\(t.1=5->t.2.2.1=0)/\t.2.2.1<2^256
def Pq(Nm:ByteArray->Prop)(r:Pr):Prop:=∀n k,r=.inr (n,k)->Vk n/\Wf Nm n
theorem VkL.app:∀{a b:List Nd},VkL a->VkL b->VkL (a++b)
 |[],b,_,h=>h
 |n::r,b,h1,h2=>by
  rw[VkL]at h1;rw[List.cons_append,VkL];exact⟨h1.1,VkL.app h1.2 h2⟩
theorem WfL.app{Nm:ByteArray->Prop}:∀{a b:List Nd},WfL Nm a->WfL Nm b->WfL Nm (a++b)
 |[],b,_,h=>h
 |n::r,b,h1,h2=>by
  rw[WfL]at h1;rw[List.cons_append,WfL];exact⟨h1.1,WfL.app h1.2 h2⟩
section
variable {L:List Tok} {Nm:ByteArray->Prop}
theorem Jb:VkL []:=by rw[VkL];trivial
theorem Jh:WfL Nm []:=by rw[WfL];trivial
theorem z7R:(0:Nat)<2^256:=by decide
theorem Ll{kd p:Nat}{s:List Nd}(h2:kd≠2)(h5:kd≠5)(hs:WfL Nm s):Wf Nm (.mk kd {data:=#[]} 0 s p):=by
 rw[Wf];exact⟨fun h=>absurd h h2,fun h=>absurd h h5,z7R,hs⟩
theorem Tl(ht:∀k,Uk Nm (gL L k)){inn:Nat->Pr}(hi:∀k,Pq Nm (inn k))(k:Nat):Pq Nm (Zj L inn k):=by
 intro n k' h;obtain⟨t1,t3,t4,t5,tc⟩:=ht k;unfold Zj at h;split at h
 ·rename_i hc
  simp only[Sum.inr.injEq,Prod.mk.injEq]at h;rw[<-h.1];have:=t1 hc.1;refine⟨?_,?_⟩
  ·rw[Vk];exact⟨.inr (.inr (.inr (.inr (.inl ⟨rfl,this.2,rfl⟩)))),Jb⟩
  ·rw[Wf];exact⟨fun h=>by omega,fun _=>this.1,tc,Jh⟩
 ·split at h
  ·rename_i hc
   simp only[Sum.inr.injEq,Prod.mk.injEq]at h;rw[<-h.1];have:=t3 hc;refine⟨?_,?_⟩
   ·rw[Vk];exact⟨.inr (.inl ⟨rfl,this.2,rfl⟩),Jb⟩
   ·rw[Wf];exact⟨fun _=>this.1,fun h=>by omega,tc,Jh⟩
  ·split at h
   ·rename_i hc
    simp only[Sum.inr.injEq,Prod.mk.injEq]at h;rw[<-h.1];refine⟨?_,?_⟩
    ·rw[Vk];exact⟨.inr (.inr (.inl ⟨rfl,t4 hc,rfl⟩)),Jb⟩
    ·rw[Wf];exact⟨fun h=>by omega,fun h=>by omega,tc,Jh⟩
   ·split at h
    ·rename_i hs
     simp only[Sum.inr.injEq,Prod.mk.injEq]at h;rw[<-h.1];refine⟨?_,?_⟩
     ·rw[Vk];exact⟨.inr (.inr (.inr (.inl ⟨rfl,rfl,t5 (Xv hs),rfl⟩))),Jb⟩
     ·rw[Wf];exact⟨fun h=>by omega,fun h=>by omega,tc,Jh⟩
    ·split at h
     ·exact hi k n k' h
     ·cases h
theorem Wz{r:Pr}(hr:Pq Nm r):Pq Nm (Xq L r):=by
 intro n k' h;cases r with
 |inl e=>cases h
 |inr q=>
  obtain⟨m,j⟩:=q;have h1:=hr m j rfl;unfold Xq at h;simp only at h;split at h
  ·simp only[Sum.inr.injEq,Prod.mk.injEq]at h
   rw[<-h.1];exact h1
  ·rename_i hs
   have hk:rpK (sgT (gL L j))=8∨rpK (sgT (gL L j))=9∨rpK (sgT (gL L j))=10:=by
    unfold rpK at hs ⊢;split
    ·exact .inl rfl
    ·split
     ·exact .inr (.inl rfl)
     ·split
      ·exact .inr (.inr rfl)
      ·rename_i a b c
       rw[if_neg a,if_neg b,if_neg c]at hs;exact absurd rfl hs
   simp only[Sum.inr.injEq,Prod.mk.injEq]at h;rw[<-h.1];refine⟨?_,Ll (by omega) (by omega) (by rw[WfL];exact⟨h1.2,Jh⟩)⟩;rw[Vk];exact⟨.inr (.inr (.inr (.inr (.inr (.inr ⟨by omega,by omega,rfl,rfl,rfl⟩))))),by rw[VkL];exact⟨h1.1,Jb⟩⟩
theorem z7S(ht:∀k,Uk Nm (gL L k)){inn:Nat->Pr}(hi:∀k,Pq Nm (inn k))(k:Nat):Pq Nm (Zh L inn k):=by
 have ov:∀(kd p:Nat) (r:Pr),(kd=11∨kd=12)->Pq Nm r->Pq Nm (ovS kd p r):=fun kd p r hk hr n k' h=>by
  cases r with
  |inl e=>cases h
  |inr q=>
   obtain⟨m,j⟩:=q;have h1:=hr m j rfl;simp only[ovS,Sum.inr.injEq,Prod.mk.injEq]at h;rw[<-h.1];refine⟨?_,Ll (by omega) (by omega) (by rw[WfL];exact⟨h1.2,Jh⟩)⟩;rw[Vk];exact⟨.inr (.inr (.inr (.inr (.inr (.inr ⟨by omega,by omega,rfl,rfl,rfl⟩))))),by rw[VkL];exact⟨h1.1,Jb⟩⟩
 unfold Zh;split
 ·exact ov 12 _ _ (.inr rfl) (Wz (Tl ht hi _))
 ·split
  ·exact ov 11 _ _ (.inl rfl) (Wz (Tl ht hi _))
  ·exact Wz (Tl ht hi _)
theorem z2D{kd:Nat}(hk:kd=6∨kd=7):∀{l:List Nd},l≠[]->VkL l->WfL Nm l->Vk (Yv kd l)/\Wf Nm (Yv kd l)
 |[],h,_,_=>absurd rfl h
 |[n],_,h1,h2=>by
  rw[VkL]at h1;rw[WfL]at h2;exact⟨h1.1,h2.1⟩
 |n::m::r,_,h1,h2=>by
  refine⟨?_,Ll (by omega) (by omega) h2⟩;show Vk (.mk kd _ 0 (n::m::r) n.at');rw[Vk];exact⟨.inr (.inr (.inr (.inr (.inr (.inl ⟨hk,rfl,rfl,by simp⟩))))),h1⟩
theorem Wq(ht:∀k,Uk Nm (gL L k)){inn:Nat->Pr}(hi:∀k,Pq Nm (inn k)):∀(f k:Nat) (acc:List Nd),VkL acc->WfL Nm acc->Pq Nm (Qb L inn f k acc)
 |0,_,_,_,_=>fun n k' h=>by rw[Qb]at h;cases h
 |f+1,k,acc,h1,h2=>fun n k' h=>by
  rw[Qb]at h;split at h
  ·split at h
   ·cases h
   ·rename_i m j hp
    have hm:=z7S ht hi k m j hp;exact Wq ht hi f j (acc++[m]) (h1.app (by rw[VkL];exact⟨hm.1,Jb⟩)) (h2.app (by rw[WfL];exact⟨hm.2,Jh⟩)) n k' h
  ·split at h
   ·simp only[Sum.inr.injEq,Prod.mk.injEq]at h
    rw[<-h.1];refine⟨?_,Ll (by decide) (by decide) Jh⟩;rw[Vk];exact⟨.inl ⟨rfl,rfl,rfl,rfl⟩,Jb⟩
   ·rename_i hne
    simp only[Sum.inr.injEq,Prod.mk.injEq]at h;rw[<-h.1];exact z2D (.inl rfl) (fun e=>hne (by rw[e];rfl)) h1 h2
theorem z2E(ht:∀k,Uk Nm (gL L k)){inn:Nat->Pr}(hi:∀k,Pq Nm (inn k)):∀(f k:Nat) (acc:List Nd),acc≠[]->VkL acc->WfL Nm acc->Pq Nm (Zw L inn f k acc)
 |0,_,_,_,_,_=>fun n k' h=>by rw[Zw]at h;cases h
 |f+1,k,acc,hn,h1,h2=>fun n k' h=>by
  rw[Zw]at h;split at h
  ·split at h
   ·cases h
   ·rename_i m j hp
    have hm:=Wq ht hi _ _ [] Jb Jh m j hp;exact z2E ht hi f j (acc++[m]) (by simp) (h1.app (by rw[VkL];exact⟨hm.1,Jb⟩)) (h2.app (by rw[WfL];exact⟨hm.2,Jh⟩)) n k' h
  ·simp only[Sum.inr.injEq,Prod.mk.injEq]at h
   rw[<-h.1];exact z2D (.inr rfl) hn h1 h2
theorem z2F(ht:∀k,Uk Nm (gL L k)){inn:Nat->Pr}(hi:∀k,Pq Nm (inn k))(k:Nat):Pq Nm (chS L inn k):=by
 intro n k' h;unfold chS at h;cases hr:Qb L inn L.length k []with
 |inl e=>rw[hr]at h;cases h
 |inr q=>
  obtain⟨m,j⟩:=q;rw[hr]at h;have hm:=Wq ht hi _ _ [] Jb Jh m j hr;exact z2E ht hi _ j [m] (by simp) (by rw[VkL];exact⟨hm.1,Jb⟩) (by rw[WfL];exact⟨hm.2,Jh⟩) n k' h
theorem z2G(ht:∀k,Uk Nm (gL L k)):∀(d k:Nat),Pq Nm (Ql L d k)
 |0,k=>fun n k' h=>by rw[Ql]at h;cases h
 |d+1,k=>fun n k' h=>by
  rw[Ql]at h;obtain⟨j,h1,_⟩:=Iy h;exact z2F ht (z2G ht d) (k+1) n j h1
def Ruk(Nm:ByteArray->Prop)(x:Rl):Prop:=Nm x.1/\Vk x.2.1/\Wf Nm x.2.1
theorem z2H(ht:∀k,Uk Nm (gL L k)){ru k k':Nat}{x:Rl}(h:ruS L ru k=.inr (x,k')):Ruk Nm x:=by
 obtain⟨h1,h2⟩:=z1M h;have h3:=z2F ht (z2G ht 24) _ _ _ h1;refine⟨?_,h3.1,h3.2⟩;unfold ruS at h;split at h
 ·cases h
 ·rename_i c
  rw[h2];exact((ht k).1 (by simpa using c)).1
theorem z2I(ht:∀k,Uk Nm (gL L k)):∀(f k:Nat) (acc rs:List Rl),Zy L f k acc=.inr rs->(∀x∈acc,Ruk Nm x)->∀x∈rs,Ruk Nm x
 |0,_,_,_,h,_=>by rw[Zy]at h;cases h
 |f+1,k,acc,rs,h,ha=>by
  rw[Zy]at h;split at h
  ·simp only[Sum.inr.injEq]at h;subst h;exact ha
  ·split at h
   ·cases h
   ·rename_i x k' hr
    refine z2I ht f k' (acc++[x]) rs h (fun y hy=> ?_);rcases List.mem_append.1 hy with hy|hy
    ·exact ha y hy
    ·simp at hy
     subst hy;exact z2H ht hr
theorem z7T(ht:∀k,Uk Nm (gL L k)){rs:List Rl}(h:Zf L=.inr rs):∀x∈rs,Ruk Nm x:=by
 unfold Zf at h;cases hr:ruS L 0 0 with
 |inl c=>rw[hr]at h;cases h
 |inr q=>
  obtain⟨x,k'⟩:=q;rw[hr]at h;refine z2I ht _ _ _ _ h (fun y hy=> ?_);simp at hy;subst hy;exact z2H ht hr
end
end
section
def bO:ByteArray:={data:=#[40]}
def bC:ByteArray:={data:=#[41]}
def bSp:ByteArray:={data:=#[32]}
def bSl:ByteArray:={data:=#[32,47,32]}
def bAr:ByteArray:={data:=#[32,60,45,32]}
def bNl:ByteArray:={data:=#[10]}
def Ey:ByteArray:={data:=#[46]}
def bE:ByteArray:={data:=#[]}
def bsg(kd:Nat):ByteArray:=if kd=11 then{data:=#[38]}else if kd=12 then{data:=#[33]}else{data:=#[rpS kd]}
section
variable (QT:ByteArray->ByteArray) (CT:Nat->ByteArray)
mutual
def pN:Nd->List ByteArray
 | .mk kd T C s p=>if kd=1 then [bO,bC]else if kd=2 then [QT T]else if kd=3 then [CT C]else if kd=4 then [Ey]else if kd=5 then [T]else if kd=6 then pS 6 bSp s else if kd=7 then pS 7 bSl s
   else if kd=11∨kd=12 then bsg kd::pS kd bE s else pS kd bE s++[bsg kd]
def pS(over:Nat)(sep:ByteArray):List Nd->List ByteArray
 |[]=>[]
 |n::r=>(if wr over n.kd=true then bO::(pN n++[bC])else pN n)++pB over sep r
def pB(over:Nat)(sep:ByteArray):List Nd->List ByteArray
 |[]=>[]
 |n::r=>sep::((if wr over n.kd=true then bO::(pN n++[bC])else pN n)++pB over sep r)
end
def pP(over:Nat)(n:Nd):List ByteArray:=if wr over n.kd=true then bO::(pN QT CT n++[bC])else pN QT CT n
def pR:List Rl->List ByteArray
 |[]=>[]
 |x::r=>x.1::bAr::(pN QT CT x.2.1++(bNl::pR r))
end
def sz:List ByteArray->Nat
 |[]=>0
 |p::r=>p.size+sz r
theorem Kp:∀(a b:List ByteArray),sz (a++b)=sz a+sz b
 |[],b=>by rw[List.nil_append,sz,Nat.zero_add]
 |p::r,b=>by rw[List.cons_append,sz,sz,Kp r b,Nat.add_assoc]
def Pl(X:ByteArray)(a:Nat)(P:ByteArray):Prop:=a+P.size<=X.size/\∀i,i<P.size->bt X (a+i)=bt P i
def PlL(X:ByteArray):Nat->List ByteArray->Prop
 |_,[]=>True
 |a,p::r=>Pl X a p/\PlL X (a+p.size) r
theorem PlL.app{X:ByteArray}:∀{A B:List ByteArray} {a:Nat},PlL X a (A++B)->PlL X a A/\PlL X (a+sz A) B
 |[],B,a,h=>by
  rw[List.nil_append]at h;exact⟨by rw[PlL];trivial,by rw[sz,Nat.add_zero];exact h⟩
 |p::r,B,a,h=>by
  rw[List.cons_append,PlL]at h;obtain⟨h1,h2⟩:=h;obtain⟨h3,h4⟩:=PlL.app h2;refine⟨by rw[PlL];exact⟨h1,h3⟩,?_⟩;rw[sz,<-Nat.add_assoc];exact h4
def Rds(X:ByteArray)(a b:Nat)(K:List (Nat×ByteArray×Nat)):Prop:=∃ts:List Tok,ts.map tk3=K/\tks X (sb X a) []=Ul ts (tks X (sb X b) [])
section
variable {X:ByteArray}
theorem Rds.refl(a:Nat):Rds X a a []:=⟨[],rfl,(z2q _).symm⟩
theorem Rds.trans{a b c:Nat}{K M:List (Nat×ByteArray×Nat)}(h1:Rds X a b K)(h2:Rds X b c M):Rds X a c (K++M):=by
 obtain⟨t1,e1,f1⟩:=h1;obtain⟨t2,e2,f2⟩:=h2;refine⟨t1++t2,by rw[List.map_append,e1,e2],?_⟩;rw[f1,f2,z2c]
theorem Ap{a x:Nat}(h:bt X a=some x)(hb:blB x=true):Rds X a (a+1) []:=by
 refine⟨[],rfl,?_⟩;rw[Nb h,if_pos hb,z2q]
theorem Ef{a b x:Nat}{t:Tok}(h:bt X a=some x)(h1:blB x=false)(h2:x≠35)(ht:Zp X a x=.inr (t,b)):Rds X a b [tk3 t]:=by
 refine⟨[t],rfl,?_⟩;rw[z7F h h1 h2,Sx h ht,z7v];rfl
theorem z7U{x:Nat}(h:mkB x=true):Qy x=false/\x≠39/\x≠34/\x≠91/\x≠60/\blB x=false/\x≠35:=by
 unfold mkB at h;simp at h;have:x=47∨x=38∨x=33∨x=63∨x=42∨x=43∨x=40∨x=41∨x=46:=by omega
 rcases this with rfl|rfl|rfl|rfl|rfl|rfl|rfl|rfl|rfl<;>decide
theorem Dm{a:Nat}{x:UInt8}(hm:mkB x.toNat=true)(h:bt X a=some x.toNat):Rds X a (a+1) [sgc x]:=by
 obtain⟨n1,n2,n3,n4,n5,n6,n7⟩:=z7U hm;have ht:Zp X a x.toNat=.inr ((5,nb [x.toNat],0,a),a+1):=by
  unfold Zp;rw[if_neg (by rw[n1];decide),if_neg (by omega),if_neg n4,if_neg (by unfold arB;rw[h];simp[n5]),if_pos hm]
 have:=Ef h n6 n7 ht;have e:tk3 (5,nb [x.toNat],0,a)=sgc x:=by
  unfold tk3 sgc nb;simp
 rw[e]at this;exact this
theorem Gh{a:Nat}{x:UInt8}(h:Pl X a {data:=#[x]}):bt X a=some x.toNat:=by
 have:=h.2 0 (by show 0<1;decide);rw[Nat.add_zero]at this;rw[this];rfl
theorem z7V{a:Nat}(h:Pl X a bSl):Rds X a (a+3) [sgc 47]:=by
 have h0:bt X a=some 32:=h.2 0 (by decide);have h1:bt X (a+1)=some (47:UInt8).toNat:=h.2 1 (by decide);have h2:bt X (a+1+1)=some 32:=h.2 2 (by decide);exact((Ap h0 (by decide)).trans (Dm (x:=47) (by decide) h1)).trans (Ap h2 (by decide))
theorem z7W{a:Nat}(h:Pl X a bAr):Rds X a (a+4) [(2,{data:=#[]},0)]:=by
 have h0:bt X a=some 32:=h.2 0 (by decide);have h1:bt X (a+1)=some 60:=h.2 1 (by decide);have h2:bt X (a+1+1)=some 45:=h.2 2 (by decide);have h3:bt X (a+1+2)=some 32:=h.2 3 (by decide);have ht:Zp X (a+1) 60=.inr ((2,{data:=#[]},0,a+1),a+1+2):=by
  unfold Zp;rw[if_neg (by decide),if_neg (by decide),if_neg (by decide),if_pos (by unfold arB;rw[h1,h2];decide)]
 exact((Ap h0 (by decide)).trans (Ef h1 (by decide) (by decide) ht)).trans (Ap h3 (by decide))
def Fol(X:ByteArray)(b:Nat):Prop:=∀x,bt X b=some x->(Qy x||Xg x)=false
theorem Kc{b x:Nat}(h:bt X b=some x)(hx:(Qy x||Xg x)=false):Fol X b:=fun y hy=>by
 rw[h]at hy;cases hy;exact hx
structure Pcs (Nm:ByteArray->Prop) (QT:ByteArray->ByteArray) (CT:Nat->ByteArray):Prop where
 nm:∀T,Nm T->T.size<=32/\(∃x,bt T 0=some x/\Qy x=true)/\∀i x,bt T i=some x->(Qy x||Xg x)=true
 qt:∀T X a,T.size<=255->Pl X a (QT T)->∃p,bt X a=some 39/\Zp X a 39=.inr ((3,T,0,p),a+(QT T).size)
 ct:∀C X a,C<2^256->Pl X a (CT C)->∃p,bt X a=some 91/\Zp X a 91=.inr ((4,{data:=#[]},C,p),a+(CT C).size)
theorem z2J{T:ByteArray}{a:Nat}(h:Pl X a T)(hall:∀i x,bt T i=some x->(Qy x||Xg x)=true)(hf:Fol X (a+T.size)):∀f i,T.size-i=f->i<=T.size->ne X (a+i)=a+T.size
 |0,i,hf',hi=>by
  obtain rfl:i=T.size:=by omega
  cases hb:bt X (a+T.size)with
  |none=>rw[Iq hb]
  |some x=>rw[Ud hb,hf x hb];rfl
 |f+1,i,hf',hi=>by
  have hb:=h.2 i (by omega);cases hx:bt T i with
  |none=>have:=Qm hx;omega
  |some x=>
   rw[hx]at hb;rw[Ud hb,hall i x hx];simp only[if_true];rw[Nat.add_assoc];exact z2J h hall hf f (i+1) (by omega) (by omega)
variable {Nm:ByteArray->Prop} {QT:ByteArray->ByteArray} {CT:Nat->ByteArray}
theorem z2K(hP:Pcs Nm QT CT){T:ByteArray}{a:Nat}(hn:Nm T)(h:Pl X a T)(hf:Fol X (a+T.size)):Rds X a (a+T.size) [(1,T,0)]:=by
 obtain⟨h32,⟨x,hx,hl⟩,hall⟩:=hP.nm T hn;have h0:=(Qx hx).1;have hb:bt X a=some x:=by
  have:=h.2 0 h0;rw[Nat.add_zero]at this;rw[this];exact hx
 have hne:ne X a=a+T.size:=z2J h hall hf _ 0 rfl (Nat.zero_le _);have hnl:=z7w hl;have he:X.extract a (a+T.size)=T:=by
  apply Lg;intro j;rw[Lb X _ _ _ h.1];by_cases hj:j<T.size
  ·rw[if_pos (by omega),h.2 j hj]
  ·rw[if_neg (by omega),Vw (by omega)]
 have ht:Zp X a x=.inr ((1,T,0,a),a+T.size):=by
  unfold Zp;rw[if_pos hl,hne,if_neg (by omega),he]
 exact Ef hb hnl.1 hnl.2 ht
theorem z7X(hP:Pcs Nm QT CT){T:ByteArray}{a:Nat}(hT:T.size<=255)(h:Pl X a (QT T)):Rds X a (a+(QT T).size) [(3,T,0)]:=by
 obtain⟨p,hb,ht⟩:=hP.qt T X a hT h;exact Ef hb (by decide) (by decide) ht
theorem z7Y(hP:Pcs Nm QT CT){C a:Nat}(hC:C<2^256)(h:Pl X a (CT C)):Rds X a (a+(CT C).size) [(4,{data:=#[]},C)]:=by
 obtain⟨p,hb,ht⟩:=hP.ct C X a hC h;exact Ef hb (by decide) (by decide) ht
def RN(X:ByteArray)(Nm:ByteArray->Prop)(QT:ByteArray->ByteArray)(CT:Nat->ByteArray)(n:Nd):Prop:=∀a,PlL X a (pN QT CT n)->Fol X (a+sz (pN QT CT n))->Rds X a (a+sz (pN QT CT n)) (kN n)
theorem Mv(over:Nat){n:Nd}(hr:RN X Nm QT CT n){a:Nat}(h:PlL X a (pP QT CT over n))(hf:Fol X (a+sz (pP QT CT over n))):Rds X a (a+sz (pP QT CT over n)) (kP over n):=by
 unfold pP at h hf ⊢;unfold kP;split
 ·rename_i hw
  rw[if_pos hw]at h;rw[PlL]at h;obtain⟨h1,h2⟩:=h;obtain⟨h3,h4⟩:=PlL.app h2;rw[PlL]at h4;have c0:=Gh (x:=40) h1;have c1:=Gh (x:=41) h4.1;have hin:=hr (a+1) h3 (Kc c1 (by decide));have e:a+sz (bO::(pN QT CT n++[bC]))=a+1+sz (pN QT CT n)+1:=by
   rw[sz,Kp,sz,sz,show bO.size=1 from rfl,show bC.size=1 from rfl];omega
  rw[e];have:=((Dm (x:=40) (by decide) c0).trans hin).trans (Dm (x:=41) (by decide) c1);rw[List.append_assoc]at this;exact this
 ·rename_i hw
  rw[if_neg hw]at h hf;exact hr a h hf
theorem Gd(over:Nat)(sep:ByteArray)(n:Nd)(r:List Nd):pS QT CT over sep (n::r)=pP QT CT over n++pB QT CT over sep r:=by rw[pS];rfl
theorem Jz(over:Nat)(sep:ByteArray)(n:Nd)(r:List Nd):pB QT CT over sep (n::r)=sep::(pP QT CT over n++pB QT CT over sep r):=by rw[pB];rfl
theorem Gm(over:Nat)(sep:ByteArray):pB QT CT over sep []=[]:=by rw[pB]
theorem z2L:∀(s:List Nd),(∀m∈s,RN X Nm QT CT m)->∀a,PlL X a (pB QT CT 6 bSp s)->Fol X (a+sz (pB QT CT 6 bSp s))->Rds X a (a+sz (pB QT CT 6 bSp s)) (kS 6 s)
 |[],_,a,_,_=>by
  rw[Gm,sz,Uc,Nat.add_zero];exact Rds.refl a
 |m::r,hm,a,h,hf=>by
  rw[Jz]at h hf ⊢;rw[PlL]at h;obtain⟨h1,h2⟩:=h;obtain⟨h3,h4⟩:=PlL.app h2;have c0:=Gh (x:=32) h1;have e:a+sz (bSp::(pP QT CT 6 m++pB QT CT 6 bSp r))=a+1+sz (pP QT CT 6 m)+sz (pB QT CT 6 bSp r):=by
   rw[sz,Kp,show bSp.size=1 from rfl];omega
  rw[e]at hf ⊢;have hfm:Fol X (a+1+sz (pP QT CT 6 m)):=by
   cases r with
   |nil=>rw[Gm,sz,Nat.add_zero]at hf;exact hf
   |cons m2 r2=>
    rw[Jz,PlL]at h4;exact Kc (Gh (x:=32) h4.1) (by decide)
  have hp:=Mv 6 (hm m (by simp)) h3 hfm;have hr:=z2L r (fun x hx=>hm x (by simp[hx])) _ h4 hf;rw[Um];exact(Ap c0 (by decide)).trans (hp.trans hr)
theorem z2M:∀(s:List Nd),(∀m∈s,RN X Nm QT CT m)->∀a,PlL X a (pB QT CT 7 bSl s)->Fol X (a+sz (pB QT CT 7 bSl s))->Rds X a (a+sz (pB QT CT 7 bSl s)) (kB s)
 |[],_,a,_,_=>by
  rw[Gm,sz,Ad,Nat.add_zero];exact Rds.refl a
 |m::r,hm,a,h,hf=>by
  rw[Jz]at h hf ⊢;rw[PlL]at h;obtain⟨h1,h2⟩:=h;obtain⟨h3,h4⟩:=PlL.app h2;have e:a+sz (bSl::(pP QT CT 7 m++pB QT CT 7 bSl r))=a+3+sz (pP QT CT 7 m)+sz (pB QT CT 7 bSl r):=by
   rw[sz,Kp,show bSl.size=3 from rfl];omega
  rw[e]at hf ⊢;have hfm:Fol X (a+3+sz (pP QT CT 7 m)):=by
   cases r with
   |nil=>rw[Gm,sz,Nat.add_zero]at hf;exact hf
   |cons m2 r2=>
    rw[Jz,PlL]at h4;have h0:bt X (a+3+sz (pP QT CT 7 m))=some 32:=h4.1.2 0 (by decide);exact Kc h0 (by decide)
  have hp:=Mv 7 (hm m (by simp)) h3 hfm;have hr:=z2M r (fun x hx=>hm x (by simp[hx])) _ h4 hf;rw[Mz];exact(z7V h1).trans (hp.trans hr)
theorem z2N(hP:Pcs Nm QT CT):∀(N:Nat) (n:Nd),SizeOf.sizeOf n<N->Vk n->Wf Nm n->RN X Nm QT CT n
 |0,n,h,_,_=>by omega
 |N+1,.mk kd T C s p,hN,hv,hw=>by
  rw[Vk]at hv;rw[Wf]at hw;obtain⟨hv1,hvs⟩:=hv;obtain⟨w2,w5,wc,ws⟩:=hw;have wmem:∀m∈s,Wf Nm m:=by
   clear hN hv1 hvs
   induction s with
   |nil=>intro m hm;simp at hm
   |cons a r ih=>
    rw[WfL]at ws;intro m hm;rcases List.mem_cons.1 hm with rfl|hm
    ·exact ws.1
    ·exact ih ws.2 m hm
  have ih:∀m∈s,RN X Nm QT CT m:=fun m hm=>by
   have h3:=List.sizeOf_lt_of_mem hm;simp only[Nd.mk.sizeOf_spec]at hN;exact z2N hP N m (by omega) (hvs.mem m hm) (wmem m hm)
  intro a h hf;rw[pN]at h hf ⊢;rw[kN];by_cases h1:kd=1
  ·rw[if_pos h1]at h ⊢
   rw[if_pos h1];rw[PlL,PlL]at h;have:=(Dm (x:=40) (by decide) (Gh (x:=40) h.1)).trans (Dm (x:=41) (by decide) (Gh (x:=41) h.2.1));exact this
  ·rw[if_neg h1]at h hf ⊢
   rw[if_neg h1];by_cases h2:kd=2
   ·rw[if_pos h2]at h ⊢
    rw[if_pos h2];rw[PlL]at h;have hC:C=0:=by
     rcases hv1 with q|q|q|q|q|q|q
     ·omega
     ·exact q.2.1
     ·omega
     ·omega
     ·omega
     ·omega
     ·omega
    subst hC;have:=z7X hP (w2 h2) h.1;rw[sz,sz,Nat.add_zero];exact this
   ·rw[if_neg h2]at h hf ⊢
    rw[if_neg h2];by_cases h3:kd=3
    ·rw[if_pos h3]at h ⊢
     rw[if_pos h3];rw[PlL]at h;have hT:T={data:=#[]}:=by
      rcases hv1 with q|q|q|q|q|q|q
      ·omega
      ·omega
      ·exact q.2.1
      ·omega
      ·omega
      ·omega
      ·omega
     subst hT;have:=z7Y hP wc h.1;rw[sz,sz,Nat.add_zero];exact this
    ·rw[if_neg h3]at h hf ⊢
     rw[if_neg h3];by_cases h4:kd=4
     ·rw[if_pos h4]at h ⊢
      rw[if_pos h4];rw[PlL]at h;exact Dm (x:=46) (by decide) (Gh (x:=46) h.1)
     ·rw[if_neg h4]at h hf ⊢
      rw[if_neg h4];by_cases h5:kd=5
      ·rw[if_pos h5]at h hf ⊢
       rw[if_pos h5];rw[PlL]at h;have hC:C=0:=by
        rcases hv1 with q|q|q|q|q|q|q
        ·omega
        ·omega
        ·omega
        ·omega
        ·exact q.2.1
        ·omega
        ·omega
       subst hC;rw[sz,sz,Nat.add_zero]at hf ⊢;exact z2K hP (w5 h5) h.1 hf
      ·rw[if_neg h5]at h hf ⊢
       rw[if_neg h5];by_cases h6:kd=6
       ·rw[if_pos h6]at h hf ⊢
        rw[if_pos h6];cases s with
        |nil=>rw[pS,sz,Uc,Nat.add_zero];exact Rds.refl a
        |cons m r=>
         rw[Gd]at h hf ⊢;obtain⟨h7,h8⟩:=PlL.app h;rw[Kp,<-Nat.add_assoc]at hf ⊢;have hfm:Fol X (a+sz (pP QT CT 6 m)):=by
          cases r with
          |nil=>rw[Gm,sz,Nat.add_zero]at hf;exact hf
          |cons m2 r2=>
           rw[Jz,PlL]at h8;exact Kc (Gh (x:=32) h8.1) (by decide)
         rw[Um];exact(Mv 6 (ih m (by simp)) h7 hfm).trans (z2L r (fun x hx=>ih x (by simp[hx])) _ h8 hf)
       ·rw[if_neg h6]at h hf ⊢
        rw[if_neg h6];by_cases h7:kd=7
        ·rw[if_pos h7]at h hf ⊢
         rw[if_pos h7];cases s with
         |nil=>rw[pS,sz,kA,Nat.add_zero];exact Rds.refl a
         |cons m r=>
          rw[Gd]at h hf ⊢;obtain⟨h8,h9⟩:=PlL.app h;rw[Kp,<-Nat.add_assoc]at hf ⊢;have hfm:Fol X (a+sz (pP QT CT 7 m)):=by
           cases r with
           |nil=>rw[Gm,sz,Nat.add_zero]at hf;exact hf
           |cons m2 r2=>
            rw[Jz,PlL]at h9;have h0:bt X (a+sz (pP QT CT 7 m))=some 32:=h9.1.2 0 (by decide);exact Kc h0 (by decide)
          rw[Il];exact(Mv 7 (ih m (by simp)) h8 hfm).trans (z2M r (fun x hx=>ih x (by simp[hx])) _ h9 hf)
        ·rw[if_neg h7]at h hf ⊢
         rw[if_neg h7];have h1s:s.length=1/\8<=kd/\kd<=12:=by
          rcases hv1 with q|q|q|q|q|q|q
          ·omega
          ·omega
          ·omega
          ·omega
          ·omega
          ·omega
          ·exact⟨q.2.2.2.2,q.1,q.2.1⟩
         obtain⟨m,rfl⟩:=Lz h1s.1;have hm:=ih m (by simp);rw[Gd,Gm,List.append_nil]at h hf ⊢;by_cases h11:kd=11∨kd=12
         ·rw[if_pos h11]at h hf ⊢
          rw[PlL]at h;rcases h11 with rfl|rfl
          ·rw[if_pos rfl,Um,Uc,List.append_nil]
           have c0:=Gh (x:=38) h.1;have e:a+sz (bsg 11::pP QT CT 11 m)=a+1+sz (pP QT CT 11 m):=by
            rw[sz,show(bsg 11).size=1 from rfl];omega
           rw[e]at hf ⊢;exact(Dm (x:=38) (by decide) c0).trans (Mv 11 hm h.2 hf)
          ·rw[if_neg (by decide),if_pos rfl,Um,Uc,List.append_nil]
           have c0:=Gh (x:=33) h.1;have e:a+sz (bsg 12::pP QT CT 12 m)=a+1+sz (pP QT CT 12 m):=by
            rw[sz,show(bsg 12).size=1 from rfl];omega
           rw[e]at hf ⊢;exact(Dm (x:=33) (by decide) c0).trans (Mv 12 hm h.2 hf)
         ·rw[if_neg h11]at h hf ⊢
          rw[if_neg (fun e=>h11 (.inl e)),if_neg (fun e=>h11 (.inr e)),Um,Uc,List.append_nil];obtain⟨h8,h9⟩:=PlL.app h;rw[PlL]at h9;have hb:bsg kd={data:=#[rpS kd]}:=by unfold bsg;rw[if_neg (fun e=>h11 (.inl e)),if_neg (fun e=>h11 (.inr e))]
          rw[hb]at h9;have c0:=Gh h9.1;have hmk:mkB (rpS kd).toNat=true/\(Qy (rpS kd).toNat||Xg (rpS kd).toNat)=false:=by
           unfold rpS;split
           ·decide
           ·split<;>decide
          rw[Kp,sz,sz,hb,show({data:=#[rpS kd]}:ByteArray).size=1 from rfl,Nat.add_zero,<-Nat.add_assoc];exact(Mv kd hm h8 (Kc c0 hmk.2)).trans (Dm hmk.1 c0)
end
end
section
def cat:List ByteArray->ByteArray
 |[]=>{data:=#[]}
 |p::r=>p++cat r
theorem My:∀(ps:List ByteArray),(cat ps).size=sz ps
 |[]=>rfl
 |p::r=>by rw[cat,ByteArray.size_append,My r,sz]
theorem Gp:∀(A B:List ByteArray),cat (A++B)=cat A++cat B
 |[],B=>by
  rw[List.nil_append,cat];apply Lg;intro j;rw[Ex,if_neg (by show ¬j<0;omega)];rfl
 |p::r,B=>by rw[List.cons_append,cat,cat,Gp r B,ByteArray.append_assoc]
theorem Wx:∀(ps:List ByteArray) (A:ByteArray),PlL (A++cat ps) A.size ps
 |[],A=>by rw[PlL];trivial
 |p::r,A=>by
  rw[PlL];refine⟨⟨?_,fun i hi=> ?_⟩,?_⟩
  ·rw[ByteArray.size_append,cat,ByteArray.size_append];omega
  ·rw[Ex,if_neg (by omega),Nat.add_sub_cancel_left,cat,Ex,if_pos hi]
  ·have:=Wx r (A++p)
   rw[ByteArray.size_append]at this;rw[cat,<-ByteArray.append_assoc];exact this
section
variable {Nm:ByteArray->Prop} {QT:ByteArray->ByteArray} {CT:Nat->ByteArray}
theorem Wj(hP:Pcs Nm QT CT){X:ByteArray}:∀(rs:List Rl) (a:Nat),(∀x∈rs,Ruk Nm x)->PlL X a (pR QT CT rs)->Rds X a (a+sz (pR QT CT rs)) (kR rs)
 |[],a,_,_=>by
  rw[pR,sz,kR,Nat.add_zero];exact Rds.refl a
 |x::r,a,hx,h=>by
  obtain⟨hn,hv,hw⟩:=hx x (by simp);rw[pR]at h ⊢;rw[PlL,PlL]at h;obtain⟨h1,h2,h3⟩:=h;obtain⟨h4,h5⟩:=PlL.app h3;rw[PlL]at h5;obtain⟨h6,h7⟩:=h5;have c0:bt X (a+x.1.size)=some 32:=h2.2 0 (by decide);have c1:bt X (a+x.1.size+bAr.size+sz (pN QT CT x.2.1))=some 10:=h6.2 0 (by decide);have r1:=z2K hP hn h1 (Kc c0 (by decide));have r2:=z7W h2;have r3:=z2N hP _ x.2.1 (Nat.lt_succ_self _) hv hw _ h4 (Kc c1 (by decide));have r4:=Ap c1 (by decide);have r5:=Wj hP r _ (fun y hy=>hx y (by simp[hy])) h7;have e:a+sz (x.1::bAr::(pN QT CT x.2.1++(bNl::pR QT CT r)))=a+x.1.size+bAr.size+sz (pN QT CT x.2.1)+bNl.size+sz (pR QT CT r):=by
   rw[sz,sz,Kp,sz];omega
  rw[e,kR];have:=r1.trans (r2.trans (r3.trans (r4.trans r5)));exact this
theorem z2O(hP:Pcs Nm QT CT){rs:List Rl}(hx:∀x∈rs,Ruk Nm x/\dN x.2.1<=24)(h1:0<rs.length)(h64:rs.length<=64)(h8:sz (pR QT CT rs)<=8192):∃rs',Yw (cat (pR QT CT rs))=.inr rs'/\RlL rs rs':=by
 obtain⟨X,hX⟩:∃X,X=cat (pR QT CT rs):=⟨_,rfl⟩;have hsz:X.size=sz (pR QT CT rs):=by rw[hX,My]
 have hpl:PlL X 0 (pR QT CT rs):=by
  have:=Wx (pR QT CT rs) {data:=#[]};have e:({data:=#[]}:ByteArray)++cat (pR QT CT rs)=X:=by
   rw[hX];apply Lg;intro j;rw[Ex,if_neg (by show ¬j<0;omega)];rfl
  rw[e]at this;exact this
 obtain⟨ts,e1,e2⟩:=Wj hP rs 0 (fun x h=>(hx x h).1) hpl;rw[Nat.zero_add,<-hsz,Aj (Vw L0q),Ij L0q]at e2;simp only[Ul,List.append_nil]at e2;have ht:tkS X=.inr (ts++[(6,{data:=#[]},0,X.size)]):=by
  unfold tkS;rw[e2];rfl
 have hlen:ts.length=(kR rs).length:=by
  have:=congrArg List.length e1;simpa using this
 have hgood:=Ip ht (by omega);rw[<-hX];unfold Yw;rw[ht];refine z7Q hgood.1.len (fun x h=>⟨(hx x h).1.2.1,(hx x h).2⟩) h1 h64 (fun i c hi=> ?_) (by simp;omega) ?_
 ·have hi2:i<ts.length:=by
   rcases Nat.lt_or_ge i ts.length with h|h
   ·exact h
   ·rw[List.getElem?_eq_none (by omega)]at hi;cases hi
  rw[Nat.zero_add,Id hi2];rw[<-e1,List.getElem?_map,List.getElem?_eq_getElem hi2]at hi;simpa using hi
 ·rw[<-hlen,Im L0q,Nat.sub_self]
  rfl
theorem Xk{p q:ByteArray}{x y:Nat}(h1:bt p 0=some x)(h2:bt q 0=some y)(h:x≠y):p≠q:=fun e=>by
 rw[e,h2]at h1;cases h1;exact h rfl
theorem z2P:bC≠bO:=Xk (x:=41) (y:=40) rfl rfl (by decide)
theorem Oz(kd:Nat):bsg kd≠bO/\bsg kd≠bC:=by
 unfold bsg rpS;split
 ·exact⟨Xk (x:=38) (y:=40) rfl rfl (by decide),Xk (x:=38) (y:=41) rfl rfl (by decide)⟩
 ·split
  ·exact⟨Xk (x:=33) (y:=40) rfl rfl (by decide),Xk (x:=33) (y:=41) rfl rfl (by decide)⟩
  ·split
   ·exact⟨Xk (x:=63) (y:=40) rfl rfl (by decide),Xk (x:=63) (y:=41) rfl rfl (by decide)⟩
   ·split
    ·exact⟨Xk (x:=42) (y:=40) rfl rfl (by decide),Xk (x:=42) (y:=41) rfl rfl (by decide)⟩
    ·exact⟨Xk (x:=43) (y:=40) rfl rfl (by decide),Xk (x:=43) (y:=41) rfl rfl (by decide)⟩
theorem Oq:bE≠bO/\bE≠bC:=⟨fun e=>by have:=congrArg ByteArray.size e;simp[bE,bO,ByteArray.size]at this,fun e=>by have:=congrArg ByteArray.size e;simp[bE,bC,ByteArray.size]at this⟩
theorem z2Q:bSp≠bO/\bSp≠bC:=⟨Xk (x:=32) (y:=40) rfl rfl (by decide),Xk (x:=32) (y:=41) rfl rfl (by decide)⟩
theorem z2R:bSl≠bO/\bSl≠bC:=⟨Xk (x:=32) (y:=40) rfl rfl (by decide),Xk (x:=32) (y:=41) rfl rfl (by decide)⟩
theorem z2S(P:ByteArray):Pl P 0 P:=⟨by omega,fun i _=>by rw[Nat.zero_add]⟩
theorem z2T(hP:Pcs Nm QT CT){T:ByteArray}(h:Nm T):T≠bO/\T≠bC:=by
 obtain⟨_,⟨x,hx,hl⟩,_⟩:=hP.nm T h;have:x≠40/\x≠41:=by
  unfold Qy at hl;simp at hl;omega
 exact⟨Xk hx (y:=40) rfl this.1,Xk hx (y:=41) rfl this.2⟩
def dR:List Rl->Nat
 |[]=>0
 |x::r=>max (dN x.2.1) (dR r)
theorem z2U{rs:List Rl}{d:Nat}:dR rs<=d↔∀x∈rs,dN x.2.1<=d:=by
 induction rs with
 |nil=>simp[dR]
 |cons x r ih=>
  rw[dR];constructor
  ·intro h y hy
   rcases List.mem_cons.1 hy with rfl|hy
   ·omega
   ·exact ih.1 (by omega) y hy
  ·intro h
   have h1:=h x (by simp);have h2:=ih.2 (fun y hy=>h y (by simp[hy]));omega
end
end
section
mutual
def eN:Nd->Bool
 | .mk kd T C s p=>decide (kd=1)||eL s
def eL:List Nd->Bool
 |[]=>false
 |n::r=>eN n||eL r
end
theorem Wk:∀(a b:List Nd),eL (a++b)=(eL a||eL b)
 |[],b=>by rw[List.nil_append,eL,Bool.false_or]
 |n::r,b=>by rw[List.cons_append,eL,eL,Wk r b,Bool.or_assoc]
theorem Wv(over:Nat):∀(a b:List Nd),dS over (a++b)=max (dS over a) (dS over b)
 |[],b=>by rw[List.nil_append,dS,Nat.zero_max]
 |n::r,b=>by rw[List.cons_append,Vv,Vv,Wv over r b,Nat.max_assoc]
theorem z2V(over:Nat)(n:Nd):dN n<=dP over n/\dP over n<=dN n+1:=by
 unfold dP;split<;>omega
theorem z7Z(n:Nd):dP 11 n<=dP 8 n:=by
 unfold dP;rw[Mq,wr8];by_cases h:n.kd=6∨n.kd=7∨n.kd=11∨n.kd=12
 ·rw[decide_eq_true h,decide_eq_true (show 6<=n.kd by omega)]
  exact Nat.le_refl _
 ·rw[decide_eq_false h]
  simp only[Bool.false_eq_true,if_false];split<;>omega
theorem z8a(n:Nd):dP 6 n<=dP 11 n:=by
 unfold dP;rw[Mq,wr6];by_cases h:n.kd=6∨n.kd=7
 ·rw[decide_eq_true h,decide_eq_true (show n.kd=6∨n.kd=7∨n.kd=11∨n.kd=12 by omega)]
  exact Nat.le_refl _
 ·rw[decide_eq_false h]
  simp only[Bool.false_eq_true,if_false];split<;>omega
theorem z8b(n:Nd):dP 7 n<=dP 6 n:=by
 unfold dP;rw[wr7,wr6];by_cases h:n.kd=7
 ·rw[decide_eq_true h,decide_eq_true (show n.kd=6∨n.kd=7 from .inr h)]
  exact Nat.le_refl _
 ·rw[decide_eq_false h]
  simp only[Bool.false_eq_true,if_false];split<;>omega
def Dq(g:Nd->Nat)(d:Nat)(r:Pr):Prop:=∀n k,r=.inr (n,k)->eN n=false->g n<=d
section
variable {L:List Tok}
theorem Ox{kd:Nat}{T:ByteArray}{C p:Nat}(h:kd=2∨kd=3∨kd=4∨kd=5)(d:Nat):dP 8 (.mk kd T C [] p)<=d:=by
 unfold dP;rw[wr8];show(if decide (6<=kd)=true then _ else _)<=d;rw[decide_eq_false (by omega)];simp only[Bool.false_eq_true,if_false];rw[dN,if_neg (by omega),dS];exact Nat.zero_le _
theorem Ww{inn:Nat->Pr}{d:Nat}(hi:∀k,Dq (dP 8) d (inn k))(k:Nat):Dq (dP 8) d (Zj L inn k):=by
 intro n k' h he;unfold Zj at h;split at h
 ·simp only[Sum.inr.injEq,Prod.mk.injEq]at h
  rw[<-h.1];exact Ox (by omega) d
 ·split at h
  ·simp only[Sum.inr.injEq,Prod.mk.injEq]at h
   rw[<-h.1];exact Ox (by omega) d
  ·split at h
   ·simp only[Sum.inr.injEq,Prod.mk.injEq]at h
    rw[<-h.1];exact Ox (by omega) d
   ·split at h
    ·simp only[Sum.inr.injEq,Prod.mk.injEq]at h
     rw[<-h.1];exact Ox (by omega) d
    ·split at h
     ·exact hi k n k' h he
     ·cases h
theorem z8c{T:ByteArray}(h:rpK T≠0):rpK T=8∨rpK T=9∨rpK T=10:=by
 unfold rpK at h ⊢;split
 ·exact .inl rfl
 ·split
  ·exact .inr (.inl rfl)
  ·split
   ·exact .inr (.inr rfl)
   ·rename_i h1 h2 h3
    rw[if_neg h1,if_neg h2,if_neg h3]at h;exact absurd rfl h
theorem z2W{kd:Nat}{T:ByteArray}{C p:Nat}{m:Nd}(h:eN (.mk kd T C [m] p)=false):eN m=false:=by
 rw[eN,eL,eL]at h;simp at h;exact h.2
theorem Wy{d:Nat}{r:Pr}(hr:Dq (dP 8) d r):Dq (dP 11) d (Xq L r):=by
 intro n k' h he;cases r with
 |inl e=>cases h
 |inr q=>
  obtain⟨m,j⟩:=q;unfold Xq at h;simp only at h;split at h
  ·simp only[Sum.inr.injEq,Prod.mk.injEq]at h
   obtain⟨rfl,rfl⟩:=h;have:=hr m j rfl he;have:=z7Z m;omega
  ·rename_i hs
   have hk:=z8c hs;simp only[Sum.inr.injEq,Prod.mk.injEq]at h;obtain⟨rfl,_⟩:=h;have h1:=hr m j rfl (z2W he);unfold dP;rw[Mq];show(if decide (rpK (sgT (gL L j))=6∨rpK (sgT (gL L j))=7∨rpK (sgT (gL L j))=11∨rpK (sgT (gL L j))=12)=true then _ else _)<=d;rw[decide_eq_false (by omega)];simp only[Bool.false_eq_true,if_false];rw[(Sd hk).2];exact h1
theorem z8d{inn:Nat->Pr}{d:Nat}(hi:∀k,Dq (dP 8) d (inn k))(k:Nat):Dq (dP 6) d (Zh L inn k):=by
 have ov:∀(kd p:Nat) (r:Pr),(kd=11∨kd=12)->Dq (dP 11) d r->Dq (dP 6) d (ovS kd p r):=fun kd p r hk hr n k' h he=>by
  cases r with
  |inl e=>cases h
  |inr q=>
   obtain⟨m,j⟩:=q;simp only[ovS,Sum.inr.injEq,Prod.mk.injEq]at h;obtain⟨rfl,_⟩:=h;have h1:=hr m j rfl (z2W he);unfold dP;rw[wr6];show(if decide (kd=6∨kd=7)=true then _ else _)<=d;rw[decide_eq_false (by omega)];simp only[Bool.false_eq_true,if_false];rw[(Sp hk).2];exact h1
 unfold Zh;split
 ·exact ov 12 _ _ (.inr rfl) (Wy (Ww hi _))
 ·split
  ·exact ov 11 _ _ (.inl rfl) (Wy (Ww hi _))
  ·intro n k' h he
   have h1:=Wy (Ww hi _) n k' h he;have:=z8a n;omega
theorem z2X{kd:Nat}:∀{l:List Nd},l≠[]->kd≠1->eN (Yv kd l)=eL l
 |[],h,_=>absurd rfl h
 |[n],_,_=>by rw[Yv,eL,eL,Bool.or_false]
 |n::m::r,_,h=>by
  show eN (.mk kd _ 0 (n::m::r) n.at')=_;rw[eN,decide_eq_false h,Bool.false_or]
theorem Wg{inn:Nat->Pr}{d:Nat}(hi:∀k,Dq (dP 8) d (inn k)):∀(f k:Nat) (acc:List Nd),(eL acc=false->dS 6 acc<=d)->Dq (dP 7) d (Qb L inn f k acc)
 |0,_,_,_=>fun n k' h _=>by rw[Qb]at h;cases h
 |f+1,k,acc,ha=>fun n k' h he=>by
  rw[Qb]at h;split at h
  ·split at h
   ·cases h
   ·rename_i m j hp
    refine Wg hi f j (acc++[m]) (fun hel=> ?_) n k' h he;rw[Wk,eL,eL,Bool.or_false]at hel;simp at hel;have h1:=ha hel.1;have h2:=z8d hi k m j hp hel.2;rw[Wv,Vv,dS];omega
  ·split at h
   ·simp only[Sum.inr.injEq,Prod.mk.injEq]at h
    rw[<-h.1,eN]at he;simp at he
   ·rename_i hne
    simp only[Sum.inr.injEq,Prod.mk.injEq]at h;obtain⟨rfl,_⟩:=h;have hn:acc≠[]:=fun e=>hne (by rw[e];rfl)
    rw[z2X hn (by decide)]at he;have h1:=ha he
    match acc,hn with
    |[n],_=>
     rw[Vv,dS]at h1;have:=z8b n;show dP 7 n<=d;omega
    |n::m::r,_=>
     show dP 7 (.mk 6 _ 0 (n::m::r) n.at')<=d;rw[(Sh (n:=.mk 6 _ 0 (n::m::r) n.at') (by show(6:Nat)≠7;decide)).2,dN,if_neg (by decide)];exact h1
theorem z2Y{inn:Nat->Pr}{d:Nat}(hi:∀k,Dq (dP 8) d (inn k)):∀(f k:Nat) (acc:List Nd),acc≠[]->(eL acc=false->dS 7 acc<=d)->Dq dN d (Zw L inn f k acc)
 |0,_,_,_,_=>fun n k' h _=>by rw[Zw]at h;cases h
 |f+1,k,acc,hn,ha=>fun n k' h he=>by
  rw[Zw]at h;split at h
  ·split at h
   ·cases h
   ·rename_i m j hp
    refine z2Y hi f j (acc++[m]) (by simp) (fun hel=> ?_) n k' h he;rw[Wk,eL,eL,Bool.or_false]at hel;simp at hel;have h1:=ha hel.1;have h2:=Wg hi _ _ [] (fun _=>by rw[dS];exact Nat.zero_le _) m j hp hel.2;rw[Wv,Vv,dS];omega
  ·simp only[Sum.inr.injEq,Prod.mk.injEq]at h
   obtain⟨rfl,_⟩:=h;rw[z2X hn (by decide)]at he;have h1:=ha he
   match acc,hn with
   |[n],_=>
    rw[Vv,dS]at h1;have:=(z2V 7 n).1;show dN n<=d;omega
   |n::m::r,_=>
    show dN (.mk 7 _ 0 (n::m::r) n.at')<=d;rw[dN,if_neg (by decide)];exact h1
theorem z2Z{inn:Nat->Pr}{d:Nat}(hi:∀k,Dq (dP 8) d (inn k))(k:Nat):Dq dN d (chS L inn k):=by
 intro n k' h he;unfold chS at h;cases hr:Qb L inn L.length k []with
 |inl e=>rw[hr]at h;cases h
 |inr q=>
  obtain⟨m,j⟩:=q;rw[hr]at h;refine z2Y hi _ j [m] (by simp) (fun hel=> ?_) n k' h he;rw[eL,eL,Bool.or_false]at hel;have h1:=Wg hi _ _ [] (fun _=>by rw[dS];exact Nat.zero_le _) m j hr hel;rw[Vv,dS];omega
theorem z3a:∀(d k:Nat),Dq (dP 8) d (Ql L d k)
 |0,k=>fun n k' h _=>by rw[Ql]at h;cases h
 |d+1,k=>fun n k' h he=>by
  rw[Ql]at h;obtain⟨j,h1,_⟩:=Iy h;have:=z2Z (z3a d) (k+1) n j h1 he;have:=(z2V 8 n).2;omega
theorem z3b{ru k k':Nat}{x:Rl}(h:ruS L ru k=.inr (x,k'))(he:eN x.2.1=false):dN x.2.1<=24:=
 z2Z (z3a 24) (k+2) _ _ (z1M h).1 he
theorem z3c:∀(f k:Nat) (acc rs:List Rl),Zy L f k acc=.inr rs->(∀x∈acc,eN x.2.1=false->dN x.2.1<=24)->∀x∈rs,eN x.2.1=false->dN x.2.1<=24
 |0,_,_,_,h,_=>by rw[Zy]at h;cases h
 |f+1,k,acc,rs,h,ha=>by
  rw[Zy]at h;split at h
  ·simp only[Sum.inr.injEq]at h;subst h;exact ha
  ·split at h
   ·cases h
   ·rename_i x k' hr
    refine z3c f k' (acc++[x]) rs h (fun y hy hey=> ?_);rcases List.mem_append.1 hy with hy|hy
    ·exact ha y hy hey
    ·simp at hy
     subst hy;exact z3b hr hey
theorem z8e{rs:List Rl}(h:Zf L=.inr rs):∀x∈rs,eN x.2.1=false->dN x.2.1<=24:=by
 unfold Zf at h;cases hr:ruS L 0 0 with
 |inl c=>rw[hr]at h;cases h
 |inr q=>
  obtain⟨x,k'⟩:=q;rw[hr]at h;refine z3c _ _ _ _ h (fun y hy hey=> ?_);simp at hy;subst hy;exact z3b hr hey
end
end
end Go.Proofs.YtikfnaffiehpaaaGreatDoor
