/- Lemmas for the last text. Conditions: those that each names. -/
import Derived.Test.YtmelafeingcgnaaGreatDoorVC7ToC9
import Derived.Test.YtmelafeingcgnaaGreatDoorVU15ToT11
import Derived.Test.YtmelafeingcgnaaGreatDoorVT13ToT15
import Derived.Test.YtmelafeingcgnaaGreatDoorVY15ToX17
import Derived.Deep.RegionHeld3
import Derived.Deep.AppendLies
import Derived.Deep.RegionLaw
import Derived.Deep.DeepCutAuto
import Derived.Test.YtmelafeingcgnaaGreatDoorVT21ToPD
import Derived.ChangeKeys
set_option linter.unusedVariables false
namespace Go.Proofs.YtmelafeingcgnaaGreatDoor
open Go.Proofs.Tryz
open Go.RowKit Go.Shelf Go.Maps
theorem z4R(h:Nat)(o:zA)(n:Nd)(q:List Nd):sz (pS qT cT h o (n::q))=sz (pP qT cT h n)+sz (pB qT cT h o q):=by rw[pS,Xv];rfl
theorem y4m(h:Nat)(o:zA)(n:Nd)(q:List Nd):sz (pB qT cT h o (n::q))=o.size+(sz (pP qT cT h n)+sz (pB qT cT h o q)):=by rw[pB,sz,Xv];rfl
theorem y4n(kd:Nat)(h:8<=kd)(o:kd<=12):1<=(bsg kd).size:=by
 have:kd=8∨kd=9∨kd=10∨kd=11∨kd=12:=by omega
 rcases this with rfl|rfl|rfl|rfl|rfl<;>decide
mutual
theorem If:∀(t:RT) (n:Nd),Tq t n->Vk n->ndT t<=2*sz (pN qT cT n)+1
 | .mk k T a b c d s p,.mk kd T' C s' p',hq,hv=>by
   rw[Tq]at hq;obtain⟨hk,hT,_,_,_,_,hl⟩:=hq;rw[Vk]at hv;rw[ndT];have A:s'=[]->ndL s=0:=fun e=>by
    subst e;cases s with
    |nil=>rw[ndL]
    |cons t r=>simp[TqL]at hl
   rcases hv.1 with⟨_,_,_,e⟩|⟨_,_,e⟩|⟨_,_,e⟩|⟨_,_,_,e⟩|⟨_,_,e⟩|⟨E,_,_,D⟩|⟨G,U,_,_,V⟩
   ·rw[A e];omega
   ·rw[A e];omega
   ·rw[A e];omega
   ·rw[A e];omega
   ·rw[A e];omega
   ·have Qm:∀h o,1<=o.size->1+ndL s<=2*sz (pS qT cT h o s')+1:=fun h o Y=>by
     cases s with
     |nil=>cases s' with
      |nil=>simp at D
      |cons n q=>simp[TqL]at hl
     |cons t r=>
      cases s' with
      |nil=>simp[TqL]at hl
      |cons n q=>
       rw[TqL]at hl;have y:=hv.2;rw[VkL]at y;have Z:=If t n hl.1 y.1;have i2:=z4S r q h o Y hl.2 y.2;have i3:=Dq h n;have i4:q.length=r.length:=hl.2.length';simp only[List.length_cons]at D;rw[ndL,z4R];omega
    rcases E with rfl|rfl
    ·rw[pN]
     simp only[Nat.reduceEqDiff,if_false,if_true];exact Qm 6 bSp (by decide)
    ·rw[pN]
     simp only[Nat.reduceEqDiff,if_false,if_true];exact Qm 7 bSl (by decide)
   ·have Qm:∀h o,ndL s<=2*sz (pS qT cT h o s')+1:=fun h o=>by
     cases s with
     |nil=>rw[ndL];omega
     |cons t r=>
      cases s' with
      |nil=>simp[TqL]at hl
      |cons n q=>
       rw[TqL]at hl;have y:=hv.2;rw[VkL]at y;have Z:=If t n hl.1 y.1;have i3:=Dq h n;have i4:q.length=r.length:=hl.2.length';simp only[List.length_cons]at V;have i5:r=[]:=List.eq_nil_of_length_eq_zero (by omega);rw[i5,ndL,ndL,z4R];omega
    have hb:=y4n kd G U;rw[pN,if_neg (by omega),if_neg (by omega),if_neg (by omega),if_neg (by omega),if_neg (by omega),if_neg (by omega),if_neg (by omega)];by_cases h11:kd=11∨kd=12
    ·rw[if_pos h11,sz]
     have:=Qm kd bE;omega
    ·rw[if_neg h11,Xv,sz,sz]
     have:=Qm kd bE;omega
theorem z4S:∀(s:List RT) (q:List Nd) (o:Nat) (y:zA),1<=y.size->TqL s q->VkL q->ndL s+s.length<=2*sz (pB qT cT o y q)
 |[],_,_,_,_,_,_=>by rw[ndL];exact Nat.zero_le _
 |t::r,[],_,_,_,h,_=>by simp[TqL]at h
 |t::r,n::q,o,y,hs,h,hv=>by
  rw[TqL]at h;rw[VkL]at hv;have A:=If t n h.1 hv.1;have D:=z4S r q o y hs h.2 hv.2;have E:=Dq o n;rw[ndL,y4m,List.length_cons];omega
end
theorem wfU{a:Int}(h:0<=a/\a<18446744073709551616):(Lit.int .u64 a).wf=true:=WalkArith.wf_u64 (by omega)
theorem y4o(t:RT):1<=ndT t:=by
 cases t;rw[ndT];omega
theorem z4T:∀(s:List RT),s.length<=ndL s
 |[]=>by rw[ndL];exact Nat.le_refl _
 |t::r=>by
  have:=z4T r;have:=y4o t;rw[ndL,List.length_cons];omega
mutual
theorem z4U:∀(t:RT) (n:Nd),Tq t n->Vk n->okT t=true->RtU t->ndT t<=1048576->TrK t
 | .mk k T a b c d s p,.mk kd T' C s' p',hq,hv,hok,hu,hn=>by
   rw[Tq]at hq;obtain⟨D,E,_,_,_,_,hl⟩:=hq;rw[Vk]at hv;rw[okT,Bool.and_eq_true]at hok;have G:=y2d hok.1;rw[RtU]at hu;obtain⟨o,r,y,A,us⟩:=hu;rw[ndT]at hn;have U:=z4T s;have V:kd<=12:=by
    rcases hv.1 with⟨h,_⟩|⟨h,_⟩|⟨h,_⟩|⟨h,_⟩|⟨h,_⟩|⟨h|h,_⟩|⟨_,h,_⟩<;>omega
   rw[TrK];exact⟨⟨WalkArith.wf_i64 (by omega),by omega,wfU o,wfU r,wfU y,wfU A,by omega⟩,z4V s s' hl hv.2 hok.2 us (by omega)⟩
theorem z4V:∀(s:List RT) (q:List Nd),TqL s q->VkL q->okL s=true->Xh s->ndL s<=1048576->Gx s
 |[],_,_,_,_,_,_=>by rw[Gx];trivial
 |t::r,[],h,_,_,_,_=>by simp[TqL]at h
 |t::r,n::q,h,hv,hok,hu,hn=>by
  rw[TqL]at h;rw[VkL]at hv;rw[okL,Bool.and_eq_true]at hok;rw[Xh]at hu;rw[ndL]at hn;rw[Gx];exact⟨z4U t n h.1 hv.1 hok.1 hu.1 (by omega),z4V r q h.2 hv.2 hok.2 hu.2 (by omega)⟩
end
theorem y4p{rs:List Rr}(h:∀x∈rs,ndT x.2.1<=16373):ndG rs<=16373*rs.length:=by
 induction rs with
 |nil=>rw[ndG];exact Nat.zero_le _
 |cons x r ih=>
  have A:=h x List.mem_cons_self;have D:=ih fun y o=>h y (List.mem_cons_of_mem _ o)
  rw[ndG,List.length_cons];omega
theorem y4q{rs:List Rr}(h:PrG rs){x:Rr}(hx:x∈rs):x.1.size<=1073741824:=by
 obtain⟨r,ns,D,E,G,_⟩:=h;have A:=Gc r _ hx;have o:=A.1;unfold nmS at o;cases hb:bt x.1 0 with
 |none=>rw[hb]at o;cases o
 |some y=>
  rw[hb]at o;simp only[Bool.and_eq_true,decide_eq_true_eq]at o;omega
theorem z4W{rs:List Rr}(h:okG rs=true)(E:ckR rs=none)(o:PrG rs)(G:RgZ rs)(U:RgU rs):rs.length<=64/\(∀x∈rs,TrK x.2.1/\x.1.size<=1073741824)/\ndG rs<=1048576:=by
 have hl:=(Gz h).2;have r:∀x∈rs,ndT x.2.1<=16373/\TrK x.2.1:=fun x hx=>by
  obtain⟨h,_,⟨y,A,D,V,Y,_⟩,_⟩:=Sf o E G hx;have Z:=If _ y A D;exact⟨by omega,z4U _ y A D h (U x hx) (by omega)⟩
 have h3:=y4p fun x hx=>(r x hx).1
 refine⟨hl,fun x hx=>⟨(r x hx).2,?_⟩,by omega⟩;exact y4q o hx
theorem y4r(r:Option Addr)(n D:Nat)(rs:List Rr)(X:Option (Int ⊕ (Int×Int)))(B:Nat)(G:Addr)(w:World)(U:CkX rs X)(V:X=none->PrG rs)(hC:CkC r n D rs X w)(Y:RgZ rs)(hu:RgU rs)(h:Qg w B r n rs)(E:B<=w.heap.size)(hT:TabIs w)(hF:zC w (1) 0 (.iface 405 (.pointer (some G))))(aa:Xm w)(W:World)(y:zB w W):
  Calls prog 19 #[.agg #[.slice r n D]] W (MaQ (fun T=>fdI T (nmL rs)) rs (soZ rs X≠none) W):=by
 refine y4l r n D rs (soZ rs X≠none) W (hid ((h.below (y.mono E)).upto (Nat.le_trans E y.size))) (hid h.1) (hid (aa.below y)) (hid fun W' ab=> ?_) (hid fun hE=> ?_)
 ·refine(y3z r n D rs X B G w U V hC Y h E hT hF W' (y.trans (ab.mono y.size))).mono fun e w' he=> ?_
  obtain⟨v,rfl,A,Z⟩:=he;by_cases o:soZ rs X=none
  ·rw[o]at A
   have A:v=.nilIface:=A;subst A;exact⟨.inr ⟨fun ac=>ac o,rfl⟩,Z⟩
  ·obtain⟨tt,uu,rfl⟩:=A.shape o
   exact⟨.inl ⟨o,tt,uu,rfl⟩,Z⟩
 ·have o:soZ rs X=none:=Classical.not_not.1 hE
  obtain rfl:X=none:=by
   cases X with
   |none=>rfl
   |some x=>unfold soZ at o;cases o
  obtain⟨ad,ae,_⟩:=U;obtain⟨h1,h2,h3⟩:=z4W ad ae (V rfl) Y hu;exact⟨by have:=h.1;omega,h2,h3⟩
theorem Ig(C i:Nat):(0:Int)<=(wd C i:Nat)/\((wd C i:Nat):Int)<18446744073709551616:=by
 have:=Zf C i;omega
mutual
theorem z4X:∀n:Nd,RtU (toR n)
 | .mk kd T C s p=>by rw[toR,RtU];exact⟨Ig C 0,Ig C 1,Ig C 2,Ig C 3,z4Y s⟩
theorem z4Y:∀s:List Nd,Xh (Vq s)
 |[]=>by rw[Vq,Xh];trivial
 |n::r=>by rw[Vq,Xh];exact⟨z4X n,z4Y r⟩
end
theorem y4s{us:List (List Int)}(h:∀i x:Nat,(x:Int)∈us.getD i []->i<x){x i:Nat}(o:Rch us x i):x<=i:=by
 induction o with
 |refl=>exact Nat.le_refl _
 |step _ hm ih=>exact Nat.le_trans ih (Nat.le_of_lt (h _ _ hm))
theorem y4t{us:List (List Int)}(h:∀i x:Nat,(x:Int)∈us.getD i []->i<x)(i:Nat):¬Bck us i:=fun⟨x,hx,o⟩=>by
 have r:=h i x hx;have y:=y4s h o;omega
def pgG(rs:List Rr):List Int×List Ox:=mkG (fun T=>fdI T (nmL rs)) rs []
theorem Kg{W:World}{B e size n:Nat}{v:Value}{xs:List Value}(h:W.ownsRow B e size v n xs)(r:0<n):∃g c,v=zS g n c/\B<=g/\g<W.heap.size/\∀i u,xs[i]? =some u->zC W g i u:=by
 obtain⟨g,c,rfl,y,A⟩:=h.form r;refine⟨g,c,rfl,y,A,fun i u D=> ?_⟩;have o:=h.cells (g:=g) rfl i u D;have E:(⟨g,0,none⟩:Addr).add i=⟨g,i,none⟩:=by unfold Addr.add;split<;>simp_all
 rw[E]at o;exact o
theorem y4u{s:List UInt8}:∀{l},inA s l=false->s ∉ l
 |l,h,hm=>by rw[z4E hm]at h;cases h
def Onc(m:Int)(ops:List Ox):Prop:=(ops.map qB).Nodup/\∀i (hi:i<ops.length),∀x∈ops[i].2.2.2,0<=x/\x<if ops[i].1=5 then m else(i:Int)
theorem z4Z{m:Int}{ops:List Ox}{o:Ox}(h:Onc m ops)(A:∀x∈o.2.2.2,0<=x/\x<if o.1=5 then m else(ops.length:Int)):Onc m (plO o ops).2:=by
 unfold plO;split
 ·exact h
 ·rename_i y
  have y:inA (qB o) (ops.map qB)=false:=by simpa using y
  refine⟨?_,fun i r=> ?_⟩
  ·show((ops++[o]).map qB).Nodup
   rw[List.map_append,List.nodup_append];refine⟨h.1,by simp,fun a ha b D e=> ?_⟩;obtain rfl:b=qB o:=by simpa using D
   exact y4u y (e▸ha)
  ·have r:i<(ops++[o]).length:=r
   rw[List.length_append]at r;show ∀x∈(ops++[o])[i].2.2.2,0<=x/\x<if(ops++[o])[i].1=5 then m else(i:Int)
   by_cases e:i<ops.length
   ·rw[List.getElem_append_left e]
    exact h.2 i e
   ·obtain rfl:i=ops.length:=by simp at r;omega
    rw[List.getElem_append_right L0q];simp only[Nat.sub_self,List.getElem_cons_zero];exact A
mutual
theorem z5a{ix:zA->Int}{m:Int}:∀(t:RT),(∀y∈rfT t,0<=ix y.1/\ix y.1<m)->∀ops:List Ox,Onc m ops->Onc m (mkT ix t ops).2
 | .mk k T a b c d s p,hr,ops,h=>by
   rw[mkT];by_cases h5:k=5
   ·rw[if_pos h5]
    refine z4Z h fun x hx=> ?_
    obtain rfl:x=ix T:=by simpa using hx
    rw[if_pos rfl];exact hr (T,p) (by rw[rfT,if_pos h5];exact List.mem_singleton.2 rfl)
   ·rw[if_neg h5]
    have o:=z5b s (fun y r=>hr y (by rw[rfT,if_neg h5];exact r)) ops h;refine z4Z o fun x hx=> ?_
    have:=(Gl ix s ops).2.1.2 x hx;rw[if_neg h5];exact this
theorem z5b{ix:zA->Int}{m:Int}:∀(s:List RT),(∀y∈rfL s,0<=ix y.1/\ix y.1<m)->∀ops:List Ox,Onc m ops->Onc m (mkL ix s ops).2
 |[],_,ops,h=>by rw[mkL];exact h
 |t::r,hr,ops,h=>by
  rw[mkL];exact z5b r (fun y o=>hr y (by rw[rfL];exact List.mem_append.2 (.inr o))) _ (z5a t (fun y o=>hr y (by rw[rfL];exact List.mem_append.2 (.inl o))) ops h)
end
theorem z5c{ix:zA->Int}{m:Int}:∀(s:List Rr),(∀x∈s,∀y∈rfT x.2.1,0<=ix y.1/\ix y.1<m)->∀ops:List Ox,Onc m ops->Onc m (mkG ix s ops).2
 |[],_,ops,h=>by rw[mkG];exact h
 |x::r,hr,ops,h=>by
  rw[mkG];exact z5c r (fun y o=>hr y (List.mem_cons_of_mem _ o)) _ (z5a x.2.1 (hr x List.mem_cons_self) ops h)
theorem y4v{rs:List Rr}(o:ckR rs=none):Onc (rs.length:Int) (pgG rs).2:=by
 refine z5c rs (fun x hx y r=> ?_) [] ⟨by simp,fun i A=>by simp at A⟩;have h:inN y.1 (nmL rs)=true:=Aq (Hw o) y (Ky.2 ⟨x,hx,r⟩);have D:=Gh y.1 (nmL rs) h;have E:(nmL rs).length=rs.length:=by unfold nmL;rw[List.length_map]
 show 0<=fdI y.1 (nmL rs)/\fdI y.1 (nmL rs)<_;unfold fdI;rw[if_pos h];omega
theorem Wk{W:World}{B e size n:Nat}{v:Value}{xs:List Value}{r:Option Addr}{c:Nat}(h:W.ownsRow B e size v n xs)(o:v=.slice r n c):n<=c:=by
 rcases h.2 with⟨A,D⟩|⟨g,E,G,y,U,V,Y,Z⟩
 ·omega
 ·rw[y]at o
  injection o with _ _ e3
  omega
section
theorem z5d(u:Nat):∀x∈Lib.decDigits u,x≠32:=by
 induction u using Nat.strongRecOn with
 |_ u ih=>
  intro x hx;rw[Lib.decDigits]at hx;have o:∀d:Nat,d<10->UInt8.ofNat (48+d)≠32:=fun d y e=>by
   have:=congrArg UInt8.toNat e;rw[UInt8.toNat_ofNat']at this;have r:(32:UInt8).toNat=32:=rfl;rw[r]at this;omega
  by_cases h:u<10
  ·rw[dif_pos h]at hx
   obtain rfl:x=UInt8.ofNat (48+u):=by simpa using hx
   exact o u h
  ·rw[dif_neg h]at hx
   rcases List.mem_append.1 hx with hx|hx
   ·exact ih (u/10) (by omega) x hx
   ·obtain rfl:x=UInt8.ofNat (48+u%10):=by simpa using hx
    exact o _ (by omega)
theorem z5e(u:Nat):Lib.decDigits u≠[]:=by
 rw[Lib.decDigits];split<;>simp
theorem z5f{a b:Nat}(ha:a<10)(o:b<10)(h:UInt8.ofNat (48+a)=UInt8.ofNat (48+b)):a=b:=by
 have:=congrArg UInt8.toNat h;rw[UInt8.toNat_ofNat',UInt8.toNat_ofNat']at this;omega
theorem Wv{u:Nat}(h:¬u<10):Lib.decDigits u=Lib.decDigits (u/10)++[UInt8.ofNat (48+u%10)]:=by rw[Lib.decDigits,dif_neg h]
theorem y4w(u:Nat):∀v,Lib.decDigits u=Lib.decDigits v->u=v:=by
 induction u using Nat.strongRecOn with
 |_ u ih=>
  intro v h;by_cases hu:u<10
  ·rw[Lib.decDigits_one hu]at h
   by_cases hv:v<10
   ·rw[Lib.decDigits_one hv]at h
    injection h with h
    exact z5f hu hv h
   ·rw[Wv hv]at h
    have o:=congrArg List.length h;have r:=List.length_pos_iff.2 (z5e (v/10));simp only[List.length_append,List.length_cons,List.length_nil]at o;omega
  ·rw[Wv hu]at h
   by_cases hv:v<10
   ·rw[Lib.decDigits_one hv]at h
    have o:=congrArg List.length h;have r:=List.length_pos_iff.2 (z5e (u/10));simp only[List.length_append,List.length_cons,List.length_nil]at o;omega
   ·rw[Wv hv]at h
    obtain⟨o,r⟩:=List.append_inj' h rfl;have y:=ih (u/10) (by omega) _ o;injection r with r
    have A:=z5f (by omega) (by omega) r;omega
theorem y4x{a b r s:List UInt8}(ha:∀x∈a,x≠32)(A:∀x∈b,x≠32):a++32::r=b++32::s->a=b/\r=s:=by
 induction a generalizing b with
 |nil=>
  cases b with
  |nil=>intro h;injection h with _ h;exact⟨rfl,h⟩
  |cons y b=>intro h;injection h with h _;exact absurd h.symm (A y (by simp))
 |cons x a ih=>
  cases b with
  |nil=>intro h;injection h with h _;exact absurd h (ha x (by simp))
  |cons y b=>
   intro h;injection h with h1 h2
   obtain⟨D,E⟩:=ih (fun z o=>ha z (by simp[o])) (fun z o=>A z (by simp[o])) h2;exact⟨by rw[h1,D],E⟩
theorem z5g{x:Int}(h:0<=x):Lib.itoa x=Lib.decDigits x.toNat:=by
 unfold Lib.itoa;rw[if_neg (by omega)]
theorem z5h:∀(l l':List Int),(∀x∈l,0<=x)->(∀x∈l',0<=x)->sbT l=sbT l'->l=l'
 |[],[],_,_,_=>rfl
 |[],y::l',_,_,h=>by rw[sbT,sbT]at h;have:=congrArg List.length h;simp at this
 |x::l,[],_,_,h=>by rw[sbT,sbT]at h;have:=congrArg List.length h;simp at this
 |x::l,y::l',hl,hl',h=>by
  rw[sbT,sbT,z5g (hl x (by simp)),z5g (hl' y (by simp))]at h;obtain⟨r,A⟩:=y4x (z5d _) (z5d _) h;have E:=y4w _ _ r;have hx:=hl x (by simp);have G:=hl' y (by simp);have D:=z5h l l' (fun z o=>hl z (by simp[o])) (fun z o=>hl' z (by simp[o])) A;rw[D];congr 1;omega
def Wx(o:Ox):Prop:=qW o/\∀x∈o.2.2.2,0<=x
theorem y4y{o r:Ox}(h:Wx o)(E:Wx r)(e:qB o=qB r):o=r:=by
 obtain⟨k,N,⟨a,b,c,d⟩,s⟩:=o;obtain⟨k',A,⟨G,U,V,Y⟩,D⟩:=r;obtain⟨⟨w1,Z,w3,w4,w5,w6,w7⟩,w8⟩:=h;obtain⟨⟨v1,v2,v3,v4,v5,v6,v7⟩,v8⟩:=E;have hl:=keyBytes_inj (l:=[.int .i64 k,.string N.data.toList,.int .u64 a,.int .u64 b,.int .u64 c,.int .u64 d,.string (sbT s)]) (l':=[.int .i64 k',.string A.data.toList,.int .u64 G,.int .u64 U,.int .u64 V,.int .u64 Y,.string (sbT D)])
  ⟨rfl,trivial,rfl,rfl,rfl,rfl,trivial,trivial⟩
  (by
    intro x hx;simp only[List.mem_cons,List.not_mem_nil,or_false]at hx;rcases hx with rfl|rfl|rfl|rfl|rfl|rfl|rfl
    ·exact w1
    ·exact Z
    ·exact w3
    ·exact w4
    ·exact w5
    ·exact w6
    ·exact w7)
  (by
    intro x hx;simp only[List.mem_cons,List.not_mem_nil,or_false]at hx;rcases hx with rfl|rfl|rfl|rfl|rfl|rfl|rfl
    ·exact v1
    ·exact v2
    ·exact v3
    ·exact v4
    ·exact v5
    ·exact v6
    ·exact v7) e
 simp only[List.cons.injEq,Lit.int.injEq,Lit.string.injEq,true_and,and_true]at hl;obtain⟨rfl,y,rfl,rfl,rfl,rfl,hs⟩:=hl;have y:N=A:=by
  apply ByteArray.ext;exact Array.toList_inj.1 y
 rw[y,z5h s D w8 v8 hs]
theorem z5i{s:List UInt8}:∀{l:List (List UInt8)},inA s l=true->l[ixA s l]? =some s
 |[],h=>by simp[inA]at h
 |x::l,h=>by
  unfold ixA;unfold inA at h;by_cases e:x=s
  ·simp[e]
  ·simp[e]at h ⊢
   exact z5i h
theorem y4z{o:Ox}{ops:List Ox}(A:Wx o)(ha:∀r∈ops,Wx r):(plO o ops).2[(plO o ops).1]? =some o/\(∀r∈(plO o ops).2,Wx r)/\∃l,(plO o ops).2=ops++l/\(l=[]∨l=[o]):=by
 unfold plO;split
 ·rename_i h
  have D:=z5i h;rw[List.getElem?_map]at D;obtain⟨r,E,G⟩:=Option.map_eq_some_iff.1 D;have:=y4y (ha r (List.mem_of_getElem? E)) A G;subst this;exact⟨E,ha,[],by simp,.inl rfl⟩
 ·refine⟨by simp,fun r y=> ?_,[o],rfl,.inr rfl⟩
  rcases List.mem_append.1 y with y|y
  ·exact ha r y
  ·obtain rfl:r=o:=by simpa using y
   exact A
mutual
def Dn(ix:zA->Int)(ops:List Ox):RT->Int->Prop
 | .mk k T a b c d s _,n=>0<=n/\((k=5/\ops[n.toNat]? =some (5,{data:=#[]},(0,0,0,0),[ix T]))∨(k≠5/\∃l,ops[n.toNat]? =some (k,T,(a,b,c,d),l)/\DnL ix ops s l))
def DnL(ix:zA->Int)(ops:List Ox):List RT->List Int->Prop
 |[],l=>l=[]
 |t::r,l=>∃n l',l=n::l'/\Dn ix ops t n/\DnL ix ops r l'
end
mutual
theorem Dn.mono{ix:zA->Int}{ops:List Ox}(m:List Ox):∀(t:RT) (n:Int),Dn ix ops t n->Dn ix (ops++m) t n
 | .mk k T a b c d s p,n,h=>by
   rw[Dn]at h ⊢;have r:∀o,ops[n.toNat]? =some o->(ops++m)[n.toNat]? =some o:=fun o A=>by
    rw[List.getElem?_append_left (List.getElem?_eq_some_iff.1 A).1];exact A
   refine⟨h.1,h.2.imp (fun x=>⟨x.1,r _ x.2⟩) fun⟨x,l,y,z⟩=>⟨x,l,r _ y,DnL.mono m s l z⟩⟩
theorem DnL.mono{ix:zA->Int}{ops:List Ox}(m:List Ox):∀(s:List RT) (l:List Int),DnL ix ops s l->DnL ix (ops++m) s l
 |[],l,h=>by rw[DnL]at h ⊢;exact h
 |t::r,l,h=>by
  rw[DnL]at h ⊢;obtain⟨n,l',o,y,A⟩:=h;exact⟨n,l',o,Dn.mono m t n y,DnL.mono m r l' A⟩
end
def Src(Pt:RT->Prop)(ix:zA->Int)(ops:List Ox):Prop:=(∀o∈ops,Wx o)/\∀k,k<ops.length->∃t,Pt t/\Dn ix ops t (k:Int)
theorem z5j{A:RT->Prop}{ix:zA->Int}{ops:List Ox}{o:Ox}(G:Wx o)(h:Src A ix ops){t:RT}(U:A t)(E:∀D:List Ox,(∃m,D=ops++m)->∀n:Int,0<=n->D[n.toNat]? =some o->Dn ix D t n):Src A ix (plO o ops).2/\Dn ix (plO o ops).2 t ((plO o ops).1:Int):=by
 obtain⟨V,Y,l,r,Z⟩:=y4z G h.1;have aa:Dn ix (plO o ops).2 t ((plO o ops).1:Int):=E _ ⟨l,r⟩ _ (by omega) V;refine⟨⟨Y,fun k y=> ?_⟩,aa⟩;by_cases e:k<ops.length
 ·obtain⟨u,hu,ab⟩:=h.2 k e
  exact⟨u,hu,by rw[r];exact Dn.mono l u _ ab⟩
 ·refine⟨t,U,?_⟩
  rcases Z with rfl|rfl
  ·rw[r,List.append_nil]at y;exact absurd y e
  ·rw[r,List.length_append]at y
   obtain rfl:k=ops.length:=by simp at y;omega
   refine E _ ⟨_,r⟩ _ (by omega) ?_;rw[r];simp
theorem y4A{x:Int}(h:0<=x)(o:x<=1048576):Wx (5,{data:=#[]},(0,0,0,0),[x]):=⟨(Tp x ⟨by omega,o⟩).1,fun y r=>by
 obtain rfl:y=x:=by simpa using r
 exact h⟩
mutual
theorem z5k{r:RT->Prop}{ix:zA->Int}(D:∀k T a b c d s p,r (.mk k T a b c d s p)->∀t∈s,r t)(E:∀t,r t->TrK t)(hx:∀T a b c d s p,r (.mk 5 T a b c d s p)->0<=ix T/\ix T<=1048576):∀(t:RT) (ops:List Ox),r t->ops.length+ndT t<=1048576->Src r ix ops->Src r ix (mkT ix t ops).2/\Dn ix (mkT ix t ops).2 t ((mkT ix t ops).1:Int)
 | .mk k T a b c d s p,ops,ht,y,h=>by
   rw[mkT];rw[ndT]at y;by_cases h5:k=5
   ·subst h5
    rw[if_pos rfl];have G:=hx _ _ _ _ _ _ _ ht;refine z5j (y4A G.1 G.2) h ht fun V _ n y A=> ?_
    rw[Dn];exact⟨y,.inl ⟨rfl,A⟩⟩
   ·rw[if_neg h5]
    obtain⟨Y,Z⟩:=z5l D E hx s ops (D _ _ _ _ _ _ _ _ ht) (by omega) h;obtain⟨l1,⟨l2,U⟩,l4,l5⟩:=Gl ix s ops;have o:=E _ ht;rw[TrK]at o;have hw:Wx (k,T,(a,b,c,d),(mkL ix s ops).1):=by
     refine⟨⟨o.1.1,?_,o.1.2.2.1,o.1.2.2.2.1,o.1.2.2.2.2.1,o.1.2.2.2.2.2.1,?_⟩,fun x hx=>(U x hx).1⟩
     ·have:=o.1.2.1
      show T.size<=maxLen;unfold maxLen;omega
     ·have h8:=Td (mkL ix s ops).2.length (by omega) _ U
      have h9:=o.1.2.2.2.2.2.2;show(sbT (mkL ix s ops).1).length<=maxLen;rw[l2]at h8;unfold maxLen;omega
    refine z5j hw Y ht fun V hm n y A=> ?_
    obtain⟨m,rfl⟩:=hm;rw[Dn];exact⟨y,.inr ⟨h5,_,A,DnL.mono m s _ Z⟩⟩
theorem z5l{o:RT->Prop}{ix:zA->Int}(y:∀k T a b c d s p,o (.mk k T a b c d s p)->∀t∈s,o t)(A:∀t,o t->TrK t)(hx:∀T a b c d s p,o (.mk 5 T a b c d s p)->0<=ix T/\ix T<=1048576):∀(s:List RT) (ops:List Ox),(∀t∈s,o t)->ops.length+ndL s<=1048576->Src o ix ops->Src o ix (mkL ix s ops).2/\DnL ix (mkL ix s ops).2 s (mkL ix s ops).1
 |[],ops,_,_,h=>by rw[mkL,DnL];exact⟨h,rfl⟩
 |t::r,ops,ht,hn,h=>by
  rw[ndL]at hn;rw[mkL];obtain⟨D,E⟩:=z5k y A hx t ops (ht t (by simp)) (by omega) h;obtain⟨_,Z,l3,l4⟩:=Iw ix t ops;obtain⟨G,U⟩:=z5l y A hx r (mkT ix t ops).2 (fun u V=>ht u (by simp[V])) (by omega) D;obtain⟨_,_,m,Y⟩:=Gl ix r (mkT ix t ops).2;refine⟨G,?_⟩;rw[DnL];refine⟨_,_,rfl,?_,U⟩;show Dn ix (mkL ix r (mkT ix t ops).2).2 t _;rw[Y];exact Dn.mono m t _ E
end
theorem Ww{o:RT->Prop}{ix:zA->Int}(A:∀k T a b c d s p,o (.mk k T a b c d s p)->∀t∈s,o t)(D:∀t,o t->TrK t)(hx:∀T a b c d s p,o (.mk 5 T a b c d s p)->0<=ix T/\ix T<=1048576):∀(s:List Rr) (ops:List Ox),(∀x∈s,o x.2.1)->ops.length+ndG s<=1048576->Src o ix ops->Src o ix (mkG ix s ops).2/\∀j (y:j<s.length),∃n,(mkG ix s ops).1[j]? =some n/\Dn ix (mkG ix s ops).2 s[j].2.1 n
 |[],ops,_,_,h=>by rw[mkG];exact⟨h,fun j y=>by simp at y⟩
 |x::r,ops,ht,hn,h=>by
  rw[ndG]at hn;rw[mkG];obtain⟨E,G⟩:=z5k A D hx x.2.1 ops (ht x (by simp)) (by omega) h;obtain⟨_,l2,l3,l4⟩:=Iw ix x.2.1 ops;obtain⟨U,V⟩:=Ww A D hx r (mkT ix x.2.1 ops).2 (fun u Y=>ht u (by simp[Y])) (by omega) E;obtain⟨_,_,m,Z⟩:=Vv ix r (mkT ix x.2.1 ops).2;refine⟨U,fun j y=> ?_⟩;cases j with
  |zero=>
   refine⟨_,rfl,?_⟩;show Dn ix (mkG ix r (mkT ix x.2.1 ops).2).2 x.2.1 _;rw[Z];exact Dn.mono m _ _ G
  |succ j=>exact V j (by simpa using y)
section
variable {B:ByteArray->Option RT} {T:ByteArray} {ops:List Ox} {ro:List Int} {ix:ByteArray->Int}
def Mm(ops:List Ox)(ro:List Int)(T:zA)(ix:zA->Int):Jb->Nat->Option Nat->Nat->Prop
 | .one t,i,e,n=>∀k,Dn ix ops t k->Mo ops ro T (.nd k) i e n
 | .row s,i,e,n=>∀l,DnL ix ops s l->Mo ops ro T (.row l) i e n
 | .alt s,i,e,n=>∀l,DnL ix ops s l->Mo ops ro T (.alt l) i e n
 | .rep t,i,e,n=>∀k,Dn ix ops t k->Mo ops ro T (.rep k) i e n
theorem Ub{k:Int}{N:zA}{a b c d:Int}{s:List RT}{p n:Int}(h:Dn ix ops (.mk k N a b c d s p) n)(o:k≠5):∃l,ops[n.toNat]? =some (k,N,(a,b,c,d),l)/\DnL ix ops s l:=by
 rw[Dn]at h;rcases h.2 with h|h
 ·exact absurd h.1 o
 ·exact h.2
theorem Wy(E:∀N t,B N=some t->∃q,ro[(ix N).toNat]? =some q/\Dn ix ops t q){j:Jb}{i:Nat}{e:Option Nat}{n:Nat}(h:Mt B T j i e n):Mm ops ro T ix j i e n:=by
 induction h with
 |emp=>intro k o;obtain⟨l,y,r⟩:=Ub o (by decide);exact .nd y .emp
 |lit=>intro k o;obtain⟨l,y,r⟩:=Ub o (by decide);exact .nd y .lit
 |set=>intro k o;obtain⟨l,y,r⟩:=Ub o (by decide);exact .nd y .set
 |any=>intro k o;obtain⟨l,y,r⟩:=Ub o (by decide);exact .nd y .any
 |ref y _ ih=>
  intro k o;rw[Dn]at o;rcases o.2 with⟨_,o⟩|⟨o,_⟩
  ·obtain⟨q,r,A⟩:=E _ _ y
   exact .nd o (.ref r (ih q A))
  ·exact absurd rfl o
 |seq _ ih=>intro k o;obtain⟨l,y,r⟩:=Ub o (by decide);exact .nd y (.seq (ih l r))
 |cho _ ih=>intro k o;obtain⟨l,y,r⟩:=Ub o (by decide);exact .nd y (.cho (ih l r))
 |opt _ ih=>intro k o;obtain⟨l,y,r⟩:=Ub o (by decide);rw[DnL]at r;obtain⟨m,l',rfl,A,_⟩:=r;exact .nd y (.opt (ih m A))
 |star _ ih=>intro k o;obtain⟨l,y,r⟩:=Ub o (by decide);rw[DnL]at r;obtain⟨m,l',rfl,A,_⟩:=r;exact .nd y (.star (ih m A))
 |plus_no _ ih=>intro k o;obtain⟨l,y,r⟩:=Ub o (by decide);rw[DnL]at r;obtain⟨m,l',rfl,A,_⟩:=r;exact .nd y (.plus_no (ih m A))
 |plus_ok _ _ ih1 ih2=>intro k o;obtain⟨l,y,r⟩:=Ub o (by decide);rw[DnL]at r;obtain⟨m,l',rfl,A,_⟩:=r;exact .nd y (.plus_ok (ih1 m A) (ih2 m A))
 |and _ ih=>intro k o;obtain⟨l,y,r⟩:=Ub o (by decide);rw[DnL]at r;obtain⟨m,l',rfl,A,_⟩:=r;exact .nd y (.and (ih m A))
 |not _ ih=>intro k o;obtain⟨l,y,r⟩:=Ub o (by decide);rw[DnL]at r;obtain⟨m,l',rfl,A,_⟩:=r;exact .nd y (.not (ih m A))
 |row_nil=>intro l hl;rw[DnL]at hl;subst hl;exact .row_nil
 |row_no _ ih=>intro l hl;rw[DnL]at hl;obtain⟨m,l',rfl,A,_⟩:=hl;exact .row_no (ih m A)
 |row_ok _ _ ih1 ih2=>intro l hl;rw[DnL]at hl;obtain⟨m,l',rfl,A,D⟩:=hl;exact .row_ok (ih1 m A) (ih2 l' D)
 |alt_nil=>intro l hl;rw[DnL]at hl;subst hl;exact .alt_nil
 |alt_ok _ ih=>intro l hl;rw[DnL]at hl;obtain⟨m,l',rfl,A,_⟩:=hl;exact .alt_ok (ih m A)
 |alt_no _ _ ih1 ih2=>intro l hl;rw[DnL]at hl;obtain⟨m,l',rfl,A,D⟩:=hl;exact .alt_no (ih1 m A) (ih2 l' D)
 |rep_end _ ih=>intro k o;exact .rep_end (ih k o)
 |rep_go _ _ ih1 ih2=>intro k o;exact .rep_go (ih1 k o) (ih2 k o)
end
end
section
def Ptt(rs:List Rr)(t:RT):Prop:=okT t=true/\flT (kG rs) t=none/\(∀y∈rfT t,inN y.1 (nmL rs)=true)/\TrK t
theorem y4B{s:List RT}(h:Gx s){t:RT}(o:t∈s):TrK t:=by
 obtain⟨j,r,rfl⟩:=List.getElem_of_mem o;exact Tc h j r
theorem ok5{N:zA}{a b c d:Int}{s:List RT}{p:Int}(h:okT (.mk 5 N a b c d s p)=true):s=[]:=by
 rw[okT,Bool.and_eq_true]at h;have:=h.1;unfold okN at this;simp at this;have o:Qb s=0:=by omega
 cases s with
 |nil=>rfl
 |cons=>simp[Qb]at o
theorem Aw{rs:List Rr}:∀k T a b c d s p,Ptt rs (.mk k T a b c d s p)->∀t∈s,Ptt rs t:=fun k T a b c d s p ⟨r,o,D,A⟩ t h=>by
 have E:k≠5:=fun e=>by
  subst e;rw[ok5 r]at h;cases h
 rw[okT,Bool.and_eq_true]at r;rw[flT]at o;rw[TrK]at A;have G:flL (kG rs) s=none:=by
  by_cases e:(k=9∨k=10)/\(ofH (kG rs) s).1=true
  ·rw[if_pos e]at o;cases o
  ·rw[if_neg e]at o;exact o
 refine⟨Tv r.2 t h,Tj G t h,fun y U=>D y ?_,y4B A.2 h⟩;rw[rfT,if_neg E];exact Aj h U
theorem z5m{rs:List Rr}(hl:rs.length<=64):∀T a b c d s p,Ptt rs (.mk 5 T a b c d s p)->0<=fdI T (nmL rs)/\fdI T (nmL rs)<=1048576:=fun T a b c d s p ⟨_,_,o,_⟩=>by
 have h:=o (T,p) (by rw[rfT,if_pos rfl];exact List.mem_singleton.2 rfl);have:=Gh T (nmL rs) h;rw[Vj]at this;unfold fdI;rw[if_pos h];omega
structure Snd (rs:List Rr):Prop where
 ok:okG rs=true
 ck:ckR rs=none
 so:soZ rs none=none
 tr:∀x∈rs,TrK x.2.1
 nd:ndG rs<=1048576
 len:rs.length<=64
theorem Snd.pt{rs:List Rr}(h:Snd rs){x:Rr}(hx:x∈rs):Ptt rs x.2.1:=⟨Tg h.ok hx,Hc (Tf h.so) x hx,Iq h.ck hx,h.tr x hx⟩
theorem Snd.src{rs:List Rr}(h:Snd rs):Src (Ptt rs) (fun T=>fdI T (nmL rs)) (pgG rs).2/\∀j (D:j<rs.length),∃n,(pgG rs).1[j]? =some n/\Dn (fun T=>fdI T (nmL rs)) (pgG rs).2 rs[j].2.1 n:=
 Ww Aw (fun t r=>r.2.2.2) (z5m h.len) rs [] (fun x hx=>h.pt hx) (by have:=h.nd;simpa using this) ⟨(fun o y=>by cases y),fun k A=>by simp at A⟩
theorem Snd.roots{rs:List Rr}(h:Snd rs):∀N t,bdQ rs N=some t->∃q,(pgG rs).1[(fdI N (nmL rs)).toNat]? =some q/\Dn (fun T=>fdI T (nmL rs)) (pgG rs).2 t q:=fun N t o=>by
 have r:inN N (nmL rs)=true:=by
  obtain⟨x,hx,rfl,_⟩:=Dx o;exact Sz.2 (List.mem_map.2 ⟨x,hx,rfl⟩)
 obtain⟨y,A⟩:=Hl r;rw[A]at o;obtain rfl:=Option.some.inj o;obtain⟨n,D,E⟩:=h.src.2 _ y;refine⟨n,?_,E⟩;unfold fdI;rw[if_pos r,Int.toNat_natCast];exact D
theorem Snd.tot{rs:List Rr}(h:Snd rs)(T:zA){t:RT}(A:Ptt rs t){i:Nat}(E:i<=T.size):Dv (bdQ rs) T (.one t) i:=by
 have U:∀N t,bdQ rs N=some t->ofT (kG rs) t=kG rs N:=fun N t r=>by
  obtain⟨x,hx,rfl,rfl⟩:=Dx r;exact Iz h.ck x hx
 have G:∀o,o<=T.size->∀N D,bdQ rs N=some D->Dv (bdQ rs) T (.one D) o:=fun o V N D r=>by
  obtain⟨x,hx,rfl,rfl⟩:=Dx r;obtain⟨q,Y,rfl⟩:=List.getElem_of_mem hx;exact y3E h.ok h.ck h.so T _ _ q o Y L0q L0q V
 refine Tw U _ t (Nat.lt_succ_self _) A.1 A.2.1 (fun y Z=> ?_) i E (fun o _ h2=>G o h2) (fun N _=>G i E N);obtain⟨_,r⟩:=Hl (A.2.2.1 y Z);exact⟨_,r⟩
theorem y4C{ops:List Ox}{o:Ox}(h:o∈ops):∃k,k<ops.length/\ops[k]? =some o:=by
 obtain⟨k,r,rfl⟩:=List.getElem_of_mem h;exact⟨k,r,List.getElem?_eq_getElem r⟩
theorem Snd.wfo{rs:List Rr}(h:Snd rs)(T:zA):Wfo (pgG rs).2 (pgG rs).1 T:=by
 have hs:=h.src.1;have aa:∀o∈(pgG rs).2,(o.1=5)∨∃N a b c d s p,okT (.mk o.1 N a b c d s p)=true/\DnL (fun T=>fdI T (nmL rs)) (pgG rs).2 s o.2.2.2/\Ptt rs (.mk o.1 N a b c d s p):=fun o A=>by
  obtain⟨k,G,ab⟩:=y4C A;obtain⟨t,U,V⟩:=hs.2 k G;obtain⟨kd,N,a,b,c,d,s,p⟩:=t;rw[Dn,Int.toNat_natCast]at V;rcases V.2 with⟨_,y⟩|⟨_,l,y,D⟩
  ·rw[ab]at y
   cases y;exact .inl rfl
  ·rw[ab]at y
   cases y;exact .inr ⟨N,a,b,c,d,s,p,U.1,D,U⟩
 refine⟨fun o A=>(hs.1 o A).2,fun x hx=> ?_,?_,fun o A G=> ?_,fun o A G=> ?_⟩
 ·exact((Vv (fun T=>fdI T (nmL rs)) rs []).2.1.2 x hx).1
 ·intro k M cl k' l G i x n hi hM
  obtain⟨t,U,V⟩:=hs.2 k.toNat (List.getElem?_eq_some_iff.1 G).1;obtain⟨kd,N,a,b,c,d,s,p⟩:=t;rw[Dn,Int.toNat_natCast]at V;rcases V.2 with⟨_,y⟩|⟨_,l',y,D⟩
  ·rw[G]at y;cases y
  ·rw[G]at y
   cases y;have E:=U.1;rw[okT,Bool.and_eq_true]at E;have h4:=E.1;unfold okN at h4;simp at h4;obtain⟨Z,rfl⟩:=Hm (s:=s) (by omega);rw[DnL]at D;obtain⟨n',af,e1,ad,_⟩:=D;cases e1;have ae:=Aw _ _ _ _ _ _ _ _ U Z (by simp);obtain⟨e,n2,ac⟩:=h.tot T ae hi;have hB:∀N t,bdQ rs N=some t->ofT (kG rs) t=kG rs N:=fun N t Y=>by
    obtain⟨x,hx,rfl,rfl⟩:=Dx Y;exact Iz h.ck x hx
   obtain⟨rfl,_⟩:=Ij hM (Wy h.roots ac k' ad);have A:okO (ofT (kG rs) Z) i (some x):=Mv hB ac;have hz:(ofT (kG rs) Z).1=false:=by
    cases hz:(ofT (kG rs) Z).1 with
    |false=>rfl
    |true=>
     have h5:=U.2.1;rw[flT,if_pos ⟨.inr rfl,by rw[ofH];exact hz⟩]at h5;cases h5
   rcases Nat.lt_or_ge i x with Y|Y
   ·exact Y
   ·have:=A.2.1 (Nat.le_antisymm Y A.1)
    rw[hz]at this;cases this
 ·rcases aa o A with h5|⟨N,a,b,c,d,s,p,y,D,_⟩
  ·omega
  ·rw[okT,Bool.and_eq_true]at y
   have E:=y.1;unfold okN at E;have h0:Qb s=0:=by
    rcases G with e|e|e|e<;>rw[e]at E<;>simp at E<;>omega
   cases s with
   |nil=>rw[DnL]at D;exact D
   |cons=>simp[Qb]at h0
 ·rcases aa o A with h5|⟨N,a,b,c,d,s,p,y,D,_⟩
  ·omega
  ·rw[okT,Bool.and_eq_true]at y
   have E:=y.1;unfold okN at E;have h0:2<=Qb s:=by
    rcases G with e|e<;>rw[e]at E<;>simp at E<;>omega
   cases s with
   |nil=>simp[Qb]at h0
   |cons t r=>
    rw[DnL]at D;obtain⟨n,l',e,_⟩:=D;rw[e];simp
def N0:Nt:=fun _ _=>none
theorem y4D(L M:Nat):crd L M N0=0:=by
 unfold crd N0;simp
section
variable {ops:List Ox} {ro:List Int} {T:ByteArray} {mo:Nat}
theorem Ib{N:Nt}{c:Nat}{S:List Wq}{m:Mde}{r:Option (Option Nat×Nat×Nt)}{q:Nat}(h:Mch ops ro T mo N c S m r q):∀{e:Option Nat} {o:Nat} {y:Nt},r=some (e,o,y)->c<=o:=by
 induction h with
 |done=>intro e o y h;cases h;exact Nat.le_refl _
 |bud _=>intro e o y h;cases h
 |noted _ _ ih=>exact ih
 |leaf _ _ _ _ _ ih=>intro e o y h;have:=ih h;omega
 |push _ _ _ _ _ ih=>intro e o y h;have:=ih h;omega
 |next _ _ _ ih=>exact ih
 |pop _ _ _ ih=>exact ih
theorem y4E{N:Nt}{c:Nat}{S:List Wq}{k:Int}{i:Nat}{e:Option Nat}{o:Nat}{r:Nt}{q:Nat}(h:Mch ops ro T mo N c S (.beg k i) (some (e,o,r)) q)(y:N k i=none):c+1<=o:=by
 cases h with
 |noted h1 _=>rw[y]at h1;cases h1
 |leaf _ _ _ _ h=>exact Ib h rfl
 |push _ _ _ _ h=>exact Ib h rfl
theorem y4F{D:Nat}{N:Nt}{c:Nat}{S:List Wq}{m:Mde}{r:Option (Option Nat×Nat×Nt)}{q:Nat}(h:Mch ops ro T mo N c S m r q):∀{e:Option Nat} {o:Nat} {A:Nt},r=some (e,o,A)->o<=D->Mch ops ro T D N c S m r q:=by
 induction h with
 |done=>intro e o A h _;exact .done
 |bud _=>intro e o A h;cases h
 |noted h1 _ ih=>intro e o A h y;exact .noted h1 (ih h y)
 |leaf h1 h2 h3 h4 h5 ih=>intro e o A h y;have:=Ib h5 h;exact .leaf h1 (by omega) h3 h4 (ih h y)
 |push h1 h2 h3 h4 h5 ih=>intro e o A h y;have:=Ib h5 h;exact .push h1 (by omega) h3 h4 (ih h y)
 |next h1 h2 _ ih=>intro e o A h y;exact .next h1 h2 (ih h y)
 |pop h1 h2 _ ih=>intro e o A h y;exact .pop h1 h2 (ih h y)
theorem y4G{Y:Nat}{N:Nt}{c:Nat}{S:List Wq}{m:Mde}{r:Option (Option Nat×Nat×Nt)}{q:Nat}(h:Mch ops ro T mo N c S m r q):∀{e:Option Nat} {A:Nat} {G:Nt},r=some (e,A,G)->c<=Y->Y<A->∃Z,Mch ops ro T Y N c S m none Z:=by
 induction h with
 |done=>intro e A G h y V;cases h;omega
 |bud _=>intro e A G h;cases h
 |noted y _ ih=>intro e A G h U D;obtain⟨q,E⟩:=ih h U D;exact⟨_,.noted y E⟩
 | @leaf N c S k i o r q y V h3 h4 h5 ih=>
   intro e A G h U D;by_cases hc:c=Y
   ·subst hc;exact⟨_,.bud y⟩
   ·obtain⟨q,E⟩:=ih h (by omega) D;exact⟨_,.leaf y hc h3 h4 E⟩
 | @push N c S k i o r q y V h3 h4 h5 ih=>
   intro e A G h U D;by_cases hc:c=Y
   ·subst hc;exact⟨_,.bud y⟩
   ·obtain⟨q,E⟩:=ih h (by omega) D;exact⟨_,.push y hc h3 h4 E⟩
 |next y V _ ih=>intro e A G h U D;obtain⟨q,E⟩:=ih h U D;exact⟨_,.next y V E⟩
 |pop y V _ ih=>intro e A G h U D;obtain⟨q,E⟩:=ih h U D;exact⟨_,.pop y V E⟩
end
end
end Go.Proofs.YtmelafeingcgnaaGreatDoor
