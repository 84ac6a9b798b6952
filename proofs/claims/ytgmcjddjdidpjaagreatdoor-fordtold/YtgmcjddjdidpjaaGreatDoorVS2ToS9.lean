/- Lemmas for the last text. Conditions: those that each names. -/
import Derived.Test.YtgmcjddjdidpjaaGreatDoorVS1ToHA
import Derived.Test.YtgmcjddjdidpjaaGreatDoorVY14ToR1
import Derived.ProofKit
import Derived.OpenShut
import Derived.Laws.IdiomArrays
import Derived.Lib.SmallJoins
set_option linter.unusedVariables false
set_option maxRecDepth 100000
set_option maxHeartbeats 8000000
namespace Go.Proofs.YtgmcjddjdidpjaaGreatDoor
open Go.Proofs.Tryz
open Go.RowKit Go.Shelf
mutual
def Tq:RT->Nd->Prop
 | .mk k T a b c d s _,.mk kd T' C s' _=>k=(kd:Int)/\T'=T/\a=(wd C 0:Nat)/\b=(wd C 1:Nat)/\c=(wd C 2:Nat)/\d=(wd C 3:Nat)/\TqL s s'
def TqL:List RT->List Nd->Prop
 |[],[]=>True
 |t::r,n::q=>Tq t n/\TqL r q
 |_,_=>False
end
theorem TqL.len:∀{s:List RT} {q:List Nd},TqL s q->Fx q=Qw s/\q.isEmpty=s.isEmpty
 |[],[],_=>⟨rfl,rfl⟩
 |[],_::_,h=>by simp[TqL]at h
 |_::_,[],h=>by simp[TqL]at h
 |t::r,n::q,h=>by
  rw[TqL]at h;exact⟨by rw[Fx,Qw,h.2.len.1],rfl⟩
mutual
theorem z3Q{w:World}{B s0:Nat}(hB:B<=s0):∀(t:RT) (n:Nd) (cs:List Value),Tq t n->Qv w B t cs->NdV s0 w n cs
 | .mk k T a b c d s p,.mk kd T' C s' pn,cs,h,ht=>by
   rw[Tq]at h;obtain⟨rfl,rfl,rfl,rfl,rfl,rfl,hs⟩:=h;rw[Qv]at ht;obtain⟨so,cap,rfl,ht⟩:=ht;rw[NdV];refine⟨so,cap,p,by rw[hs.len.1],?_⟩;rcases ht with h1|⟨h1,g,o,rfl,h3,h4,h5⟩
   ·exact .inl (by rw[hs.len.2];exact h1)
   ·exact .inr ⟨by rw[hs.len.2];exact h1,g,o,rfl,by omega,by rw[hs.len.1];exact h4,z3R hB s s' g o hs h5⟩
theorem z3R{w:World}{B s0:Nat}(hB:B<=s0):∀(s:List RT) (q:List Nd) (g o:Nat),TqL s q->Zq w B g o s->Yf s0 w g o q
 |[],[],g,o,_,_=>by rw[Yf];trivial
 |[],_::_,_,_,h,_=>by simp[TqL]at h
 |_::_,[],_,_,h,_=>by simp[TqL]at h
 |t::r,n::q,g,o,h,ht=>by
  rw[TqL]at h;rw[Zq]at ht;obtain⟨⟨cs,h1,h2⟩,h3⟩:=ht;rw[Yf];exact⟨⟨cs,z3Q hB t n cs h.1 h1,h2⟩,z3R hB r q g _ h.2 h3⟩
end
def TqR:List Rr->List Rl->Prop
 |[],[]=>True
 |x::r,y::q=>y.1=x.1/\Tq x.2.1 y.2.1/\TqR r q
 |_,_=>False
theorem TqR.len:∀{rs:List Rr} {ns:List Rl},TqR rs ns->ns.length=rs.length
 |[],[],_=>rfl
 |[],_::_,h=>by simp[TqR]at h
 |_::_,[],h=>by simp[TqR]at h
 |x::r,y::q,h=>by
  rw[TqR]at h;simp[h.2.2.len]
theorem TqR.get:∀{rs:List Rr} {ns:List Rl},TqR rs ns->∀(j:Nat) (h1:j<rs.length) (h2:j<ns.length),ns[j].1=rs[j].1/\Tq rs[j].2.1 ns[j].2.1
 |[],[],_,j,h1,_=>by simp at h1
 |[],_::_,h,_,_,_=>by simp[TqR]at h
 |_::_,[],h,_,_,_=>by simp[TqR]at h
 |x::r,y::q,h,0,_,_=>by
  rw[TqR]at h;exact⟨h.1,h.2.1⟩
 |x::r,y::q,h,j+1,h1,h2=>by
  rw[TqR]at h;exact h.2.2.get j (by simpa using h1) (by simpa using h2)
theorem y1a{w:World}{B s0 n:Nat}{so:Option Addr}{rs:List Rr}{ns:List Rl}(hB:B<=s0)(hq:TqR rs ns)(h:Qg w B so n rs):RgV s0 w so n ns:=by
 refine⟨by rw[hq.len];exact h.1,h.2.1,fun j hj=> ?_⟩;have hj':j<rs.length:=by rw[<-hq.len];exact hj
 obtain⟨g,o,h1,hg,k,T,a,b,c,d,so1,n1,cap,p,rt,z0,z1,z2,z3,z4,z5,z6,z7,z8,z9⟩:=h.2.2 j hj';obtain⟨e1,e2⟩:=hq.get j hj' hj;have hv:=z3Q hB _ _ _ e2 rt;obtain⟨kd,T1,C,so2,sl,sc,p1,e3⟩:=hv.shape;dsimp only[r8,v8]at e3;cases e3;exact⟨g,o,h1,by omega,kd,T,C,so1,n1,cap,p,_,hv,by rw[e1];exact z0,z1,z2,z3,z4,z5,z6,z7,z8,z9⟩
theorem y1b(so:Option Addr)(n cap:Nat)(rs:List Rr)(B:Nat)(w:World)(hz:RgZ rs)(h:Qg w B so n rs)(hB:B<=w.heap.size)(hk:okG rs=false):
  Calls prog 139 #[.agg #[.slice so n cap]] w fun e w'=>e=.returned (.tuple #[.string ⟨#[]⟩,.iface 34 (.int .i64 20)])/\Below w.heap.size w w':=by
 have HI:=hid (fun(W:World) (hb:Below w.heap.size w W)=>z3r so n cap rs B W hz (h.below (hb.mono hB)) (Nat.le_trans hB hb.size));rw[hk]at HI;clear h hz;go_enter func139,ntmps139
 go_wp2_with(first|(go_at_call 182;refine(HI.out _ ?hh).mono ?_;(case hh=>exact B0q.alloc L0q _);rintro e wq ⟨rfl,hbq⟩))
 go_ret2
 exact⟨rfl,((Below.refl _ w).alloc L0q _).trans (hbq.mono (by simp))⟩
theorem Lj(so:Option Addr)(n cap:Nat)(rs:List Rr)(ns:List Rl)(B:Nat)(w:World)(hz:RgZ rs)(h:Qg w B so n rs)(hB:B<=w.heap.size)(hk:okG rs=true)(hq:TqR rs ns)(hx:∀x∈ns,Ruk Nmq x)(hT:TabIs w):
  Calls prog 139 #[.agg #[.slice so n cap]] w fun e w'=>e=.returned (Dz ns)/\Below w.heap.size w w':=by
 have HI:=hid (fun(W:World) (hb:Below w.heap.size w W)=>z3r so n cap rs B W hz (h.below (hb.mono hB)) (Nat.le_trans hB hb.size));have HT:=hid (fun(W:World) (hb:Below w.heap.size w W)=>y0o hx n cap so W (y1a (Nat.le_trans hB hb.size) hq (h.below (hb.mono hB))) (hT.below hb hT.lt));rw[hk]at HI;obtain⟨A,E,hA⟩:∃A E,Dz ns=.tuple #[A,E]:=by
  unfold Dz;split
  ·exact⟨_,_,rfl⟩
  ·split
   ·exact⟨_,_,rfl⟩
   ·exact⟨_,_,rfl⟩
 rw[hA]at HT ⊢;obtain⟨W1,hW1⟩:∃W1,W1=w.alloc (.cells #[.slice so n cap] 24):=⟨_,rfl⟩;have HB1:Hid (Below w.heap.size w W1):=by rw[hW1];exact(Below.refl _ w).alloc L0q _
 have HC1:Hid (W1.heap[w.heap.size]? =some (.cells #[.slice so n cap] 24)):=by rw[hW1];exact Qq w _ rfl
 have HZ1:Hid (W1.heap.size=w.heap.size+1):=by rw[hW1];exact World.size_alloc _ _
 have HW1:=hid hW1;clear hW1 h hz hT hx hq hA;go_enter func139,ntmps139
 go_wp2_with(first|(go_at_call 182;rw[<-HW1.out];refine(HI.out _ HB1.out).mono ?_;rintro e wq ⟨rfl,hbq⟩;have c0:=(Qk ((hbq.block _ (by rw[HZ1.out];exact Nat.lt_succ_self _)).trans HC1.out)).1;have HBq:Hid (Below w.heap.size w wq):=HB1.out.trans (hbq.mono HB1.out.size))|(go_at_call 183;refine(HT.out _ HBq.out).mono ?_;rintro e wz ⟨rfl,hbz⟩))
 go_ret2
 exact⟨rfl,HBq.out.trans (hbz.mono HBq.out.size)⟩
mutual
def toR:Nd->RT
 | .mk kd T C s p=>.mk (kd:Int) T (wd C 0:Nat) (wd C 1:Nat) (wd C 2:Nat) (wd C 3:Nat) (Uj s) (p:Int)
def Uj:List Nd->List RT
 |[]=>[]
 |n::r=>toR n::Uj r
end
mutual
theorem z3S:∀n:Nd,Tq (toR n) n
 | .mk kd T C s p=>by
   rw[toR,Tq];exact⟨rfl,rfl,rfl,rfl,rfl,rfl,z3T s⟩
theorem z3T:∀s:List Nd,TqL (Uj s) s
 |[]=>by rw[Uj,TqL];trivial
 |n::r=>by
  rw[Uj,TqL];exact⟨z3S n,z3T r⟩
end
theorem Lk:∀s:List Nd,Qw (Uj s)=Fx s/\(Uj s).isEmpty=s.isEmpty
 |[]=>⟨rfl,rfl⟩
 |n::r=>⟨by rw[Uj,Qw,Fx,(Lk r).1],by rw[Uj];rfl⟩
mutual
theorem z3U{w:World}{P:Nat->Prop}:∀(n:Nd) (cs:List Value),Sm n n->Qm w P n cs->Qv w w.heap.size (toR n) cs
 | .mk kd T C s p,cs,hs,h=>by
   rw[Sm]at hs;rw[Qm]at h;obtain⟨_,_,_,hl,hn⟩:=hs;obtain⟨sv,rfl,h⟩:=h;rw[toR,Qv];rcases h with⟨h1,rfl⟩|⟨h1,g,cap,cur,rfl,_,hg,_,h5⟩
   ·have hs0:s=[]:=by simpa using h1
    subst hs0;exact⟨none,0,rfl,.inl rfl⟩
   ·refine⟨some ⟨g,0,none⟩,cap,by rw[(Lk s).1],.inr ⟨by rw[(Lk s).2];exact h1,g,0,rfl,Qz hg,by rw[(Lk s).1,My];unfold maxLen;omega,z3V s cur.toList g 0 hl h5 fun j u hj=> ?_⟩⟩
    rw[Array.getElem?_toList]at hj;simp[World.cell?,hg,hj]
theorem z3V{w:World}{P:Nat->Prop}:∀(s:List Nd) (vs:List Value) (g o:Nat),SmL s s->Zz w P s vs->(∀j u,vs[j]? =some u->w.cell? ⟨g,o+j,none⟩=some u)->Zq w w.heap.size g o (Uj s)
 |[],vs,g,o,_,_,_=>by rw[Uj,Zq];trivial
 |n::r,vs,g,o,hs,h,hc=>by
  rw[SmL]at hs;rw[Zz]at h;obtain⟨c,rest,rfl,h1,h2⟩:=h;have hl:=h1.len;rw[Uj,Zq];refine⟨⟨c,z3U n c hs.1 h1,fun j u hj=>hc j u ?_⟩,z3V r rest g (o+8) hs.2 h2 fun j u hj=> ?_⟩
  ·have:j<c.length:=(List.getElem?_eq_some_iff.1 hj).1
   rw[List.getElem?_append_left this];exact hj
  ·rw[Nat.add_assoc]
   refine hc (8+j) u ?_;rw[List.getElem?_append_right (by omega),hl,Nat.add_sub_cancel_left];exact hj
end
theorem Ml{T:ByteArray}(h:T={data:=#[]}):T.toList.isEmpty=true:=by
 subst h;rw[ByteArray.toList_eq];rfl
theorem Cc{T:ByteArray}(h:T.toList.isEmpty=true):T={data:=#[]}:=by
 rw[ByteArray.toList_eq]at h;apply ByteArray.ext;simpa using h
theorem TqL.length{s:List RT}{q:List Nd}(h:TqL s q):q.length=Qw s:=by rw[<-My];exact h.len.1
theorem Az:zc ((wd 0 0:Nat):Int) ((wd 0 1:Nat):Int) ((wd 0 2:Nat):Int) ((wd 0 3:Nat):Int)=true:=by decide
theorem y1c{kd:Nat}{T:ByteArray}{C n:Nat}{s:List Nd}(hn:s.length=n)(hv:(kd=1/\T={data:=#[]}/\C=0/\s=[])∨(kd=2/\C=0/\s=[])∨(kd=3/\T={data:=#[]}/\s=[])∨(kd=4/\T={data:=#[]}/\C=0/\s=[])∨(kd=5/\C=0/\s=[])∨
   ((kd=6∨kd=7)/\T={data:=#[]}/\C=0/\2<=s.length)∨(8<=kd/\kd<=12/\T={data:=#[]}/\C=0/\s.length=1))(w2:kd=2->T.size<=255)(w5:kd=5->nmS T=true):
  okN (kd:Int) T (wd C 0:Nat) (wd C 1:Nat) (wd C 2:Nat) (wd C 3:Nat) n=true:=by
 unfold okN;subst hn;rcases hv with⟨rfl,hT,rfl,rfl⟩|⟨rfl,rfl,rfl⟩|⟨rfl,hT,rfl⟩|⟨rfl,hT,rfl,rfl⟩|⟨rfl,rfl,rfl⟩|⟨hk,hT,rfl,hl⟩|⟨h8,h12,hT,rfl,hl⟩
 ·rw[if_pos (by decide),Ml hT,Az];rfl
 ·rw[if_neg (by decide),if_pos (by decide),Az,decide_eq_true (by have:=w2 rfl;omega)];rfl
 ·rw[if_neg (by decide),if_neg (by decide),if_pos (by decide),Ml hT];rfl
 ·rw[if_pos (by decide),Ml hT,Az];rfl
 ·rw[if_neg (by decide),if_neg (by decide),if_neg (by decide),if_pos (by decide),Az,w5 rfl];rfl
 ·rw[if_neg (by omega),if_neg (by omega),if_neg (by omega),if_neg (by omega),if_pos (by omega),Ml hT,Az,decide_eq_true (by omega)];rfl
 ·rw[if_neg (by omega),if_neg (by omega),if_neg (by omega),if_neg (by omega),if_neg (by omega),if_pos (by omega),Ml hT,Az,hl];rfl
mutual
theorem z0d:∀(t:RT) (n:Nd),Tq t n->Vk n->Wf Nmq n->okT t=true/\RtZ t
 | .mk k T a b c d s p,.mk kd T' C s' pn,h,hv,hw=>by
   rw[Tq]at h;obtain⟨rfl,rfl,rfl,rfl,rfl,rfl,hs⟩:=h;have hkd:=hv.kd;rw[Vk]at hv;rw[Wf]at hw;obtain⟨hv1,hvs⟩:=hv;obtain⟨w2,w5,wc,ws⟩:=hw;obtain⟨h1,h2⟩:=z3W s s' hs hvs ws;rw[okT,RtZ,h1,Bool.and_true];refine⟨y1c hs.length hv1 w2 w5,?_,h2⟩;have hz:∀T:ByteArray,T={data:=#[]}->T.size<=9223372036854775807:=fun T h=>by rw[h];decide
   rcases hv1 with q|q|q|q|q|q|q
   ·exact hz _ q.2.1
   ·have:=w2 q.1;omega
   ·exact hz _ q.2.1
   ·exact hz _ q.2.1
   ·have:=Id (w5 q.1);omega
   ·exact hz _ q.2.1
   ·exact hz _ q.2.2.1
theorem z3W:∀(s:List RT) (q:List Nd),TqL s q->VkL q->WfL Nmq q->okL s=true/\Vd s
 |[],[],_,_,_=>by rw[okL,Vd];exact⟨rfl,trivial⟩
 |[],_::_,h,_,_=>by simp[TqL]at h
 |_::_,[],h,_,_=>by simp[TqL]at h
 |t::r,n::q,h,hv,hw=>by
  rw[TqL]at h;rw[VkL]at hv;rw[WfL]at hw;obtain⟨a1,a2⟩:=z0d t n h.1 hv.1 hw.1;obtain⟨b1,b2⟩:=z3W r q h.2 hv.2 hw.2;rw[okL,Vd,a1,b1];exact⟨rfl,a2,b2⟩
end
section
structure Ly (L1 L2:List Tok):Prop where
 len:L2.length=L1.length
 same:∀k,tk3 (gL L2 k)=tk3 (gL L1 k)
 big:L1.length<=10000
def Rq(r1 r2:Pr):Prop:=match r1,r2 with
 | .inr (n,k),.inr (n',k')=>k'=k/\Sm n n'
 | .inl c,.inl c'=>c'.1=c.1
 |_,_=>False
theorem Rq.cases{r1 r2:Pr}(h:Rq r1 r2):(∃n n' k,r1=.inr (n,k)/\r2=.inr (n',k)/\Sm n n')∨(∃c c',r1=.inl c/\r2=.inl c'/\c'.1=c.1):=by
 cases r1 with
 |inl c=>cases r2 with
  |inl c'=>exact .inr ⟨c,c',rfl,rfl,h⟩
  |inr q=>exact h.elim
 |inr p=>cases r2 with
  |inl c'=>exact h.elim
  |inr q=>
   obtain⟨n,k⟩:=p;obtain⟨n',k'⟩:=q;obtain⟨h1,h2⟩:=h;subst h1;exact .inl ⟨n,n',k',rfl,rfl,h2⟩
section
variable {L1 L2:List Tok}
theorem Ly.kd(h:Ly L1 L2)(k:Nat):(gL L2 k).1=(gL L1 k).1/\(gL L2 k).2.1=(gL L1 k).2.1/\(gL L2 k).2.2.1=(gL L1 k).2.2.1:=by
 have:=h.same k;unfold tk3 at this;simp only[Prod.mk.injEq]at this;exact this
theorem Ly.sg(h:Ly L1 L2)(k:Nat):sgT (gL L2 k)=sgT (gL L1 k):=z8E (h.same k)
theorem Ly.wr(h:Ly L1 L2)(k:Nat):wrC (gL L2 k)=wrC (gL L1 k):=by unfold wrC;rw[(h.kd k).1]
theorem Ly.hd(h:Ly L1 L2)(k:Nat):hdB L2 k=hdB L1 k:=by
 have hl:=h.len;rcases Nat.lt_or_ge (k+1) L1.length with h1|h1
 ·rw[z2d L1 k h1,z2d L2 k (by omega),(h.kd k).1,(h.kd (k+1)).1]
 ·unfold hdB
  rw[List.getElem?_eq_none (show L1.length<=k+1 by omega),List.getElem?_eq_none (show L2.length<=k+1 by omega)];cases L2[k]? <;>cases L1[k]? <;>rfl
theorem Ly.pt(h:Ly L1 L2)(k:Nat):ptB L2 k (gL L2 k)=ptB L1 k (gL L1 k):=by
 unfold ptB;rw[(h.kd k).1,(h.kd k).2.1,h.hd k]
theorem z0e(h:Ly L1 L2){i1 i2:Nat->Pr}(hi:∀k,Rq (i1 k) (i2 k))(k:Nat):Rq (Uh L1 i1 k) (Uh L2 i2 k):=by
 have q:=h.kd k;unfold Uh;simp only[q.1,q.2.1,q.2.2,h.hd k,h.sg k,h.wr k];split
 ·exact⟨rfl,Dm Dp (by simp)⟩
 ·split
  ·exact⟨rfl,Dm Dp (by simp)⟩
  ·split
   ·exact⟨rfl,Dm Dp (by simp)⟩
   ·split
    ·exact⟨rfl,Dm Dp (by simp)⟩
    ·split
     ·exact hi k
     ·exact(rfl:wrC (gL L1 k)=wrC (gL L1 k))
theorem z0f(h:Ly L1 L2){r1 r2:Pr}(hr:Rq r1 r2):Rq (Gw L1 r1) (Gw L2 r2):=by
 rcases hr.cases with⟨n,n',k,rfl,rfl,hs⟩|⟨c,c',rfl,rfl,hc⟩
 ·unfold Gw
  simp only[h.sg k];split
  ·exact⟨rfl,hs⟩
  ·exact⟨rfl,Dm (Hl hs) (by simp)⟩
 ·exact hc
theorem z3X{kd p p':Nat}{r1 r2:Pr}(hr:Rq r1 r2):Rq (ovS kd p r1) (ovS kd p' r2):=by
 rcases hr.cases with⟨n,n',k,rfl,rfl,hs⟩|⟨c,c',rfl,rfl,hc⟩
 ·exact⟨rfl,Dm (Hl hs) (by simp)⟩
 ·exact hc
theorem y1d(h:Ly L1 L2){i1 i2:Nat->Pr}(hi:∀k,Rq (i1 k) (i2 k))(k:Nat):Rq (Vl L1 i1 k) (Vl L2 i2 k):=by
 unfold Vl;simp only[h.sg k];split
 ·exact z3X (z0f h (z0e h hi (k+1)))
 ·split
  ·exact z3X (z0f h (z0e h hi (k+1)))
  ·exact z0f h (z0e h hi k)
theorem z0g(h:Ly L1 L2){i1 i2:Nat->Pr}(hi:∀k,Rq (i1 k) (i2 k)):∀(f k:Nat) (a1 a2:List Nd),SmL a1 a2->a1.length+f<=1000000->Rq (Zb L1 i1 f k a1) (Zb L2 i2 f k a2)
 |0,k,a1,a2,_,_=>by
  rw[Zb,Zb];exact(rfl:(0:Nat)=0)
 |f+1,k,a1,a2,ha,hl=>by
  have hp:=y1d h hi k;rw[Zb,Zb,h.pt k];split
  ·rcases hp.cases with⟨n,n',k',e1,e2,hs⟩|⟨c,c',e1,e2,hc⟩
   ·rw[e1,e2]
    exact z0g h hi f k' (a1++[n]) (a2++[n']) (Sb ha hs) (by simp;omega)
   ·rw[e1,e2]
    exact hc
  ·have hle:=ha.len
   have hem:a2.isEmpty=a1.isEmpty:=by
    cases a1 with
    |nil=>cases a2 with
     |nil=>rfl
     |cons _ _=>simp at hle
    |cons _ _=>cases a2 with
     |nil=>simp at hle
     |cons _ _=>rfl
   rw[hem];split
   ·exact⟨rfl,Dm Dp (by simp)⟩
   ·rename_i hne
    exact⟨rfl,z2c 6 ha (by omega) (fun he=>hne (by rw[he];rfl))⟩
theorem z3Y(h:Ly L1 L2){i1 i2:Nat->Pr}(hi:∀k,Rq (i1 k) (i2 k)):∀(f k:Nat) (a1 a2:List Nd),SmL a1 a2->a1≠[]->a1.length+f<=1000000->Rq (Xh L1 i1 f k a1) (Xh L2 i2 f k a2)
 |0,k,a1,a2,_,_,_=>by
  rw[Xh,Xh];exact(rfl:(0:Nat)=0)
 |f+1,k,a1,a2,ha,hne,hl=>by
  have hbig:=h.big;have hp:=z0g h hi L1.length (k+1) [] [] Dp (by simp;omega);rw[Xh,Xh,h.len];simp only[h.sg k];split
  ·rcases hp.cases with⟨n,n',k',e1,e2,hs⟩|⟨c,c',e1,e2,hc⟩
   ·rw[e1,e2]
    exact z3Y h hi f k' (a1++[n]) (a2++[n']) (Sb ha hs) (by simp) (by simp;omega)
   ·rw[e1,e2]
    exact hc
  ·exact⟨rfl,z2c 7 ha (by omega) hne⟩
theorem z3Z(h:Ly L1 L2){i1 i2:Nat->Pr}(hi:∀k,Rq (i1 k) (i2 k))(k:Nat):Rq (chS L1 i1 k) (chS L2 i2 k):=by
 have hbig:=h.big;have hp:=z0g h hi L1.length k [] [] Dp (by simp;omega);unfold chS;rw[h.len];rcases hp.cases with⟨n,n',k',e1,e2,hs⟩|⟨c,c',e1,e2,hc⟩
 ·rw[e1,e2]
  unfold chE;simp only;rw[h.len];exact z3Y h hi L1.length k' [n] [n'] (Hl hs) (by simp) (by simp;omega)
 ·rw[e1,e2]
  exact hc
theorem z4a(h:Ly L1 L2):∀(d k:Nat),Rq (Xk L1 d k) (Xk L2 d k)
 |0,k=>by
  rw[Xk,Xk];exact(rfl:(2:Nat)=2)
 |d+1,k=>by
  have hp:=z3Z h (z4a h d) (k+1);rw[Xk,Xk];rcases hp.cases with⟨n,n',k',e1,e2,hs⟩|⟨c,c',e1,e2,hc⟩
  ·rw[e1,e2]
   unfold Bh;simp only[h.sg k',h.wr k'];split
   ·exact⟨rfl,hs⟩
   ·exact(rfl:wrC (gL L1 k')=wrC (gL L1 k'))
  ·rw[e1,e2]
   exact hc
def Ru(r1 r2:(Nat×Nat) ⊕ (Rl×Nat)):Prop:=(∃x y k,r1=.inr (x,k)/\r2=.inr (y,k)/\RlS x y)∨(∃c c',r1=.inl c/\r2=.inl c'/\c'.1=c.1)
theorem z4b(h:Ly L1 L2)(ru k:Nat):Ru (ruS L1 ru k) (ruS L2 ru k):=by
 have hp:=z3Z h (z4a h 24) (k+2);unfold ruS;rw[(h.kd k).1,(h.kd (k+1)).1,h.wr k,h.wr (k+1)];split
 ·exact .inr ⟨_,_,rfl,rfl,rfl⟩
 ·split
  ·exact .inr ⟨_,_,rfl,rfl,rfl⟩
  ·split
   ·exact .inr ⟨_,_,rfl,rfl,rfl⟩
   ·rcases hp.cases with⟨n,n',k',e1,e2,hs⟩|⟨c,c',e1,e2,hc⟩
    ·rw[e1,e2]
     exact .inl ⟨_,_,_,rfl,rfl,(h.kd k).2.1,hs⟩
    ·rw[e1,e2]
     exact .inr ⟨_,_,rfl,rfl,hc⟩
def Rg(r1 r2:(Nat×Nat) ⊕ List Rl):Prop:=(∃x y,r1=.inr x/\r2=.inr y/\RlL x y)∨(∃c c',r1=.inl c/\r2=.inl c'/\c'.1=c.1)
theorem z4c(h:Ly L1 L2):∀(f k:Nat) (a1 a2:List Rl),RlL a1 a2->Rg (Xd L1 f k a1) (Xd L2 f k a2)
 |0,k,a1,a2,_=>by
  rw[Xd,Xd];exact .inr ⟨_,_,rfl,rfl,rfl⟩
 |f+1,k,a1,a2,ha=>by
  rw[Xd,Xd,(h.kd k).1,ha.len];split
  ·exact .inl ⟨_,_,rfl,rfl,ha⟩
  ·rcases z4b h a1.length k with⟨x,y,k',e1,e2,hs⟩|⟨c,c',e1,e2,hc⟩
   ·rw[e1,e2]
    exact z4c h f k' (a1++[x]) (a2++[y]) (ha.app (by rw[RlL];exact⟨hs,by rw[RlL];trivial⟩))
   ·rw[e1,e2]
    exact .inr ⟨_,_,rfl,rfl,hc⟩
theorem y1e(h:Ly L1 L2):Rg (Uz L1) (Uz L2):=by
 unfold Uz;rcases z4b h 0 0 with⟨x,y,k',e1,e2,hs⟩|⟨c,c',e1,e2,hc⟩
 ·rw[e1,e2]
  unfold z1U;simp only;rw[h.len];exact z4c h L1.length k' [x] [y] (by rw[RlL];exact⟨hs,by rw[RlL];trivial⟩)
 ·rw[e1,e2]
  exact .inr ⟨_,_,rfl,rfl,hc⟩
end
end
theorem z4d{S:ByteArray}{rs:List Rl}(h:Uq S=.inr rs):∃m,tks S (sb S 0) []=.inr m/\(∀t∈m,Bc t)/\m.length<=S.size/\Uz (m++[(6,{data:=#[]},0,S.size)])=.inr rs:=by
 unfold Uq at h;cases ht:tkS S with
 |inl c=>rw[ht]at h;cases h
 |inr L=>
  rw[ht]at h;obtain⟨m,hm,rfl⟩:=z2p ht;have hgood:=Sf _ _ _ _ _ hm (fun t ht=>by simp at ht);refine⟨m,hm,hgood.1,?_,h⟩;have h2:=hgood.2;simp at h2;omega
theorem z4e(L:List Tok):∀(f k:Nat) (acc rs:List Rl),Xd L f k acc=.inr rs->acc.length<=64->rs.length<=64/\acc.length<=rs.length
 |0,_,_,_,h,_=>by rw[Xd]at h;cases h
 |f+1,k,acc,rs,h,ha=>by
  rw[Xd]at h;split at h
  ·simp only[Sum.inr.injEq]at h;subst h;exact⟨ha,Nat.le_refl _⟩
  ·split at h
   ·cases h
   ·rename_i x k' hr
    have:=z1V hr;have h2:=z4e L f k' (acc++[x]) rs h (by simp;omega);rw[List.length_append]at h2;exact⟨h2.1,by omega⟩
theorem z0h{S:ByteArray}{rs:List Rl}(h:Uq S=.inr rs):rs.length<=64/\1<=rs.length:=by
 obtain⟨m,_,_,_,hg⟩:=z4d h;unfold Uz at hg;cases hr:ruS (m++[(6,{data:=#[]},0,S.size)]) 0 0 with
 |inl c=>rw[hr]at hg;cases hg
 |inr q=>
  obtain⟨x,k⟩:=q;rw[hr]at hg;exact z4e _ _ _ _ _ hg (by simp)
theorem z0i:∀{s:List Rl},RlL s s->∀x∈s,Sm x.2.1 x.2.1
 |[],_,x,hx=>by simp at hx
 |a::r,h,x,hx=>by
  rw[RlL]at h;rcases List.mem_cons.1 hx with rfl|hx
  ·exact h.1.2
  ·exact z0i h.2 x hx
theorem z4f{S:ByteArray}{rs:List Rl}(hS:S.size<=8192)(h:Uq S=.inr rs):RlL rs rs:=by
 obtain⟨m,_,_,hl,hg⟩:=z4d h;rcases y1e (L1:=m++[(6,{data:=#[]},0,S.size)]) ⟨rfl,fun _=>rfl,by simp;omega⟩with⟨x,y,e1,e2,hs⟩|⟨c,c',e1,_,_⟩
 ·rw[hg]at e1 e2
  cases e1;cases e2;exact hs
 ·rw[hg]at e1
  cases e1
def toG(rs:List Rl):List Rr:=rs.map fun x=>(x.1,toR x.2.1,(x.2.2:Int))
theorem Dj:∀rs:List Rl,TqR (toG rs) rs
 |[]=>by unfold toG;rw[List.map_nil,TqR];trivial
 |x::r=>by
  have:=Dj r;unfold toG at this ⊢;rw[List.map_cons,TqR];exact⟨rfl,z3S _,this⟩
theorem z4g{W:World}{B g n cap:Nat}{rs:List Rl}(h:RoR B (.slice (some ⟨g,0,none⟩) n cap) rs W)(hs:∀x∈rs,Sm x.2.1 x.2.1)(h64:rs.length<=64):Qg W W.heap.size (some ⟨g,0,none⟩) n (toG rs):=by
 have hl:n=rs.length:=h.len;have hgl:(toG rs).length=rs.length:=by unfold toG;rw[List.length_map]
 refine⟨by omega,by unfold maxLen;omega,fun j hj=> ?_⟩;have hj':j<rs.length:=by omega
 obtain⟨c,⟨cs,rfl,hn⟩,h2⟩:=h.get j hj';have e:(toG rs)[j]=(rs[j].1,toR rs[j].2.1,(rs[j].2.2:Int)):=List.getElem_map _;have rt:=z3U _ _ (hs _ (List.getElem_mem hj')) hn;obtain⟨k,T,a,b,c,d,so,n1,cap1,p,rfl⟩:=rt.shape;refine⟨g,0,rfl,h.lt,?_⟩;rw[e,Nat.zero_add];exact⟨k,T,a,b,c,d,so,n1,cap1,p,rt,h2 0 _ rfl,h2 1 _ rfl,h2 2 _ rfl,h2 3 _ rfl,h2 4 _ rfl,h2 5 _ rfl,h2 6 _ rfl,h2 7 _ rfl,h2 8 _ rfl,h2 9 _ rfl⟩
theorem Lv:∀{rs:List Rr} {ns:List Rl},TqR rs ns->(∀x∈ns,Ruk Nmq x)->rs.all okR=true/\RgZ rs
 |[],[],_,_=>⟨rfl,fun x hx=>by simp at hx⟩
 |[],_::_,h,_=>by simp[TqR]at h
 |_::_,[],h,_=>by simp[TqR]at h
 |x::r,y::q,h,hx=>by
  rw[TqR]at h;obtain⟨h1,h2⟩:=Lv h.2.2 (fun z hz=>hx z (by simp[hz]));obtain⟨n1,n2,n3⟩:=hx y (by simp);obtain⟨o1,o2⟩:=z0d _ _ h.2.1 n2 n3;have n1':nmS x.1=true:=by rw[<-h.1];exact n1
  refine⟨by rw[List.all_cons,h1];unfold okR;rw[n1',o1];rfl,fun z hz=> ?_⟩;rcases List.mem_cons.1 hz with rfl|hz
  ·exact⟨by have:=Id n1';omega,o2⟩
  ·exact h2 z hz
theorem z0j{rs:List Rr}{ns:List Rl}(h:TqR rs ns)(hx:∀x∈ns,Ruk Nmq x)(h1:1<=ns.length)(h64:ns.length<=64):okG rs=true:=by
 unfold okG;rw[(Lv h hx).1,decide_eq_true (by have:=h.len;omega),decide_eq_true (p:=rs.length<=64) (by have:=h.len;omega)];rfl
theorem y1f{S:ByteArray}{rs:List Rl}(hS:S.size<=8192)(h:Uq S=.inr rs)(B g n cap:Nat)(W:World)(hr:RoR B (.slice (some ⟨g,0,none⟩) n cap) rs W)(hT:TabIs W):
  Calls prog 139 #[.agg #[.slice (some ⟨g,0,none⟩) n cap]] W fun e w'=>e=.returned (Dz rs)/\Below W.heap.size W w':=by
 have hx:∀x∈rs,Ruk Nmq x:=fun x hx=>(Wg h x hx).1
 have hl:=z0h h;exact Lj _ n cap (toG rs) rs W.heap.size W (Lv (Dj rs) hx).2 (z4g hr (z0i (z4f hS h)) hl.1) L0q (z0j (Dj rs) hx hl.2 hl.1) (Dj rs) hx hT
section
open Go.ChangeShapes Go.WideShapes Go.ChangeAt
mutual
def RtU:RT->Prop
 | .mk _ _ a b c d s _=>(0<=a/\a<18446744073709551616)/\(0<=b/\b<18446744073709551616)/\(0<=c/\c<18446744073709551616)/\(0<=d/\d<18446744073709551616)/\Xq s
def Xq:List RT->Prop
 |[]=>True
 |t::r=>RtU t/\Xq r
end
theorem Tryz.structNode:Tryz.prog.underlying 58=some (.struct (Tryz.prog.fieldsOf 58)):=by kernel_rfl
theorem Tryz.fieldsNode:(Tryz.prog.fieldsOf 58).toList.map (fun f=>(f.name,f.type,f.offset))=[("Kind",3,0),("Text",9,1),("Class",51,2),("Subs",56,6),("At",3,7)]:=by kernel_rfl
theorem Tryz.structRule:Tryz.prog.underlying 65=some (.struct (Tryz.prog.fieldsOf 65)):=by kernel_rfl
theorem Tryz.fieldsRule:(Tryz.prog.fieldsOf 65).toList.map (fun f=>(f.name,f.type,f.offset))=[("Name",9,0),("Body",58,1),("At",3,9)]:=by kernel_rfl
theorem Tryz.structGram:Tryz.prog.underlying 24=some (.struct (Tryz.prog.fieldsOf 24)):=by kernel_rfl
theorem Tryz.fieldsGram:(Tryz.prog.fieldsOf 24).toList.map (fun f=>(f.name,f.type,f.offset))=[("Rules",22,0)]:=by kernel_rfl
theorem Tryz.cellsNode:Tryz.prog.cellsOf 58=8:=by kernel_rfl
theorem Tryz.cellsRule:Tryz.prog.cellsOf 65=10:=by kernel_rfl
theorem Tryz.cellsGram:Tryz.prog.cellsOf 24=1:=by kernel_rfl
theorem Tryz.cellsCls:Tryz.prog.cellsOf 51=4:=by kernel_rfl
theorem Tryz.cellsInt:Tryz.prog.cellsOf 3=1:=by kernel_rfl
theorem Tryz.cellsStr:Tryz.prog.cellsOf 9=1:=by kernel_rfl
theorem Tryz.cellsNodes:Tryz.prog.cellsOf 56=1:=by kernel_rfl
theorem Tryz.cellsRules:Tryz.prog.cellsOf 22=1:=by kernel_rfl
theorem Tryz.cellsWord:Tryz.prog.cellsOf 49=1:=by kernel_rfl
theorem Tryz.arrayCls:Tryz.prog.underlying 51=some (.array 4 49):=by kernel_rfl
theorem Tryz.sliceNodes:Tryz.prog.underlying 56=some (.slice 58):=by kernel_rfl
theorem Tryz.sliceRules:Tryz.prog.underlying 22=some (.slice 65):=by kernel_rfl
theorem Dv{fs:Array Field}{l:List (String×TypeId×Nat)}(h:fs.toList.map (fun f=>(f.name,f.type,f.offset))=l)(i:Nat)(x:String×TypeId×Nat)(hx:l[i]? =some x):∃f,fs[i]? =some f/\f.type=x.2.1/\f.offset=x.2.2:=by
 rw[<-h,List.getElem?_map]at hx;cases hf:fs.toList[i]? with
 |none=>rw[hf]at hx;cases hx
 |some f=>
  rw[hf]at hx;simp only[Option.map_some,Option.some.injEq]at hx;refine⟨f,by rw[<-Array.getElem?_toList];exact hf,?_,?_⟩
  ·rw[<-hx]
  ·rw[<-hx]
theorem z0k{fs:Array Field}{l:List (String×TypeId×Nat)}(h:fs.toList.map (fun f=>(f.name,f.type,f.offset))=l):fs.size=l.length:=by
 rw[<-h,List.length_map,Array.length_toList]
theorem z4h{W:World}{B g:Nat}:∀(n o:Nat),(∀i,i<n->∃t cs,Qv W B t cs/\RtZ t/\RtU t/\∀j u,cs[j]? =some u->W.cell? ⟨g,o+i*8+j,none⟩=some u)->∃s:List RT,s.length=n/\Zq W B g o s/\Vd s/\Xq s
 |0,o,_=>⟨[],rfl,by rw[Zq];trivial,by rw[Vd];trivial,by rw[Xq];trivial⟩
 |n+1,o,h=>by
  obtain⟨t,cs,h1,h2,h3,h4⟩:=h 0 (by omega);obtain⟨s,e1,e2,e3,e4⟩:=z4h n (o+8) (fun i hi=>by
   obtain⟨t,cs,h1,h2,h3,h4⟩:=h (i+1) (by omega);refine⟨t,cs,h1,h2,h3,fun j u hj=> ?_⟩;have:=h4 j u hj;rw[show o+(i+1)*8+j=o+8+i*8+j by omega]at this;exact this)
  refine⟨t::s,by simp[e1],?_,by rw[Vd];exact⟨h2,e3⟩,by rw[Xq];exact⟨h3,e4⟩⟩;rw[Zq];refine⟨⟨cs,h1,fun j u hj=> ?_⟩,e2⟩;have:=h4 j u hj;rw[Nat.zero_mul,Nat.add_zero]at this;exact this
section
variable {H:Type} {enc:TypeId×Value->H} {W:World} {sp:Nat->Bool} {hl:Bool}
theorem z4i{a:Addr}{n:Nat}{cs:List Value}(h:W.cells? 0 (a.add (0*n)) n=some cs)(hn:0<n):a.spot=none:=by
 obtain⟨_,h2,h3⟩:=World.cells?_some h;have h0:=h3 0 hn;rw[Deep.add_add,Nat.zero_mul]at h0;obtain⟨c,hc⟩:∃c,cs[0]? =some c:=⟨_,List.getElem?_eq_getElem (by omega)⟩;rw[hc]at h0;have:=World.cell?_spot h0;simpa [Addr.add]using this
theorem Lf{b off k n:Nat}{cs:List Value}(h:W.cells? 0 ((⟨b,off,none⟩:Addr).add k) n=some cs)(hn:0<n):b<W.heap.size/\cs.length=n/\∀j u,cs[j]? =some u->W.cell? ⟨b,off+k+j,none⟩=some u:=by
 obtain⟨_,h2,h3⟩:=World.cells?_some h;have hc:∀j u,cs[j]? =some u->W.cell? ⟨b,off+k+j,none⟩=some u:=fun j u hj=>by
  have hjl:j<n:=by rw[<-h2];exact(List.getElem?_eq_some_iff.1 hj).1
  have:=h3 j hjl;rw[Deep.add_add,Addr.add_lit,hj]at this;rw[Nat.add_assoc];exact this
 exact⟨World.block_lt_of_cell? W ⟨b,off+k+0,none⟩ (hc 0 _ (List.getElem?_eq_getElem (by omega))),h2,hc⟩
theorem z4j:∀(N fuel:Nat) (cs:List Value) (x:DataW H×List MemPlace),fuel<N->DataW.trod enc prog W 0 sp hl fuel 58 cs=some x->∃t,Qv W W.heap.size t cs/\RtZ t/\RtU t
 |0,_,_,_,h,_=>by omega
 |N+1,fuel,cs,x,hN,h=>by
  obtain⟨xs,n,rfl,rfl,hlen,hxs,hf⟩:=DataW.trod_struct Tryz.structNode h;rw[Tryz.cellsNode]at hlen;rw[z0k Tryz.fieldsNode]at hxs
  match cs,hlen with
  |[c0,c1,c2,c3,c4,c5,c6,c7],_=>
  match xs,hxs with
  |[y0,y1,y2,y3,y4],_=>
  obtain⟨f0,g0,t0,o0⟩:=Dv Tryz.fieldsNode 0 _ rfl;obtain⟨f1,g1,t1,o1⟩:=Dv Tryz.fieldsNode 1 _ rfl;obtain⟨f2,g2,t2,o2⟩:=Dv Tryz.fieldsNode 2 _ rfl;obtain⟨f3,g3,t3,o3⟩:=Dv Tryz.fieldsNode 3 _ rfl;obtain⟨f4,g4,t4,o4⟩:=Dv Tryz.fieldsNode 4 _ rfl;have r0:=hf 0 f0 g0;have r1:=hf 1 f1 g1;have r2:=hf 2 f2 g2;have r3:=hf 3 f3 g3;have r4:=hf 4 f4 g4;simp only[t0,o0,t1,o1,t2,o2,t3,o3,t4,o4,Tryz.cellsInt,Tryz.cellsStr,Tryz.cellsCls,Tryz.cellsNodes,List.drop_zero,List.drop_succ_cons,List.take_succ_cons,List.take_zero,List.getElem?_cons_zero,List.getElem?_cons_succ]at r0 r1 r2 r3 r4;obtain⟨k,e0,_,w0⟩:=DataW.trod_int Tryz.underlying3 r0;obtain⟨T,e1,_,wT⟩:=DataW.trod_string Tryz.underlying9 r1;obtain⟨p,e7,_,w7⟩:=DataW.trod_int Tryz.underlying3 r4;obtain⟨z0,z1,z2,z3,m,_,q0,q1,q2,q3⟩:=trod_array4 Tryz.arrayCls Tryz.cellsWord r2;obtain⟨a,ea,_,wa⟩:=DataW.trod_int Tryz.underlying49 q0;obtain⟨b,eb,_,wb⟩:=DataW.trod_int Tryz.underlying49 q1;obtain⟨c,ec,_,wc⟩:=DataW.trod_int Tryz.underlying49 q2;obtain⟨d,ed,_,wd'⟩:=DataW.trod_int Tryz.underlying49 q3;simp only[List.cons.injEq,and_true]at e0 e1 e7 ea eb ec ed;subst e0 e1 e7 ea eb ec ed;have ba:=bounds_u64 wa;have bb:=bounds_u64 wb;have bc:=bounds_u64 wc;have bd:=bounds_u64 wd';have hTz:T.size<=9223372036854775807:=by unfold maxLen at wT;exact wT
  rcases DataW.trod_slice Tryz.sliceNodes r3 with⟨e6,_⟩|⟨ad,len,cap,elems,rest,m2,hm2,e6,_,_,hlc,hcm,hel,hev,_⟩
  ·simp only[List.cons.injEq,and_true]at e6
   subst e6;refine⟨.mk k T a b c d [] p,?_,?_,?_⟩
   ·rw[Qv]
    exact⟨none,0,rfl,.inl rfl⟩
   ·rw[RtZ,Vd]
    exact⟨hTz,trivial⟩
   ·rw[RtU,Xq]
    exact⟨by omega,by omega,by omega,by omega,trivial⟩
  ·simp only[List.cons.injEq,and_true]at e6
   subst e6;have key:∀i,i<len->∃cs' y,W.cells? 0 (ad.add (i*8)) 8=some cs'/\DataW.trod enc prog W 0 sp hl m2 58 cs'=some y:=fun i hi=>by
    have h1:=hev i hi;rw[List.getElem?_eq_getElem (by omega)]at h1;obtain⟨cs',h2,h3⟩:=Option.bind_eq_some_iff.1 h1;rw[Tryz.cellsNode]at h2;exact⟨cs',_,h2,h3⟩
   obtain⟨g,off,spot⟩:=ad;by_cases h0:len=0
   ·subst h0
    refine⟨.mk k T a b c d [] p,?_,?_,?_⟩
    ·rw[Qv]
     exact⟨_,cap,rfl,.inl rfl⟩
    ·rw[RtZ,Vd]
     exact⟨hTz,trivial⟩
    ·rw[RtU,Xq]
     exact⟨by omega,by omega,by omega,by omega,trivial⟩
   obtain⟨cs0,_,h00,_⟩:=key 0 (by omega);obtain rfl:spot=none:=z4i h00 (by omega);obtain⟨hgb,_,_⟩:=Lf h00 (by omega);obtain⟨s,l1,l2,l3,l4⟩:=z4h len off (fun i hi=>by
    obtain⟨cs',y,h2,h3⟩:=key i hi;obtain⟨_,_,s4⟩:=Lf h2 (by omega);obtain⟨t,i1,i2,i3⟩:=z4j N m2 cs' _ (by omega) h3;exact⟨t,cs',i1,i2,i3,s4⟩)
   have hrl:Qw s=len:=by rw[Zh,l1]
   refine⟨.mk k T a b c d s p,?_,?_,?_⟩
   ·rw[Qv]
    refine⟨some ⟨g,off,none⟩,cap,by rw[hrl],.inr ⟨?_,g,off,rfl,hgb,by rw[hrl];omega,l2⟩⟩;cases s with
    |nil=>exact absurd l1.symm h0
    |cons _ _=>rfl
   ·rw[RtZ]
    exact⟨hTz,l3⟩
   ·rw[RtU]
    exact⟨by omega,by omega,by omega,by omega,l4⟩
def RgU(rs:List Rr):Prop:=∀x∈rs,RtU x.2.1
theorem y1g{fuel:Nat}{cs:List Value}{x:DataW H×List MemPlace}(h:DataW.trod enc prog W 0 sp hl fuel 65 cs=some x):
  ∃r:Rr,(∃k T a b c d so n cap p,Qv W W.heap.size r.2.1 (r8 k T a b c d so n cap p)/\cs=.string r.1::(r8 k T a b c d so n cap p++[.int .i64 r.2.2]))/\r.1.size<=9223372036854775807/\RtZ r.2.1/\RtU r.2.1:=by
 obtain⟨xs,n,rfl,rfl,hlen,hxs,hf⟩:=DataW.trod_struct Tryz.structRule h;rw[Tryz.cellsRule]at hlen;rw[z0k Tryz.fieldsRule]at hxs
 match cs,hlen with
 |[c0,c1,c2,c3,c4,c5,c6,c7,c8,c9],_=>
 match xs,hxs with
 |[y0,y1,y2],_=>
 obtain⟨f0,g0,t0,o0⟩:=Dv Tryz.fieldsRule 0 _ rfl;obtain⟨f1,g1,t1,o1⟩:=Dv Tryz.fieldsRule 1 _ rfl;obtain⟨f2,g2,t2,o2⟩:=Dv Tryz.fieldsRule 2 _ rfl;have r0:=hf 0 f0 g0;have r1:=hf 1 f1 g1;have r2:=hf 2 f2 g2;simp only[t0,o0,t1,o1,t2,o2,Tryz.cellsInt,Tryz.cellsStr,Tryz.cellsNode,List.drop_zero,List.drop_succ_cons,List.take_succ_cons,List.take_zero,List.getElem?_cons_zero,List.getElem?_cons_succ]at r0 r1 r2;obtain⟨M,e0,_,wM⟩:=DataW.trod_string Tryz.underlying9 r0;obtain⟨q,e9,_,_⟩:=DataW.trod_int Tryz.underlying3 r2;obtain⟨t,i1,i2,i3⟩:=z4j _ n _ _ (Nat.lt_succ_self _) r1;simp only[List.cons.injEq,and_true]at e0 e9;subst e0 e9;obtain⟨k,T,a,b,c,d,so,n1,cap,p,e⟩:=i1.shape;refine⟨(M,t,q),⟨k,T,a,b,c,d,so,n1,cap,p,by rw[<-e];exact i1,?_⟩,by unfold maxLen at wM;exact wM,i2,i3⟩;rw[<-e];rfl
theorem z4k{fuel:Nat}{so:Option Addr}{n cap:Nat}{x:DataW H×List MemPlace}(h:DataW.trod enc prog W 0 sp hl fuel 22 [.slice so n cap]=some x):
  ∃rs,Qg W W.heap.size so n rs/\RgZ rs/\RgU rs:=by
 rcases DataW.trod_slice Tryz.sliceRules h with⟨e6,_⟩|⟨ad,len,cap',elems,rest,m2,hm2,e6,_,_,hlc,hcm,hel,hev,_⟩
 ·simp only[List.cons.injEq,and_true,Value.slice.injEq]at e6
  obtain⟨rfl,rfl,rfl⟩:=e6;exact⟨[],⟨rfl,by unfold maxLen;omega,fun j hj=>by simp at hj⟩,fun x hx=>by simp at hx,fun x hx=>by simp at hx⟩
 ·simp only[List.cons.injEq,and_true,Value.slice.injEq]at e6
  obtain⟨rfl,rfl,rfl⟩:=e6;have key:∀i,i<n->∃cs' y,W.cells? 0 (ad.add (i*10)) 10=some cs'/\DataW.trod enc prog W 0 sp hl m2 65 cs'=some y:=fun i hi=>by
   have h1:=hev i hi;rw[List.getElem?_eq_getElem (by omega)]at h1;obtain⟨cs',h2,h3⟩:=Option.bind_eq_some_iff.1 h1;rw[Tryz.cellsRule]at h2;exact⟨cs',_,h2,h3⟩
  obtain⟨g,off,spot⟩:=ad;by_cases h0:n=0
  ·subst h0
   exact⟨[],⟨rfl,by unfold maxLen;omega,fun j hj=>by simp at hj⟩,fun x hx=>by simp at hx,fun x hx=>by simp at hx⟩
  obtain⟨cs0,_,h00,_⟩:=key 0 (by omega);obtain rfl:spot=none:=z4i h00 (by omega);obtain⟨hgb,_,_⟩:=Lf h00 (by omega);have hall:∀i,∃r:Rr,i<n->Rk W W.heap.size g (off+i*10) r/\r.1.size<=9223372036854775807/\RtZ r.2.1/\RtU r.2.1:=fun i=>by
   by_cases hi:i<n
   ·obtain⟨cs',y,h2,h3⟩:=key i hi
    obtain⟨_,_,s4⟩:=Lf h2 (by omega);obtain⟨r,⟨k,T,a,b,c,d,so,n1,cap1,p,i1,rfl⟩,i2,i3,i4⟩:=y1g h3;exact⟨r,fun _=>⟨⟨k,T,a,b,c,d,so,n1,cap1,p,i1,s4 0 _ rfl,s4 1 _ rfl,s4 2 _ rfl,s4 3 _ rfl,s4 4 _ rfl,s4 5 _ rfl,s4 6 _ rfl,s4 7 _ rfl,s4 8 _ rfl,s4 9 _ rfl⟩,i2,i3,i4⟩⟩
   ·exact⟨(⟨#[]⟩,.mk 0 ⟨#[]⟩ 0 0 0 0 [] 0,0),fun h=>absurd h hi⟩
  obtain⟨f,hf⟩:=Classical.axiomOfChoice hall;have hmem:∀x∈(List.range n).map f,∃i,i<n/\f i=x:=fun x hx=>by
   obtain⟨i,h1,h2⟩:=List.mem_map.1 hx;exact⟨i,List.mem_range.1 h1,h2⟩
  refine⟨(List.range n).map f,⟨by simp,by omega,fun j hj=> ?_⟩,fun x hx=> ?_,fun x hx=> ?_⟩
  ·have hj':j<n:=by simpa using hj
   have e:((List.range n).map f)[j]=f j:=by rw[List.getElem_map,List.getElem_range]
   rw[e];exact⟨g,off,rfl,hgb,(hf j hj').1⟩
  ·obtain⟨i,hi,rfl⟩:=hmem x hx
   exact⟨(hf i hi).2.1,(hf i hi).2.2.1⟩
  ·obtain⟨i,hi,rfl⟩:=hmem x hx
   exact(hf i hi).2.2.2
theorem y1h{base:Nat}{v:Value}{d:DataW H}{ps:List MemPlace}(hv:Value.okWide prog W .any base 24 v)(h:DataW.Trod enc prog W 0 sp hl 24 v d ps):
  ∃so n cap rs,v=.agg #[.slice so n cap]/\Qg W W.heap.size so n rs/\RgZ rs/\RgU rs:=by
 obtain⟨cs,rfl,hsz⟩:=okWide_struct Tryz.structGram hv;rw[Tryz.cellsGram]at hsz;obtain⟨l⟩:=cs
 match l,hsz with
 |[c0],_=>
 obtain⟨fuel,hf⟩:=h;obtain⟨xs,n,rfl,hx,hlen,hxs,hf⟩:=DataW.trod_struct Tryz.structGram hf;rw[z0k Tryz.fieldsGram]at hxs
 match xs,hxs with
 |[y0],_=>
 obtain⟨f0,g0,t0,o0⟩:=Dv Tryz.fieldsGram 0 _ rfl;have r0:=hf 0 f0 g0;simp only[Value.cells,t0,o0,Tryz.cellsRules,List.drop_zero,List.take_succ_cons,List.take_zero,List.getElem?_cons_zero]at r0;have r1:=r0;rcases DataW.trod_slice Tryz.sliceRules r1 with⟨e6,_⟩|⟨ad,len,cap',elems,rest,m2,hm2,e6,_,_,hlc,hcm,hel,hev,_⟩
 ·simp only[List.cons.injEq,and_true]at e6
  subst e6;obtain⟨rs,h1,h2,h3⟩:=z4k r0;exact⟨_,_,_,rs,rfl,h1,h2,h3⟩
 ·simp only[List.cons.injEq,and_true]at e6
  subst e6;obtain⟨rs,h1,h2,h3⟩:=z4k r0;exact⟨_,_,_,rs,rfl,h1,h2,h3⟩
end
theorem y1i{a b c d:Int}(h:zc a b c d=true):a=0/\b=0/\c=0/\d=0:=by
 unfold zc at h;simpa using h
mutual
theorem z4l:∀t:RT,okT t=true->RtU t->∃n,Tq t n/\Vk n/\Wf Nmq n
 | .mk k T a b c d s p,h,hu=>by
   rw[okT,Bool.and_eq_true]at h;obtain⟨h1,h2⟩:=h;rw[RtU]at hu;obtain⟨ua,ub,uc,ud,us⟩:=hu;obtain⟨q,hq,hv,hw⟩:=z4m s h2 us;have hql:q.length=Qw s:=hq.length;obtain⟨a,rfl⟩:=Int.eq_ofNat_of_zero_le ua.1;obtain⟨b,rfl⟩:=Int.eq_ofNat_of_zero_le ub.1;obtain⟨c,rfl⟩:=Int.eq_ofNat_of_zero_le uc.1;obtain⟨d,rfl⟩:=Int.eq_ofNat_of_zero_le ud.1;have cw:=Pv a b c d (by omega) (by omega) (by omega) (by omega);have cl:=Pk a b c d (by omega) (by omega) (by omega) (by omega);have hk:0<=k:=by
    rcases Int.lt_or_le k 0 with h3|h3
    ·unfold okN at h1
     rw[if_neg (by omega),if_neg (by omega),if_neg (by omega),if_neg (by omega),if_neg (by omega),if_neg (by omega)]at h1;cases h1
    ·exact h3
   obtain⟨kd,rfl⟩:=Int.eq_ofNat_of_zero_le hk;have c0:zc (a:Int) (b:Int) (c:Int) (d:Int)=true->cls a b c d=0:=fun h3=>by
    have:=y1i h3;have ha:a=0:=by omega
    have hb:b=0:=by omega
    have hc:c=0:=by omega
    have hd:d=0:=by omega
    subst ha hb hc hd;rfl
   refine⟨.mk kd T (cls a b c d) q 0,?_,?_,?_⟩
   ·rw[Tq]
    exact⟨rfl,rfl,by rw[cw.1],by rw[cw.2.1],by rw[cw.2.2.1],by rw[cw.2.2.2],hq⟩
   ·rw[Vk]
    refine⟨?_,hv⟩;have hq0:((Qw s:Nat):Int)=0->q=[]:=fun h3=>List.eq_nil_of_length_eq_zero (by omega)
    unfold okN at h1;split at h1
    ·rename_i hk14
     simp only[Bool.and_eq_true,beq_iff_eq]at h1;rcases hk14 with h4|h4
     ·exact .inl ⟨by omega,Cc h1.1,c0 h1.2.1,hq0 h1.2.2⟩
     ·exact .inr (.inr (.inr (.inl ⟨by omega,Cc h1.1,c0 h1.2.1,hq0 h1.2.2⟩)))
    ·split at h1
     ·simp only[Bool.and_eq_true,beq_iff_eq]at h1
      exact .inr (.inl ⟨by omega,c0 h1.2.1,hq0 h1.2.2⟩)
     ·split at h1
      ·simp only[Bool.and_eq_true,beq_iff_eq]at h1
       exact .inr (.inr (.inl ⟨by omega,Cc h1.1,hq0 h1.2⟩))
      ·split at h1
       ·simp only[Bool.and_eq_true,beq_iff_eq]at h1
        exact .inr (.inr (.inr (.inr (.inl ⟨by omega,c0 h1.2.1,hq0 h1.2.2⟩))))
       ·split at h1
        ·simp only[Bool.and_eq_true,decide_eq_true_eq]at h1
         exact .inr (.inr (.inr (.inr (.inr (.inl ⟨by omega,Cc h1.1,c0 h1.2.1,by omega⟩)))))
        ·split at h1
         ·simp only[Bool.and_eq_true,beq_iff_eq]at h1
          exact .inr (.inr (.inr (.inr (.inr (.inr ⟨by omega,by omega,Cc h1.1,c0 h1.2.1,by omega⟩)))))
         ·cases h1
   ·rw[Wf]
    refine⟨fun e=> ?_,fun e=> ?_,cl,hw⟩
    ·subst e
     unfold okN at h1;rw[if_neg (by decide),if_pos (by decide)]at h1;simp only[Bool.and_eq_true,decide_eq_true_eq]at h1;omega
    ·subst e
     unfold okN at h1;rw[if_neg (by decide),if_neg (by decide),if_neg (by decide),if_pos (by decide)]at h1;simp only[Bool.and_eq_true]at h1;exact h1.1
theorem z4m:∀s:List RT,okL s=true->Xq s->∃q,TqL s q/\VkL q/\WfL Nmq q
 |[],_,_=>⟨[],by rw[TqL];trivial,by rw[VkL];trivial,by rw[WfL];trivial⟩
 |t::r,h,hu=>by
  rw[okL,Bool.and_eq_true]at h;rw[Xq]at hu;obtain⟨n,a1,a2,a3⟩:=z4l t h.1 hu.1;obtain⟨q,b1,b2,b3⟩:=z4m r h.2 hu.2;exact⟨n::q,by rw[TqL];exact⟨a1,b1⟩,by rw[VkL];exact⟨a2,b2⟩,by rw[WfL];exact⟨a3,b3⟩⟩
end
theorem z4n:∀{rs:List Rr},rs.all okR=true->RgU rs->∃ns,TqR rs ns/\∀x∈ns,Ruk Nmq x
 |[],_,_=>⟨[],by rw[TqR];trivial,fun x hx=>by simp at hx⟩
 |x::r,h,hu=>by
  rw[List.all_cons,Bool.and_eq_true]at h;obtain⟨ns,a1,a2⟩:=z4n h.2 (fun y hy=>hu y (by simp[hy]));have hx:=h.1;unfold okR at hx;rw[Bool.and_eq_true]at hx;obtain⟨n,b1,b2,b3⟩:=z4l x.2.1 hx.2 (hu x (by simp));refine⟨(x.1,n,0)::ns,by rw[TqR];exact⟨rfl,b1,a1⟩,fun y hy=> ?_⟩;rcases List.mem_cons.1 hy with rfl|hy
  ·exact⟨hx.1,b2,b3⟩
  ·exact a2 y hy
theorem y1j{rs:List Rr}(h:okG rs=true)(hu:RgU rs):∃ns,TqR rs ns/\(∀x∈ns,Ruk Nmq x)/\1<=ns.length/\ns.length<=64:=by
 unfold okG at h;simp only[Bool.and_eq_true,decide_eq_true_eq]at h;obtain⟨ns,h1,h2⟩:=z4n h.2.2 hu;have:=h1.len;exact⟨ns,h1,h2,by omega,by omega⟩
end
end Go.Proofs.YtgmcjddjdidpjaaGreatDoor
