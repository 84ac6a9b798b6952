/- Lemmas for the last text. Conditions: those that each names. -/
import Derived.Test.YtikfnaffiehpaaaGreatDoorVP2ToX17
set_option linter.unusedVariables false
namespace Go.Proofs.YtikfnaffiehpaaaGreatDoor
open Go.Proofs.Tryz
open Go.RowKit
variable {L:List Tok} {C k kd p:Nat} {t:Tok} {n:Nd} {T:ByteArray} {s:List Nd}
theorem Mk{x:UInt8}(h:tk3 t=sgc x):ptB L k t=bgB x.toNat:=by
 obtain⟨_,h1,h2,_⟩:=Vm h;unfold ptB;rw[h1,h2,if_neg (by decide),if_neg (by decide),if_pos rfl];rfl
theorem z2r{c:Nat×ByteArray×Nat}(hb:Bg0 c)(h:tk3 t=c):sgT t≠{data:=#[33]}/\sgT t≠{data:=#[38]}/\rpK (sgT t)=0/\t.1≠2:=by
 rcases hb with h1|h1|h1|h1|h1
 ·obtain⟨a,b,_⟩:=Uj h (by omega)
  rw[a,b,h1];decide
 ·obtain⟨a,b,_⟩:=Uj h (by omega)
  rw[a,b,h1];decide
 ·obtain⟨a,b,_⟩:=Uj h (by omega)
  rw[a,b,h1];decide
 ·obtain⟨a,b,_⟩:=Vm (h.trans h1)
  rw[a,b];decide
 ·obtain⟨a,b,_⟩:=Vm (h.trans h1)
  rw[a,b];decide
theorem z7G{c:Nat×ByteArray×Nat}(hb:Bg c)(h:tk3 t=c):rpK (sgT t)=0/\t.1≠2:=by
 rcases hb with hb|h1|h1
 ·exact(z2r hb h).2.2
 ·obtain⟨a,b,_⟩:=Vm (h.trans h1)
  rw[a,b];decide
 ·obtain⟨a,b,_⟩:=Vm (h.trans h1)
  rw[a,b];decide
theorem z2s{c:Nat×ByteArray×Nat}(hb:Bg c)(h:tk3 (gL L k)=c)(hn:(gL L (k+1)).1≠2)(hk:k+1<L.length):ptB L k (gL L k)=true:=by
 rcases hb with(h1|h1|h1|h1|h1)|h1|h1
 ·obtain⟨a,b,_⟩:=Uj h (by omega)
  unfold ptB;rw[b,h1,if_pos rfl,Cb L k hk];simp[hn]
 ·obtain⟨a,b,_⟩:=Uj h (by omega)
  unfold ptB;rw[b,h1];rfl
 ·obtain⟨a,b,_⟩:=Uj h (by omega)
  unfold ptB;rw[b,h1];rfl
 ·rw[Mk (h.trans h1)];rfl
 ·rw[Mk (h.trans h1)];rfl
 ·rw[Mk (h.trans h1)];rfl
 ·rw[Mk (h.trans h1)];rfl
mutual
theorem Lh:∀(n:Nd),∀c∈kN n,c.1≠2
 | .mk kd T C s p,c,hc=>by
   rw[kN]at hc;have h1:=Ej 6 s c;have h2:=z7H s c;have h3:=Ej 11 s c;have h4:=Ej 12 s c;have h5:=Ej kd s c;split at hc
   ·simp at hc;rcases hc with rfl|rfl<;>decide
   ·split at hc
    ·simp at hc;subst hc;show(3:Nat)≠2;decide
    ·split at hc
     ·simp at hc;subst hc;show(4:Nat)≠2;decide
     ·split at hc
      ·simp at hc;subst hc;decide
      ·split at hc
       ·simp at hc;subst hc;show(1:Nat)≠2;decide
       ·split at hc
        ·exact h1 hc
        ·split at hc
         ·exact h2 hc
         ·split at hc
          ·rcases List.mem_cons.1 hc with rfl|hc
           ·decide
           ·exact h3 hc
          ·split at hc
           ·rcases List.mem_cons.1 hc with rfl|hc
            ·decide
            ·exact h4 hc
           ·rcases List.mem_append.1 hc with hc|hc
            ·exact h5 hc
            ·simp at hc;subst hc;show(5:Nat)≠2;decide
theorem Ej(over:Nat):∀(s:List Nd),∀c∈kS over s,c.1≠2
 |[],c,hc=>by rw[kS]at hc;simp at hc
 |n::r,c,hc=>by
  rw[kS]at hc;have h1:=Lh n c;have h2:=Ej over r c;rcases List.mem_append.1 hc with hc|hc
  ·split at hc
   ·rcases List.mem_cons.1 hc with rfl|hc
    ·decide
    ·rcases List.mem_append.1 hc with hc|hc
     ·exact h1 hc
     ·simp at hc;subst hc;decide
   ·exact h1 hc
  ·exact h2 hc
theorem z7H:∀(s:List Nd),∀c∈kA s,c.1≠2
 |[],c,hc=>by rw[kA]at hc;simp at hc
 |n::r,c,hc=>by
  rw[kA]at hc;have h1:=Lh n c;have h2:=z2t r c;rcases List.mem_append.1 hc with hc|hc
  ·split at hc
   ·rcases List.mem_cons.1 hc with rfl|hc
    ·decide
    ·rcases List.mem_append.1 hc with hc|hc
     ·exact h1 hc
     ·simp at hc;subst hc;decide
   ·exact h1 hc
  ·exact h2 hc
theorem z2t:∀(s:List Nd),∀c∈kB s,c.1≠2
 |[],c,hc=>by rw[kB]at hc;simp at hc
 |n::r,c,hc=>by
  rw[kB]at hc;have h1:=Lh n c;have h2:=z2t r c;rcases List.mem_cons.1 hc with rfl|hc
  ·decide
  ·rcases List.mem_append.1 hc with hc|hc
   ·split at hc
    ·rcases List.mem_cons.1 hc with rfl|hc
     ·decide
     ·rcases List.mem_append.1 hc with hc|hc
      ·exact h1 hc
      ·simp at hc;subst hc;decide
    ·exact h1 hc
   ·exact h2 hc
end
theorem z2u(over:Nat)(n:Nd):∀c∈kP over n,c.1≠2:=fun c hc=>by
 have h1:=Lh n c;unfold kP at hc;split at hc
 ·rcases List.mem_cons.1 hc with rfl|hc
  ·decide
  ·rcases List.mem_append.1 hc with hc|hc
   ·exact h1 hc
   ·simp at hc;subst hc;decide
 ·exact h1 hc
theorem z2v{K:List (Nat×ByteArray×Nat)}(h:AtK L k K)(ha:∀c∈K,c.1≠2)(hf:(gL L (k+K.length)).1≠2)(h0:0<K.length):(gL L (k+1)).1≠2:=by
 rcases Nat.lt_or_ge 1 K.length with h1|h1
 ·have:=h 1 K[1] (List.getElem?_eq_getElem h1)
  have h2:=ha K[1] (List.getElem_mem h1);rw[<-this]at h2;exact h2
 ·have:K.length=1:=by omega
  rw[this]at hf;exact hf
def Rd1(n:Nd):Prop:=∀(L:List Tok) (d k:Nat),L.length<=10000->AtK L k (kP 8 n)->k+(kP 8 n).length<L.length->(gL L (k+(kP 8 n).length)).1≠2->dP 8 n<=d->∃n',Zj L (Ql L d) k=.inr (n',k+(kP 8 n).length)/\Sm n n'
def Rd2(n:Nd):Prop:=∀(L:List Tok) (d k:Nat),L.length<=10000->AtK L k (kP 11 n)->k+(kP 11 n).length<L.length->(gL L (k+(kP 11 n).length)).1≠2->rpK (sgT (gL L (k+(kP 11 n).length)))=0->dP 11 n<=d->∃n',Vh L (Ql L d) k=.inr (n',k+(kP 11 n).length)/\Sm n n'
def Rd3(n:Nd):Prop:=∀(L:List Tok) (d k:Nat),L.length<=10000->AtK L k (kP 6 n)->k+(kP 6 n).length<L.length->(gL L (k+(kP 6 n).length)).1≠2->rpK (sgT (gL L (k+(kP 6 n).length)))=0->dP 6 n<=d->∃n',Zh L (Ql L d) k=.inr (n',k+(kP 6 n).length)/\Sm n n'
def Rd4(n:Nd):Prop:=∀(L:List Tok) (d k:Nat),L.length<=10000->AtK L k (kP 7 n)->k+(kP 7 n).length<L.length->(gL L (k+(kP 7 n).length)).1≠2->rpK (sgT (gL L (k+(kP 7 n).length)))=0->ptB L (k+(kP 7 n).length) (gL L (k+(kP 7 n).length))=false->dP 7 n<=d->
 ∃n',Qb L (Ql L d) L.length k []=.inr (n',k+(kP 7 n).length)/\Sm n n'
def Rd5(n:Nd):Prop:=∀(L:List Tok) (d k:Nat),L.length<=10000->AtK L k (kN n)->k+(kN n).length<L.length->(gL L (k+(kN n).length)).1≠2->rpK (sgT (gL L (k+(kN n).length)))=0->ptB L (k+(kN n).length) (gL L (k+(kN n).length))=false->sgT (gL L (k+(kN n).length))≠{data:=#[47]}->dN n<=d->
 ∃n',chS L (Ql L d) k=.inr (n',k+(kN n).length)/\Sm n n'
theorem z7I(hv:Vk n)(h5:n.kd<=5):Rd1 n:=by
 have hk:=hv.kd;have e8:kP 8 n=kN n/\dP 8 n=dN n:=by
  unfold kP dP;rw[wr8,decide_eq_false (by omega)];exact⟨rfl,rfl⟩
 intro L d k hL ha hlen har hd;rw[e8.1]at ha hlen har ⊢;rw[e8.2]at hd;obtain⟨kd,T,C,s,p⟩:=n;rw[Vk]at hv;have h5':kd<=5:=h5;have hk':1<=kd:=hk.1;have:kd=1∨kd=2∨kd=3∨kd=4∨kd=5:=by omega
 rcases this with rfl|rfl|rfl|rfl|rfl
 ·obtain⟨hT,hC,hs⟩:T={data:=#[]}/\C=0/\s=[]:=by
   rcases hv.1 with h|h|h|h|h|h|h
   ·exact h.2
   ·omega
   ·omega
   ·omega
   ·omega
   ·omega
   ·omega
  subst hT hC hs;have eK:kN (.mk 1 {data:=#[]} 0 [] p)=[sgc 40,sgc 41]:=by rw[kN,if_pos rfl]
  rw[eK]at ha hlen har ⊢;have eD:dN (.mk 1 {data:=#[]} 0 [] p)=1:=by rw[dN,if_pos rfl]
  rw[eD]at hd;obtain⟨d',rfl⟩:∃d',d=d'+1:=⟨d-1,by omega⟩;obtain⟨a0,a1,_⟩:=Vm ha.head;obtain⟨b0,b1,_⟩:=Vm ha.tail.head;have hpt:=Mk (L:=L) (k:=k+1) ha.tail.head;obtain⟨f,hf⟩:∃f,L.length=f+1:=⟨L.length-1,by simp at hlen;omega⟩;refine⟨.mk 1 {data:=#[]} 0 [] (gL L (k+1)).2.2.2,?_,Vy Vd (by simp)⟩;unfold Zj;rw[if_neg (by rw[a1];simp),if_neg (by rw[a1];decide),if_neg (by rw[a1];decide),if_neg (by rw[a0];decide),if_pos a0,Ql];unfold chS;rw[hf,Qb,if_neg (by rw[hpt];decide),if_pos (show([]:List Nd).isEmpty=true from rfl)];unfold chE;simp only;rw[hf,Zw,if_neg (by rw[b0];decide)];unfold Jy;simp only;rw[if_pos b0];rfl
 ·obtain⟨hC,hs⟩:C=0/\s=[]:=by
   rcases hv.1 with h|h|h|h|h|h|h
   ·omega
   ·exact h.2
   ·omega
   ·omega
   ·omega
   ·omega
   ·omega
  subst hC hs;have eK:kN (.mk 2 T 0 [] p)=[(3,T,0)]:=by rw[kN,if_neg (by decide),if_pos rfl]
  rw[eK]at ha ⊢;obtain⟨_,b,c,e⟩:=Uj ha.head (by show(3:Nat)≠5;decide);have b':(gL L k).1=3:=b;have c':(gL L k).2.1=T:=c;have e':(gL L k).2.2.1=0:=e;refine⟨.mk 2 T 0 [] (gL L k).2.2.2,?_,Vy Vd (by simp)⟩;unfold Zj;rw[if_neg (by rw[b'];simp),if_pos b',c',e'];rfl
 ·obtain⟨hT,hs⟩:T={data:=#[]}/\s=[]:=by
   rcases hv.1 with h|h|h|h|h|h|h
   ·omega
   ·omega
   ·exact h.2
   ·omega
   ·omega
   ·omega
   ·omega
  subst hT hs;have eK:kN (.mk 3 {data:=#[]} C [] p)=[(4,{data:=#[]},C)]:=by rw[kN,if_neg (by decide),if_neg (by decide),if_pos rfl]
  rw[eK]at ha ⊢;obtain⟨_,b,c,e⟩:=Uj ha.head (by show(4:Nat)≠5;decide);have b':(gL L k).1=4:=b;have c':(gL L k).2.1={data:=#[]}:=c;have e':(gL L k).2.2.1=C:=e;refine⟨.mk 3 {data:=#[]} C [] (gL L k).2.2.2,?_,Vy Vd (by simp)⟩;unfold Zj;rw[if_neg (by rw[b'];simp),if_neg (by rw[b'];decide),if_pos b',c',e'];rfl
 ·obtain⟨hT,hC,hs⟩:T={data:=#[]}/\C=0/\s=[]:=by
   rcases hv.1 with h|h|h|h|h|h|h
   ·omega
   ·omega
   ·omega
   ·exact h.2
   ·omega
   ·omega
   ·omega
  subst hT hC hs;have eK:kN (.mk 4 {data:=#[]} 0 [] p)=[sgc 46]:=by rw[kN,if_neg (by decide),if_neg (by decide),if_neg (by decide),if_pos rfl]
  rw[eK]at ha ⊢;obtain⟨a,b,_,e⟩:=Vm ha.head;refine⟨.mk 4 {data:=#[]} 0 [] (gL L k).2.2.2,?_,Vy Vd (by simp)⟩;unfold Zj;rw[if_neg (by rw[b];simp),if_neg (by rw[b];decide),if_neg (by rw[b];decide),if_pos a,e];rfl
 ·obtain⟨hC,hs⟩:C=0/\s=[]:=by
   rcases hv.1 with h|h|h|h|h|h|h
   ·omega
   ·omega
   ·omega
   ·omega
   ·exact h.2
   ·omega
   ·omega
  subst hC hs;have eK:kN (.mk 5 T 0 [] p)=[(1,T,0)]:=by rw[kN,if_neg (by decide),if_neg (by decide),if_neg (by decide),if_neg (by decide),if_pos rfl]
  rw[eK]at ha hlen har ⊢;obtain⟨_,b,c,e⟩:=Uj ha.head (by show(1:Nat)≠5;decide);have b':(gL L k).1=1:=b;have c':(gL L k).2.1=T:=c;have e':(gL L k).2.2.1=0:=e;have hh:hdB L k=false:=by
   rw[Cb L k (by simpa using hlen)];have:(gL L (k+1)).1≠2:=har;simp[this]
  refine⟨.mk 5 T 0 [] (gL L k).2.2.2,?_,Vy Vd (by simp)⟩;unfold Zj;rw[if_pos ⟨b',hh⟩,c',e'];rfl
theorem Ld(hv:Vk n)(h:¬(n.kd=8∨n.kd=9∨n.kd=10))(h1:Rd1 n):Rd2 n:=by
 intro L d k hL ha hlen har hrp hd;obtain⟨e1,e2⟩:=z1P hv h;rw[e1]at ha hlen har hrp ⊢;rw[e2]at hd;obtain⟨n',e,hs⟩:=h1 L d k hL ha hlen har hd;refine⟨n',?_,hs⟩;unfold Vh;rw[e];unfold Xq;simp only[hrp,if_true]
theorem Lm(hv:Vk n)(h:¬(n.kd=11∨n.kd=12))(h2:Rd2 n):Rd3 n:=by
 intro L d k hL ha hlen har hrp hd;obtain⟨e1,e2⟩:=z1Q hv h;rw[e1]at ha hlen har hrp ⊢;rw[e2]at hd;obtain⟨n',e,hs⟩:=h2 L d k hL ha hlen har hrp hd;refine⟨n',?_,hs⟩;obtain⟨c,r,ec,hb⟩:=z1S hv;rw[ec]at ha;obtain⟨n1,n2,_⟩:=z2r hb ha.head;unfold Zh;rw[if_neg n1,if_neg n2];exact e
theorem Lp(hv:Vk n)(h:n.kd≠6)(h3:Rd3 n):Rd4 n:=by
 intro L d k hL ha hlen har hrp hpt hd;obtain⟨e1,e2⟩:=z7b hv h;rw[e1]at ha hlen har hrp hpt ⊢;rw[e2]at hd;obtain⟨n',e,hs⟩:=h3 L d k hL ha hlen har hrp hd;refine⟨n',?_,hs⟩;obtain⟨c,r,ec,hb⟩:=Lx hv;have hl0:0<(kP 6 n).length:=by rw[ec];simp
 have hn:=z2v ha (z2u 6 n) har hl0;have hp:=z2s hb (by have:=ha;rw[ec]at this;exact this.head) hn (by omega);obtain⟨f,hf⟩:∃f,L.length=f+2:=⟨L.length-2,by omega⟩;rw[hf,Qb,if_pos hp,e];simp only;rw[Qb,if_neg (by rw[hpt];decide)];rfl
theorem Ev(h:n.kd≠7)(h4:Rd4 n):Rd5 n:=by
 intro L d k hL ha hlen har hrp hpt hal hd;obtain⟨e1,e2⟩:=Sh h;rw[<-e1]at ha hlen har hrp hpt hal ⊢;rw[<-e2]at hd;obtain⟨n',e,hs⟩:=h4 L d k hL ha hlen har hrp hpt hd;refine⟨n',?_,hs⟩;unfold chS;rw[e];unfold chE;simp only;obtain⟨f,hf⟩:∃f,L.length=f+1:=⟨L.length-1,by omega⟩;rw[hf,Zw,if_neg hal];rfl
theorem z7J(h5:Rd5 n){d:Nat}(hL:L.length<=10000)(ha:AtK L k (sgc 40::(kN n++[sgc 41])))(hlen:k+(kN n).length+2<L.length)(hd:dN n+1<=d):
  ∃n',Zj L (Ql L d) k=.inr (n',k+(kN n).length+2)/\Sm n n':=by
 obtain⟨d',rfl⟩:∃d',d=d'+1:=⟨d-1,by omega⟩;obtain⟨a0,a1,_⟩:=Vm ha.head;have hin:=ha.tail.left;have hsh:=ha.tail.right.head;obtain⟨b0,b1,_⟩:=Vm hsh;have hpt:=Mk (L:=L) (k:=k+1+(kN n).length) hsh;obtain⟨n',e,hs⟩:=h5 L d' (k+1) hL hin (by omega) (by rw[b1];decide) (by rw[b0];decide) (by rw[hpt];decide) (by rw[b0];decide) (by omega);refine⟨n',?_,hs⟩;unfold Zj;rw[if_neg (by rw[a1];simp),if_neg (by rw[a1];decide),if_neg (by rw[a1];decide),if_neg (by rw[a0];decide),if_pos a0,Ql,e];unfold Jy;simp only;rw[if_pos b0,show k+1+(kN n).length+1=k+(kN n).length+2 by omega]
theorem Lc(h6:6<=n.kd)(h5:Rd5 n):Rd1 n:=by
 have e8:kP 8 n=sgc 40::(kN n++[sgc 41])/\dP 8 n=dN n+1:=by
  unfold kP dP;rw[wr8,decide_eq_true h6];exact⟨rfl,rfl⟩
 intro L d k hL ha hlen har hd;rw[e8.1]at ha hlen ⊢;rw[e8.2]at hd;have hl:(sgc 40::(kN n++[sgc 41])).length=(kN n).length+2:=by simp
 rw[hl]at hlen ⊢;exact z7J h5 hL ha (by omega) hd
theorem z7K{m:Nd}(hk:kd=8∨kd=9∨kd=10)(hT:T={data:=#[]})(hC:C=0)(h1:Rd1 m):Rd2 (.mk kd T C [m] p):=by
 subst hT hC;obtain⟨ek,ed⟩:=Sd (T:={data:=#[]}) (C:=0) (p:=p) (m:=m) hk;have e11:kP 11 (.mk kd {data:=#[]} 0 [m] p)=kN (.mk kd {data:=#[]} 0 [m] p)/\dP 11 (.mk kd {data:=#[]} 0 [m] p)=dN (.mk kd {data:=#[]} 0 [m] p):=by
  unfold kP dP;rw[Mq];show(if decide (kd=6∨kd=7∨kd=11∨kd=12)=true then _ else _)=_/\(if decide (kd=6∨kd=7∨kd=11∨kd=12)=true then _ else _)=_;rw[decide_eq_false (by omega)];exact⟨rfl,rfl⟩
 intro L d k hL ha hlen har hrp hd;rw[e11.1,ek]at ha hlen ⊢;rw[e11.2,ed]at hd;have hsg:=ha.right.head;obtain⟨b0,b1,_⟩:=Vm hsg;rw[List.length_append]at hlen ⊢;simp only[List.length_cons,List.length_nil,Nat.zero_add]at hlen ⊢;obtain⟨m',e,hs⟩:=h1 L d k hL ha.left (by omega) (by rw[b1];decide) hd;have hr:rpK (sgT (gL L (k+(kP 8 m).length)))=kd:=by
  rw[b0];rcases hk with rfl|rfl|rfl<;>decide
 refine⟨.mk kd {data:=#[]} 0 [m'] m'.at',?_,Vy (Ah hs) (by simp)⟩;unfold Vh;rw[e];unfold Xq;simp only[hr];rw[if_neg (by omega),Nat.add_assoc]
theorem z7L{m:Nd}(hk:kd=11∨kd=12)(hT:T={data:=#[]})(hC:C=0)(h2:Rd2 m):Rd3 (.mk kd T C [m] p):=by
 subst hT hC;obtain⟨ek,ed⟩:=Sp (T:={data:=#[]}) (C:=0) (p:=p) (m:=m) hk;have e6:kP 6 (.mk kd {data:=#[]} 0 [m] p)=kN (.mk kd {data:=#[]} 0 [m] p)/\dP 6 (.mk kd {data:=#[]} 0 [m] p)=dN (.mk kd {data:=#[]} 0 [m] p):=by
  unfold kP dP;rw[wr6];show(if decide (kd=6∨kd=7)=true then _ else _)=_/\(if decide (kd=6∨kd=7)=true then _ else _)=_;rw[decide_eq_false (by omega)];exact⟨rfl,rfl⟩
 intro L d k hL ha hlen har hrp hd;rw[e6.1,ek]at ha hlen har hrp ⊢;rw[e6.2,ed]at hd;rw[List.length_cons]at hlen har hrp ⊢;have e1:k+((kP 11 m).length+1)=k+1+(kP 11 m).length:=by omega
 rw[e1]at hlen har hrp ⊢;obtain⟨m',e,hs⟩:=h2 L d (k+1) hL ha.tail hlen har hrp hd;refine⟨.mk kd {data:=#[]} 0 [m'] (gL L k).2.2.2,?_,Vy (Ah hs) (by simp)⟩;obtain⟨b0,_⟩:=Vm ha.head;unfold Zh;rcases hk with rfl|rfl
 ·rw[if_neg (by rw[b0];decide),if_pos (by rw[b0];rfl),e]
  rfl
 ·rw[if_pos (by rw[b0];rfl),e]
  rfl
theorem z2w:∀(s:List Nd),VkL s->s.length<=(kS 6 s).length
 |[],_=>Nat.zero_le _
 |n::r,h=>by
  rw[VkL]at h;obtain⟨c,q,e,_⟩:=Lx h.1;have:=z2w r h.2;rw[Um,List.length_append,e];simp;omega
theorem z2x{L:List Tok}{d:Nat}(hL:L.length<=10000):∀(s:List Nd) (f k:Nat) (acc:List Nd),(∀m∈s,Vk m/\Rd3 m)->s.length<f->AtK L k (kS 6 s)->k+(kS 6 s).length<L.length->(gL L (k+(kS 6 s).length)).1≠2->rpK (sgT (gL L (k+(kS 6 s).length)))=0->
  ptB L (k+(kS 6 s).length) (gL L (k+(kS 6 s).length))=false->dS 6 s<=d->(acc≠[]∨s≠[])->∃s',SmL s s'/\Qb L (Ql L d) f k acc=.inr (Yv 6 (acc++s'),k+(kS 6 s).length)
 |[],f,k,acc,_,hf,_,_,_,_,hpt,_,hne=>by
  obtain⟨g,rfl⟩:∃g,f=g+1:=⟨f-1,by simp at hf;omega⟩;rw[Uc]at hpt ⊢;have hpt':ptB L k (gL L k)=false:=hpt;have ha:acc.isEmpty=false:=by
   cases acc with
   |nil=>simp at hne
   |cons _ _=>rfl
  refine⟨[],Vd,?_⟩;rw[Qb,if_neg (by rw[hpt'];decide),if_neg (by rw[ha];decide),List.append_nil];rfl
 |m::r,f,k,acc,hm,hf,ha,hlen,har,hrp,hpt,hd,_=>by
  obtain⟨g,rfl⟩:∃g,f=g+1:=⟨f-1,by simp at hf;omega⟩;rw[Um]at ha hlen har hrp hpt ⊢;rw[List.length_append]at hlen har hrp hpt ⊢;rw[<-Nat.add_assoc]at hlen har hrp hpt ⊢;rw[Vv]at hd;obtain⟨vm,rm⟩:=hm m (by simp);obtain⟨c,q,ec,hb⟩:=Lx vm;have hl0:0<(kP 6 m).length:=by rw[ec];simp
  have hfol:(gL L (k+(kP 6 m).length)).1≠2/\rpK (sgT (gL L (k+(kP 6 m).length)))=0:=by
   cases r with
   |nil=>
    rw[Uc]at har hrp;exact⟨har,hrp⟩
   |cons m2 r2=>
    obtain⟨c2,q2,ec2,hb2⟩:=Lx (hm m2 (by simp)).1;have h2:=ha.right;rw[Um,ec2]at h2;have:=z7G hb2 h2.head;exact⟨this.2,this.1⟩
  obtain⟨m',e,hs⟩:=rm L d k hL ha.left (by omega) hfol.1 hfol.2 (by omega);have hn:=z2v ha.left (z2u 6 m) hfol.1 hl0;have hp:=z2s hb (by have:=ha.left;rw[ec]at this;exact this.head) hn (by omega);obtain⟨s',hs',e'⟩:=z2x (d:=d) hL r g (k+(kP 6 m).length) (acc++[m']) (fun x hx=>hm x (by simp[hx])) (by simp at hf;omega) ha.right hlen har hrp hpt (by omega) (.inl (by simp));refine⟨m'::s',by rw[SmL];exact⟨hs,hs'⟩,?_⟩;rw[Qb,if_pos hp,e];simp only;rw[e',List.append_assoc];rfl
theorem z2y{s':List Nd}(h:SmL s s')(h2:2<=s.length)(hl:s.length<=1000000):Sm (.mk kd {data:=#[]} 0 s p) (Yv kd s'):=by
 have hle:=h.len
 match s',hle with
 |[],hle=>simp at hle;omega
 |[a],hle=>simp at hle;omega
 |a::b::r,hle=>exact Vy h hl
theorem z7M(hT:T={data:=#[]})(hC:C=0)(h2:2<=s.length)(hv:VkL s)(h3:∀m∈s,Vk m/\Rd3 m):Rd4 (.mk 6 T C s p):=by
 subst hT hC;have ek:kN (.mk 6 {data:=#[]} 0 s p)=kS 6 s:=by rw[kN,if_neg (by decide),if_neg (by decide),if_neg (by decide),if_neg (by decide),if_neg (by decide),if_pos rfl]
 have ed:dN (.mk 6 {data:=#[]} 0 s p)=dS 6 s:=by rw[dN,if_neg (by decide)]
 obtain⟨e1,e2⟩:=Sh (n:=.mk 6 {data:=#[]} 0 s p) (by show(6:Nat)≠7;decide);intro L d k hL ha hlen har hrp hpt hd;rw[e1,ek]at ha hlen har hrp hpt ⊢;rw[e2,ed]at hd;have hsl:=z2w s hv;obtain⟨s',hs',e⟩:=z2x (d:=d) hL s L.length k [] h3 (by omega) ha hlen har hrp hpt hd (.inr (by intro h;rw[h]at h2;simp at h2));exact⟨_,e,z2y hs' h2 (by omega)⟩
theorem z2z:∀(s:List Nd),s.length<=(kB s).length
 |[]=>Nat.zero_le _
 |n::r=>by
  have:=z2z r;rw[Mz];simp only[List.length_cons,List.length_append];omega
theorem Tc(h:tk3 (gL L k)=sgc 47):(gL L k).1≠2/\rpK (sgT (gL L k))=0/\ptB L k (gL L k)=false/\sgT (gL L k)={data:=#[47]}:=by
 obtain⟨a,b,_⟩:=Vm h;rw[Mk h,a,b];decide
theorem z2A{L:List Tok}{d:Nat}(hL:L.length<=10000):∀(s:List Nd) (f k:Nat) (acc:List Nd),(∀m∈s,Rd4 m)->s.length<f->AtK L k (kB s)->k+(kB s).length<L.length->(gL L (k+(kB s).length)).1≠2->rpK (sgT (gL L (k+(kB s).length)))=0->
  ptB L (k+(kB s).length) (gL L (k+(kB s).length))=false->sgT (gL L (k+(kB s).length))≠{data:=#[47]}->dS 7 s<=d->∃s',SmL s s'/\Zw L (Ql L d) f k acc=.inr (Yv 7 (acc++s'),k+(kB s).length)
 |[],f,k,acc,_,hf,_,_,_,_,_,hal,_=>by
  obtain⟨g,rfl⟩:∃g,f=g+1:=⟨f-1,by simp at hf;omega⟩;rw[Ad]at hal ⊢;refine⟨[],Vd,?_⟩;have hal':sgT (gL L k)≠{data:=#[47]}:=hal;rw[Zw,if_neg hal',List.append_nil];rfl
 |m::r,f,k,acc,hm,hf,ha,hlen,har,hrp,hpt,hal,hd=>by
  obtain⟨g,rfl⟩:∃g,f=g+1:=⟨f-1,by simp at hf;omega⟩;rw[Mz]at ha hlen har hrp hpt hal ⊢;rw[List.length_cons,List.length_append]at hlen har hrp hpt hal ⊢;have e1:k+((kP 7 m).length+(kB r).length+1)=k+1+(kP 7 m).length+(kB r).length:=by omega
  rw[e1]at hlen har hrp hpt hal ⊢;rw[Vv]at hd;obtain⟨_,_,_,hbar⟩:=Tc ha.head;have hfol:(gL L (k+1+(kP 7 m).length)).1≠2/\rpK (sgT (gL L (k+1+(kP 7 m).length)))=0/\ptB L (k+1+(kP 7 m).length) (gL L (k+1+(kP 7 m).length))=false:=by
   cases r with
   |nil=>
    rw[Ad]at har hrp hpt;exact⟨har,hrp,hpt⟩
   |cons m2 r2=>
    have h2:=ha.tail.right;rw[Mz]at h2;obtain⟨u1,u2,u3,_⟩:=Tc h2.head;exact⟨u1,u2,u3⟩
  obtain⟨m',e,hs⟩:=hm m (by simp) L d (k+1) hL ha.tail.left (by omega) hfol.1 hfol.2.1 hfol.2.2 (by omega);obtain⟨s',hs',e'⟩:=z2A (d:=d) hL r g (k+1+(kP 7 m).length) (acc++[m']) (fun x hx=>hm x (by simp[hx])) (by simp at hf;omega) ha.tail.right hlen har hrp hpt hal (by omega);refine⟨m'::s',by rw[SmL];exact⟨hs,hs'⟩,?_⟩;rw[Zw,if_pos hbar,e];simp only;rw[e',List.append_assoc];rfl
theorem z7N(hT:T={data:=#[]})(hC:C=0)(h2:2<=s.length)(h4:∀m∈s,Rd4 m):Rd5 (.mk 7 T C s p):=by
 subst hT hC;have ek:kN (.mk 7 {data:=#[]} 0 s p)=kA s:=by rw[kN,if_neg (by decide),if_neg (by decide),if_neg (by decide),if_neg (by decide),if_neg (by decide),if_neg (by decide),if_pos rfl]
 have ed:dN (.mk 7 {data:=#[]} 0 s p)=dS 7 s:=by rw[dN,if_neg (by decide)]
 intro L d k hL ha hlen har hrp hpt hal hd;rw[ek]at ha hlen har hrp hpt hal ⊢;rw[ed]at hd
 match s,h2 with
 |m::m2::r,h2=>
  rw[Il]at ha hlen har hrp hpt hal ⊢;rw[List.length_append,<-Nat.add_assoc]at hlen har hrp hpt hal ⊢;rw[Vv]at hd;have hbl:=z2z (m2::r);have hb:=ha.right;have hb2:=hb;rw[Mz]at hb2;obtain⟨u1,u2,u3,_⟩:=Tc hb2.head;obtain⟨m',e,hs⟩:=h4 m (by simp) L d k hL ha.left (by omega) u1 u2 u3 (by omega);obtain⟨s',hs',e'⟩:=z2A (d:=d) hL (m2::r) L.length (k+(kP 7 m).length) [m'] (fun x hx=>h4 x (by simp at hx ⊢;exact .inr hx)) (by omega) hb hlen har hrp hpt hal (by omega);have hss:SmL (m::m2::r) (m'::s'):=by rw[SmL];exact⟨hs,hs'⟩
  refine⟨Yv 7 (m'::s'),?_,z2y hss h2 (by simp at hbl ⊢;omega)⟩;unfold chS;rw[e];unfold chE;simp only;rw[e'];rfl
theorem z2B:∀(N:Nat) (n:Nd),SizeOf.sizeOf n<N->Vk n->Rd1 n/\Rd2 n/\Rd3 n/\Rd4 n/\Rd5 n
 |0,n,h,_=>by omega
 |N+1,.mk kd T C s p,hN,hv=>by
  have hkd:(Nd.mk kd T C s p).kd=kd:=rfl;have hv0:=hv;rw[Vk]at hv;obtain⟨hv1,hvs⟩:=hv;have ih:∀m∈s,Vk m/\Rd1 m/\Rd2 m/\Rd3 m/\Rd4 m/\Rd5 m:=fun m hm=>by
   have h3:=List.sizeOf_lt_of_mem hm;simp only[Nd.mk.sizeOf_spec]at hN;exact⟨hvs.mem m hm,z2B N m (by omega) (hvs.mem m hm)⟩
  have up:Rd4 (.mk kd T C s p)->kd≠7->Rd5 (.mk kd T C s p):=fun h hk=>Ev hk h
  rcases Nat.lt_or_ge kd 6 with h6|h6
  ·have r1:=z7I hv0 (show kd<=5 by omega)
   have r2:=Ld hv0 (by rw[hkd];omega) r1;have r3:=Lm hv0 (by rw[hkd];omega) r2;have r4:=Lp hv0 (by rw[hkd];omega) r3;exact⟨r1,r2,r3,r4,Ev (by rw[hkd];omega) r4⟩
  ·rcases Nat.lt_or_ge kd 8 with h8|h8
   ·obtain⟨hT,hC,h2⟩:T={data:=#[]}/\C=0/\2<=s.length:=by
     rcases hv1 with h|h|h|h|h|h|h
     ·omega
     ·omega
     ·omega
     ·omega
     ·omega
     ·exact h.2
     ·omega
    by_cases h7:kd=7
    ·subst h7
     have r5:Rd5 (.mk 7 T C s p):=z7N hT hC h2 (fun m hm=>(ih m hm).2.2.2.2.1);have r1:=Lc (n:=.mk 7 T C s p) (show 6<=7 by decide) r5;have r2:=Ld hv0 (by rw[hkd];omega) r1;have r3:=Lm hv0 (by rw[hkd];omega) r2;exact⟨r1,r2,r3,Lp hv0 (by rw[hkd];omega) r3,r5⟩
    ·obtain rfl:kd=6:=by omega
     have r4:Rd4 (.mk 6 T C s p):=z7M hT hC h2 hvs (fun m hm=>⟨(ih m hm).1,(ih m hm).2.2.2.1⟩);have r5:=Ev (by rw[hkd];omega) r4;have r1:=Lc (n:=.mk 6 T C s p) (show 6<=6 by decide) r5;have r2:=Ld hv0 (by rw[hkd];omega) r1;exact⟨r1,r2,Lm hv0 (by rw[hkd];omega) r2,r4,r5⟩
   ·obtain⟨h12,hT,hC,h1⟩:kd<=12/\T={data:=#[]}/\C=0/\s.length=1:=by
     rcases hv1 with h|h|h|h|h|h|h
     ·omega
     ·omega
     ·omega
     ·omega
     ·omega
     ·omega
     ·exact h.2
    obtain⟨m,rfl⟩:=Lz h1;obtain⟨_,m1,m2,_⟩:=ih m (by simp);rcases Nat.lt_or_ge kd 11 with h11|h11
    ·have r2:Rd2 (.mk kd T C [m] p):=z7K (by omega) hT hC m1
     have r3:=Lm hv0 (by rw[hkd];omega) r2;have r4:=Lp hv0 (by rw[hkd];omega) r3;have r5:=Ev (by rw[hkd];omega) r4;exact⟨Lc (by rw[hkd];omega) r5,r2,r3,r4,r5⟩
    ·have r3:Rd3 (.mk kd T C [m] p):=z7L (by omega) hT hC m2
     have r4:=Lp hv0 (by rw[hkd];omega) r3;have r5:=Ev (by rw[hkd];omega) r4;have r1:=Lc (by rw[hkd];omega) r5;exact⟨r1,Ld hv0 (by rw[hkd];omega) r1,r3,r4,r5⟩
end Go.Proofs.YtikfnaffiehpaaaGreatDoor
