/- Lemmas for the last text. Conditions: those that each names. -/
import Derived.Test.YtikfnaffiehpaaaGreatDoorVM4
set_option linter.unusedVariables false
namespace Go.Proofs.YtikfnaffiehpaaaGreatDoor
open Go.Proofs.Tryz
open Go.RowKit
theorem Md{W:World}{B g kd p:Nat}{n:Nd}{cs:List Value}(h:Qw W (fun g=>B<=g) n cs)(hb:W.heap[g]? =some (.cells cs.toArray 30))(hg:B<=g):Qw W (fun g=>B<=g) (.mk kd {data:=#[]} 0 [n] p) (n8 kd {data:=#[]} 0 (.slice (some ⟨g,0,none⟩) 1 1) p):=by
 rw[Qw];refine⟨_,rfl,.inr ⟨rfl,g,1,cs.toArray,rfl,hg,hb,by unfold maxLen;omega,?_⟩⟩;rw[Qf];exact⟨cs,[],by simp,h,by rw[Qf];trivial⟩
theorem Fw.nd{w w4 W:World}{R b:Nat}{v:Value}{L:List Tok}{k dp:Nat}{c q:Int}{n:Nd}{cs:List Value}(h:Fw w w4 R b v L k dp c q W)(hn:Qw w4 (fun g=>w.heap.size+1<=g) n cs):Qw W (fun g=>w.heap.size+1<=g) n cs:=
 Qw.kept (fun g cur hp hq=>⟨h.kp g (by omega) (Qz hq) (by have:=h.lt;omega),hp⟩) n cs hn
theorem z0e{t:Tok}(h:∀j,j<3->sgB t (sgI j)=false):rpK (sgT t)=0:=by
 have h0:¬sgT t={data:=#[63]}:=of_decide_eq_false (h 0 (by omega));have h1:¬sgT t={data:=#[42]}:=of_decide_eq_false (h 1 (by omega));have h2:¬sgT t={data:=#[43]}:=of_decide_eq_false (h 2 (by omega));unfold rpK;rw[if_neg h0,if_neg h1,if_neg h2]
theorem z0f{t:Tok}{j:Nat}(hj:j<3)(h:sgB t (sgI j)=true):rpK (sgT t)=8+j:=by
 have h0:=of_decide_eq_true h;rw[h0];have hx:j=0∨j=1∨j=2:=by omega
 rcases hx with rfl|rfl|rfl<;>decide
def Xp(D:Nat)(r:Pr)(w4:World)(kd:Int)(T:ByteArray)(a0 a1 a2 a3:Int)(so:Option Addr)(sl sc:Nat)(q2:Int)(k1:Nat)(c1 q1:Int):Prop:=
 match r with
 | .inr (n,k')=>Qw w4 (fun g=>D<=g) n [.int .i64 kd,.string T,.int .u64 a0,.int .u64 a1,.int .u64 a2,.int .u64 a3,.slice so sl sc,.int .i64 q2]/\k1=k'/\c1=0/\q1=0/\q2=(n.at':Int)
 | .inl _=>c1≠0
theorem Kj{r:Pr}{R b:Nat}{v:Value}{L:List Tok}{dp D:Nat}{W w':World}{e:Ending}(hr:∀n k',r=.inr (n,k')->k'<L.length)(h:AnZ r D R b v L dp W e w'):Gz (Xp D r) R b v L dp W e w':=by
 cases r with
 |inr x=>
  obtain⟨n,k'⟩:=x;obtain⟨cs,rfl,hn,hR,hg⟩:=h;obtain⟨kd,T,C,so,sl,sc,hcs⟩:=hn.out.shape;subst hcs;exact⟨(kd:Int),T,(wd C 0:Nat),(wd C 1:Nat),(wd C 2:Nat),(wd C 3:Nat),so,sl,sc,(n.at':Int),k',0,0,rfl,hid ⟨hn.out,rfl,rfl,rfl,rfl⟩,hid ⟨hr n k' rfl,fun _=>rfl⟩,hR,hg⟩
 |inl x=>
  obtain⟨kd,T,a0,a1,a2,a3,so,sl,sc,p,rfl,hx,hg⟩:=h;obtain⟨k1,c,q,h1,h2,h3⟩:=hx.out;exact⟨kd,T,a0,a1,a2,a3,so,sl,sc,p,k1,c,q,rfl,hid h2,hid ⟨h1,fun e=>absurd e h2⟩,hid h3,hg⟩
theorem Qw.form{w:World}{P:Nat->Prop}{n:Nd}{kd:Int}{T:ByteArray}{a0 a1 a2 a3:Int}{so:Option Addr}{sl sc:Nat}{q2:Int}(h:Qw w P n [.int .i64 kd,.string T,.int .u64 a0,.int .u64 a1,.int .u64 a2,.int .u64 a3,.slice so sl sc,.int .i64 q2]):∃kd' C,[Value.int .i64 kd,.string T,.int .u64 a0,.int .u64 a1,.int .u64 a2,.int .u64 a3,.slice so sl sc,.int .i64 q2]=n8 kd' T C (.slice so sl sc) n.at':=by
 obtain⟨kd',T',C,so',sl',sc',h1⟩:=h.shape;have h2:=h1;dsimp only[n8]at h2;simp only[List.cons.injEq,Value.string.injEq,Value.slice.injEq]at h2;obtain⟨_,rfl,_,_,_,_,⟨rfl,rfl,rfl⟩,_⟩:=h2;exact⟨kd',C,h1⟩
theorem y0N(R b:Nat)(v:Value)(L:List Tok)(dp:Nat)(inn:Nat->Pr)(hg:Qv L)(ha:Adv L inn)(ho:MQ 133 (Zj L inn) (fun _=>True) R b v L dp):
  MQ 112 (Zh L inn) (fun k=>(gL L k).1≠6) R b v L dp:=by
 intro k B w h hk h6 hB;have hK:k+1<L.length:=hg.nxt k hk h6;have HO:∀k',k'<L.length->Hid (∀W:World,RdZ W R b v L k' dp 0 0->w.heap.size+1<=W.heap.size->Calls prog 133 #[.pointer (some ⟨R,0,none⟩)] W fun e w'=>Gz (Xp (w.heap.size+1) (Zj L inn k')) R b v L dp W e w'):=fun k' hk'=>hid fun W hW hs=>
  (ho k' (w.heap.size+1) W hW hk' trivial hs).mono fun e w' hA=>Kj (fun n j e=>(Sv hg ha hk' e).2) hA
 have hn0:∀k1,nT L k1 0=gL L k1:=fun k1=>if_pos rfl
 by_cases h33:sgT (gL L k)={data:=#[33]}
 ·have s2:sgB (gL L k) 33=true:=decide_eq_true h33
  have s1:sgB (gL L k) 38=false:=decide_eq_false (fun e=>by rw[h33]at e;exact absurd (congrArg (fun a:ByteArray=>a.data[0]?) e) (by decide));have hsp:Zh L inn k=ovS 12 (gL L k).2.2.2 (Xq L (Zj L inn (k+1))):=by unfold Zh;rw[if_pos h33];rfl
  rw[hsp];refine y0M _ (Xp (w.heap.size+1) (Zj L inn (k+1))) R b v L k dp w h hk hg s1 s2 (HO (k+1) hK) (hid ?_) (hid ?_)
  ·intro kd T2 a0 a1 a2 a3 so sl sc q2 k1 c1 q1 w4 W hX hk1 hF hs g hgb hg4
   cases hr:Zj L inn (k+1)with
   |inl x=>
    rw[hr]at hX;exact⟨_,_,_,_,_,_,_,_,_,_,rfl,hid ⟨k1,c1,q1,hk1,hX,hF.rd⟩,hid hF.gr⟩
   |inr x=>
    obtain⟨n,k'⟩:=x;rw[hr]at hX;obtain⟨hn,rfl,rfl,rfl,rfl⟩:=hX;have hrp:rpK (sgT (gL L k1))=0:=z0e (fun j hj=>by have:=hs j hj;rw[hn0]at this;exact this);have e:ovS 12 (gL L k).2.2.2 (Xq L (.inr (n,k1)))=.inr (.mk 12 {data:=#[]} 0 [n] (gL L k).2.2.2,k1):=by unfold Xq;simp only[hrp,if_true];rfl
    rw[e];have hnd:=Md (kd:=12) (p:=(gL L k).2.2.2) (hF.nd hn) hgb (by have:=hF.l4;omega);exact⟨n8 12 {data:=#[]} 0 (.slice (some ⟨g,0,none⟩) 1 1) (gL L k).2.2.2,rfl,hid (hnd.weak (fun g h=>by omega)),hid hF.rd,hid hF.gr⟩
  ·intro j hj kd T2 a0 a1 a2 a3 so sl sc q2 k1 w4 W g hX hk1 hF hs hgb hg4 g2 hgb2 hg42
   cases hr:Zj L inn (k+1)with
   |inl x=>rw[hr]at hX;exact absurd rfl hX
   |inr x=>
    obtain⟨n,k'⟩:=x;rw[hr]at hX;obtain⟨hn,rfl,_,_,rfl⟩:=hX;have hrp:rpK (sgT (gL L k1))=8+j:=z0f hj hs;have e:ovS 12 (gL L k).2.2.2 (Xq L (.inr (n,k1)))=.inr (.mk 12 {data:=#[]} 0 [.mk (8+j) {data:=#[]} 0 [n] n.at'] (gL L k).2.2.2,k1+1):=by unfold Xq;simp only[hrp];rw[if_neg (by omega)];rfl
    rw[e];have hl4:=hF.l4;have hnd:=Md (kd:=8+j) (p:=n.at') (hF.nd hn) hgb (by omega);have hnd2:=Md (kd:=12) (p:=(gL L k).2.2.2) hnd (g:=g2) hgb2 (by omega);exact⟨n8 12 {data:=#[]} 0 (.slice (some ⟨g2,0,none⟩) 1 1) (gL L k).2.2.2,rfl,hid (hnd2.weak (fun g h=>by omega)),hid hF.rd,hid hF.gr⟩
 ·have s2:sgB (gL L k) 33=false:=decide_eq_false h33
  by_cases h38:sgT (gL L k)={data:=#[38]}
  ·have s1:sgB (gL L k) 38=true:=decide_eq_true h38
   have hsp:Zh L inn k=ovS 11 (gL L k).2.2.2 (Xq L (Zj L inn (k+1))):=by unfold Zh;rw[if_neg h33,if_pos h38];rfl
   rw[hsp];refine y0L _ (Xp (w.heap.size+1) (Zj L inn (k+1))) R b v L k dp w h hk hg s1 s2 (HO (k+1) hK) (hid ?_) (hid ?_)
   ·intro kd T2 a0 a1 a2 a3 so sl sc q2 k1 c1 q1 w4 W hX hk1 hF hs g hgb hg4
    cases hr:Zj L inn (k+1)with
    |inl x=>
     rw[hr]at hX;exact⟨_,_,_,_,_,_,_,_,_,_,rfl,hid ⟨k1,c1,q1,hk1,hX,hF.rd⟩,hid hF.gr⟩
    |inr x=>
     obtain⟨n,k'⟩:=x;rw[hr]at hX;obtain⟨hn,rfl,rfl,rfl,rfl⟩:=hX;have hrp:rpK (sgT (gL L k1))=0:=z0e (fun j hj=>by have:=hs j hj;rw[hn0]at this;exact this);have e:ovS 11 (gL L k).2.2.2 (Xq L (.inr (n,k1)))=.inr (.mk 11 {data:=#[]} 0 [n] (gL L k).2.2.2,k1):=by unfold Xq;simp only[hrp,if_true];rfl
     rw[e];have hnd:=Md (kd:=11) (p:=(gL L k).2.2.2) (hF.nd hn) hgb (by have:=hF.l4;omega);exact⟨n8 11 {data:=#[]} 0 (.slice (some ⟨g,0,none⟩) 1 1) (gL L k).2.2.2,rfl,hid (hnd.weak (fun g h=>by omega)),hid hF.rd,hid hF.gr⟩
   ·intro j hj kd T2 a0 a1 a2 a3 so sl sc q2 k1 w4 W g hX hk1 hF hs hgb hg4 g2 hgb2 hg42
    cases hr:Zj L inn (k+1)with
    |inl x=>rw[hr]at hX;exact absurd rfl hX
    |inr x=>
     obtain⟨n,k'⟩:=x;rw[hr]at hX;obtain⟨hn,rfl,_,_,rfl⟩:=hX;have hrp:rpK (sgT (gL L k1))=8+j:=z0f hj hs;have e:ovS 11 (gL L k).2.2.2 (Xq L (.inr (n,k1)))=.inr (.mk 11 {data:=#[]} 0 [.mk (8+j) {data:=#[]} 0 [n] n.at'] (gL L k).2.2.2,k1+1):=by unfold Xq;simp only[hrp];rw[if_neg (by omega)];rfl
     rw[e];have hl4:=hF.l4;have hnd:=Md (kd:=8+j) (p:=n.at') (hF.nd hn) hgb (by omega);have hnd2:=Md (kd:=11) (p:=(gL L k).2.2.2) hnd (g:=g2) hgb2 (by omega);exact⟨n8 11 {data:=#[]} 0 (.slice (some ⟨g2,0,none⟩) 1 1) (gL L k).2.2.2,rfl,hid (hnd2.weak (fun g h=>by omega)),hid hF.rd,hid hF.gr⟩
  ·have s1:sgB (gL L k) 38=false:=decide_eq_false h38
   have hsp:Zh L inn k=Xq L (Zj L inn k):=by unfold Zh;rw[if_neg h33,if_neg h38];rfl
   rw[hsp];refine y0K _ (Xp (w.heap.size+1) (Zj L inn k)) R b v L k dp w h hk hg s1 s2 (HO k hk) (hid ?_) (hid ?_)
   ·intro kd T2 a0 a1 a2 a3 so sl sc q2 k1 c1 q1 w4 W hX hk1 hF hs
    cases hr:Zj L inn k with
    |inl x=>
     rw[hr]at hX;exact⟨_,_,_,_,_,_,_,_,_,_,rfl,hid ⟨k1,c1,q1,hk1,hX,hF.rd⟩,hid hF.gr⟩
    |inr x=>
     obtain⟨n,k'⟩:=x;rw[hr]at hX;obtain⟨hn,rfl,rfl,rfl,rfl⟩:=hX;have hrp:rpK (sgT (gL L k1))=0:=z0e (fun j hj=>by have:=hs j hj;rw[hn0]at this;exact this);have e:Xq L (.inr (n,k1))=.inr (n,k1):=by unfold Xq;simp only[hrp,if_true]
     rw[e];exact⟨[.int .i64 kd,.string T2,.int .u64 a0,.int .u64 a1,.int .u64 a2,.int .u64 a3,.slice so sl sc,.int .i64 (n.at':Int)],rfl,hid ((hF.nd hn).weak (fun g h=>by omega)),hid hF.rd,hid hF.gr⟩
   ·intro j hj kd T2 a0 a1 a2 a3 so sl sc q2 k1 w4 W g hX hk1 hF hs hgb hg4
    cases hr:Zj L inn k with
    |inl x=>rw[hr]at hX;exact absurd rfl hX
    |inr x=>
     obtain⟨n,k'⟩:=x;rw[hr]at hX;obtain⟨hn,rfl,_,_,rfl⟩:=hX;have hrp:rpK (sgT (gL L k1))=8+j:=z0f hj hs;have e:Xq L (.inr (n,k1))=.inr (.mk (8+j) {data:=#[]} 0 [n] n.at',k1+1):=by unfold Xq;simp only[hrp];rw[if_neg (by omega)]
     rw[e];have hl4:=hF.l4;have hnd:=Md (kd:=8+j) (p:=n.at') (hF.nd hn) hgb (by omega);exact⟨n8 (8+j) {data:=#[]} 0 (.slice (some ⟨g,0,none⟩) 1 1) n.at',rfl,hid (hnd.weak (fun g h=>by omega)),hid hF.rd,hid hF.gr⟩
section
def stB(L:List Tok)(j:Nat)(c:Int):Bool:=if c=0 then ptB L j (gL L j)else false
theorem y0O(R b:Nat)(v:Value)(L:List Tok)(k dp:Nat)(c q:Int)(w:World)(h:RdZ w R b v L k dp c q)(hq:c=0->q=0)(hk:k<L.length)(hg:Qv L):
  Calls prog 111 #[.pointer (some ⟨R,0,none⟩)] w fun e w'=>e=.returned (.bool (stB L k c))/\Below w.heap.size w w':=by
 unfold stB;by_cases hc:c=0
 ·rw[if_pos hc]
  have:=hq hc;subst hc this;exact y0y R b v L k dp w h hk hg
 ·rw[if_neg hc]
  exact y0z R b v L k dp c q w h hc hk hg
theorem z3W{L:List Tok}{j:Nat}{c:Int}(h:stB L j c=true):c=0/\ptB L j (gL L j)=true:=by
 unfold stB at h;split at h
 ·rename_i hc;exact⟨hc,h⟩
 ·cases h
theorem y0P{L:List Tok}{k:Nat}(h:ptB L k (gL L k)=true):(gL L k).1≠6:=by
 intro h6;unfold ptB at h;rw[h6]at h;simp at h
def Fst(m:Nat)(xs:List Value):Prop:=1<=m->∃(kd:Int) (T:ByteArray) (a0 a1 a2 a3:Int) (so:Option Addr) (sl sc:Nat) (p:Int) (rest:List Value),xs=[.int .i64 kd,.string T,.int .u64 a0,.int .u64 a1,.int .u64 a2,.int .u64 a3,.slice so sl sc,.int .i64 p]++rest
theorem Fst.app{m:Nat}{xs:List Value}(h:Fst m xs)(h0:m=0->xs=[])(kd:Int)(T:ByteArray)(a0 a1 a2 a3:Int)(so:Option Addr)(sl sc:Nat)(p:Int):Fst (m+1) (xs++[.int .i64 kd,.string T,.int .u64 a0,.int .u64 a1,.int .u64 a2,.int .u64 a3,.slice so sl sc,.int .i64 p]):=fun _=>by
 rcases Nat.eq_zero_or_pos m with hm|hm
 ·rw[h0 hm]
  exact⟨kd,T,a0,a1,a2,a3,so,sl,sc,p,[],by simp⟩
 ·obtain⟨kd',T',b0,b1,b2,b3,so',sl',sc',p',rest,rfl⟩:=h hm
  exact⟨kd',T',b0,b1,b2,b3,so',sl',sc',p',rest++[.int .i64 kd,.string T,.int .u64 a0,.int .u64 a1,.int .u64 a2,.int .u64 a3,.slice so sl sc,.int .i64 p],by simp⟩
def Jr(L:List Tok)(inn:Nat->Pr)(RES:Pr)(c0:Int)(k B m:Nat)(xs:List Value)(j:Nat)(c q:Int)(a:Value)(wr:World):Prop:=
 (c=0/\q=0/\c0=0/\∃(f:Nat) (acc:List Nd),m=acc.length/\L.length<=f+j/\acc.length<=j/\(acc=[]->j=k)/\Qb L inn f j acc=RES/\Qf wr (fun g=>B<=g/\a.ownBlock≠some g) acc xs)∨(c≠0/\∃x,RES=.inl x)
theorem Jr.below{L:List Tok}{inn:Nat->Pr}{RES:Pr}{c0:Int}{k B m j:Nat}{xs:List Value}{c q:Int}{a:Value}{W W':World}(h:Jr L inn RES c0 k B m xs j c q a W)(hb:Below W.heap.size W W'):Jr L inn RES c0 k B m xs j c q a W':=by
 rcases h with⟨h1,h2,h0,f,acc,h3,h4,h5,h6,h7,h8⟩|h
 ·exact .inl ⟨h1,h2,h0,f,acc,h3,h4,h5,h6,h7,Qf.kept (fun g cur hp hq=>⟨hb.block g (Qz hq),hp⟩) _ _ h8⟩
 ·exact .inr h
theorem Ec{w:World}{R b:Nat}{v:Value}{L:List Tok}{k dp:Nat}{c q:Int}(h:RdZ w R b v L k dp c q):Xy R w=k:=by
 unfold Xy;rw[h.cells.2.1];simp[intOf]
def msR(L:List Tok)(R:Nat)(bm:Value)(wr:World):Nat:=match bm with
 | .bool true=>L.length-Xy R wr+1
 |_=>0
theorem Ew.rowed{w W W':World}{R b:Nat}{v:Value}{L:List Tok}{k dp:Nat}{c q:Int}{row:Option Nat}(h:Ew w R b v L k dp c q W)(hg:W.grownBy W' row)(hr:∀g,row=some g->w.heap.size<g):Ew w R b v L k dp c q W':=by
 have hR:=h.lt;have hs:=h.size;have hne:some R≠row:=fun e=>by have:=hr R e.symm;omega
 have hnq:some w.heap.size≠row:=fun e=>by have:=hr _ e.symm;omega
 have hvv:v.ownBlock=none∨v.ownBlock≠row:=by
  cases hv:v.ownBlock with
  |none=>exact .inl rfl
  |some g=>exact .inr (fun e=>h.2.2.2.2 g (by have:=hr g e.symm;omega) hv)
 exact⟨⟨(hg.block R (by omega) hne).trans h.1.1,h.1.2.kept hg hvv⟩,⟨hg.os.trans h.2.1.os,hg.tape.trans h.2.1.tape,hg.output.trans h.2.1.output,Nat.le_trans h.2.1.size hg.size,fun j hj hne=>(hg.block j (by omega) (fun e=>by have:=hr j e.symm;omega)).trans (h.2.1.block j hj hne)⟩,(hg.block _ hs hnq).trans h.2.2.1,hR,h.2.2.2.2⟩
theorem z0g{w:World}{base e size n:Nat}{v:Value}{xs ys:List Value}(h:w.ownsRow base e size v n xs)(h2:w.ownsRow base e size v n ys):xs=ys:=by
 obtain⟨l1,h⟩:=h;obtain⟨l2,h2⟩:=h2;rcases h with⟨h1,hn⟩|⟨g,cap,cur,rfl,_,hg,_,_,_,ht⟩
 ·subst hn
  rw[Nat.zero_mul]at l1 l2;rw[List.eq_nil_of_length_eq_zero l1,List.eq_nil_of_length_eq_zero l2]
 ·rcases h2 with⟨h1,_⟩|⟨g',cap',cur',e',_,hg',_,_,_,ht'⟩
  ·cases h1
  ·cases e'
   rw[hg]at hg';cases hg';rw[<-ht,<-ht']
theorem Jr.step{L:List Tok}{inn:Nat->Pr}{RES:Pr}{c0:Int}{k B m j R:Nat}{xs:List Value}{a a':Value}{W W2 W3 W4:World}{kd:Int}{T:ByteArray}{a0 a1 a2 a3:Int}{so:Option Addr}{sl sc:Nat}{p:Int}{k1:Nat}{c1 q1:Int}
  (hg:Qv L)(ha:Adv L inn)(hj:j<L.length)(hp:ptB L j (gL L j)=true)(h:Jr L inn RES c0 k B m xs j 0 0 a W)(ho:W.ownsRow B 30 8 a m xs)(hR:R<B)(hB:B<=W.heap.size)(hgr:W.grownBy W2 (some R))
  (hX:Xp W.heap.size (Zh L inn j) W2 kd T a0 a1 a2 a3 so sl sc p k1 c1 q1)(hb:Below W2.heap.size W2 W3)(hown:W4.ownsRow B 30 8 a' (m+1) (xs++[.int .i64 kd,.string T,.int .u64 a0,.int .u64 a1,.int .u64 a2,.int .u64 a3,.slice so sl sc,.int .i64 p]))(hgr4:W3.grownBy W4 a.ownBlock)(hat:a'.ownBlock=a.ownBlock∨a'.ownBlock=some W3.heap.size):
  Jr L inn RES c0 k B (m+1) (xs++[.int .i64 kd,.string T,.int .u64 a0,.int .u64 a1,.int .u64 a2,.int .u64 a3,.slice so sl sc,.int .i64 p]) k1 c1 q1 a' W4:=by
 rcases h with⟨_,_,h0,f,acc,rfl,h4,h5,h6,h7,h8⟩|⟨h,_⟩
 ·cases f with
  |zero=>omega
  |succ f=>
   rw[Qb,if_pos hp]at h7;cases hs:Zh L inn j with
   |inl x=>
    rw[hs]at h7 hX;exact .inr ⟨hX,x,h7.symm⟩
   |inr x=>
    obtain⟨n,k'⟩:=x;rw[hs]at h7 hX;obtain⟨hn,rfl,rfl,rfl,_⟩:=hX;have hadv:=Cw hg ha hj hs;have hro:Ro B a acc W:=⟨xs,ho,h8⟩;obtain⟨ys,hy1,hy2⟩:=hro.grown hgr hR;have hy:W2.ownsRow B 30 8 a acc.length xs:=ho.kept hgr (.inr (fun e=>by have:=(ho.lt _ e).1;omega));have h82:Qf W2 (fun g=>B<=g/\a.ownBlock≠some g) acc xs:=Qf.kept (fun g cur hp hq=>⟨hgr.block g (Qz hq) (fun e=>by have e2:g=R:=Option.some.inj e;have:=hp.1;omega),hp⟩) _ _ h8;obtain⟨zs,hz1,hz2⟩:=Ro.app hy h82 hn hB (fun g e=>(ho.lt g e).2) hb hown hgr4 hat;have hzx:zs=xs++[.int .i64 kd,.string T,.int .u64 a0,.int .u64 a1,.int .u64 a2,.int .u64 a3,.slice so sl sc,.int .i64 p]:=by
     have h1:=z0g hz1 (by rw[List.length_append];exact hown);exact h1
    rw[hzx]at hz2;exact .inl ⟨rfl,rfl,h0,f,acc++[n],by simp,by omega,by simp;omega,fun e=>by simp at e,h7,hz2⟩
 ·exact absurd rfl h
section
variable {L:List Tok} {inn:Nat->Pr} {RES:Pr} {c0:Int} {k m j R b dp B:Nat} {xs:List Value} {c q:Int} {a v:Value} {w W:World}
theorem Jr.fin0{t:Tok}(h:Jr L inn RES c0 k (w.heap.size+1) 0 xs j c q a W)(hst:stB L j c=false)(hE:Ew w R b v L j dp c q W)(hj:j<L.length)(ht:t=nT L k c0)(hB:B<=w.heap.size):
  AnZ RES B R b v L dp w (.returned (.agg #[.int .i64 1,.string ⟨#[]⟩,.int .u64 0,.int .u64 0,.int .u64 0,.int .u64 0,.slice none 0 0,.int .i64 (t.2.2.2:Int)])) (st8 W w.heap.size 1 {data:=#[]} 0 0 0 0 (.slice none 0 0) (t.2.2.2:Int)):=by
 rcases h with⟨rfl,rfl,rfl,f,acc,h3,h4,h5,h6,h7,h8⟩|⟨hc,x,rfl⟩
 ·have ha:acc=[]:=List.eq_nil_of_length_eq_zero h3.symm
  subst ha;have hjk:=h6 rfl;subst hjk;have hp:¬ptB L j (gL L j)=true:=by
   unfold stB at hst;rw[if_pos rfl]at hst;rw[hst];decide
  cases f with
  |zero=>omega
  |succ f=>
   rw[Qb,if_neg hp,if_pos (show([]:List Nd).isEmpty=true from rfl)]at h7;subst h7;have e:t=gL L j:=by rw[ht];exact if_pos rfl
   subst e;exact hE.fin (C:=0) (kd:=1) (by rw[Qw];exact⟨_,rfl,.inl ⟨rfl,rfl⟩⟩) hB
 ·exact hE.err hc hj 1 {data:=#[]} 0 0 0 0 none 0 0 (t.2.2.2:Int)
theorem Jr.fin1{kd:Int}{T:ByteArray}{a0 a1 a2 a3:Int}{so:Option Addr}{sl sc:Nat}{p:Int}{rest:List Value}(h:Jr L inn RES c0 k (w.heap.size+1) 1 xs j c q a W)(hx:xs=[.int .i64 kd,.string T,.int .u64 a0,.int .u64 a1,.int .u64 a2,.int .u64 a3,.slice so sl sc,.int .i64 p]++rest)(hst:stB L j c=false)(hE:Ew w R b v L j dp c q W)(hj:j<L.length)(hB:B<=w.heap.size):
  AnZ RES B R b v L dp w (.returned (.agg #[.int .i64 kd,.string T,.int .u64 a0,.int .u64 a1,.int .u64 a2,.int .u64 a3,.slice so sl sc,.int .i64 p])) (st8 W w.heap.size kd T a0 a1 a2 a3 (.slice so sl sc) p):=by
 rcases h with⟨rfl,rfl,rfl,f,acc,h3,h4,h5,h6,h7,h8⟩|⟨hc,x,rfl⟩
 ·obtain⟨n,rfl⟩:∃n,acc=[n]:=by
   match acc,h3 with
   |[n],_=>exact⟨n,rfl⟩
  have hp:¬ptB L j (gL L j)=true:=by
   unfold stB at hst;rw[if_pos rfl]at hst;rw[hst];decide
  cases f with
  |zero=>omega
  |succ f=>
   rw[Qb,if_neg hp,if_neg (by simp)]at h7;subst h7;rw[Qf]at h8;obtain⟨cs,r,e,hn,_⟩:=h8;rw[hx]at e;have hl:=hn.len;have he:=List.append_inj_left e (by rw[hl];rfl);subst he;obtain⟨kd',C,h9⟩:=hn.form;have h10:=h9;dsimp only[n8]at h10;simp only[List.cons.injEq,Value.int.injEq,and_true,true_and]at h10;obtain⟨rfl,rfl,rfl,rfl,rfl,rfl⟩:=h10;exact hE.fin (kd:=kd') (C:=C) (n:=n) (hn.weak (fun g h=>h.1)) hB
 ·exact hE.err hc hj kd T a0 a1 a2 a3 so sl sc p
theorem Jr.fin2{kd:Int}{T:ByteArray}{a0 a1 a2 a3:Int}{so:Option Addr}{sl sc:Nat}{p:Int}{rest:List Value}{g cap:Nat}(h:Jr L inn RES c0 k (w.heap.size+1) m xs j c q (.slice (some ⟨g,0,none⟩) m cap) W)(hm:2<=m)(ho:W.ownsRow (w.heap.size+1) 30 8 (.slice (some ⟨g,0,none⟩) m cap) m xs)(hx:xs=[.int .i64 kd,.string T,.int .u64 a0,.int .u64 a1,.int .u64 a2,.int .u64 a3,.slice so sl sc,.int .i64 p]++rest)(hst:stB L j c=false)(hE:Ew w R b v L j dp c q W)(hj:j<L.length)(hB:B<=w.heap.size):
  AnZ RES B R b v L dp w (.returned (.agg #[.int .i64 6,.string ⟨#[]⟩,.int .u64 0,.int .u64 0,.int .u64 0,.int .u64 0,.slice (some ⟨g,0,none⟩) m cap,.int .i64 p])) (st8 W w.heap.size 6 {data:=#[]} 0 0 0 0 (.slice (some ⟨g,0,none⟩) m cap) p):=by
 rcases h with⟨rfl,rfl,rfl,f,acc,h3,h4,h5,h6,h7,h8⟩|⟨hc,x,rfl⟩
 ·obtain⟨n,n2,r,rfl⟩:∃n n2 r,acc=n::n2::r:=by
   match acc,h3 with
   |[],h=>simp at h;omega
   |[_],h=>simp at h;omega
   |n::n2::r,_=>exact⟨n,n2,r,rfl⟩
  have hp:¬ptB L j (gL L j)=true:=by
   unfold stB at hst;rw[if_pos rfl]at hst;rw[hst];decide
  cases f with
  |zero=>omega
  |succ f=>
   rw[Qb,if_neg hp,if_neg (by simp)]at h7;subst h7;have h8':=h8;rw[Qf]at h8';obtain⟨cs,rr,e,hn,_⟩:=h8';rw[hx]at e;have hl:=hn.len;have he:=List.append_inj_left e (by rw[hl];rfl);subst he;obtain⟨kd',C,h9⟩:=hn.form;have h10:=h9;dsimp only[n8]at h10;simp only[List.cons.injEq,Value.int.injEq,and_true,true_and]at h10;obtain⟨_,_,_,_,_,rfl⟩:=h10;rcases ho with⟨hlx,⟨e1,_⟩|⟨g',cap',cur,e1,hgb,hcur,hcap,hmax,hsz,htk⟩⟩
   ·cases e1
   ·cases e1
    refine hE.fin (kd:=6) (C:=0) (n:=.mk 6 {data:=#[]} 0 (n::n2::r) n.at') ?_ hB;rw[Qw];refine⟨_,rfl,.inr ⟨rfl,g,cap,cur,by rw[Kb,<-h3],hgb,hcur,hmax,?_⟩⟩;have h11:cur.toList=xs++cur.toList.drop (m*8):=by rw[<-htk,List.take_append_drop]
    rw[h11];exact(Qf.more _ _ _ h8).weak (fun g h=>h.1)
 ·exact hE.err hc hj 6 {data:=#[]} 0 0 0 0 (some ⟨g,0,none⟩) m cap p
end
end
end Go.Proofs.YtikfnaffiehpaaaGreatDoor
