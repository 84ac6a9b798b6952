/- Lemmas for the last text. Conditions: those that each names. -/
import Derived.Test.YtikfnaffiehpaaaGreatDoorVN2ToR8
set_option linter.unusedVariables false
set_option maxRecDepth 100000
set_option maxHeartbeats 8000000
namespace Go.Proofs.YtikfnaffiehpaaaGreatDoor
open Go.Proofs.Tryz
open Go.RowKit Go.Shelf
variable {w:World} {B g:Nat}
inductive RT where
 |mk (k:Int) (T:ByteArray) (a b c d:Int) (subs:List RT) (p:Int)
@[reducible] def r8 (k:Int) (T:ByteArray) (a b c d:Int) (so:Option Addr) (n cap:Nat) (p:Int):List Value:=
  [.int .i64 k,.string T,.int .u64 a,.int .u64 b,.int .u64 c,.int .u64 d,.slice so n cap,.int .i64 p]
mutual
def Qh(w:World)(B:Nat):RT->List Value->Prop
 | .mk k T a b c d s p,cs=>∃so cap,cs=r8 k T a b c d so (Qg s) cap p/\(s.isEmpty=true∨(s.isEmpty=false/\∃g o,so=some ⟨g,o,none⟩/\g<B/\Qg s<=maxLen/\Zb w B g o s))
def Zb(w:World)(B g:Nat):Nat->List RT->Prop
 |_,[]=>True
 |o,t::r=>(∃cs,Qh w B t cs/\∀j u,cs[j]? =some u->w.cell? ⟨g,o+j,none⟩=some u)/\Zb w B g (o+8) r
def Qg:List RT->Nat
 |[]=>0
 |_::r=>Qg r+1
end
theorem Dc:∀l:List RT,Qg l=l.length
 |[]=>rfl
 |_::r=>by rw[Qg,Dc r];rfl
mutual
def RtZ:RT->Prop
 | .mk _ T _ _ _ _ s _=>T.size<=9223372036854775807/\Vp s
def Vp:List RT->Prop
 |[]=>True
 |t::r=>RtZ t/\Vp r
end
mutual
def okT:RT->Bool
 | .mk k T a b c d s p=>okN k T a b c d (Qg s)&&okL s
def okL:List RT->Bool
 |[]=>true
 |t::r=>okT t&&okL r
end
mutual
theorem Qh.kept{w w':World}{B:Nat}(h:∀g o u,g<B->w.cell? ⟨g,o,none⟩=some u->w'.cell? ⟨g,o,none⟩=some u):∀(t:RT) (cs:List Value),Qh w B t cs->Qh w' B t cs
 | .mk k T a b c d s p,cs,ht=>by
   rw[Qh]at ht ⊢;obtain⟨so,cap,rfl,ht⟩:=ht;refine⟨so,cap,rfl,?_⟩;rcases ht with h1|⟨h1,g,o,h2,h3,h4,h5⟩
   ·exact .inl h1
   ·exact .inr ⟨h1,g,o,h2,h3,h4,Zb.kept h h3 s o h5⟩
theorem Zb.kept{w w':World}{B g:Nat}(h:∀g o u,g<B->w.cell? ⟨g,o,none⟩=some u->w'.cell? ⟨g,o,none⟩=some u)(hg:g<B):∀(s:List RT) (o:Nat),Zb w B g o s->Zb w' B g o s
 |[],o,_=>by rw[Zb];trivial
 |t::r,o,ht=>by
  rw[Zb]at ht ⊢;obtain⟨⟨cs,h1,h2⟩,h3⟩:=ht;exact⟨⟨cs,Qh.kept h t cs h1,fun j u hj=>h g _ u hg (h2 j u hj)⟩,Zb.kept h hg r _ h3⟩
end
theorem Qh.below{w':World}{t:RT}{cs:List Value}(h:Qh w B t cs)(hb:Below B w w'):Qh w' B t cs:=h.kept (fun g o u hg hu=>(hb.cell (p:=⟨g,o,none⟩) hg).trans hu) t cs
theorem Zb.below{w':World}{o:Nat}{s:List RT}(h:Zb w B g o s)(hg:g<B)(hb:Below B w w'):Zb w' B g o s:=h.kept (fun g o u hg hu=>(hb.cell (p:=⟨g,o,none⟩) hg).trans hu) hg s o
theorem Qh.shape{t:RT}{cs:List Value}(h:Qh w B t cs):∃k T a b c d so n cap p,cs=r8 k T a b c d so n cap p:=by
 cases t;rw[Qh]at h;obtain⟨so,cap,rfl,_⟩:=h;exact⟨_,_,_,_,_,_,_,_,_,_,rfl⟩
def Rc(w:World)(g o:Nat)(k:Int)(T:ByteArray)(a b c d:Int)(sv:Value)(p:Int):Prop:=w.cell? ⟨g,o,none⟩=some (.int .i64 k)/\w.cell? ⟨g,o+1,none⟩=some (.string T)/\w.cell? ⟨g,o+2,none⟩=some (.int .u64 a)/\w.cell? ⟨g,o+3,none⟩=some (.int .u64 b)/\w.cell? ⟨g,o+4,none⟩=some (.int .u64 c)/\w.cell? ⟨g,o+5,none⟩=some (.int .u64 d)/\w.cell? ⟨g,o+6,none⟩=some sv/\w.cell? ⟨g,o+7,none⟩=some (.int .i64 p)
theorem Kl{w:World}{B g:Nat}:∀{s:List RT} {o:Nat},Zb w B g o s->∀(k:Nat) (hk:k<s.length),∃kd T a b c d so n cap p,Qh w B s[k] (r8 kd T a b c d so n cap p)/\Rc w g (o+k*8) kd T a b c d (.slice so n cap) p
 |[],o,h,k,hk=>by simp at hk
 |t::r,o,h,0,hk=>by
  rw[Zb]at h;obtain⟨⟨cs,h1,h2⟩,_⟩:=h;obtain⟨kd,T,a,b,c,d,so,n,cap,p,rfl⟩:=h1.shape;refine⟨kd,T,a,b,c,d,so,n,cap,p,h1,?_⟩;rw[Nat.zero_mul,Nat.add_zero];exact⟨h2 0 _ rfl,h2 1 _ rfl,h2 2 _ rfl,h2 3 _ rfl,h2 4 _ rfl,h2 5 _ rfl,h2 6 _ rfl,h2 7 _ rfl⟩
 |t::r,o,h,k+1,hk=>by
  rw[Zb]at h;obtain⟨kd,T,a,b,c,d,so,n,cap,p,h1,h2⟩:=Kl h.2 k (by simpa using hk);refine⟨kd,T,a,b,c,d,so,n,cap,p,h1,?_⟩;rw[show o+(k+1)*8=o+8+k*8 by omega];exact h2
theorem Rc.below{W:World}{o:Nat}{k a b c d p:Int}{T:ByteArray}{sv:Value}(h:Rc w g o k T a b c d sv p)(hb:Below B w W)(hg:g<B):Rc W g o k T a b c d sv p:=by
 obtain⟨h0,h1,h2,h3,h4,h5,h6,h7⟩:=h;have e:∀j,W.cell? ⟨g,j,none⟩=w.cell? ⟨g,j,none⟩:=fun j=>hb.cell (p:=⟨g,j,none⟩) hg
 exact⟨(e _).trans h0,(e _).trans h1,(e _).trans h2,(e _).trans h3,(e _).trans h4,(e _).trans h5,(e _).trans h6,(e _).trans h7⟩
theorem Vc:∀{s:List RT} (j:Nat) (hj:j<s.length),okT s[j]=false->okL s=false
 |[],j,hj,_=>by simp at hj
 |t::r,0,_,h=>by rw[okL,show okT t=false from h];rfl
 |t::r,j+1,hj,h=>by rw[okL,Vc j (by simpa using hj) h,Bool.and_false]
theorem Vl:∀{s:List RT},(∀(j:Nat) (hj:j<s.length),okT s[j]=true)->okL s=true
 |[],_=>by rw[okL]
 |t::r,h=>by rw[okL,show okT t=true from h 0 (by simp),Vl (s:=r) (fun j hj=>h (j+1) (by simpa using hj))];rfl
theorem Vp.get:∀{s:List RT},Vp s->∀(j:Nat) (hj:j<s.length),RtZ s[j]
 |[],_,j,hj=>by simp at hj
 |t::r,h,0,_=>by rw[Vp]at h;exact h.1
 |t::r,h,j+1,hj=>by rw[Vp]at h;exact Vp.get h.2 j (by simpa using hj)
theorem z9g{a0 a1 a2 a3 a4 a5 a6 a7:Value}(h:w.heap[g]? =some (.cells #[a0,a1,a2,a3,a4,a5,a6,a7] 30)):w.cell? ⟨g,6,none⟩=some a6:=(Qk h).1.2.2.2.2.2.2.1
theorem z9h(k:Int)(T:ByteArray)(a b c d p:Int)(so:Option Addr)(n cap:Nat)(w:World)(hT:T.size<=9223372036854775807)(hk:okN k T a b c d n=false):
  Calls prog 32 #[.agg (r8 k T a b c d so n cap p).toArray] w fun e w'=>e=.returned (.bool false)/\Below w.heap.size w w':=by
 have HI:=hid (fun w:World=>z3x k T a b c d p so n cap w hT);rw[hk]at HI;go_enter func32,ntmps32
 go_wp2_with(first|(go_at_call 55;refine(HI.out _).mono ?_;rintro e wq ⟨rfl,hbq⟩))
 go_ret;exact⟨rfl,((Below.refl _ w).alloc L0q _).trans (hbq.mono (by simp))⟩
theorem z3y(k:Int)(T:ByteArray)(a b c d p:Int)(so:Option Addr)(n cap:Nat)(s:List RT)(w:World)(hT:T.size<=9223372036854775807)(hk:okN k T a b c d n=true)(hn:n<=9223372036854775807)(HN:Hid (n=s.length))
  (HC:Hid (∀j (hj:j<s.length),∃g o,so=some ⟨g,o,none⟩/\g<w.heap.size/\∃k1 T1 a1 b1 c1 d1 so1 n1 cap1 p1,Rc w g (o+j*8) k1 T1 a1 b1 c1 d1 (.slice so1 n1 cap1) p1/\
    ∀W:World,Below w.heap.size w W->Calls prog 32 #[.agg (r8 k1 T1 a1 b1 c1 d1 so1 n1 cap1 p1).toArray] W fun e w'=>e=.returned (.bool (okT s[j]))/\Below W.heap.size W w')):
  Calls prog 32 #[.agg (r8 k T a b c d so n cap p).toArray] w fun e w'=>e=.returned (.bool (okL s))/\Below w.heap.size w w':=by
 have HI:=hid (fun w:World=>z3x k T a b c d p so n cap w hT);rw[hk]at HI;obtain⟨R,hR⟩:∃R,R=okL s:=⟨_,rfl⟩;have HR:=hid hR;rw[<-hR];clear hR hk hT;obtain⟨W1,hW1⟩:∃W1,W1=w.alloc (.cells #[.int .i64 k,.string T,.int .u64 a,.int .u64 b,.int .u64 c,.int .u64 d,.slice so n cap,.int .i64 p] 30):=⟨_,rfl⟩;have HB1:Hid (Below w.heap.size w W1):=by rw[hW1];exact(Below.refl _ w).alloc L0q _
 have HC1:Hid (W1.heap[w.heap.size]? =some (.cells #[.int .i64 k,.string T,.int .u64 a,.int .u64 b,.int .u64 c,.int .u64 d,.slice so n cap,.int .i64 p] 30)):=by rw[hW1];exact Qq w _ rfl
 have HZ1:Hid (W1.heap.size=w.heap.size+1):=by rw[hW1];exact World.size_alloc _ _
 have HW1:=hid hW1;clear hW1;dsimp only[r8];go_enter func32,ntmps32
 go_wp2_with(first|(go_at_call 55;rw[<-HW1.out];refine(HI.out _).mono ?_;rintro e wq ⟨rfl,hbq⟩;have c6:=z9g ((hbq.block _ (by rw[HZ1.out];exact Nat.lt_succ_self _)).trans HC1.out)))
 have HBq:Hid (Below w.heap.size w wq):=HB1.out.trans (hbq.mono HB1.out.size);clear hbq c6 HB1 HC1 HZ1 HW1 HI
 go_loopw [11] (fun i wr=>∃j:Nat,i=.int .i64 j/\j<=n/\Hid (Below w.heap.size w wr)/\Hid (∀i (hi:i<s.length),i<j->okT s[i]=true)) (fun i _=>n-(intOf i).toNat)
 case atStart=>exact⟨0,rfl,Nat.zero_le _,HBq,fun i _ h=>absurd h (by omega)⟩
 case round=>
  obtain⟨j,rfl,hj,HB,HO⟩:=hrel;clear HBq;by_cases hjn:j<n
  ·have hjI:(j:Int)<(n:Int):=by omega
   have a0:decide ((j:Int)<(n:Int))=true:=by simp;omega
   have hjs:j<s.length:=by rw[<-HN.out];exact hjn
   obtain⟨g,o,rfl,hg,k1,T1,a1,b1,c1,d1,so1,n1,cap1,p1,rc,hc⟩:=HC.out j hjs;obtain⟨z0,z1,z2,z3,z4,z5,z6,z7⟩:=rc.below HB.out hg;have HG:=hid (fun W (hb:Below wr.heap.size wr W)=>hc W (HB.out.trans (hb.mono HB.out.size)));obtain⟨Q,hQ⟩:∃Q,Q=okT s[j]:=⟨_,rfl⟩;rw[<-hQ]at HG;have HQ:=hid hQ;clear hc rc hQ HC;dsimp only[r8]at HG
   go_wp2_with(first|(go_at_call 32;refine(HG.out _ ?hh).mono ?_;(case hh=>exact B0q.alloc L0q _);rintro e wz ⟨rfl,hbz⟩))
   ·rename_i hq
    have hb2:=HB.out.trans ((((Below.refl _ wr).alloc L0q _).trans (hbz.mono (by simp))).mono HB.out.size);go_ret;refine⟨?_,hb2⟩;rw[HR.out,Vc j hjs (by rw[<-HQ.out];simpa using hq)];rfl
   ·rename_i hq
    have hb2:=HB.out.trans ((((Below.refl _ wr).alloc L0q _).trans (hbz.mono (by simp))).mono HB.out.size);refine⟨⟨j+1,by go_num,by omega,hb2,fun i hi hij=> ?_⟩,?_⟩
    ·rcases Nat.lt_or_ge i j with h1|h1
     ·exact HO.out i hi h1
     ·obtain rfl:i=j:=by omega
      rw[<-HQ.out];simpa using hq
    ·simp[intOf];omega
  ·have a0:decide ((j:Int)<(n:Int))=false:=by simp;omega
   clear HC
   go_wp2_with fail
   go_ret;refine⟨?_,HB.out⟩;rw[HR.out,Vl fun i hi=>HO.out i hi (by have:=HN.out;omega)];rfl
theorem z3z:∀(N:Nat) (t:RT) (cs:List Value) (B:Nat) (w:World),SizeOf.sizeOf t<N->RtZ t->Qh w B t cs->B<=w.heap.size->
  Calls prog 32 #[.agg cs.toArray] w fun e w'=>e=.returned (.bool (okT t))/\Below w.heap.size w w'
 |0,t,_,_,_,h,_,_,_=>by omega
 |N+1,.mk k T a b c d s p,cs,B,w,hN,hz,ht,hB=>by
  rw[RtZ]at hz;rw[Qh]at ht;obtain⟨so,cap,rfl,ht⟩:=ht;rw[okT];cases hk:okN k T a b c d (Qg s)with
  |false=>exact z9h k T a b c d p so (Qg s) cap w hz.1 hk
  |true=>
   rw[Bool.true_and];rcases ht with h1|⟨h1,g,o,rfl,hg,hm,hs⟩
   ·have hs0:s=[]:=by simpa using h1
    subst hs0;exact z3y k T a b c d p so _ cap [] w hz.1 hk (by rw[Qg];omega) (hid (by rw[Qg];rfl)) (hid (fun j hj=>by simp at hj))
   ·refine z3y k T a b c d p _ _ cap s w hz.1 hk (by unfold maxLen at hm;omega) (hid (Dc s)) (hid (fun j hj=> ?_))
    obtain⟨k1,T1,a1,b1,c1,d1,so1,n1,cap1,p1,r1,r2⟩:=Kl hs j hj;refine⟨g,o,rfl,by omega,k1,T1,a1,b1,c1,d1,so1,n1,cap1,p1,r2,fun W hW=> ?_⟩;have hsz:=List.sizeOf_lt_of_mem (List.getElem_mem hj);simp only[RT.mk.sizeOf_spec]at hN;exact z3z N s[j] _ B W (by omega) (hz.2.get j hj) (r1.below (hW.mono hB)) (Nat.le_trans hB hW.size)
theorem z9i(t:RT)(cs:List Value)(B:Nat)(w:World)(hz:RtZ t)(h:Qh w B t cs)(hB:B<=w.heap.size):
 Calls prog 32 #[.agg cs.toArray] w fun e w'=>e=.returned (.bool (okT t))/\Below w.heap.size w w':=z3z _ t cs B w (Nat.lt_succ_self _) hz h hB
abbrev Rr:=ByteArray×RT×Int
def Rk(w:World)(B g o:Nat)(x:Rr):Prop:=∃k T a b c d so n cap p,Qh w B x.2.1 (r8 k T a b c d so n cap p)/\w.cell? ⟨g,o,none⟩=some (.string x.1)/\w.cell? ⟨g,o+1,none⟩=some (.int .i64 k)/\w.cell? ⟨g,o+2,none⟩=some (.string T)/\w.cell? ⟨g,o+3,none⟩=some (.int .u64 a)/\w.cell? ⟨g,o+4,none⟩=some (.int .u64 b)/\w.cell? ⟨g,o+5,none⟩=some (.int .u64 c)/\w.cell? ⟨g,o+6,none⟩=some (.int .u64 d)/\w.cell? ⟨g,o+7,none⟩=some (.slice so n cap)/\w.cell? ⟨g,o+8,none⟩=some (.int .i64 p)/\w.cell? ⟨g,o+9,none⟩=some (.int .i64 x.2.2)
def Xh(w:World)(B:Nat)(so:Option Addr)(n:Nat)(rs:List Rr):Prop:=n=rs.length/\n<=maxLen/\∀j (hj:j<rs.length),∃g o,so=some ⟨g,o,none⟩/\g<B/\Rk w B g (o+j*10) rs[j]
theorem Rk.below{w w':World}{B g o:Nat}{x:Rr}(h:Rk w B g o x)(hb:Below B w w')(hg:g<B):Rk w' B g o x:=by
 obtain⟨k,T,a,b,c,d,so,n,cap,p,h1,z0,z1,z2,z3,z4,z5,z6,z7,z8,z9⟩:=h;have e:∀j,w'.cell? ⟨g,j,none⟩=w.cell? ⟨g,j,none⟩:=fun j=>hb.cell (p:=⟨g,j,none⟩) hg
 exact⟨k,T,a,b,c,d,so,n,cap,p,h1.below hb,(e _).trans z0,(e _).trans z1,(e _).trans z2,(e _).trans z3,(e _).trans z4,(e _).trans z5,(e _).trans z6,(e _).trans z7,(e _).trans z8,(e _).trans z9⟩
theorem Xh.below{w w':World}{B n:Nat}{so:Option Addr}{rs:List Rr}(h:Xh w B so n rs)(hb:Below B w w'):Xh w' B so n rs:=
 ⟨h.1,h.2.1,fun j hj=>by
   obtain⟨g,o,h1,h2,h3⟩:=h.2.2 j hj;exact⟨g,o,h1,h2,h3.below hb h2⟩⟩
def RgZ(rs:List Rr):Prop:=∀x∈rs,x.1.size<=9223372036854775807/\RtZ x.2.1
def okR(x:Rr):Bool:=nmS x.1&&okT x.2.1
def okG(rs:List Rr):Bool:=decide (1<=rs.length)&&(decide (rs.length<=64)&&rs.all okR)
theorem Oy{rs:List Rr}(j:Nat)(hj:j<rs.length)(h:okR rs[j]=false):rs.all okR=false:=by
 rw[List.all_eq_false];exact⟨_,List.getElem_mem hj,by rw[h];simp⟩
theorem z3A{rs:List Rr}(h:∀j (hj:j<rs.length),okR rs[j]=true):rs.all okR=true:=by
 rw[List.all_eq_true];intro x hx;obtain⟨j,hj,rfl⟩:=List.mem_iff_getElem.1 hx;exact h j hj
theorem z3B(so:Option Addr)(n cap:Nat)(rs:List Rr)(B:Nat)(w:World)(hz:RgZ rs)(h:Xh w B so n rs)(hB:B<=w.heap.size):
  Calls prog 21 #[.agg #[.slice so n cap]] w fun e w'=>e=.returned (.bool (okG rs))/\Below w.heap.size w w':=by
 obtain⟨R,hR⟩:∃R,R=okG rs:=⟨_,rfl⟩;have HR:=hid hR;rw[<-hR];clear hR;have HN:Hid (n=rs.length):=h.1;have hm:n<=9223372036854775807:=by have:=h.2.1;unfold maxLen at this;omega
 have HG:=hid h;have HZ:=hid hz;clear h hz;by_cases h0:n=0
 ·have q0:((n:Int) == 0)=true:=by simp;omega
  clear HG;go_enter func21,ntmps21
  go_wp2_with fail
  go_ret;refine⟨?_,B0q.alloc L0q _⟩;rw[HR.out];unfold okG;rw[decide_eq_false (by have:=HN.out;omega)];rfl
 have q0:((n:Int) == 0)=false:=by simp;omega
 by_cases h1:64<n
 ·have q1:(64:Int)<(n:Int):=by omega
  have q2:decide ((64:Int)<(n:Int))=true:=by simp;omega
  clear HG;go_enter func21,ntmps21
  go_wp2_with fail
  go_ret;refine⟨?_,B0q.alloc L0q _⟩;rw[HR.out];unfold okG;rw[decide_eq_false (p:=rs.length<=64) (by have:=HN.out;omega),Bool.false_and,Bool.and_false];rfl
 have q1:¬(64:Int)<(n:Int):=by omega
 have q2:decide ((64:Int)<(n:Int))=false:=by simp;omega
 have HR2:Hid (R=rs.all okR):=by
  refine HR.out.trans ?_;unfold okG;rw[decide_eq_true (by have:=HN.out;omega),decide_eq_true (p:=rs.length<=64) (by have:=HN.out;omega)];rfl
 clear HR;have HB0:Hid (Below w.heap.size w (w.alloc (.cells #[.slice so n cap] 24))):=(Below.refl _ w).alloc L0q _;go_enter func21,ntmps21
 go_wp2_with fail
 go_loopw [18] (fun i wr=>∃j:Nat,i=.int .i64 j/\j<=n/\Hid (Below w.heap.size w wr)/\Hid (∀i (hi:i<rs.length),i<j->okR rs[i]=true)) (fun i _=>n-(intOf i).toNat)
 case atStart=>exact⟨0,rfl,Nat.zero_le _,HB0,fun i _ h=>absurd h (by omega)⟩
 case round=>
  obtain⟨j,rfl,hj,HB,HO⟩:=hrel;clear HB0;by_cases hjn:j<n
  ·have hjI:(j:Int)<(n:Int):=by omega
   have a0:decide ((j:Int)<(n:Int))=true:=by simp;omega
   have hjs:j<rs.length:=by rw[<-HN.out];exact hjn
   have HGr:=hid (HG.out.below (HB.out.mono hB));obtain⟨g,o,rfl,hg,k1,T1,a1,b1,c1,d1,so1,n1,cap1,p1,rt,z0,z1,z2,z3,z4,z5,z6,z7,z8,z9⟩:=HGr.out.2.2 j hjs;obtain⟨zn,zt⟩:=HZ.out rs[j] (List.getElem_mem hjs);have HE:=hid (fun W (hb:Below wr.heap.size wr W)=>z9i rs[j].2.1 _ B W zt (rt.below (hb.mono (Nat.le_trans hB HB.out.size))) (Nat.le_trans (Nat.le_trans hB HB.out.size) hb.size));have HM:=hid (fun W=>z3w rs[j].1 W zn);obtain⟨Q,hQ⟩:∃Q,Q=okT rs[j].2.1:=⟨_,rfl⟩;obtain⟨M,hM⟩:∃M,M=nmS rs[j].1:=⟨_,rfl⟩;have HQ:Hid (okR rs[j]=(M&&Q)):=by show(nmS rs[j].1&&okT rs[j].2.1)=_;rw[hQ,hM]
   obtain⟨N0,hN0⟩:∃N0,N0=rs[j].1:=⟨_,rfl⟩;obtain⟨p0,hp0⟩:∃p0,p0=rs[j].2.2:=⟨_,rfl⟩;rw[<-hQ]at HE;rw[<-hM,<-hN0]at HM;rw[<-hN0]at z0;rw[<-hp0]at z9;have hgl:g<wr.heap.size:=Nat.lt_of_lt_of_le hg (Nat.le_trans hB HB.out.size);clear rt hQ hM hN0 hp0 HG HGr HZ zn zt;dsimp only[r8]at HE
   go_wp2_with(first|(go_at_call 31;refine(HM.out _).mono ?_;rintro e wz ⟨rfl,rfl⟩)|(go_at_call 32;refine(HE.out _ ?hh).mono ?_;(case hh=>exact B0q.alloc L0q _);rintro e wy ⟨rfl,hby⟩))
   ·rename_i hq
    have hb2:=HB.out.trans ((((Below.refl _ wr).alloc L0q _).trans (hby.mono (by simp))).mono HB.out.size);have hQ0:Q=false:=by simpa using hq
    go_ret;refine⟨?_,hb2⟩;rw[HR2.out,Oy j hjs (by rw[HQ.out,hQ0,Bool.and_false])];rfl
   ·rename_i hM1 hby2 hq
    have hb2:=HB.out.trans ((((Below.refl _ wr).alloc L0q _).trans (hby.mono (by simp))).mono HB.out.size);have hQ1:Q=true:=by simpa using hq
    refine⟨⟨j+1,by go_num,by omega,hb2,fun i hi hij=> ?_⟩,?_⟩
    ·rcases Nat.lt_or_ge i j with h1|h1
     ·exact HO.out i hi h1
     ·obtain rfl:i=j:=by omega
      rw[HQ.out,hQ1]
      first|rfl|(simp_all)
    ·simp[intOf];omega
   ·rename_i hq
    have hM0:M=false:=by simpa using hq
    go_ret;refine⟨?_,HB.out.trans (((Below.refl _ wr).alloc L0q _).mono HB.out.size)⟩;rw[HR2.out,Oy j hjs (by rw[HQ.out,hM0,Bool.false_and])];rfl
  ·have a0:decide ((j:Int)<(n:Int))=false:=by simp;omega
   clear HG HZ
   go_wp2_with fail
   go_ret;refine⟨?_,HB.out⟩;rw[HR2.out,z3A fun i hi=>HO.out i hi (by have:=HN.out;omega)];rfl
mutual
def Tq:RT->Nd->Prop
 | .mk k T a b c d s _,.mk kd T' C s' _=>k=(kd:Int)/\T'=T/\a=(wd C 0:Nat)/\b=(wd C 1:Nat)/\c=(wd C 2:Nat)/\d=(wd C 3:Nat)/\TqL s s'
def TqL:List RT->List Nd->Prop
 |[],[]=>True
 |t::r,n::q=>Tq t n/\TqL r q
 |_,_=>False
end
theorem TqL.len:∀{s:List RT} {q:List Nd},TqL s q->Fh q=Qg s/\q.isEmpty=s.isEmpty
 |[],[],_=>⟨rfl,rfl⟩
 |[],_::_,h=>by simp[TqL]at h
 |_::_,[],h=>by simp[TqL]at h
 |t::r,n::q,h=>by
  rw[TqL]at h;exact⟨by rw[Fh,Qg,h.2.len.1],rfl⟩
mutual
theorem z3C{w:World}{B s0:Nat}(hB:B<=s0):∀(t:RT) (n:Nd) (cs:List Value),Tq t n->Qh w B t cs->NdV s0 w n cs
 | .mk k T a b c d s p,.mk kd T' C s' pn,cs,h,ht=>by
   rw[Tq]at h;obtain⟨rfl,rfl,rfl,rfl,rfl,rfl,hs⟩:=h;rw[Qh]at ht;obtain⟨so,cap,rfl,ht⟩:=ht;rw[NdV];refine⟨so,cap,p,by rw[hs.len.1],?_⟩;rcases ht with h1|⟨h1,g,o,rfl,h3,h4,h5⟩
   ·exact .inl (by rw[hs.len.2];exact h1)
   ·exact .inr ⟨by rw[hs.len.2];exact h1,g,o,rfl,by omega,by rw[hs.len.1];exact h4,z3D hB s s' g o hs h5⟩
theorem z3D{w:World}{B s0:Nat}(hB:B<=s0):∀(s:List RT) (q:List Nd) (g o:Nat),TqL s q->Zb w B g o s->Yh s0 w g o q
 |[],[],g,o,_,_=>by rw[Yh];trivial
 |[],_::_,_,_,h,_=>by simp[TqL]at h
 |_::_,[],_,_,h,_=>by simp[TqL]at h
 |t::r,n::q,g,o,h,ht=>by
  rw[TqL]at h;rw[Zb]at ht;obtain⟨⟨cs,h1,h2⟩,h3⟩:=ht;rw[Yh];exact⟨⟨cs,z3C hB t n cs h.1 h1,h2⟩,z3D hB r q g _ h.2 h3⟩
end
def TqR:List Rr->List Rl->Prop
 |[],[]=>True
 |x::r,y::q=>y.1=x.1/\Tq x.2.1 y.2.1/\TqR r q
 |_,_=>False
theorem TqR.len:∀{rs:List Rr} {ns:List Rl},TqR rs ns->ns.length=rs.length
 |[],[],_=>rfl
 |[],_::_,h=>by simp[TqR]at h
 |_::_,[],h=>by simp[TqR]at h
 |x::r,y::q,h=>by
  rw[TqR]at h;simp[h.2.2.len]
theorem TqR.get:∀{rs:List Rr} {ns:List Rl},TqR rs ns->∀(j:Nat) (h1:j<rs.length) (h2:j<ns.length),ns[j].1=rs[j].1/\Tq rs[j].2.1 ns[j].2.1
 |[],[],_,j,h1,_=>by simp at h1
 |[],_::_,h,_,_,_=>by simp[TqR]at h
 |_::_,[],h,_,_,_=>by simp[TqR]at h
 |x::r,y::q,h,0,_,_=>by
  rw[TqR]at h;exact⟨h.1,h.2.1⟩
 |x::r,y::q,h,j+1,h1,h2=>by
  rw[TqR]at h;exact h.2.2.get j (by simpa using h1) (by simpa using h2)
theorem z9j{s0 n:Nat}{so:Option Addr}{rs:List Rr}{ns:List Rl}(hB:B<=s0)(hq:TqR rs ns)(h:Xh w B so n rs):RgV s0 w so n ns:=by
 refine⟨by rw[hq.len];exact h.1,h.2.1,fun j hj=> ?_⟩;have hj':j<rs.length:=by rw[<-hq.len];exact hj
 obtain⟨g,o,h1,hg,k,T,a,b,c,d,so1,n1,cap,p,rt,z0,z1,z2,z3,z4,z5,z6,z7,z8,z9⟩:=h.2.2 j hj';obtain⟨e1,e2⟩:=hq.get j hj' hj;have hv:=z3C hB _ _ _ e2 rt;obtain⟨kd,T1,C,so2,sl,sc,p1,e3⟩:=hv.shape;dsimp only[r8,v8]at e3;cases e3;exact⟨g,o,h1,by omega,kd,T,C,so1,n1,cap,p,_,hv,by rw[e1];exact z0,z1,z2,z3,z4,z5,z6,z7,z8,z9⟩
theorem z3E(so:Option Addr)(n cap:Nat)(rs:List Rr)(B:Nat)(w:World)(hz:RgZ rs)(h:Xh w B so n rs)(hB:B<=w.heap.size)(hk:okG rs=false):
  Calls prog 11 #[.agg #[.slice so n cap]] w fun e w'=>e=.returned (.tuple #[.string ⟨#[]⟩,.iface 39 (.int .i64 20)])/\Below w.heap.size w w':=by
 have HI:=hid (fun(W:World) (hb:Below w.heap.size w W)=>z3B so n cap rs B W hz (h.below (hb.mono hB)) (Nat.le_trans hB hb.size));rw[hk]at HI;clear h hz;go_enter func11,ntmps11
 go_wp2_with(first|(go_at_call 21;refine(HI.out _ ?hh).mono ?_;(case hh=>exact B0q.alloc L0q _);rintro e wq ⟨rfl,hbq⟩))
 go_ret2
 exact⟨rfl,((Below.refl _ w).alloc L0q _).trans (hbq.mono (by simp))⟩
theorem Wl(so:Option Addr)(n cap:Nat)(rs:List Rr)(ns:List Rl)(B:Nat)(w:World)(hz:RgZ rs)(h:Xh w B so n rs)(hB:B<=w.heap.size)(hk:okG rs=true)(hq:TqR rs ns)(hx:∀x∈ns,Ruk Nmq x)(hT:TabIs w):
  Calls prog 11 #[.agg #[.slice so n cap]] w fun e w'=>e=.returned (Dp ns)/\Below w.heap.size w w':=by
 have HI:=hid (fun(W:World) (hb:Below w.heap.size w W)=>z3B so n cap rs B W hz (h.below (hb.mono hB)) (Nat.le_trans hB hb.size));have HT:=hid (fun(W:World) (hb:Below w.heap.size w W)=>z8Q hx n cap so W (z9j (Nat.le_trans hB hb.size) hq (h.below (hb.mono hB))) (hT.below hb hT.lt));rw[hk]at HI;obtain⟨A,E,hA⟩:∃A E,Dp ns=.tuple #[A,E]:=by
  unfold Dp;split
  ·exact⟨_,_,rfl⟩
  ·split
   ·exact⟨_,_,rfl⟩
   ·exact⟨_,_,rfl⟩
 rw[hA]at HT ⊢;obtain⟨W1,hW1⟩:∃W1,W1=w.alloc (.cells #[.slice so n cap] 24):=⟨_,rfl⟩;have HB1:Hid (Below w.heap.size w W1):=by rw[hW1];exact(Below.refl _ w).alloc L0q _
 have HC1:Hid (W1.heap[w.heap.size]? =some (.cells #[.slice so n cap] 24)):=by rw[hW1];exact Qq w _ rfl
 have HZ1:Hid (W1.heap.size=w.heap.size+1):=by rw[hW1];exact World.size_alloc _ _
 have HW1:=hid hW1;clear hW1 h hz hT hx hq hA;go_enter func11,ntmps11
 go_wp2_with(first|(go_at_call 21;rw[<-HW1.out];refine(HI.out _ HB1.out).mono ?_;rintro e wq ⟨rfl,hbq⟩;have c0:=(Zl ((hbq.block _ (by rw[HZ1.out];exact Nat.lt_succ_self _)).trans HC1.out)).1;have HBq:Hid (Below w.heap.size w wq):=HB1.out.trans (hbq.mono HB1.out.size))|(go_at_call 22;refine(HT.out _ HBq.out).mono ?_;rintro e wz ⟨rfl,hbz⟩))
 go_ret2
 exact⟨rfl,HBq.out.trans (hbz.mono HBq.out.size)⟩
end Go.Proofs.YtikfnaffiehpaaaGreatDoor
