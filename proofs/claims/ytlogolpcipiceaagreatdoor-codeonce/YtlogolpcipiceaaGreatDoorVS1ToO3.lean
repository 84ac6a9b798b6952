/- Lemmas for the last text. Conditions: those that each names. -/
import Derived.Test.YtlogolpcipiceaaGreatDoorVR8ToR9
import Derived.Maps.OwnIn
import Derived.Maps.Own
import Derived.Maps.OwnOps
import Derived.Maps.OwnSet
set_option linter.unusedVariables false
set_option maxRecDepth 100000
set_option maxHeartbeats 8000000
namespace Go.Proofs.YtlogolpcipiceaaGreatDoor
open Go.Proofs.Tryz
open Go.RowKit Go.Shelf
abbrev Rr:=ByteArray×RT×Int
def Rk(w:World)(B g o:Nat)(x:Rr):Prop:=∃k T a b c d so n cap p,Qj w B x.2.1 (r8 k T a b c d so n cap p)/\w.cell? ⟨g,o,none⟩=some (.string x.1)/\w.cell? ⟨g,o+1,none⟩=some (.int .i64 k)/\w.cell? ⟨g,o+2,none⟩=some (.string T)/\w.cell? ⟨g,o+3,none⟩=some (.int .u64 a)/\w.cell? ⟨g,o+4,none⟩=some (.int .u64 b)/\w.cell? ⟨g,o+5,none⟩=some (.int .u64 c)/\w.cell? ⟨g,o+6,none⟩=some (.int .u64 d)/\w.cell? ⟨g,o+7,none⟩=some (.slice so n cap)/\w.cell? ⟨g,o+8,none⟩=some (.int .i64 p)/\w.cell? ⟨g,o+9,none⟩=some (.int .i64 x.2.2)
def Qv(w:World)(B:Nat)(so:Option Addr)(n:Nat)(rs:List Rr):Prop:=n=rs.length/\n<=maxLen/\∀j (hj:j<rs.length),∃g o,so=some ⟨g,o,none⟩/\g<B/\Rk w B g (o+j*10) rs[j]
theorem Rk.below{w w':World}{B g o:Nat}{x:Rr}(h:Rk w B g o x)(hb:Below B w w')(hg:g<B):Rk w' B g o x:=by
 obtain⟨k,T,a,b,c,d,so,n,cap,p,h1,z0,z1,z2,z3,z4,z5,z6,z7,z8,z9⟩:=h;have e:∀j,w'.cell? ⟨g,j,none⟩=w.cell? ⟨g,j,none⟩:=fun j=>hb.cell (p:=⟨g,j,none⟩) hg
 exact⟨k,T,a,b,c,d,so,n,cap,p,h1.below hb,(e _).trans z0,(e _).trans z1,(e _).trans z2,(e _).trans z3,(e _).trans z4,(e _).trans z5,(e _).trans z6,(e _).trans z7,(e _).trans z8,(e _).trans z9⟩
theorem Qv.below{w w':World}{B n:Nat}{so:Option Addr}{rs:List Rr}(h:Qv w B so n rs)(hb:Below B w w'):Qv w' B so n rs:=
 ⟨h.1,h.2.1,fun j hj=>by
   obtain⟨g,o,h1,h2,h3⟩:=h.2.2 j hj;exact⟨g,o,h1,h2,h3.below hb h2⟩⟩
def RgZ(rs:List Rr):Prop:=∀x∈rs,x.1.size<=9223372036854775807/\RtZ x.2.1
def okR(x:Rr):Bool:=nmS x.1&&okT x.2.1
def okG(rs:List Rr):Bool:=decide (1<=rs.length)&&(decide (rs.length<=64)&&rs.all okR)
theorem z2d{rs:List Rr}(j:Nat)(hj:j<rs.length)(h:okR rs[j]=false):rs.all okR=false:=by
 rw[List.all_eq_false];exact⟨_,List.getElem_mem hj,by rw[h];simp⟩
theorem z9b{rs:List Rr}(h:∀j (hj:j<rs.length),okR rs[j]=true):rs.all okR=true:=by
 rw[List.all_eq_true];intro x hx;obtain⟨j,hj,rfl⟩:=List.mem_iff_getElem.1 hx;exact h j hj
theorem z2e(so:Option Addr)(n cap:Nat)(rs:List Rr)(B:Nat)(w:World)(hz:RgZ rs)(h:Qv w B so n rs)(hB:B<=w.heap.size):
  Calls prog 270 #[.agg #[.slice so n cap]] w fun e w'=>e=.returned (.bool (okG rs))/\Below w.heap.size w w':=by
 obtain⟨R,hR⟩:∃R,R=okG rs:=⟨_,rfl⟩;have HR:=hid hR;rw[<-hR];clear hR;have HN:Hid (n=rs.length):=h.1;have hm:n<=9223372036854775807:=by have:=h.2.1;unfold maxLen at this;omega
 have HG:=hid h;have HZ:=hid hz;clear h hz;by_cases h0:n=0
 ·have q0:((n:Int) == 0)=true:=by simp;omega
  clear HG;go_enter func270,ntmps270
  go_wp2_with fail
  go_ret;refine⟨?_,B0q.alloc L0q _⟩;rw[HR.out];unfold okG;rw[decide_eq_false (by have:=HN.out;omega)];rfl
 have q0:((n:Int) == 0)=false:=by simp;omega
 by_cases h1:64<n
 ·have q1:(64:Int)<(n:Int):=by omega
  have q2:decide ((64:Int)<(n:Int))=true:=by simp;omega
  clear HG;go_enter func270,ntmps270
  go_wp2_with fail
  go_ret;refine⟨?_,B0q.alloc L0q _⟩;rw[HR.out];unfold okG;rw[decide_eq_false (p:=rs.length<=64) (by have:=HN.out;omega),Bool.false_and,Bool.and_false];rfl
 have q1:¬(64:Int)<(n:Int):=by omega
 have q2:decide ((64:Int)<(n:Int))=false:=by simp;omega
 have HR2:Hid (R=rs.all okR):=by
  refine HR.out.trans ?_;unfold okG;rw[decide_eq_true (by have:=HN.out;omega),decide_eq_true (p:=rs.length<=64) (by have:=HN.out;omega)];rfl
 clear HR;have HB0:Hid (Below w.heap.size w (w.alloc (.cells #[.slice so n cap] 24))):=(Below.refl _ w).alloc L0q _;go_enter func270,ntmps270
 go_wp2_with fail
 go_loopw [18] (fun i wr=>∃j:Nat,i=.int .i64 j/\j<=n/\Hid (Below w.heap.size w wr)/\Hid (∀i (hi:i<rs.length),i<j->okR rs[i]=true)) (fun i _=>n-(intOf i).toNat)
 case atStart=>exact⟨0,rfl,Nat.zero_le _,HB0,fun i _ h=>absurd h (by omega)⟩
 case round=>
  obtain⟨j,rfl,hj,HB,HO⟩:=hrel;clear HB0;by_cases hjn:j<n
  ·have hjI:(j:Int)<(n:Int):=by omega
   have a0:decide ((j:Int)<(n:Int))=true:=by simp;omega
   have hjs:j<rs.length:=by rw[<-HN.out];exact hjn
   have HGr:=hid (HG.out.below (HB.out.mono hB));obtain⟨g,o,rfl,hg,k1,T1,a1,b1,c1,d1,so1,n1,cap1,p1,rt,z0,z1,z2,z3,z4,z5,z6,z7,z8,z9⟩:=HGr.out.2.2 j hjs;obtain⟨zn,zt⟩:=HZ.out rs[j] (List.getElem_mem hjs);have HE:=hid (fun W (hb:Below wr.heap.size wr W)=>z9a rs[j].2.1 _ B W zt (rt.below (hb.mono (Nat.le_trans hB HB.out.size))) (Nat.le_trans (Nat.le_trans hB HB.out.size) hb.size));have HM:=hid (fun W=>z1X rs[j].1 W zn);obtain⟨Q,hQ⟩:∃Q,Q=okT rs[j].2.1:=⟨_,rfl⟩;obtain⟨M,hM⟩:∃M,M=nmS rs[j].1:=⟨_,rfl⟩;have HQ:Hid (okR rs[j]=(M&&Q)):=by show(nmS rs[j].1&&okT rs[j].2.1)=_;rw[hQ,hM]
   obtain⟨N0,hN0⟩:∃N0,N0=rs[j].1:=⟨_,rfl⟩;obtain⟨p0,hp0⟩:∃p0,p0=rs[j].2.2:=⟨_,rfl⟩;rw[<-hQ]at HE;rw[<-hM,<-hN0]at HM;rw[<-hN0]at z0;rw[<-hp0]at z9;have hgl:g<wr.heap.size:=Nat.lt_of_lt_of_le hg (Nat.le_trans hB HB.out.size);clear rt hQ hM hN0 hp0 HG HGr HZ zn zt;dsimp only[r8]at HE
   go_wp2_with(first|(go_at_call 284;refine(HM.out _).mono ?_;rintro e wz ⟨rfl,rfl⟩)|(go_at_call 285;refine(HE.out _ ?hh).mono ?_;(case hh=>exact B0q.alloc L0q _);rintro e wy ⟨rfl,hby⟩))
   ·rename_i hq
    have hb2:=HB.out.trans ((((Below.refl _ wr).alloc L0q _).trans (hby.mono (by simp))).mono HB.out.size);have hQ0:Q=false:=by simpa using hq
    go_ret;refine⟨?_,hb2⟩;rw[HR2.out,z2d j hjs (by rw[HQ.out,hQ0,Bool.and_false])];rfl
   ·rename_i hM1 hby2 hq
    have hb2:=HB.out.trans ((((Below.refl _ wr).alloc L0q _).trans (hby.mono (by simp))).mono HB.out.size);have hQ1:Q=true:=by simpa using hq
    refine⟨⟨j+1,by go_num,by omega,hb2,fun i hi hij=> ?_⟩,?_⟩
    ·rcases Nat.lt_or_ge i j with h1|h1
     ·exact HO.out i hi h1
     ·obtain rfl:i=j:=by omega
      rw[HQ.out,hQ1]
      first|rfl|(simp_all)
    ·simp[intOf];omega
   ·rename_i hq
    have hM0:M=false:=by simpa using hq
    go_ret;refine⟨?_,HB.out.trans (((Below.refl _ wr).alloc L0q _).mono HB.out.size)⟩;rw[HR2.out,z2d j hjs (by rw[HQ.out,hM0,Bool.false_and])];rfl
  ·have a0:decide ((j:Int)<(n:Int))=false:=by simp;omega
   clear HG HZ
   go_wp2_with fail
   go_ret;refine⟨?_,HB.out⟩;rw[HR2.out,z9b fun i hi=>HO.out i hi (by have:=HN.out;omega)];rfl
section
attribute [local go_sem] Oper.semAt_some
structure Nq where
 k:Int
 T:ByteArray
 a:Int
 b:Int
 c:Int
 d:Int
 so:Option Addr
 n:Nat
 cap:Nat
 p:Int
 z:T.size<=9223372036854775807
@[reducible] def Nq.v (x:Nq):Value:=.agg #[.int .i64 x.k,.string x.T,.int .u64 x.a,.int .u64 x.b,.int .u64 x.c,.int .u64 x.d,.slice x.so x.n x.cap,.int .i64 x.p]
def Nq.tp(x:Nq):ByteArray×Int:=(x.T,x.p)
def tps(q:List Nq):List (ByteArray×Int):=q.map Nq.tp
theorem Ph(a b:List Nq):tps (a++b)=tps a++tps b:=List.map_append
theorem z9c(a:List Nq):(tps a).length=a.length:=List.length_map _
mutual
def rfT:RT->List (ByteArray×Int)
 | .mk k T _ _ _ _ s p=>if k=5 then [(T,p)]else rfL s
def rfL:List RT->List (ByteArray×Int)
 |[]=>[]
 |t::r=>rfT t++rfL r
end
theorem Pd:∀(a b:List RT),rfL (a++b)=rfL a++rfL b
 |[],b=>by rw[List.nil_append,rfL,List.nil_append]
 |x::r,b=>by rw[List.cons_append,rfL,rfL,Pd r b,List.append_assoc]
theorem z9d(s:List RT)(j:Nat)(hj:j<s.length):rfL (s.take (j+1))=rfL (s.take j)++rfT s[j]:=by
 rw[show s.take (j+1)=s.take j++[s[j]] by simp,Pd,rfL,rfL,List.append_nil]
theorem z9e(s:List RT)(j:Nat):∃r,rfL s=rfL (s.take j)++r:=by
 refine⟨rfL (s.drop j),?_⟩;rw[<-Pd,List.take_append_drop]
structure Yr (s0 l N:Nat) (J Jx:List Nq->World->Prop):Prop where
 grow:∀s A B,J s A->A.grownBy B none->J s B
 call:∀m pre (x:Nq) W,J pre W->pre.length<N->YieldAt Fence.wide m prog l #[x.v] W fun e W'=>
  (e=.returned (.bool true)/\J (pre++[x]) W'/\Kt s0 W W')∨(e=.returned (.bool false)/\Jx (pre++[x]) W')
def Yq(s0:Nat)(J Jx:List Nq->World->Prop)(pre:List Nq)(ps:List (ByteArray×Int))(W:World)(e:Ending)(W':World):Prop:=
 (e=.returned (.bool true)/\(∃q,tps q=ps/\J (pre++q) W')/\Kt s0 W W')∨(e=.returned (.bool false)/\∃q,tps q<+:ps/\Jx (pre++q) W')
def YR(s0 l N:Nat)(J Jx:List Nq->World->Prop)(t:RT):Prop:=
 ∀(m:Nat) (cs:List Value) (pre:List Nq) (W:World),Qj W s0 t cs->RtZ t->J pre W->pre.length+(rfT t).length<=N->
  CallsIn Fence.wide m prog 268 #[.agg cs.toArray,.func (.yield l) #[] #[]] W (Yq s0 J Jx pre (rfT t) W)
section
variable {s0 l N:Nat} {J Jx:List Nq->World->Prop}
theorem Yr.alloc(h:Yr s0 l N J Jx){s:List Nq}{A:World}(hs:J s A)(o:Obj):J s (A.alloc o):=h.grow s A _ hs (World.grownBy_alloc A o none)
theorem z9f(hY:Yr s0 l N J Jx)(T:ByteArray)(a b c d p:Int)(s:List RT):YR s0 l N J Jx (.mk 5 T a b c d s p):=by
 intro m cs pre W ht hz hJ hl;rw[Qj]at ht;obtain⟨so,cap,rfl,-⟩:=ht;rw[RtZ]at hz;have hTz:=hz.1;rw[rfT,if_pos rfl]at hl ⊢;have hdd:=Xy;have HK1:=hid (fun o:Obj=>Kt.alloc (s0:=s0) W o);obtain⟨n,hn⟩:∃n,n=Qp s:=⟨_,rfl⟩;obtain⟨fn,tmps,assign,Qg,hy,hR⟩:=hY.call (m-1) pre ⟨5,T,a,b,c,d,so,n,cap,p,hTz⟩ (W.alloc (.cells #[.int .i64 5,.string T,.int .u64 a,.int .u64 b,.int .u64 c,.int .u64 d,.slice so n cap,.int .i64 p] 71)) (hY.alloc hJ _) (by simp at hl;omega);have HR:=hid hR;rw[<-hn];clear hR hY hJ hl hn;dsimp only[Nq.v]at hy;refine callsIn_of_wp func268 rfl trivial ?_ rfl;simp only[ntmps268,List.size_toArray,List.length_cons,List.length_nil,Nat.reduceAdd,Nat.reduceSub,Array.replicate_succ,Array.replicate_zero,List.push_toArray,List.append_toArray,List.nil_append,List.cons_append]
 gi_wp2
 refine⟨hdd _,HR.out.mono ?_⟩;clear HR hy;rintro e W2 (⟨rfl,hJ2,hk2⟩|⟨rfl,hx2⟩)
 ·gi_wp2
  go_ret;exact .inl ⟨rfl,⟨[⟨5,T,a,b,c,d,so,n,cap,p,hTz⟩],rfl,hJ2⟩,(HK1.out _).trans hk2⟩
 ·gi_wp2
  go_ret;exact .inr ⟨rfl,[⟨5,T,a,b,c,d,so,n,cap,p,hTz⟩],List.prefix_refl _,hx2⟩
theorem z9g(hY:Yr s0 l N J Jx)(k:Int)(hk:k≠5)(T:ByteArray)(a b c d p:Int)(s:List RT)(hN:∀t∈s,YR s0 l N J Jx t):YR s0 l N J Jx (.mk k T a b c d s p):=by
 intro m cs pre W ht hz hJ hl;rw[Qj]at ht;obtain⟨so,cap,rfl,hso⟩:=ht;rw[RtZ]at hz;have HZs:=hid hz.2;clear hz;rw[rfT,if_neg hk]at hl ⊢;have hdd:=Xy;have hk2:(k == 5)=false:=by simp[hk]
 have hk3:decide (k=5)=false:=by simp[hk]
 obtain⟨n,hn⟩:∃n,n=s.length:=⟨_,rfl⟩;have HC:Hid (∀j (hj:j<s.length),∃g o,so=some ⟨g,o,none⟩/\g<s0/\Ql W s0 g o s):=fun j hj=>by
  rcases hso with h1|⟨_,g,o,h2,h3,_,h5⟩
  ·cases s
   ·simp at hj
   ·simp at h1
  ·exact⟨g,o,h2,h3,h5⟩
 have hn6:n<=9223372036854775807:=by
  rcases hso with h1|⟨_,g,o,_,_,h4,_⟩
  ·cases s
   ·simp at hn;omega
   ·simp at h1
  ·rw[Xd]at h4
   unfold maxLen at h4;omega
 rw[Xd,<-hn];obtain⟨W1,hW1⟩:∃W1,W1=W.alloc (.cells #[.int .i64 k,.string T,.int .u64 a,.int .u64 b,.int .u64 c,.int .u64 d,.slice so n cap,.int .i64 p] 71):=⟨_,rfl⟩;have HK1:Hid (Kt s0 W W1):=by rw[hW1];exact Kt.alloc W _
 have HB1:Hid (W1.heap[W.heap.size]? =some (.cells #[.int .i64 k,.string T,.int .u64 a,.int .u64 b,.int .u64 c,.int .u64 d,.slice so n cap,.int .i64 p] 71)):=by rw[hW1];exact Qx W _ rfl
 have HJ1:Hid (J pre W1):=by rw[hW1];exact hY.alloc hJ _
 have HY:Hid (Yr s0 l N J Jx):=hY;have HN:=hid hN;have HNl:Hid (n=s.length):=hn;have HL:=hid hl;have HW1:=hid hW1;clear hJ hY hN hl hn hW1 hso;refine callsIn_of_wp func268 rfl trivial ?_ rfl;simp only[ntmps268,List.size_toArray,List.length_cons,List.length_nil,Nat.reduceAdd,Nat.reduceSub,Array.replicate_succ,Array.replicate_zero,List.push_toArray,List.append_toArray,List.nil_append,List.cons_append]
 gi_wp2
 rw[<-HW1.out];clear HW1
 gi_loopw [16] (fun i wr=>∃j:Nat,i=.int .i64 j/\j<=n/\Hid (∃q,tps q=rfL (s.take j)/\J (pre++q) wr)/\Hid (Kt s0 W1 wr)) (fun i _=>n-(intOf i).toNat)
 case atStart=>exact⟨0,rfl,Nat.zero_le _,⟨[],by rw[List.take_zero,rfL];rfl,by rw[List.append_nil];exact HJ1.out⟩,hid (Kt.refl _)⟩
 case round=>
  obtain⟨j,rfl,hj,HJr,HKr⟩:=hrel;by_cases hjn:j<n
  ·have hjI:(j:Int)<(n:Int):=by omega
   have a0:decide ((j:Int)<(n:Int))=true:=by simp;omega
   have hjs:j<s.length:=by rw[<-HNl.out];exact hjn
   obtain⟨⟨c0,c1,c2,c3,c4,c5,c6,c7⟩,_⟩:=Qw (HKr.out.eight HB1.out);have hKw:Kt s0 W wr:=HK1.out.trans HKr.out;obtain⟨g,o,rfl,hg,hrt⟩:=HC.out j hjs;obtain⟨k1,T1,a1,b1,c1',d1,so1,n1,cap1,p1,rt1,z0,z1,z2,z3,z4,z5,z6,z7⟩:=Dl (Ql.kept (fun q c u hq hu=>hKw.cell hq hu) hg s o hrt) j hjs;have hgl:g<wr.heap.size:=World.block_lt_of_cell? wr _ z0;obtain⟨q,hq,hJq⟩:=HJr.out;obtain⟨rr,hrr⟩:=z9e s (j+1);have hnx:=z9d s j hjs;have hlj:(pre++q).length+(rfT s[j]).length<=N:=by
    have h1:=HL.out;rw[hrr,hnx]at h1;have h2:=congrArg List.length hq;rw[z9c]at h2;simp only[List.length_append]at h1 ⊢;omega
   have K2:=hid (Kt.alloc (s0:=s0) wr (.cells #[.int .i64 k1,.string T1,.int .u64 a1,.int .u64 b1,.int .u64 c1',.int .u64 d1,.slice so1 n1 cap1,.int .i64 p1] 71));have HS:=hid (HN.out s[j] (List.getElem_mem hjs) (m-1) _ (pre++q) (wr.alloc (.cells #[.int .i64 k1,.string T1,.int .u64 a1,.int .u64 b1,.int .u64 c1',.int .u64 d1,.slice so1 n1 cap1,.int .i64 p1] 71)) (Qj.kept (fun g o u hg hu=>K2.out.cell hg hu) _ _ rt1) (HZs.out.get j hjs) (HY.out.alloc hJq _) hlj);have HQ:Hid (tps q=rfL (s.take j)):=hq;have HNX:=hid hnx;have HRR:=hid hrr;clear hJq hq hlj rt1 hrt hrr hnx HJr;dsimp only[r8]at HS
   gi_wp2
   refine⟨trivial,hdd _,HS.out.mono ?_⟩;clear HS z0 z1 z2 z3 z4 z5 z6 z7;rintro e W4 (⟨rfl,⟨q2,hq2,hJ2⟩,hk4⟩|⟨rfl,q2,hq2,hx4⟩)
   ·gi_wp2
    go_roundw
    case rel=>exact⟨j+1,by go_num,by omega,hid ⟨q++q2,by rw[Ph,HQ.out,hq2,HNX.out],by rw[<-List.append_assoc];exact hJ2⟩,hid ((HKr.out.trans K2.out).trans hk4)⟩
    case measure=>simp[intOf];omega
   ·gi_wp2
    go_ret;refine .inr ⟨rfl,q++q2,?_,by rw[<-List.append_assoc];exact hx4⟩;obtain⟨r,hr⟩:=hq2;refine⟨r++rr,?_⟩;rw[HRR.out,HNX.out,<-hr,Ph,HQ.out];simp
  ·have a0:decide ((j:Int)<(n:Int))=false:=by simp;omega
   have hjn':s.take j=s:=List.take_of_length_le (by rw[<-HNl.out];omega);rw[hjn']at HJr;clear hjn'
   gi_wp2
   go_ret;obtain⟨q,hq,hJq⟩:=HJr.out;exact .inl ⟨rfl,⟨q,hq,hJq⟩,HK1.out.trans HKr.out⟩
theorem z2f(hY:Yr s0 l N J Jx):∀(Q:Nat) (t:RT),SizeOf.sizeOf t<Q->YR s0 l N J Jx t
 |0,t,h=>by omega
 |Q+1,.mk k T a b c d s p,h=>by
  by_cases hk:k=5
  ·subst hk
   exact z9f hY T a b c d p s
  ·refine z9g hY k hk T a b c d p s fun t ht=>z2f hY Q t ?_
   have h1:=List.sizeOf_lt_of_mem ht;simp only[RT.mk.sizeOf_spec]at h;omega
end
end
section
attribute [local go_sem] Oper.semAt_some
section
variable {s0 l N:Nat} {J Jx:List Nq->World->Prop}
theorem z9h(hY:Yr s0 l N J Jx)(t:RT)(k:Int)(T:ByteArray)(a b c d:Int)(so:Option Addr)(n cap:Nat)(p:Int)(m Bt:Nat)(W:World)(hb:W.heap[Bt]? =some (.cells #[.int .i64 k,.string T,.int .u64 a,.int .u64 b,.int .u64 c,.int .u64 d,.slice so n cap,.int .i64 p] 71))(ht:Qj W s0 t (r8 k T a b c d so n cap p))(hz:RtZ t)(hJ:J [] W)(hl:(rfT t).length<=N):
  CallsIn Fence.wide m prog 267 #[.func (.yield l) #[] #[],.pointer (some ⟨Bt,0,none⟩)] W fun e W'=>(∃v,e=.returned v)/\((∃q,tps q=rfT t/\J q W')∨∃q,tps q<+:rfT t/\Jx q W'):=by
 have hdd:=Xy;have HS:=hid (z2f hY _ t (Nat.lt_succ_self _) (m-1) _ [] W ht hz hJ (by simpa using hl));obtain⟨⟨c0,c1,c2,c3,c4,c5,c6,c7⟩,_⟩:=Qw hb;clear hY ht hz hJ hl;dsimp only[r8]at HS;refine callsIn_of_wp func267 rfl trivial ?_ rfl;simp only[ntmps267,List.size_toArray,List.length_cons,List.length_nil,Nat.reduceAdd,Nat.reduceSub,Array.replicate_succ,Array.replicate_zero,List.push_toArray,List.append_toArray,List.nil_append,List.cons_append]
 gi_wp2
 refine⟨trivial,hdd _,HS.out.mono ?_⟩;clear HS;rintro e W4 (⟨rfl,⟨q2,hq2,hJ2⟩,hk4⟩|⟨rfl,q2,hq2,hx4⟩)
 ·gi_wp2
  go_end0
  exact⟨⟨_,rfl⟩,.inl ⟨q2,hq2,hJ2⟩⟩
 ·gi_wp2
  go_end0
  exact⟨⟨_,rfl⟩,.inr ⟨q2,hq2,hx4⟩⟩
end
theorem z9i{s0:Nat}(t:RT)(k:Int)(T:ByteArray)(a b c d:Int)(so:Option Addr)(n cap:Nat)(p:Int)(m Bt:Nat)(w:World)(hb:w.heap[Bt]? =some (.cells #[.int .i64 k,.string T,.int .u64 a,.int .u64 b,.int .u64 c,.int .u64 d,.slice so n cap,.int .i64 p] 71))(ht:Qj w s0 t (r8 k T a b c d so n cap p))(hz:RtZ t):
  SeqStopsK Fence.wide m prog 267 #[.pointer (some ⟨Bt,0,none⟩)] (fun x:Nq=>#[x.v]) (Kt s0) (fun ys=>tps ys=rfT t) (fun pre=>tps pre<+:rfT t) (rfT t).length w:=by
 intro l J Jx W hW hJ hJx hY h0;have hk:=Kt.below (s0:=s0) hW;have yl:Yr s0 l (rfT t).length J Jx:=by
  refine⟨fun s A B h hg=>hJ s A B none h hg (fun r e=>by cases e),fun m' pre x W1 h hl=> ?_⟩;refine YieldAt.mono (Py rfl m' (hY pre x W1 h hl)) fun e' W' hh=> ?_
  rcases hh with⟨h1,h2,h3⟩|⟨h1,h2⟩
  ·exact .inl ⟨h1,h2,h3⟩
  ·exact .inr ⟨h1,h2⟩
 refine(z9h yl t k T a b c d so n cap p m Bt W (hk.eight hb) (Qj.kept (fun g o u hg hu=>hk.cell hg hu) _ _ ht) hz h0 L0q).mono fun e W' h=> ?_
 exact⟨h.1,h.2⟩
theorem z9j(m:Nat)(k:Int)(T:ByteArray)(a b c d:Int)(so:Option Addr)(n cap:Nat)(p:Int)(w:World):CallsIn Fence.wide m prog 234 #[.agg #[.int .i64 k,.string T,.int .u64 a,.int .u64 b,.int .u64 c,.int .u64 d,.slice so n cap,.int .i64 p]] w fun e w'=>e=.returned (.func (.func 267) #[] #[.pointer (some ⟨w.heap.size,0,none⟩)])/\w'=w.alloc (.cells #[.int .i64 k,.string T,.int .u64 a,.int .u64 b,.int .u64 c,.int .u64 d,.slice so n cap,.int .i64 p] 71):=by
 refine callsIn_of_wp func234 rfl trivial ?_ rfl;simp only[ntmps234,List.size_toArray,List.length_cons,List.length_nil,Nat.reduceAdd,Nat.reduceSub,Array.replicate_succ,Array.replicate_zero,List.push_toArray,List.append_toArray,List.nil_append,List.cons_append]
 gi_wp2
 go_ret;exact⟨rfl,rfl⟩
end
open Go.Maps
theorem Fl:Keyed prog 9:=string_keyed Tryz.underlying9
theorem Mw(w:World):(zeroValue 3).run prog w=.ok (.int .i64 0) w:=by kernel_rfl
def kls(s:ByteArray):Lit:=.string s.data.toList
theorem z2g{a b:ByteArray}(h:kls a=kls b):a=b:=by
 unfold kls at h;injection h with h
 apply ByteArray.ext;exact Array.toList_inj.1 h
theorem Pp(s:ByteArray):WideAt.IsKeyLit (kls s):=trivial
theorem Dz{s:ByteArray}(h:s.size<=maxLen):keyOf prog 9 (.string s)=some (kls s):=WideMaps.keyOf_string_mk Tryz.underlying9 h
def ixN(s:ByteArray):List ByteArray->Nat
 |[]=>0
 |a::r=>if a=s then 0 else ixN s r+1
def inN(s:ByteArray):List ByteArray->Bool
 |[]=>false
 |a::r=>if a=s then true else inN s r
theorem Pc(s x:ByteArray):∀l,inN s (l++[x])=(inN s l||decide (x=s))
 |[]=>by rw[List.nil_append,inN,inN,inN];by_cases h:x=s<;>simp[h]
 |a::r=>by rw[List.cons_append,inN,inN,Pc s x r];by_cases h:a=s<;>simp[h]
theorem Rz(s x:ByteArray):∀l,ixN s (l++[x])=if inN s l then ixN s l else if x=s then l.length else l.length+1
 |[]=>by rw[List.nil_append,ixN,inN];by_cases h:x=s<;>simp[h,ixN]
 |a::r=>by
  rw[List.cons_append,ixN,ixN,inN,Rz s x r];by_cases h:a=s
  ·simp[h]
  ·simp only[h,if_false]
   by_cases h2:inN s r=true
   ·simp[h2]
   ·by_cases h3:x=s<;>simp[h2,h3]
theorem Cp(s:ByteArray):∀l,inN s l=true->ixN s l<l.length
 |[],h=>by simp[inN]at h
 |a::r,h=>by
  rw[inN]at h;rw[ixN];by_cases h2:a=s
  ·simp[h2]
  ·rw[if_neg h2]at h ⊢
   have:=Cp s r h;simp only[List.length_cons];omega
def Pm(W:World)(B:Nat)(l:List ByteArray):Prop:=∃D:DataW Unit,W.ownsMap prog 9 (plainElem prog 3) B l.length D/\∀s,Maps.has D (kls s)=inN s l/\(inN s l=true->D.atKey (kls s) (.lit (.int .i64 0))=.lit (.int .i64 (ixN s l:Nat)))
theorem Pm.made(w:World):Pm (w.alloc (.map #[] 0)) w.heap.size []:=⟨.map [],World.ownsMap_made w _ _ _,fun s=>⟨rfl,fun h=>by simp[inN]at h⟩⟩
theorem Pm.kept{W W':World}{B:Nat}{l:List ByteArray}{row:Option Nat}(h:Pm W B l)(hg:W.grownBy W' row)(hne:some B≠row):Pm W' B l:=by
 obtain⟨D,h1,h2⟩:=h;exact⟨D,h1.kept hg hne,h2⟩
theorem Pm.lt{W:World}{B:Nat}{l:List ByteArray}(h:Pm W B l):B<W.heap.size:=by
 obtain⟨D,h1,_⟩:=h;exact h1.lt
theorem Pm.below{W W':World}{B base:Nat}{l:List ByteArray}(h:Pm W B l)(hb:Below base W W')(hB:B<base):Pm W' B l:=by
 obtain⟨D,⟨es,ck,h1,h2,h3,h4⟩,h5⟩:=h;exact⟨D,⟨es,ck,(hb.block B hB).trans h1,h2,h3,h4⟩,h5⟩
theorem Pm.put{W':World}{B:Nat}{l:List ByteArray}{s:ByteArray}{D:DataW Unit}(hD:∀s,Maps.has D (kls s)=inN s l/\(inN s l=true->D.atKey (kls s) (.lit (.int .i64 0))=.lit (.int .i64 (ixN s l:Nat))))(hm:Maps.IsMap D)(hs:inN s l=false)
  (h:W'.ownsMap prog 9 (plainElem prog 3) B (l.length+1) (D.put (kls s) (.lit (.int .i64 (l.length:Nat))))):Pm W' B (l++[s]):=by
 refine⟨_,by rw[List.length_append];exact h,fun x=> ?_⟩;rw[Pc,Rz];by_cases e:s=x
 ·subst e
  rw[hs];refine⟨by rw[Maps.has_put_same hm (Pp _)];simp,fun _=> ?_⟩;rw[Maps.atKey_put_same hm (Pp _)];simp
 ·have hne:kls x≠kls s:=fun h=>e (z2g h).symm
  rw[Maps.has_put_other hne,Maps.atKey_put_other hne,(hD x).1];refine⟨by simp[e],fun h=> ?_⟩;have h':inN x l=true:=by simpa [e]using h
  rw[(hD x).2 h',if_pos h']
end Go.Proofs.YtlogolpcipiceaaGreatDoor
