/- Lemmas for the last text. Conditions: those that each names. -/
import Derived.Test.YtjodljnddflgfaaGreatDoorVU9ToU2
import Derived.Test.YtjodljnddflgfaaGreatDoorVS1ToS3
import Derived.Maps.OwnIn
import Derived.Maps.Own
import Derived.Maps.OwnOps
import Derived.Maps.OwnSet
import Derived.Test.YtjodljnddflgfaaGreatDoorVKPlainToKG2
import Derived.BigRegionIn
set_option linter.unusedVariables false
set_option maxRecDepth 100000
set_option maxHeartbeats 8000000
namespace Go.Proofs.YtjodljnddflgfaaGreatDoor
open Go.Proofs.Tryz
open Go.RowKit Go.Shelf
theorem y0n(m:Option Nat)(T:ByteArray)(a b c d:Int)(so:Option Addr)(n cap:Nat)(p:Int)(w:World):Calls prog 62 #[.map m,.agg #[.int .i64 1,.string T,.int .u64 a,.int .u64 b,.int .u64 c,.int .u64 d,.slice so n cap,.int .i64 p]] w fun e w'=>e=.returned (ov (true,false,false))/\Hid (Below w.heap.size w w'):=by
 have HB:Hid (∀o1 o2:Obj,Below w.heap.size w ((w.alloc o1).alloc o2)):=fun o1 o2=>((Below.refl _ w).alloc L0q o1).alloc (by simp) o2
 go_enter func62,ntmps62
 go_wp2_with fail
 refine bodyPost_ret (v:=.agg #[.bool true,.bool false,.bool false]) (by simp[results,Tryz.results62,go_sem]) rfl ?_;exact⟨rfl,hid (HB.out _ _)⟩
theorem y0o(m:Option Nat)(T:ByteArray)(a b c d:Int)(so:Option Addr)(n cap:Nat)(p:Int)(w:World):Calls prog 62 #[.map m,.agg #[.int .i64 4,.string T,.int .u64 a,.int .u64 b,.int .u64 c,.int .u64 d,.slice so n cap,.int .i64 p]] w fun e w'=>e=.returned (ov (false,true,true))/\Hid (Below w.heap.size w w'):=by
 have HB:Hid (∀o1 o2:Obj,Below w.heap.size w ((w.alloc o1).alloc o2)):=fun o1 o2=>((Below.refl _ w).alloc L0q o1).alloc (by simp) o2
 go_enter func62,ntmps62
 go_wp2_with fail
 refine bodyPost_ret (v:=.agg #[.bool false,.bool true,.bool true]) (by simp[results,Tryz.results62,go_sem]) rfl ?_;exact⟨rfl,hid (HB.out _ _)⟩
theorem y0p(m:Option Nat)(T:ByteArray)(a b c d:Int)(so:Option Addr)(n cap:Nat)(p:Int)(w:World)(hT:T={data:=#[]}):Calls prog 62 #[.map m,.agg #[.int .i64 2,.string T,.int .u64 a,.int .u64 b,.int .u64 c,.int .u64 d,.slice so n cap,.int .i64 p]] w fun e w'=>e=.returned (ov (true,false,false))/\Hid (Below w.heap.size w w'):=by
 subst hT;have HB:Hid (∀o1 o2:Obj,Below w.heap.size w ((w.alloc o1).alloc o2)):=fun o1 o2=>((Below.refl _ w).alloc L0q o1).alloc (by simp) o2
 go_enter func62,ntmps62
 go_wp2_with fail
 refine bodyPost_ret (v:=.agg #[.bool true,.bool false,.bool false]) (by simp[results,Tryz.results62,go_sem]) rfl ?_;exact⟨rfl,hid (HB.out _ _)⟩
theorem y0q(m:Option Nat)(T:ByteArray)(a b c d:Int)(so:Option Addr)(n cap:Nat)(p:Int)(w:World)(hT:T.toList.isEmpty=false):Calls prog 62 #[.map m,.agg #[.int .i64 2,.string T,.int .u64 a,.int .u64 b,.int .u64 c,.int .u64 d,.slice so n cap,.int .i64 p]] w fun e w'=>e=.returned (ov (false,true,true))/\Hid (Below w.heap.size w w'):=by
 have HB:Hid (∀o1 o2:Obj,Below w.heap.size w ((w.alloc o1).alloc o2)):=fun o1 o2=>((Below.refl _ w).alloc L0q o1).alloc (by simp) o2
 go_enter func62,ntmps62
 go_wp2_with fail
 refine bodyPost_ret (v:=.agg #[.bool false,.bool true,.bool true]) (by simp[results,Tryz.results62,go_sem]) rfl ?_;exact⟨rfl,hid (HB.out _ _)⟩
section
attribute [local go_sem] Oper.semAt_some
structure Nq where
 k:Int
 T:ByteArray
 a:Int
 b:Int
 c:Int
 d:Int
 so:Option Addr
 n:Nat
 cap:Nat
 p:Int
 z:T.size<=9223372036854775807
@[reducible] def Nq.v (x:Nq):Value:=.agg #[.int .i64 x.k,.string x.T,.int .u64 x.a,.int .u64 x.b,.int .u64 x.c,.int .u64 x.d,.slice x.so x.n x.cap,.int .i64 x.p]
def Nq.tp(x:Nq):ByteArray×Int:=(x.T,x.p)
def tps(q:List Nq):List (ByteArray×Int):=q.map Nq.tp
theorem Td(a b:List Nq):tps (a++b)=tps a++tps b:=List.map_append
theorem y0r(a:List Nq):(tps a).length=a.length:=List.length_map _
mutual
def rfT:RT->List (ByteArray×Int)
 | .mk k T _ _ _ _ s p=>if k=5 then [(T,p)]else rfL s
def rfL:List RT->List (ByteArray×Int)
 |[]=>[]
 |t::r=>rfT t++rfL r
end
theorem Tp:∀(a b:List RT),rfL (a++b)=rfL a++rfL b
 |[],b=>by rw[List.nil_append,rfL,List.nil_append]
 |x::r,b=>by rw[List.cons_append,rfL,rfL,Tp r b,List.append_assoc]
theorem y0s(s:List RT)(j:Nat)(hj:j<s.length):rfL (s.take (j+1))=rfL (s.take j)++rfT s[j]:=by
 rw[show s.take (j+1)=s.take j++[s[j]] by simp,Tp,rfL,rfL,List.append_nil]
theorem y0t(s:List RT)(j:Nat):∃r,rfL s=rfL (s.take j)++r:=by
 refine⟨rfL (s.drop j),?_⟩;rw[<-Tp,List.take_append_drop]
structure Yr (s0 l N:Nat) (J Jx:List Nq->World->Prop):Prop where
 grow:∀s A B,J s A->A.grownBy B none->J s B
 call:∀m pre (x:Nq) W,J pre W->pre.length<N->YieldAt Fence.wide m prog l #[x.v] W fun e W'=>
  (e=.returned (.bool true)/\J (pre++[x]) W'/\Kt s0 W W')∨(e=.returned (.bool false)/\Jx (pre++[x]) W')
def Yq(s0:Nat)(J Jx:List Nq->World->Prop)(pre:List Nq)(ps:List (ByteArray×Int))(W:World)(e:Ending)(W':World):Prop:=
 (e=.returned (.bool true)/\(∃q,tps q=ps/\J (pre++q) W')/\Kt s0 W W')∨(e=.returned (.bool false)/\∃q,tps q<+:ps/\Jx (pre++q) W')
def YR(s0 l N:Nat)(J Jx:List Nq->World->Prop)(t:RT):Prop:=
 ∀(m:Nat) (cs:List Value) (pre:List Nq) (W:World),Qk W s0 t cs->RtZ t->J pre W->pre.length+(rfT t).length<=N->
  CallsIn Fence.wide m prog 163 #[.agg cs.toArray,.func (.yield l) #[] #[]] W (Yq s0 J Jx pre (rfT t) W)
section
variable {s0 l N:Nat} {J Jx:List Nq->World->Prop}
theorem Yr.alloc(h:Yr s0 l N J Jx){s:List Nq}{A:World}(hs:J s A)(o:Obj):J s (A.alloc o):=h.grow s A _ hs (World.grownBy_alloc A o none)
theorem y0u(hY:Yr s0 l N J Jx)(T:ByteArray)(a b c d p:Int)(s:List RT):YR s0 l N J Jx (.mk 5 T a b c d s p):=by
 intro m cs pre W ht hz hJ hl;rw[Qk]at ht;obtain⟨so,cap,rfl,-⟩:=ht;rw[RtZ]at hz;have hTz:=hz.1;rw[rfT,if_pos rfl]at hl ⊢;have hdd:=Xp;have HK1:=hid (fun o:Obj=>Kt.alloc (s0:=s0) W o);obtain⟨n,hn⟩:∃n,n=Zw s:=⟨_,rfl⟩;obtain⟨fn,tmps,assign,Qp,hy,hR⟩:=hY.call (m-1) pre ⟨5,T,a,b,c,d,so,n,cap,p,hTz⟩ (W.alloc (.cells #[.int .i64 5,.string T,.int .u64 a,.int .u64 b,.int .u64 c,.int .u64 d,.slice so n cap,.int .i64 p] 30)) (hY.alloc hJ _) (by simp at hl;omega);have HR:=hid hR;rw[<-hn];clear hR hY hJ hl hn;dsimp only[Nq.v]at hy;refine callsIn_of_wp func163 rfl trivial ?_ rfl;simp only[ntmps163,List.size_toArray,List.length_cons,List.length_nil,Nat.reduceAdd,Nat.reduceSub,Array.replicate_succ,Array.replicate_zero,List.push_toArray,List.append_toArray,List.nil_append,List.cons_append]
 gi_wp2
 refine⟨hdd _,HR.out.mono ?_⟩;clear HR hy;rintro e W2 (⟨rfl,hJ2,hk2⟩|⟨rfl,hx2⟩)
 ·gi_wp2
  go_ret;exact .inl ⟨rfl,⟨[⟨5,T,a,b,c,d,so,n,cap,p,hTz⟩],rfl,hJ2⟩,(HK1.out _).trans hk2⟩
 ·gi_wp2
  go_ret;exact .inr ⟨rfl,[⟨5,T,a,b,c,d,so,n,cap,p,hTz⟩],List.prefix_refl _,hx2⟩
theorem y0v(hY:Yr s0 l N J Jx)(k:Int)(hk:k≠5)(T:ByteArray)(a b c d p:Int)(s:List RT)(hN:∀t∈s,YR s0 l N J Jx t):YR s0 l N J Jx (.mk k T a b c d s p):=by
 intro m cs pre W ht hz hJ hl;rw[Qk]at ht;obtain⟨so,cap,rfl,hso⟩:=ht;rw[RtZ]at hz;have HZs:=hid hz.2;clear hz;rw[rfT,if_neg hk]at hl ⊢;have hdd:=Xp;have hk2:(k == 5)=false:=by simp[hk]
 have hk3:decide (k=5)=false:=by simp[hk]
 obtain⟨n,hn⟩:∃n,n=s.length:=⟨_,rfl⟩;have HC:Hid (∀j (hj:j<s.length),∃g o,so=some ⟨g,o,none⟩/\g<s0/\Qc W s0 g o s):=fun j hj=>by
  rcases hso with h1|⟨_,g,o,h2,h3,_,h5⟩
  ·cases s
   ·simp at hj
   ·simp at h1
  ·exact⟨g,o,h2,h3,h5⟩
 have hn6:n<=9223372036854775807:=by
  rcases hso with h1|⟨_,g,o,_,_,h4,_⟩
  ·cases s
   ·simp at hn;omega
   ·simp at h1
  ·rw[Xc]at h4
   unfold maxLen at h4;omega
 rw[Xc,<-hn];obtain⟨W1,hW1⟩:∃W1,W1=W.alloc (.cells #[.int .i64 k,.string T,.int .u64 a,.int .u64 b,.int .u64 c,.int .u64 d,.slice so n cap,.int .i64 p] 30):=⟨_,rfl⟩;have HK1:Hid (Kt s0 W W1):=by rw[hW1];exact Kt.alloc W _
 have HB1:Hid (W1.heap[W.heap.size]? =some (.cells #[.int .i64 k,.string T,.int .u64 a,.int .u64 b,.int .u64 c,.int .u64 d,.slice so n cap,.int .i64 p] 30)):=by rw[hW1];exact Qx W _ rfl
 have HJ1:Hid (J pre W1):=by rw[hW1];exact hY.alloc hJ _
 have HY:Hid (Yr s0 l N J Jx):=hY;have HN:=hid hN;have HNl:Hid (n=s.length):=hn;have HL:=hid hl;have HW1:=hid hW1;clear hJ hY hN hl hn hW1 hso;refine callsIn_of_wp func163 rfl trivial ?_ rfl;simp only[ntmps163,List.size_toArray,List.length_cons,List.length_nil,Nat.reduceAdd,Nat.reduceSub,Array.replicate_succ,Array.replicate_zero,List.push_toArray,List.append_toArray,List.nil_append,List.cons_append]
 gi_wp2
 rw[<-HW1.out];clear HW1
 gi_loopw [16] (fun i wr=>∃j:Nat,i=.int .i64 j/\j<=n/\Hid (∃q,tps q=rfL (s.take j)/\J (pre++q) wr)/\Hid (Kt s0 W1 wr)) (fun i _=>n-(intOf i).toNat)
 case atStart=>exact⟨0,rfl,Nat.zero_le _,⟨[],by rw[List.take_zero,rfL];rfl,by rw[List.append_nil];exact HJ1.out⟩,hid (Kt.refl _)⟩
 case round=>
  obtain⟨j,rfl,hj,HJr,HKr⟩:=hrel;by_cases hjn:j<n
  ·have hjI:(j:Int)<(n:Int):=by omega
   have a0:decide ((j:Int)<(n:Int))=true:=by simp;omega
   have hjs:j<s.length:=by rw[<-HNl.out];exact hjn
   obtain⟨⟨c0,c1,c2,c3,c4,c5,c6,c7⟩,_⟩:=Qg (HKr.out.eight HB1.out);have hKw:Kt s0 W wr:=HK1.out.trans HKr.out;obtain⟨g,o,rfl,hg,hrt⟩:=HC.out j hjs;obtain⟨k1,T1,a1,b1,c1',d1,so1,n1,cap1,p1,rt1,z0,z1,z2,z3,z4,z5,z6,z7⟩:=Ab (Qc.kept (fun q c u hq hu=>hKw.cell hq hu) hg s o hrt) j hjs;have hgl:g<wr.heap.size:=World.block_lt_of_cell? wr _ z0;obtain⟨q,hq,hJq⟩:=HJr.out;obtain⟨rr,hrr⟩:=y0t s (j+1);have hnx:=y0s s j hjs;have hlj:(pre++q).length+(rfT s[j]).length<=N:=by
    have h1:=HL.out;rw[hrr,hnx]at h1;have h2:=congrArg List.length hq;rw[y0r]at h2;simp only[List.length_append]at h1 ⊢;omega
   have K2:=hid (Kt.alloc (s0:=s0) wr (.cells #[.int .i64 k1,.string T1,.int .u64 a1,.int .u64 b1,.int .u64 c1',.int .u64 d1,.slice so1 n1 cap1,.int .i64 p1] 30));have HS:=hid (HN.out s[j] (List.getElem_mem hjs) (m-1) _ (pre++q) (wr.alloc (.cells #[.int .i64 k1,.string T1,.int .u64 a1,.int .u64 b1,.int .u64 c1',.int .u64 d1,.slice so1 n1 cap1,.int .i64 p1] 30)) (Qk.kept (fun g o u hg hu=>K2.out.cell hg hu) _ _ rt1) (HZs.out.get j hjs) (HY.out.alloc hJq _) hlj);have HQ:Hid (tps q=rfL (s.take j)):=hq;have HNX:=hid hnx;have HRR:=hid hrr;clear hJq hq hlj rt1 hrt hrr hnx HJr;dsimp only[r8]at HS
   gi_wp2
   refine⟨trivial,hdd _,HS.out.mono ?_⟩;clear HS z0 z1 z2 z3 z4 z5 z6 z7;rintro e W4 (⟨rfl,⟨q2,hq2,hJ2⟩,hk4⟩|⟨rfl,q2,hq2,hx4⟩)
   ·gi_wp2
    go_roundw
    case rel=>exact⟨j+1,by go_num,by omega,hid ⟨q++q2,by rw[Td,HQ.out,hq2,HNX.out],by rw[<-List.append_assoc];exact hJ2⟩,hid ((HKr.out.trans K2.out).trans hk4)⟩
    case measure=>simp[intOf];omega
   ·gi_wp2
    go_ret;refine .inr ⟨rfl,q++q2,?_,by rw[<-List.append_assoc];exact hx4⟩;obtain⟨r,hr⟩:=hq2;refine⟨r++rr,?_⟩;rw[HRR.out,HNX.out,<-hr,Td,HQ.out];simp
  ·have a0:decide ((j:Int)<(n:Int))=false:=by simp;omega
   have hjn':s.take j=s:=List.take_of_length_le (by rw[<-HNl.out];omega);rw[hjn']at HJr;clear hjn'
   gi_wp2
   go_ret;obtain⟨q,hq,hJq⟩:=HJr.out;exact .inl ⟨rfl,⟨q,hq,hJq⟩,HK1.out.trans HKr.out⟩
theorem z3T(hY:Yr s0 l N J Jx):∀(Q:Nat) (t:RT),SizeOf.sizeOf t<Q->YR s0 l N J Jx t
 |0,t,h=>by omega
 |Q+1,.mk k T a b c d s p,h=>by
  by_cases hk:k=5
  ·subst hk
   exact y0u hY T a b c d p s
  ·refine y0v hY k hk T a b c d p s fun t ht=>z3T hY Q t ?_
   have h1:=List.sizeOf_lt_of_mem ht;simp only[RT.mk.sizeOf_spec]at h;omega
end
end
section
attribute [local go_sem] Oper.semAt_some
section
variable {s0 l N:Nat} {J Jx:List Nq->World->Prop}
theorem y0w(hY:Yr s0 l N J Jx)(t:RT)(k:Int)(T:ByteArray)(a b c d:Int)(so:Option Addr)(n cap:Nat)(p:Int)(m Bt:Nat)(W:World)(hb:W.heap[Bt]? =some (.cells #[.int .i64 k,.string T,.int .u64 a,.int .u64 b,.int .u64 c,.int .u64 d,.slice so n cap,.int .i64 p] 30))(ht:Qk W s0 t (r8 k T a b c d so n cap p))(hz:RtZ t)(hJ:J [] W)(hl:(rfT t).length<=N):
  CallsIn Fence.wide m prog 162 #[.func (.yield l) #[] #[],.pointer (some ⟨Bt,0,none⟩)] W fun e W'=>(∃v,e=.returned v)/\((∃q,tps q=rfT t/\J q W')∨∃q,tps q<+:rfT t/\Jx q W'):=by
 have hdd:=Xp;have HS:=hid (z3T hY _ t (Nat.lt_succ_self _) (m-1) _ [] W ht hz hJ (by simpa using hl));obtain⟨⟨c0,c1,c2,c3,c4,c5,c6,c7⟩,_⟩:=Qg hb;clear hY ht hz hJ hl;dsimp only[r8]at HS;refine callsIn_of_wp func162 rfl trivial ?_ rfl;simp only[ntmps162,List.size_toArray,List.length_cons,List.length_nil,Nat.reduceAdd,Nat.reduceSub,Array.replicate_succ,Array.replicate_zero,List.push_toArray,List.append_toArray,List.nil_append,List.cons_append]
 gi_wp2
 refine⟨trivial,hdd _,HS.out.mono ?_⟩;clear HS;rintro e W4 (⟨rfl,⟨q2,hq2,hJ2⟩,hk4⟩|⟨rfl,q2,hq2,hx4⟩)
 ·gi_wp2
  go_end0
  exact⟨⟨_,rfl⟩,.inl ⟨q2,hq2,hJ2⟩⟩
 ·gi_wp2
  go_end0
  exact⟨⟨_,rfl⟩,.inr ⟨q2,hq2,hx4⟩⟩
end
theorem y0x{s0:Nat}(t:RT)(k:Int)(T:ByteArray)(a b c d:Int)(so:Option Addr)(n cap:Nat)(p:Int)(m Bt:Nat)(w:World)(hb:w.heap[Bt]? =some (.cells #[.int .i64 k,.string T,.int .u64 a,.int .u64 b,.int .u64 c,.int .u64 d,.slice so n cap,.int .i64 p] 30))(ht:Qk w s0 t (r8 k T a b c d so n cap p))(hz:RtZ t):
  SeqStopsK Fence.wide m prog 162 #[.pointer (some ⟨Bt,0,none⟩)] (fun x:Nq=>#[x.v]) (Kt s0) (fun ys=>tps ys=rfT t) (fun pre=>tps pre<+:rfT t) (rfT t).length w:=by
 intro l J Jx W hW hJ hJx hY h0;have hk:=Kt.below (s0:=s0) hW;have yl:Yr s0 l (rfT t).length J Jx:=by
  refine⟨fun s A B h hg=>hJ s A B none h hg (fun r e=>by cases e),fun m' pre x W1 h hl=> ?_⟩;refine YieldAt.mono (Hq rfl m' (hY pre x W1 h hl)) fun e' W' hh=> ?_
  rcases hh with⟨h1,h2,h3⟩|⟨h1,h2⟩
  ·exact .inl ⟨h1,h2,h3⟩
  ·exact .inr ⟨h1,h2⟩
 refine(y0w yl t k T a b c d so n cap p m Bt W (hk.eight hb) (Qk.kept (fun g o u hg hu=>hk.cell hg hu) _ _ ht) hz h0 L0q).mono fun e W' h=> ?_
 exact⟨h.1,h.2⟩
theorem y0y(m:Nat)(k:Int)(T:ByteArray)(a b c d:Int)(so:Option Addr)(n cap:Nat)(p:Int)(w:World):CallsIn Fence.wide m prog 136 #[.agg #[.int .i64 k,.string T,.int .u64 a,.int .u64 b,.int .u64 c,.int .u64 d,.slice so n cap,.int .i64 p]] w fun e w'=>e=.returned (.func (.func 162) #[] #[.pointer (some ⟨w.heap.size,0,none⟩)])/\w'=w.alloc (.cells #[.int .i64 k,.string T,.int .u64 a,.int .u64 b,.int .u64 c,.int .u64 d,.slice so n cap,.int .i64 p] 30):=by
 refine callsIn_of_wp func136 rfl trivial ?_ rfl;simp only[ntmps136,List.size_toArray,List.length_cons,List.length_nil,Nat.reduceAdd,Nat.reduceSub,Array.replicate_succ,Array.replicate_zero,List.push_toArray,List.append_toArray,List.nil_append,List.cons_append]
 gi_wp2
 go_ret;exact⟨rfl,rfl⟩
end
open Go.Maps
theorem Fk:Keyed prog 9:=string_keyed Tryz.underlying9
theorem Hy(w:World):(zeroValue 3).run prog w=.ok (.int .i64 0) w:=by kernel_rfl
def kls(s:ByteArray):Lit:=.string s.data.toList
theorem Tc{a b:ByteArray}(h:kls a=kls b):a=b:=by
 unfold kls at h;injection h with h
 apply ByteArray.ext;exact Array.toList_inj.1 h
theorem Hf(s:ByteArray):WideAt.IsKeyLit (kls s):=trivial
theorem Fv{s:ByteArray}(h:s.size<=maxLen):keyOf prog 9 (.string s)=some (kls s):=WideMaps.keyOf_string_mk Tryz.underlying9 h
def ixN(s:ByteArray):List ByteArray->Nat
 |[]=>0
 |a::r=>if a=s then 0 else ixN s r+1
def inN(s:ByteArray):List ByteArray->Bool
 |[]=>false
 |a::r=>if a=s then true else inN s r
theorem z3U(s x:ByteArray):∀l,inN s (l++[x])=(inN s l||decide (x=s))
 |[]=>by rw[List.nil_append,inN,inN,inN];by_cases h:x=s<;>simp[h]
 |a::r=>by rw[List.cons_append,inN,inN,z3U s x r];by_cases h:a=s<;>simp[h]
theorem z3V(s x:ByteArray):∀l,ixN s (l++[x])=if inN s l then ixN s l else if x=s then l.length else l.length+1
 |[]=>by rw[List.nil_append,ixN,inN];by_cases h:x=s<;>simp[h,ixN]
 |a::r=>by
  rw[List.cons_append,ixN,ixN,inN,z3V s x r];by_cases h:a=s
  ·simp[h]
  ·simp only[h,if_false]
   by_cases h2:inN s r=true
   ·simp[h2]
   ·by_cases h3:x=s<;>simp[h2,h3]
def Pm(W:World)(B:Nat)(l:List ByteArray):Prop:=∃D:DataW Unit,W.ownsMap prog 9 (plainElem prog 3) B l.length D/\∀s,Maps.has D (kls s)=inN s l/\(inN s l=true->D.atKey (kls s) (.lit (.int .i64 0))=.lit (.int .i64 (ixN s l:Nat)))
theorem Pm.made(w:World):Pm (w.alloc (.map #[] 0)) w.heap.size []:=⟨.map [],World.ownsMap_made w _ _ _,fun s=>⟨rfl,fun h=>by simp[inN]at h⟩⟩
theorem Pm.kept{W W':World}{B:Nat}{l:List ByteArray}{row:Option Nat}(h:Pm W B l)(hg:W.grownBy W' row)(hne:some B≠row):Pm W' B l:=by
 obtain⟨D,h1,h2⟩:=h;exact⟨D,h1.kept hg hne,h2⟩
theorem Pm.below{W W':World}{B base:Nat}{l:List ByteArray}(h:Pm W B l)(hb:Below base W W')(hB:B<base):Pm W' B l:=by
 obtain⟨D,⟨es,ck,h1,h2,h3,h4⟩,h5⟩:=h;exact⟨D,⟨es,ck,(hb.block B hB).trans h1,h2,h3,h4⟩,h5⟩
theorem Pm.put{W':World}{B:Nat}{l:List ByteArray}{s:ByteArray}{D:DataW Unit}(hD:∀s,Maps.has D (kls s)=inN s l/\(inN s l=true->D.atKey (kls s) (.lit (.int .i64 0))=.lit (.int .i64 (ixN s l:Nat))))(hm:Maps.IsMap D)(hs:inN s l=false)
  (h:W'.ownsMap prog 9 (plainElem prog 3) B (l.length+1) (D.put (kls s) (.lit (.int .i64 (l.length:Nat))))):Pm W' B (l++[s]):=by
 refine⟨_,by rw[List.length_append];exact h,fun x=> ?_⟩;rw[z3U,z3V];by_cases e:s=x
 ·subst e
  rw[hs];refine⟨by rw[Maps.has_put_same hm (Hf _)];simp,fun _=> ?_⟩;rw[Maps.atKey_put_same hm (Hf _)];simp
 ·have hne:kls x≠kls s:=fun h=>e (Tc h).symm
  rw[Maps.has_put_other hne,Maps.atKey_put_other hne,(hD x).1];refine⟨by simp[e],fun h=> ?_⟩;have h':inN x l=true:=by simpa [e]using h
  rw[(hD x).2 h',if_pos h']
@[reducible] def av (x:Ah):Value:=.agg #[.int .u64 (wd x.1 0:Nat),.int .u64 (wd x.1 1:Nat),.int .u64 (wd x.1 2:Nat),.int .u64 (wd x.1 3:Nat),.bool x.2]
def dA(x:Ah):DataW Unit:=.agg [.lit (.int .u64 (wd x.1 0:Nat)),.lit (.int .u64 (wd x.1 1:Nat)),.lit (.int .u64 (wd x.1 2:Nat)),.lit (.int .u64 (wd x.1 3:Nat)),.lit (.bool x.2)]
def aEl(v:Value):Option (DataW Unit×List MemPlace):=match v with
 | .agg cs=>match cs.toList with
   |[.int .u64 a,.int .u64 b,.int .u64 c,.int .u64 d,.bool e]=>some (.agg [.lit (.int .u64 a),.lit (.int .u64 b),.lit (.int .u64 c),.lit (.int .u64 d),.lit (.bool e)],[])
   |_=>none
 |_=>none
theorem z3W(x:Ah):aEl (av x)=some (dA x,[]):=rfl
theorem y0z{v:Value}{x:Ah}{ps:List MemPlace}(h:aEl v=some (dA x,ps)):v=av x:=by
 unfold aEl at h;split at h
 ·rename_i cs
  split at h
  ·rename_i a b c d e hc
   have e:=(Prod.mk.inj (Option.some.inj h)).1;simp only[dA,DataW.agg.injEq,List.cons.injEq,DataW.lit.injEq,Lit.bool.injEq,Lit.int.injEq,and_true,true_and]at e;obtain⟨rfl,rfl,rfl,rfl,rfl⟩:=e;obtain⟨l⟩:=cs;simp only at hc;subst hc;rfl
  ·cases h
 ·cases h
theorem y0A(w:World):(zeroValue 39).run prog w=.ok (av (0,false)) w:=by
 unfold av;simp only[Vz];kernel_rfl
theorem z3X:Tryz.prog.underlying 68=some (.map 9 39):=by kernel_rfl
def Na(W:World)(B:Nat)(n:Nat)(F:ByteArray->Ah):Prop:=∃D:DataW Unit,W.ownsMap prog 9 aEl B n D/\∀s,D.atKey (kls s) (dA (0,false))=dA (F s)
theorem Na.made(w:World):Na (w.alloc (.map #[] 0)) w.heap.size 0 z0A:=⟨.map [],World.ownsMap_made w _ _ _,fun s=>rfl⟩
theorem Na.kept{W W':World}{B n:Nat}{F:ByteArray->Ah}{row:Option Nat}(h:Na W B n F)(hg:W.grownBy W' row)(hne:some B≠row):Na W' B n F:=by
 obtain⟨D,h1,h2⟩:=h;exact⟨D,h1.kept hg hne,h2⟩
theorem Na.below{W W':World}{B n base:Nat}{F:ByteArray->Ah}(h:Na W B n F)(hb:Below base W W')(hB:B<base):Na W' B n F:=by
 obtain⟨D,⟨es,ck,h1,h2,h3,h4⟩,h5⟩:=h;exact⟨D,⟨es,ck,(hb.block B hB).trans h1,h2,h3,h4⟩,h5⟩
theorem Na.lt{W:World}{B n:Nat}{F:ByteArray->Ah}(h:Na W B n F):B<W.heap.size:=by
 obtain⟨D,h1,_⟩:=h;exact h1.lt
theorem Na.look{W:World}{B n:Nat}{F:ByteArray->Ah}(h:Na W B n F){s:ByteArray}(hs:s.size<=maxLen):(Instr.lookup 68 (.map (some B)) (.string s) false).run prog W=.ok (av (F s)) W:=by
 obtain⟨D,h1,h2⟩:=h;obtain⟨v,ps,h3,h4⟩:=h1.lookup Fk z3X (y0A W) (z3W (0,false)) (Fv hs);rw[h2 s]at h4;rw[h3,y0z h4]
theorem Na.put{W:World}{B n:Nat}{F:ByteArray->Ah}(h:Na W B n F){s:ByteArray}(hs:s.size<=maxLen)(x:Ah)(hn:n<maxLen):∃W',(Instr.mapUpdate 68 (.map (some B)) (.string s) (av x)).run prog W=.ok () W'/\Na W' B (n+1) (Jd F s x)/\W.grownBy W' (some B):=by
 obtain⟨D,h1,h2⟩:=h;obtain⟨W',h3,h4,h5⟩:=h1.update Fk z3X hn (Fv hs) (z3W x);refine⟨W',h3,⟨_,h4,fun t=> ?_⟩,h5⟩;unfold Jd;by_cases e:t=s
 ·subst e
  rw[if_pos rfl,Maps.atKey_put_same h1.isMap (Hf _)]
 ·rw[if_neg e,Maps.atKey_put_other (fun h=>e (Tc h)),h2 t]
def nmL(rs:List Rr):List ByteArray:=rs.map (·.1)
def Vc(l:List ByteArray):List Rr->Option Int
 |[]=>none
 |x::r=>if inN x.1 l then some x.2.2 else Vc (l++[x.1]) r
def Kj(rs:List Rr):Option Int:=Vc [] rs
theorem z3Y(l:List ByteArray)(rs:List Rr)(j:Nat)(hj:j<rs.length):Vc l (rs.drop j)=if inN rs[j].1 l then some rs[j].2.2 else Vc (l++[rs[j].1]) (rs.drop (j+1)):=by
 rw[List.drop_eq_getElem_cons hj,Vc]
theorem z3Z(rs:List Rr)(j:Nat)(hj:j<rs.length):nmL (rs.take (j+1))=nmL (rs.take j)++[rs[j].1]:=by
 unfold nmL;rw[show rs.take (j+1)=rs.take j++[rs[j]] by simp,List.map_append];rfl
def rfG:List Rr->List (ByteArray×Int)
 |[]=>[]
 |x::r=>rfT x.2.1++rfG r
theorem Tl:∀(a b:List Rr),rfG (a++b)=rfG a++rfG b
 |[],b=>by rw[List.nil_append,rfG,List.nil_append]
 |x::r,b=>by rw[List.cons_append,rfG,rfG,Tl r b,List.append_assoc]
theorem y0B(s:List Rr)(j:Nat)(hj:j<s.length):rfG (s.take (j+1))=rfG (s.take j)++rfT s[j].2.1:=by
 rw[show s.take (j+1)=s.take j++[s[j]] by simp,Tl,rfG,rfG,List.append_nil]
def Xm(l:List ByteArray):List (ByteArray×Int)->Option Int
 |[]=>none
 |x::r=>if inN x.1 l then Xm l r else some x.2
theorem Mz(l:List ByteArray):∀(a b:List (ByteArray×Int)),Xm l (a++b)=match Xm l a with|some p=>some p|none=>Xm l b
 |[],b=>by rw[List.nil_append,Xm]
 |x::r,b=>by
  rw[List.cons_append,Xm,Xm,Mz l r b];by_cases h:inN x.1 l=true
  ·rw[if_pos h,if_pos h]
  ·rw[if_neg h,if_neg h]
def ckR(rs:List Rr):Option (Int×Int):=match Kj rs with
 |some p=>some (30,p)
 |none=>match Xm (nmL rs) (rfG rs)with
  |some p=>some (31,p)
  |none=>none
def CkP(w:World)(rs:List Rr)(e:Ending)(w':World):Prop:=Below w.heap.size w w'/\
 ((∃c p g,ckR rs=some (c,p)/\e=.returned (.tuple #[.map none,.iface 86 (.pointer (some ⟨g,0,none⟩))])/\w.heap.size<=g/\w'.heap[g]? =some (.cells #[.int .i64 c,.int .i64 p] 89))∨
  (∃M,ckR rs=none/\e=.returned (.tuple #[.map (some M),.nilIface])/\w.heap.size<=M/\Pm w' M (nmL rs)))
def Kp3(w W2:World)(M:Nat)(wr:World):Prop:=Below w.heap.size w wr/\M+1+1<=wr.heap.size/\(∀k,k<M->wr.heap[k]? =W2.heap[k]?)/\wr.heap[M+1]? =W2.heap[M+1]?
theorem Kp3.step{w W2 wr w1:World}{M:Nat}{o:Obj}(h:Kp3 w W2 M wr)(hg:(wr.alloc o).grownBy w1 (some M))(hM:w.heap.size<=M):Kp3 w W2 M w1:=by
 obtain⟨h1,h2,h3,h4⟩:=h;have hs:=hg.size;rw[World.size_alloc]at hs;refine⟨(h1.alloc h1.size _).grown hg (by rw[World.size_alloc];have:=h1.size;omega) (fun j e=>by cases e;exact hM),by omega,fun k hk=> ?_,?_⟩
 ·exact(hg.block k (by rw[World.size_alloc];omega) (fun e=>by cases e;omega)).trans ((Below.heap_alloc _ _ _ (by omega)).trans (h3 k hk))
 ·exact(hg.block _ (by rw[World.size_alloc];omega) (fun e=>by simp at e)).trans ((Below.heap_alloc _ _ _ (by omega)).trans h4)
theorem y0C(n:Int)(w:World):(Instr.makeMap 174 (some (.int .i64 n))).run prog w=.ok (.map (some w.heap.size)) (w.alloc (.map #[] 0)):=by kernel_rfl
def Mks(base:Nat):Nat->List Deferred->World->Prop
 |_,[],_=>True
 |lim,d::ds,w=>∃D,d={target:=.collected D,args:=#[]}/\base<=D/\D<lim/\w.heap[D]? =some (.deferred (some []))/\Mks base D ds w
theorem Mks.kept{base:Nat}:∀{lim:Nat} {ds:List Deferred} {w w':World},Mks base lim ds w->(∀D,D<lim->w.heap[D]? =some (.deferred (some []))->w'.heap[D]? =some (.deferred (some [])))->Mks base lim ds w'
 |_,[],_,_,_,_=>trivial
 |lim,d::ds,w,w',h,hk=>by
  obtain⟨D,h1,h2,h3,h4,h5⟩:=h;exact⟨D,h1,h2,h3,hk D h3 h4,h5.kept fun D' hD h=>hk D' (by omega) h⟩
theorem Mks.below{base S:Nat}{ds:List Deferred}{w w':World}(h:Mks base S ds w)(hb:Below S w w'):Mks base S ds w':=h.kept fun D hD e=>(hb.block D hD).trans e
theorem Mks.mono{base:Nat}:∀{lim lim':Nat} {ds:List Deferred} {w:World},Mks base lim ds w->lim<=lim'->Mks base lim' ds w
 |_,_,[],_,_,_=>trivial
 |_,_,d::ds,w,⟨D,h1,h2,h3,h4,h5⟩,hl=>⟨D,h1,h2,Nat.lt_of_lt_of_le h3 hl,h4,h5⟩
def Dk(base:Nat)(w w':World):Prop:=Below base w w'/\∀(k:Nat) (o:Obj),w.heap[k]? =some o->(∀l,o≠.deferred l)->w'.heap[k]? =some o
theorem Bz{F:Fence}{n:Nat}{P:Program}{fn:Func}{tmps:Array Value}{R:Ending->World->Prop}{base:Nat}:∀(ds:List Deferred) (lim:Nat) (w:World),Mks base lim ds w->(∀w',Dk base w w'->∃v,(results fn tmps).run P w'=.ok v w'/\R (.returned v) w')->LeavesInM F n P fn tmps R ds .returning w
 |[],_,w,_,h=>h w ⟨Below.refl _ _,fun _ _ h _=>h⟩
 |d::ds,lim,w,⟨D,h1,h2,h3,h4,h5⟩,h=>by
  refine⟨by simp,.inl ⟨D,_,by rw[h1],run_takeDeferred h4,?_⟩⟩;have hb:Below base w (w.putObj D (.deferred none)):=(Below.refl base w).grown (grownBy_putObj' w D _) (by have:=(Array.getElem?_eq_some_iff.1 h4).1;omega) (fun k e=>by cases e;omega);refine Bz ds D _ (h5.kept fun D' hD e=>(World.putObj_heap_other (by omega)).trans e) fun w' hk=>h w' ⟨hb.trans hk.1,fun k o ho hne=>hk.2 k o ?_ hne⟩
  refine(World.putObj_heap_other fun e=> ?_).trans ho;subst e;rw[h4]at ho;cases ho;exact hne _ rfl
theorem Dk.box{base:Nat}{w w':World}{B:Nat}{t:TypeId}{v:Value}(h:Dk base w w')(hb:Boxed w B t v):Boxed w' B t v:=h.2 B _ hb (fun l e=>by cases e)
theorem Dk.pm{base:Nat}{w w':World}{B:Nat}{l:List ByteArray}(h:Dk base w w')(hp:Pm w B l):Pm w' B l:=by
 obtain⟨D,⟨es,ck,h1,h2,h3,h4⟩,h5⟩:=hp;exact⟨D,⟨es,ck,h.2 B _ h1 (fun l e=>by cases e),h2,h3,h4⟩,h5⟩
theorem Kp3.below{w W2 W W':World}{M S:Nat}(h:Kp3 w W2 M W)(hb:Below S W W')(h1:w.heap.size<=S)(h2:M+1+1<=S):Kp3 w W2 M W':=
 ⟨h.1.trans (hb.mono h1),by have:=hb.size;have:=h.2.1;omega,fun k hk=>(hb.block k (by omega)).trans (h.2.2.1 k hk),(hb.block _ (by omega)).trans h.2.2.2⟩
end Go.Proofs.YtjodljnddflgfaaGreatDoor
