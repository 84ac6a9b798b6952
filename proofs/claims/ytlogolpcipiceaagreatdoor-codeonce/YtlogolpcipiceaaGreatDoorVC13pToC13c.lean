/- Lemmas for the last text. Conditions: those that each names. -/
import Derived.Test.YtlogolpcipiceaaGreatDoorVC11aToC12a
import Derived.Test.YtlogolpcipiceaaGreatDoorVC10aToXF
set_option linter.unusedVariables false
set_option maxRecDepth 100000
set_option maxHeartbeats 16000000
namespace Go.Proofs.YtlogolpcipiceaaGreatDoor
open Go.Proofs.Tryz
open Go.RowKit Go.Shelf Go.Maps
theorem y3M{s:List UInt8}:∀{l},inA s l=false->s ∉ l
 |l,h,hm=>by rw[z2n hm]at h;cases h
def Onc(m:Int)(ops:List Ox):Prop:=(ops.map qB).Nodup/\∀i (hi:i<ops.length),∀x∈ops[i].2.2.2,0<=x/\x<if ops[i].1=5 then m else(i:Int)
theorem z5c{m:Int}{ops:List Ox}{o:Ox}(h:Onc m ops)(ho:∀x∈o.2.2.2,0<=x/\x<if o.1=5 then m else(ops.length:Int)):Onc m (plO o ops).2:=by
 unfold plO;split
 ·exact h
 ·rename_i hin
  have hin:inA (qB o) (ops.map qB)=false:=by simpa using hin
  refine⟨?_,fun i hi=> ?_⟩
  ·show((ops++[o]).map qB).Nodup
   rw[List.map_append,List.nodup_append];refine⟨h.1,by simp,fun a ha b hb e=> ?_⟩;obtain rfl:b=qB o:=by simpa using hb
   exact y3M hin (e▸ha)
  ·have hi:i<(ops++[o]).length:=hi
   rw[List.length_append]at hi;show ∀x∈(ops++[o])[i].2.2.2,0<=x/\x<if(ops++[o])[i].1=5 then m else(i:Int)
   by_cases e:i<ops.length
   ·rw[List.getElem_append_left e]
    exact h.2 i e
   ·obtain rfl:i=ops.length:=by simp at hi;omega
    rw[List.getElem_append_right L0q];simp only[Nat.sub_self,List.getElem_cons_zero];exact ho
mutual
theorem z5d{ix:ByteArray->Int}{m:Int}:∀(t:RT),(∀y∈rfT t,0<=ix y.1/\ix y.1<m)->∀ops:List Ox,Onc m ops->Onc m (mkT ix t ops).2
 | .mk k T a b c d s p,hr,ops,h=>by
   rw[mkT];by_cases h5:k=5
   ·rw[if_pos h5]
    refine z5c h fun x hx=> ?_
    obtain rfl:x=ix T:=by simpa using hx
    rw[if_pos rfl];exact hr (T,p) (by rw[rfT,if_pos h5];exact List.mem_singleton.2 rfl)
   ·rw[if_neg h5]
    have hL:=z5e s (fun y hy=>hr y (by rw[rfT,if_neg h5];exact hy)) ops h;refine z5c hL fun x hx=> ?_
    have:=(Kd ix s ops).2.1.2 x hx;rw[if_neg h5];exact this
theorem z5e{ix:ByteArray->Int}{m:Int}:∀(s:List RT),(∀y∈rfL s,0<=ix y.1/\ix y.1<m)->∀ops:List Ox,Onc m ops->Onc m (mkL ix s ops).2
 |[],_,ops,h=>by rw[mkL];exact h
 |t::r,hr,ops,h=>by
  rw[mkL];exact z5e r (fun y hy=>hr y (by rw[rfL];exact List.mem_append.2 (.inr hy))) _ (z5d t (fun y hy=>hr y (by rw[rfL];exact List.mem_append.2 (.inl hy))) ops h)
end
theorem z5f{ix:ByteArray->Int}{m:Int}:∀(s:List Rr),(∀x∈s,∀y∈rfT x.2.1,0<=ix y.1/\ix y.1<m)->∀ops:List Ox,Onc m ops->Onc m (mkG ix s ops).2
 |[],_,ops,h=>by rw[mkG];exact h
 |x::r,hr,ops,h=>by
  rw[mkG];exact z5f r (fun y hy=>hr y (List.mem_cons_of_mem _ hy)) _ (z5d x.2.1 (hr x List.mem_cons_self) ops h)
theorem y3N{rs:List Rr}(hck:ckR rs=none):Onc (rs.length:Int) (pgG rs).2:=by
 refine z5f rs (fun x hx y hy=> ?_) [] ⟨by simp,fun i hi=>by simp at hi⟩;have h1:inN y.1 (nmL rs)=true:=Az (Ec hck) y (Kf.2 ⟨x,hx,hy⟩);have h2:=Cp y.1 (nmL rs) h1;have h3:(nmL rs).length=rs.length:=by unfold nmL;rw[List.length_map]
 show 0<=fdI y.1 (nmL rs)/\fdI y.1 (nmL rs)<_;unfold fdI;rw[if_pos h1];omega
theorem z5g{m:Int}{ops:List Ox}(h:Onc m ops){i k:Nat}(hi:i<ops.length)(hk:k<i):ops[i]≠ops[k]:=fun e=>by
 have hn:=List.pairwise_iff_getElem.1 h.1 k i (by rw[List.length_map];omega) (by rw[List.length_map];exact hi) hk;rw[List.getElem_map,List.getElem_map,e]at hn;exact hn rfl
theorem y3O(rs:List Rr):(pgG rs).2.length<=ndG rs:=by
 have:=(Km (fun T=>fdI T (nmL rs)) rs []).1;simp only[List.length_nil,Nat.zero_add]at this;exact this
theorem y3P(k:Int)(T:ByteArray)(a b c d p:Int)(so:Option Addr)(n cap:Nat)(s:List RT)(w:World)(hn:n<=1048576)(HN:Hid (n=s.length))(HZ:Hid (1+ndL s<=1048576))
  (HC:Hid (∀j (hj:j<s.length),∃g o,so=some ⟨g,o,none⟩/\g<w.heap.size/\∃k1 T1 a1 b1 c1 d1 so1 n1 cap1 p1,Rc w g (o+j*8) k1 T1 a1 b1 c1 d1 (.slice so1 n1 cap1) p1/\
    ∀W:World,Below w.heap.size w W->Calls prog 28 #[.agg (r8 k1 T1 a1 b1 c1 d1 so1 n1 cap1 p1).toArray] W fun e w'=>e=.returned (.int .i64 (ndT s[j]:Nat))/\Below W.heap.size W w')):
  Calls prog 28 #[.agg (r8 k T a b c d so n cap p).toArray] w fun e w'=>e=.returned (.int .i64 (1+ndL s:Nat))/\Below w.heap.size w w':=by
 have HB1:Hid (Below w.heap.size w (w.alloc (.cells #[.int .i64 k,.string T,.int .u64 a,.int .u64 b,.int .u64 c,.int .u64 d,.slice so n cap,.int .i64 p] 71))):=(Below.refl _ w).alloc L0q _;have HC1:Hid ((w.alloc (.cells #[.int .i64 k,.string T,.int .u64 a,.int .u64 b,.int .u64 c,.int .u64 d,.slice so n cap,.int .i64 p] 71)).heap[w.heap.size]? =some (.cells #[.int .i64 k,.string T,.int .u64 a,.int .u64 b,.int .u64 c,.int .u64 d,.slice so n cap,.int .i64 p] 71)):=Qx w _ rfl
 (try dsimp only[r8])
 go_enter func28,ntmps28
 go_wp2_with fail
 go_loopw [3,4] (fun q i wr=>∃j:Nat,q=.int .i64 ((1+ndL (s.take j):Nat):Int)/\i=.int .i64 j/\j<=n/\Hid (Below w.heap.size w wr)/\Hid (wr.heap[w.heap.size]? =some (.cells #[.int .i64 k,.string T,.int .u64 a,.int .u64 b,.int .u64 c,.int .u64 d,.slice so n cap,.int .i64 p] 71))) (fun _ i _=>n-(intOf i).toNat)
 case atStart=>exact⟨0,by rw[List.take_zero,ndL];rfl,rfl,Nat.zero_le _,HB1,HC1⟩
 case round=>
  obtain⟨j,rfl,rfl,hj,HB,HCb⟩:=hrel;clear HB1 HC1;obtain⟨⟨m0,m1,m2,m3,m4,m5,m6,m7⟩,_⟩:=Qw HCb.out;have hwl:w.heap.size<wr.heap.size:=Qz HCb.out;obtain⟨q0,hq0⟩:∃q0,q0=1+ndL (s.take j):=⟨_,rfl⟩;by_cases hjn:j<n
  ·have hjI:(j:Int)<(n:Int):=by omega
   have a0:decide ((j:Int)<(n:Int))=true:=by simp;omega
   have hjs:j<s.length:=by rw[<-HN.out];exact hjn
   obtain⟨g,o,rfl,hg,k1,T1,a1,b1,c1,d1,so1,n1,cap1,p1,rc,hc⟩:=HC.out j hjs;obtain⟨z0,z1,z2,z3,z4,z5,z6,z7⟩:=rc.below HB.out hg;have HG:=hid (hc wr HB.out);obtain⟨q1,hq1⟩:∃q1,q1=ndT s[j]:=⟨_,rfl⟩;have hnt:=Tf s j hjs;have hqs:1+ndL (s.take (j+1))=q0+q1:=by rw[List.take_succ_eq_append_getElem hjs,Ty,ndL,ndL];omega
   have hqb:q0+q1<=1048576:=by have:=HZ.out;omega
   rw[<-hq1]at HG;rw[<-hq0];have HQs:=hid hqs;have hwr:IntKind.i64.wrap ((q0:Int)+(q1:Int))=(q0:Int)+(q1:Int):=by rw[IntKind.wrap_i64];omega
   clear hc rc HC hq1 hnt hqs hq0;dsimp only[r8]at HG
   go_wp2_with(first|(go_at_call 28;refine HG.out.mono ?_;rintro e wz ⟨rfl,hbz⟩))
   refine⟨⟨j+1,by rw[HQs.out];simp,by go_num,by omega,hid (HB.out.trans (hbz.mono HB.out.size)),hid ((hbz.block _ hwl).trans HCb.out)⟩,?_⟩;simp[intOf];omega
  ·have a0:decide ((j:Int)<(n:Int))=false:=by simp;omega
   rw[<-hq0];have HQ0:=hid hq0;clear hq0
   go_wp2_with fail
   go_ret;refine⟨?_,HB.out⟩;have htk:s.take j=s:=List.take_of_length_le (by have:=HN.out;omega);have h1:=HQ0.out;rw[htk]at h1;rw[h1];rfl
theorem z5h:∀(N:Nat) (t:RT) (cs:List Value) (B:Nat) (w:World),SizeOf.sizeOf t<N->Qj w B t cs->B<=w.heap.size->ndT t<=1048576->
  Calls prog 28 #[.agg cs.toArray] w fun e w'=>e=.returned (.int .i64 (ndT t:Nat))/\Below w.heap.size w w'
 |0,t,_,_,_,h,_,_,_=>by omega
 |N+1,.mk k T a b c d s p,cs,B,w,hN,ht,hB,hnd=>by
  rw[Qj]at ht;obtain⟨so,cap,rfl,ht⟩:=ht;rw[ndT]at hnd ⊢;have hlen:=Td s;refine y3P k T a b c d p so _ cap s w (by rw[Xd];omega) (hid (Xd s)) (hid hnd) (hid fun j hj=> ?_);rcases ht with h1|⟨h1,g,o,rfl,hg,hm,hs⟩
  ·have hs0:s=[]:=by simpa using h1
   subst hs0;simp at hj
  ·obtain⟨k1,T1,a1,b1,c1,d1,so1,n1,cap1,p1,r1,r2⟩:=Dl hs j hj
   refine⟨g,o,rfl,by omega,k1,T1,a1,b1,c1,d1,so1,n1,cap1,p1,r2,fun W hW=> ?_⟩;have hsz:=List.sizeOf_lt_of_mem (List.getElem_mem hj);simp only[RT.mk.sizeOf_spec]at hN;have:=Tf s j hj;exact z5h N s[j] _ B W (by omega) (r1.below (hW.mono hB)) (Nat.le_trans hB hW.size) (by omega)
theorem y3Q{s s2:List Int}(hl:s.length=s2.length)(h:∀i (h1:i<s.length) (h2:i<s2.length),s[i]=s2[i]):s=s2:=List.ext_getElem hl h
theorem z5i(s s2:List Int)(so so2:Option Addr)(n n2 cap cap2 B:Nat)(w:World)(HN:Hid (n=s.length))(HN2:Hid (n2=s2.length))(hn:n<=1048576)(hn2:n2<=1048576)(H1:Hid (∀j (hj:j<s.length),∃g o,so=some ⟨g,o,none⟩/\g<B/\w.cell? ⟨g,o+j,none⟩=some (.int .i64 s[j])))(H2:Hid (∀j (hj:j<s2.length),∃g o,so2=some ⟨g,o,none⟩/\g<B/\w.cell? ⟨g,o+j,none⟩=some (.int .i64 s2[j])))(hB:B<=w.heap.size):
  Calls prog 36 #[.slice so n cap,.slice so2 n2 cap2] w fun e w'=>e=.returned (.bool (decide (s=s2)))/\Below w.heap.size w w':=by
 by_cases hl:n=n2
 ·subst hl
  go_enter func36,ntmps36
  go_wp2_with fail
  go_loopw [5] (fun i wr=>∃j:Nat,i=.int .i64 j/\j<=n/\Hid (Below w.heap.size w wr)/\Hid (∀i (h1:i<s.length) (h2:i<s2.length),i<j->s[i]=s2[i])) (fun i _=>n-(intOf i).toNat)
  case atStart=>exact⟨0,rfl,Nat.zero_le _,hid B0q,hid fun i _ _ h=>absurd h (by omega)⟩
  case round=>
   obtain⟨j,rfl,hj,HB,HE⟩:=hrel;by_cases hjn:j<n
   ·have hjI:(j:Int)<(n:Int):=by omega
    have a0:decide ((j:Int)<(n:Int))=true:=by simp;omega
    have hjs:j<s.length:=by rw[<-HN.out];exact hjn
    have hjs2:j<s2.length:=by rw[<-HN2.out];exact hjn
    obtain⟨g,o,rfl,hg,c1⟩:=H1.out j hjs;obtain⟨g2,o2,rfl,hg2,c2⟩:=H2.out j hjs2;replace c1:=(HB.out.cell (p:=⟨g,o+j,none⟩) (by show g<w.heap.size;omega)).trans c1;replace c2:=(HB.out.cell (p:=⟨g2,o2+j,none⟩) (by show g2<w.heap.size;omega)).trans c2;obtain⟨x,hx⟩:∃x,x=s[j]:=⟨_,rfl⟩;obtain⟨y,hy⟩:∃y,y=s2[j]:=⟨_,rfl⟩;rw[<-hx]at c1;rw[<-hy]at c2;have HS:Hid ((fun X:World=>X.cell? ⟨g,o+j,none⟩=some (.int .i64 x)/\X.cell? ⟨g2,o2+j,none⟩=some (.int .i64 y)) wr.drew):=hid ⟨c1,c2⟩;have l1:=World.block_lt_of_cell? wr _ c1;have l2:=World.block_lt_of_cell? wr _ c2;have HX:=hid hx;have HY:=hid hy;clear hx hy;by_cases hxy:x=y
    ·subst hxy
     go_wp2_with fail
     refine Zl 99 (fun X:World=>X.cell? ⟨g,o+j,none⟩=some (.int .i64 x)/\X.cell? ⟨g2,o2+j,none⟩=some (.int .i64 x)) (by kernel_rfl) HS.out (fun hHeld=> ?_);refine Qq 0 hHeld ?_;refine Qq 1 hHeld ?_;refine Qq 2 hHeld ?_;refine Qq 3 hHeld ?_;refine Qq 4 hHeld ?_;refine Qq 5 hHeld ?_;refine Qq 6 hHeld ?_;refine Qq 7 hHeld ?_;refine Qq 8 hHeld ?_;refine⟨by kernel_rfl,?_⟩;clear hHeld HS
     go_wp2_with fail
     refine⟨⟨j+1,by go_num,by omega,hid HB.out.drew,hid fun i h1 h2 hij=> ?_⟩,by simp[intOf];omega⟩;rcases Nat.lt_or_ge i j with h3|h3
     ·exact HE.out i h1 h2 h3
     ·obtain rfl:i=j:=by omega
      exact HX.out.symm.trans HY.out
    ·have hne:(x == y)=false:=by simpa using hxy
     go_wp2_with fail
     refine Zl 99 (fun X:World=>X.cell? ⟨g,o+j,none⟩=some (.int .i64 x)/\X.cell? ⟨g2,o2+j,none⟩=some (.int .i64 y)) (by kernel_rfl) HS.out (fun hHeld=> ?_);refine Qq 0 hHeld ?_;refine Qq 1 hHeld ?_;refine Qq 2 hHeld ?_;refine Qq 3 hHeld ?_;refine Qq 4 hHeld ?_;refine Qq 5 hHeld ?_;refine Qq 6 hHeld ?_;refine Qq 7 hHeld ?_;refine Qq 8 hHeld ?_;refine⟨by kernel_rfl,?_⟩;clear hHeld HS
     go_wp2_with fail
     go_ret;refine⟨?_,HB.out.drew⟩;have hd:decide (s=s2)=false:=by
      simp only[decide_eq_false_iff_not];intro e;subst e;exact hxy (HX.out.trans HY.out.symm)
     rw[hd];rfl
   ·have a0:decide ((j:Int)<(n:Int))=false:=by simp;omega
    go_wp2_with fail
    go_ret;refine⟨?_,HB.out⟩;have hd:decide (s=s2)=true:=decide_eq_true (y3Q (by have:=HN.out;have:=HN2.out;omega) fun i h1 h2=>HE.out i h1 h2 (by have:=HN.out;omega));rw[hd];rfl
 ·have hd:decide (s=s2)=false:=by
   simp only[decide_eq_false_iff_not];intro e;subst e;exact hl (HN.out.trans HN2.out.symm)
  rw[hd];have b0:decide ((n:Int)=(n2:Int))=false:=by simp;omega
  have b1:¬((n:Int)=(n2:Int)):=by omega
  have b2:((n:Int) == (n2:Int))=false:=by simp;omega
  go_enter func36,ntmps36
  go_wp2_with fail
  go_ret;exact⟨rfl,Below.refl _ _⟩
def AlP(o o2:Ox)(w:World)(e:Ending)(w':World):Prop:=∃x,e=.returned (.bool x)/\(x=true->o=o2)/\Below w.heap.size w w'
theorem y3R(k:Int)(T:ByteArray)(a b c d:Int)(s:List Int)(so:Option Addr)(n cap:Nat)(k2:Int)(T2:ByteArray)(a2 b2 c2 d2:Int)(s2:List Int)(so2:Option Addr)(n2 cap2:Nat)(w:World)
  (HR:Hid (∀W:World,Below w.heap.size w W->Calls prog 36 #[.slice so n cap,.slice so2 n2 cap2] W fun e w'=>e=.returned (.bool (decide (s=s2)))/\Below W.heap.size W w')):
  Calls prog 37 #[.agg #[.int .i64 k,.string T,.int .u64 a,.int .u64 b,.int .u64 c,.int .u64 d,.slice so n cap],.agg #[.int .i64 k2,.string T2,.int .u64 a2,.int .u64 b2,.int .u64 c2,.int .u64 d2,.slice so2 n2 cap2]] w (AlP (k,T,(a,b,c,d),s) (k2,T2,(a2,b2,c2,d2),s2) w):=by
 obtain⟨hB1,e0,e1⟩:=Fz w (.cells #[.int .i64 k,.string T,.int .u64 a,.int .u64 b,.int .u64 c,.int .u64 d,.slice so n cap] 75) (.cells #[.int .i64 k2,.string T2,.int .u64 a2,.int .u64 b2,.int .u64 c2,.int .u64 d2,.slice so2 n2 cap2] 75);obtain⟨W1,hW1⟩:∃W1,W1=(w.alloc (.cells #[.int .i64 k,.string T,.int .u64 a,.int .u64 b,.int .u64 c,.int .u64 d,.slice so n cap] 75)).alloc (.cells #[.int .i64 k2,.string T2,.int .u64 a2,.int .u64 b2,.int .u64 c2,.int .u64 d2,.slice so2 n2 cap2] 75):=⟨_,rfl⟩;rw[<-hW1]at hB1 e0 e1;have HC:=hid (HR.out W1 hB1);obtain⟨v,hv⟩:∃v,v=decide (s=s2):=⟨_,rfl⟩;rw[<-hv]at HC;have HV:=hid hv;have HB1:=hid hB1;have E0:=hid e0;have E1:=hid e1;have HW1:=hid hW1;obtain⟨⟨m0,m1,m2,m3,m4,m5,m6⟩,_⟩:=Xb e0;obtain⟨⟨r0,r1,r2,r3,r4,r5,r6⟩,_⟩:=Xb e1;have l0:=Qz e0;have l1:=Qz e1;obtain⟨cb,hcb⟩:∃cb,cb=(a == a2&&(b == b2&&(c == c2&&d == d2))):=⟨_,rfl⟩;have e3:∀w:World,(Op.equalIn 10000 68 (.agg #[.int .u64 a,.int .u64 b,.int .u64 c,.int .u64 d]) (.agg #[.int .u64 a2,.int .u64 b2,.int .u64 c2,.int .u64 d2])).run prog w=.ok cb w:=fun w=>by rw[hcb];exact Lj 9998 w a b c d a2 b2 c2 d2
 have HCb:=hid hcb;clear hB1 e0 e1 hW1 HR hv hcb;go_enter func37,ntmps37
 go_wp2_with fail
 rw[<-HW1.out];clear HW1;refine HC.out.mono ?_;rintro e w2 ⟨rfl,hb2⟩;have F0:=hid ((hb2.block _ l0).trans E0.out);have F1:=hid ((hb2.block _ l1).trans E1.out);have HB2:=hid (HB1.out.trans (hb2.mono HB1.out.size));clear m0 m1 m2 m3 m4 m5 m6 r0 r1 r2 r3 r4 r5 r6 l0 l1 hb2 HC E0 E1 HB1;obtain⟨⟨m0,m1,m2,m3,m4,m5,m6⟩,_⟩:=Xb F0.out;obtain⟨⟨r0,r1,r2,r3,r4,r5,r6⟩,_⟩:=Xb F1.out;have l0:=Qz F0.out;have l1:=Qz F1.out;by_cases hk:k=k2
 ·subst hk
  by_cases hT:T=T2
  ·subst hT
   cases cb with
   |true=>
    cases v with
    |true=>
     go_wp2_with fail
     go_ret;refine⟨_,rfl,fun _=> ?_,HB2.out⟩;have h1:=HV.out;have h2:=HCb.out;simp only[Bool.true_eq,Bool.and_eq_true,beq_iff_eq,decide_eq_true_eq]at h1 h2;obtain⟨rfl,rfl,rfl,rfl⟩:=h2;rw[h1]
    |false=>
     go_wp2_with fail
     go_ret;exact⟨_,rfl,fun h=>(by cases h),HB2.out⟩
   |false=>
    go_wp2_with fail
    all_goals(go_ret;exact⟨_,rfl,fun h=>(by cases h),HB2.out⟩)
  ·have t1:(T.toList == T2.toList)=false:=by
    simp only[beq_eq_false_iff_ne];intro h;apply hT;apply ByteArray.ext;rw[ByteArray.toList_eq,ByteArray.toList_eq]at h;exact Array.toList_inj.1 h
   go_wp2_with fail
   all_goals(go_ret;exact⟨_,rfl,fun h=>(by cases h),HB2.out⟩)
 ·have k1:(k == k2)=false:=by simpa using hk
  go_wp2_with fail
  all_goals(go_ret;exact⟨_,rfl,fun h=>(by cases h),HB2.out⟩)
end Go.Proofs.YtlogolpcipiceaaGreatDoor
