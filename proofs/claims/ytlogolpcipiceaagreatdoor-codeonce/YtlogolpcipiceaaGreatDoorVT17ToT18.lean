/- Lemmas for the last text. Conditions: those that each names. -/
import Derived.Test.YtlogolpcipiceaaGreatDoorVTIsToT16
set_option linter.unusedVariables false
set_option maxRecDepth 100000
set_option maxHeartbeats 8000000
namespace Go.Proofs.YtlogolpcipiceaaGreatDoor
open Go.Proofs.Tryz
open Go.RowKit Go.Shelf Go.Maps
structure Ev (w0:World) (sB aB:Nat) (so0:Option Addr) (n0 cap0:Nat) (at':Int) (W:World):Prop where
 sbx:W.heap[sB]? =some (.cells #[.slice so0 n0 cap0] 24)
 abx:W.heap[aB]? =some (.cells #[.int .i64 at'] 3)
 be:Below w0.heap.size w0 W
theorem Ev.ne{w0:World}{sB aB:Nat}{so0:Option Addr}{n0 cap0:Nat}{at':Int}{W:World}(h:Ev w0 sB aB so0 n0 cap0 at' W):sB≠aB:=fun e=>by
 have h1:=h.sbx;rw[e,h.abx]at h1;cases h1
theorem Ev.alloc{w0:World}{sB aB:Nat}{so0:Option Addr}{n0 cap0:Nat}{at':Int}{W:World}(h:Ev w0 sB aB so0 n0 cap0 at' W)(o:Obj):Ev w0 sB aB so0 n0 cap0 at' (W.alloc o):=
 ⟨(Below.heap_alloc _ _ _ (Qz h.sbx)).trans h.sbx,(Below.heap_alloc _ _ _ (Qz h.abx)).trans h.abx,h.be.alloc h.be.size _⟩
theorem Ev.drew{w0:World}{sB aB:Nat}{so0:Option Addr}{n0 cap0:Nat}{at':Int}{W:World}(h:Ev w0 sB aB so0 n0 cap0 at' W):Ev w0 sB aB so0 n0 cap0 at' W.drew:=⟨h.sbx,h.abx,h.be.drew⟩
theorem Ev.step{w0:World}{sB aB:Nat}{so0:Option Addr}{n0 cap0:Nat}{at' q:Int}{W W':World}(h:Ev w0 sB aB so0 n0 cap0 at' W)(hg:W.grownBy W' (some aB))(hb:w0.heap.size<=aB)(ha:W'.heap[aB]? =some (.cells #[.int .i64 q] 3)):Ev w0 sB aB so0 n0 cap0 q W':=
 ⟨(hg.block _ (Qz h.sbx) (fun e=>h.ne (Option.some.inj e))).trans h.sbx,ha,h.be.grown hg h.be.size (fun g e=>by have:=Option.some.inj e;omega)⟩
theorem z4i{K:ByteArray->Ot}:∀{s:List RT},(∀i (hi:i<s.length),flT K s[i]=none)->flL K s=none
 |[],_=>by rw[flL]
 |t::r,h=>by
  have h0:flT K t=none:=h 0 (by simp);rw[flL,h0];exact z4i fun i hi=>h (i+1) (by simpa using hi)
theorem z4j{K:ByteArray->Ot}{q:Int}:∀{s:List RT} (j:Nat) (hj:j<s.length),(∀i (hi:i<s.length),i<j->flT K s[i]=none)->flT K s[j]=some q->flL K s=some q
 |t::r,0,_,_,h=>by
  have h0:flT K t=some q:=h;rw[flL,h0]
 |t::r,j+1,hj,h,hq=>by
  have h0:flT K t=none:=h 0 (by simp) (by omega);rw[flL,h0];exact z4j j (by simpa using hj) (fun i hi hij=>h (i+1) (by simpa using hi) (by omega)) hq
theorem y2f{k:Int}{T:ByteArray}{a b c d p:Int}{s:List RT}(h:okT (.mk k T a b c d s p)=true)(hk:k=9∨k=10):s.length=1:=by
 rw[okT,Bool.and_eq_true]at h;have:=h.1;unfold okN at this;rw[if_neg (by omega),if_neg (by omega),if_neg (by omega),if_neg (by omega),if_neg (by omega),if_pos (by omega)]at this;simp only[Bool.and_eq_true]at this;have h2:=this.2.2;have h3:((Qp s:Nat):Int)=1:=by simpa using h2
 rw[<-Xd];omega
theorem y2g(w0:World)(sB aB:Nat)(so0:Option Addr)(n0 cap0:Nat)(rs:List Rr)(K:ByteArray->Ot)(B:Nat)(fp:Addr)(hB:B<=w0.heap.size)(hg:Qv w0 w0.heap.size so0 n0 (bG rs K))(hok:okG rs=true)(hck:ckR rs=none)(hz:RgZ rs)(hT:TabIs w0)(hF:w0.cell? ⟨1,0,none⟩=some (.iface 379 (.pointer (some fp))))(haB:w0.heap.size<=aB)
  (k:Int)(T:ByteArray)(a b c d:Int)(s:List RT)(p:Int)(so:Option Addr)(cap:Nat)(W:World)(at':Int)(hE:Ev w0 sB aB so0 n0 cap0 at' W)(ht:Qj w0 B (.mk k T a b c d s p) (r8 k T a b c d so (Qp s) cap p))(hf:Fit (nmL rs) (.mk k T a b c d s p)):
  Calls prog 135 #[.agg #[.int .i64 k,.string T,.int .u64 a,.int .u64 b,.int .u64 c,.int .u64 d,.slice so (Qp s) cap,.int .i64 p],.pointer (some ⟨sB,0,none⟩),.pointer (some ⟨aB,0,none⟩)] W (LkQ fp aB (if(k=9∨k=10)/\(ofH K s).1=true then some p else none) at' W):=by
 by_cases hk:k=9∨k=10
 ·have h1:=y2f hf.ok hk
  rw[Qj]at ht;obtain⟨so',cap',e,hso⟩:=ht;simp only[r8,List.cons.injEq,Value.slice.injEq,true_and,and_true]at e;obtain⟨rfl,rfl⟩:=e;obtain⟨g,o,rfl,hgl,k1,T1,a1,b1,c1,d1,so1,n1,cap1,p1,hc,ht1⟩:=Ml hB hso 0 (by omega);rw[Nat.zero_mul,Nat.add_zero]at hc;have hf1:=hf.sub 0 (by omega);have hsh:ofH K s=ofT K (s[0]'(by omega)):=by
   cases s with
   |nil=>simp at h1
   |cons t r=>rw[ofH];rfl
  have hcW:=hc.below hE.be hgl;have hHO:∀W':World,Below W.heap.size W W'->Calls prog 137 #[.agg #[.slice so0 n0 cap0],.agg #[.int .i64 k1,.string T1,.int .u64 a1,.int .u64 b1,.int .u64 c1,.int .u64 d1,.slice so1 n1 cap1,.int .i64 p1]] W' fun e w'=>e=.returned (ov (ofT K (s[0]'(by omega))))/\Below W'.heap.size W' w':=fun W' hW'=>by
   have hb:=hE.be.trans (hW'.mono hE.be.size);exact z4e so0 n0 cap0 rs K k1 T1 a1 b1 c1 d1 p1 so1 n1 cap1 _ w0.heap.size B W' (hg.below hb) hb.size hok hck hz (hT.below hb hT.lt) (ht1.below (hb.mono hB)) (Nat.le_trans hB hb.size) hf1
  have hsB:=(Qk hE.sbx).1;have hl:Qp s=1:=by rw[Xd];exact h1
  rw[hl];obtain⟨⟨q1,q2,q3⟩,hq⟩:∃q,q=ofT K (s[0]'(by omega)):=⟨_,rfl⟩;rw[<-hq]at hHO hsh;rw[hsh];cases q1 with
  |false=>
   rw[if_neg (by simp)];refine(y2d k T a b c d p g o cap sB aB W hk k1 T1 a1 b1 c1 d1 p1 so1 n1 cap1 so0 n0 cap0 q2 q3 hsB hcW (hid hHO)).mono fun e w' he=> ?_
   exact⟨G.below he.2,.inl ⟨rfl,he.1,(he.2.block _ (Qz hE.abx)).trans hE.abx⟩⟩
  |true=>
   rw[if_pos ⟨hk,rfl⟩];have hfl:=World.block_lt_of_cell? w0 _ hF;refine(y2e k T a b c d p g o cap sB aB W hk k1 T1 a1 b1 c1 d1 p1 so1 n1 cap1 so0 n0 cap0 q2 q3 fp _ hE.abx ((hE.be.cell (p:=⟨1,0,none⟩) hfl).trans hF) (fun e=>by have h9:1<w0.heap.size:=hfl;omega) hsB hcW (hid hHO)).mono fun e w' he=> ?_
   exact⟨he.2.1,.inr ⟨p,rfl,he.1,he.2.2⟩⟩
 ·rw[if_neg (fun h=>hk h.1)]
  refine(y2c k T a b c d p so (Qp s) cap sB aB W (fun e=>hk (.inl e)) (fun e=>hk (.inr e))).mono fun e w' he=> ?_
  exact⟨G.below he.2,.inl ⟨rfl,he.1,(he.2.block _ (Qz hE.abx)).trans hE.abx⟩⟩
theorem y2h(w0:World)(sB aB:Nat)(so0:Option Addr)(n0 cap0:Nat)(K:ByteArray->Ot)(fp:Addr)(haB:w0.heap.size<=aB)(k:Int)(T:ByteArray)(a b c d p:Int)(so:Option Addr)(n cap:Nat)(s:List RT)(r0:Option Int)(at':Int)(W:World)(hn:n<=9223372036854775807)(HN:Hid (n=s.length))(HE:Hid (Ev w0 sB aB so0 n0 cap0 at' W))
  (HV:Hid (∀W',Ev w0 sB aB so0 n0 cap0 at' W'->Calls prog 135 #[.agg #[.int .i64 k,.string T,.int .u64 a,.int .u64 b,.int .u64 c,.int .u64 d,.slice so n cap,.int .i64 p],.pointer (some ⟨sB,0,none⟩),.pointer (some ⟨aB,0,none⟩)] W' (LkQ fp aB r0 at' W')))
  (HC:Hid (∀j (hj:j<s.length),∃g o,so=some ⟨g,o,none⟩/\g<w0.heap.size/\∃k1 T1 a1 b1 c1 d1 so1 n1 cap1 p1,Rc w0 g (o+j*8) k1 T1 a1 b1 c1 d1 (.slice so1 n1 cap1) p1/\
    ∀W',Ev w0 sB aB so0 n0 cap0 at' W'->Calls prog 139 #[.agg #[.int .i64 k1,.string T1,.int .u64 a1,.int .u64 b1,.int .u64 c1,.int .u64 d1,.slice so1 n1 cap1,.int .i64 p1],.func (.func 135) #[] #[.pointer (some ⟨sB,0,none⟩),.pointer (some ⟨aB,0,none⟩)]] W' (LkQ fp aB (flT K s[j]) at' W'))):
  Calls prog 139 #[.agg #[.int .i64 k,.string T,.int .u64 a,.int .u64 b,.int .u64 c,.int .u64 d,.slice so n cap,.int .i64 p],.func (.func 135) #[] #[.pointer (some ⟨sB,0,none⟩),.pointer (some ⟨aB,0,none⟩)]] W (LkQ fp aB (match r0 with|some q=>some q|none=>flL K s) at' W):=by
 obtain⟨W1,hW1⟩:∃W1,W1=W.alloc (.cells #[.int .i64 k,.string T,.int .u64 a,.int .u64 b,.int .u64 c,.int .u64 d,.slice so n cap,.int .i64 p] 71):=⟨_,rfl⟩;have HE1:Hid (Ev w0 sB aB so0 n0 cap0 at' W1):=by rw[hW1];exact HE.out.alloc _
 have HG1:Hid (W.grownBy W1 (some aB)):=by rw[hW1];exact World.grownBy_alloc _ _ _
 obtain⟨nB,hnB⟩:∃nB,nB=W.heap.size:=⟨_,rfl⟩;have HN1:Hid (W1.heap[nB]? =some (.cells #[.int .i64 k,.string T,.int .u64 a,.int .u64 b,.int .u64 c,.int .u64 d,.slice so n cap,.int .i64 p] 71)):=by rw[hW1,hnB];exact Qx W _ rfl
 have hna:nB≠aB:=by have:=Qz HE.out.abx;omega
 have HS:=hid (HV.out W1 HE1.out);have HW1:=hid hW1;clear hW1 HV;go_enter func139,ntmps139
 go_wp2_with fail
 rw[<-HW1.out];clear HW1;refine HS.out.mono ?_;clear HS;rintro e w2 ⟨hg2,⟨rfl,rfl,ha2⟩|⟨q,rfl,rfl,ha2⟩⟩
 ·have HN2:=hid ((hg2.block _ (Qz HN1.out) (fun e=>hna (Option.some.inj e))).trans HN1.out)
  rw[<-hnB];obtain⟨⟨y0,y1,y2,y3,y4,y5,y6,y7⟩,_⟩:=Qw HN2.out;have ln:=Qz HN2.out;have HE2:=hid (HE1.out.step hg2 haB ha2);have HG2:=hid (G.trans HG1.out hg2);clear hg2 ha2 HE1 HG1 HN1 hnB
  go_wp2_with fail
  go_loopw [18] (fun i wr=>∃j:Nat,i=.int .i64 j/\j<=n/\Hid (Ev w0 sB aB so0 n0 cap0 at' wr)/\Hid (W.grownBy wr (some aB))/\Hid (∀i (hi:i<s.length),i<j->flT K s[i]=none)) (fun i _=>n-(intOf i).toNat)
  case atStart=>exact⟨0,rfl,Nat.zero_le _,HE2,HG2,fun i _ h=>absurd h (by omega)⟩
  case round=>
   obtain⟨j,rfl,hj,HEj,HGj,HOj⟩:=hrel;clear HE2 HG2 y0 y1 y2 y3 y4 y5 y6 y7 ln HN2;by_cases hjn:j<n
   ·have hjI:(j:Int)<(n:Int):=by omega
    have a0:decide ((j:Int)<(n:Int))=true:=by simp;omega
    have hjs:j<s.length:=by rw[<-HN.out];exact hjn
    obtain⟨g,o,rfl,hg,k1,T1,a1,b1,c1,d1,so1,n1,cap1,p1,hrc,hcall⟩:=HC.out j hjs;obtain⟨z0,z1,z2,z3,z4,z5,z6,z7⟩:=hrc.below HEj.out.be hg;have hgl:g<wr.heap.size:=World.block_lt_of_cell? wr _ z0;obtain⟨r1,hr1⟩:∃r1,r1=flT K s[j]:=⟨_,rfl⟩;have HS:=hid (hcall _ (HEj.out.alloc (.cells #[.int .i64 k1,.string T1,.int .u64 a1,.int .u64 b1,.int .u64 c1,.int .u64 d1,.slice so1 n1 cap1,.int .i64 p1] 71)));rw[<-hr1]at HS;have HR1:=hid hr1;have HGA:=hid (G.trans HGj.out (World.grownBy_alloc wr (.cells #[.int .i64 k1,.string T1,.int .u64 a1,.int .u64 b1,.int .u64 c1,.int .u64 d1,.slice so1 n1 cap1,.int .i64 p1] 71) (some aB)));have HEA:=hid (HEj.out.alloc (.cells #[.int .i64 k1,.string T1,.int .u64 a1,.int .u64 b1,.int .u64 c1,.int .u64 d1,.slice so1 n1 cap1,.int .i64 p1] 71));clear hcall hrc hr1
    go_wp2_with fail
    refine HS.out.mono ?_;clear HS;rintro e w3 ⟨hg3,⟨rfl,rfl,ha3⟩|⟨q,rfl,rfl,ha3⟩⟩
    ·have HE3:=hid (HEA.out.step hg3 haB ha3)
     have HG3:=hid (G.trans HGA.out hg3);clear hg3 ha3
     go_wp2_with fail
     refine⟨⟨j+1,by go_num,by omega,HE3,HG3,fun i hi hij=> ?_⟩,by simp[intOf];omega⟩;rcases Nat.lt_or_ge i j with h1|h1
     ·exact HOj.out i hi h1
     ·obtain rfl:i=j:=by omega
      exact HR1.out.symm
    ·have HG3:=hid (G.trans HGA.out hg3)
     have HA3:=hid ha3;clear hg3 ha3
     go_wp2_with fail
     go_ret;exact⟨HG3.out,.inr ⟨q,z4j j hjs HOj.out HR1.out.symm,rfl,HA3.out⟩⟩
   ·have a0:decide ((j:Int)<(n:Int))=false:=by simp;omega
    clear HC
    go_wp2_with fail
    go_ret;exact⟨HGj.out,.inl ⟨z4i fun i hi=>HOj.out i hi (by have:=HN.out;omega),rfl,HEj.out.abx⟩⟩
 ·have HG2:=hid (G.trans HG1.out hg2)
  have HA2:=hid ha2;clear hg2 ha2 HE1 HG1 HN1 hnB
  go_wp2_with fail
  go_ret;exact⟨HG2.out,.inr ⟨q,rfl,rfl,HA2.out⟩⟩
theorem y2i(K:ByteArray->Ot)(k:Int)(T:ByteArray)(a b c d:Int)(s:List RT)(p:Int):(match(if(k=9∨k=10)/\(ofH K s).1=true then some p else none:Option Int)with|some q=>some q|none=>flL K s)=flT K (.mk k T a b c d s p):=by
 rw[flT];by_cases h:(k=9∨k=10)/\(ofH K s).1=true
 ·rw[if_pos h,if_pos h]
 ·rw[if_neg h,if_neg h]
theorem z4k(w0:World)(sB aB:Nat)(so0:Option Addr)(n0 cap0:Nat)(rs:List Rr)(K:ByteArray->Ot)(B:Nat)(fp:Addr)(hB:B<=w0.heap.size)(hg:Qv w0 w0.heap.size so0 n0 (bG rs K))(hok:okG rs=true)(hck:ckR rs=none)(hz:RgZ rs)(hT:TabIs w0)(hF:w0.cell? ⟨1,0,none⟩=some (.iface 379 (.pointer (some fp))))(haB:w0.heap.size<=aB):
  ∀(N:Nat) (t:RT) (cs:List Value) (W:World) (at':Int),SizeOf.sizeOf t<N->Ev w0 sB aB so0 n0 cap0 at' W->Qj w0 B t cs->Fit (nmL rs) t->Calls prog 139 #[.agg cs.toArray,.func (.func 135) #[] #[.pointer (some ⟨sB,0,none⟩),.pointer (some ⟨aB,0,none⟩)]] W (LkQ fp aB (flT K t) at' W)
 |0,t,_,_,_,h,_,_,_=>by omega
 |N+1,.mk k T a b c d s p,cs,W,at',hN,hE,ht,hf=>by
  have ht0:=ht;rw[Qj]at ht;obtain⟨so,cap,rfl,hso⟩:=ht;have:=y2h w0 sB aB so0 n0 cap0 K fp haB k T a b c d p so (Qp s) cap s _ at' W (Eh hso) (Xd s) (hid hE) (hid fun W' hE'=>y2g w0 sB aB so0 n0 cap0 rs K B fp hB hg hok hck hz hT hF haB k T a b c d s p so cap W' at' hE' ht0 hf) (hid fun j hj=> ?_)
  ·rw[y2i]at this
   exact this
  ·obtain⟨g,o,h1,h2,k1,T1,a1,b1,c1,d1,so1,n1,cap1,p1,h3,h4⟩:=Ml hB hso j hj
   refine⟨g,o,h1,h2,k1,T1,a1,b1,c1,d1,so1,n1,cap1,p1,h3,fun W' hE'=> ?_⟩;have hsz:=List.sizeOf_lt_of_mem (List.getElem_mem hj);simp only[RT.mk.sizeOf_spec]at hN;exact z4k w0 sB aB so0 n0 cap0 rs K B fp hB hg hok hck hz hT hF haB N s[j] _ W' at' (by omega) hE' h4 (hf.sub j hj)
theorem z4l{W W':World}{rB aB:Nat}{v x0 x1 x2 x3 x4 x5 x6 x7:Value}(h:W.cell? ⟨1,0,none⟩=some v/\W.cell? ⟨rB,1,none⟩=some x0/\W.cell? ⟨rB,2,none⟩=some x1/\W.cell? ⟨rB,3,none⟩=some x2/\W.cell? ⟨rB,4,none⟩=some x3/\W.cell? ⟨rB,5,none⟩=some x4/\W.cell? ⟨rB,6,none⟩=some x5/\W.cell? ⟨rB,7,none⟩=some x6/\W.cell? ⟨rB,8,none⟩=some x7)(n0:1≠aB)(n1:rB≠aB)(hg:W.grownBy W' (some aB)):W'.cell? ⟨1,0,none⟩=some v/\W'.cell? ⟨rB,1,none⟩=some x0/\W'.cell? ⟨rB,2,none⟩=some x1/\W'.cell? ⟨rB,3,none⟩=some x2/\W'.cell? ⟨rB,4,none⟩=some x3/\W'.cell? ⟨rB,5,none⟩=some x4/\W'.cell? ⟨rB,6,none⟩=some x5/\W'.cell? ⟨rB,7,none⟩=some x6/\W'.cell? ⟨rB,8,none⟩=some x7:=by
 obtain⟨h0,h1,h2,h3,h4,h5,h6,h7,h8⟩:=h;have e:∀{a:Addr} {u:Value},a.block≠aB->W.cell? a=some u->W'.cell? a=some u:=fun{a u} hne h=>(hg.cell_far a (World.block_lt_of_cell? W _ h) (fun e=>hne (Option.some.inj e))).trans h
 exact⟨e n0 h0,e n1 h1,e n1 h2,e n1 h3,e n1 h4,e n1 h5,e n1 h6,e n1 h7,e n1 h8⟩
theorem z4m{K:ByteArray->Ot}:∀{rs:List Rr},(∀i (hi:i<rs.length),flT K rs[i].2.1=none)->flG K rs=none
 |[],_=>by rw[flG]
 |t::r,h=>by
  have h0:flT K t.2.1=none:=h 0 (by simp);rw[flG,h0];exact z4m fun i hi=>h (i+1) (by simpa using hi)
theorem z4n{K:ByteArray->Ot}{q:Int}:∀{rs:List Rr} (j:Nat) (hj:j<rs.length),(∀i (hi:i<rs.length),i<j->flT K rs[i].2.1=none)->flT K rs[j].2.1=some q->flG K rs=some q
 |t::r,0,_,_,h=>by
  have h0:flT K t.2.1=some q:=h;rw[flG,h0]
 |t::r,j+1,hj,h,hq=>by
  have h0:flT K t.2.1=none:=h 0 (by simp) (by omega);rw[flG,h0];exact z4n j (by simpa using hj) (fun i hi hij=>h (i+1) (by simpa using hi) (by omega)) hq
def flX(K:ByteArray->Ot)(rs:List Rr):Option (Int ⊕ (Int×Int)):=(flG K rs).map fun p=>.inr (40,p)
theorem y2j(so:Option Addr)(n cap:Nat)(so0:Option Addr)(n0 cap0:Nat)(rs:List Rr)(K:ByteArray->Ot)(fp:Addr)(w:World)(h:Qv w w.heap.size so n rs)(hn:n<=1048576)(hg:Qv w w.heap.size so0 n0 (bG rs K))(hok:okG rs=true)(hck:ckR rs=none)(hz:RgZ rs)(hP:PrG rs)(hT:TabIs w)(hF:w.cell? ⟨1,0,none⟩=some (.iface 379 (.pointer (some fp)))):
  Calls prog 101 #[.agg #[.slice so n cap],.agg #[.slice so0 n0 cap0]] w fun e w'=>∃v,e=.returned v/\Zv (flX K rs) w.heap.size w' v/\Below w.heap.size w w':=by
 obtain⟨W3,hW3⟩:∃W3,W3=((w.alloc (.cells #[.slice so n cap] 24)).alloc (.cells #[.slice so0 n0 cap0] 24)).alloc (.cells #[.int .i64 0] 3):=⟨_,rfl⟩;have HE3:Hid (Ev w (w.heap.size+1) (w.heap.size+1+1) so0 n0 cap0 0 W3):=by
  rw[hW3];exact⟨(Below.heap_alloc _ _ _ (by simp)).trans (Qx _ _ (by simp)),Qx _ _ (by simp),(((Below.refl _ w).alloc L0q _).alloc (by simp) _).alloc (by simp;omega) _⟩
 have hfl:1<w.heap.size:=World.block_lt_of_cell? w _ hF;have HNl:Hid (n=rs.length):=h.1;have HG:=hid h;have HWa:=hid (fun(t:RT) (cs:List Value) (W:World) (hE:Ev w (w.heap.size+1) (w.heap.size+1+1) so0 n0 cap0 0 W) (ht:Qj w w.heap.size t cs) (hf:Fit (nmL rs) t)=>z4k w (w.heap.size+1) (w.heap.size+1+1) so0 n0 cap0 rs K w.heap.size fp L0q hg hok hck hz hT hF (by omega) _ t cs W 0 (Nat.lt_succ_self _) hE ht hf);have HFt:=hid (fun(x:Rr) (hx:x∈rs)=>Tz hP hck hz hx);have HF:=hid hF;clear h hg hok hck hz hP hT hF;go_enter func101,ntmps101
 go_wp2_with fail
 rw[<-hW3];clear hW3;obtain⟨aB,haB⟩:∃aB,aB=w.heap.size+1+1:=⟨_,rfl⟩;obtain⟨sB,hsB⟩:∃sB,sB=w.heap.size+1:=⟨_,rfl⟩;rw[<-haB,<-hsB]at HE3 HWa ⊢;have hwa:w.heap.size<=aB:=by omega
 have hnf:1≠aB:=by omega
 clear haB hsB
 go_loopw [13] (fun i wr=>∃j:Nat,i=.int .i64 j/\j<=n/\Hid (Ev w sB aB so0 n0 cap0 0 wr)/\Hid (∀i (hi:i<rs.length),i<j->flT K rs[i].2.1=none)) (fun i _=>n-(intOf i).toNat)
 case atStart=>exact⟨0,rfl,Nat.zero_le _,HE3,fun i _ h=>absurd h (by omega)⟩
 case round=>
  obtain⟨j,rfl,hj,HEj,HOj⟩:=hrel;clear HE3;by_cases hjn:j<n
  ·have hjI:(j:Int)<(n:Int):=by omega
   have a0:decide ((j:Int)<(n:Int))=true:=by simp;omega
   have hjs:j<rs.length:=by rw[<-HNl.out];exact hjn
   obtain⟨g,o,rfl,hg,k1,T1,a1,b1,c1,d1,so1,n1,cap1,p1,hrt,r0⟩:=HG.out.2.2 j hjs;have hce:∀q,wr.cell? ⟨g,q,none⟩=w.cell? ⟨g,q,none⟩:=fun q=>HEj.out.be.cell (p:=⟨g,q,none⟩) hg
   simp only[<-hce]at r0;obtain⟨z0,z1,z2,z3,z4,z5,z6,z7,z8,z9⟩:=r0;have hgl:g<wr.heap.size:=World.block_lt_of_cell? wr _ z0;obtain⟨N0,hN0⟩:∃N0,N0=rs[j].1:=⟨_,rfl⟩;obtain⟨q1,hq1⟩:∃q1,q1=rs[j].2.2:=⟨_,rfl⟩;rw[<-hN0]at z0;rw[<-hq1]at z9;obtain⟨W4,hW4⟩:∃W4,W4=wr.alloc (.cells #[.string N0,.int .i64 k1,.string T1,.int .u64 a1,.int .u64 b1,.int .u64 c1,.int .u64 d1,.slice so1 n1 cap1,.int .i64 p1,.int .i64 q1] 73):=⟨_,rfl⟩;have HE4:Hid (Ev w sB aB so0 n0 cap0 0 W4.drew):=by rw[hW4];exact(HEj.out.alloc _).drew
   have hR4:W4.drew.heap[wr.heap.size]? =some (.cells #[.string N0,.int .i64 k1,.string T1,.int .u64 a1,.int .u64 b1,.int .u64 c1,.int .u64 d1,.slice so1 n1 cap1,.int .i64 p1,.int .i64 q1] 73):=by rw[hW4];exact Qx wr _ rfl
   obtain⟨rB,hrB⟩:∃rB,rB=wr.heap.size:=⟨_,rfl⟩;rw[<-hrB]at hR4;have hnr:rB≠aB:=by have:=Qz HEj.out.abx;omega
   have HS0:Hid (W4.drew.cell? ⟨1,0,none⟩=some (.iface 379 (.pointer (some fp)))/\W4.drew.cell? ⟨rB,1,none⟩=some (.int .i64 k1)/\W4.drew.cell? ⟨rB,2,none⟩=some (.string T1)/\W4.drew.cell? ⟨rB,3,none⟩=some (.int .u64 a1)/\W4.drew.cell? ⟨rB,4,none⟩=some (.int .u64 b1)/\W4.drew.cell? ⟨rB,5,none⟩=some (.int .u64 c1)/\W4.drew.cell? ⟨rB,6,none⟩=some (.int .u64 d1)/\W4.drew.cell? ⟨rB,7,none⟩=some (.slice so1 n1 cap1)/\W4.drew.cell? ⟨rB,8,none⟩=some (.int .i64 p1)):=⟨(HE4.out.be.cell (p:=⟨1,0,none⟩) hfl).trans HF.out,(Zc hR4 1 _ rfl).1,(Zc hR4 2 _ rfl).1,(Zc hR4 3 _ rfl).1,(Zc hR4 4 _ rfl).1,(Zc hR4 5 _ rfl).1,(Zc hR4 6 _ rfl).1,(Zc hR4 7 _ rfl).1,(Zc hR4 8 _ rfl).1⟩;have HW0:=hid (HWa.out rs[j].2.1 _ W4.drew HE4.out hrt (HFt.out _ (List.getElem_mem hjs)));dsimp only[r8]at HW0;obtain⟨r1,hr1⟩:∃r1,r1=flT K rs[j].2.1:=⟨_,rfl⟩;rw[<-hr1]at HW0;have HR1:=hid hr1;have lrB:rB<W4.drew.heap.size:=Qz hR4;clear hce hN0 hq1 hr1 hrt hR4;cases r1 with
   |none=>
    have HWk:Hid (Calls prog 139 #[.agg #[.int .i64 k1,.string T1,.int .u64 a1,.int .u64 b1,.int .u64 c1,.int .u64 d1,.slice so1 n1 cap1,.int .i64 p1],.func (.func 135) #[] #[.pointer (some ⟨sB,0,none⟩),.pointer (some ⟨aB,0,none⟩)]] W4.drew fun e w'=>W4.drew.grownBy w' (some aB)/\e=.returned .nilIface/\w'.heap[aB]? =some (.cells #[.int .i64 0] 3)):=HW0.out.mono fun e w' he=>by
     obtain⟨h1,⟨_,h2,h3⟩|⟨q,h2,_⟩⟩:=he
     ·exact⟨h1,h2,h3⟩
     ·cases h2
    clear HW0
    go_wp2_with fail
    rw[<-hW4,<-hrB];clear hW4 hrB z0 z1 z2 z3 z4 z5 z6 z7 z8 z9;refine Zl 99 (fun W:World=>W.cell? ⟨1,0,none⟩=some (.iface 379 (.pointer (some fp)))/\W.cell? ⟨rB,1,none⟩=some (.int .i64 k1)/\W.cell? ⟨rB,2,none⟩=some (.string T1)/\W.cell? ⟨rB,3,none⟩=some (.int .u64 a1)/\W.cell? ⟨rB,4,none⟩=some (.int .u64 b1)/\W.cell? ⟨rB,5,none⟩=some (.int .u64 c1)/\W.cell? ⟨rB,6,none⟩=some (.int .u64 d1)/\W.cell? ⟨rB,7,none⟩=some (.slice so1 n1 cap1)/\W.cell? ⟨rB,8,none⟩=some (.int .i64 p1)) (by kernel_rfl) HS0.out (fun hHeld=> ?_);refine Qq 0 hHeld ?_;refine Qq 1 hHeld ?_;refine Qq 2 hHeld ?_;refine Qq 4 hHeld ?_
    (refine Qd 3 (fun K hK=> ?_);go_simp;refine(HWk.out).mono ?_;rintro e w6 ⟨hg6,rfl,ha6⟩;go_simp;replace hHeld:=z4l hHeld hnf hnr hg6;refine hK.out _ _ hHeld ?_;clear hK K)
    (try simp only[Act.put,List.setIfInBounds_toArray,List.set_cons_zero,List.set_cons_succ])
    (refine Qd 5 (fun K hK=> ?_);go_simp;refine(y2b fp _).mono ?_;rintro e w7 ⟨rfl,rfl⟩;go_simp;refine hK.out _ _ hHeld ?_;clear hK K)
    (try simp only[Act.put,List.setIfInBounds_toArray,List.set_cons_zero,List.set_cons_succ])
    refine⟨by kernel_rfl,?_⟩;have HE6:=hid (HE4.out.step hg6 hwa ha6);clear hg6 ha6 hHeld
    go_wp2_with fail
    refine⟨⟨j+1,by go_num,by omega,HE6,fun i hi hij=> ?_⟩,by simp[intOf];omega⟩;rcases Nat.lt_or_ge i j with h1|h1
    ·exact HOj.out i hi h1
    ·obtain rfl:i=j:=by omega
     exact HR1.out.symm
   |some q=>
    have HWk:Hid (Calls prog 139 #[.agg #[.int .i64 k1,.string T1,.int .u64 a1,.int .u64 b1,.int .u64 c1,.int .u64 d1,.slice so1 n1 cap1,.int .i64 p1],.func (.func 135) #[] #[.pointer (some ⟨sB,0,none⟩),.pointer (some ⟨aB,0,none⟩)]] W4.drew fun e w'=>W4.drew.grownBy w' (some aB)/\e=.returned (.iface 379 (.pointer (some fp)))/\w'.heap[aB]? =some (.cells #[.int .i64 q] 3)):=HW0.out.mono fun e w' he=>by
     obtain⟨h1,⟨h2,_⟩|⟨q',h2,h3,h4⟩⟩:=he
     ·cases h2
     ·cases h2
      exact⟨h1,h3,h4⟩
    clear HW0
    go_wp2_with fail
    rw[<-hW4,<-hrB];clear hW4 hrB z0 z1 z2 z3 z4 z5 z6 z7 z8 z9;refine Zl 99 (fun W:World=>W.cell? ⟨1,0,none⟩=some (.iface 379 (.pointer (some fp)))/\W.cell? ⟨rB,1,none⟩=some (.int .i64 k1)/\W.cell? ⟨rB,2,none⟩=some (.string T1)/\W.cell? ⟨rB,3,none⟩=some (.int .u64 a1)/\W.cell? ⟨rB,4,none⟩=some (.int .u64 b1)/\W.cell? ⟨rB,5,none⟩=some (.int .u64 c1)/\W.cell? ⟨rB,6,none⟩=some (.int .u64 d1)/\W.cell? ⟨rB,7,none⟩=some (.slice so1 n1 cap1)/\W.cell? ⟨rB,8,none⟩=some (.int .i64 p1)) (by kernel_rfl) HS0.out (fun hHeld=> ?_);refine Qq 0 hHeld ?_;refine Qq 1 hHeld ?_;refine Qq 2 hHeld ?_;refine Qq 4 hHeld ?_
    (refine Qd 3 (fun K hK=> ?_);go_simp;refine(HWk.out).mono ?_;rintro e w6 ⟨hg6,rfl,ha6⟩;go_simp;replace hHeld:=z4l hHeld hnf hnr hg6;refine hK.out _ _ hHeld ?_;clear hK K)
    (try simp only[Act.put,List.setIfInBounds_toArray,List.set_cons_zero,List.set_cons_succ])
    (refine Qd 5 (fun K hK=> ?_);go_simp;refine(y2a fp _).mono ?_;rintro e w7 ⟨rfl,rfl⟩;go_simp;refine hK.out _ _ hHeld ?_;clear hK K)
    (try simp only[Act.put,List.setIfInBounds_toArray,List.set_cons_zero,List.set_cons_succ])
    refine⟨by kernel_rfl,?_⟩;have HB6:=hid (HE4.out.step hg6 hwa ha6).be;obtain⟨t0,t1⟩:=Qk ha6;have la:=Qz ha6;clear hg6 ha6 hHeld
    go_wp2_with fail
    go_ret;refine⟨_,rfl,?_,HB6.out.alloc HB6.out.size _⟩;have e:flX K rs=some (.inr (40,q)):=by unfold flX;rw[z4n j hjs HOj.out HR1.out.symm];rfl
    rw[e];exact⟨_,rfl,HB6.out.size,Qx _ _ rfl⟩
  ·have a0:decide ((j:Int)<(n:Int))=false:=by simp;omega
   clear HWa
   go_wp2_with fail
   go_ret;refine⟨_,rfl,?_,HEj.out.be⟩;have e:flX K rs=none:=by unfold flX;rw[z4m fun i hi=>HOj.out i hi (by have:=HNl.out;omega)];rfl
   rw[e];rfl
end Go.Proofs.YtlogolpcipiceaaGreatDoor
