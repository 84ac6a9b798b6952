/- Lemmas for the last text. Conditions: those that each names. -/
import Derived.Test.YtgmcjddjdidpjaaGreatDoorVRLToGI
import Derived.Test.YtgmcjddjdidpjaaGreatDoorVPR2ToT12
import Derived.Test.YtgmcjddjdidpjaaGreatDoorVU8
import Derived.Laws.EntriesVeiled
set_option linter.unusedVariables false
set_option maxRecDepth 100000
set_option maxHeartbeats 4000000
namespace Go.Proofs.YtgmcjddjdidpjaaGreatDoor
open Go.Proofs.Tryz
section
open Go.RowKit Go.Shelf
section
variable {rs:List Rr} {T:ByteArray} {mB:Nat} {L:Nat->Prop} {pv sv:Value} {M:Nat}
theorem Fit.lenG{l:List ByteArray}{k a b c d p:Int}{T:ByteArray}{s:List RT}(h:Fit l (.mk k T a b c d s p)):s.length<=8192:=by
 obtain⟨hok,hz,⟨nd,hq,hv,hw,hs,hd⟩,hr⟩:=h;obtain⟨kd,T',C,s',p'⟩:=nd;rw[Tq]at hq;obtain⟨_,_,_,_,_,_,hl⟩:=hq;rw[Vk]at hv;have hlen:s'.length=s.length:=hl.length';rw[<-hlen];rw[pN]at hs;rcases hv.1 with⟨rfl,_,_,rfl⟩|⟨rfl,_,rfl⟩|⟨rfl,_,rfl⟩|⟨rfl,_,_,rfl⟩|⟨rfl,_,rfl⟩|⟨h67,_,_,h2⟩|⟨h8,h12,_,_,h1⟩
 ·simp
 ·simp
 ·simp
 ·simp
 ·simp
 ·rcases h67 with rfl|rfl
  ·simp only[Nat.reduceEqDiff,if_false,if_true]at hs
   have:=Aw 6 bSp (by decide) s';omega
  ·simp only[Nat.reduceEqDiff,if_false,if_true]at hs
   have:=Aw 7 bSl (by decide) s';omega
 ·omega
theorem z5K{k a b c d p:Int}{T:ByteArray}{s:List RT}(h:okT (.mk k T a b c d s p)=true)(hk:k=6∨k=7):2<=s.length:=by
 rw[okT,Bool.and_eq_true]at h;have:=h.1;unfold okN at this;rw[if_neg (by omega),if_neg (by omega),if_neg (by omega),if_neg (by omega),if_pos hk]at this;simp only[Bool.and_eq_true,decide_eq_true_eq]at this;have:=this.2.2;rw[Zh]at this;omega
theorem Jq{w:World}{ix:ByteArray->Nat}{t:RT}{x:Value}(h:Mv w mB L ix t x):∃d1 d2,x=fq2 72 d1 d2:=by
 obtain⟨k,N,a,b,c,d,s,p⟩:=t;rw[Mv]at h;obtain⟨b1,b2,_,e,_⟩:=h;exact⟨b1,b2,e⟩
theorem z5L(hT:T.size<=4096)(hM:M<=1048576)(hF:∀x∈rs,Fit (nmL rs) x.2.1)(hrl:rs.length<=1048576):∀(f:Nat) (t:RT) (b1 b2:Nat) (w:World) (i k:Nat),Mv w mB L (fun N=>ixN N (nmL rs)) t (fq2 72 b1 b2)->Fit (nmL rs) t->Bd w mB L rs sv->Smn w mB T pv sv k M->k<=M->M-k<f->i<=T.size->
  Calls prog 72 #[.int .i64 i,.pointer (some ⟨b1,0,none⟩),.pointer (some ⟨b2,0,none⟩)] w (Po rs T mB pv sv M (.one t) i k w)
 |0,_,_,_,_,_,_,_,_,_,_,_,h,_=>by omega
 |f+1,.mk kd N a b c d s p,b1,b2,w,i,k,hv,hf,hB,hS,hk,hfu,hi=>by
  have ih:=z5L hT hM hF hrl f;rw[Mv]at hv;obtain⟨b1',b2',u,e,hm1,hm2,hu⟩:=hv;obtain⟨rfl,rfl⟩:b1=b1'/\b2=b2':=by simpa using e
  clear e;have hok:=hf.ok;rw[okT,Bool.and_eq_true]at hok;have hkd:=Oz hok.1;clear hok;rcases(by omega:kd=1∨kd=2∨kd=3∨kd=4∨kd=5∨kd=6∨kd=7∨kd=8∨kd=9∨kd=10∨kd=11∨kd=12)with hkd|hkd|hkd|hkd|hkd|hkd|hkd|hkd|hkd|hkd|hkd|hkd
  ·subst hkd
   rw[if_neg (by decide)]at hu;rw[if_neg (by decide)]at hu;rw[if_neg (by decide)]at hu;rw[if_neg (by decide)]at hu;rw[if_neg (by decide)]at hu;rw[if_neg (by decide)]at hu;rw[if_neg (by decide)]at hu;rw[if_neg (by decide)]at hu;rw[if_neg (by decide)]at hu;rw[if_neg (by decide)]at hu;rw[if_neg (by decide)]at hu;subst hu;refine Gk i k b1 b2 132 _ w hm1 hm2 hS hk hM (fun _ _=>by kernel_rfl) (hid fun W hg hs hk1=> ?_);exact y1L i k W hs hk1
  ·subst hkd
   rw[if_pos rfl]at hu;obtain⟨c1,c2,rfl,h1,h2⟩:=hu;refine Gk i k b1 b2 162 _ w hm1 hm2 hS hk hM (fun _ _=>by kernel_rfl) (hid fun W hg hs hk1=> ?_);rw[show(#[Value.int .i64 i]++#[Value.pointer (some ⟨c1,0,none⟩),Value.pointer (some ⟨c2,0,none⟩)]:Array Value)=#[.int .i64 i,.pointer (some ⟨c1,0,none⟩),.pointer (some ⟨c2,0,none⟩)] by simp];exact y1T i k c1 c2 W (h1.kept hg) (h2.kept hg) hs hk1 hi hT
  ·subst hkd
   rw[if_neg (by decide)]at hu;rw[if_pos rfl]at hu;obtain⟨c1,c2,rfl,h1,h2⟩:=hu;refine Gk i k b1 b2 163 _ w hm1 hm2 hS hk hM (fun _ _=>by kernel_rfl) (hid fun W hg hs hk1=> ?_);rw[show(#[Value.int .i64 i]++#[Value.pointer (some ⟨c1,0,none⟩),Value.pointer (some ⟨c2,0,none⟩)]:Array Value)=#[.int .i64 i,.pointer (some ⟨c1,0,none⟩),.pointer (some ⟨c2,0,none⟩)] by simp];exact z4y _ i k c1 c2 W .set (h1.kept hg) (h2.kept hg) hs hk1 hi hT
  ·subst hkd
   rw[if_neg (by decide)]at hu;rw[if_neg (by decide)]at hu;rw[if_pos rfl]at hu;obtain⟨c1,c2,rfl,h1,h2⟩:=hu;refine Gk i k b1 b2 163 _ w hm1 hm2 hS hk hM (fun _ _=>by kernel_rfl) (hid fun W hg hs hk1=> ?_);rw[show(#[Value.int .i64 i]++#[Value.pointer (some ⟨c1,0,none⟩),Value.pointer (some ⟨c2,0,none⟩)]:Array Value)=#[.int .i64 i,.pointer (some ⟨c1,0,none⟩),.pointer (some ⟨c2,0,none⟩)] by simp];exact z4y _ i k c1 c2 W .any (h1.kept hg) (h2.kept hg) hs hk1 hi hT
  ·subst hkd
   rw[if_neg (by decide)]at hu;rw[if_neg (by decide)]at hu;rw[if_neg (by decide)]at hu;rw[if_pos rfl]at hu;obtain⟨c1,c2,rfl,h1,h2⟩:=hu;have hin:inN N (nmL rs)=true:=by
    have:=hf.rf (N,p) (by rw[rfT,if_pos rfl];simp);exact this
   have hlt:=z0q N (nmL rs) hin;have hll:(nmL rs).length=rs.length:=List.length_map _;rw[hll]at hlt;obtain⟨so,cap,hsv,hbd⟩:=hB;obtain⟨g0,o0,x,hso,hg0,hc,hvx⟩:=Gj hbd (ixN N (nmL rs)) (by simpa using hlt);subst hso;rw[Nat.zero_add]at hc;obtain⟨d1,d2,rfl⟩:=Jq hvx;have hget:(rs.map (fun x=>x.2.1))[ixN N (nmL rs)]'(by simpa using hlt)=rs[ixN N (nmL rs)].2.1:=by simp
   rw[hget]at hvx;have hbR:bdR rs N=some rs[ixN N (nmL rs)].2.1:=by
    unfold bdR;rw[List.getElem?_eq_getElem hlt];rfl
   refine Gk i k b1 b2 164 _ w hm1 hm2 hS hk hM (fun _ _=>by kernel_rfl) (hid fun W hg hs hk1=> ?_);rw[show(#[Value.int .i64 i]++#[Value.pointer (some ⟨c1,0,none⟩),Value.pointer (some ⟨c2,0,none⟩)]:Array Value)=#[.int .i64 i,.pointer (some ⟨c1,0,none⟩),.pointer (some ⟨c2,0,none⟩)] by simp];refine y2a i k (ixN N (nmL rs)) g0 o0 rs.length cap c1 c2 d1 d2 W (h1.kept hg) (h2.kept hg) hsv hg0 hlt hrl (hg.cell hc (fun e=>hg0 (Option.some.inj e))) hs (hid ?_);have hgd:w.grownBy W.drew (some mB):=G.to hg (Below.refl _ W).drew;refine(ih _ d1 d2 W.drew i (k+1) (Uk hgd _ _ hvx) (hF _ (List.getElem_mem hlt)) (Bd.kept ⟨_,cap,hsv,hbd⟩ hgd) hs hk1 (by omega) hi).mono fun e w' he=> ?_
   rcases he with⟨q1,⟨x,m,q2,q3,q4,q5⟩|⟨q2,q4,q5⟩⟩
   ·obtain⟨c0,hc0,ec0⟩:=(Ri.ref (k:=k) hbR).done q2
    rw[q4];exact Po.ok q1 hc0 ec0.symm q3 q5
   ·rw[q4]
    exact Po.no q1 (y1K hbR q2) q5
  ·subst hkd
   rw[if_neg (by decide)]at hu;rw[if_neg (by decide)]at hu;rw[if_neg (by decide)]at hu;rw[if_neg (by decide)]at hu;rw[if_pos rfl]at hu;obtain⟨c1,so,cap,rfl,h1,h2⟩:=hu;have hl2:=z5K hf.ok (by decide);have hle:=hf.lenG;obtain⟨g0,o0,_,hso,hg0,_⟩:=Gj h2 0 (by omega);subst hso;refine Gk i k b1 b2 165 _ w hm1 hm2 hS hk hM (fun _ _=>by kernel_rfl) (hid fun W hg hs hk1=> ?_);rw[show(#[Value.int .i64 i]++#[Value.pointer (some ⟨c1,0,none⟩)]:Array Value)=#[.int .i64 i,.pointer (some ⟨c1,0,none⟩)] by simp];refine y2b i k g0 o0 (Qw s) cap c1 W (h1.kept hg).2 (Zh s) (by rw[Zh];omega) hg0 hi hs hk1 (hid fun j hj=> ?_);obtain⟨g',o',x,e,_,hc,hv⟩:=Gj (Ny hg _ _ h2) j hj;cases e;rw[Nat.zero_add]at hc;obtain⟨d1,d2,rfl⟩:=Jq hv;exact⟨d1,d2,hc,fun W' i' k' hg' hs' hk2 hk3 hi'=>ih s[j] d1 d2 W' i' k' (Uk hg' _ _ hv) (hf.sub j hj) (hB.kept (G.trans hg hg')) hs' hk3 (by omega) hi'⟩
  ·subst hkd
   rw[if_neg (by decide)]at hu;rw[if_neg (by decide)]at hu;rw[if_neg (by decide)]at hu;rw[if_neg (by decide)]at hu;rw[if_neg (by decide)]at hu;rw[if_pos rfl]at hu;obtain⟨c1,so,cap,rfl,h1,h2⟩:=hu;have hl2:=z5K hf.ok (by decide);have hle:=hf.lenG;obtain⟨g0,o0,_,hso,hg0,_⟩:=Gj h2 0 (by omega);subst hso;refine Gk i k b1 b2 166 _ w hm1 hm2 hS hk hM (fun _ _=>by kernel_rfl) (hid fun W hg hs hk1=> ?_);rw[show(#[Value.int .i64 i]++#[Value.pointer (some ⟨c1,0,none⟩)]:Array Value)=#[.int .i64 i,.pointer (some ⟨c1,0,none⟩)] by simp];refine y2c i k g0 o0 (Qw s) cap c1 W (h1.kept hg).2 (Zh s) (by rw[Zh];omega) hg0 hi hs hk1 (hid fun j hj=> ?_);obtain⟨g',o',x,e,_,hc,hv⟩:=Gj (Ny hg _ _ h2) j hj;cases e;rw[Nat.zero_add]at hc;obtain⟨d1,d2,rfl⟩:=Jq hv;exact⟨d1,d2,hc,fun W' i' k' hg' hs' hk2 hk3 hi'=>ih s[j] d1 d2 W' i' k' (Uk hg' _ _ hv) (hf.sub j hj) (hB.kept (G.trans hg hg')) hs' hk3 (by omega) hi'⟩
  ·subst hkd
   rw[if_neg (by decide)]at hu;rw[if_neg (by decide)]at hu;rw[if_neg (by decide)]at hu;rw[if_neg (by decide)]at hu;rw[if_neg (by decide)]at hu;rw[if_neg (by decide)]at hu;rw[if_pos rfl]at hu;obtain⟨c1,x,rfl,h1,h2⟩:=hu;obtain⟨t0,r,rfl⟩:∃t0 r,s=t0::r:=by cases s with|nil=>rw[MvH]at h2;exact h2.elim|cons t0 r=>exact⟨t0,r,rfl⟩
   rw[MvH]at h2;obtain⟨d1,d2,rfl⟩:=Jq h2;have hf0:=hf.sub 0 (by simp);refine Gk i k b1 b2 167 _ w hm1 hm2 hS hk hM (fun _ _=>by kernel_rfl) (hid fun W hg hs hk1=> ?_);rw[show(#[Value.int .i64 i]++#[Value.pointer (some ⟨c1,0,none⟩)]:Array Value)=#[.int .i64 i,.pointer (some ⟨c1,0,none⟩)] by simp];exact y1M i k c1 d1 d2 W (h1.kept hg).2 (hid (ih t0 d1 d2 W i (k+1) (Uk hg _ _ h2) hf0 (hB.kept hg) hs hk1 (by omega) hi))
  ·subst hkd
   rw[if_neg (by decide)]at hu;rw[if_neg (by decide)]at hu;rw[if_neg (by decide)]at hu;rw[if_neg (by decide)]at hu;rw[if_neg (by decide)]at hu;rw[if_neg (by decide)]at hu;rw[if_neg (by decide)]at hu;rw[if_pos rfl]at hu;obtain⟨c1,x,rfl,h1,h2⟩:=hu;obtain⟨t0,r,rfl⟩:∃t0 r,s=t0::r:=by cases s with|nil=>rw[MvH]at h2;exact h2.elim|cons t0 r=>exact⟨t0,r,rfl⟩
   rw[MvH]at h2;obtain⟨d1,d2,rfl⟩:=Jq h2;have hf0:=hf.sub 0 (by simp);refine Gk i k b1 b2 168 _ w hm1 hm2 hS hk hM (fun _ _=>by kernel_rfl) (hid fun W hg hs hk1=> ?_);rw[show(#[Value.int .i64 i]++#[Value.pointer (some ⟨c1,0,none⟩)]:Array Value)=#[.int .i64 i,.pointer (some ⟨c1,0,none⟩)] by simp];exact z4z i k i (k+1) c1 d1 d2 W (h1.kept hg).2 h1.1 hi hs hk1 Ri.star (hid fun W' i' k' hg' hs' hk2 hk3 hi'=>ih t0 d1 d2 W' i' k' (Uk (G.trans hg hg') _ _ h2) hf0 (hB.kept (G.trans hg hg')) hs' hk3 (by omega) hi')
  ·subst hkd
   rw[if_neg (by decide)]at hu;rw[if_neg (by decide)]at hu;rw[if_neg (by decide)]at hu;rw[if_neg (by decide)]at hu;rw[if_neg (by decide)]at hu;rw[if_neg (by decide)]at hu;rw[if_neg (by decide)]at hu;rw[if_neg (by decide)]at hu;rw[if_pos rfl]at hu;obtain⟨c1,c2,c3,x,rfl,h1,h2,h3,h4⟩:=hu;obtain⟨t0,r,rfl⟩:∃t0 r,s=t0::r:=by cases s with|nil=>rw[MvH]at h4;exact h4.elim|cons t0 r=>exact⟨t0,r,rfl⟩
   rw[MvH]at h4;obtain⟨d1,d2,rfl⟩:=Jq h4;have hf0:=hf.sub 0 (by simp);refine Gk i k b1 b2 169 _ w hm1 hm2 hS hk hM (fun _ _=>by kernel_rfl) (hid fun W hg hs hk1=> ?_);rw[show(#[Value.int .i64 i]++#[Value.pointer (some ⟨c1,0,none⟩),Value.pointer (some ⟨c2,0,none⟩)]:Array Value)=#[.int .i64 i,.pointer (some ⟨c1,0,none⟩),.pointer (some ⟨c2,0,none⟩)] by simp];refine y2d i k c1 c2 c3 d1 d2 W (h1.kept hg).2 (h2.kept hg).2 h2.1 (hid (ih t0 d1 d2 W i (k+1) (Uk hg _ _ h4) hf0 (hB.kept hg) hs hk1 (by omega) hi)) (hid fun W' y n hg' hs' hk' hm=> ?_);exact z4z i k y (k+1+n) c3 d1 d2 W' (h3.kept (G.trans hg hg')).2 h3.1 (Cp hm hi y rfl).2 hs' hk' (Ri.plus hm) (hid fun W2 i2 k2 hg2 hs2 hk2 hk3 hi2=>ih t0 d1 d2 W2 i2 k2 (Uk (G.trans (G.trans hg hg') hg2) _ _ h4) hf0 (hB.kept (G.trans (G.trans hg hg') hg2)) hs2 hk3 (by omega) hi2)
  ·subst hkd
   rw[if_neg (by decide)]at hu;rw[if_neg (by decide)]at hu;rw[if_neg (by decide)]at hu;rw[if_neg (by decide)]at hu;rw[if_neg (by decide)]at hu;rw[if_neg (by decide)]at hu;rw[if_neg (by decide)]at hu;rw[if_neg (by decide)]at hu;rw[if_neg (by decide)]at hu;rw[if_pos rfl]at hu;obtain⟨c1,x,rfl,h1,h2⟩:=hu;obtain⟨t0,r,rfl⟩:∃t0 r,s=t0::r:=by cases s with|nil=>rw[MvH]at h2;exact h2.elim|cons t0 r=>exact⟨t0,r,rfl⟩
   rw[MvH]at h2;obtain⟨d1,d2,rfl⟩:=Jq h2;have hf0:=hf.sub 0 (by simp);refine Gk i k b1 b2 170 _ w hm1 hm2 hS hk hM (fun _ _=>by kernel_rfl) (hid fun W hg hs hk1=> ?_);rw[show(#[Value.int .i64 i]++#[Value.pointer (some ⟨c1,0,none⟩)]:Array Value)=#[.int .i64 i,.pointer (some ⟨c1,0,none⟩)] by simp];exact y1N i k c1 d1 d2 W (h1.kept hg).2 (hid (ih t0 d1 d2 W i (k+1) (Uk hg _ _ h2) hf0 (hB.kept hg) hs hk1 (by omega) hi))
  ·subst hkd
   rw[if_neg (by decide)]at hu;rw[if_neg (by decide)]at hu;rw[if_neg (by decide)]at hu;rw[if_neg (by decide)]at hu;rw[if_neg (by decide)]at hu;rw[if_neg (by decide)]at hu;rw[if_neg (by decide)]at hu;rw[if_neg (by decide)]at hu;rw[if_neg (by decide)]at hu;rw[if_neg (by decide)]at hu;rw[if_pos rfl]at hu;obtain⟨c1,x,rfl,h1,h2⟩:=hu;obtain⟨t0,r,rfl⟩:∃t0 r,s=t0::r:=by cases s with|nil=>rw[MvH]at h2;exact h2.elim|cons t0 r=>exact⟨t0,r,rfl⟩
   rw[MvH]at h2;obtain⟨d1,d2,rfl⟩:=Jq h2;have hf0:=hf.sub 0 (by simp);refine Gk i k b1 b2 171 _ w hm1 hm2 hS hk hM (fun _ _=>by kernel_rfl) (hid fun W hg hs hk1=> ?_);rw[show(#[Value.int .i64 i]++#[Value.pointer (some ⟨c1,0,none⟩)]:Array Value)=#[.int .i64 i,.pointer (some ⟨c1,0,none⟩)] by simp];exact y1O i k c1 d1 d2 W (h1.kept hg).2 (hid (ih t0 d1 d2 W i (k+1) (Uk hg _ _ h2) hf0 (hB.kept hg) hs hk1 (by omega) hi))
end
end
section
open Go.RowKit Go.Shelf Go.Maps
section
variable {mB:Nat} {L:Nat->Prop}
theorem y3X(N:ByteArray)(W:World):
  Calls prog 120 #[.pointer (some ⟨mB,0,none⟩),.string N] W fun e w'=>e=.returned (fq2 162 W.heap.size (W.heap.size+1))/\w'=(W.alloc (.cells #[.pointer (some ⟨mB,0,none⟩)] 69)).alloc (.cells #[.string N] 9):=by
 have hmf:∀(fn:Fn) (first cap:Array Value) (w:World),(Instr.makeFunc fn first cap).run prog w=.ok (.func fn first cap) w:=fun _ _ _ _=>rfl
 go_enter func120,ntmps120
 go_wp2_with fail
 go_ret;exact⟨rfl,rfl⟩
theorem y3Y(j:Nat)(W:World):
  Calls prog 123 #[.pointer (some ⟨mB,0,none⟩),.int .i64 j] W fun e w'=>e=.returned (fq2 164 W.heap.size (W.heap.size+1))/\w'=(W.alloc (.cells #[.pointer (some ⟨mB,0,none⟩)] 69)).alloc (.cells #[.int .i64 j] 3):=by
 have hmf:∀(fn:Fn) (first cap:Array Value) (w:World),(Instr.makeFunc fn first cap).run prog w=.ok (.func fn first cap) w:=fun _ _ _ _=>rfl
 go_enter func123,ntmps123
 go_wp2_with fail
 go_ret;exact⟨rfl,rfl⟩
theorem y3Z(a b c d:Int)(W:World):
  Calls prog 121 #[.pointer (some ⟨mB,0,none⟩),.agg #[.int .u64 a,.int .u64 b,.int .u64 c,.int .u64 d]] W fun e w'=>e=.returned (fq2 163 W.heap.size (W.heap.size+1))/\w'=(W.alloc (.cells #[.pointer (some ⟨mB,0,none⟩)] 69)).alloc (.cells #[.int .u64 a,.int .u64 b,.int .u64 c,.int .u64 d] 51):=by
 have hmf:∀(fn:Fn) (first cap:Array Value) (w:World),(Instr.makeFunc fn first cap).run prog w=.ok (.func fn first cap) w:=fun _ _ _ _=>rfl
 go_enter func121,ntmps121
 go_wp2_with fail
 go_ret;exact⟨rfl,rfl⟩
theorem y4a(so:Option Addr)(n cap:Nat)(W:World):
  Calls prog 124 #[.slice so n cap] W fun e w'=>e=.returned (fq1 165 W.heap.size)/\w'=W.alloc (.cells #[.slice so n cap] 103):=by
 have hmf:∀(fn:Fn) (first cap:Array Value) (w:World),(Instr.makeFunc fn first cap).run prog w=.ok (.func fn first cap) w:=fun _ _ _ _=>rfl
 go_enter func124,ntmps124
 go_wp2_with fail
 go_ret;exact⟨rfl,rfl⟩
theorem y4b(so:Option Addr)(n cap:Nat)(W:World):
  Calls prog 126 #[.slice so n cap] W fun e w'=>e=.returned (fq1 166 W.heap.size)/\w'=W.alloc (.cells #[.slice so n cap] 103):=by
 have hmf:∀(fn:Fn) (first cap:Array Value) (w:World),(Instr.makeFunc fn first cap).run prog w=.ok (.func fn first cap) w:=fun _ _ _ _=>rfl
 go_enter func126,ntmps126
 go_wp2_with fail
 go_ret;exact⟨rfl,rfl⟩
theorem y4c(d1 d2:Nat)(W:World):
  Calls prog 127 #[fq2 72 d1 d2] W fun e w'=>e=.returned (fq1 167 W.heap.size)/\w'=W.alloc (.cells #[fq2 72 d1 d2] 107):=by
 have hmf:∀(fn:Fn) (first cap:Array Value) (w:World),(Instr.makeFunc fn first cap).run prog w=.ok (.func fn first cap) w:=fun _ _ _ _=>rfl
 go_enter func127,ntmps127
 go_wp2_with fail
 go_ret;exact⟨rfl,rfl⟩
theorem z5M(d1 d2:Nat)(W:World):
  Calls prog 128 #[fq2 72 d1 d2] W fun e w'=>e=.returned (fq1 168 W.heap.size)/\w'=W.alloc (.cells #[fq2 72 d1 d2] 107):=by
 have hmf:∀(fn:Fn) (first cap:Array Value) (w:World),(Instr.makeFunc fn first cap).run prog w=.ok (.func fn first cap) w:=fun _ _ _ _=>rfl
 go_enter func128,ntmps128
 go_wp2_with fail
 go_ret;exact⟨rfl,rfl⟩
theorem y4d(d1 d2:Nat)(W:World):
  Calls prog 130 #[fq2 72 d1 d2] W fun e w'=>e=.returned (fq1 170 W.heap.size)/\w'=W.alloc (.cells #[fq2 72 d1 d2] 107):=by
 have hmf:∀(fn:Fn) (first cap:Array Value) (w:World),(Instr.makeFunc fn first cap).run prog w=.ok (.func fn first cap) w:=fun _ _ _ _=>rfl
 go_enter func130,ntmps130
 go_wp2_with fail
 go_ret;exact⟨rfl,rfl⟩
theorem y4e(d1 d2:Nat)(W:World):
  Calls prog 131 #[fq2 72 d1 d2] W fun e w'=>e=.returned (fq1 171 W.heap.size)/\w'=W.alloc (.cells #[fq2 72 d1 d2] 107):=by
 have hmf:∀(fn:Fn) (first cap:Array Value) (w:World),(Instr.makeFunc fn first cap).run prog w=.ok (.func fn first cap) w:=fun _ _ _ _=>rfl
 go_enter func131,ntmps131
 go_wp2_with fail
 go_ret;exact⟨rfl,rfl⟩
theorem y4f(d1 d2:Nat)(W:World):
  Calls prog 129 #[fq2 72 d1 d2] W fun e w'=>e=.returned (fq2 169 W.heap.size (W.heap.size+1+1))/\w'=((W.alloc (.cells #[fq2 72 d1 d2] 107)).alloc (.cells #[fq2 72 d1 d2] 107)).alloc (.cells #[fq1 168 (W.heap.size+1)] 107):=by
 have hmf:∀(fn:Fn) (first cap:Array Value) (w:World),(Instr.makeFunc fn first cap).run prog w=.ok (.func fn first cap) w:=fun _ _ _ _=>rfl
 have HM:=hid (z5M d1 d2);dsimp only[fq1,fq2]at HM ⊢;go_enter func129,ntmps129
 go_wp2_with fail
 refine(HM.out _).mono ?_;rintro e w1 ⟨rfl,rfl⟩
 go_wp2_with fail
 go_ret;exact⟨by simp,by simp⟩
theorem Jg{w:World}{xs:Array Value}{t:TypeId}(h:mB<w.heap.size)(hL:∀b,w.heap.size<=b->L b):Hb (w.alloc (.cells xs t)) mB L w.heap.size xs t:=⟨fun e=>by omega,Qq w _ rfl,hL _ L0q⟩
theorem Eh{w:World}{xs:Array Value}{t:TypeId}{b:Nat}(h:mB<w.heap.size)(hL:∀b,w.heap.size<=b->L b)(hb:b=w.heap.size):Hb (w.alloc (.cells xs t)) mB L b xs t:=by subst hb;exact Jg h hL
theorem Ng{w:World}{b:Nat}{xs:Array Value}{t:TypeId}(o:Obj)(h:Hb w mB L b xs t):Hb (w.alloc o) mB L b xs t:=h.kept (G.alloc (G.refl _ _))
theorem be2(W:World)(o1 o2:Obj):Below W.heap.size W ((W.alloc o1).alloc o2):=((Below.refl _ W).alloc L0q _).alloc (by simp) _
theorem y4g(N:ByteArray){W:World}(h:mB<W.heap.size)(hL:∀b,W.heap.size<=b->L b):Calls prog 120 #[.pointer (some ⟨mB,0,none⟩),.string N] W fun e w'=>∃c1 c2,e=.returned (.func (.func 162) #[] #[.pointer (some ⟨c1,0,none⟩),.pointer (some ⟨c2,0,none⟩)])/\Hid (Hm w' mB L c1/\Hb w' mB L c2 #[.string N] 9/\Below W.heap.size W w'):=
 (y3X N W).mono fun e w' ⟨h1,h2⟩=>⟨_,_,h1,by rw[h2];exact⟨Ng _ (Jg h hL),Eh (by simp;omega) (fun b hb=>hL b (by simp at hb;omega)) (by simp),be2 _ _ _⟩⟩
theorem y4h(j:Nat){W:World}(h:mB<W.heap.size)(hL:∀b,W.heap.size<=b->L b):Calls prog 123 #[.pointer (some ⟨mB,0,none⟩),.int .i64 j] W fun e w'=>∃c1 c2,e=.returned (.func (.func 164) #[] #[.pointer (some ⟨c1,0,none⟩),.pointer (some ⟨c2,0,none⟩)])/\Hid (Hm w' mB L c1/\Hb w' mB L c2 #[.int .i64 j] 3/\Below W.heap.size W w'):=
 (y3Y j W).mono fun e w' ⟨h1,h2⟩=>⟨_,_,h1,by rw[h2];exact⟨Ng _ (Jg h hL),Eh (by simp;omega) (fun b hb=>hL b (by simp at hb;omega)) (by simp),be2 _ _ _⟩⟩
theorem z5N(a b c d:Int){W:World}(h:mB<W.heap.size)(hL:∀b,W.heap.size<=b->L b):Calls prog 121 #[.pointer (some ⟨mB,0,none⟩),.agg #[.int .u64 a,.int .u64 b,.int .u64 c,.int .u64 d]] W fun e w'=>∃c1 c2,e=.returned (.func (.func 163) #[] #[.pointer (some ⟨c1,0,none⟩),.pointer (some ⟨c2,0,none⟩)])/\Hid (Hm w' mB L c1/\Hb w' mB L c2 #[.int .u64 a,.int .u64 b,.int .u64 c,.int .u64 d] 51/\Below W.heap.size W w'):=
 (y3Z a b c d W).mono fun e w' ⟨h1,h2⟩=>⟨_,_,h1,by rw[h2];exact⟨Ng _ (Jg h hL),Eh (by simp;omega) (fun b hb=>hL b (by simp at hb;omega)) (by simp),be2 _ _ _⟩⟩
theorem y4i(so:Option Addr)(n cap:Nat){W:World}(h:mB<W.heap.size)(hL:∀b,W.heap.size<=b->L b):Calls prog 124 #[.slice so n cap] W fun e w'=>∃c1,e=.returned (.func (.func 165) #[] #[.pointer (some ⟨c1,0,none⟩)])/\Hid (Hb w' mB L c1 #[.slice so n cap] 103/\Below W.heap.size W w'):=
 (y4a so n cap W).mono fun e w' ⟨h1,h2⟩=>⟨_,h1,by rw[h2];exact⟨Jg h hL,(Below.refl _ W).alloc L0q _⟩⟩
theorem y4j(so:Option Addr)(n cap:Nat){W:World}(h:mB<W.heap.size)(hL:∀b,W.heap.size<=b->L b):Calls prog 126 #[.slice so n cap] W fun e w'=>∃c1,e=.returned (.func (.func 166) #[] #[.pointer (some ⟨c1,0,none⟩)])/\Hid (Hb w' mB L c1 #[.slice so n cap] 103/\Below W.heap.size W w'):=
 (y4b so n cap W).mono fun e w' ⟨h1,h2⟩=>⟨_,h1,by rw[h2];exact⟨Jg h hL,(Below.refl _ W).alloc L0q _⟩⟩
theorem y4k(d1 d2:Nat){W:World}(h:mB<W.heap.size)(hL:∀b,W.heap.size<=b->L b):Calls prog 127 #[.func (.func 72) #[] #[.pointer (some ⟨d1,0,none⟩),.pointer (some ⟨d2,0,none⟩)]] W fun e w'=>∃c1,e=.returned (.func (.func 167) #[] #[.pointer (some ⟨c1,0,none⟩)])/\Hid (Hb w' mB L c1 #[.func (.func 72) #[] #[.pointer (some ⟨d1,0,none⟩),.pointer (some ⟨d2,0,none⟩)]] 107/\Below W.heap.size W w'):=
 (y4c d1 d2 W).mono fun e w' ⟨h1,h2⟩=>⟨_,h1,by rw[h2];exact⟨Jg h hL,(Below.refl _ W).alloc L0q _⟩⟩
theorem y4l(d1 d2:Nat){W:World}(h:mB<W.heap.size)(hL:∀b,W.heap.size<=b->L b):Calls prog 128 #[.func (.func 72) #[] #[.pointer (some ⟨d1,0,none⟩),.pointer (some ⟨d2,0,none⟩)]] W fun e w'=>∃c1,e=.returned (.func (.func 168) #[] #[.pointer (some ⟨c1,0,none⟩)])/\Hid (Hb w' mB L c1 #[.func (.func 72) #[] #[.pointer (some ⟨d1,0,none⟩),.pointer (some ⟨d2,0,none⟩)]] 107/\Below W.heap.size W w'):=
 (z5M d1 d2 W).mono fun e w' ⟨h1,h2⟩=>⟨_,h1,by rw[h2];exact⟨Jg h hL,(Below.refl _ W).alloc L0q _⟩⟩
theorem y4m(d1 d2:Nat){W:World}(h:mB<W.heap.size)(hL:∀b,W.heap.size<=b->L b):Calls prog 130 #[.func (.func 72) #[] #[.pointer (some ⟨d1,0,none⟩),.pointer (some ⟨d2,0,none⟩)]] W fun e w'=>∃c1,e=.returned (.func (.func 170) #[] #[.pointer (some ⟨c1,0,none⟩)])/\Hid (Hb w' mB L c1 #[.func (.func 72) #[] #[.pointer (some ⟨d1,0,none⟩),.pointer (some ⟨d2,0,none⟩)]] 107/\Below W.heap.size W w'):=
 (y4d d1 d2 W).mono fun e w' ⟨h1,h2⟩=>⟨_,h1,by rw[h2];exact⟨Jg h hL,(Below.refl _ W).alloc L0q _⟩⟩
theorem y4n(d1 d2:Nat){W:World}(h:mB<W.heap.size)(hL:∀b,W.heap.size<=b->L b):Calls prog 131 #[.func (.func 72) #[] #[.pointer (some ⟨d1,0,none⟩),.pointer (some ⟨d2,0,none⟩)]] W fun e w'=>∃c1,e=.returned (.func (.func 171) #[] #[.pointer (some ⟨c1,0,none⟩)])/\Hid (Hb w' mB L c1 #[.func (.func 72) #[] #[.pointer (some ⟨d1,0,none⟩),.pointer (some ⟨d2,0,none⟩)]] 107/\Below W.heap.size W w'):=
 (y4e d1 d2 W).mono fun e w' ⟨h1,h2⟩=>⟨_,h1,by rw[h2];exact⟨Jg h hL,(Below.refl _ W).alloc L0q _⟩⟩
theorem y4o(d1 d2:Nat){W:World}(h:mB<W.heap.size)(hL:∀b,W.heap.size<=b->L b):Calls prog 129 #[.func (.func 72) #[] #[.pointer (some ⟨d1,0,none⟩),.pointer (some ⟨d2,0,none⟩)]] W fun e w'=>∃c1 c2 c3,e=.returned (.func (.func 169) #[] #[.pointer (some ⟨c1,0,none⟩),.pointer (some ⟨c2,0,none⟩)])/\Hid (Hb w' mB L c1 #[.func (.func 72) #[] #[.pointer (some ⟨d1,0,none⟩),.pointer (some ⟨d2,0,none⟩)]] 107/\Hb w' mB L c2 #[fq1 168 c3] 107/\Hb w' mB L c3 #[.func (.func 72) #[] #[.pointer (some ⟨d1,0,none⟩),.pointer (some ⟨d2,0,none⟩)]] 107/\Below W.heap.size W w'):=
 (y4f d1 d2 W).mono fun e w' ⟨h1,h2⟩=>⟨_,_,W.heap.size+1,h1,by rw[h2];exact⟨Ng _ (Ng _ (Jg h hL)),Eh (by simp;omega) (fun b hb=>hL b (by simp at hb;omega)) (by simp),Ng _ (Eh (by simp;omega) (fun b hb=>hL b (by simp at hb;omega)) (by simp)),(be2 _ _ _).alloc (by simp;omega) _⟩⟩
end
end
end Go.Proofs.YtgmcjddjdidpjaaGreatDoor
