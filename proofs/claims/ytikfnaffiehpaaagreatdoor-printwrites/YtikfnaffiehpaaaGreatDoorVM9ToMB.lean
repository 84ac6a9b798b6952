/- Lemmas for the last text. Conditions: those that each names. -/
import Derived.Test.YtikfnaffiehpaaaGreatDoorVM7ToM8
import Derived.Test.YtikfnaffiehpaaaGreatDoorVY14ToZ8
set_option linter.unusedVariables false
set_option maxRecDepth 100000
set_option maxHeartbeats 16000000
namespace Go.Proofs.YtikfnaffiehpaaaGreatDoor
open Go.Proofs.Tryz
open Go.RowKit
theorem z4c(R b:Nat)(v:Value)(L:List Tok)(k dp:Nat)(c q:Int)(w:World)(h:RdZ w R b v L k dp c q)(hq:c=0->q=0)(hk:k<L.length)(hl:L.length<=10000):
  Calls prog 65 #[.pointer (some ⟨R,0,none⟩)] w fun e w'=>e=.returned (.tuple #[])/\Hid (∃c' q',c'≠0/\RdZ w' R b v L k dp c' q')/\Hid (w.grownBy w' (some R)):=by
 by_cases hc:c=0
 ·have:=hq hc
  subst hc this;exact Oh R b v L k dp w h hk hl
 ·exact(z0c R b v L k dp c q w h hc hk hl).mono fun e w' hA=>⟨hA.1,hid ⟨c,q,hc,h.below hA.2⟩,hid (G.below hA.2)⟩
theorem Ew.start'{w W:World}{R b:Nat}{v:Value}{L:List Tok}{k k0 dp dp0:Nat}{c q c0 q0:Int}(h0:RdZ w R b v L k0 dp0 c0 q0)(h:RdZ W R b v L k dp c q)(hg:w.grownBy W (some R))(hs:W.heap.size=w.heap.size):Ew w R b v L k dp c q (W.alloc Zo):=
 ⟨h.alloc _,G.alloc hg,Qq W _ hs.symm,h0.lt,fun g hg e=>by have:=(h0.2.lt _ e).2;omega⟩
theorem Ew.down{w W:World}{R b:Nat}{v:Value}{L:List Tok}{k dp:Nat}{c q:Int}(h:Ew w R b v L k (dp+1) c q W):Ew w R b v L k dp c q (W.setCell ⟨R,2,none⟩ (.int .i64 dp)):=h.grown h.1.down (G.setR (G.refl W R))
theorem Ew.up{w W:World}{R b:Nat}{v:Value}{L:List Tok}{k dp:Nat}{c q:Int}(h:Ew w R b v L k dp c q W):Ew w R b v L k (dp+1) c q (W.setCell ⟨R,2,none⟩ (.int .i64 ((dp:Int)+1))):=h.grown h.1.up (G.setR (G.refl W R))
theorem y0Q{w w4 W:World}{R:Nat}{n:Nd}{cs:List Value}(hR:R<w.heap.size)(hg:w4.grownBy W (some R))(hn:Qw w4 (fun g=>w.heap.size+1<=g) n cs):Qw W (fun g=>w.heap.size+1<=g) n cs:=
 Qw.kept (fun g cur hp hq=>⟨hg.block g (Qz hq) (fun e=>by have e2:g=R:=Option.some.inj e;omega),hp⟩) n cs hn
theorem y0R(R b:Nat)(v:Value)(L:List Tok)(dp:Nat)(Rc:Pr)(k B:Nat)(w:World)(hg:Qv L)(hdp:dp<24)
  (HO:Hid (∀W:World,RdZ W R b v L (k+1) (dp+1) 0 0->w.heap.size+1<=W.heap.size->Calls prog 67 #[.pointer (some ⟨R,0,none⟩)] W fun e w'=>Gz (Xp (w.heap.size+1) Rc) R b v L (dp+1) W e w'))
  (h:RdZ w R b v L k dp 0 0)(hk:k<L.length)(h6:(gL L k).1≠6)(hB:B<=w.heap.size):
  Calls prog 139 #[.pointer (some ⟨R,0,none⟩)] w fun e w'=>AnZ (Jy L Rc) B R b v L dp w e w':=by
 have hll:=hg.len;have HS:=hid (fun(W:World) (k:Nat) (c q:Int) (h:RdZ W R b v L k (dp+1) c q) (hk:k<L.length)=>Mh R b v L k (dp+1) c q W 41 h hk hll);have HNx:=hid (fun(W:World) (k:Nat) (h:RdZ W R b v L k (dp+1) 0 0) (hk:k<L.length) (h6:(gL L k).1≠6)=>Yd R b v L k (dp+1) W h hk hll h6);have HNe:=hid (fun(W:World) (k:Nat) (c q:Int) (h:RdZ W R b v L k (dp+1) c q) (hc:c≠0)=>Bz R b v L k (dp+1) c q W h hc);have HWr:=hid (fun(W:World) (k:Nat) (c q:Int) (h:RdZ W R b v L k (dp+1) c q) (hq:c=0->q=0) (hk:k<L.length)=>z4c R b v L k (dp+1) c q W h hq hk hll);have hb24:((dp:Int) == 24)=false:=by simp;omega
 obtain⟨r0,r1,r2,r3,r4,q0,q1,q2,q3,q4⟩:=h.cells;have hR:=h.lt;have HE:Hid (Ew w R b v L k (dp+1) 0 0 ((w.setCell ⟨R,2,none⟩ (.int .i64 ((dp:Int)+1))).alloc Zo)):=Ew.start' h h.up (G.setR (G.refl w R)) (by simp);clear h hg;go_enter func139,ntmps139
 go_wp2_with fail
 refine(HNx.out _ _ HE.out.1 hk h6).mono ?_;rintro e w1 ⟨rfl,hr1,hg1⟩;have HE1:=hid (HE.out.grown hr1 hg1);clear hr1 hg1 HE r0 r1 r2 r3 r4 q0 q1 q2 q3 q4 hR h6
 go_wp2_with fail
 refine(HO.out _ HE1.out.1 HE1.out.size).mono ?_;rintro e w4 ⟨kd,T2,a0,a1,a2,a3,so,sl,sc,q2,k1,c1,q1,rfl,HX,HK1,hr4,hg4⟩;have HE4:=hid (HE1.out.grown hr4.out hg4.out);clear hr4 hg4 HE1 HO;have HE5:=hid (HE4.out.alloc (.cells #[.int .i64 kd,.string T2,.int .u64 a0,.int .u64 a1,.int .u64 a2,.int .u64 a3,.slice so sl sc,.int .i64 q2] 30));have HN5:Hid ((w4.alloc (.cells #[.int .i64 kd,.string T2,.int .u64 a0,.int .u64 a1,.int .u64 a2,.int .u64 a3,.slice so sl sc,.int .i64 q2] 30)).heap[w4.heap.size]? =some (.cells #[.int .i64 kd,.string T2,.int .u64 a0,.int .u64 a1,.int .u64 a2,.int .u64 a3,.slice so sl sc,.int .i64 q2] 30)):=Qq w4 _ rfl;have HG5:Hid (w4.grownBy (w4.alloc (.cells #[.int .i64 kd,.string T2,.int .u64 a0,.int .u64 a1,.int .u64 a2,.int .u64 a3,.slice so sl sc,.int .i64 q2] 30)) (some R)):=G.alloc (G.refl w4 R);have HL4:Hid (w.heap.size<w4.heap.size):=HE4.out.size;clear HE4;obtain⟨bb,hbb⟩:∃bb,bb=sgB (nT L k1 c1) 41:=⟨_,rfl⟩;have HSj:=hid (HS.out _ _ _ _ HE5.out.1 HK1.out.1);rw[<-hbb]at HSj;have HBB:=hid hbb;clear HS hbb;cases bb
 ·go_wp2_with fail
  refine HSj.out.mono ?_;rintro e w5 ⟨rfl,hb5⟩;have HE6:=hid (HE5.out.below hb5);have HN6:=hid ((hb5.block _ (Qz HN5.out)).trans HN5.out);have HG6:=hid (G.to HG5.out hb5);clear hb5 HE5 HN5 HG5 HSj
  go_wp2_with fail
  refine(HWr.out _ _ _ _ HE6.out.1 HK1.out.2 HK1.out.1).mono ?_;rintro e w6 ⟨rfl,hr6,hg6⟩;obtain⟨c',q',hc',hr6'⟩:=hr6.out;have HE7:=hid (HE6.out.grown hr6' hg6.out);have HN7:Hid (w6.heap[w4.heap.size]? =some (.cells #[.int .i64 kd,.string T2,.int .u64 a0,.int .u64 a1,.int .u64 a2,.int .u64 a3,.slice so sl sc,.int .i64 q2] 30)):=(hg6.out.block _ (Qz HN6.out) (fun e=>by have e2:w4.heap.size=R:=Option.some.inj e;have:=HL4.out;have:=HE6.out.lt;omega)).trans HN6.out;have HC':=hid hc';clear hr6 hg6 hr6' hc' HE6 HN6 HG6 HWr
  go_wp2_with fail
  refine(HNe.out _ _ _ _ HE7.out.1 HC'.out).mono ?_;rintro e w7 ⟨rfl,hb7⟩;have HE8:=hid (HE7.out.below hb7);have HN8:=hid ((hb7.block _ (Qz HN7.out)).trans HN7.out);clear hb7 HE7 HN7 HNe HNx;obtain⟨r0,r1,r2,r3,r4,p0,p1,p2,p3,p4⟩:=HE8.out.1.cells;rw[show(((dp+1:Nat):Nat):Int)=(dp:Int)+1 by omega]at r2;obtain⟨⟨m0,m1,m2,m3,m4,m5,m6,m7⟩,_⟩:=Qk HN8.out;obtain⟨⟨k0,k1',k2,k3,k4,k5,k6,k7⟩,⟨f0,f1,f2,f3,f4,f5,f6,f7⟩⟩:=HE8.out.cells;have hRl:=HE8.out.1.lt;have hs0:=HE8.out.size;have hs4:=Qz HN8.out;have hL4:=HL4.out;have hRw:=HE8.out.lt;have hne1:R≠w.heap.size:=by omega
  have hne2:R≠w4.heap.size:=by omega
  have hne3:w.heap.size≠w4.heap.size:=by omega
  go_wp2_with fail
  (try simp only[Exit.inBlock,Exit.then])
  have HE9:=hid HE8.out.down;obtain⟨⟨d0,d1,d2,d3,d4,d5,d6,d7⟩,_⟩:=Qk (Zx HE9.out.2.2.1 kd T2 a0 a1 a2 a3 (.slice so sl sc) q2);refine bodyPost_ret (v:=.agg [.int .i64 kd,.string T2,.int .u64 a0,.int .u64 a1,.int .u64 a2,.int .u64 a3,.slice so sl sc,.int .i64 q2].toArray) (by simp[results,Tryz.results139,go_sem,d0,d1,d2,d3,d4,d5,d6,d7]) rfl ?_;have hfin:∃x,Jy L Rc=.inl x:=by
   cases hr:Rc with
   |inl x=>exact⟨x,rfl⟩
   |inr x=>
    obtain⟨n,k'⟩:=x;have hX:=HX.out;rw[hr]at hX;obtain⟨_,rfl,rfl,rfl,_⟩:=hX;refine⟨(wrC (gL L k1),(gL L k1).2.2.2),?_⟩;unfold Jy;simp only;rw[if_neg (z0h HBB.out.symm)]
  obtain⟨x,hx⟩:=hfin;rw[hx];exact HE9.out.err HC'.out HK1.out.1 kd T2 a0 a1 a2 a3 so sl sc q2
 ·obtain⟨hc0,h6⟩:=Uy (L:=L) (k:=k1) (c:=c1) HBB.out.symm
  have hqz:=HK1.out.2 hc0;subst hc0 hqz
  go_wp2_with fail
  refine HSj.out.mono ?_;rintro e w5 ⟨rfl,hb5⟩;have HE6:=hid (HE5.out.below hb5);have HN6:=hid ((hb5.block _ (Qz HN5.out)).trans HN5.out);have HG6:=hid (G.to HG5.out hb5);clear hb5 HE5 HN5 HG5 HSj
  go_wp2_with fail
  refine(HNx.out _ _ HE6.out.1 HK1.out.1 h6).mono ?_;rintro e w7 ⟨rfl,hr7,hg7⟩;have HE8:=hid (HE6.out.grown hr7 hg7);have HN8:Hid (w7.heap[w4.heap.size]? =some (.cells #[.int .i64 kd,.string T2,.int .u64 a0,.int .u64 a1,.int .u64 a2,.int .u64 a3,.slice so sl sc,.int .i64 q2] 30)):=(hg7.block _ (Qz HN6.out) (fun e=>by have e2:w4.heap.size=R:=Option.some.inj e;have:=HL4.out;have:=HE6.out.lt;omega)).trans HN6.out;have HG8:=hid (G.trans HG6.out hg7);clear hr7 hg7 HE6 HN6 HG6 HNe HNx HWr h6;obtain⟨r0,r1,r2,r3,r4,p0,p1,p2,p3,p4⟩:=HE8.out.1.cells;rw[show(((dp+1:Nat):Nat):Int)=(dp:Int)+1 by omega]at r2;obtain⟨⟨m0,m1,m2,m3,m4,m5,m6,m7⟩,_⟩:=Qk HN8.out;obtain⟨⟨k0,k1',k2,k3,k4,k5,k6,k7⟩,⟨f0,f1,f2,f3,f4,f5,f6,f7⟩⟩:=HE8.out.cells;have hRl:=HE8.out.1.lt;have hs0:=HE8.out.size;have hs4:=Qz HN8.out;have hL4:=HL4.out;have hRw:=HE8.out.lt;have hne1:R≠w.heap.size:=by omega
  have hne2:R≠w4.heap.size:=by omega
  have hne3:w.heap.size≠w4.heap.size:=by omega
  go_wp2_with fail
  (try simp only[Exit.inBlock,Exit.then])
  have HE9:=hid HE8.out.down;obtain⟨⟨d0,d1,d2,d3,d4,d5,d6,d7⟩,_⟩:=Qk (Zx HE9.out.2.2.1 kd T2 a0 a1 a2 a3 (.slice so sl sc) q2);refine bodyPost_ret (v:=.agg [.int .i64 kd,.string T2,.int .u64 a0,.int .u64 a1,.int .u64 a2,.int .u64 a3,.slice so sl sc,.int .i64 q2].toArray) (by simp[results,Tryz.results139,go_sem,d0,d1,d2,d3,d4,d5,d6,d7]) rfl ?_;cases hr:Rc with
  |inl x=>
   have hX:=HX.out;rw[hr]at hX;exact absurd rfl hX
  |inr x=>
   obtain⟨n,k'⟩:=x;have hX:=HX.out;rw[hr]at hX;obtain⟨hn,rfl,_,_,_⟩:=hX;have e:Jy L (.inr (n,k1))=.inr (n,k1+1):=by
    unfold Jy;simp only;rw[if_pos (z4a HBB.out.symm)]
   rw[e];have hn9:=y0Q hRw (G.setR (j:=2) (u:=.int .i64 dp) HG8.out) hn;obtain⟨kd',C,h9⟩:=hn.form;have h10:=h9;dsimp only[n8]at h10;simp only[List.cons.injEq,Value.int.injEq,and_true,true_and]at h10;obtain⟨rfl,rfl,rfl,rfl,rfl,rfl⟩:=h10;exact HE9.out.fin (kd:=kd') (C:=C) (n:=n) hn9 hB
theorem y0S(R b:Nat)(v:Value)(L:List Tok)(k B:Nat)(w:World)(hg:Qv L)(x:Nat×Nat)
  (HO:Hid (∀(W:World) (c q:Int),c≠0->RdZ W R b v L k 25 c q->Calls prog 67 #[.pointer (some ⟨R,0,none⟩)] W fun e w'=>ErQ R b v L 25 W e w'))
  (h:RdZ w R b v L k 24 0 0)(hk:k<L.length)(hB:B<=w.heap.size):
  Calls prog 139 #[.pointer (some ⟨R,0,none⟩)] w fun e w'=>AnZ (.inl x) B R b v L 24 w e w':=by
 have hll:=hg.len;have HSt:=hid (fun(W:World) (h:RdZ W R b v L k 24 0 0)=>z0b R b v L k 24 2 W h hk hll);have HS:=hid (fun(W:World) (k:Nat) (c q:Int) (hc:c≠0) (h:RdZ W R b v L k 25 c q) (hk:k<L.length)=>y0A R b v L k 25 c q W 41 h hc hk hg);have HNe:=hid (fun(W:World) (k:Nat) (c q:Int) (h:RdZ W R b v L k 25 c q) (hc:c≠0)=>Bz R b v L k 25 c q W h hc);have HWr:=hid (fun(W:World) (k:Nat) (c q:Int) (h:RdZ W R b v L k 25 c q) (hc:c≠0) (hk:k<L.length)=>z0c R b v L k 25 c q W h hc hk hll);have HE:Hid (Ew w R b v L k 24 0 0 (w.alloc Zo)):=Ew.start h;obtain⟨r0,r1,r2,r3,r4,q0,q1,q2,q3,q4⟩:=HE.out.1.cells;have hR:=HE.out.1.lt;obtain⟨W0,hW0⟩:∃W0,W0=w.alloc Zo:=⟨_,rfl⟩;clear h hg;go_enter func139,ntmps139
 go_wp2_with fail
 refine(HSt.out _ HE.out.1).mono ?_;rintro e w1 ⟨rfl,hr1,hg1⟩;obtain⟨q',hr1'⟩:=hr1.out;have HE1:=hid (HE.out.grown hr1' hg1.out);clear hr1 hg1 hr1' HE r0 r1 r2 r3 r4 q0 q1 q2 q3 q4 hR HSt hW0;obtain⟨r0,r1,r2,r3,r4,q0,q1,q2,q3,q4⟩:=HE1.out.1.cells;have hR:=HE1.out.1.lt;have HE2:Hid (Ew w R b v L k 25 2 q' (w1.setCell ⟨R,2,none⟩ (.int .i64 25))):=HE1.out.up;clear HE1
 go_wp2_with fail
 refine(HNe.out _ _ _ _ HE2.out.1 (by decide)).mono ?_;rintro e w2 ⟨rfl,hb2⟩;have HE3:=hid (HE2.out.below hb2);clear hb2 HE2 r0 r1 r2 r3 r4 q0 q1 q2 q3 q4 hR
 go_wp2_with fail
 refine(HO.out _ _ _ (by decide) HE3.out.1).mono ?_;rintro e w4 ⟨kd,T2,a0,a1,a2,a3,so,sl,sc,q2,rfl,hx4,hg4⟩;obtain⟨k1,c1,q1,hk1,hc1,hE4⟩:=HE3.out.shut hx4.out hg4.out;have HE5:=hid (hE4.alloc (.cells #[.int .i64 kd,.string T2,.int .u64 a0,.int .u64 a1,.int .u64 a2,.int .u64 a3,.slice so sl sc,.int .i64 q2] 30));have HN5:Hid ((w4.alloc (.cells #[.int .i64 kd,.string T2,.int .u64 a0,.int .u64 a1,.int .u64 a2,.int .u64 a3,.slice so sl sc,.int .i64 q2] 30)).heap[w4.heap.size]? =some (.cells #[.int .i64 kd,.string T2,.int .u64 a0,.int .u64 a1,.int .u64 a2,.int .u64 a3,.slice so sl sc,.int .i64 q2] 30)):=Qq w4 _ rfl;have HL4:Hid (w.heap.size<w4.heap.size):=hE4.size;have HC1:=hid hc1;clear hx4 hg4 HE3 HO hE4 hc1
 go_wp2_with fail
 refine(HS.out _ _ _ _ HC1.out HE5.out.1 hk1).mono ?_;rintro e w5 ⟨rfl,hb5⟩;have HE6:=hid (HE5.out.below hb5);have HN6:=hid ((hb5.block _ (Qz HN5.out)).trans HN5.out);clear hb5 HE5 HN5 HS
 go_wp2_with fail
 refine(HWr.out _ _ _ _ HE6.out.1 HC1.out hk1).mono ?_;rintro e w6 ⟨rfl,hb6⟩;have HE7:=hid (HE6.out.below hb6);have HN7:=hid ((hb6.block _ (Qz HN6.out)).trans HN6.out);clear hb6 HE6 HN6 HWr
 go_wp2_with fail
 refine(HNe.out _ _ _ _ HE7.out.1 HC1.out).mono ?_;rintro e w7 ⟨rfl,hb7⟩;have HE8:=hid (HE7.out.below hb7);have HN8:=hid ((hb7.block _ (Qz HN7.out)).trans HN7.out);clear hb7 HE7 HN7 HNe;obtain⟨r0,r1,r2,r3,r4,p0,p1,p2,p3,p4⟩:=HE8.out.1.cells;obtain⟨⟨m0,m1,m2,m3,m4,m5,m6,m7⟩,_⟩:=Qk HN8.out;obtain⟨⟨k0,k1',k2,k3,k4,k5,k6,k7⟩,⟨f0,f1,f2,f3,f4,f5,f6,f7⟩⟩:=HE8.out.cells;have hRl:=HE8.out.1.lt;have hs0:=HE8.out.size;have hs4:=Qz HN8.out;have hL4:=HL4.out;have hRw:=HE8.out.lt;have hne1:R≠w.heap.size:=by omega
 have hne2:R≠w4.heap.size:=by omega
 have hne3:w.heap.size≠w4.heap.size:=by omega
 go_wp2_with fail
 (try simp only[Exit.inBlock,Exit.then])
 have HE9:Hid (Ew w R b v L k1 24 c1 q1 (w7.setCell ⟨R,2,none⟩ (.int .i64 24))):=HE8.out.down;obtain⟨⟨d0,d1,d2,d3,d4,d5,d6,d7⟩,_⟩:=Qk (Zx HE9.out.2.2.1 kd T2 a0 a1 a2 a3 (.slice so sl sc) q2);refine bodyPost_ret (v:=.agg [.int .i64 kd,.string T2,.int .u64 a0,.int .u64 a1,.int .u64 a2,.int .u64 a3,.slice so sl sc,.int .i64 q2].toArray) (by simp[results,Tryz.results139,go_sem,d0,d1,d2,d3,d4,d5,d6,d7]) rfl ?_;exact HE9.out.err HC1.out hk1 kd T2 a0 a1 a2 a3 so sl sc q2
theorem y0T(R b:Nat)(v:Value)(L:List Tok)(k dp:Nat)(c q:Int)(w:World)(h:RdZ w R b v L k dp c q)(hc:c≠0)(hk:k<L.length)(hg:Qv L):
  Calls prog 93 #[.pointer (some ⟨R,0,none⟩)] w fun e w'=>ErQ R b v L dp w e w':=
 z3Z R b v L dp (fun _=>.inl (0,0)) hg (fun k n k' _ _ h=>by cases h) c (fun e=>absurd e hc) (.inl (0,0)) k 0 q w h hk (fun e=>absurd e hc) (Nat.zero_le _) (.inr ⟨hc,_,rfl⟩)
theorem z0i(R b:Nat)(v:Value)(L:List Tok)(k dp:Nat)(c q:Int)(w:World)(h:RdZ w R b v L k dp c q)(hc:c≠0)(hk:k<L.length)(hg:Qv L):
  Calls prog 67 #[.pointer (some ⟨R,0,none⟩)] w fun e w'=>ErQ R b v L dp w e w':=
 z4b R b v L dp (fun _=>.inl (0,0)) hg (fun k n k' _ _ h=>by cases h) (.inl (0,0)) (.inl (0,0)) False (fun x e=>by cases e) k 0 c q w
  (hid fun W hW hs=>(y0T R b v L k dp c q W hW hc hk hg).mono fun e w' hA=>Kj (r:=.inl (0,0)) (fun n k' e=>by cases e) hA)
  (hid fun h=>h.elim) h hk (Nat.zero_le _) rfl (fun n k' e=>by cases e)
theorem y0U(R b:Nat)(v:Value)(L:List Tok)(dp:Nat)(inn:Nat->Pr)(hg:Qv L)(ha:Adv L inn)(ho:MQ 112 (Zh L inn) (fun k=>(gL L k).1≠6) R b v L dp):
  MQ 93 (fun k=>Qb L inn L.length k []) (fun _=>True) R b v L dp:=fun k B w h hk _ hB=>
 z3Z R b v L dp inn hg ha 0 (fun _=>ho) _ k B 0 w h hk (fun _=>rfl) hB (.inl ⟨rfl,rfl⟩)
theorem y0V(R b:Nat)(v:Value)(L:List Tok)(dp:Nat)(inn:Nat->Pr)(hg:Qv L)(ha:Adv L inn)(ho:MQ 93 (fun k=>Qb L inn L.length k []) (fun _=>True) R b v L dp):
  MQ 67 (chS L inn) (fun _=>True) R b v L dp:=fun k B w h hk _ hB=>
 z4b R b v L dp inn hg ha (Qb L inn L.length k []) (chS L inn k) True (fun _ _=>trivial) k B 0 0 w
  (hid fun W hW hs=>(ho k (w.heap.size+1) W hW hk trivial hs).mono fun e w' hA=>Kj (fun n k' e=>(Fd hg ha _ _ _ _ _ hk e).2) hA)
  (hid fun _ W j hW hj=>(ho j W.heap.size W hW hj trivial L0q).mono fun e w' hA=>Kj (fun n k' e=>(Fd hg ha _ _ _ _ _ hj e).2) hA) h hk hB rfl (fun n k' e=>(Fd hg ha _ _ _ _ _ hk e).2)
theorem z4d(R b:Nat)(v:Value)(L:List Tok)(dp:Nat)(inn:Nat->Pr)(hg:Qv L)(h0:Tk0 L)(ha:Adv L inn)(hi:MQ 139 inn (fun k=>sgT (gL L k)={data:=#[40]}) R b v L dp):
  MQ 67 (chS L inn) (fun _=>True) R b v L dp:=
 y0V R b v L dp inn hg ha (y0U R b v L dp inn hg ha (y0N R b v L dp inn hg ha (y0J R b v L dp inn hg h0 hi)))
theorem z4e(R b:Nat)(v:Value)(L:List Tok)(hg:Qv L)(h0:Tk0 L):∀(d dp:Nat),dp+d=24->MQ 67 (chS L (Ql L d)) (fun _=>True) R b v L dp
 |0,dp,hd=>by
  obtain rfl:dp=24:=by omega
  refine z4d R b v L 24 (Ql L 0) hg h0 (Dd hg 0) (fun k B w h hk hs hB=> ?_);exact y0S R b v L k B w hg _ (hid fun W c q hc hW=>z0i R b v L k 25 c q W hW hc hk hg) h hk hB
 |d+1,dp,hd=>by
  refine z4d R b v L dp (Ql L (d+1)) hg h0 (Dd hg (d+1)) (fun k B w h hk hs hB=> ?_);have hk1:=hg.sg hk hs;exact y0R R b v L dp (chS L (Ql L d) (k+1)) k B w hg (by omega) (hid fun W hW hsz=>(z4e R b v L hg h0 d (dp+1) (by omega) (k+1) (w.heap.size+1) W hW hk1 trivial hsz).mono fun e w' hA=>Kj (fun n k' e=>(Cy hg (Dd hg d) hk1 e).2) hA) h hk (by rw[Xv hs];decide) hB
section
def Ez(O:Obj)(w:World)(R b:Nat)(v:Value)(L:List Tok)(k dp:Nat)(c q:Int)(W:World):Prop:=
 RdZ W R b v L k dp c q/\w.grownBy W (some R)/\W.heap[w.heap.size]? =some O/\R<w.heap.size/\(∀g,w.heap.size<=g->v.ownBlock≠some g)
section
variable {O:Obj} {w W W':World} {R b:Nat} {v:Value} {L:List Tok} {k dp k' dp':Nat} {c q c' q':Int}
theorem Ez.start(O:Obj)(h:RdZ w R b v L k dp c q):Ez O w R b v L k dp c q (w.alloc O):=
 ⟨h.alloc _,G.alloc (G.refl w R),Qq w _ rfl,h.lt,fun g hg e=>by have:=(h.2.lt _ e).2;omega⟩
theorem Ez.size(h:Ez O w R b v L k dp c q W):w.heap.size<W.heap.size:=Qz h.2.2.1
theorem Ez.lt(h:Ez O w R b v L k dp c q W):R<w.heap.size:=h.2.2.2.1
theorem Ez.grown(h:Ez O w R b v L k dp c q W)(hr:RdZ W' R b v L k' dp' c' q')(hg:W.grownBy W' (some R)):Ez O w R b v L k' dp' c' q' W':=
 ⟨hr,G.trans h.2.1 hg,(hg.block _ h.size (fun e=>by have:=Option.some.inj e;have:=h.lt;omega)).trans h.2.2.1,h.2.2.2.1,h.2.2.2.2⟩
theorem Ez.below(h:Ez O w R b v L k dp c q W)(hb:Below W.heap.size W W'):Ez O w R b v L k dp c q W':=h.grown (h.1.below hb) (G.below hb)
theorem Ez.alloc(h:Ez O w R b v L k dp c q W)(o:Obj):Ez O w R b v L k dp c q (W.alloc o):=h.below (B0q.alloc L0q _)
end
def ErU(R b:Nat)(v:Value)(L:List Tok)(w:World)(e:Ending)(w':World):Prop:=
 ∃(Tt:ByteArray) (kd:Int) (T2:ByteArray) (a0 a1 a2 a3:Int) (so:Option Addr) (sl sc:Nat) (q2:Int) (pt:Int),e=.returned (.agg #[.string Tt,.int .i64 kd,.string T2,.int .u64 a0,.int .u64 a1,.int .u64 a2,.int .u64 a3,.slice so sl sc,.int .i64 q2,.int .i64 pt])/\Hid (Rx w' R b v L 0)/\Hid (w.grownBy w' (some R))
def Kk(r:(Nat×Nat) ⊕ (Rl×Nat))(B R b:Nat)(v:Value)(L:List Tok)(w:World)(e:Ending)(w':World):Prop:=
 match r with
 | .inr (x,k')=>∃cs:List Value,e=.returned (.agg cs.toArray)/\Hid (Yg w' (fun g=>B<=g) x cs)/\Hid (RdZ w' R b v L k' 0 0 0)/\Hid (w.grownBy w' (some R))
 | .inl _=>ErU R b v L w e w'
theorem Ez.finU{w w4:World}{B R b:Nat}{v:Value}{L:List Tok}{k1:Nat}{c1 q1:Int}{Rc:Pr}{kd:Int}{T2 Tt:ByteArray}{a0 a1 a2 a3:Int}{so:Option Addr}{sl sc:Nat}{q2:Int}{pt:Nat}{o:Obj}(h:Ez Zr w R b v L k1 0 c1 q1 w4)(hk:k1<L.length)(hX:Xp (w.heap.size+1) Rc w4 kd T2 a0 a1 a2 a3 so sl sc q2 k1 c1 q1)(hB:B<=w.heap.size):
  Kk (ruE Tt pt Rc) B R b v L w (.returned (.agg #[.string Tt,.int .i64 kd,.string T2,.int .u64 a0,.int .u64 a1,.int .u64 a2,.int .u64 a3,.slice so sl sc,.int .i64 q2,.int .i64 pt])) ((Gf w4 w.heap.size Tt kd T2 a0 a1 a2 a3 (.slice so sl sc) q2 (pt:Int)).alloc o):=by
 have hRQ:w.heap.size≠R:=by have:=h.lt;omega
 have hv:=h.2.2.2.2 w.heap.size L0q;have hg:=Nat.le_refl w.heap.size;have hr:RdZ ((Gf w4 w.heap.size Tt kd T2 a0 a1 a2 a3 (.slice so sl sc) q2 (pt:Int)).alloc o) R b v L k1 0 c1 q1:=((((((((((h.1.other hRQ hv).other hRQ hv).other hRQ hv).other hRQ hv).other hRQ hv).other hRQ hv).other hRQ hv).other hRQ hv).other hRQ hv).other hRQ hv).alloc o;have hgr:w.grownBy ((Gf w4 w.heap.size Tt kd T2 a0 a1 a2 a3 (.slice so sl sc) q2 (pt:Int)).alloc o) (some R):=G.alloc (G.setN (G.setN (G.setN (G.setN (G.setN (G.setN (G.setN (G.setN (G.setN (G.setN h.2.1 hg) hg) hg) hg) hg) hg) hg) hg) hg) hg);cases Rc with
 |inl x=>exact⟨_,_,_,_,_,_,_,_,_,_,_,_,rfl,hid ⟨k1,c1,q1,hk,hX,hr⟩,hid hgr⟩
 |inr x=>
  obtain⟨n,k'⟩:=x;obtain⟨hn,rfl,rfl,rfl,_⟩:=hX;refine⟨.string Tt::([.int .i64 kd,.string T2,.int .u64 a0,.int .u64 a1,.int .u64 a2,.int .u64 a3,.slice so sl sc,.int .i64 q2]++[.int .i64 pt]),rfl,hid ⟨_,rfl,?_⟩,hid hr,hid hgr⟩;refine Qw.below ?_ (B0q.alloc L0q o);refine Qw.kept (fun g cur hp hq=>⟨?_,show B<=g by have hp':w.heap.size+1<=g:=hp;omega⟩) n _ hn;have hne:∀j:Nat,g≠(⟨w.heap.size,j,none⟩:Addr).block:=fun j e=>by have e2:g=w.heap.size:=e;have hp':w.heap.size+1<=g:=hp;omega
  have s:∀(V:World) (j:Nat) (u:Value),(V.setCell ⟨w.heap.size,j,none⟩ u).heap[g]? =V.heap[g]? :=fun V j u=>Below.heap_setCell _ _ _ _ (hne j)
  unfold Gf;rw[s,s,s,s,s,s,s,s,s,s]
theorem y0W(R b:Nat)(v:Value)(L:List Tok)(k B:Nat)(w:World)(hg:Qv L)(h1:(gL L k).1=1)(h2:(gL L (k+1)).1=2)
  (HO:Hid (∀W:World,RdZ W R b v L (k+2) 0 0 0->w.heap.size+1<=W.heap.size->Calls prog 67 #[.pointer (some ⟨R,0,none⟩)] W fun e w'=>Gz (Xp (w.heap.size+1) (chS L (Ql L 24) (k+2))) R b v L 0 W e w'))
  (h:RdZ w R b v L k 0 0 0)(hk:k<L.length)(hB:B<=w.heap.size):
  Calls prog 43 #[.pointer (some ⟨R,0,none⟩)] w fun e w'=>Kk (ruE (gL L k).2.1 (gL L k).2.2.2 (chS L (Ql L 24) (k+2))) B R b v L w e w':=by
 have hll:=hg.len;have hk1:k+1<L.length:=hg.nxt k hk (by rw[h1];decide);have hk2:k+1+1<L.length:=hg.nxt (k+1) hk1 (by rw[h2];decide);have HT:=hid (fun(W:World) (h:RdZ W R b v L k 0 0 0)=>Uq R b v L k 0 W h hk hg);have HT2:=hid (fun(W:World) (h:RdZ W R b v L (k+1) 0 0 0)=>Uq R b v L (k+1) 0 W h hk1 hg);have HNx:=hid (fun(W:World) (k:Nat) (h:RdZ W R b v L k 0 0 0) (hk:k<L.length) (h6:(gL L k).1≠6)=>Yd R b v L k 0 W h hk hll h6);have h16:(gL L k).1≠6:=by rw[h1];decide
 have h26:(gL L (k+1)).1≠6:=by rw[h2];decide
 obtain⟨t,ht⟩:∃t,t=gL L k:=⟨_,rfl⟩;obtain⟨a,hta⟩:∃a,a=gL L (k+1):=⟨_,rfl⟩;rw[<-ht]at HT h1 ⊢;rw[<-hta]at HT2 h2;clear ht hta hg;obtain⟨kt,Tt,Ct,pt⟩:=t;obtain⟨ka,Ta,Ca,pa⟩:=a;obtain rfl:kt=1:=h1;obtain rfl:ka=2:=h2;have HE:Hid (Ez Zr w R b v L k 0 0 0 (w.alloc Zr)):=Ez.start Zr h;clear h;go_enter func43,ntmps43
 go_wp2_with fail
 refine(HT.out _ HE.out.1).mono ?_;rintro e w1 ⟨rfl,hb1⟩;have HE1:=hid (HE.out.below hb1);clear hb1 HE HT;dsimp only[tkv];obtain⟨W1,hW1⟩:∃W1,W1=w1.alloc (.cells #[.int .i64 1,.string Tt,.int .u64 (wd Ct 0),.int .u64 (wd Ct 1),.int .u64 (wd Ct 2),.int .u64 (wd Ct 3),.int .i64 pt] 83):=⟨_,rfl⟩;have HE2:Hid (Ez Zr w R b v L k 0 0 0 W1):=by rw[hW1];exact HE1.out.alloc _
 have HC2:Hid (W1.heap[w1.heap.size]? =some (.cells #[.int .i64 1,.string Tt,.int .u64 (wd Ct 0),.int .u64 (wd Ct 1),.int .u64 (wd Ct 2),.int .u64 (wd Ct 3),.int .i64 pt] 83)):=by rw[hW1];exact Qq _ _ rfl
 have HW1:=hid hW1;have HL1:Hid (w.heap.size<w1.heap.size):=HE1.out.size;clear hW1 HE1
 go_wp2_with fail
 rw[<-HW1.out];refine(HNx.out _ _ HE2.out.1 hk h16).mono ?_;rintro e w2 ⟨rfl,hrn,hgn⟩;have HE3:=hid (HE2.out.grown hrn hgn);have HC3:Hid (w2.heap[w1.heap.size]? =some (.cells #[.int .i64 1,.string Tt,.int .u64 (wd Ct 0),.int .u64 (wd Ct 1),.int .u64 (wd Ct 2),.int .u64 (wd Ct 3),.int .i64 pt] 83)):=(hgn.block _ (Qz HC2.out) (fun e=>by have e2:w1.heap.size=R:=Option.some.inj e;have:=HL1.out;have:=HE2.out.lt;omega)).trans HC2.out;clear hrn hgn HE2 HC2
 go_wp2_with fail
 refine(HT2.out _ HE3.out.1).mono ?_;rintro e w3 ⟨rfl,hb3⟩;have HE4:=hid (HE3.out.below hb3);have HC4:=hid ((hb3.block _ (Qz HC3.out)).trans HC3.out);clear hb3 HE3 HC3 HT2;dsimp only[tkv];obtain⟨W4,hW4⟩:∃W4,W4=w3.alloc (.cells #[.int .i64 2,.string Ta,.int .u64 (wd Ca 0),.int .u64 (wd Ca 1),.int .u64 (wd Ca 2),.int .u64 (wd Ca 3),.int .i64 pa] 83):=⟨_,rfl⟩;have HE5:Hid (Ez Zr w R b v L (k+1) 0 0 0 W4):=by rw[hW4];exact HE4.out.alloc _
 have HC5:Hid (W4.heap[w1.heap.size]? =some (.cells #[.int .i64 1,.string Tt,.int .u64 (wd Ct 0),.int .u64 (wd Ct 1),.int .u64 (wd Ct 2),.int .u64 (wd Ct 3),.int .i64 pt] 83)):=by rw[hW4];exact(Below.heap_alloc _ _ _ (Qz HC4.out)).trans HC4.out
 have HW4:=hid hW4;clear hW4 HE4 HC4
 go_wp2_with fail
 rw[<-HW4.out];refine(HNx.out _ _ HE5.out.1 hk1 h26).mono ?_;rintro e w5 ⟨rfl,hrn,hgn⟩;have HEc:=hid (HE5.out.grown hrn hgn);have HTc:Hid (w5.heap[w1.heap.size]? =some (.cells #[.int .i64 1,.string Tt,.int .u64 (wd Ct 0),.int .u64 (wd Ct 1),.int .u64 (wd Ct 2),.int .u64 (wd Ct 3),.int .i64 pt] 83)):=(hgn.block _ (Qz HC5.out) (fun e=>by have e2:w1.heap.size=R:=Option.some.inj e;have:=HL1.out;have:=HE5.out.lt;omega)).trans HC5.out;clear hrn hgn HE5 HC5
 go_wp2_with fail
 refine(HO.out _ HEc.out.1 HEc.out.size).mono ?_;rintro e w4 ⟨kd,T2,a0,a1,a2,a3,so,sl,sc,q2,k1,c1,q1,rfl,HX,HK1,hr4,hg4⟩;have HE4:=hid (HEc.out.grown hr4.out hg4.out);have HT4:Hid (w4.heap[w1.heap.size]? =some (.cells #[.int .i64 1,.string Tt,.int .u64 (wd Ct 0),.int .u64 (wd Ct 1),.int .u64 (wd Ct 2),.int .u64 (wd Ct 3),.int .i64 pt] 83)):=(hg4.out.block _ (Qz HTc.out) (fun e=>by have e2:w1.heap.size=R:=Option.some.inj e;have:=HL1.out;have:=HEc.out.lt;omega)).trans HTc.out;clear hr4 hg4 HEc HTc HO;obtain⟨⟨t0,t1,t2,t3,t4,t5,t6⟩,_⟩:=Yy HT4.out;have ht4:=Qz HT4.out;have hs4:=HE4.out.size;have hL1:=HL1.out;obtain⟨⟨z0,z1,z2,z3,z4,z5,z6,z7,z8,z9⟩,⟨y0,y1,y2,y3,y4,y5,y6,y7,y8,y9⟩⟩:=Gg HE4.out.2.2.1;have hne:w1.heap.size≠w.heap.size:=by omega
 go_wp2_with fail
 (try simp only[Exit.inBlock,Exit.then])
 have hst:=(Below.heap_alloc (Gf w4 w.heap.size Tt kd T2 a0 a1 a2 a3 (.slice so sl sc) q2 (pt:Int)) (.cells #[.int .i64 kd,.string T2,.int .u64 a0,.int .u64 a1,.int .u64 a2,.int .u64 a3,.slice so sl sc,.int .i64 q2] 30) w.heap.size (by simp;omega)).trans (Ih HE4.out.2.2.1 Tt kd T2 a0 a1 a2 a3 (.slice so sl sc) q2 (pt:Int));obtain⟨⟨d0,d1,d2,d3,d4,d5,d6,d7,d8,d9⟩,_⟩:=Gg hst;refine bodyPost_ret (v:=.agg #[.string Tt,.int .i64 kd,.string T2,.int .u64 a0,.int .u64 a1,.int .u64 a2,.int .u64 a3,.slice so sl sc,.int .i64 q2,.int .i64 pt]) (by simp[results,Tryz.results43,go_sem]at d0 d1 d2 d3 d4 d5 d6 d7 d8 d9 ⊢;simp[d0,d1,d2,d3,d4,d5,d6,d7,d8,d9,go_sem]) rfl ?_;exact HE4.out.finU HK1.out.1 HX.out hB
theorem y0X(R b:Nat)(v:Value)(L:List Tok)(k dp:Nat)(c q:Int)(w:World)(h:RdZ w R b v L k dp c q)(hc:c≠0)(hk:k<L.length)(hl:L.length<=10000):
  Calls prog 64 #[.pointer (some ⟨R,0,none⟩)] w fun e w'=>e=.returned (tkv (6,{data:=#[]},0,0))/\Below w.heap.size w w':=by
 have:=Dl R b v L k dp c q w h hk hl;rw[show nT L k c=(6,{data:=#[]},0,0)from if_neg hc]at this;exact this
theorem z4f(R b:Nat)(v:Value)(L:List Tok)(k B:Nat)(c0 q0:Int)(w:World)(hg:Qv L)(h1:(nT L k c0).1≠1)(hq:c0=0->q0=0)(x:Nat×Nat)
  (HO:Hid (∀(W:World) (c q:Int),RdZ W R b v L k 0 c q->c≠0->Calls prog 67 #[.pointer (some ⟨R,0,none⟩)] W fun e w'=>Gz (Xp (w.heap.size+1) (.inl x)) R b v L 0 W e w'))
  (h:RdZ w R b v L k 0 c0 q0)(hk:k<L.length)(hB:B<=w.heap.size):
  Calls prog 43 #[.pointer (some ⟨R,0,none⟩)] w fun e w'=>Kk (.inl x) B R b v L w e w':=by
 have hll:=hg.len;have HT:=hid (fun(W:World) (h:RdZ W R b v L k 0 c0 q0)=>Dl R b v L k 0 c0 q0 W h hk hll);have HT2:=hid (fun(W:World) (c q:Int) (hc:c≠0) (h:RdZ W R b v L k 0 c q)=>y0X R b v L k 0 c q W h hc hk hll);have HNe:=hid (fun(W:World) (c q:Int) (h:RdZ W R b v L k 0 c q) (hc:c≠0)=>Bz R b v L k 0 c q W h hc);have HW:=hid (fun(W:World) (h:RdZ W R b v L k 0 c0 q0)=>z4c R b v L k 0 c0 q0 W h hq hk hll);have HWe:=hid (fun(W:World) (c q:Int) (h:RdZ W R b v L k 0 c q) (hc:c≠0)=>z0c R b v L k 0 c q W h hc hk hll);obtain⟨t,ht⟩:∃t,t=nT L k c0:=⟨_,rfl⟩;rw[<-ht]at HT h1;clear ht hg;obtain⟨kt,Tt,Ct,pt⟩:=t;have b1:((kt:Int) != 1)=true:=by simp only at h1;rw[bne_iff_ne];omega
 clear h1;show Calls _ _ _ _ (fun e w'=>Kk (ruE Tt pt (.inl x)) B R b v L w e w');have HE:Hid (Ez Zr w R b v L k 0 c0 q0 (w.alloc Zr)):=Ez.start Zr h;clear h;go_enter func43,ntmps43
 go_wp2_with fail
 refine(HT.out _ HE.out.1).mono ?_;rintro e w1 ⟨rfl,hb1⟩;have HE1:=hid (HE.out.below hb1);clear hb1 HE HT;dsimp only[tkv];obtain⟨W1,hW1⟩:∃W1,W1=w1.alloc (.cells #[.int .i64 kt,.string Tt,.int .u64 (wd Ct 0),.int .u64 (wd Ct 1),.int .u64 (wd Ct 2),.int .u64 (wd Ct 3),.int .i64 pt] 83):=⟨_,rfl⟩;have HE2:Hid (Ez Zr w R b v L k 0 c0 q0 W1):=by rw[hW1];exact HE1.out.alloc _
 have HC2:Hid (W1.heap[w1.heap.size]? =some (.cells #[.int .i64 kt,.string Tt,.int .u64 (wd Ct 0),.int .u64 (wd Ct 1),.int .u64 (wd Ct 2),.int .u64 (wd Ct 3),.int .i64 pt] 83)):=by rw[hW1];exact Qq _ _ rfl
 have HW1:=hid hW1;have HL1:Hid (w.heap.size<w1.heap.size):=HE1.out.size;clear hW1 HE1
 go_wp2_with fail
 rw[<-HW1.out];refine(HW.out _ HE2.out.1).mono ?_;rintro e w2 ⟨rfl,hr2,hg2⟩;obtain⟨c',q',hc',hr2'⟩:=hr2.out;have HE3:=hid (HE2.out.grown hr2' hg2.out);have HC3:Hid (w2.heap[w1.heap.size]? =some (.cells #[.int .i64 kt,.string Tt,.int .u64 (wd Ct 0),.int .u64 (wd Ct 1),.int .u64 (wd Ct 2),.int .u64 (wd Ct 3),.int .i64 pt] 83)):=(hg2.out.block _ (Qz HC2.out) (fun e=>by have e2:w1.heap.size=R:=Option.some.inj e;have:=HL1.out;have:=HE2.out.lt;omega)).trans HC2.out;have HC':=hid hc';clear hr2 hg2 hr2' hc' HE2 HC2 HW
 go_wp2_with fail
 refine(HNe.out _ _ _ HE3.out.1 HC'.out).mono ?_;rintro e w3 ⟨rfl,hb3⟩;have HE4:=hid (HE3.out.below hb3);have HC4:=hid ((hb3.block _ (Qz HC3.out)).trans HC3.out);clear hb3 HE3 HC3
 go_wp2_with fail
 refine(HT2.out _ _ _ HC'.out HE4.out.1).mono ?_;rintro e w5 ⟨rfl,hb5⟩;have HE5:=hid (HE4.out.below hb5);have HC5:=hid ((hb5.block _ (Qz HC4.out)).trans HC4.out);clear hb5 HE4 HC4 HT2;dsimp only[tkv];obtain⟨W6,hW6⟩:∃W6,W6=w5.alloc (.cells #[.int .i64 6,.string ⟨#[]⟩,.int .u64 (wd 0 0),.int .u64 (wd 0 1),.int .u64 (wd 0 2),.int .u64 (wd 0 3),.int .i64 0] 83):=⟨_,rfl⟩;have HE6:Hid (Ez Zr w R b v L k 0 c' q' W6):=by rw[hW6];exact HE5.out.alloc _
 have HC6:Hid (W6.heap[w1.heap.size]? =some (.cells #[.int .i64 kt,.string Tt,.int .u64 (wd Ct 0),.int .u64 (wd Ct 1),.int .u64 (wd Ct 2),.int .u64 (wd Ct 3),.int .i64 pt] 83)):=by rw[hW6];exact(Below.heap_alloc _ _ _ (Qz HC5.out)).trans HC5.out
 have HW6:=hid hW6;clear hW6 HE5 HC5
 go_wp2_with fail
 (try rw[<-HW6.out])
 refine(HWe.out _ _ _ (by first|exact HE6.out.1|(rw[<-HW6.out];exact HE6.out.1)) HC'.out).mono ?_;rintro e w7 ⟨rfl,hb7⟩;have HE7:=hid (HE6.out.below hb7);have HC7:=hid ((hb7.block _ (Qz HC6.out)).trans HC6.out);clear hb7 HE6 HC6 HWe HW6
 go_wp2_with fail
 refine(HNe.out _ _ _ HE7.out.1 HC'.out).mono ?_;rintro e w8 ⟨rfl,hb8⟩;have HEc:=hid (HE7.out.below hb8);have HTc:=hid ((hb8.block _ (Qz HC7.out)).trans HC7.out);clear hb8 HE7 HC7 HNe
 go_wp2_with fail
 refine(HO.out _ _ _ HEc.out.1 HC'.out).mono ?_;rintro e w4 ⟨kd,T2,a0,a1,a2,a3,so,sl,sc,q2,k1,c1,q1,rfl,HX,HK1,hr4,hg4⟩;have HE4:=hid (HEc.out.grown hr4.out hg4.out);have HT4:Hid (w4.heap[w1.heap.size]? =some (.cells #[.int .i64 kt,.string Tt,.int .u64 (wd Ct 0),.int .u64 (wd Ct 1),.int .u64 (wd Ct 2),.int .u64 (wd Ct 3),.int .i64 pt] 83)):=(hg4.out.block _ (Qz HTc.out) (fun e=>by have e2:w1.heap.size=R:=Option.some.inj e;have:=HL1.out;have:=HEc.out.lt;omega)).trans HTc.out;clear hr4 hg4 HEc HTc HO;obtain⟨⟨t0,t1,t2,t3,t4,t5,t6⟩,_⟩:=Yy HT4.out;have ht4:=Qz HT4.out;have hs4:=HE4.out.size;have hL1:=HL1.out;obtain⟨⟨z0,z1,z2,z3,z4,z5,z6,z7,z8,z9⟩,⟨y0,y1,y2,y3,y4,y5,y6,y7,y8,y9⟩⟩:=Gg HE4.out.2.2.1;have hne:w1.heap.size≠w.heap.size:=by omega
 go_wp2_with fail
 (try simp only[Exit.inBlock,Exit.then])
 have hst:=(Below.heap_alloc (Gf w4 w.heap.size Tt kd T2 a0 a1 a2 a3 (.slice so sl sc) q2 (pt:Int)) (.cells #[.int .i64 kd,.string T2,.int .u64 a0,.int .u64 a1,.int .u64 a2,.int .u64 a3,.slice so sl sc,.int .i64 q2] 30) w.heap.size (by simp;omega)).trans (Ih HE4.out.2.2.1 Tt kd T2 a0 a1 a2 a3 (.slice so sl sc) q2 (pt:Int));obtain⟨⟨d0,d1,d2,d3,d4,d5,d6,d7,d8,d9⟩,_⟩:=Gg hst;refine bodyPost_ret (v:=.agg #[.string Tt,.int .i64 kd,.string T2,.int .u64 a0,.int .u64 a1,.int .u64 a2,.int .u64 a3,.slice so sl sc,.int .i64 q2,.int .i64 pt]) (by simp[results,Tryz.results43,go_sem]at d0 d1 d2 d3 d4 d5 d6 d7 d8 d9 ⊢;simp[d0,d1,d2,d3,d4,d5,d6,d7,d8,d9,go_sem]) rfl ?_;exact HE4.out.finU HK1.out.1 HX.out hB
theorem y0Y(R b:Nat)(v:Value)(L:List Tok)(k B:Nat)(w:World)(hg:Qv L)(h1:(gL L k).1=1)(h2:(gL L (k+1)).1≠2)(x:Nat×Nat)
  (HO:Hid (∀(W:World) (c q:Int),RdZ W R b v L (k+1) 0 c q->c≠0->Calls prog 67 #[.pointer (some ⟨R,0,none⟩)] W fun e w'=>Gz (Xp (w.heap.size+1) (.inl x)) R b v L 0 W e w'))
  (h:RdZ w R b v L k 0 0 0)(hk:k<L.length)(hB:B<=w.heap.size):
  Calls prog 43 #[.pointer (some ⟨R,0,none⟩)] w fun e w'=>Kk (.inl x) B R b v L w e w':=by
 have hll:=hg.len;have hk1:k+1<L.length:=hg.nxt k hk (by rw[h1];decide);have HT:=hid (fun(W:World) (h:RdZ W R b v L k 0 0 0)=>Uq R b v L k 0 W h hk hg);have HT2:=hid (fun(W:World) (h:RdZ W R b v L (k+1) 0 0 0)=>Uq R b v L (k+1) 0 W h hk1 hg);have HNx:=hid (fun(W:World) (k:Nat) (h:RdZ W R b v L k 0 0 0) (hk:k<L.length) (h6:(gL L k).1≠6)=>Yd R b v L k 0 W h hk hll h6);have HNe:=hid (fun(W:World) (c q:Int) (h:RdZ W R b v L (k+1) 0 c q) (hc:c≠0)=>Bz R b v L (k+1) 0 c q W h hc);have HW:=hid (fun(W:World) (h:RdZ W R b v L (k+1) 0 0 0)=>Oh R b v L (k+1) 0 W h hk1 hll);have h16:(gL L k).1≠6:=by rw[h1];decide
 obtain⟨t,ht⟩:∃t,t=gL L k:=⟨_,rfl⟩;obtain⟨a,hta⟩:∃a,a=gL L (k+1):=⟨_,rfl⟩;rw[<-ht]at HT h1;rw[<-hta]at HT2 h2;clear ht hta hg;obtain⟨kt,Tt,Ct,pt⟩:=t;obtain⟨ka,Ta,Ca,pa⟩:=a;obtain rfl:kt=1:=h1;have b2:((ka:Int) != 2)=true:=by simp only at h2;rw[bne_iff_ne];omega
 clear h2;show Calls _ _ _ _ (fun e w'=>Kk (ruE Tt pt (.inl x)) B R b v L w e w');have HE:Hid (Ez Zr w R b v L k 0 0 0 (w.alloc Zr)):=Ez.start Zr h;clear h;go_enter func43,ntmps43
 go_wp2_with fail
 refine(HT.out _ HE.out.1).mono ?_;rintro e w1 ⟨rfl,hb1⟩;have HE1:=hid (HE.out.below hb1);clear hb1 HE HT;dsimp only[tkv];obtain⟨W1,hW1⟩:∃W1,W1=w1.alloc (.cells #[.int .i64 1,.string Tt,.int .u64 (wd Ct 0),.int .u64 (wd Ct 1),.int .u64 (wd Ct 2),.int .u64 (wd Ct 3),.int .i64 pt] 83):=⟨_,rfl⟩;have HE2:Hid (Ez Zr w R b v L k 0 0 0 W1):=by rw[hW1];exact HE1.out.alloc _
 have HC2:Hid (W1.heap[w1.heap.size]? =some (.cells #[.int .i64 1,.string Tt,.int .u64 (wd Ct 0),.int .u64 (wd Ct 1),.int .u64 (wd Ct 2),.int .u64 (wd Ct 3),.int .i64 pt] 83)):=by rw[hW1];exact Qq _ _ rfl
 have HW1:=hid hW1;have HL1:Hid (w.heap.size<w1.heap.size):=HE1.out.size;clear hW1 HE1
 go_wp2_with fail
 rw[<-HW1.out];refine(HNx.out _ _ HE2.out.1 hk h16).mono ?_;rintro e w2 ⟨rfl,hrn,hgn⟩;have HE3:=hid (HE2.out.grown hrn hgn);have HC3:Hid (w2.heap[w1.heap.size]? =some (.cells #[.int .i64 1,.string Tt,.int .u64 (wd Ct 0),.int .u64 (wd Ct 1),.int .u64 (wd Ct 2),.int .u64 (wd Ct 3),.int .i64 pt] 83)):=(hgn.block _ (Qz HC2.out) (fun e=>by have e2:w1.heap.size=R:=Option.some.inj e;have:=HL1.out;have:=HE2.out.lt;omega)).trans HC2.out;clear hrn hgn HE2 HC2
 go_wp2_with fail
 refine(HT2.out _ HE3.out.1).mono ?_;rintro e w3 ⟨rfl,hb3⟩;have HE4:=hid (HE3.out.below hb3);have HC4:=hid ((hb3.block _ (Qz HC3.out)).trans HC3.out);clear hb3 HE3 HC3 HT2;dsimp only[tkv];obtain⟨W4,hW4⟩:∃W4,W4=w3.alloc (.cells #[.int .i64 ka,.string Ta,.int .u64 (wd Ca 0),.int .u64 (wd Ca 1),.int .u64 (wd Ca 2),.int .u64 (wd Ca 3),.int .i64 pa] 83):=⟨_,rfl⟩;have HE5:Hid (Ez Zr w R b v L (k+1) 0 0 0 W4):=by rw[hW4];exact HE4.out.alloc _
 have HC5:Hid (W4.heap[w1.heap.size]? =some (.cells #[.int .i64 1,.string Tt,.int .u64 (wd Ct 0),.int .u64 (wd Ct 1),.int .u64 (wd Ct 2),.int .u64 (wd Ct 3),.int .i64 pt] 83)):=by rw[hW4];exact(Below.heap_alloc _ _ _ (Qz HC4.out)).trans HC4.out
 have HW4:=hid hW4;clear hW4 HE4 HC4
 go_wp2_with fail
 rw[<-HW4.out];refine(HW.out _ HE5.out.1).mono ?_;rintro e w5 ⟨rfl,hr5,hg5⟩;obtain⟨c',q',hc',hr5'⟩:=hr5.out;have HE6:=hid (HE5.out.grown hr5' hg5.out);have HC6:Hid (w5.heap[w1.heap.size]? =some (.cells #[.int .i64 1,.string Tt,.int .u64 (wd Ct 0),.int .u64 (wd Ct 1),.int .u64 (wd Ct 2),.int .u64 (wd Ct 3),.int .i64 pt] 83)):=(hg5.out.block _ (Qz HC5.out) (fun e=>by have e2:w1.heap.size=R:=Option.some.inj e;have:=HL1.out;have:=HE5.out.lt;omega)).trans HC5.out;have HC':=hid hc';clear hr5 hg5 hr5' hc' HE5 HC5 HW HW4
 go_wp2_with fail
 refine(HNe.out _ _ _ HE6.out.1 HC'.out).mono ?_;rintro e w8 ⟨rfl,hb8⟩;have HEc:=hid (HE6.out.below hb8);have HTc:=hid ((hb8.block _ (Qz HC6.out)).trans HC6.out);clear hb8 HE6 HC6 HNe
 go_wp2_with fail
 refine(HO.out _ _ _ HEc.out.1 HC'.out).mono ?_;rintro e w4 ⟨kd,T2,a0,a1,a2,a3,so,sl,sc,q2,k1,c1,q1,rfl,HX,HK1,hr4,hg4⟩;have HE4:=hid (HEc.out.grown hr4.out hg4.out);have HT4:Hid (w4.heap[w1.heap.size]? =some (.cells #[.int .i64 1,.string Tt,.int .u64 (wd Ct 0),.int .u64 (wd Ct 1),.int .u64 (wd Ct 2),.int .u64 (wd Ct 3),.int .i64 pt] 83)):=(hg4.out.block _ (Qz HTc.out) (fun e=>by have e2:w1.heap.size=R:=Option.some.inj e;have:=HL1.out;have:=HEc.out.lt;omega)).trans HTc.out;clear hr4 hg4 HEc HTc HO;obtain⟨⟨t0,t1,t2,t3,t4,t5,t6⟩,_⟩:=Yy HT4.out;have ht4:=Qz HT4.out;have hs4:=HE4.out.size;have hL1:=HL1.out;obtain⟨⟨z0,z1,z2,z3,z4,z5,z6,z7,z8,z9⟩,⟨y0,y1,y2,y3,y4,y5,y6,y7,y8,y9⟩⟩:=Gg HE4.out.2.2.1;have hne:w1.heap.size≠w.heap.size:=by omega
 go_wp2_with fail
 (try simp only[Exit.inBlock,Exit.then])
 have hst:=(Below.heap_alloc (Gf w4 w.heap.size Tt kd T2 a0 a1 a2 a3 (.slice so sl sc) q2 (pt:Int)) (.cells #[.int .i64 kd,.string T2,.int .u64 a0,.int .u64 a1,.int .u64 a2,.int .u64 a3,.slice so sl sc,.int .i64 q2] 30) w.heap.size (by simp;omega)).trans (Ih HE4.out.2.2.1 Tt kd T2 a0 a1 a2 a3 (.slice so sl sc) q2 (pt:Int));obtain⟨⟨d0,d1,d2,d3,d4,d5,d6,d7,d8,d9⟩,_⟩:=Gg hst;refine bodyPost_ret (v:=.agg #[.string Tt,.int .i64 kd,.string T2,.int .u64 a0,.int .u64 a1,.int .u64 a2,.int .u64 a3,.slice so sl sc,.int .i64 q2,.int .i64 pt]) (by simp[results,Tryz.results43,go_sem]at d0 d1 d2 d3 d4 d5 d6 d7 d8 d9 ⊢;simp[d0,d1,d2,d3,d4,d5,d6,d7,d8,d9,go_sem]) rfl ?_;exact HE4.out.finU HK1.out.1 HX.out hB
end
end Go.Proofs.YtikfnaffiehpaaaGreatDoor
