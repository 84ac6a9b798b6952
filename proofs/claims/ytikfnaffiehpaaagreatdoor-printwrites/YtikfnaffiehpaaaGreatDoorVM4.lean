/- Lemmas for the last text. Conditions: those that each names. -/
import Derived.Test.YtikfnaffiehpaaaGreatDoorVM2ToM3
set_option linter.unusedVariables false
set_option maxRecDepth 100000
set_option maxHeartbeats 16000000
namespace Go.Proofs.YtikfnaffiehpaaaGreatDoor
open Go.Proofs.Tryz
section
open Go.RowKit
def Gz(X:World->Int->ByteArray->Int->Int->Int->Int->Option Addr->Nat->Nat->Int->Nat->Int->Int->Prop)(R b:Nat)(v:Value)(L:List Tok)(dp:Nat)(W:World)(e:Ending)(w':World):Prop:=
 ∃(kd:Int) (T2:ByteArray) (a0 a1 a2 a3:Int) (so:Option Addr) (sl sc:Nat) (q2:Int) (k1:Nat) (c1 q1:Int),e=.returned (.agg #[.int .i64 kd,.string T2,.int .u64 a0,.int .u64 a1,.int .u64 a2,.int .u64 a3,.slice so sl sc,.int .i64 q2])/\
  Hid (X w' kd T2 a0 a1 a2 a3 so sl sc q2 k1 c1 q1)/\Hid (k1<L.length/\(c1=0->q1=0))/\Hid (RdZ w' R b v L k1 dp c1 q1)/\Hid (W.grownBy w' (some R))
def sgI(j:Nat):UInt8:=if j=0 then 63 else if j=1 then 42 else 43
theorem Uy{L:List Tok}{k:Nat}{c:Int}{x:UInt8}(h:sgB (nT L k c) x=true):c=0/\(gL L k).1≠6:=by
 by_cases hc:c=0
 ·refine⟨hc,fun h6=> ?_⟩
  unfold nT at h;rw[if_pos hc]at h;have:=Xv (of_decide_eq_true h);omega
 ·rw[show nT L k c=(6,{data:=#[]},0,0)from if_neg hc,z3U]at h
  cases h
structure Fw (w w4:World) (R b:Nat) (v:Value) (L:List Tok) (k dp:Nat) (c q:Int) (W:World):Prop where
 rd:RdZ W R b v L k dp c q
 gr:w.grownBy W (some R)
 kp:∀i,w.heap.size<i->i<w4.heap.size->i≠R->W.heap[i]? =w4.heap[i]?
 lt:R<w.heap.size
 l4:w.heap.size<w4.heap.size
 vv:∀g,w.heap.size<=g->v.ownBlock≠some g
section
variable {w w4 W:World} {R b:Nat} {v:Value} {L:List Tok} {k dp:Nat} {c q:Int}
theorem Fw.of(h:Ew w R b v L k dp c q W)(hg:w4.grownBy W (some R))(hl:w.heap.size<w4.heap.size):Fw w w4 R b v L k dp c q W:=
 ⟨h.1,h.2.1,fun i _ h2 h3=>hg.block i h2 (fun e=>h3 (Option.some.inj e)),h.lt,hl,h.2.2.2.2⟩
theorem Fw.put(h:Fw w w4 R b v L k dp c q W){g:Nat}(hg:g=w.heap.size∨w4.heap.size<=g)(j:Nat)(u:Value):Fw w w4 R b v L k dp c q (W.setCell ⟨g,j,none⟩ u):=by
 have h1:=h.lt;have h2:=h.l4;exact⟨h.rd.other (by omega) (h.vv g (by omega)),G.setN h.gr (by omega),fun i a b c=>(Below.heap_setCell _ _ _ _ (show i≠g by omega)).trans (h.kp i a b c),h.lt,h.l4,h.vv⟩
theorem Fw.st8(h:Fw w w4 R b v L k dp c q W){g:Nat}(hg:g=w.heap.size∨w4.heap.size<=g)(kd:Int)(T:ByteArray)(c0 c1 c2 c3:Int)(sv:Value)(p:Int):Fw w w4 R b v L k dp c q (st8 W g kd T c0 c1 c2 c3 sv p):=
 (((((((h.put hg _ _).put hg _ _).put hg _ _).put hg _ _).put hg _ _).put hg _ _).put hg _ _).put hg _ _
theorem Fw.alloc(h:Fw w w4 R b v L k dp c q W)(hs:w4.heap.size<=W.heap.size)(o:Obj):Fw w w4 R b v L k dp c q (W.alloc o):=
 ⟨h.rd.alloc o,G.alloc h.gr,fun i a b c=>(Below.heap_alloc _ _ _ (by omega)).trans (h.kp i a b c),h.lt,h.l4,h.vv⟩
end
theorem Kz{W:World}{g i:Nat}(h:i≠g)(kd:Int)(T:ByteArray)(c0 c1 c2 c3:Int)(sv:Value)(p:Int):(st8 W g kd T c0 c1 c2 c3 sv p).heap[i]? =W.heap[i]? :=by
 have s:∀(V:World) (j:Nat) (u:Value),(V.setCell ⟨g,j,none⟩ u).heap[i]? =V.heap[i]? :=fun V j u=>Below.heap_setCell _ _ _ _ h
 unfold Go.Proofs.YtikfnaffiehpaaaGreatDoor.st8;rw[s,s,s,s,s,s,s,s]
theorem Zc(W:World)(g:Nat)(kd:Int)(T:ByteArray)(c0 c1 c2 c3:Int)(sv:Value)(p:Int):(st8 W g kd T c0 c1 c2 c3 sv p).heap.size=W.heap.size:=by simp
theorem Kx{w:World}{g:Nat}{a0 a1 a2:Value}{t:TypeId}(h:w.heap[g]? =some (.cells #[a0,a1,a2] t)):w.cell? ⟨g,0,none⟩=some a0/\w.cell? ⟨g,1,none⟩=some a1/\w.cell? ⟨g,2,none⟩=some a2:=by
 refine⟨?_,?_,?_⟩<;>simp[World.cell?,h]
theorem y0K(Q:Ending->World->Prop)(X:World->Int->ByteArray->Int->Int->Int->Int->Option Addr->Nat->Nat->Int->Nat->Int->Int->Prop)(R b:Nat)(v:Value)(L:List Tok)(k dp:Nat)(w:World)(h:RdZ w R b v L k dp 0 0)(hk:k<L.length)(hg:Qv L)(s1:sgB (gL L k) 38=false)(s2:sgB (gL L k) 33=false)
  (HO:Hid (∀W:World,RdZ W R b v L k dp 0 0->w.heap.size+1<=W.heap.size->Calls prog 133 #[.pointer (some ⟨R,0,none⟩)] W fun e w'=>Gz X R b v L dp W e w'))
  (HQ0:Hid (∀(kd:Int) (T2:ByteArray) (a0 a1 a2 a3:Int) (so:Option Addr) (sl sc:Nat) (q2:Int) (k1:Nat) (c1 q1:Int) (w4 W:World),X w4 kd T2 a0 a1 a2 a3 so sl sc q2 k1 c1 q1->k1<L.length->Fw w w4 R b v L k1 dp c1 q1 W->(∀j,j<3->sgB (nT L k1 c1) (sgI j)=false)->Q (.returned (.agg #[.int .i64 kd,.string T2,.int .u64 a0,.int .u64 a1,.int .u64 a2,.int .u64 a3,.slice so sl sc,.int .i64 q2])) W))
  (HQ1:Hid (∀(j:Nat),j<3->∀(kd:Int) (T2:ByteArray) (a0 a1 a2 a3:Int) (so:Option Addr) (sl sc:Nat) (q2:Int) (k1:Nat) (w4 W:World) (g:Nat),X w4 kd T2 a0 a1 a2 a3 so sl sc q2 k1 0 0->k1<L.length->Fw w w4 R b v L (k1+1) dp 0 0 W->sgB (gL L k1) (sgI j)=true->W.heap[g]? =some (.cells #[.int .i64 kd,.string T2,.int .u64 a0,.int .u64 a1,.int .u64 a2,.int .u64 a3,.slice so sl sc,.int .i64 q2] 30)->w4.heap.size<=g->Q (.returned (.agg #[.int .i64 (8+(j:Int)),.string ⟨#[]⟩,.int .u64 0,.int .u64 0,.int .u64 0,.int .u64 0,.slice (some ⟨g,0,none⟩) 1 1,.int .i64 q2])) W)):
  Calls prog 112 #[.pointer (some ⟨R,0,none⟩)] w Q:=by
 have HT:=hid (fun(W:World) (h:RdZ W R b v L k dp 0 0)=>Uq R b v L k dp W h hk hg);have HS1:=hid (fun(W:World) (h:RdZ W R b v L k dp 0 0)=>s1▸Uw R b v L k dp W 38 h hk hg);have HS2:=hid (fun(W:World) (h:RdZ W R b v L k dp 0 0)=>s2▸Uw R b v L k dp W 33 h hk hg);obtain⟨t,ht⟩:∃t,t=gL L k:=⟨_,rfl⟩;rw[<-ht]at HT;clear ht s1 s2;obtain⟨kt,Tt,Ct,pt⟩:=t;have HE:Hid (Ew w R b v L k dp 0 0 (w.alloc Zo)):=Ew.start h;have hll:=hg.len;clear h;go_enter func112,ntmps112
 go_wp2_with fail
 refine(HT.out _ HE.out.1).mono ?_;rintro e w1 ⟨rfl,hb1⟩;have HE1:=hid (HE.out.below hb1);clear hb1 HE HT;dsimp only[tkv];obtain⟨W1,hW1⟩:∃W1,W1=w1.alloc (.cells #[.int .i64 kt,.string Tt,.int .u64 (wd Ct 0),.int .u64 (wd Ct 1),.int .u64 (wd Ct 2),.int .u64 (wd Ct 3),.int .i64 pt] 83):=⟨_,rfl⟩;have HE2:Hid (Ew w R b v L k dp 0 0 W1):=by rw[hW1];exact HE1.out.alloc _
 have HC2:Hid (W1.heap[w1.heap.size]? =some (.cells #[.int .i64 kt,.string Tt,.int .u64 (wd Ct 0),.int .u64 (wd Ct 1),.int .u64 (wd Ct 2),.int .u64 (wd Ct 3),.int .i64 pt] 83)):=by rw[hW1];exact Qq _ _ rfl
 have HW1:=hid hW1;have HL1:Hid (w.heap.size<w1.heap.size):=HE1.out.size;clear hW1 HE1
 go_wp2_with fail
 rw[<-HW1.out];refine(HS1.out _ HE2.out.1).mono ?_;rintro e w2 ⟨rfl,hb2⟩;have HE3:=hid (HE2.out.below hb2);have HC3:=hid ((hb2.block _ (Qz HC2.out)).trans HC2.out);clear hb2 HE2 HC2 HW1
 go_wp2_with fail
 refine(HS2.out _ HE3.out.1).mono ?_;rintro e w3 ⟨rfl,hb3⟩;have HE4:=hid (HE3.out.below hb3);have HC4:=hid ((hb3.block _ (Qz HC3.out)).trans HC3.out);clear hb3 HE3 HC3 HS1 HS2
 go_wp2_with fail
 have HE5:=hid HE4.out;have HC5:=hid HC4.out;clear HE4 HC4;refine(HO.out _ HE5.out.1 HE5.out.size).mono ?_;rintro e w4 ⟨kd,T2,a0,a1,a2,a3,so,sl,sc,q2,k1,c1,q1,rfl,HX,HK1,hr4,hg4⟩;have HE6:=hid (HE5.out.grown hr4.out hg4.out);have HC6:Hid (w4.heap[w1.heap.size]? =some (.cells #[.int .i64 kt,.string Tt,.int .u64 (wd Ct 0),.int .u64 (wd Ct 1),.int .u64 (wd Ct 2),.int .u64 (wd Ct 3),.int .i64 pt] 83)):=(hg4.out.block _ (Qz HC5.out) (fun e=>by have e2:w1.heap.size=R:=Option.some.inj e;have:=HL1.out;have:=HE5.out.lt;omega)).trans HC5.out;clear hr4 hg4 HE5 HC5 HO;have HE7:=hid ((HE6.out.alloc (.cells #[.int .i64 kd,.string T2,.int .u64 a0,.int .u64 a1,.int .u64 a2,.int .u64 a3,.slice so sl sc,.int .i64 q2] 30)).alloc (.cells #[.string {data:=#[63]},.string {data:=#[42]},.string {data:=#[43]}] 9));have HC7:Hid (((w4.alloc (.cells #[.int .i64 kd,.string T2,.int .u64 a0,.int .u64 a1,.int .u64 a2,.int .u64 a3,.slice so sl sc,.int .i64 q2] 30)).alloc (.cells #[.string {data:=#[63]},.string {data:=#[42]},.string {data:=#[43]}] 9)).heap[w1.heap.size]? =some (.cells #[.int .i64 kt,.string Tt,.int .u64 (wd Ct 0),.int .u64 (wd Ct 1),.int .u64 (wd Ct 2),.int .u64 (wd Ct 3),.int .i64 pt] 83)):=(Below.heap_alloc _ _ _ (by have:=Qz HC6.out;simp;omega)).trans ((Below.heap_alloc _ _ _ (Qz HC6.out)).trans HC6.out);have HN7:Hid (((w4.alloc (.cells #[.int .i64 kd,.string T2,.int .u64 a0,.int .u64 a1,.int .u64 a2,.int .u64 a3,.slice so sl sc,.int .i64 q2] 30)).alloc (.cells #[.string {data:=#[63]},.string {data:=#[42]},.string {data:=#[43]}] 9)).heap[w4.heap.size]? =some (.cells #[.int .i64 kd,.string T2,.int .u64 a0,.int .u64 a1,.int .u64 a2,.int .u64 a3,.slice so sl sc,.int .i64 q2] 30)):=(Below.heap_alloc _ _ _ (by simp)).trans (Qq w4 _ rfl);have HZ7:Hid (((w4.alloc (.cells #[.int .i64 kd,.string T2,.int .u64 a0,.int .u64 a1,.int .u64 a2,.int .u64 a3,.slice so sl sc,.int .i64 q2] 30)).alloc (.cells #[.string {data:=#[63]},.string {data:=#[42]},.string {data:=#[43]}] 9)).heap[w4.heap.size+1]? =some (.cells #[.string {data:=#[63]},.string {data:=#[42]},.string {data:=#[43]}] 9)):=Qq _ _ (by simp);have HG7:Hid (w4.grownBy ((w4.alloc (.cells #[.int .i64 kd,.string T2,.int .u64 a0,.int .u64 a1,.int .u64 a2,.int .u64 a3,.slice so sl sc,.int .i64 q2] 30)).alloc (.cells #[.string {data:=#[63]},.string {data:=#[42]},.string {data:=#[43]}] 9)) (some R)):=G.alloc (G.alloc (G.refl w4 R));have HS:=hid (fun(W:World) (x:UInt8) (h:RdZ W R b v L k1 dp c1 q1)=>Mh R b v L k1 dp c1 q1 W x h HK1.out.1 hll);have HL6:=hid (Qz HC6.out);clear HE6 HC6
 go_wp2_with fail
 go_loopw [8] (fun i wr=>∃j:Nat,i=.int .i64 j/\j<=3/\Hid (∀i,i<j->sgB (nT L k1 c1) (sgI i)=false)/\Hid (Ew w R b v L k1 dp c1 q1 wr)/\Hid (wr.heap[w1.heap.size]? =some (.cells #[.int .i64 kt,.string Tt,.int .u64 (wd Ct 0),.int .u64 (wd Ct 1),.int .u64 (wd Ct 2),.int .u64 (wd Ct 3),.int .i64 pt] 83))/\Hid (wr.heap[w4.heap.size]? =some (.cells #[.int .i64 kd,.string T2,.int .u64 a0,.int .u64 a1,.int .u64 a2,.int .u64 a3,.slice so sl sc,.int .i64 q2] 30))/\Hid (wr.heap[w4.heap.size+1]? =some (.cells #[.string {data:=#[63]},.string {data:=#[42]},.string {data:=#[43]}] 9))/\Hid (w4.grownBy wr (some R))) (fun i _=>3-(intOf i).toNat)
 case atStart=>exact⟨0,rfl,by omega,(fun i h=>absurd h (by omega)),HE7,HC7,HN7,HZ7,HG7⟩
 case round=>
  obtain⟨j,rfl,hj,HF,HE,HC,HN,HZ,HG⟩:=hrel;clear HE7 HC7 HN7 HZ7 HG7;have hx:j=0∨j=1∨j=2∨j=3:=by omega
  rcases hx with rfl|rfl|rfl|rfl
  ·obtain⟨z0,z1,z2⟩:=Kx HZ.out
   have hs0:=HE.out.size;have hs1:=Qz HN.out;have hs2:=Qz HZ.out;have hs3:=Qz HC.out;obtain⟨bx,hbx⟩:∃bx,bx=sgB (nT L k1 c1) 63:=⟨_,rfl⟩;have HSj:=hid (HS.out wr 63 HE.out.1);rw[<-hbx]at HSj;cases bx
   ·have HF2:Hid (∀i,i<0+1->sgB (nT L k1 c1) (sgI i)=false):=fun i hi=>by
     rcases Nat.lt_or_ge i 0 with h1|h1
     ·exact HF.out i h1
     ·obtain rfl:i=0:=by omega
      exact hbx.symm
    clear HF hbx HS
    go_wp2_with fail
    refine HSj.out.mono ?_;rintro e wx ⟨rfl,hbw⟩;have HEx:=hid (HE.out.below hbw);have HCx:=hid ((hbw.block _ hs3).trans HC.out);have HNx:=hid ((hbw.block _ hs1).trans HN.out);have HZx:=hid ((hbw.block _ hs2).trans HZ.out);have HGx:=hid (G.to HG.out hbw);clear hbw HSj HE HC HN HZ HG z0 z1 z2
    go_wp2_with fail
    go_roundw
    case rel=>exact⟨0+1,by go_num,by omega,HF2,HEx,HCx,HNx,HZx,HGx⟩
    case measure=>simp[intOf]
   ·obtain⟨hc0,h6⟩:=Uy (L:=L) (k:=k1) (c:=c1) hbx.symm
    have hq0:=HK1.out.2 hc0;subst hc0 hq0;have hsg:sgB (gL L k1) 63=true:=by rw[hbx,show nT L k1 0=gL L k1 from if_pos rfl]
    have HSG:=hid hsg;have HNX:=hid (fun(W:World) (h:RdZ W R b v L k1 dp 0 0)=>Yd R b v L k1 dp W h HK1.out.1 hll h6);clear hbx HF HS hsg h6
    go_wp2_with fail
    refine HSj.out.mono ?_;rintro e wx ⟨rfl,hbw⟩;have HEx:=hid (HE.out.below hbw);have HCx:=hid ((hbw.block _ hs3).trans HC.out);have HNx:=hid ((hbw.block _ hs1).trans HN.out);have HGx:=hid (G.to HG.out hbw);clear hbw HSj HE HC HN HZ HG z0 z1 z2
    go_wp2_with fail
    refine(HNX.out _ HEx.out.1).mono ?_;rintro e wy ⟨rfl,hry,hgy⟩;have HEy:=hid (HEx.out.grown hry hgy);have HCy:Hid (wy.heap[w1.heap.size]? =some (.cells #[.int .i64 kt,.string Tt,.int .u64 (wd Ct 0),.int .u64 (wd Ct 1),.int .u64 (wd Ct 2),.int .u64 (wd Ct 3),.int .i64 pt] 83)):=(hgy.block _ (Qz HCx.out) (fun e=>by have e2:w1.heap.size=R:=Option.some.inj e;have:=HL1.out;have:=HEx.out.lt;omega)).trans HCx.out;have HNy:Hid (wy.heap[w4.heap.size]? =some (.cells #[.int .i64 kd,.string T2,.int .u64 a0,.int .u64 a1,.int .u64 a2,.int .u64 a3,.slice so sl sc,.int .i64 q2] 30)):=(hgy.block _ (Qz HNx.out) (fun e=>by have e2:w4.heap.size=R:=Option.some.inj e;have:=HL6.out;have:=HL1.out;have:=HEx.out.lt;omega)).trans HNx.out;have HGy:=hid (G.trans HGx.out hgy);clear hry hgy HEx HCx HNx HGx HNX;obtain⟨⟨m0,m1,m2,m3,m4,m5,m6,m7⟩,⟨g0,g1,g2,g3,g4,g5,g6,g7⟩⟩:=Qk HNy.out;obtain⟨⟨k0,k1',k2,k3,k4,k5,k6,k7⟩,⟨f0,f1,f2,f3,f4,f5,f6,f7⟩⟩:=HEy.out.cells;have hs0:=HEy.out.size;have hs1:=Qz HNy.out;have hL6:=HL6.out;have hL1:=HL1.out
    go_wp2_with fail
    (try simp only[Exit.inBlock,Exit.then])
    have hZo:=(Below.heap_alloc (st8 (st8 wy w4.heap.size (8+0) {data:=#[]} 0 0 0 0 (.slice (some ⟨wy.heap.size,0,none⟩) 1 1) q2) w.heap.size (8+0) {data:=#[]} 0 0 0 0 (.slice (some ⟨wy.heap.size,0,none⟩) 1 1) q2) (.cells #[.int .i64 kd,.string T2,.int .u64 a0,.int .u64 a1,.int .u64 a2,.int .u64 a3,.slice so sl sc,.int .i64 q2] 30) w.heap.size (by rw[Zc,Zc];exact hs0)).trans (Zx ((Kz (by omega) _ _ _ _ _ _ _ _).trans HEy.out.2.2.1) (8+0) {data:=#[]} 0 0 0 0 (.slice (some ⟨wy.heap.size,0,none⟩) 1 1) q2);obtain⟨⟨c0,c1,c2,c3,c4,c5,c6,c7⟩,_⟩:=Qk hZo;refine bodyPost_ret (v:=.agg #[.int .i64 (8+0),.string ⟨#[]⟩,.int .u64 0,.int .u64 0,.int .u64 0,.int .u64 0,.slice (some ⟨wy.heap.size,0,none⟩) 1 1,.int .i64 q2]) (by simp[results,Tryz.results112,go_sem]at c0 c1 c2 c3 c4 c5 c6 c7 ⊢;simp[c0,c1,c2,c3,c4,c5,c6,c7,go_sem]) rfl ?_;exact HQ1.out 0 (by omega) kd T2 a0 a1 a2 a3 so sl sc q2 k1 w4 _ wy.heap.size HX.out HK1.out.1 ((((Fw.of HEy.out HGy.out (by omega)).st8 (.inr L0q) _ _ _ _ _ _ _ _).st8 (.inl rfl) _ _ _ _ _ _ _ _).alloc (by rw[Zc,Zc];omega) _) HSG.out (Qq _ _ (by rw[Zc,Zc])) (by omega)
  ·obtain⟨z0,z1,z2⟩:=Kx HZ.out
   have hs0:=HE.out.size;have hs1:=Qz HN.out;have hs2:=Qz HZ.out;have hs3:=Qz HC.out;obtain⟨bx,hbx⟩:∃bx,bx=sgB (nT L k1 c1) 42:=⟨_,rfl⟩;have HSj:=hid (HS.out wr 42 HE.out.1);rw[<-hbx]at HSj;cases bx
   ·have HF2:Hid (∀i,i<1+1->sgB (nT L k1 c1) (sgI i)=false):=fun i hi=>by
     rcases Nat.lt_or_ge i 1 with h1|h1
     ·exact HF.out i h1
     ·obtain rfl:i=1:=by omega
      exact hbx.symm
    clear HF hbx HS
    go_wp2_with fail
    refine HSj.out.mono ?_;rintro e wx ⟨rfl,hbw⟩;have HEx:=hid (HE.out.below hbw);have HCx:=hid ((hbw.block _ hs3).trans HC.out);have HNx:=hid ((hbw.block _ hs1).trans HN.out);have HZx:=hid ((hbw.block _ hs2).trans HZ.out);have HGx:=hid (G.to HG.out hbw);clear hbw HSj HE HC HN HZ HG z0 z1 z2
    go_wp2_with fail
    go_roundw
    case rel=>exact⟨1+1,by go_num,by omega,HF2,HEx,HCx,HNx,HZx,HGx⟩
    case measure=>simp[intOf]
   ·obtain⟨hc0,h6⟩:=Uy (L:=L) (k:=k1) (c:=c1) hbx.symm
    have hq0:=HK1.out.2 hc0;subst hc0 hq0;have hsg:sgB (gL L k1) 42=true:=by rw[hbx,show nT L k1 0=gL L k1 from if_pos rfl]
    have HSG:=hid hsg;have HNX:=hid (fun(W:World) (h:RdZ W R b v L k1 dp 0 0)=>Yd R b v L k1 dp W h HK1.out.1 hll h6);clear hbx HF HS hsg h6
    go_wp2_with fail
    refine HSj.out.mono ?_;rintro e wx ⟨rfl,hbw⟩;have HEx:=hid (HE.out.below hbw);have HCx:=hid ((hbw.block _ hs3).trans HC.out);have HNx:=hid ((hbw.block _ hs1).trans HN.out);have HGx:=hid (G.to HG.out hbw);clear hbw HSj HE HC HN HZ HG z0 z1 z2
    go_wp2_with fail
    refine(HNX.out _ HEx.out.1).mono ?_;rintro e wy ⟨rfl,hry,hgy⟩;have HEy:=hid (HEx.out.grown hry hgy);have HCy:Hid (wy.heap[w1.heap.size]? =some (.cells #[.int .i64 kt,.string Tt,.int .u64 (wd Ct 0),.int .u64 (wd Ct 1),.int .u64 (wd Ct 2),.int .u64 (wd Ct 3),.int .i64 pt] 83)):=(hgy.block _ (Qz HCx.out) (fun e=>by have e2:w1.heap.size=R:=Option.some.inj e;have:=HL1.out;have:=HEx.out.lt;omega)).trans HCx.out;have HNy:Hid (wy.heap[w4.heap.size]? =some (.cells #[.int .i64 kd,.string T2,.int .u64 a0,.int .u64 a1,.int .u64 a2,.int .u64 a3,.slice so sl sc,.int .i64 q2] 30)):=(hgy.block _ (Qz HNx.out) (fun e=>by have e2:w4.heap.size=R:=Option.some.inj e;have:=HL6.out;have:=HL1.out;have:=HEx.out.lt;omega)).trans HNx.out;have HGy:=hid (G.trans HGx.out hgy);clear hry hgy HEx HCx HNx HGx HNX;obtain⟨⟨m0,m1,m2,m3,m4,m5,m6,m7⟩,⟨g0,g1,g2,g3,g4,g5,g6,g7⟩⟩:=Qk HNy.out;obtain⟨⟨k0,k1',k2,k3,k4,k5,k6,k7⟩,⟨f0,f1,f2,f3,f4,f5,f6,f7⟩⟩:=HEy.out.cells;have hs0:=HEy.out.size;have hs1:=Qz HNy.out;have hL6:=HL6.out;have hL1:=HL1.out
    go_wp2_with fail
    (try simp only[Exit.inBlock,Exit.then])
    have hZo:=(Below.heap_alloc (st8 (st8 wy w4.heap.size (8+1) {data:=#[]} 0 0 0 0 (.slice (some ⟨wy.heap.size,0,none⟩) 1 1) q2) w.heap.size (8+1) {data:=#[]} 0 0 0 0 (.slice (some ⟨wy.heap.size,0,none⟩) 1 1) q2) (.cells #[.int .i64 kd,.string T2,.int .u64 a0,.int .u64 a1,.int .u64 a2,.int .u64 a3,.slice so sl sc,.int .i64 q2] 30) w.heap.size (by rw[Zc,Zc];exact hs0)).trans (Zx ((Kz (by omega) _ _ _ _ _ _ _ _).trans HEy.out.2.2.1) (8+1) {data:=#[]} 0 0 0 0 (.slice (some ⟨wy.heap.size,0,none⟩) 1 1) q2);obtain⟨⟨c0,c1,c2,c3,c4,c5,c6,c7⟩,_⟩:=Qk hZo;refine bodyPost_ret (v:=.agg #[.int .i64 (8+1),.string ⟨#[]⟩,.int .u64 0,.int .u64 0,.int .u64 0,.int .u64 0,.slice (some ⟨wy.heap.size,0,none⟩) 1 1,.int .i64 q2]) (by simp[results,Tryz.results112,go_sem]at c0 c1 c2 c3 c4 c5 c6 c7 ⊢;simp[c0,c1,c2,c3,c4,c5,c6,c7,go_sem]) rfl ?_;exact HQ1.out 1 (by omega) kd T2 a0 a1 a2 a3 so sl sc q2 k1 w4 _ wy.heap.size HX.out HK1.out.1 ((((Fw.of HEy.out HGy.out (by omega)).st8 (.inr L0q) _ _ _ _ _ _ _ _).st8 (.inl rfl) _ _ _ _ _ _ _ _).alloc (by rw[Zc,Zc];omega) _) HSG.out (Qq _ _ (by rw[Zc,Zc])) (by omega)
  ·obtain⟨z0,z1,z2⟩:=Kx HZ.out
   have hs0:=HE.out.size;have hs1:=Qz HN.out;have hs2:=Qz HZ.out;have hs3:=Qz HC.out;obtain⟨bx,hbx⟩:∃bx,bx=sgB (nT L k1 c1) 43:=⟨_,rfl⟩;have HSj:=hid (HS.out wr 43 HE.out.1);rw[<-hbx]at HSj;cases bx
   ·have HF2:Hid (∀i,i<2+1->sgB (nT L k1 c1) (sgI i)=false):=fun i hi=>by
     rcases Nat.lt_or_ge i 2 with h1|h1
     ·exact HF.out i h1
     ·obtain rfl:i=2:=by omega
      exact hbx.symm
    clear HF hbx HS
    go_wp2_with fail
    refine HSj.out.mono ?_;rintro e wx ⟨rfl,hbw⟩;have HEx:=hid (HE.out.below hbw);have HCx:=hid ((hbw.block _ hs3).trans HC.out);have HNx:=hid ((hbw.block _ hs1).trans HN.out);have HZx:=hid ((hbw.block _ hs2).trans HZ.out);have HGx:=hid (G.to HG.out hbw);clear hbw HSj HE HC HN HZ HG z0 z1 z2
    go_wp2_with fail
    go_roundw
    case rel=>exact⟨2+1,by go_num,by omega,HF2,HEx,HCx,HNx,HZx,HGx⟩
    case measure=>simp[intOf]
   ·obtain⟨hc0,h6⟩:=Uy (L:=L) (k:=k1) (c:=c1) hbx.symm
    have hq0:=HK1.out.2 hc0;subst hc0 hq0;have hsg:sgB (gL L k1) 43=true:=by rw[hbx,show nT L k1 0=gL L k1 from if_pos rfl]
    have HSG:=hid hsg;have HNX:=hid (fun(W:World) (h:RdZ W R b v L k1 dp 0 0)=>Yd R b v L k1 dp W h HK1.out.1 hll h6);clear hbx HF HS hsg h6
    go_wp2_with fail
    refine HSj.out.mono ?_;rintro e wx ⟨rfl,hbw⟩;have HEx:=hid (HE.out.below hbw);have HCx:=hid ((hbw.block _ hs3).trans HC.out);have HNx:=hid ((hbw.block _ hs1).trans HN.out);have HGx:=hid (G.to HG.out hbw);clear hbw HSj HE HC HN HZ HG z0 z1 z2
    go_wp2_with fail
    refine(HNX.out _ HEx.out.1).mono ?_;rintro e wy ⟨rfl,hry,hgy⟩;have HEy:=hid (HEx.out.grown hry hgy);have HCy:Hid (wy.heap[w1.heap.size]? =some (.cells #[.int .i64 kt,.string Tt,.int .u64 (wd Ct 0),.int .u64 (wd Ct 1),.int .u64 (wd Ct 2),.int .u64 (wd Ct 3),.int .i64 pt] 83)):=(hgy.block _ (Qz HCx.out) (fun e=>by have e2:w1.heap.size=R:=Option.some.inj e;have:=HL1.out;have:=HEx.out.lt;omega)).trans HCx.out;have HNy:Hid (wy.heap[w4.heap.size]? =some (.cells #[.int .i64 kd,.string T2,.int .u64 a0,.int .u64 a1,.int .u64 a2,.int .u64 a3,.slice so sl sc,.int .i64 q2] 30)):=(hgy.block _ (Qz HNx.out) (fun e=>by have e2:w4.heap.size=R:=Option.some.inj e;have:=HL6.out;have:=HL1.out;have:=HEx.out.lt;omega)).trans HNx.out;have HGy:=hid (G.trans HGx.out hgy);clear hry hgy HEx HCx HNx HGx HNX;obtain⟨⟨m0,m1,m2,m3,m4,m5,m6,m7⟩,⟨g0,g1,g2,g3,g4,g5,g6,g7⟩⟩:=Qk HNy.out;obtain⟨⟨k0,k1',k2,k3,k4,k5,k6,k7⟩,⟨f0,f1,f2,f3,f4,f5,f6,f7⟩⟩:=HEy.out.cells;have hs0:=HEy.out.size;have hs1:=Qz HNy.out;have hL6:=HL6.out;have hL1:=HL1.out
    go_wp2_with fail
    (try simp only[Exit.inBlock,Exit.then])
    have hZo:=(Below.heap_alloc (st8 (st8 wy w4.heap.size (8+2) {data:=#[]} 0 0 0 0 (.slice (some ⟨wy.heap.size,0,none⟩) 1 1) q2) w.heap.size (8+2) {data:=#[]} 0 0 0 0 (.slice (some ⟨wy.heap.size,0,none⟩) 1 1) q2) (.cells #[.int .i64 kd,.string T2,.int .u64 a0,.int .u64 a1,.int .u64 a2,.int .u64 a3,.slice so sl sc,.int .i64 q2] 30) w.heap.size (by rw[Zc,Zc];exact hs0)).trans (Zx ((Kz (by omega) _ _ _ _ _ _ _ _).trans HEy.out.2.2.1) (8+2) {data:=#[]} 0 0 0 0 (.slice (some ⟨wy.heap.size,0,none⟩) 1 1) q2);obtain⟨⟨c0,c1,c2,c3,c4,c5,c6,c7⟩,_⟩:=Qk hZo;refine bodyPost_ret (v:=.agg #[.int .i64 (8+2),.string ⟨#[]⟩,.int .u64 0,.int .u64 0,.int .u64 0,.int .u64 0,.slice (some ⟨wy.heap.size,0,none⟩) 1 1,.int .i64 q2]) (by simp[results,Tryz.results112,go_sem]at c0 c1 c2 c3 c4 c5 c6 c7 ⊢;simp[c0,c1,c2,c3,c4,c5,c6,c7,go_sem]) rfl ?_;exact HQ1.out 2 (by omega) kd T2 a0 a1 a2 a3 so sl sc q2 k1 w4 _ wy.heap.size HX.out HK1.out.1 ((((Fw.of HEy.out HGy.out (by omega)).st8 (.inr L0q) _ _ _ _ _ _ _ _).st8 (.inl rfl) _ _ _ _ _ _ _ _).alloc (by rw[Zc,Zc];omega) _) HSG.out (Qq _ _ (by rw[Zc,Zc])) (by omega)
  ·clear HS
   have hs0:=HE.out.size;have hs1:=Qz HN.out;have hL6:=HL6.out;have hL1:=HL1.out;obtain⟨⟨m0,m1,m2,m3,m4,m5,m6,m7⟩,⟨g0,g1,g2,g3,g4,g5,g6,g7⟩⟩:=Qk HN.out;obtain⟨⟨k0,k1',k2,k3,k4,k5,k6,k7⟩,⟨f0,f1,f2,f3,f4,f5,f6,f7⟩⟩:=HE.out.cells
   go_wp2_with fail
   (try simp only[Exit.inBlock,Exit.then])
   have hZo:=Zx HE.out.2.2.1 kd T2 a0 a1 a2 a3 (.slice so sl sc) q2;obtain⟨⟨d0,d1,d2,d3,d4,d5,d6,d7⟩,_⟩:=Qk hZo;refine bodyPost_ret (v:=.agg #[.int .i64 kd,.string T2,.int .u64 a0,.int .u64 a1,.int .u64 a2,.int .u64 a3,.slice so sl sc,.int .i64 q2]) (by simp[results,Tryz.results112,go_sem,d0,d1,d2,d3,d4,d5,d6,d7]) rfl ?_;exact HQ0.out kd T2 a0 a1 a2 a3 so sl sc q2 k1 c1 q1 w4 _ HX.out HK1.out.1 ((Fw.of HE.out HG.out (by omega)).st8 (.inl rfl) _ _ _ _ _ _ _ _) HF.out
theorem y0L(Q:Ending->World->Prop)(X:World->Int->ByteArray->Int->Int->Int->Int->Option Addr->Nat->Nat->Int->Nat->Int->Int->Prop)(R b:Nat)(v:Value)(L:List Tok)(k dp:Nat)(w:World)(h:RdZ w R b v L k dp 0 0)(hk:k<L.length)(hg:Qv L)(s1:sgB (gL L k) 38=true)(s2:sgB (gL L k) 33=false)
  (HO:Hid (∀W:World,RdZ W R b v L (k+1) dp 0 0->w.heap.size+1<=W.heap.size->Calls prog 133 #[.pointer (some ⟨R,0,none⟩)] W fun e w'=>Gz X R b v L dp W e w'))
  (HQ0:Hid (∀(kd:Int) (T2:ByteArray) (a0 a1 a2 a3:Int) (so:Option Addr) (sl sc:Nat) (q2:Int) (k1:Nat) (c1 q1:Int) (w4 W:World),X w4 kd T2 a0 a1 a2 a3 so sl sc q2 k1 c1 q1->k1<L.length->Fw w w4 R b v L k1 dp c1 q1 W->(∀j,j<3->sgB (nT L k1 c1) (sgI j)=false)->∀g,W.heap[g]? =some (.cells #[.int .i64 kd,.string T2,.int .u64 a0,.int .u64 a1,.int .u64 a2,.int .u64 a3,.slice so sl sc,.int .i64 q2] 30)->w4.heap.size<=g->Q (.returned (.agg #[.int .i64 11,.string ⟨#[]⟩,.int .u64 0,.int .u64 0,.int .u64 0,.int .u64 0,.slice (some ⟨g,0,none⟩) 1 1,.int .i64 ((gL L k).2.2.2:Int)])) W))
  (HQ1:Hid (∀(j:Nat),j<3->∀(kd:Int) (T2:ByteArray) (a0 a1 a2 a3:Int) (so:Option Addr) (sl sc:Nat) (q2:Int) (k1:Nat) (w4 W:World) (g:Nat),X w4 kd T2 a0 a1 a2 a3 so sl sc q2 k1 0 0->k1<L.length->Fw w w4 R b v L (k1+1) dp 0 0 W->sgB (gL L k1) (sgI j)=true->W.heap[g]? =some (.cells #[.int .i64 kd,.string T2,.int .u64 a0,.int .u64 a1,.int .u64 a2,.int .u64 a3,.slice so sl sc,.int .i64 q2] 30)->w4.heap.size<=g->∀g2,W.heap[g2]? =some (.cells #[.int .i64 (8+(j:Int)),.string ⟨#[]⟩,.int .u64 0,.int .u64 0,.int .u64 0,.int .u64 0,.slice (some ⟨g,0,none⟩) 1 1,.int .i64 q2] 30)->w4.heap.size<=g2->Q (.returned (.agg #[.int .i64 11,.string ⟨#[]⟩,.int .u64 0,.int .u64 0,.int .u64 0,.int .u64 0,.slice (some ⟨g2,0,none⟩) 1 1,.int .i64 ((gL L k).2.2.2:Int)])) W)):
  Calls prog 112 #[.pointer (some ⟨R,0,none⟩)] w Q:=by
 have HT:=hid (fun(W:World) (h:RdZ W R b v L k dp 0 0)=>Uq R b v L k dp W h hk hg);have HS1:=hid (fun(W:World) (h:RdZ W R b v L k dp 0 0)=>s1▸Uw R b v L k dp W 38 h hk hg);have HS2:=hid (fun(W:World) (h:RdZ W R b v L k dp 0 0)=>s2▸Uw R b v L k dp W 33 h hk hg);have hk6:(gL L k).1≠6:=(Uy (L:=L) (k:=k) (c:=0) (by rw[show nT L k 0=gL L k from if_pos rfl];exact s1)).2;have HNx:=hid (fun(W:World) (h:RdZ W R b v L k dp 0 0)=>Yd R b v L k dp W h hk hg.len hk6);obtain⟨t,ht⟩:∃t,t=gL L k:=⟨_,rfl⟩;rw[<-ht]at HT HQ0 HQ1;clear ht s1 s2;obtain⟨kt,Tt,Ct,pt⟩:=t;have HE:Hid (Ew w R b v L k dp 0 0 (w.alloc Zo)):=Ew.start h;have hll:=hg.len;clear h;go_enter func112,ntmps112
 go_wp2_with fail
 refine(HT.out _ HE.out.1).mono ?_;rintro e w1 ⟨rfl,hb1⟩;have HE1:=hid (HE.out.below hb1);clear hb1 HE HT;dsimp only[tkv];obtain⟨W1,hW1⟩:∃W1,W1=w1.alloc (.cells #[.int .i64 kt,.string Tt,.int .u64 (wd Ct 0),.int .u64 (wd Ct 1),.int .u64 (wd Ct 2),.int .u64 (wd Ct 3),.int .i64 pt] 83):=⟨_,rfl⟩;have HE2:Hid (Ew w R b v L k dp 0 0 W1):=by rw[hW1];exact HE1.out.alloc _
 have HC2:Hid (W1.heap[w1.heap.size]? =some (.cells #[.int .i64 kt,.string Tt,.int .u64 (wd Ct 0),.int .u64 (wd Ct 1),.int .u64 (wd Ct 2),.int .u64 (wd Ct 3),.int .i64 pt] 83)):=by rw[hW1];exact Qq _ _ rfl
 have HW1:=hid hW1;have HL1:Hid (w.heap.size<w1.heap.size):=HE1.out.size;clear hW1 HE1
 go_wp2_with fail
 rw[<-HW1.out];refine(HS1.out _ HE2.out.1).mono ?_;rintro e w2 ⟨rfl,hb2⟩;have HE3:=hid (HE2.out.below hb2);have HC3:=hid ((hb2.block _ (Qz HC2.out)).trans HC2.out);clear hb2 HE2 HC2 HW1
 go_wp2_with fail
 refine(HS2.out _ HE3.out.1).mono ?_;rintro e w3 ⟨rfl,hb3⟩;have HE4:=hid (HE3.out.below hb3);have HC4:=hid ((hb3.block _ (Qz HC3.out)).trans HC3.out);clear hb3 HE3 HC3 HS1 HS2
 go_wp2_with fail
 refine(HNx.out _ HE4.out.1).mono ?_;rintro e w3' ⟨rfl,hr3,hg3⟩;have HE5:=hid (HE4.out.grown hr3 hg3);have HC5:Hid (w3'.heap[w1.heap.size]? =some (.cells #[.int .i64 kt,.string Tt,.int .u64 (wd Ct 0),.int .u64 (wd Ct 1),.int .u64 (wd Ct 2),.int .u64 (wd Ct 3),.int .i64 pt] 83)):=(hg3.block _ (Qz HC4.out) (fun e=>by have e2:w1.heap.size=R:=Option.some.inj e;have:=HL1.out;have:=HE4.out.lt;omega)).trans HC4.out;clear hr3 hg3 HE4 HC4 HNx hk6
 go_wp2_with fail
 refine(HO.out _ HE5.out.1 HE5.out.size).mono ?_;rintro e w4 ⟨kd,T2,a0,a1,a2,a3,so,sl,sc,q2,k1,c1,q1,rfl,HX,HK1,hr4,hg4⟩;have HE6:=hid (HE5.out.grown hr4.out hg4.out);have HC6:Hid (w4.heap[w1.heap.size]? =some (.cells #[.int .i64 kt,.string Tt,.int .u64 (wd Ct 0),.int .u64 (wd Ct 1),.int .u64 (wd Ct 2),.int .u64 (wd Ct 3),.int .i64 pt] 83)):=(hg4.out.block _ (Qz HC5.out) (fun e=>by have e2:w1.heap.size=R:=Option.some.inj e;have:=HL1.out;have:=HE5.out.lt;omega)).trans HC5.out;clear hr4 hg4 HE5 HC5 HO;have HE7:=hid ((HE6.out.alloc (.cells #[.int .i64 kd,.string T2,.int .u64 a0,.int .u64 a1,.int .u64 a2,.int .u64 a3,.slice so sl sc,.int .i64 q2] 30)).alloc (.cells #[.string {data:=#[63]},.string {data:=#[42]},.string {data:=#[43]}] 9));have HC7:Hid (((w4.alloc (.cells #[.int .i64 kd,.string T2,.int .u64 a0,.int .u64 a1,.int .u64 a2,.int .u64 a3,.slice so sl sc,.int .i64 q2] 30)).alloc (.cells #[.string {data:=#[63]},.string {data:=#[42]},.string {data:=#[43]}] 9)).heap[w1.heap.size]? =some (.cells #[.int .i64 kt,.string Tt,.int .u64 (wd Ct 0),.int .u64 (wd Ct 1),.int .u64 (wd Ct 2),.int .u64 (wd Ct 3),.int .i64 pt] 83)):=(Below.heap_alloc _ _ _ (by have:=Qz HC6.out;simp;omega)).trans ((Below.heap_alloc _ _ _ (Qz HC6.out)).trans HC6.out);have HN7:Hid (((w4.alloc (.cells #[.int .i64 kd,.string T2,.int .u64 a0,.int .u64 a1,.int .u64 a2,.int .u64 a3,.slice so sl sc,.int .i64 q2] 30)).alloc (.cells #[.string {data:=#[63]},.string {data:=#[42]},.string {data:=#[43]}] 9)).heap[w4.heap.size]? =some (.cells #[.int .i64 kd,.string T2,.int .u64 a0,.int .u64 a1,.int .u64 a2,.int .u64 a3,.slice so sl sc,.int .i64 q2] 30)):=(Below.heap_alloc _ _ _ (by simp)).trans (Qq w4 _ rfl);have HZ7:Hid (((w4.alloc (.cells #[.int .i64 kd,.string T2,.int .u64 a0,.int .u64 a1,.int .u64 a2,.int .u64 a3,.slice so sl sc,.int .i64 q2] 30)).alloc (.cells #[.string {data:=#[63]},.string {data:=#[42]},.string {data:=#[43]}] 9)).heap[w4.heap.size+1]? =some (.cells #[.string {data:=#[63]},.string {data:=#[42]},.string {data:=#[43]}] 9)):=Qq _ _ (by simp);have HG7:Hid (w4.grownBy ((w4.alloc (.cells #[.int .i64 kd,.string T2,.int .u64 a0,.int .u64 a1,.int .u64 a2,.int .u64 a3,.slice so sl sc,.int .i64 q2] 30)).alloc (.cells #[.string {data:=#[63]},.string {data:=#[42]},.string {data:=#[43]}] 9)) (some R)):=G.alloc (G.alloc (G.refl w4 R));have HS:=hid (fun(W:World) (x:UInt8) (h:RdZ W R b v L k1 dp c1 q1)=>Mh R b v L k1 dp c1 q1 W x h HK1.out.1 hll);have HL6:=hid (Qz HC6.out);clear HE6 HC6
 go_wp2_with fail
 go_loopw [8] (fun i wr=>∃j:Nat,i=.int .i64 j/\j<=3/\Hid (∀i,i<j->sgB (nT L k1 c1) (sgI i)=false)/\Hid (Ew w R b v L k1 dp c1 q1 wr)/\Hid (wr.heap[w1.heap.size]? =some (.cells #[.int .i64 kt,.string Tt,.int .u64 (wd Ct 0),.int .u64 (wd Ct 1),.int .u64 (wd Ct 2),.int .u64 (wd Ct 3),.int .i64 pt] 83))/\Hid (wr.heap[w4.heap.size]? =some (.cells #[.int .i64 kd,.string T2,.int .u64 a0,.int .u64 a1,.int .u64 a2,.int .u64 a3,.slice so sl sc,.int .i64 q2] 30))/\Hid (wr.heap[w4.heap.size+1]? =some (.cells #[.string {data:=#[63]},.string {data:=#[42]},.string {data:=#[43]}] 9))/\Hid (w4.grownBy wr (some R))) (fun i _=>3-(intOf i).toNat)
 case atStart=>exact⟨0,rfl,by omega,(fun i h=>absurd h (by omega)),HE7,HC7,HN7,HZ7,HG7⟩
 case round=>
  obtain⟨j,rfl,hj,HF,HE,HC,HN,HZ,HG⟩:=hrel;clear HE7 HC7 HN7 HZ7 HG7;have hx:j=0∨j=1∨j=2∨j=3:=by omega
  rcases hx with rfl|rfl|rfl|rfl
  ·obtain⟨z0,z1,z2⟩:=Kx HZ.out
   have hs0:=HE.out.size;have hs1:=Qz HN.out;have hs2:=Qz HZ.out;have hs3:=Qz HC.out;obtain⟨bx,hbx⟩:∃bx,bx=sgB (nT L k1 c1) 63:=⟨_,rfl⟩;have HSj:=hid (HS.out wr 63 HE.out.1);rw[<-hbx]at HSj;cases bx
   ·have HF2:Hid (∀i,i<0+1->sgB (nT L k1 c1) (sgI i)=false):=fun i hi=>by
     rcases Nat.lt_or_ge i 0 with h1|h1
     ·exact HF.out i h1
     ·obtain rfl:i=0:=by omega
      exact hbx.symm
    clear HF hbx HS
    go_wp2_with fail
    refine HSj.out.mono ?_;rintro e wx ⟨rfl,hbw⟩;have HEx:=hid (HE.out.below hbw);have HCx:=hid ((hbw.block _ hs3).trans HC.out);have HNx:=hid ((hbw.block _ hs1).trans HN.out);have HZx:=hid ((hbw.block _ hs2).trans HZ.out);have HGx:=hid (G.to HG.out hbw);clear hbw HSj HE HC HN HZ HG z0 z1 z2
    go_wp2_with fail
    go_roundw
    case rel=>exact⟨0+1,by go_num,by omega,HF2,HEx,HCx,HNx,HZx,HGx⟩
    case measure=>simp[intOf]
   ·obtain⟨hc0,h6⟩:=Uy (L:=L) (k:=k1) (c:=c1) hbx.symm
    have hq0:=HK1.out.2 hc0;subst hc0 hq0;have hsg:sgB (gL L k1) 63=true:=by rw[hbx,show nT L k1 0=gL L k1 from if_pos rfl]
    have HSG:=hid hsg;have HNX:=hid (fun(W:World) (h:RdZ W R b v L k1 dp 0 0)=>Yd R b v L k1 dp W h HK1.out.1 hll h6);clear hbx HF HS hsg h6
    go_wp2_with fail
    refine HSj.out.mono ?_;rintro e wx ⟨rfl,hbw⟩;have HEx:=hid (HE.out.below hbw);have HCx:=hid ((hbw.block _ hs3).trans HC.out);have HNx:=hid ((hbw.block _ hs1).trans HN.out);have HGx:=hid (G.to HG.out hbw);clear hbw HSj HE HC HN HZ HG z0 z1 z2
    go_wp2_with fail
    refine(HNX.out _ HEx.out.1).mono ?_;rintro e wy ⟨rfl,hry,hgy⟩;have HEy:=hid (HEx.out.grown hry hgy);have HCy:Hid (wy.heap[w1.heap.size]? =some (.cells #[.int .i64 kt,.string Tt,.int .u64 (wd Ct 0),.int .u64 (wd Ct 1),.int .u64 (wd Ct 2),.int .u64 (wd Ct 3),.int .i64 pt] 83)):=(hgy.block _ (Qz HCx.out) (fun e=>by have e2:w1.heap.size=R:=Option.some.inj e;have:=HL1.out;have:=HEx.out.lt;omega)).trans HCx.out;have HNy:Hid (wy.heap[w4.heap.size]? =some (.cells #[.int .i64 kd,.string T2,.int .u64 a0,.int .u64 a1,.int .u64 a2,.int .u64 a3,.slice so sl sc,.int .i64 q2] 30)):=(hgy.block _ (Qz HNx.out) (fun e=>by have e2:w4.heap.size=R:=Option.some.inj e;have:=HL6.out;have:=HL1.out;have:=HEx.out.lt;omega)).trans HNx.out;have HGy:=hid (G.trans HGx.out hgy);clear hry hgy HEx HCx HNx HGx HNX;obtain⟨⟨t0,t1,t2,t3,t4,t5,t6⟩,_⟩:=Yy HCy.out;have hs3:=Qz HCy.out;obtain⟨⟨m0,m1,m2,m3,m4,m5,m6,m7⟩,⟨g0,g1,g2,g3,g4,g5,g6,g7⟩⟩:=Qk HNy.out;obtain⟨⟨k0,k1',k2,k3,k4,k5,k6,k7⟩,⟨f0,f1,f2,f3,f4,f5,f6,f7⟩⟩:=HEy.out.cells;have hs0:=HEy.out.size;have hs1:=Qz HNy.out;have hL6:=HL6.out;have hL1:=HL1.out
    go_wp2_with fail
    (try simp only[Exit.inBlock,Exit.then])
    have hsz:((st8 (st8 wy w4.heap.size (8+0) {data:=#[]} 0 0 0 0 (.slice (some ⟨wy.heap.size,0,none⟩) 1 1) q2) w.heap.size 11 {data:=#[]} 0 0 0 0 (.slice (some ⟨wy.heap.size+1,0,none⟩) 1 1) (pt:Int))).heap.size=wy.heap.size:=by rw[Zc,Zc]
    have hZo:=(Below.heap_alloc (((st8 (st8 wy w4.heap.size (8+0) {data:=#[]} 0 0 0 0 (.slice (some ⟨wy.heap.size,0,none⟩) 1 1) q2) w.heap.size 11 {data:=#[]} 0 0 0 0 (.slice (some ⟨wy.heap.size+1,0,none⟩) 1 1) (pt:Int))).alloc (.cells #[.int .i64 kd,.string T2,.int .u64 a0,.int .u64 a1,.int .u64 a2,.int .u64 a3,.slice so sl sc,.int .i64 q2] 30)) (.cells #[.int .i64 (8+0),.string ⟨#[]⟩,.int .u64 0,.int .u64 0,.int .u64 0,.int .u64 0,.slice (some ⟨wy.heap.size,0,none⟩) 1 1,.int .i64 q2] 30) w.heap.size (by rw[World.size_alloc,hsz];omega)).trans ((Below.heap_alloc ((st8 (st8 wy w4.heap.size (8+0) {data:=#[]} 0 0 0 0 (.slice (some ⟨wy.heap.size,0,none⟩) 1 1) q2) w.heap.size 11 {data:=#[]} 0 0 0 0 (.slice (some ⟨wy.heap.size+1,0,none⟩) 1 1) (pt:Int))) (.cells #[.int .i64 kd,.string T2,.int .u64 a0,.int .u64 a1,.int .u64 a2,.int .u64 a3,.slice so sl sc,.int .i64 q2] 30) w.heap.size (by rw[hsz];exact hs0)).trans (Zx ((Kz (by omega) _ _ _ _ _ _ _ _).trans HEy.out.2.2.1) 11 {data:=#[]} 0 0 0 0 (.slice (some ⟨wy.heap.size+1,0,none⟩) 1 1) (pt:Int)));obtain⟨⟨d0,d1,d2,d3,d4,d5,d6,d7⟩,_⟩:=Qk hZo;refine bodyPost_ret (v:=.agg #[.int .i64 11,.string ⟨#[]⟩,.int .u64 0,.int .u64 0,.int .u64 0,.int .u64 0,.slice (some ⟨wy.heap.size+1,0,none⟩) 1 1,.int .i64 pt]) (by simp[results,Tryz.results112,go_sem]at d0 d1 d2 d3 d4 d5 d6 d7 ⊢;simp[d0,d1,d2,d3,d4,d5,d6,d7,go_sem]) rfl ?_;exact HQ1.out 0 (by omega) kd T2 a0 a1 a2 a3 so sl sc q2 k1 w4 _ wy.heap.size HX.out HK1.out.1 (((((Fw.of HEy.out HGy.out (by omega)).st8 (.inr L0q) _ _ _ _ _ _ _ _).st8 (.inl rfl) _ _ _ _ _ _ _ _).alloc (by rw[hsz];omega) _).alloc (by rw[World.size_alloc,hsz];omega) _) HSG.out ((Below.heap_alloc _ _ _ (by rw[World.size_alloc,hsz];omega)).trans (Qq _ _ hsz.symm)) (by omega) (wy.heap.size+1) (Qq _ _ (by rw[World.size_alloc,hsz])) (by omega)
  ·obtain⟨z0,z1,z2⟩:=Kx HZ.out
   have hs0:=HE.out.size;have hs1:=Qz HN.out;have hs2:=Qz HZ.out;have hs3:=Qz HC.out;obtain⟨bx,hbx⟩:∃bx,bx=sgB (nT L k1 c1) 42:=⟨_,rfl⟩;have HSj:=hid (HS.out wr 42 HE.out.1);rw[<-hbx]at HSj;cases bx
   ·have HF2:Hid (∀i,i<1+1->sgB (nT L k1 c1) (sgI i)=false):=fun i hi=>by
     rcases Nat.lt_or_ge i 1 with h1|h1
     ·exact HF.out i h1
     ·obtain rfl:i=1:=by omega
      exact hbx.symm
    clear HF hbx HS
    go_wp2_with fail
    refine HSj.out.mono ?_;rintro e wx ⟨rfl,hbw⟩;have HEx:=hid (HE.out.below hbw);have HCx:=hid ((hbw.block _ hs3).trans HC.out);have HNx:=hid ((hbw.block _ hs1).trans HN.out);have HZx:=hid ((hbw.block _ hs2).trans HZ.out);have HGx:=hid (G.to HG.out hbw);clear hbw HSj HE HC HN HZ HG z0 z1 z2
    go_wp2_with fail
    go_roundw
    case rel=>exact⟨1+1,by go_num,by omega,HF2,HEx,HCx,HNx,HZx,HGx⟩
    case measure=>simp[intOf]
   ·obtain⟨hc0,h6⟩:=Uy (L:=L) (k:=k1) (c:=c1) hbx.symm
    have hq0:=HK1.out.2 hc0;subst hc0 hq0;have hsg:sgB (gL L k1) 42=true:=by rw[hbx,show nT L k1 0=gL L k1 from if_pos rfl]
    have HSG:=hid hsg;have HNX:=hid (fun(W:World) (h:RdZ W R b v L k1 dp 0 0)=>Yd R b v L k1 dp W h HK1.out.1 hll h6);clear hbx HF HS hsg h6
    go_wp2_with fail
    refine HSj.out.mono ?_;rintro e wx ⟨rfl,hbw⟩;have HEx:=hid (HE.out.below hbw);have HCx:=hid ((hbw.block _ hs3).trans HC.out);have HNx:=hid ((hbw.block _ hs1).trans HN.out);have HGx:=hid (G.to HG.out hbw);clear hbw HSj HE HC HN HZ HG z0 z1 z2
    go_wp2_with fail
    refine(HNX.out _ HEx.out.1).mono ?_;rintro e wy ⟨rfl,hry,hgy⟩;have HEy:=hid (HEx.out.grown hry hgy);have HCy:Hid (wy.heap[w1.heap.size]? =some (.cells #[.int .i64 kt,.string Tt,.int .u64 (wd Ct 0),.int .u64 (wd Ct 1),.int .u64 (wd Ct 2),.int .u64 (wd Ct 3),.int .i64 pt] 83)):=(hgy.block _ (Qz HCx.out) (fun e=>by have e2:w1.heap.size=R:=Option.some.inj e;have:=HL1.out;have:=HEx.out.lt;omega)).trans HCx.out;have HNy:Hid (wy.heap[w4.heap.size]? =some (.cells #[.int .i64 kd,.string T2,.int .u64 a0,.int .u64 a1,.int .u64 a2,.int .u64 a3,.slice so sl sc,.int .i64 q2] 30)):=(hgy.block _ (Qz HNx.out) (fun e=>by have e2:w4.heap.size=R:=Option.some.inj e;have:=HL6.out;have:=HL1.out;have:=HEx.out.lt;omega)).trans HNx.out;have HGy:=hid (G.trans HGx.out hgy);clear hry hgy HEx HCx HNx HGx HNX;obtain⟨⟨t0,t1,t2,t3,t4,t5,t6⟩,_⟩:=Yy HCy.out;have hs3:=Qz HCy.out;obtain⟨⟨m0,m1,m2,m3,m4,m5,m6,m7⟩,⟨g0,g1,g2,g3,g4,g5,g6,g7⟩⟩:=Qk HNy.out;obtain⟨⟨k0,k1',k2,k3,k4,k5,k6,k7⟩,⟨f0,f1,f2,f3,f4,f5,f6,f7⟩⟩:=HEy.out.cells;have hs0:=HEy.out.size;have hs1:=Qz HNy.out;have hL6:=HL6.out;have hL1:=HL1.out
    go_wp2_with fail
    (try simp only[Exit.inBlock,Exit.then])
    have hsz:((st8 (st8 wy w4.heap.size (8+1) {data:=#[]} 0 0 0 0 (.slice (some ⟨wy.heap.size,0,none⟩) 1 1) q2) w.heap.size 11 {data:=#[]} 0 0 0 0 (.slice (some ⟨wy.heap.size+1,0,none⟩) 1 1) (pt:Int))).heap.size=wy.heap.size:=by rw[Zc,Zc]
    have hZo:=(Below.heap_alloc (((st8 (st8 wy w4.heap.size (8+1) {data:=#[]} 0 0 0 0 (.slice (some ⟨wy.heap.size,0,none⟩) 1 1) q2) w.heap.size 11 {data:=#[]} 0 0 0 0 (.slice (some ⟨wy.heap.size+1,0,none⟩) 1 1) (pt:Int))).alloc (.cells #[.int .i64 kd,.string T2,.int .u64 a0,.int .u64 a1,.int .u64 a2,.int .u64 a3,.slice so sl sc,.int .i64 q2] 30)) (.cells #[.int .i64 (8+1),.string ⟨#[]⟩,.int .u64 0,.int .u64 0,.int .u64 0,.int .u64 0,.slice (some ⟨wy.heap.size,0,none⟩) 1 1,.int .i64 q2] 30) w.heap.size (by rw[World.size_alloc,hsz];omega)).trans ((Below.heap_alloc ((st8 (st8 wy w4.heap.size (8+1) {data:=#[]} 0 0 0 0 (.slice (some ⟨wy.heap.size,0,none⟩) 1 1) q2) w.heap.size 11 {data:=#[]} 0 0 0 0 (.slice (some ⟨wy.heap.size+1,0,none⟩) 1 1) (pt:Int))) (.cells #[.int .i64 kd,.string T2,.int .u64 a0,.int .u64 a1,.int .u64 a2,.int .u64 a3,.slice so sl sc,.int .i64 q2] 30) w.heap.size (by rw[hsz];exact hs0)).trans (Zx ((Kz (by omega) _ _ _ _ _ _ _ _).trans HEy.out.2.2.1) 11 {data:=#[]} 0 0 0 0 (.slice (some ⟨wy.heap.size+1,0,none⟩) 1 1) (pt:Int)));obtain⟨⟨d0,d1,d2,d3,d4,d5,d6,d7⟩,_⟩:=Qk hZo;refine bodyPost_ret (v:=.agg #[.int .i64 11,.string ⟨#[]⟩,.int .u64 0,.int .u64 0,.int .u64 0,.int .u64 0,.slice (some ⟨wy.heap.size+1,0,none⟩) 1 1,.int .i64 pt]) (by simp[results,Tryz.results112,go_sem]at d0 d1 d2 d3 d4 d5 d6 d7 ⊢;simp[d0,d1,d2,d3,d4,d5,d6,d7,go_sem]) rfl ?_;exact HQ1.out 1 (by omega) kd T2 a0 a1 a2 a3 so sl sc q2 k1 w4 _ wy.heap.size HX.out HK1.out.1 (((((Fw.of HEy.out HGy.out (by omega)).st8 (.inr L0q) _ _ _ _ _ _ _ _).st8 (.inl rfl) _ _ _ _ _ _ _ _).alloc (by rw[hsz];omega) _).alloc (by rw[World.size_alloc,hsz];omega) _) HSG.out ((Below.heap_alloc _ _ _ (by rw[World.size_alloc,hsz];omega)).trans (Qq _ _ hsz.symm)) (by omega) (wy.heap.size+1) (Qq _ _ (by rw[World.size_alloc,hsz])) (by omega)
  ·obtain⟨z0,z1,z2⟩:=Kx HZ.out
   have hs0:=HE.out.size;have hs1:=Qz HN.out;have hs2:=Qz HZ.out;have hs3:=Qz HC.out;obtain⟨bx,hbx⟩:∃bx,bx=sgB (nT L k1 c1) 43:=⟨_,rfl⟩;have HSj:=hid (HS.out wr 43 HE.out.1);rw[<-hbx]at HSj;cases bx
   ·have HF2:Hid (∀i,i<2+1->sgB (nT L k1 c1) (sgI i)=false):=fun i hi=>by
     rcases Nat.lt_or_ge i 2 with h1|h1
     ·exact HF.out i h1
     ·obtain rfl:i=2:=by omega
      exact hbx.symm
    clear HF hbx HS
    go_wp2_with fail
    refine HSj.out.mono ?_;rintro e wx ⟨rfl,hbw⟩;have HEx:=hid (HE.out.below hbw);have HCx:=hid ((hbw.block _ hs3).trans HC.out);have HNx:=hid ((hbw.block _ hs1).trans HN.out);have HZx:=hid ((hbw.block _ hs2).trans HZ.out);have HGx:=hid (G.to HG.out hbw);clear hbw HSj HE HC HN HZ HG z0 z1 z2
    go_wp2_with fail
    go_roundw
    case rel=>exact⟨2+1,by go_num,by omega,HF2,HEx,HCx,HNx,HZx,HGx⟩
    case measure=>simp[intOf]
   ·obtain⟨hc0,h6⟩:=Uy (L:=L) (k:=k1) (c:=c1) hbx.symm
    have hq0:=HK1.out.2 hc0;subst hc0 hq0;have hsg:sgB (gL L k1) 43=true:=by rw[hbx,show nT L k1 0=gL L k1 from if_pos rfl]
    have HSG:=hid hsg;have HNX:=hid (fun(W:World) (h:RdZ W R b v L k1 dp 0 0)=>Yd R b v L k1 dp W h HK1.out.1 hll h6);clear hbx HF HS hsg h6
    go_wp2_with fail
    refine HSj.out.mono ?_;rintro e wx ⟨rfl,hbw⟩;have HEx:=hid (HE.out.below hbw);have HCx:=hid ((hbw.block _ hs3).trans HC.out);have HNx:=hid ((hbw.block _ hs1).trans HN.out);have HGx:=hid (G.to HG.out hbw);clear hbw HSj HE HC HN HZ HG z0 z1 z2
    go_wp2_with fail
    refine(HNX.out _ HEx.out.1).mono ?_;rintro e wy ⟨rfl,hry,hgy⟩;have HEy:=hid (HEx.out.grown hry hgy);have HCy:Hid (wy.heap[w1.heap.size]? =some (.cells #[.int .i64 kt,.string Tt,.int .u64 (wd Ct 0),.int .u64 (wd Ct 1),.int .u64 (wd Ct 2),.int .u64 (wd Ct 3),.int .i64 pt] 83)):=(hgy.block _ (Qz HCx.out) (fun e=>by have e2:w1.heap.size=R:=Option.some.inj e;have:=HL1.out;have:=HEx.out.lt;omega)).trans HCx.out;have HNy:Hid (wy.heap[w4.heap.size]? =some (.cells #[.int .i64 kd,.string T2,.int .u64 a0,.int .u64 a1,.int .u64 a2,.int .u64 a3,.slice so sl sc,.int .i64 q2] 30)):=(hgy.block _ (Qz HNx.out) (fun e=>by have e2:w4.heap.size=R:=Option.some.inj e;have:=HL6.out;have:=HL1.out;have:=HEx.out.lt;omega)).trans HNx.out;have HGy:=hid (G.trans HGx.out hgy);clear hry hgy HEx HCx HNx HGx HNX;obtain⟨⟨t0,t1,t2,t3,t4,t5,t6⟩,_⟩:=Yy HCy.out;have hs3:=Qz HCy.out;obtain⟨⟨m0,m1,m2,m3,m4,m5,m6,m7⟩,⟨g0,g1,g2,g3,g4,g5,g6,g7⟩⟩:=Qk HNy.out;obtain⟨⟨k0,k1',k2,k3,k4,k5,k6,k7⟩,⟨f0,f1,f2,f3,f4,f5,f6,f7⟩⟩:=HEy.out.cells;have hs0:=HEy.out.size;have hs1:=Qz HNy.out;have hL6:=HL6.out;have hL1:=HL1.out
    go_wp2_with fail
    (try simp only[Exit.inBlock,Exit.then])
    have hsz:((st8 (st8 wy w4.heap.size (8+2) {data:=#[]} 0 0 0 0 (.slice (some ⟨wy.heap.size,0,none⟩) 1 1) q2) w.heap.size 11 {data:=#[]} 0 0 0 0 (.slice (some ⟨wy.heap.size+1,0,none⟩) 1 1) (pt:Int))).heap.size=wy.heap.size:=by rw[Zc,Zc]
    have hZo:=(Below.heap_alloc (((st8 (st8 wy w4.heap.size (8+2) {data:=#[]} 0 0 0 0 (.slice (some ⟨wy.heap.size,0,none⟩) 1 1) q2) w.heap.size 11 {data:=#[]} 0 0 0 0 (.slice (some ⟨wy.heap.size+1,0,none⟩) 1 1) (pt:Int))).alloc (.cells #[.int .i64 kd,.string T2,.int .u64 a0,.int .u64 a1,.int .u64 a2,.int .u64 a3,.slice so sl sc,.int .i64 q2] 30)) (.cells #[.int .i64 (8+2),.string ⟨#[]⟩,.int .u64 0,.int .u64 0,.int .u64 0,.int .u64 0,.slice (some ⟨wy.heap.size,0,none⟩) 1 1,.int .i64 q2] 30) w.heap.size (by rw[World.size_alloc,hsz];omega)).trans ((Below.heap_alloc ((st8 (st8 wy w4.heap.size (8+2) {data:=#[]} 0 0 0 0 (.slice (some ⟨wy.heap.size,0,none⟩) 1 1) q2) w.heap.size 11 {data:=#[]} 0 0 0 0 (.slice (some ⟨wy.heap.size+1,0,none⟩) 1 1) (pt:Int))) (.cells #[.int .i64 kd,.string T2,.int .u64 a0,.int .u64 a1,.int .u64 a2,.int .u64 a3,.slice so sl sc,.int .i64 q2] 30) w.heap.size (by rw[hsz];exact hs0)).trans (Zx ((Kz (by omega) _ _ _ _ _ _ _ _).trans HEy.out.2.2.1) 11 {data:=#[]} 0 0 0 0 (.slice (some ⟨wy.heap.size+1,0,none⟩) 1 1) (pt:Int)));obtain⟨⟨d0,d1,d2,d3,d4,d5,d6,d7⟩,_⟩:=Qk hZo;refine bodyPost_ret (v:=.agg #[.int .i64 11,.string ⟨#[]⟩,.int .u64 0,.int .u64 0,.int .u64 0,.int .u64 0,.slice (some ⟨wy.heap.size+1,0,none⟩) 1 1,.int .i64 pt]) (by simp[results,Tryz.results112,go_sem]at d0 d1 d2 d3 d4 d5 d6 d7 ⊢;simp[d0,d1,d2,d3,d4,d5,d6,d7,go_sem]) rfl ?_;exact HQ1.out 2 (by omega) kd T2 a0 a1 a2 a3 so sl sc q2 k1 w4 _ wy.heap.size HX.out HK1.out.1 (((((Fw.of HEy.out HGy.out (by omega)).st8 (.inr L0q) _ _ _ _ _ _ _ _).st8 (.inl rfl) _ _ _ _ _ _ _ _).alloc (by rw[hsz];omega) _).alloc (by rw[World.size_alloc,hsz];omega) _) HSG.out ((Below.heap_alloc _ _ _ (by rw[World.size_alloc,hsz];omega)).trans (Qq _ _ hsz.symm)) (by omega) (wy.heap.size+1) (Qq _ _ (by rw[World.size_alloc,hsz])) (by omega)
  ·clear HS
   have hs0:=HE.out.size;have hs1:=Qz HN.out;have hL6:=HL6.out;have hL1:=HL1.out;obtain⟨⟨m0,m1,m2,m3,m4,m5,m6,m7⟩,⟨g0,g1,g2,g3,g4,g5,g6,g7⟩⟩:=Qk HN.out;obtain⟨⟨k0,k1',k2,k3,k4,k5,k6,k7⟩,⟨f0,f1,f2,f3,f4,f5,f6,f7⟩⟩:=HE.out.cells;obtain⟨⟨t0,t1,t2,t3,t4,t5,t6⟩,_⟩:=Yy HC.out;have hs3:=Qz HC.out
   go_wp2_with fail
   (try simp only[Exit.inBlock,Exit.then])
   have hsz:((st8 wr w.heap.size 11 {data:=#[]} 0 0 0 0 (.slice (some ⟨wr.heap.size,0,none⟩) 1 1) (pt:Int))).heap.size=wr.heap.size:=Zc _ _ _ _ _ _ _ _ _ _;have hZo:=(Below.heap_alloc ((st8 wr w.heap.size 11 {data:=#[]} 0 0 0 0 (.slice (some ⟨wr.heap.size,0,none⟩) 1 1) (pt:Int))) (.cells #[.int .i64 kd,.string T2,.int .u64 a0,.int .u64 a1,.int .u64 a2,.int .u64 a3,.slice so sl sc,.int .i64 q2] 30) w.heap.size (by rw[hsz];exact hs0)).trans (Zx HE.out.2.2.1 11 {data:=#[]} 0 0 0 0 (.slice (some ⟨wr.heap.size,0,none⟩) 1 1) (pt:Int));obtain⟨⟨d0,d1,d2,d3,d4,d5,d6,d7⟩,_⟩:=Qk hZo;refine bodyPost_ret (v:=.agg #[.int .i64 11,.string ⟨#[]⟩,.int .u64 0,.int .u64 0,.int .u64 0,.int .u64 0,.slice (some ⟨wr.heap.size,0,none⟩) 1 1,.int .i64 pt]) (by simp[results,Tryz.results112,go_sem]at d0 d1 d2 d3 d4 d5 d6 d7 ⊢;simp[d0,d1,d2,d3,d4,d5,d6,d7,go_sem]) rfl ?_;exact HQ0.out kd T2 a0 a1 a2 a3 so sl sc q2 k1 c1 q1 w4 _ HX.out HK1.out.1 (((Fw.of HE.out HG.out (by omega)).st8 (.inl rfl) _ _ _ _ _ _ _ _).alloc (by rw[hsz];omega) _) HF.out wr.heap.size (Qq _ _ hsz.symm) (by omega)
theorem y0M(Q:Ending->World->Prop)(X:World->Int->ByteArray->Int->Int->Int->Int->Option Addr->Nat->Nat->Int->Nat->Int->Int->Prop)(R b:Nat)(v:Value)(L:List Tok)(k dp:Nat)(w:World)(h:RdZ w R b v L k dp 0 0)(hk:k<L.length)(hg:Qv L)(s1:sgB (gL L k) 38=false)(s2:sgB (gL L k) 33=true)
  (HO:Hid (∀W:World,RdZ W R b v L (k+1) dp 0 0->w.heap.size+1<=W.heap.size->Calls prog 133 #[.pointer (some ⟨R,0,none⟩)] W fun e w'=>Gz X R b v L dp W e w'))
  (HQ0:Hid (∀(kd:Int) (T2:ByteArray) (a0 a1 a2 a3:Int) (so:Option Addr) (sl sc:Nat) (q2:Int) (k1:Nat) (c1 q1:Int) (w4 W:World),X w4 kd T2 a0 a1 a2 a3 so sl sc q2 k1 c1 q1->k1<L.length->Fw w w4 R b v L k1 dp c1 q1 W->(∀j,j<3->sgB (nT L k1 c1) (sgI j)=false)->∀g,W.heap[g]? =some (.cells #[.int .i64 kd,.string T2,.int .u64 a0,.int .u64 a1,.int .u64 a2,.int .u64 a3,.slice so sl sc,.int .i64 q2] 30)->w4.heap.size<=g->Q (.returned (.agg #[.int .i64 12,.string ⟨#[]⟩,.int .u64 0,.int .u64 0,.int .u64 0,.int .u64 0,.slice (some ⟨g,0,none⟩) 1 1,.int .i64 ((gL L k).2.2.2:Int)])) W))
  (HQ1:Hid (∀(j:Nat),j<3->∀(kd:Int) (T2:ByteArray) (a0 a1 a2 a3:Int) (so:Option Addr) (sl sc:Nat) (q2:Int) (k1:Nat) (w4 W:World) (g:Nat),X w4 kd T2 a0 a1 a2 a3 so sl sc q2 k1 0 0->k1<L.length->Fw w w4 R b v L (k1+1) dp 0 0 W->sgB (gL L k1) (sgI j)=true->W.heap[g]? =some (.cells #[.int .i64 kd,.string T2,.int .u64 a0,.int .u64 a1,.int .u64 a2,.int .u64 a3,.slice so sl sc,.int .i64 q2] 30)->w4.heap.size<=g->∀g2,W.heap[g2]? =some (.cells #[.int .i64 (8+(j:Int)),.string ⟨#[]⟩,.int .u64 0,.int .u64 0,.int .u64 0,.int .u64 0,.slice (some ⟨g,0,none⟩) 1 1,.int .i64 q2] 30)->w4.heap.size<=g2->Q (.returned (.agg #[.int .i64 12,.string ⟨#[]⟩,.int .u64 0,.int .u64 0,.int .u64 0,.int .u64 0,.slice (some ⟨g2,0,none⟩) 1 1,.int .i64 ((gL L k).2.2.2:Int)])) W)):
  Calls prog 112 #[.pointer (some ⟨R,0,none⟩)] w Q:=by
 have HT:=hid (fun(W:World) (h:RdZ W R b v L k dp 0 0)=>Uq R b v L k dp W h hk hg);have HS1:=hid (fun(W:World) (h:RdZ W R b v L k dp 0 0)=>s1▸Uw R b v L k dp W 38 h hk hg);have HS2:=hid (fun(W:World) (h:RdZ W R b v L k dp 0 0)=>s2▸Uw R b v L k dp W 33 h hk hg);have hk6:(gL L k).1≠6:=(Uy (L:=L) (k:=k) (c:=0) (by rw[show nT L k 0=gL L k from if_pos rfl];exact s2)).2;have HNx:=hid (fun(W:World) (h:RdZ W R b v L k dp 0 0)=>Yd R b v L k dp W h hk hg.len hk6);obtain⟨t,ht⟩:∃t,t=gL L k:=⟨_,rfl⟩;rw[<-ht]at HT HQ0 HQ1;clear ht s1 s2;obtain⟨kt,Tt,Ct,pt⟩:=t;have HE:Hid (Ew w R b v L k dp 0 0 (w.alloc Zo)):=Ew.start h;have hll:=hg.len;clear h;go_enter func112,ntmps112
 go_wp2_with fail
 refine(HT.out _ HE.out.1).mono ?_;rintro e w1 ⟨rfl,hb1⟩;have HE1:=hid (HE.out.below hb1);clear hb1 HE HT;dsimp only[tkv];obtain⟨W1,hW1⟩:∃W1,W1=w1.alloc (.cells #[.int .i64 kt,.string Tt,.int .u64 (wd Ct 0),.int .u64 (wd Ct 1),.int .u64 (wd Ct 2),.int .u64 (wd Ct 3),.int .i64 pt] 83):=⟨_,rfl⟩;have HE2:Hid (Ew w R b v L k dp 0 0 W1):=by rw[hW1];exact HE1.out.alloc _
 have HC2:Hid (W1.heap[w1.heap.size]? =some (.cells #[.int .i64 kt,.string Tt,.int .u64 (wd Ct 0),.int .u64 (wd Ct 1),.int .u64 (wd Ct 2),.int .u64 (wd Ct 3),.int .i64 pt] 83)):=by rw[hW1];exact Qq _ _ rfl
 have HW1:=hid hW1;have HL1:Hid (w.heap.size<w1.heap.size):=HE1.out.size;clear hW1 HE1
 go_wp2_with fail
 rw[<-HW1.out];refine(HS1.out _ HE2.out.1).mono ?_;rintro e w2 ⟨rfl,hb2⟩;have HE3:=hid (HE2.out.below hb2);have HC3:=hid ((hb2.block _ (Qz HC2.out)).trans HC2.out);clear hb2 HE2 HC2 HW1
 go_wp2_with fail
 refine(HS2.out _ HE3.out.1).mono ?_;rintro e w3 ⟨rfl,hb3⟩;have HE4:=hid (HE3.out.below hb3);have HC4:=hid ((hb3.block _ (Qz HC3.out)).trans HC3.out);clear hb3 HE3 HC3 HS1 HS2
 go_wp2_with fail
 refine(HNx.out _ HE4.out.1).mono ?_;rintro e w3' ⟨rfl,hr3,hg3⟩;have HE5:=hid (HE4.out.grown hr3 hg3);have HC5:Hid (w3'.heap[w1.heap.size]? =some (.cells #[.int .i64 kt,.string Tt,.int .u64 (wd Ct 0),.int .u64 (wd Ct 1),.int .u64 (wd Ct 2),.int .u64 (wd Ct 3),.int .i64 pt] 83)):=(hg3.block _ (Qz HC4.out) (fun e=>by have e2:w1.heap.size=R:=Option.some.inj e;have:=HL1.out;have:=HE4.out.lt;omega)).trans HC4.out;clear hr3 hg3 HE4 HC4 HNx hk6
 go_wp2_with fail
 refine(HO.out _ HE5.out.1 HE5.out.size).mono ?_;rintro e w4 ⟨kd,T2,a0,a1,a2,a3,so,sl,sc,q2,k1,c1,q1,rfl,HX,HK1,hr4,hg4⟩;have HE6:=hid (HE5.out.grown hr4.out hg4.out);have HC6:Hid (w4.heap[w1.heap.size]? =some (.cells #[.int .i64 kt,.string Tt,.int .u64 (wd Ct 0),.int .u64 (wd Ct 1),.int .u64 (wd Ct 2),.int .u64 (wd Ct 3),.int .i64 pt] 83)):=(hg4.out.block _ (Qz HC5.out) (fun e=>by have e2:w1.heap.size=R:=Option.some.inj e;have:=HL1.out;have:=HE5.out.lt;omega)).trans HC5.out;clear hr4 hg4 HE5 HC5 HO;have HE7:=hid ((HE6.out.alloc (.cells #[.int .i64 kd,.string T2,.int .u64 a0,.int .u64 a1,.int .u64 a2,.int .u64 a3,.slice so sl sc,.int .i64 q2] 30)).alloc (.cells #[.string {data:=#[63]},.string {data:=#[42]},.string {data:=#[43]}] 9));have HC7:Hid (((w4.alloc (.cells #[.int .i64 kd,.string T2,.int .u64 a0,.int .u64 a1,.int .u64 a2,.int .u64 a3,.slice so sl sc,.int .i64 q2] 30)).alloc (.cells #[.string {data:=#[63]},.string {data:=#[42]},.string {data:=#[43]}] 9)).heap[w1.heap.size]? =some (.cells #[.int .i64 kt,.string Tt,.int .u64 (wd Ct 0),.int .u64 (wd Ct 1),.int .u64 (wd Ct 2),.int .u64 (wd Ct 3),.int .i64 pt] 83)):=(Below.heap_alloc _ _ _ (by have:=Qz HC6.out;simp;omega)).trans ((Below.heap_alloc _ _ _ (Qz HC6.out)).trans HC6.out);have HN7:Hid (((w4.alloc (.cells #[.int .i64 kd,.string T2,.int .u64 a0,.int .u64 a1,.int .u64 a2,.int .u64 a3,.slice so sl sc,.int .i64 q2] 30)).alloc (.cells #[.string {data:=#[63]},.string {data:=#[42]},.string {data:=#[43]}] 9)).heap[w4.heap.size]? =some (.cells #[.int .i64 kd,.string T2,.int .u64 a0,.int .u64 a1,.int .u64 a2,.int .u64 a3,.slice so sl sc,.int .i64 q2] 30)):=(Below.heap_alloc _ _ _ (by simp)).trans (Qq w4 _ rfl);have HZ7:Hid (((w4.alloc (.cells #[.int .i64 kd,.string T2,.int .u64 a0,.int .u64 a1,.int .u64 a2,.int .u64 a3,.slice so sl sc,.int .i64 q2] 30)).alloc (.cells #[.string {data:=#[63]},.string {data:=#[42]},.string {data:=#[43]}] 9)).heap[w4.heap.size+1]? =some (.cells #[.string {data:=#[63]},.string {data:=#[42]},.string {data:=#[43]}] 9)):=Qq _ _ (by simp);have HG7:Hid (w4.grownBy ((w4.alloc (.cells #[.int .i64 kd,.string T2,.int .u64 a0,.int .u64 a1,.int .u64 a2,.int .u64 a3,.slice so sl sc,.int .i64 q2] 30)).alloc (.cells #[.string {data:=#[63]},.string {data:=#[42]},.string {data:=#[43]}] 9)) (some R)):=G.alloc (G.alloc (G.refl w4 R));have HS:=hid (fun(W:World) (x:UInt8) (h:RdZ W R b v L k1 dp c1 q1)=>Mh R b v L k1 dp c1 q1 W x h HK1.out.1 hll);have HL6:=hid (Qz HC6.out);clear HE6 HC6
 go_wp2_with fail
 go_loopw [8] (fun i wr=>∃j:Nat,i=.int .i64 j/\j<=3/\Hid (∀i,i<j->sgB (nT L k1 c1) (sgI i)=false)/\Hid (Ew w R b v L k1 dp c1 q1 wr)/\Hid (wr.heap[w1.heap.size]? =some (.cells #[.int .i64 kt,.string Tt,.int .u64 (wd Ct 0),.int .u64 (wd Ct 1),.int .u64 (wd Ct 2),.int .u64 (wd Ct 3),.int .i64 pt] 83))/\Hid (wr.heap[w4.heap.size]? =some (.cells #[.int .i64 kd,.string T2,.int .u64 a0,.int .u64 a1,.int .u64 a2,.int .u64 a3,.slice so sl sc,.int .i64 q2] 30))/\Hid (wr.heap[w4.heap.size+1]? =some (.cells #[.string {data:=#[63]},.string {data:=#[42]},.string {data:=#[43]}] 9))/\Hid (w4.grownBy wr (some R))) (fun i _=>3-(intOf i).toNat)
 case atStart=>exact⟨0,rfl,by omega,(fun i h=>absurd h (by omega)),HE7,HC7,HN7,HZ7,HG7⟩
 case round=>
  obtain⟨j,rfl,hj,HF,HE,HC,HN,HZ,HG⟩:=hrel;clear HE7 HC7 HN7 HZ7 HG7;have hx:j=0∨j=1∨j=2∨j=3:=by omega
  rcases hx with rfl|rfl|rfl|rfl
  ·obtain⟨z0,z1,z2⟩:=Kx HZ.out
   have hs0:=HE.out.size;have hs1:=Qz HN.out;have hs2:=Qz HZ.out;have hs3:=Qz HC.out;obtain⟨bx,hbx⟩:∃bx,bx=sgB (nT L k1 c1) 63:=⟨_,rfl⟩;have HSj:=hid (HS.out wr 63 HE.out.1);rw[<-hbx]at HSj;cases bx
   ·have HF2:Hid (∀i,i<0+1->sgB (nT L k1 c1) (sgI i)=false):=fun i hi=>by
     rcases Nat.lt_or_ge i 0 with h1|h1
     ·exact HF.out i h1
     ·obtain rfl:i=0:=by omega
      exact hbx.symm
    clear HF hbx HS
    go_wp2_with fail
    refine HSj.out.mono ?_;rintro e wx ⟨rfl,hbw⟩;have HEx:=hid (HE.out.below hbw);have HCx:=hid ((hbw.block _ hs3).trans HC.out);have HNx:=hid ((hbw.block _ hs1).trans HN.out);have HZx:=hid ((hbw.block _ hs2).trans HZ.out);have HGx:=hid (G.to HG.out hbw);clear hbw HSj HE HC HN HZ HG z0 z1 z2
    go_wp2_with fail
    go_roundw
    case rel=>exact⟨0+1,by go_num,by omega,HF2,HEx,HCx,HNx,HZx,HGx⟩
    case measure=>simp[intOf]
   ·obtain⟨hc0,h6⟩:=Uy (L:=L) (k:=k1) (c:=c1) hbx.symm
    have hq0:=HK1.out.2 hc0;subst hc0 hq0;have hsg:sgB (gL L k1) 63=true:=by rw[hbx,show nT L k1 0=gL L k1 from if_pos rfl]
    have HSG:=hid hsg;have HNX:=hid (fun(W:World) (h:RdZ W R b v L k1 dp 0 0)=>Yd R b v L k1 dp W h HK1.out.1 hll h6);clear hbx HF HS hsg h6
    go_wp2_with fail
    refine HSj.out.mono ?_;rintro e wx ⟨rfl,hbw⟩;have HEx:=hid (HE.out.below hbw);have HCx:=hid ((hbw.block _ hs3).trans HC.out);have HNx:=hid ((hbw.block _ hs1).trans HN.out);have HGx:=hid (G.to HG.out hbw);clear hbw HSj HE HC HN HZ HG z0 z1 z2
    go_wp2_with fail
    refine(HNX.out _ HEx.out.1).mono ?_;rintro e wy ⟨rfl,hry,hgy⟩;have HEy:=hid (HEx.out.grown hry hgy);have HCy:Hid (wy.heap[w1.heap.size]? =some (.cells #[.int .i64 kt,.string Tt,.int .u64 (wd Ct 0),.int .u64 (wd Ct 1),.int .u64 (wd Ct 2),.int .u64 (wd Ct 3),.int .i64 pt] 83)):=(hgy.block _ (Qz HCx.out) (fun e=>by have e2:w1.heap.size=R:=Option.some.inj e;have:=HL1.out;have:=HEx.out.lt;omega)).trans HCx.out;have HNy:Hid (wy.heap[w4.heap.size]? =some (.cells #[.int .i64 kd,.string T2,.int .u64 a0,.int .u64 a1,.int .u64 a2,.int .u64 a3,.slice so sl sc,.int .i64 q2] 30)):=(hgy.block _ (Qz HNx.out) (fun e=>by have e2:w4.heap.size=R:=Option.some.inj e;have:=HL6.out;have:=HL1.out;have:=HEx.out.lt;omega)).trans HNx.out;have HGy:=hid (G.trans HGx.out hgy);clear hry hgy HEx HCx HNx HGx HNX;obtain⟨⟨t0,t1,t2,t3,t4,t5,t6⟩,_⟩:=Yy HCy.out;have hs3:=Qz HCy.out;obtain⟨⟨m0,m1,m2,m3,m4,m5,m6,m7⟩,⟨g0,g1,g2,g3,g4,g5,g6,g7⟩⟩:=Qk HNy.out;obtain⟨⟨k0,k1',k2,k3,k4,k5,k6,k7⟩,⟨f0,f1,f2,f3,f4,f5,f6,f7⟩⟩:=HEy.out.cells;have hs0:=HEy.out.size;have hs1:=Qz HNy.out;have hL6:=HL6.out;have hL1:=HL1.out
    go_wp2_with fail
    (try simp only[Exit.inBlock,Exit.then])
    have hsz:((st8 (st8 wy w4.heap.size (8+0) {data:=#[]} 0 0 0 0 (.slice (some ⟨wy.heap.size,0,none⟩) 1 1) q2) w.heap.size 12 {data:=#[]} 0 0 0 0 (.slice (some ⟨wy.heap.size+1,0,none⟩) 1 1) (pt:Int))).heap.size=wy.heap.size:=by rw[Zc,Zc]
    have hZo:=(Below.heap_alloc (((st8 (st8 wy w4.heap.size (8+0) {data:=#[]} 0 0 0 0 (.slice (some ⟨wy.heap.size,0,none⟩) 1 1) q2) w.heap.size 12 {data:=#[]} 0 0 0 0 (.slice (some ⟨wy.heap.size+1,0,none⟩) 1 1) (pt:Int))).alloc (.cells #[.int .i64 kd,.string T2,.int .u64 a0,.int .u64 a1,.int .u64 a2,.int .u64 a3,.slice so sl sc,.int .i64 q2] 30)) (.cells #[.int .i64 (8+0),.string ⟨#[]⟩,.int .u64 0,.int .u64 0,.int .u64 0,.int .u64 0,.slice (some ⟨wy.heap.size,0,none⟩) 1 1,.int .i64 q2] 30) w.heap.size (by rw[World.size_alloc,hsz];omega)).trans ((Below.heap_alloc ((st8 (st8 wy w4.heap.size (8+0) {data:=#[]} 0 0 0 0 (.slice (some ⟨wy.heap.size,0,none⟩) 1 1) q2) w.heap.size 12 {data:=#[]} 0 0 0 0 (.slice (some ⟨wy.heap.size+1,0,none⟩) 1 1) (pt:Int))) (.cells #[.int .i64 kd,.string T2,.int .u64 a0,.int .u64 a1,.int .u64 a2,.int .u64 a3,.slice so sl sc,.int .i64 q2] 30) w.heap.size (by rw[hsz];exact hs0)).trans (Zx ((Kz (by omega) _ _ _ _ _ _ _ _).trans HEy.out.2.2.1) 12 {data:=#[]} 0 0 0 0 (.slice (some ⟨wy.heap.size+1,0,none⟩) 1 1) (pt:Int)));obtain⟨⟨d0,d1,d2,d3,d4,d5,d6,d7⟩,_⟩:=Qk hZo;refine bodyPost_ret (v:=.agg #[.int .i64 12,.string ⟨#[]⟩,.int .u64 0,.int .u64 0,.int .u64 0,.int .u64 0,.slice (some ⟨wy.heap.size+1,0,none⟩) 1 1,.int .i64 pt]) (by simp[results,Tryz.results112,go_sem]at d0 d1 d2 d3 d4 d5 d6 d7 ⊢;simp[d0,d1,d2,d3,d4,d5,d6,d7,go_sem]) rfl ?_;exact HQ1.out 0 (by omega) kd T2 a0 a1 a2 a3 so sl sc q2 k1 w4 _ wy.heap.size HX.out HK1.out.1 (((((Fw.of HEy.out HGy.out (by omega)).st8 (.inr L0q) _ _ _ _ _ _ _ _).st8 (.inl rfl) _ _ _ _ _ _ _ _).alloc (by rw[hsz];omega) _).alloc (by rw[World.size_alloc,hsz];omega) _) HSG.out ((Below.heap_alloc _ _ _ (by rw[World.size_alloc,hsz];omega)).trans (Qq _ _ hsz.symm)) (by omega) (wy.heap.size+1) (Qq _ _ (by rw[World.size_alloc,hsz])) (by omega)
  ·obtain⟨z0,z1,z2⟩:=Kx HZ.out
   have hs0:=HE.out.size;have hs1:=Qz HN.out;have hs2:=Qz HZ.out;have hs3:=Qz HC.out;obtain⟨bx,hbx⟩:∃bx,bx=sgB (nT L k1 c1) 42:=⟨_,rfl⟩;have HSj:=hid (HS.out wr 42 HE.out.1);rw[<-hbx]at HSj;cases bx
   ·have HF2:Hid (∀i,i<1+1->sgB (nT L k1 c1) (sgI i)=false):=fun i hi=>by
     rcases Nat.lt_or_ge i 1 with h1|h1
     ·exact HF.out i h1
     ·obtain rfl:i=1:=by omega
      exact hbx.symm
    clear HF hbx HS
    go_wp2_with fail
    refine HSj.out.mono ?_;rintro e wx ⟨rfl,hbw⟩;have HEx:=hid (HE.out.below hbw);have HCx:=hid ((hbw.block _ hs3).trans HC.out);have HNx:=hid ((hbw.block _ hs1).trans HN.out);have HZx:=hid ((hbw.block _ hs2).trans HZ.out);have HGx:=hid (G.to HG.out hbw);clear hbw HSj HE HC HN HZ HG z0 z1 z2
    go_wp2_with fail
    go_roundw
    case rel=>exact⟨1+1,by go_num,by omega,HF2,HEx,HCx,HNx,HZx,HGx⟩
    case measure=>simp[intOf]
   ·obtain⟨hc0,h6⟩:=Uy (L:=L) (k:=k1) (c:=c1) hbx.symm
    have hq0:=HK1.out.2 hc0;subst hc0 hq0;have hsg:sgB (gL L k1) 42=true:=by rw[hbx,show nT L k1 0=gL L k1 from if_pos rfl]
    have HSG:=hid hsg;have HNX:=hid (fun(W:World) (h:RdZ W R b v L k1 dp 0 0)=>Yd R b v L k1 dp W h HK1.out.1 hll h6);clear hbx HF HS hsg h6
    go_wp2_with fail
    refine HSj.out.mono ?_;rintro e wx ⟨rfl,hbw⟩;have HEx:=hid (HE.out.below hbw);have HCx:=hid ((hbw.block _ hs3).trans HC.out);have HNx:=hid ((hbw.block _ hs1).trans HN.out);have HGx:=hid (G.to HG.out hbw);clear hbw HSj HE HC HN HZ HG z0 z1 z2
    go_wp2_with fail
    refine(HNX.out _ HEx.out.1).mono ?_;rintro e wy ⟨rfl,hry,hgy⟩;have HEy:=hid (HEx.out.grown hry hgy);have HCy:Hid (wy.heap[w1.heap.size]? =some (.cells #[.int .i64 kt,.string Tt,.int .u64 (wd Ct 0),.int .u64 (wd Ct 1),.int .u64 (wd Ct 2),.int .u64 (wd Ct 3),.int .i64 pt] 83)):=(hgy.block _ (Qz HCx.out) (fun e=>by have e2:w1.heap.size=R:=Option.some.inj e;have:=HL1.out;have:=HEx.out.lt;omega)).trans HCx.out;have HNy:Hid (wy.heap[w4.heap.size]? =some (.cells #[.int .i64 kd,.string T2,.int .u64 a0,.int .u64 a1,.int .u64 a2,.int .u64 a3,.slice so sl sc,.int .i64 q2] 30)):=(hgy.block _ (Qz HNx.out) (fun e=>by have e2:w4.heap.size=R:=Option.some.inj e;have:=HL6.out;have:=HL1.out;have:=HEx.out.lt;omega)).trans HNx.out;have HGy:=hid (G.trans HGx.out hgy);clear hry hgy HEx HCx HNx HGx HNX;obtain⟨⟨t0,t1,t2,t3,t4,t5,t6⟩,_⟩:=Yy HCy.out;have hs3:=Qz HCy.out;obtain⟨⟨m0,m1,m2,m3,m4,m5,m6,m7⟩,⟨g0,g1,g2,g3,g4,g5,g6,g7⟩⟩:=Qk HNy.out;obtain⟨⟨k0,k1',k2,k3,k4,k5,k6,k7⟩,⟨f0,f1,f2,f3,f4,f5,f6,f7⟩⟩:=HEy.out.cells;have hs0:=HEy.out.size;have hs1:=Qz HNy.out;have hL6:=HL6.out;have hL1:=HL1.out
    go_wp2_with fail
    (try simp only[Exit.inBlock,Exit.then])
    have hsz:((st8 (st8 wy w4.heap.size (8+1) {data:=#[]} 0 0 0 0 (.slice (some ⟨wy.heap.size,0,none⟩) 1 1) q2) w.heap.size 12 {data:=#[]} 0 0 0 0 (.slice (some ⟨wy.heap.size+1,0,none⟩) 1 1) (pt:Int))).heap.size=wy.heap.size:=by rw[Zc,Zc]
    have hZo:=(Below.heap_alloc (((st8 (st8 wy w4.heap.size (8+1) {data:=#[]} 0 0 0 0 (.slice (some ⟨wy.heap.size,0,none⟩) 1 1) q2) w.heap.size 12 {data:=#[]} 0 0 0 0 (.slice (some ⟨wy.heap.size+1,0,none⟩) 1 1) (pt:Int))).alloc (.cells #[.int .i64 kd,.string T2,.int .u64 a0,.int .u64 a1,.int .u64 a2,.int .u64 a3,.slice so sl sc,.int .i64 q2] 30)) (.cells #[.int .i64 (8+1),.string ⟨#[]⟩,.int .u64 0,.int .u64 0,.int .u64 0,.int .u64 0,.slice (some ⟨wy.heap.size,0,none⟩) 1 1,.int .i64 q2] 30) w.heap.size (by rw[World.size_alloc,hsz];omega)).trans ((Below.heap_alloc ((st8 (st8 wy w4.heap.size (8+1) {data:=#[]} 0 0 0 0 (.slice (some ⟨wy.heap.size,0,none⟩) 1 1) q2) w.heap.size 12 {data:=#[]} 0 0 0 0 (.slice (some ⟨wy.heap.size+1,0,none⟩) 1 1) (pt:Int))) (.cells #[.int .i64 kd,.string T2,.int .u64 a0,.int .u64 a1,.int .u64 a2,.int .u64 a3,.slice so sl sc,.int .i64 q2] 30) w.heap.size (by rw[hsz];exact hs0)).trans (Zx ((Kz (by omega) _ _ _ _ _ _ _ _).trans HEy.out.2.2.1) 12 {data:=#[]} 0 0 0 0 (.slice (some ⟨wy.heap.size+1,0,none⟩) 1 1) (pt:Int)));obtain⟨⟨d0,d1,d2,d3,d4,d5,d6,d7⟩,_⟩:=Qk hZo;refine bodyPost_ret (v:=.agg #[.int .i64 12,.string ⟨#[]⟩,.int .u64 0,.int .u64 0,.int .u64 0,.int .u64 0,.slice (some ⟨wy.heap.size+1,0,none⟩) 1 1,.int .i64 pt]) (by simp[results,Tryz.results112,go_sem]at d0 d1 d2 d3 d4 d5 d6 d7 ⊢;simp[d0,d1,d2,d3,d4,d5,d6,d7,go_sem]) rfl ?_;exact HQ1.out 1 (by omega) kd T2 a0 a1 a2 a3 so sl sc q2 k1 w4 _ wy.heap.size HX.out HK1.out.1 (((((Fw.of HEy.out HGy.out (by omega)).st8 (.inr L0q) _ _ _ _ _ _ _ _).st8 (.inl rfl) _ _ _ _ _ _ _ _).alloc (by rw[hsz];omega) _).alloc (by rw[World.size_alloc,hsz];omega) _) HSG.out ((Below.heap_alloc _ _ _ (by rw[World.size_alloc,hsz];omega)).trans (Qq _ _ hsz.symm)) (by omega) (wy.heap.size+1) (Qq _ _ (by rw[World.size_alloc,hsz])) (by omega)
  ·obtain⟨z0,z1,z2⟩:=Kx HZ.out
   have hs0:=HE.out.size;have hs1:=Qz HN.out;have hs2:=Qz HZ.out;have hs3:=Qz HC.out;obtain⟨bx,hbx⟩:∃bx,bx=sgB (nT L k1 c1) 43:=⟨_,rfl⟩;have HSj:=hid (HS.out wr 43 HE.out.1);rw[<-hbx]at HSj;cases bx
   ·have HF2:Hid (∀i,i<2+1->sgB (nT L k1 c1) (sgI i)=false):=fun i hi=>by
     rcases Nat.lt_or_ge i 2 with h1|h1
     ·exact HF.out i h1
     ·obtain rfl:i=2:=by omega
      exact hbx.symm
    clear HF hbx HS
    go_wp2_with fail
    refine HSj.out.mono ?_;rintro e wx ⟨rfl,hbw⟩;have HEx:=hid (HE.out.below hbw);have HCx:=hid ((hbw.block _ hs3).trans HC.out);have HNx:=hid ((hbw.block _ hs1).trans HN.out);have HZx:=hid ((hbw.block _ hs2).trans HZ.out);have HGx:=hid (G.to HG.out hbw);clear hbw HSj HE HC HN HZ HG z0 z1 z2
    go_wp2_with fail
    go_roundw
    case rel=>exact⟨2+1,by go_num,by omega,HF2,HEx,HCx,HNx,HZx,HGx⟩
    case measure=>simp[intOf]
   ·obtain⟨hc0,h6⟩:=Uy (L:=L) (k:=k1) (c:=c1) hbx.symm
    have hq0:=HK1.out.2 hc0;subst hc0 hq0;have hsg:sgB (gL L k1) 43=true:=by rw[hbx,show nT L k1 0=gL L k1 from if_pos rfl]
    have HSG:=hid hsg;have HNX:=hid (fun(W:World) (h:RdZ W R b v L k1 dp 0 0)=>Yd R b v L k1 dp W h HK1.out.1 hll h6);clear hbx HF HS hsg h6
    go_wp2_with fail
    refine HSj.out.mono ?_;rintro e wx ⟨rfl,hbw⟩;have HEx:=hid (HE.out.below hbw);have HCx:=hid ((hbw.block _ hs3).trans HC.out);have HNx:=hid ((hbw.block _ hs1).trans HN.out);have HGx:=hid (G.to HG.out hbw);clear hbw HSj HE HC HN HZ HG z0 z1 z2
    go_wp2_with fail
    refine(HNX.out _ HEx.out.1).mono ?_;rintro e wy ⟨rfl,hry,hgy⟩;have HEy:=hid (HEx.out.grown hry hgy);have HCy:Hid (wy.heap[w1.heap.size]? =some (.cells #[.int .i64 kt,.string Tt,.int .u64 (wd Ct 0),.int .u64 (wd Ct 1),.int .u64 (wd Ct 2),.int .u64 (wd Ct 3),.int .i64 pt] 83)):=(hgy.block _ (Qz HCx.out) (fun e=>by have e2:w1.heap.size=R:=Option.some.inj e;have:=HL1.out;have:=HEx.out.lt;omega)).trans HCx.out;have HNy:Hid (wy.heap[w4.heap.size]? =some (.cells #[.int .i64 kd,.string T2,.int .u64 a0,.int .u64 a1,.int .u64 a2,.int .u64 a3,.slice so sl sc,.int .i64 q2] 30)):=(hgy.block _ (Qz HNx.out) (fun e=>by have e2:w4.heap.size=R:=Option.some.inj e;have:=HL6.out;have:=HL1.out;have:=HEx.out.lt;omega)).trans HNx.out;have HGy:=hid (G.trans HGx.out hgy);clear hry hgy HEx HCx HNx HGx HNX;obtain⟨⟨t0,t1,t2,t3,t4,t5,t6⟩,_⟩:=Yy HCy.out;have hs3:=Qz HCy.out;obtain⟨⟨m0,m1,m2,m3,m4,m5,m6,m7⟩,⟨g0,g1,g2,g3,g4,g5,g6,g7⟩⟩:=Qk HNy.out;obtain⟨⟨k0,k1',k2,k3,k4,k5,k6,k7⟩,⟨f0,f1,f2,f3,f4,f5,f6,f7⟩⟩:=HEy.out.cells;have hs0:=HEy.out.size;have hs1:=Qz HNy.out;have hL6:=HL6.out;have hL1:=HL1.out
    go_wp2_with fail
    (try simp only[Exit.inBlock,Exit.then])
    have hsz:((st8 (st8 wy w4.heap.size (8+2) {data:=#[]} 0 0 0 0 (.slice (some ⟨wy.heap.size,0,none⟩) 1 1) q2) w.heap.size 12 {data:=#[]} 0 0 0 0 (.slice (some ⟨wy.heap.size+1,0,none⟩) 1 1) (pt:Int))).heap.size=wy.heap.size:=by rw[Zc,Zc]
    have hZo:=(Below.heap_alloc (((st8 (st8 wy w4.heap.size (8+2) {data:=#[]} 0 0 0 0 (.slice (some ⟨wy.heap.size,0,none⟩) 1 1) q2) w.heap.size 12 {data:=#[]} 0 0 0 0 (.slice (some ⟨wy.heap.size+1,0,none⟩) 1 1) (pt:Int))).alloc (.cells #[.int .i64 kd,.string T2,.int .u64 a0,.int .u64 a1,.int .u64 a2,.int .u64 a3,.slice so sl sc,.int .i64 q2] 30)) (.cells #[.int .i64 (8+2),.string ⟨#[]⟩,.int .u64 0,.int .u64 0,.int .u64 0,.int .u64 0,.slice (some ⟨wy.heap.size,0,none⟩) 1 1,.int .i64 q2] 30) w.heap.size (by rw[World.size_alloc,hsz];omega)).trans ((Below.heap_alloc ((st8 (st8 wy w4.heap.size (8+2) {data:=#[]} 0 0 0 0 (.slice (some ⟨wy.heap.size,0,none⟩) 1 1) q2) w.heap.size 12 {data:=#[]} 0 0 0 0 (.slice (some ⟨wy.heap.size+1,0,none⟩) 1 1) (pt:Int))) (.cells #[.int .i64 kd,.string T2,.int .u64 a0,.int .u64 a1,.int .u64 a2,.int .u64 a3,.slice so sl sc,.int .i64 q2] 30) w.heap.size (by rw[hsz];exact hs0)).trans (Zx ((Kz (by omega) _ _ _ _ _ _ _ _).trans HEy.out.2.2.1) 12 {data:=#[]} 0 0 0 0 (.slice (some ⟨wy.heap.size+1,0,none⟩) 1 1) (pt:Int)));obtain⟨⟨d0,d1,d2,d3,d4,d5,d6,d7⟩,_⟩:=Qk hZo;refine bodyPost_ret (v:=.agg #[.int .i64 12,.string ⟨#[]⟩,.int .u64 0,.int .u64 0,.int .u64 0,.int .u64 0,.slice (some ⟨wy.heap.size+1,0,none⟩) 1 1,.int .i64 pt]) (by simp[results,Tryz.results112,go_sem]at d0 d1 d2 d3 d4 d5 d6 d7 ⊢;simp[d0,d1,d2,d3,d4,d5,d6,d7,go_sem]) rfl ?_;exact HQ1.out 2 (by omega) kd T2 a0 a1 a2 a3 so sl sc q2 k1 w4 _ wy.heap.size HX.out HK1.out.1 (((((Fw.of HEy.out HGy.out (by omega)).st8 (.inr L0q) _ _ _ _ _ _ _ _).st8 (.inl rfl) _ _ _ _ _ _ _ _).alloc (by rw[hsz];omega) _).alloc (by rw[World.size_alloc,hsz];omega) _) HSG.out ((Below.heap_alloc _ _ _ (by rw[World.size_alloc,hsz];omega)).trans (Qq _ _ hsz.symm)) (by omega) (wy.heap.size+1) (Qq _ _ (by rw[World.size_alloc,hsz])) (by omega)
  ·clear HS
   have hs0:=HE.out.size;have hs1:=Qz HN.out;have hL6:=HL6.out;have hL1:=HL1.out;obtain⟨⟨m0,m1,m2,m3,m4,m5,m6,m7⟩,⟨g0,g1,g2,g3,g4,g5,g6,g7⟩⟩:=Qk HN.out;obtain⟨⟨k0,k1',k2,k3,k4,k5,k6,k7⟩,⟨f0,f1,f2,f3,f4,f5,f6,f7⟩⟩:=HE.out.cells;obtain⟨⟨t0,t1,t2,t3,t4,t5,t6⟩,_⟩:=Yy HC.out;have hs3:=Qz HC.out
   go_wp2_with fail
   (try simp only[Exit.inBlock,Exit.then])
   have hsz:((st8 wr w.heap.size 12 {data:=#[]} 0 0 0 0 (.slice (some ⟨wr.heap.size,0,none⟩) 1 1) (pt:Int))).heap.size=wr.heap.size:=Zc _ _ _ _ _ _ _ _ _ _;have hZo:=(Below.heap_alloc ((st8 wr w.heap.size 12 {data:=#[]} 0 0 0 0 (.slice (some ⟨wr.heap.size,0,none⟩) 1 1) (pt:Int))) (.cells #[.int .i64 kd,.string T2,.int .u64 a0,.int .u64 a1,.int .u64 a2,.int .u64 a3,.slice so sl sc,.int .i64 q2] 30) w.heap.size (by rw[hsz];exact hs0)).trans (Zx HE.out.2.2.1 12 {data:=#[]} 0 0 0 0 (.slice (some ⟨wr.heap.size,0,none⟩) 1 1) (pt:Int));obtain⟨⟨d0,d1,d2,d3,d4,d5,d6,d7⟩,_⟩:=Qk hZo;refine bodyPost_ret (v:=.agg #[.int .i64 12,.string ⟨#[]⟩,.int .u64 0,.int .u64 0,.int .u64 0,.int .u64 0,.slice (some ⟨wr.heap.size,0,none⟩) 1 1,.int .i64 pt]) (by simp[results,Tryz.results112,go_sem]at d0 d1 d2 d3 d4 d5 d6 d7 ⊢;simp[d0,d1,d2,d3,d4,d5,d6,d7,go_sem]) rfl ?_;exact HQ0.out kd T2 a0 a1 a2 a3 so sl sc q2 k1 c1 q1 w4 _ HX.out HK1.out.1 (((Fw.of HE.out HG.out (by omega)).st8 (.inl rfl) _ _ _ _ _ _ _ _).alloc (by rw[hsz];omega) _) HF.out wr.heap.size (Qq _ _ hsz.symm) (by omega)
end
end Go.Proofs.YtikfnaffiehpaaaGreatDoor
