/- Lemmas for the last text. Conditions: those that each names. -/
import Derived.Test.YtikfnaffiehpaaaGreatDoorVN7ToM1
import Derived.Test.YtikfnaffiehpaaaGreatDoorVY8ToY10
import Derived.WalkLawsBesides
set_option linter.unusedVariables false
set_option maxRecDepth 100000
set_option maxHeartbeats 8000000
namespace Go.Proofs.YtikfnaffiehpaaaGreatDoor
open Go.Proofs.Tryz
section
open Go.RowKit
def Rx(w:World)(R b:Nat)(v:Value)(L:List Tok)(dp:Nat):Prop:=∃(k:Nat) (c q:Int),k<L.length/\c≠0/\RdZ w R b v L k dp c q
def ErQ(R b:Nat)(v:Value)(L:List Tok)(dp:Nat)(w:World)(e:Ending)(w':World):Prop:=
 ∃(kd:Int) (T:ByteArray) (a0 a1 a2 a3:Int) (so:Option Addr) (sl sc:Nat) (p:Int),e=.returned (.agg #[.int .i64 kd,.string T,.int .u64 a0,.int .u64 a1,.int .u64 a2,.int .u64 a3,.slice so sl sc,.int .i64 p])/\Hid (Rx w' R b v L dp)/\Hid (w.grownBy w' (some R))
def AnZ(r:Pr)(B R b:Nat)(v:Value)(L:List Tok)(dp:Nat)(w:World)(e:Ending)(w':World):Prop:=
 match r with
 | .inr (n,k')=>∃cs:List Value,e=.returned (.agg cs.toArray)/\Hid (Qw w' (fun g=>B<=g) n cs)/\Hid (RdZ w' R b v L k' dp 0 0)/\Hid (w.grownBy w' (some R))
 | .inl _=>ErQ R b v L dp w e w'
def Tk0(L:List Tok):Prop:=∀k,((gL L k).1≠4->(gL L k).2.2.1=0)/\((gL L k).1=4->(gL L k).2.1={data:=#[]})
theorem y3f(kd:Nat)(T:ByteArray)(sv:Value)(p:Nat):n8 kd T 0 sv p=[.int .i64 kd,.string T,.int .u64 0,.int .u64 0,.int .u64 0,.int .u64 0,sv,.int .i64 p]:=rfl
def Ew(w:World)(R b:Nat)(v:Value)(L:List Tok)(k dp:Nat)(c q:Int)(W:World):Prop:=
 RdZ W R b v L k dp c q/\w.grownBy W (some R)/\W.heap[w.heap.size]? =some Zo/\R<w.heap.size/\(∀g,w.heap.size<=g->v.ownBlock≠some g)
section
variable {w W W':World} {R b:Nat} {v:Value} {L:List Tok} {k dp k' dp':Nat} {c q c' q':Int}
theorem Ew.start(h:RdZ w R b v L k dp c q):Ew w R b v L k dp c q (w.alloc Zo):=
 ⟨h.alloc _,G.alloc (G.refl w R),Qq w _ rfl,h.lt,fun g hg e=>by have:=(h.2.lt _ e).2;omega⟩
theorem Ew.size(h:Ew w R b v L k dp c q W):w.heap.size<W.heap.size:=Qz h.2.2.1
theorem Ew.lt(h:Ew w R b v L k dp c q W):R<w.heap.size:=h.2.2.2.1
theorem Ew.grown(h:Ew w R b v L k dp c q W)(hr:RdZ W' R b v L k' dp' c' q')(hg:W.grownBy W' (some R)):Ew w R b v L k' dp' c' q' W':=
 ⟨hr,G.trans h.2.1 hg,(hg.block _ h.size (fun e=>by have:=Option.some.inj e;have:=h.2.2.2.1;omega)).trans h.2.2.1,h.2.2.2.1,h.2.2.2.2⟩
theorem Ew.below(h:Ew w R b v L k dp c q W)(hb:Below W.heap.size W W'):Ew w R b v L k dp c q W':=h.grown (h.1.below hb) (G.below hb)
theorem Ew.alloc(h:Ew w R b v L k dp c q W)(o:Obj):Ew w R b v L k dp c q (W.alloc o):=h.below (B0q.alloc L0q _)
theorem Ew.cells(h:Ew w R b v L k dp c q W):
 (W.cell? ⟨w.heap.size,0,none⟩=some (.int .i64 0)/\W.cell? ⟨w.heap.size,1,none⟩=some (.string ⟨#[]⟩)/\W.cell? ⟨w.heap.size,2,none⟩=some (.int .u64 0)/\W.cell? ⟨w.heap.size,3,none⟩=some (.int .u64 0)/\W.cell? ⟨w.heap.size,4,none⟩=some (.int .u64 0)/\W.cell? ⟨w.heap.size,5,none⟩=some (.int .u64 0)/\W.cell? ⟨w.heap.size,6,none⟩=some (.slice none 0 0)/\W.cell? ⟨w.heap.size,7,none⟩=some (.int .i64 0))/\
 (W.frozen? ⟨w.heap.size,0,none⟩=false/\W.frozen? ⟨w.heap.size,1,none⟩=false/\W.frozen? ⟨w.heap.size,2,none⟩=false/\W.frozen? ⟨w.heap.size,3,none⟩=false/\W.frozen? ⟨w.heap.size,4,none⟩=false/\W.frozen? ⟨w.heap.size,5,none⟩=false/\W.frozen? ⟨w.heap.size,6,none⟩=false/\W.frozen? ⟨w.heap.size,7,none⟩=false):=Qk h.2.2.1
theorem Ew.laid(h:Ew w R b v L k dp c q W)(kd:Int)(T:ByteArray)(a0 a1 a2 a3:Int)(sv:Value)(p:Int):
  RdZ (st8 W w.heap.size kd T a0 a1 a2 a3 sv p) R b v L k dp c q/\w.grownBy (st8 W w.heap.size kd T a0 a1 a2 a3 sv p) (some R):=by
 have hRQ:w.heap.size≠R:=by have:=h.lt;omega
 have hv:=h.2.2.2.2 w.heap.size L0q;have hg:=Nat.le_refl w.heap.size;exact⟨((((((((h.1.other hRQ hv).other hRQ hv).other hRQ hv).other hRQ hv).other hRQ hv).other hRQ hv).other hRQ hv).other hRQ hv),G.setN (G.setN (G.setN (G.setN (G.setN (G.setN (G.setN (G.setN h.2.1 hg) hg) hg) hg) hg) hg) hg) hg⟩
theorem Ew.fin{B kd C p:Nat}{T:ByteArray}{sv:Value}{n:Nd}(h:Ew w R b v L k dp 0 0 W)(hn:Qw W (fun g=>w.heap.size+1<=g) n (n8 kd T C sv p))(hB:B<=w.heap.size):
  AnZ (.inr (n,k)) B R b v L dp w (.returned (.agg (n8 kd T C sv p).toArray)) (st8 W w.heap.size (kd:Int) T (wd C 0:Nat) (wd C 1:Nat) (wd C 2:Nat) (wd C 3:Nat) sv (p:Int)):=by
 have hl:=h.laid (kd:Int) T (wd C 0:Nat) (wd C 1:Nat) (wd C 2:Nat) (wd C 3:Nat) sv (p:Int);refine⟨_,rfl,hid ?_,hid hl.1,hid hl.2⟩;refine Qw.kept (fun g cur hp hq=>⟨?_,by omega⟩) n _ hn;have hne:∀j:Nat,g≠(⟨w.heap.size,j,none⟩:Addr).block:=fun j e=>by have e2:g=w.heap.size:=e;omega
 have s:∀(V:World) (j:Nat) (u:Value),(V.setCell ⟨w.heap.size,j,none⟩ u).heap[g]? =V.heap[g]? :=fun V j u=>Below.heap_setCell _ _ _ _ (hne j)
 unfold st8;rw[s,s,s,s,s,s,s,s]
theorem Ew.err(h:Ew w R b v L k dp c q W)(hc:c≠0)(hk:k<L.length)(kd:Int)(T:ByteArray)(a0 a1 a2 a3:Int)(so:Option Addr)(sl sc:Nat)(p:Int):
  ErQ R b v L dp w (.returned (.agg #[.int .i64 kd,.string T,.int .u64 a0,.int .u64 a1,.int .u64 a2,.int .u64 a3,.slice so sl sc,.int .i64 p])) (st8 W w.heap.size kd T a0 a1 a2 a3 (.slice so sl sc) p):=by
 have hl:=h.laid kd T a0 a1 a2 a3 (.slice so sl sc) p;exact⟨kd,T,a0,a1,a2,a3,so,sl,sc,p,rfl,hid ⟨k,c,q,hk,hc,hl.1⟩,hid hl.2⟩
end
def MQ(F:Nat)(sp:Nat->Pr)(ok:Nat->Prop)(R b:Nat)(v:Value)(L:List Tok)(dp:Nat):Prop:=
 ∀(k B:Nat) (w:World),RdZ w R b v L k dp 0 0->k<L.length->ok k->B<=w.heap.size->Calls prog F #[.pointer (some ⟨R,0,none⟩)] w fun e w'=>AnZ (sp k) B R b v L dp w e w'
theorem Uq(R b:Nat)(v:Value)(L:List Tok)(k dp:Nat)(w:World)(h:RdZ w R b v L k dp 0 0)(hk:k<L.length)(hg:Qv L):
  Calls prog 64 #[.pointer (some ⟨R,0,none⟩)] w fun e w'=>e=.returned (tkv (gL L k))/\Below w.heap.size w w':=by
 have:=Dl R b v L k dp 0 0 w h hk hg.len;rw[show nT L k 0=gL L k from if_pos rfl]at this;exact this
theorem Yy{w:World}{g:Nat}{a0 a1 a2 a3 a4 a5 a6:Value}(h:w.heap[g]? =some (.cells #[a0,a1,a2,a3,a4,a5,a6] 83)):
  (w.cell? ⟨g,0,none⟩=some a0/\w.cell? ⟨g,1,none⟩=some a1/\w.cell? ⟨g,2,none⟩=some a2/\w.cell? ⟨g,3,none⟩=some a3/\w.cell? ⟨g,4,none⟩=some a4/\w.cell? ⟨g,5,none⟩=some a5/\w.cell? ⟨g,6,none⟩=some a6)/\True:=by
 refine⟨⟨?_,?_,?_,?_,?_,?_,?_⟩,trivial⟩<;>simp[World.cell?,h]
theorem y0B(B R b:Nat)(v:Value)(L:List Tok)(k dp:Nat)(w:World)(h:RdZ w R b v L k dp 0 0)(hk:k<L.length)(h3:(gL L k).1=3)(hg:Qv L)(h0:Tk0 L)(hB:B<=w.heap.size):
  Calls prog 133 #[.pointer (some ⟨R,0,none⟩)] w fun e w'=>AnZ (.inr (.mk 2 (gL L k).2.1 (gL L k).2.2.1 [] (gL L k).2.2.2,k+1)) B R b v L dp w e w':=by
 have fd0:=Tryz.fld0;have fd1:=Tryz.fld1;have fd3:=Tryz.fld3;have HT:=hid (fun(W:World) (h:RdZ W R b v L k dp 0 0)=>Uq R b v L k dp W h hk hg);have HS:=hid (fun(W:World) (x:UInt8) (h:RdZ W R b v L k dp 0 0)=>Uw R b v L k dp W x h hk hg);have HN:=hid (fun(W:World) (h:RdZ W R b v L k dp 0 0)=>Yd R b v L k dp W h hk hg.len (by rw[h3];decide));have hC:(gL L k).2.2.1=0:=(h0 k).1 (by rw[h3];decide);have s1:sgB (gL L k) 40=false:=decide_eq_false (fun e=>by have:=Xv e;omega);have s2:sgB (gL L k) 46=false:=decide_eq_false (fun e=>by have:=Xv e;omega);have HS1:=hid (fun(W:World) (h:RdZ W R b v L k dp 0 0)=>s1▸HS.out W 40 h);have HS2:=hid (fun(W:World) (h:RdZ W R b v L k dp 0 0)=>s2▸HS.out W 46 h);obtain⟨t,ht⟩:∃t,t=gL L k:=⟨_,rfl⟩;rw[<-ht]at HT h3 hC ⊢;clear ht s1 s2 HS;obtain⟨kd,T,C,p⟩:=t;obtain rfl:kd=3:=h3;obtain rfl:C=0:=hC
 (try clear h3)
 (try clear hC)
 have HE:Hid (Ew w R b v L k dp 0 0 (w.alloc Zo)):=Ew.start h;clear h;go_enter func133,ntmps133
 go_wp2_with fail
 refine(HT.out _ HE.out.1).mono ?_;rintro e w1 ⟨rfl,hb1⟩;have HE1:=hid (HE.out.below hb1);clear hb1 HE HT;dsimp only[tkv];obtain⟨W1,hW1⟩:∃W1,W1=w1.alloc (.cells #[.int .i64 3,.string T,.int .u64 (wd 0 0),.int .u64 (wd 0 1),.int .u64 (wd 0 2),.int .u64 (wd 0 3),.int .i64 p] 83):=⟨_,rfl⟩;have HE2:Hid (Ew w R b v L k dp 0 0 W1):=by rw[hW1];exact HE1.out.alloc _
 have HC2:Hid (W1.heap[w1.heap.size]? =some (.cells #[.int .i64 3,.string T,.int .u64 (wd 0 0),.int .u64 (wd 0 1),.int .u64 (wd 0 2),.int .u64 (wd 0 3),.int .i64 p] 83)):=by rw[hW1];exact Qq _ _ rfl
 have HW1:=hid hW1;have HL1:Hid (w.heap.size<w1.heap.size):=HE1.out.size;clear hW1 HE1
 go_wp2_with fail
 rw[<-HW1.out];refine(HS1.out _ HE2.out.1).mono ?_;rintro e w2 ⟨rfl,hb2⟩;have HE3:=hid (HE2.out.below hb2);have HC3:=hid ((hb2.block _ (Qz HC2.out)).trans HC2.out);clear hb2 HE2 HC2 HW1
 go_wp2_with fail
 refine(HS2.out _ HE3.out.1).mono ?_;rintro e w3 ⟨rfl,hb3⟩;have HE4:=hid (HE3.out.below hb3);have HC4:=hid ((hb3.block _ (Qz HC3.out)).trans HC3.out);clear hb3 HE3 HC3 HS1 HS2;obtain⟨⟨m0,m1,m2,m3,m4,m5,m6⟩,_⟩:=Yy HC4.out;have l13:w1.heap.size<w3.heap.size:=Qz HC4.out;have l01:=HL1.out;have lR:=HE4.out.lt
 go_wp2_with fail
 go_region
 go_wp2_with fail
 obtain⟨W4,hW4⟩:∃W4,W4=(w3.alloc (.cells #[.int .i64 2,.string T,.int .u64 0,.int .u64 0,.int .u64 0,.int .u64 0,.slice none 0 0,.int .i64 p] 30)).drew:=⟨_,rfl⟩;have HE5:Hid (Ew w R b v L k dp 0 0 W4):=by rw[hW4];exact(HE4.out.alloc _).below B0q.drew
 have HN5:Hid (W4.heap[w3.heap.size]? =some (.cells #[.int .i64 2,.string T,.int .u64 0,.int .u64 0,.int .u64 0,.int .u64 0,.slice none 0 0,.int .i64 p] 30)):=by rw[hW4];exact Qq w3 _ rfl
 rw[<-hW4];clear hW4 m0 m1 m2 m3 m4 m5 m6 HC4 HE4;refine(HN.out _ HE5.out.1).mono ?_;rintro e w5 ⟨rfl,hr5,hg5⟩;have HE6:=hid (HE5.out.grown hr5 hg5);have HN6:Hid (w5.heap[w3.heap.size]? =some (.cells #[.int .i64 2,.string T,.int .u64 0,.int .u64 0,.int .u64 0,.int .u64 0,.slice none 0 0,.int .i64 p] 30)):=(hg5.block _ (Qz HN5.out) (fun e=>by have e2:w3.heap.size=R:=Option.some.inj e;omega)).trans HN5.out;clear hr5 hg5 HE5 HN5 HN;obtain⟨⟨m0,m1,m2,m3,m4,m5,m6,m7⟩,_⟩:=Qk HN6.out;obtain⟨⟨k0,k1,k2,k3,k4,k5,k6,k7⟩,⟨f0,f1,f2,f3,f4,f5,f6,f7⟩⟩:=HE6.out.cells;have l05:=HE6.out.size;have l35:=Qz HN6.out
 go_wp2_with fail
 (try simp only[Exit.inBlock,Exit.then])
 obtain⟨⟨c0,c1,c2,c3,c4,c5,c6,c7⟩,_⟩:=Qk (Zx HE6.out.2.2.1 2 T 0 0 0 0 (.slice none 0 0) (p:Int));refine bodyPost_ret (v:=.agg (n8 2 T 0 (.slice none 0 0) p).toArray) (by simp[results,Tryz.results133,go_sem,c0,c1,c2,c3,c4,c5,c6,c7,y3f]) rfl ?_;exact HE6.out.fin (C:=0) (by rw[Qw];exact⟨_,rfl,.inl ⟨rfl,rfl⟩⟩) hB
theorem y0C(B R b:Nat)(v:Value)(L:List Tok)(k dp:Nat)(w:World)(h:RdZ w R b v L k dp 0 0)(hk:k<L.length)(h3:(gL L k).1=4)(hg:Qv L)(h0:Tk0 L)(hB:B<=w.heap.size):
  Calls prog 133 #[.pointer (some ⟨R,0,none⟩)] w fun e w'=>AnZ (.inr (.mk 3 (gL L k).2.1 (gL L k).2.2.1 [] (gL L k).2.2.2,k+1)) B R b v L dp w e w':=by
 have fd0:=Tryz.fld0;have fd1:=Tryz.fld1;have fd3:=Tryz.fld3;have HT:=hid (fun(W:World) (h:RdZ W R b v L k dp 0 0)=>Uq R b v L k dp W h hk hg);have HS:=hid (fun(W:World) (x:UInt8) (h:RdZ W R b v L k dp 0 0)=>Uw R b v L k dp W x h hk hg);have HN:=hid (fun(W:World) (h:RdZ W R b v L k dp 0 0)=>Yd R b v L k dp W h hk hg.len (by rw[h3];decide));have hC:(gL L k).2.1={data:=#[]}:=(h0 k).2 h3;have s1:sgB (gL L k) 40=false:=decide_eq_false (fun e=>by have:=Xv e;omega);have s2:sgB (gL L k) 46=false:=decide_eq_false (fun e=>by have:=Xv e;omega);have HS1:=hid (fun(W:World) (h:RdZ W R b v L k dp 0 0)=>s1▸HS.out W 40 h);have HS2:=hid (fun(W:World) (h:RdZ W R b v L k dp 0 0)=>s2▸HS.out W 46 h);obtain⟨t,ht⟩:∃t,t=gL L k:=⟨_,rfl⟩;rw[<-ht]at HT h3 hC ⊢;clear ht s1 s2 HS;obtain⟨kd,T,C,p⟩:=t;obtain rfl:kd=4:=h3;obtain rfl:T={data:=#[]}:=hC
 (try clear h3)
 (try clear hC)
 have HE:Hid (Ew w R b v L k dp 0 0 (w.alloc Zo)):=Ew.start h;clear h;go_enter func133,ntmps133
 go_wp2_with fail
 refine(HT.out _ HE.out.1).mono ?_;rintro e w1 ⟨rfl,hb1⟩;have HE1:=hid (HE.out.below hb1);clear hb1 HE HT;dsimp only[tkv];obtain⟨W1,hW1⟩:∃W1,W1=w1.alloc (.cells #[.int .i64 4,.string ⟨#[]⟩,.int .u64 (wd C 0),.int .u64 (wd C 1),.int .u64 (wd C 2),.int .u64 (wd C 3),.int .i64 p] 83):=⟨_,rfl⟩;have HE2:Hid (Ew w R b v L k dp 0 0 W1):=by rw[hW1];exact HE1.out.alloc _
 have HC2:Hid (W1.heap[w1.heap.size]? =some (.cells #[.int .i64 4,.string ⟨#[]⟩,.int .u64 (wd C 0),.int .u64 (wd C 1),.int .u64 (wd C 2),.int .u64 (wd C 3),.int .i64 p] 83)):=by rw[hW1];exact Qq _ _ rfl
 have HW1:=hid hW1;have HL1:Hid (w.heap.size<w1.heap.size):=HE1.out.size;clear hW1 HE1
 go_wp2_with fail
 rw[<-HW1.out];refine(HS1.out _ HE2.out.1).mono ?_;rintro e w2 ⟨rfl,hb2⟩;have HE3:=hid (HE2.out.below hb2);have HC3:=hid ((hb2.block _ (Qz HC2.out)).trans HC2.out);clear hb2 HE2 HC2 HW1
 go_wp2_with fail
 refine(HS2.out _ HE3.out.1).mono ?_;rintro e w3 ⟨rfl,hb3⟩;have HE4:=hid (HE3.out.below hb3);have HC4:=hid ((hb3.block _ (Qz HC3.out)).trans HC3.out);clear hb3 HE3 HC3 HS1 HS2;obtain⟨⟨m0,m1,m2,m3,m4,m5,m6⟩,_⟩:=Yy HC4.out;have l13:w1.heap.size<w3.heap.size:=Qz HC4.out;have l01:=HL1.out;have lR:=HE4.out.lt
 go_wp2_with fail
 go_region
 go_wp2_with fail
 obtain⟨W4,hW4⟩:∃W4,W4=(w3.alloc (.cells #[.int .i64 3,.string ⟨#[]⟩,.int .u64 (wd C 0),.int .u64 (wd C 1),.int .u64 (wd C 2),.int .u64 (wd C 3),.slice none 0 0,.int .i64 p] 30)).drew:=⟨_,rfl⟩;have HE5:Hid (Ew w R b v L k dp 0 0 W4):=by rw[hW4];exact(HE4.out.alloc _).below B0q.drew
 have HN5:Hid (W4.heap[w3.heap.size]? =some (.cells #[.int .i64 3,.string ⟨#[]⟩,.int .u64 (wd C 0),.int .u64 (wd C 1),.int .u64 (wd C 2),.int .u64 (wd C 3),.slice none 0 0,.int .i64 p] 30)):=by rw[hW4];exact Qq w3 _ rfl
 rw[<-hW4];clear hW4 m0 m1 m2 m3 m4 m5 m6 HC4 HE4;refine(HN.out _ HE5.out.1).mono ?_;rintro e w5 ⟨rfl,hr5,hg5⟩;have HE6:=hid (HE5.out.grown hr5 hg5);have HN6:Hid (w5.heap[w3.heap.size]? =some (.cells #[.int .i64 3,.string ⟨#[]⟩,.int .u64 (wd C 0),.int .u64 (wd C 1),.int .u64 (wd C 2),.int .u64 (wd C 3),.slice none 0 0,.int .i64 p] 30)):=(hg5.block _ (Qz HN5.out) (fun e=>by have e2:w3.heap.size=R:=Option.some.inj e;omega)).trans HN5.out;clear hr5 hg5 HE5 HN5 HN;obtain⟨⟨m0,m1,m2,m3,m4,m5,m6,m7⟩,_⟩:=Qk HN6.out;obtain⟨⟨k0,k1,k2,k3,k4,k5,k6,k7⟩,⟨f0,f1,f2,f3,f4,f5,f6,f7⟩⟩:=HE6.out.cells;have l05:=HE6.out.size;have l35:=Qz HN6.out
 go_wp2_with fail
 (try simp only[Exit.inBlock,Exit.then])
 obtain⟨⟨c0,c1,c2,c3,c4,c5,c6,c7⟩,_⟩:=Qk (Zx HE6.out.2.2.1 3 {data:=#[]} ((wd C 0:Nat)) ((wd C 1:Nat)) ((wd C 2:Nat)) ((wd C 3:Nat)) (.slice none 0 0) (p:Int));refine bodyPost_ret (v:=.agg (n8 3 {data:=#[]} C (.slice none 0 0) p).toArray) (by simp[results,Tryz.results133,go_sem,c0,c1,c2,c3,c4,c5,c6,c7]) rfl ?_;exact HE6.out.fin (C:=C) (by rw[Qw];exact⟨_,rfl,.inl ⟨rfl,rfl⟩⟩) hB
theorem y0D(B R b:Nat)(v:Value)(L:List Tok)(k dp:Nat)(w:World)(h:RdZ w R b v L k dp 0 0)(hk:k<L.length)(h5:sgT (gL L k)={data:=#[46]})(hg:Qv L)(h0:Tk0 L)(hB:B<=w.heap.size):
  Calls prog 133 #[.pointer (some ⟨R,0,none⟩)] w fun e w'=>AnZ (.inr (.mk 4 {data:=#[]} (gL L k).2.2.1 [] (gL L k).2.2.2,k+1)) B R b v L dp w e w':=by
 have fd0:=Tryz.fld0;have fd1:=Tryz.fld1;have fd3:=Tryz.fld3;have HT:=hid (fun(W:World) (h:RdZ W R b v L k dp 0 0)=>Uq R b v L k dp W h hk hg);have HS:=hid (fun(W:World) (x:UInt8) (h:RdZ W R b v L k dp 0 0)=>Uw R b v L k dp W x h hk hg);have h3:(gL L k).1=5:=Xv h5;have HN:=hid (fun(W:World) (h:RdZ W R b v L k dp 0 0)=>Yd R b v L k dp W h hk hg.len (by rw[h3];decide));have hC:(gL L k).2.2.1=0:=(h0 k).1 (by rw[h3];decide);have s1:sgB (gL L k) 40=false:=decide_eq_false (fun e=>by rw[h5]at e;exact absurd (congrArg (fun a:ByteArray=>a.data[0]?) e) (by decide));have s2:sgB (gL L k) 46=true:=decide_eq_true h5;have HS1:=hid (fun(W:World) (h:RdZ W R b v L k dp 0 0)=>s1▸HS.out W 40 h);have HS2:=hid (fun(W:World) (h:RdZ W R b v L k dp 0 0)=>s2▸HS.out W 46 h);clear h5;obtain⟨t,ht⟩:∃t,t=gL L k:=⟨_,rfl⟩;rw[<-ht]at HT h3 hC ⊢;clear ht s1 s2 HS;obtain⟨kd,T,C,p⟩:=t;obtain rfl:kd=5:=h3;obtain rfl:C=0:=hC
 (try clear h3)
 (try clear hC)
 have HE:Hid (Ew w R b v L k dp 0 0 (w.alloc Zo)):=Ew.start h;clear h;go_enter func133,ntmps133
 go_wp2_with fail
 refine(HT.out _ HE.out.1).mono ?_;rintro e w1 ⟨rfl,hb1⟩;have HE1:=hid (HE.out.below hb1);clear hb1 HE HT;dsimp only[tkv];obtain⟨W1,hW1⟩:∃W1,W1=w1.alloc (.cells #[.int .i64 5,.string T,.int .u64 (wd 0 0),.int .u64 (wd 0 1),.int .u64 (wd 0 2),.int .u64 (wd 0 3),.int .i64 p] 83):=⟨_,rfl⟩;have HE2:Hid (Ew w R b v L k dp 0 0 W1):=by rw[hW1];exact HE1.out.alloc _
 have HC2:Hid (W1.heap[w1.heap.size]? =some (.cells #[.int .i64 5,.string T,.int .u64 (wd 0 0),.int .u64 (wd 0 1),.int .u64 (wd 0 2),.int .u64 (wd 0 3),.int .i64 p] 83)):=by rw[hW1];exact Qq _ _ rfl
 have HW1:=hid hW1;have HL1:Hid (w.heap.size<w1.heap.size):=HE1.out.size;clear hW1 HE1
 go_wp2_with fail
 rw[<-HW1.out];refine(HS1.out _ HE2.out.1).mono ?_;rintro e w2 ⟨rfl,hb2⟩;have HE3:=hid (HE2.out.below hb2);have HC3:=hid ((hb2.block _ (Qz HC2.out)).trans HC2.out);clear hb2 HE2 HC2 HW1
 go_wp2_with fail
 refine(HS2.out _ HE3.out.1).mono ?_;rintro e w3 ⟨rfl,hb3⟩;have HE4:=hid (HE3.out.below hb3);have HC4:=hid ((hb3.block _ (Qz HC3.out)).trans HC3.out);clear hb3 HE3 HC3 HS1 HS2;obtain⟨⟨m0,m1,m2,m3,m4,m5,m6⟩,_⟩:=Yy HC4.out;have l13:w1.heap.size<w3.heap.size:=Qz HC4.out;have l01:=HL1.out;have lR:=HE4.out.lt
 go_wp2_with fail
 go_region
 go_wp2_with fail
 obtain⟨W4,hW4⟩:∃W4,W4=(w3.alloc (.cells #[.int .i64 4,.string ⟨#[]⟩,.int .u64 0,.int .u64 0,.int .u64 0,.int .u64 0,.slice none 0 0,.int .i64 p] 30)).drew:=⟨_,rfl⟩;have HE5:Hid (Ew w R b v L k dp 0 0 W4):=by rw[hW4];exact(HE4.out.alloc _).below B0q.drew
 have HN5:Hid (W4.heap[w3.heap.size]? =some (.cells #[.int .i64 4,.string ⟨#[]⟩,.int .u64 0,.int .u64 0,.int .u64 0,.int .u64 0,.slice none 0 0,.int .i64 p] 30)):=by rw[hW4];exact Qq w3 _ rfl
 rw[<-hW4];clear hW4 m0 m1 m2 m3 m4 m5 m6 HC4 HE4;refine(HN.out _ HE5.out.1).mono ?_;rintro e w5 ⟨rfl,hr5,hg5⟩;have HE6:=hid (HE5.out.grown hr5 hg5);have HN6:Hid (w5.heap[w3.heap.size]? =some (.cells #[.int .i64 4,.string ⟨#[]⟩,.int .u64 0,.int .u64 0,.int .u64 0,.int .u64 0,.slice none 0 0,.int .i64 p] 30)):=(hg5.block _ (Qz HN5.out) (fun e=>by have e2:w3.heap.size=R:=Option.some.inj e;omega)).trans HN5.out;clear hr5 hg5 HE5 HN5 HN;obtain⟨⟨m0,m1,m2,m3,m4,m5,m6,m7⟩,_⟩:=Qk HN6.out;obtain⟨⟨k0,k1,k2,k3,k4,k5,k6,k7⟩,⟨f0,f1,f2,f3,f4,f5,f6,f7⟩⟩:=HE6.out.cells;have l05:=HE6.out.size;have l35:=Qz HN6.out
 go_wp2_with fail
 (try simp only[Exit.inBlock,Exit.then])
 obtain⟨⟨c0,c1,c2,c3,c4,c5,c6,c7⟩,_⟩:=Qk (Zx HE6.out.2.2.1 4 {data:=#[]} 0 0 0 0 (.slice none 0 0) (p:Int));refine bodyPost_ret (v:=.agg (n8 4 {data:=#[]} 0 (.slice none 0 0) p).toArray) (by simp[results,Tryz.results133,go_sem,c0,c1,c2,c3,c4,c5,c6,c7,y3f]) rfl ?_;exact HE6.out.fin (C:=0) (by rw[Qw];exact⟨_,rfl,.inl ⟨rfl,rfl⟩⟩) hB
theorem y0E(B R b:Nat)(v:Value)(L:List Tok)(k dp:Nat)(w:World)(h:RdZ w R b v L k dp 0 0)(hk:k<L.length)(h1:(gL L k).1=1)(hh:hdB L k=false)(hg:Qv L)(h0:Tk0 L)(hB:B<=w.heap.size):
  Calls prog 133 #[.pointer (some ⟨R,0,none⟩)] w fun e w'=>AnZ (.inr (.mk 5 (gL L k).2.1 (gL L k).2.2.1 [] (gL L k).2.2.2,k+1)) B R b v L dp w e w':=by
 have fd0:=Tryz.fld0;have fd1:=Tryz.fld1;have fd3:=Tryz.fld3;have HT:=hid (fun(W:World) (h:RdZ W R b v L k dp 0 0)=>Uq R b v L k dp W h hk hg);have HS:=hid (fun(W:World) (x:UInt8) (h:RdZ W R b v L k dp 0 0)=>Uw R b v L k dp W x h hk hg);have HN:=hid (fun(W:World) (h:RdZ W R b v L k dp 0 0)=>Yd R b v L k dp W h hk hg.len (by rw[h1];decide));have hK:k+1<L.length:=hg.nxt k hk (by rw[h1];decide);have hh2:((gL L (k+1)).1 == 2)=false:=by rw[<-z0d hk hK h1];exact hh
 have hC:(gL L k).2.2.1=0:=(h0 k).1 (by rw[h1];decide);have s1:sgB (gL L k) 40=false:=decide_eq_false (fun e=>by have:=Xv e;omega);have s2:sgB (gL L k) 46=false:=decide_eq_false (fun e=>by have:=Xv e;omega);have HS1:=hid (fun(W:World) (h:RdZ W R b v L k dp 0 0)=>s1▸HS.out W 40 h);have HS2:=hid (fun(W:World) (h:RdZ W R b v L k dp 0 0)=>s2▸HS.out W 46 h);obtain⟨t,ht⟩:∃t,t=gL L k:=⟨_,rfl⟩;rw[<-ht]at HT h1 hC ⊢;clear ht s1 s2 HS;obtain⟨kd,T,C,p⟩:=t;obtain rfl:kd=1:=h1;obtain rfl:C=0:=hC
 (try clear h1)
 (try clear hC)
 have HE:Hid (Ew w R b v L k dp 0 0 (w.alloc Zo)):=Ew.start h;clear h;go_enter func133,ntmps133
 go_wp2_with fail
 refine(HT.out _ HE.out.1).mono ?_;rintro e w1 ⟨rfl,hb1⟩;have HE1:=hid (HE.out.below hb1);clear hb1 HE HT;dsimp only[tkv];obtain⟨W1,hW1⟩:∃W1,W1=w1.alloc (.cells #[.int .i64 1,.string T,.int .u64 (wd 0 0),.int .u64 (wd 0 1),.int .u64 (wd 0 2),.int .u64 (wd 0 3),.int .i64 p] 83):=⟨_,rfl⟩;have HE2:Hid (Ew w R b v L k dp 0 0 W1):=by rw[hW1];exact HE1.out.alloc _
 have HC2:Hid (W1.heap[w1.heap.size]? =some (.cells #[.int .i64 1,.string T,.int .u64 (wd 0 0),.int .u64 (wd 0 1),.int .u64 (wd 0 2),.int .u64 (wd 0 3),.int .i64 p] 83)):=by rw[hW1];exact Qq _ _ rfl
 have HW1:=hid hW1;have HL1:Hid (w.heap.size<w1.heap.size):=HE1.out.size;clear hW1 HE1
 go_wp2_with fail
 rw[<-HW1.out];refine(HS1.out _ HE2.out.1).mono ?_;rintro e w2 ⟨rfl,hb2⟩;have HE3:=hid (HE2.out.below hb2);have HC3:=hid ((hb2.block _ (Qz HC2.out)).trans HC2.out);clear hb2 HE2 HC2 HW1
 go_wp2_with fail
 refine(HS2.out _ HE3.out.1).mono ?_;rintro e w3 ⟨rfl,hb3⟩;have HE4:=hid (HE3.out.below hb3);have HC4:=hid ((hb3.block _ (Qz HC3.out)).trans HC3.out);clear hb3 HE3 HC3 HS1 HS2;obtain⟨⟨m0,m1,m2,m3,m4,m5,m6⟩,_⟩:=Yy HC4.out;have l13:w1.heap.size<w3.heap.size:=Qz HC4.out;have l01:=HL1.out;have lR:=HE4.out.lt;obtain⟨g,cap,hvs⟩:=Xl HE4.out.1.2 (by omega);have how:=HE4.out.1.2;rw[hvs]at how;have hcap:=Fb how;have p0:w3.cell? ⟨g,(k+1)*7,none⟩=some (.int .i64 ((gL L (k+1)).1:Int)):=by rw[Xw hK];exact(Db how (k+1) hK rfl).1
 obtain⟨r0,r1,r2,r3,r4,q0,q1,q2,q3,q4⟩:=HE4.out.1.cells;rw[hvs]at r0;clear hvs how;have lR3:=HE4.out.1.lt;obtain⟨kd2,hkd2⟩:∃q,q=(gL L (k+1)).1:=⟨_,rfl⟩;rw[<-hkd2]at p0 hh2;obtain⟨K,hKd⟩:∃K,K=k+1:=⟨_,rfl⟩;rw[<-hKd]at p0;have hKI:(k:Int)+1=(K:Int):=by omega
 have hwK:IntKind.i64.wrap (K:Int)=(K:Int):=by rw[IntKind.wrap_i64];have:=hg.len;omega
 have hKl:(K:Int)<(L.length:Int):=by omega
 obtain⟨n,hn⟩:∃n,n=L.length:=⟨_,rfl⟩;have hnl:n<=10000:=by rw[hn];exact hg.len
 rw[<-hn]at r0 hKl;have HKd:=hid hKd;clear hkd2 hn hKd;have t2:((kd2:Int) != 2)=true:=by rw[bne_iff_ne];simp at hh2;omega
 clear hh2 hh
 go_wp2_with fail
 go_region
 go_wp2_with fail
 obtain⟨W4,hW4⟩:∃W4,W4=(w3.alloc (.cells #[.int .i64 5,.string T,.int .u64 0,.int .u64 0,.int .u64 0,.int .u64 0,.slice none 0 0,.int .i64 p] 30)).drew:=⟨_,rfl⟩;have HE5:Hid (Ew w R b v L k dp 0 0 W4):=by rw[hW4];exact(HE4.out.alloc _).below B0q.drew
 have HN5:Hid (W4.heap[w3.heap.size]? =some (.cells #[.int .i64 5,.string T,.int .u64 0,.int .u64 0,.int .u64 0,.int .u64 0,.slice none 0 0,.int .i64 p] 30)):=by rw[hW4];exact Qq w3 _ rfl
 rw[<-hW4];clear hW4 m0 m1 m2 m3 m4 m5 m6 HC4 HE4 r0 r1 r2 r3 r4 q0 q1 q2 q3 q4 p0;refine(HN.out _ HE5.out.1).mono ?_;rintro e w5 ⟨rfl,hr5,hg5⟩;have HE6:=hid (HE5.out.grown hr5 hg5);have HN6:Hid (w5.heap[w3.heap.size]? =some (.cells #[.int .i64 5,.string T,.int .u64 0,.int .u64 0,.int .u64 0,.int .u64 0,.slice none 0 0,.int .i64 p] 30)):=(hg5.block _ (Qz HN5.out) (fun e=>by have e2:w3.heap.size=R:=Option.some.inj e;omega)).trans HN5.out;clear hr5 hg5 HE5 HN5 HN;obtain⟨⟨m0,m1,m2,m3,m4,m5,m6,m7⟩,_⟩:=Qk HN6.out;obtain⟨⟨k0,k1,k2,k3,k4,k5,k6,k7⟩,⟨f0,f1,f2,f3,f4,f5,f6,f7⟩⟩:=HE6.out.cells;have l05:=HE6.out.size;have l35:=Qz HN6.out
 go_wp2_with fail
 (try simp only[Exit.inBlock,Exit.then])
 obtain⟨⟨c0,c1,c2,c3,c4,c5,c6,c7⟩,_⟩:=Qk (Zx HE6.out.2.2.1 5 T 0 0 0 0 (.slice none 0 0) (p:Int));refine bodyPost_ret (v:=.agg (n8 5 T 0 (.slice none 0 0) p).toArray) (by simp[results,Tryz.results133,go_sem,c0,c1,c2,c3,c4,c5,c6,c7,y3f]) rfl ?_;exact HE6.out.fin (C:=0) (by rw[Qw];exact⟨_,rfl,.inl ⟨rfl,rfl⟩⟩) hB
theorem y0F(B R b:Nat)(v:Value)(L:List Tok)(k dp:Nat)(w:World)(h:RdZ w R b v L k dp 0 0)(hk:k<L.length)(h1:(gL L k).1≠1)(h3:(gL L k).1≠3)(h4:(gL L k).1≠4)(hd:¬sgT (gL L k)={data:=#[46]})(hp:¬sgT (gL L k)={data:=#[40]})(hg:Qv L)(h0:Tk0 L)(hB:B<=w.heap.size):
  Calls prog 133 #[.pointer (some ⟨R,0,none⟩)] w fun e w'=>AnZ (.inl (wrC (gL L k),(gL L k).2.2.2)) B R b v L dp w e w':=by
 have fd0:=Tryz.fld0;have fd1:=Tryz.fld1;have fd3:=Tryz.fld3;have HT:=hid (fun(W:World) (h:RdZ W R b v L k dp 0 0)=>Uq R b v L k dp W h hk hg);have HS:=hid (fun(W:World) (x:UInt8) (h:RdZ W R b v L k dp 0 0)=>Uw R b v L k dp W x h hk hg);have HX:=hid (fun(W:World) (h:RdZ W R b v L k dp 0 0)=>Oh R b v L k dp W h hk hg.len);have HN:=hid (fun(W:World) (c q:Int) (hc:c≠0) (h:RdZ W R b v L k dp c q)=>Bz R b v L k dp c q W h hc);have s1:sgB (gL L k) 40=false:=decide_eq_false hp;have s2:sgB (gL L k) 46=false:=decide_eq_false hd;have HS1:=hid (fun(W:World) (h:RdZ W R b v L k dp 0 0)=>s1▸HS.out W 40 h);have HS2:=hid (fun(W:World) (h:RdZ W R b v L k dp 0 0)=>s2▸HS.out W 46 h);clear hd hp;obtain⟨t,ht⟩:∃t,t=gL L k:=⟨_,rfl⟩;rw[<-ht]at HT h1 h3 h4 ⊢;clear ht s1 s2 HS;obtain⟨kd,T,C,p⟩:=t;have t1:((kd:Int) == 1)=false:=by simp only at h1;simp;omega
 have t3:((kd:Int) == 3)=false:=by simp only at h3;simp;omega
 have t4:((kd:Int) == 4)=false:=by simp only at h4;simp;omega
 clear h1 h3 h4;have HE:Hid (Ew w R b v L k dp 0 0 (w.alloc Zo)):=Ew.start h;clear h;go_enter func133,ntmps133
 go_wp2_with fail
 refine(HT.out _ HE.out.1).mono ?_;rintro e w1 ⟨rfl,hb1⟩;have HE1:=hid (HE.out.below hb1);clear hb1 HE HT;dsimp only[tkv];obtain⟨W1,hW1⟩:∃W1,W1=w1.alloc (.cells #[.int .i64 kd,.string T,.int .u64 (wd C 0),.int .u64 (wd C 1),.int .u64 (wd C 2),.int .u64 (wd C 3),.int .i64 p] 83):=⟨_,rfl⟩;have HE2:Hid (Ew w R b v L k dp 0 0 W1):=by rw[hW1];exact HE1.out.alloc _
 have HC2:Hid (W1.heap[w1.heap.size]? =some (.cells #[.int .i64 kd,.string T,.int .u64 (wd C 0),.int .u64 (wd C 1),.int .u64 (wd C 2),.int .u64 (wd C 3),.int .i64 p] 83)):=by rw[hW1];exact Qq _ _ rfl
 have HW1:=hid hW1;have HL1:Hid (w.heap.size<w1.heap.size):=HE1.out.size;clear hW1 HE1
 go_wp2_with fail
 rw[<-HW1.out];refine(HS1.out _ HE2.out.1).mono ?_;rintro e w2 ⟨rfl,hb2⟩;have HE3:=hid (HE2.out.below hb2);have HC3:=hid ((hb2.block _ (Qz HC2.out)).trans HC2.out);clear hb2 HE2 HC2 HW1
 go_wp2_with fail
 refine(HS2.out _ HE3.out.1).mono ?_;rintro e w3 ⟨rfl,hb3⟩;have HE4:=hid (HE3.out.below hb3);have HC4:=hid ((hb3.block _ (Qz HC3.out)).trans HC3.out);clear hb3 HE3 HC3 HS1 HS2;obtain⟨⟨m0,m1,m2,m3,m4,m5,m6⟩,_⟩:=Yy HC4.out;have l13:w1.heap.size<w3.heap.size:=Qz HC4.out;have l01:=HL1.out;have lR:=HE4.out.lt
 go_wp2_with fail
 go_region
 go_wp2_with fail
 obtain⟨W4,hW4⟩:∃W4,W4=(w3.alloc (.cells #[.int .i64 0,.string ⟨#[]⟩,.int .u64 0,.int .u64 0,.int .u64 0,.int .u64 0,.slice none 0 0,.int .i64 p] 30)).drew:=⟨_,rfl⟩;have HE5:Hid (Ew w R b v L k dp 0 0 W4):=by rw[hW4];exact(HE4.out.alloc _).below B0q.drew
 have HN5:Hid (W4.heap[w3.heap.size]? =some (.cells #[.int .i64 0,.string ⟨#[]⟩,.int .u64 0,.int .u64 0,.int .u64 0,.int .u64 0,.slice none 0 0,.int .i64 p] 30)):=by rw[hW4];exact Qq w3 _ rfl
 rw[<-hW4];clear hW4 m0 m1 m2 m3 m4 m5 m6 HC4 HE4;refine(HX.out _ HE5.out.1).mono ?_;rintro e w5 ⟨rfl,hr5,hg5⟩;obtain⟨c',q',hc',hr6⟩:=hr5.out;have HE6:=hid (HE5.out.grown hr6 hg5.out);have HN6:Hid (w5.heap[w3.heap.size]? =some (.cells #[.int .i64 0,.string ⟨#[]⟩,.int .u64 0,.int .u64 0,.int .u64 0,.int .u64 0,.slice none 0 0,.int .i64 p] 30)):=(hg5.out.block _ (Qz HN5.out) (fun e=>by have e2:w3.heap.size=R:=Option.some.inj e;omega)).trans HN5.out;have HC':=hid hc';clear hr5 hg5 hr6 HE5 HN5 HX hc'
 go_wp2_with fail
 refine(HN.out _ _ _ HC'.out HE6.out.1).mono ?_;rintro e w6 ⟨rfl,hb6⟩;have HE7:=hid (HE6.out.below hb6);have HN7:=hid ((hb6.block _ (Qz HN6.out)).trans HN6.out);clear hb6 HE6 HN6 HN;obtain⟨⟨m0,m1,m2,m3,m4,m5,m6,m7⟩,_⟩:=Qk HN7.out;obtain⟨⟨k0,k1,k2,k3,k4,k5,k6,k7⟩,⟨f0,f1,f2,f3,f4,f5,f6,f7⟩⟩:=HE7.out.cells;have l05:=HE7.out.size;have l35:=Qz HN7.out
 go_wp2_with fail
 (try simp only[Exit.inBlock,Exit.then])
 obtain⟨⟨c0,c1,c2,c3,c4,c5,c6,c7⟩,_⟩:=Qk (Zx HE7.out.2.2.1 0 {data:=#[]} 0 0 0 0 (.slice none 0 0) (p:Int));refine bodyPost_ret (v:=.agg #[.int .i64 0,.string ⟨#[]⟩,.int .u64 0,.int .u64 0,.int .u64 0,.int .u64 0,.slice none 0 0,.int .i64 p]) (by simp[results,Tryz.results133,go_sem,c0,c1,c2,c3,c4,c5,c6,c7]) rfl ?_;exact HE7.out.err HC'.out hk 0 _ 0 0 0 0 none 0 0 (p:Int)
theorem y0G(B R b:Nat)(v:Value)(L:List Tok)(k dp:Nat)(w:World)(h:RdZ w R b v L k dp 0 0)(hk:k<L.length)(h1:(gL L k).1=1)(hh:hdB L k=true)(hg:Qv L)(h0:Tk0 L)(hB:B<=w.heap.size):
  Calls prog 133 #[.pointer (some ⟨R,0,none⟩)] w fun e w'=>AnZ (.inl (wrC (gL L k),(gL L k).2.2.2)) B R b v L dp w e w':=by
 have fd0:=Tryz.fld0;have fd1:=Tryz.fld1;have fd3:=Tryz.fld3;have HT:=hid (fun(W:World) (h:RdZ W R b v L k dp 0 0)=>Uq R b v L k dp W h hk hg);have HS:=hid (fun(W:World) (x:UInt8) (h:RdZ W R b v L k dp 0 0)=>Uw R b v L k dp W x h hk hg);have HX:=hid (fun(W:World) (h:RdZ W R b v L k dp 0 0)=>Oh R b v L k dp W h hk hg.len);have HN:=hid (fun(W:World) (c q:Int) (hc:c≠0) (h:RdZ W R b v L k dp c q)=>Bz R b v L k dp c q W h hc);have hK:k+1<L.length:=hg.nxt k hk (by rw[h1];decide);have hh2:((gL L (k+1)).1 == 2)=true:=by rw[<-z0d hk hK h1];exact hh
 have s1:sgB (gL L k) 40=false:=decide_eq_false (fun e=>by have:=Xv e;omega);have s2:sgB (gL L k) 46=false:=decide_eq_false (fun e=>by have:=Xv e;omega);have HS1:=hid (fun(W:World) (h:RdZ W R b v L k dp 0 0)=>s1▸HS.out W 40 h);have HS2:=hid (fun(W:World) (h:RdZ W R b v L k dp 0 0)=>s2▸HS.out W 46 h);obtain⟨t,ht⟩:∃t,t=gL L k:=⟨_,rfl⟩;rw[<-ht]at HT h1 ⊢;clear ht s1 s2 HS;obtain⟨kd,T,C,p⟩:=t;obtain rfl:kd=1:=h1
 (try clear h1)
 have HE:Hid (Ew w R b v L k dp 0 0 (w.alloc Zo)):=Ew.start h;clear h;go_enter func133,ntmps133
 go_wp2_with fail
 refine(HT.out _ HE.out.1).mono ?_;rintro e w1 ⟨rfl,hb1⟩;have HE1:=hid (HE.out.below hb1);clear hb1 HE HT;dsimp only[tkv];obtain⟨W1,hW1⟩:∃W1,W1=w1.alloc (.cells #[.int .i64 1,.string T,.int .u64 (wd C 0),.int .u64 (wd C 1),.int .u64 (wd C 2),.int .u64 (wd C 3),.int .i64 p] 83):=⟨_,rfl⟩;have HE2:Hid (Ew w R b v L k dp 0 0 W1):=by rw[hW1];exact HE1.out.alloc _
 have HC2:Hid (W1.heap[w1.heap.size]? =some (.cells #[.int .i64 1,.string T,.int .u64 (wd C 0),.int .u64 (wd C 1),.int .u64 (wd C 2),.int .u64 (wd C 3),.int .i64 p] 83)):=by rw[hW1];exact Qq _ _ rfl
 have HW1:=hid hW1;have HL1:Hid (w.heap.size<w1.heap.size):=HE1.out.size;clear hW1 HE1
 go_wp2_with fail
 rw[<-HW1.out];refine(HS1.out _ HE2.out.1).mono ?_;rintro e w2 ⟨rfl,hb2⟩;have HE3:=hid (HE2.out.below hb2);have HC3:=hid ((hb2.block _ (Qz HC2.out)).trans HC2.out);clear hb2 HE2 HC2 HW1
 go_wp2_with fail
 refine(HS2.out _ HE3.out.1).mono ?_;rintro e w3 ⟨rfl,hb3⟩;have HE4:=hid (HE3.out.below hb3);have HC4:=hid ((hb3.block _ (Qz HC3.out)).trans HC3.out);clear hb3 HE3 HC3 HS1 HS2;obtain⟨⟨m0,m1,m2,m3,m4,m5,m6⟩,_⟩:=Yy HC4.out;have l13:w1.heap.size<w3.heap.size:=Qz HC4.out;have l01:=HL1.out;have lR:=HE4.out.lt;obtain⟨g,cap,hvs⟩:=Xl HE4.out.1.2 (by omega);have how:=HE4.out.1.2;rw[hvs]at how;have hcap:=Fb how;have p0:w3.cell? ⟨g,(k+1)*7,none⟩=some (.int .i64 ((gL L (k+1)).1:Int)):=by rw[Xw hK];exact(Db how (k+1) hK rfl).1
 obtain⟨r0,r1,r2,r3,r4,q0,q1,q2,q3,q4⟩:=HE4.out.1.cells;rw[hvs]at r0;clear hvs how;have lR3:=HE4.out.1.lt;obtain⟨kd2,hkd2⟩:∃q,q=(gL L (k+1)).1:=⟨_,rfl⟩;rw[<-hkd2]at p0 hh2;obtain⟨K,hKd⟩:∃K,K=k+1:=⟨_,rfl⟩;rw[<-hKd]at p0;have hKI:(k:Int)+1=(K:Int):=by omega
 have hwK:IntKind.i64.wrap (K:Int)=(K:Int):=by rw[IntKind.wrap_i64];have:=hg.len;omega
 have hKl:(K:Int)<(L.length:Int):=by omega
 obtain⟨n,hn⟩:∃n,n=L.length:=⟨_,rfl⟩;have hnl:n<=10000:=by rw[hn];exact hg.len
 rw[<-hn]at r0 hKl;have HKd:=hid hKd;clear hkd2 hn hKd;have t2:((kd2:Int) != 2)=false:=by simp at hh2 ⊢;omega
 clear hh2 hh
 go_wp2_with fail
 go_region
 go_wp2_with fail
 obtain⟨W4,hW4⟩:∃W4,W4=(w3.alloc (.cells #[.int .i64 0,.string ⟨#[]⟩,.int .u64 0,.int .u64 0,.int .u64 0,.int .u64 0,.slice none 0 0,.int .i64 p] 30)).drew:=⟨_,rfl⟩;have HE5:Hid (Ew w R b v L k dp 0 0 W4):=by rw[hW4];exact(HE4.out.alloc _).below B0q.drew
 have HN5:Hid (W4.heap[w3.heap.size]? =some (.cells #[.int .i64 0,.string ⟨#[]⟩,.int .u64 0,.int .u64 0,.int .u64 0,.int .u64 0,.slice none 0 0,.int .i64 p] 30)):=by rw[hW4];exact Qq w3 _ rfl
 rw[<-hW4];clear hW4 m0 m1 m2 m3 m4 m5 m6 HC4 HE4 r0 r1 r2 r3 r4 q0 q1 q2 q3 q4 p0;refine(HX.out _ HE5.out.1).mono ?_;rintro e w5 ⟨rfl,hr5,hg5⟩;obtain⟨c',q',hc',hr6⟩:=hr5.out;have HE6:=hid (HE5.out.grown hr6 hg5.out);have HN6:Hid (w5.heap[w3.heap.size]? =some (.cells #[.int .i64 0,.string ⟨#[]⟩,.int .u64 0,.int .u64 0,.int .u64 0,.int .u64 0,.slice none 0 0,.int .i64 p] 30)):=(hg5.out.block _ (Qz HN5.out) (fun e=>by have e2:w3.heap.size=R:=Option.some.inj e;omega)).trans HN5.out;have HC':=hid hc';clear hr5 hg5 hr6 HE5 HN5 HX hc'
 go_wp2_with fail
 refine(HN.out _ _ _ HC'.out HE6.out.1).mono ?_;rintro e w6 ⟨rfl,hb6⟩;have HE7:=hid (HE6.out.below hb6);have HN7:=hid ((hb6.block _ (Qz HN6.out)).trans HN6.out);clear hb6 HE6 HN6 HN;obtain⟨⟨m0,m1,m2,m3,m4,m5,m6,m7⟩,_⟩:=Qk HN7.out;obtain⟨⟨k0,k1,k2,k3,k4,k5,k6,k7⟩,⟨f0,f1,f2,f3,f4,f5,f6,f7⟩⟩:=HE7.out.cells;have l05:=HE7.out.size;have l35:=Qz HN7.out
 go_wp2_with fail
 (try simp only[Exit.inBlock,Exit.then])
 obtain⟨⟨c0,c1,c2,c3,c4,c5,c6,c7⟩,_⟩:=Qk (Zx HE7.out.2.2.1 0 {data:=#[]} 0 0 0 0 (.slice none 0 0) (p:Int));refine bodyPost_ret (v:=.agg #[.int .i64 0,.string ⟨#[]⟩,.int .u64 0,.int .u64 0,.int .u64 0,.int .u64 0,.slice none 0 0,.int .i64 p]) (by simp[results,Tryz.results133,go_sem,c0,c1,c2,c3,c4,c5,c6,c7]) rfl ?_;exact HE7.out.err HC'.out hk 0 _ 0 0 0 0 none 0 0 (p:Int)
end
open Go.RowKit
theorem Ew.shut{w W W':World}{R b:Nat}{v:Value}{L:List Tok}{k dp dp':Nat}{c q:Int}(h:Ew w R b v L k dp c q W)(hx:Rx W' R b v L dp')(hg:W.grownBy W' (some R)):∃(k':Nat) (c' q':Int),k'<L.length/\c'≠0/\Ew w R b v L k' dp' c' q' W':=by
 obtain⟨k',c',q',h1,h2,h3⟩:=hx;exact⟨k',c',q',h1,h2,h.grown h3 hg⟩
theorem y0H(B R b:Nat)(v:Value)(L:List Tok)(k dp:Nat)(w:World)(h:RdZ w R b v L k dp 0 0)(hk:k<L.length)(h5:sgT (gL L k)={data:=#[40]})(n:Nd)(k2:Nat)(HI:Hid (∀(B:Nat) (W:World),RdZ W R b v L k dp 0 0->B<=W.heap.size->Calls prog 139 #[.pointer (some ⟨R,0,none⟩)] W fun e w'=>AnZ (.inr (n,k2)) B R b v L dp W e w'))(hg:Qv L)(h0:Tk0 L)(hB:B<=w.heap.size):
  Calls prog 133 #[.pointer (some ⟨R,0,none⟩)] w fun e w'=>AnZ (.inr (n,k2)) B R b v L dp w e w':=by
 have fd0:=Tryz.fld0;have fd1:=Tryz.fld1;have fd3:=Tryz.fld3;have HT:=hid (fun(W:World) (h:RdZ W R b v L k dp 0 0)=>Uq R b v L k dp W h hk hg);have HS:=hid (fun(W:World) (x:UInt8) (h:RdZ W R b v L k dp 0 0)=>Uw R b v L k dp W x h hk hg);have h3:(gL L k).1=5:=Xv h5;have s1:sgB (gL L k) 40=true:=decide_eq_true h5;have s2:sgB (gL L k) 46=false:=decide_eq_false (fun e=>by rw[h5]at e;exact absurd (congrArg (fun a:ByteArray=>a.data[0]?) e) (by decide));have HS1:=hid (fun(W:World) (h:RdZ W R b v L k dp 0 0)=>s1▸HS.out W 40 h);have HS2:=hid (fun(W:World) (h:RdZ W R b v L k dp 0 0)=>s2▸HS.out W 46 h);clear h5;obtain⟨t,ht⟩:∃t,t=gL L k:=⟨_,rfl⟩;rw[<-ht]at HT h3;clear ht s1 s2 HS;obtain⟨kd,T,C,p⟩:=t;obtain rfl:kd=5:=h3
 (try clear h3)
 have HE:Hid (Ew w R b v L k dp 0 0 (w.alloc Zo)):=Ew.start h;clear h;go_enter func133,ntmps133
 go_wp2_with fail
 refine(HT.out _ HE.out.1).mono ?_;rintro e w1 ⟨rfl,hb1⟩;have HE1:=hid (HE.out.below hb1);clear hb1 HE HT;dsimp only[tkv];obtain⟨W1,hW1⟩:∃W1,W1=w1.alloc (.cells #[.int .i64 5,.string T,.int .u64 (wd C 0),.int .u64 (wd C 1),.int .u64 (wd C 2),.int .u64 (wd C 3),.int .i64 p] 83):=⟨_,rfl⟩;have HE2:Hid (Ew w R b v L k dp 0 0 W1):=by rw[hW1];exact HE1.out.alloc _
 have HC2:Hid (W1.heap[w1.heap.size]? =some (.cells #[.int .i64 5,.string T,.int .u64 (wd C 0),.int .u64 (wd C 1),.int .u64 (wd C 2),.int .u64 (wd C 3),.int .i64 p] 83)):=by rw[hW1];exact Qq _ _ rfl
 have HW1:=hid hW1;have HL1:Hid (w.heap.size<w1.heap.size):=HE1.out.size;clear hW1 HE1
 go_wp2_with fail
 rw[<-HW1.out];refine(HS1.out _ HE2.out.1).mono ?_;rintro e w2 ⟨rfl,hb2⟩;have HE3:=hid (HE2.out.below hb2);have HC3:=hid ((hb2.block _ (Qz HC2.out)).trans HC2.out);clear hb2 HE2 HC2 HW1
 go_wp2_with fail
 refine(HS2.out _ HE3.out.1).mono ?_;rintro e w3 ⟨rfl,hb3⟩;have HE4:=hid (HE3.out.below hb3);have HC4:=hid ((hb3.block _ (Qz HC3.out)).trans HC3.out);clear hb3 HE3 HC3 HS1 HS2;obtain⟨⟨m0,m1,m2,m3,m4,m5,m6⟩,_⟩:=Yy HC4.out;have l13:w1.heap.size<w3.heap.size:=Qz HC4.out;have l01:=HL1.out;have lR:=HE4.out.lt
 go_wp2_with fail
 go_region
 go_wp2_with fail
 obtain⟨W4,hW4⟩:∃W4,W4=(w3.alloc (.cells #[.int .i64 0,.string ⟨#[]⟩,.int .u64 0,.int .u64 0,.int .u64 0,.int .u64 0,.slice none 0 0,.int .i64 p] 30)).drew:=⟨_,rfl⟩;have HE5:Hid (Ew w R b v L k dp 0 0 W4):=by rw[hW4];exact(HE4.out.alloc _).below B0q.drew
 have HN5:Hid (W4.heap[w3.heap.size]? =some (.cells #[.int .i64 0,.string ⟨#[]⟩,.int .u64 0,.int .u64 0,.int .u64 0,.int .u64 0,.slice none 0 0,.int .i64 p] 30)):=by rw[hW4];exact Qq w3 _ rfl
 rw[<-hW4];clear hW4 m0 m1 m2 m3 m4 m5 m6 HC4 HE4;refine(HI.out (w.heap.size+1) _ HE5.out.1 HE5.out.size).mono ?_;rintro e w5 ⟨cs,rfl,HN,HR,HGr⟩;have HE6:=hid (HE5.out.grown HR.out HGr.out);clear HI HR HGr HE5 HN5;obtain⟨kd,T2,C2,so,sl,sc,hcs⟩:=HN.out.shape;obtain⟨q,hq⟩:∃q,q=n.at':=⟨_,rfl⟩;rw[<-hq]at hcs;subst hcs;clear hq;dsimp only[n8];obtain⟨⟨k0,k1,k2,k3,k4,k5,k6,k7⟩,⟨f0,f1,f2,f3,f4,f5,f6,f7⟩⟩:=HE6.out.cells
 go_wp2_with fail
 (try simp only[Exit.inBlock,Exit.then])
 obtain⟨⟨c0,c1,c2,c3,c4,c5,c6,c7⟩,_⟩:=Qk (Zx HE6.out.2.2.1 (kd:Int) T2 (wd C2 0:Nat) (wd C2 1:Nat) (wd C2 2:Nat) (wd C2 3:Nat) (.slice so sl sc) (q:Int));refine bodyPost_ret (v:=.agg (n8 kd T2 C2 (.slice so sl sc) q).toArray) (by simp[results,Tryz.results133,go_sem,c0,c1,c2,c3,c4,c5,c6,c7]) rfl ?_;exact HE6.out.fin HN.out hB
theorem y0I(B R b:Nat)(v:Value)(L:List Tok)(k dp:Nat)(w:World)(h:RdZ w R b v L k dp 0 0)(hk:k<L.length)(h5:sgT (gL L k)={data:=#[40]})(cc:Nat×Nat)(HI:Hid (∀(B:Nat) (W:World),RdZ W R b v L k dp 0 0->B<=W.heap.size->Calls prog 139 #[.pointer (some ⟨R,0,none⟩)] W fun e w'=>AnZ (.inl cc) B R b v L dp W e w'))(hg:Qv L)(h0:Tk0 L)(hB:B<=w.heap.size):
  Calls prog 133 #[.pointer (some ⟨R,0,none⟩)] w fun e w'=>AnZ (.inl cc) B R b v L dp w e w':=by
 have fd0:=Tryz.fld0;have fd1:=Tryz.fld1;have fd3:=Tryz.fld3;have HT:=hid (fun(W:World) (h:RdZ W R b v L k dp 0 0)=>Uq R b v L k dp W h hk hg);have HS:=hid (fun(W:World) (x:UInt8) (h:RdZ W R b v L k dp 0 0)=>Uw R b v L k dp W x h hk hg);have h3:(gL L k).1=5:=Xv h5;have s1:sgB (gL L k) 40=true:=decide_eq_true h5;have s2:sgB (gL L k) 46=false:=decide_eq_false (fun e=>by rw[h5]at e;exact absurd (congrArg (fun a:ByteArray=>a.data[0]?) e) (by decide));have HS1:=hid (fun(W:World) (h:RdZ W R b v L k dp 0 0)=>s1▸HS.out W 40 h);have HS2:=hid (fun(W:World) (h:RdZ W R b v L k dp 0 0)=>s2▸HS.out W 46 h);clear h5;obtain⟨t,ht⟩:∃t,t=gL L k:=⟨_,rfl⟩;rw[<-ht]at HT h3;clear ht s1 s2 HS;obtain⟨kd,T,C,p⟩:=t;obtain rfl:kd=5:=h3
 (try clear h3)
 have HE:Hid (Ew w R b v L k dp 0 0 (w.alloc Zo)):=Ew.start h;clear h;go_enter func133,ntmps133
 go_wp2_with fail
 refine(HT.out _ HE.out.1).mono ?_;rintro e w1 ⟨rfl,hb1⟩;have HE1:=hid (HE.out.below hb1);clear hb1 HE HT;dsimp only[tkv];obtain⟨W1,hW1⟩:∃W1,W1=w1.alloc (.cells #[.int .i64 5,.string T,.int .u64 (wd C 0),.int .u64 (wd C 1),.int .u64 (wd C 2),.int .u64 (wd C 3),.int .i64 p] 83):=⟨_,rfl⟩;have HE2:Hid (Ew w R b v L k dp 0 0 W1):=by rw[hW1];exact HE1.out.alloc _
 have HC2:Hid (W1.heap[w1.heap.size]? =some (.cells #[.int .i64 5,.string T,.int .u64 (wd C 0),.int .u64 (wd C 1),.int .u64 (wd C 2),.int .u64 (wd C 3),.int .i64 p] 83)):=by rw[hW1];exact Qq _ _ rfl
 have HW1:=hid hW1;have HL1:Hid (w.heap.size<w1.heap.size):=HE1.out.size;clear hW1 HE1
 go_wp2_with fail
 rw[<-HW1.out];refine(HS1.out _ HE2.out.1).mono ?_;rintro e w2 ⟨rfl,hb2⟩;have HE3:=hid (HE2.out.below hb2);have HC3:=hid ((hb2.block _ (Qz HC2.out)).trans HC2.out);clear hb2 HE2 HC2 HW1
 go_wp2_with fail
 refine(HS2.out _ HE3.out.1).mono ?_;rintro e w3 ⟨rfl,hb3⟩;have HE4:=hid (HE3.out.below hb3);have HC4:=hid ((hb3.block _ (Qz HC3.out)).trans HC3.out);clear hb3 HE3 HC3 HS1 HS2;obtain⟨⟨m0,m1,m2,m3,m4,m5,m6⟩,_⟩:=Yy HC4.out;have l13:w1.heap.size<w3.heap.size:=Qz HC4.out;have l01:=HL1.out;have lR:=HE4.out.lt
 go_wp2_with fail
 go_region
 go_wp2_with fail
 obtain⟨W4,hW4⟩:∃W4,W4=(w3.alloc (.cells #[.int .i64 0,.string ⟨#[]⟩,.int .u64 0,.int .u64 0,.int .u64 0,.int .u64 0,.slice none 0 0,.int .i64 p] 30)).drew:=⟨_,rfl⟩;have HE5:Hid (Ew w R b v L k dp 0 0 W4):=by rw[hW4];exact(HE4.out.alloc _).below B0q.drew
 have HN5:Hid (W4.heap[w3.heap.size]? =some (.cells #[.int .i64 0,.string ⟨#[]⟩,.int .u64 0,.int .u64 0,.int .u64 0,.int .u64 0,.slice none 0 0,.int .i64 p] 30)):=by rw[hW4];exact Qq w3 _ rfl
 rw[<-hW4];clear hW4 m0 m1 m2 m3 m4 m5 m6 HC4 HE4;refine(HI.out (w.heap.size+1) _ HE5.out.1 HE5.out.size).mono ?_;rintro e w5 ⟨kd,T2,a0,a1,a2,a3,so,sl,sc,q,rfl,HX,HGr⟩;obtain⟨k',c',q',hk',hc',hE6⟩:=HE5.out.shut HX.out HGr.out;have HE6:=hid hE6;have HC':=hid hc';have HK':=hid hk';clear HI HX HGr HE5 HN5 hE6 hc' hk';obtain⟨⟨k0,k1,k2,k3,k4,k5,k6,k7⟩,⟨f0,f1,f2,f3,f4,f5,f6,f7⟩⟩:=HE6.out.cells
 go_wp2_with fail
 (try simp only[Exit.inBlock,Exit.then])
 obtain⟨⟨c0,c1,c2,c3,c4,c5,c6,c7⟩,_⟩:=Qk (Zx HE6.out.2.2.1 kd T2 a0 a1 a2 a3 (.slice so sl sc) q);refine bodyPost_ret (v:=.agg #[.int .i64 kd,.string T2,.int .u64 a0,.int .u64 a1,.int .u64 a2,.int .u64 a3,.slice so sl sc,.int .i64 q]) (by simp[results,Tryz.results133,go_sem,c0,c1,c2,c3,c4,c5,c6,c7]) rfl ?_;exact HE6.out.err HC'.out HK'.out kd T2 a0 a1 a2 a3 so sl sc q
theorem y0J(R b:Nat)(v:Value)(L:List Tok)(dp:Nat)(inn:Nat->Pr)(hg:Qv L)(h0:Tk0 L)(hi:MQ 139 inn (fun k=>sgT (gL L k)={data:=#[40]}) R b v L dp):
  MQ 133 (Zj L inn) (fun _=>True) R b v L dp:=by
 intro k B w h hk _ hB;unfold Zj;split
 ·rename_i hc
  exact y0E B R b v L k dp w h hk hc.1 hc.2 hg h0 hB
 ·rename_i hc
  split
  ·rename_i h3
   exact y0B B R b v L k dp w h hk h3 hg h0 hB
  ·rename_i h3
   split
   ·rename_i h4
    exact y0C B R b v L k dp w h hk h4 hg h0 hB
   ·rename_i h4
    split
    ·rename_i hd
     exact y0D B R b v L k dp w h hk hd hg h0 hB
    ·rename_i hd
     split
     ·rename_i hp
      have HI:=fun(B:Nat) (W:World) (h:RdZ W R b v L k dp 0 0) (hB:B<=W.heap.size)=>hi k B W h hk hp hB
      cases hr:inn k with
      |inl cc=>
       simp only[hr]at HI;exact y0I B R b v L k dp w h hk hp cc (hid HI) hg h0 hB
      |inr q=>
       obtain⟨n,k2⟩:=q;simp only[hr]at HI;exact y0H B R b v L k dp w h hk hp n k2 (hid HI) hg h0 hB
     ·rename_i hp
      by_cases h1:(gL L k).1=1
      ·have hh:hdB L k=true:=by
        cases hb:hdB L k with
        |true=>rfl
        |false=>exact absurd ⟨h1,hb⟩ hc
       exact y0G B R b v L k dp w h hk h1 hh hg h0 hB
      ·exact y0F B R b v L k dp w h hk h1 h3 h4 hd hp hg h0 hB
end Go.Proofs.YtikfnaffiehpaaaGreatDoor
