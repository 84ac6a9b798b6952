/- Lemmas for the last text. Conditions: those that each names. -/
import Derived.Test.YtlogolpcipiceaaGreatDoorVY11ToY12
set_option linter.unusedVariables false
set_option maxRecDepth 100000
set_option maxHeartbeats 16000000
namespace Go.Proofs.YtlogolpcipiceaaGreatDoor
open Go.Proofs.Tryz
section
open Go.RowKit
abbrev Rl:=ByteArray×Nd×Nat
def Yx(w:World)(P:Nat->Prop)(r:Rl)(c:List Value):Prop:=∃cs,c=.string r.1::(cs++[.int .i64 (r.2.2:Int)])/\Qy w P r.2.1 cs
def ruE(N:ByteArray)(p:Nat)(r:Pr):(Nat×Nat) ⊕ (Rl×Nat):=match r with
 | .inl e=>.inl e
 | .inr (n,k')=>.inr ((N,n,p),k')
def ruS(L:List Tok)(ru k:Nat):(Nat×Nat) ⊕ (Rl×Nat):=
 if(gL L k).1≠1 then .inl (wrC (gL L k),(gL L k).2.2.2)
 else if ru=64 then .inl (2,(gL L k).2.2.2)
 else if(gL L (k+1)).1≠2 then .inl (wrC (gL L (k+1)),(gL L (k+1)).2.2.2)
 else ruE (gL L k).2.1 (gL L k).2.2.2 (chS L (Zy L 24) (k+2))
theorem z0D{L:List Tok}(hg:Qc L){ru k k':Nat}{x:Rl}(hk:k<L.length)(h:ruS L ru k=.inr (x,k')):k+2<=k'/\k'<L.length:=by
 unfold ruS at h;split at h
 ·cases h
 ·rename_i h1
  split at h
  ·cases h
  ·split at h
   ·cases h
   ·rename_i h2
    have hk1:=hg.nxt k hk (by omega);have hk2:=hg.nxt (k+1) hk1 (by omega);cases hs:chS L (Zy L 24) (k+2)with
    |inl e=>rw[hs]at h;cases h
    |inr q=>
     obtain⟨n,j⟩:=q;rw[hs]at h;have:=Ic hg (Nb hg 24) hk2 hs;simp only[ruE,Sum.inr.injEq,Prod.mk.injEq]at h;omega
def Dm(r:(Nat×Nat) ⊕ (Rl×Nat))(B R b:Nat)(v:Value)(L:List Tok)(ru:Nat)(w:World)(e:Ending)(w':World):Prop:=
 match r with
 | .inr (x,k')=>∃cs:List Value,e=.returned (.agg cs.toArray)/\Hid (Yx w' (fun g=>B<=g) x cs)/\Hid (Rd w' R b v L k' (ru+1) 0)/\Hid (w.grownBy w' (some R))
 | .inl c=>∃f,e=.panicked [{v:=.iface 95 (.pointer (some ⟨f,0,none⟩)),recovered:=false}]/\Hid (w.heap.size<=f/\Flt w' f c)/\Hid (w.grownBy w' (some R))
def Ek(O:Obj)(w:World)(R b:Nat)(v:Value)(L:List Tok)(k ru ne:Nat)(W:World):Prop:=
 Rd W R b v L k ru ne/\w.grownBy W (some R)/\W.heap[w.heap.size]? =some O/\R<w.heap.size/\(∀g,w.heap.size<=g->v.ownBlock≠some g)
section
variable {O:Obj} {w W W':World} {R b:Nat} {v:Value} {L:List Tok} {k k' ru ru' ne ne':Nat}
theorem Ek.start(O:Obj)(h:Rd w R b v L k ru ne):Ek O w R b v L k ru ne (w.alloc O):=
 ⟨h.alloc _,G.alloc (G.refl w R),Qx w _ rfl,h.lt,fun g hg e=>by have:=(h.2.lt _ e).2;omega⟩
theorem Ek.size(h:Ek O w R b v L k ru ne W):w.heap.size<W.heap.size:=Qz h.2.2.1
theorem Ek.lt(h:Ek O w R b v L k ru ne W):R<w.heap.size:=h.2.2.2.1
theorem Ek.grown(h:Ek O w R b v L k ru ne W)(hr:Rd W' R b v L k' ru' ne')(hg:W.grownBy W' (some R)):Ek O w R b v L k' ru' ne' W':=
 ⟨hr,G.trans h.2.1 hg,(hg.block _ h.size (fun e=>by have:=Option.some.inj e;have:=h.lt;omega)).trans h.2.2.1,h.2.2.2.1,h.2.2.2.2⟩
theorem Ek.below(h:Ek O w R b v L k ru ne W)(hb:Below W.heap.size W W'):Ek O w R b v L k ru ne W':=h.grown (h.1.below hb) (G.below hb)
theorem Ek.alloc(h:Ek O w R b v L k ru ne W)(o:Obj):Ek O w R b v L k ru ne (W.alloc o):=h.below (B0q.alloc L0q _)
theorem Ek.next(h:Ek O w R b v L k ru ne W):Ek O w R b v L (k+1) ru ne (W.setCell ⟨R,1,none⟩ (.int .i64 ((k:Int)+1))):=h.grown h.1.next1 (G.setR (G.refl W R))
theorem Ek.rules(h:Ek O w R b v L k ru ne W):Ek O w R b v L k (ru+1) ne (W.setCell ⟨R,2,none⟩ (.int .i64 ((ru:Int)+1))):=by
 have h2:=h.1.rules (ru+1);rw[show(((ru+1:Nat):Int))=(ru:Int)+1 by omega]at h2;exact h.grown h2 (G.setR (G.refl W R))
theorem Ek.up(h:Ek O w R b v L k ru ne W){c:Nat×Nat}{B f:Nat}{w':World}(hf:W.heap.size<=f)(hF:Flt w' f c)(hg:W.grownBy w' (some R)):Dm (.inl c) B R b v L ru' w (.panicked [{v:=.iface 95 (.pointer (some ⟨f,0,none⟩)),recovered:=false}]) w':=
 ⟨f,rfl,hid ⟨by have:=h.size;omega,hF⟩,hid (G.trans h.2.1 hg)⟩
end
@[reducible] def Zr:Obj:=.cells #[.string ⟨#[]⟩,.int .i64 0,.string ⟨#[]⟩,.int .u64 0,.int .u64 0,.int .u64 0,.int .u64 0,.slice none 0 0,.int .i64 0,.int .i64 0] 73
@[reducible] def Bg (w:World) (g:Nat) (N:ByteArray) (kd:Int) (T:ByteArray) (c0 c1 c2 c3:Int) (sv:Value) (p:Int) (q:Int):World:=(((((((((w.setCell ⟨g,0,none⟩ (.string N)).setCell ⟨g,1,none⟩ (.int .i64 kd)).setCell ⟨g,2,none⟩ (.string T)).setCell ⟨g,3,none⟩ (.int .u64 c0)).setCell ⟨g,4,none⟩ (.int .u64 c1)).setCell ⟨g,5,none⟩ (.int .u64 c2)).setCell ⟨g,6,none⟩ (.int .u64 c3)).setCell ⟨g,7,none⟩ sv).setCell ⟨g,8,none⟩ (.int .i64 p)).setCell ⟨g,9,none⟩ (.int .i64 q)
theorem z6N{w:World}{g:Nat}{a0 a1 a2 a3 a4 a5 a6 a7 a8 a9:Value}(h:w.heap[g]? =some (.cells #[a0,a1,a2,a3,a4,a5,a6,a7,a8,a9] 73))(N:ByteArray)(kd:Int)(T:ByteArray)(c0 c1 c2 c3:Int)(sv:Value)(p q:Int):
  (Bg w g N kd T c0 c1 c2 c3 sv p q).heap[g]? =some (.cells #[.string N,.int .i64 kd,.string T,.int .u64 c0,.int .u64 c1,.int .u64 c2,.int .u64 c3,sv,.int .i64 p,.int .i64 q] 73):=by
 simp only[World.setCell,Array.getElem?_modify,if_true,Option.map_map];rw[h];simp
theorem Gg{w:World}{g:Nat}{a0 a1 a2 a3 a4 a5 a6 a7 a8 a9:Value}(h:w.heap[g]? =some (.cells #[a0,a1,a2,a3,a4,a5,a6,a7,a8,a9] 73)):
  (w.cell? ⟨g,0,none⟩=some a0/\w.cell? ⟨g,1,none⟩=some a1/\w.cell? ⟨g,2,none⟩=some a2/\w.cell? ⟨g,3,none⟩=some a3/\w.cell? ⟨g,4,none⟩=some a4/\w.cell? ⟨g,5,none⟩=some a5/\w.cell? ⟨g,6,none⟩=some a6/\w.cell? ⟨g,7,none⟩=some a7/\w.cell? ⟨g,8,none⟩=some a8/\w.cell? ⟨g,9,none⟩=some a9)/\
  (w.frozen? ⟨g,0,none⟩=false/\w.frozen? ⟨g,1,none⟩=false/\w.frozen? ⟨g,2,none⟩=false/\w.frozen? ⟨g,3,none⟩=false/\w.frozen? ⟨g,4,none⟩=false/\w.frozen? ⟨g,5,none⟩=false/\w.frozen? ⟨g,6,none⟩=false/\w.frozen? ⟨g,7,none⟩=false/\w.frozen? ⟨g,8,none⟩=false/\w.frozen? ⟨g,9,none⟩=false):=by
 refine⟨⟨?_,?_,?_,?_,?_,?_,?_,?_,?_,?_⟩,⟨?_,?_,?_,?_,?_,?_,?_,?_,?_,?_⟩⟩<;>simp[World.cell?,World.frozen?,h]
theorem z6O{w:World}{g:Nat}{a0 a1 a2 a3 a4 a5 a6:Value}(h:w.heap[g]? =some (.cells #[a0,a1,a2,a3,a4,a5,a6] 183)):
  w.cell? ⟨g,0,none⟩=some a0/\w.cell? ⟨g,1,none⟩=some a1/\w.cell? ⟨g,6,none⟩=some a6:=by
 refine⟨?_,?_,?_⟩<;>simp[World.cell?,h]
theorem Ek.fin{w W:World}{B R b:Nat}{v sv:Value}{L:List Tok}{k ru kd C p q:Nat}{N T:ByteArray}{n:Nd}{o:Obj}(h:Ek Zr w R b v L k ru 0 W)(hn:Qy W (fun g=>w.heap.size+1<=g) n (n8 kd T C sv p))(hB:B<=w.heap.size):
  Dm (.inr ((N,n,q),k)) B R b v L ru w (.returned (.agg #[.string N,.int .i64 kd,.string T,.int .u64 (wd C 0),.int .u64 (wd C 1),.int .u64 (wd C 2),.int .u64 (wd C 3),sv,.int .i64 p,.int .i64 q]))
   ((Bg (W.setCell ⟨R,2,none⟩ (.int .i64 ((ru:Int)+1))) w.heap.size N (kd:Int) T (wd C 0:Nat) (wd C 1:Nat) (wd C 2:Nat) (wd C 3:Nat) sv (p:Int) (q:Int)).alloc o):=by
 have h2:=h.rules;have hRQ:w.heap.size≠R:=by have:=h.lt;omega
 have hv:=h.2.2.2.2 w.heap.size L0q;have hg:=Nat.le_refl w.heap.size;have hb:∀V:World,Below V.heap.size V (V.alloc o):=fun V=>(Below.refl _ V).alloc L0q _
 refine⟨.string N::(n8 kd T C sv p++[.int .i64 q]),rfl,hid ⟨n8 kd T C sv p,rfl,?_⟩,hid ((((((((((((h2.1.other hRQ hv).other hRQ hv).other hRQ hv).other hRQ hv).other hRQ hv).other hRQ hv).other hRQ hv).other hRQ hv).other hRQ hv).other hRQ hv)).below (hb _)),hid (G.alloc (G.setN (G.setN (G.setN (G.setN (G.setN (G.setN (G.setN (G.setN (G.setN (G.setN h2.2.1 hg) hg) hg) hg) hg) hg) hg) hg) hg) hg))⟩;refine Qy.below ?_ (hb _);refine Qy.kept (fun g cur hp hq=>⟨?_,show B<=g by have hp':w.heap.size+1<=g:=hp;omega⟩) n _ (Qy.grown hn (G.setR (u:=.int .i64 ((ru:Int)+1)) (j:=2) (G.refl W R)) h.1.1);have hne:∀j:Nat,g≠(⟨w.heap.size,j,none⟩:Addr).block:=fun j e=>by have e2:g=w.heap.size:=e;have hp':w.heap.size+1<=g:=hp;omega
 have s:∀(V:World) (j:Nat) (u:Value),(V.setCell ⟨w.heap.size,j,none⟩ u).heap[g]? =V.heap[g]? :=fun V j u=>Below.heap_setCell _ _ _ _ (hne j)
 unfold Bg;rw[s,s,s,s,s,s,s,s,s,s]
theorem z0E(R b:Nat)(v:Value)(L:List Tok)(ru k B:Nat)(w:World)(hg:Qc L)(h:Rd w R b v L k ru 0)(hk:k<L.length)(hru:ru<=64)(hB:B<=w.heap.size):
  Calls prog 131 #[.pointer (some ⟨R,0,none⟩)] w fun e w'=>Dm (ruS L ru k) B R b v L ru w e w':=by
 have fd0:=Tryz.fld0;have HT:=Jf R b v L k ru 0 hk hg;have HW:=By R b v L k ru 0 hk hg;have HF:=z0x R b v L k ru 0 hk hg;have HE:Hid (Ek Zr w R b v L k ru 0 (w.alloc Zr)):=Ek.start Zr h;have hkl:(k:Int)+2<9223372036854775807:=by have:=hg.len;omega
 have HG:Hid (Qc L):=hg;unfold ruS;by_cases h1:(gL L k).1=1
 ·rw[if_neg (by omega)]
  have hk1:=hg.nxt k hk (by omega);have HT1:=Jf R b v L (k+1) ru 0 hk1 hg;have HW1:=By R b v L (k+1) ru 0 hk1 hg;obtain⟨t,ht⟩:∃t,t=gL L k:=⟨_,rfl⟩;rw[<-ht]at HT HF h1 ⊢;clear ht HW;obtain⟨tk,N,tC,q⟩:=t;have h1':tk=1:=h1;subst h1';clear h1 h;by_cases h64:ru=64
  ·rw[if_pos h64]
   subst h64;go_enter func131,ntmps131
   go_wp2_with fail
   refine(HT.out _ HE.out.1).mono ?_;rintro e w1 ⟨rfl,hb1⟩;have HE1:=hid (HE.out.below hb1);clear hb1 HE HT;dsimp only[tkv];have HE2:=hid (HE1.out.alloc (.cells #[.int .i64 1,.string N,.int .u64 (wd tC 0),.int .u64 (wd tC 1),.int .u64 (wd tC 2),.int .u64 (wd tC 3),.int .i64 q] 183));obtain⟨r0,r1,r2,r3,q0,q1,q2,q3⟩:=HE1.out.1.cells;have r2':w1.cell? ⟨R,2,none⟩=some (.int .i64 64):=r2;clear r0 r1 r2 r3 q0 q1 q2 q3;have hR1:=HE1.out.1.lt;clear HE1
   go_wp2_with fail
   refine(HF.out 2 _ HE2.out.1).mono ?_;rintro e w3 ⟨f,rfl,HP⟩;have HA:=hid (HE2.out.up (B:=B) (ru':=64) HP.out.1 HP.out.2.1 (G.below HP.out.2.2));clear HP HE2 HF r2'
   go_wp2_with fail
   exact⟨rfl,HA.out⟩
  rw[if_neg h64];have t64:((ru:Int) == 64)=false:=by simp;omega
  by_cases h2:(gL L (k+1)).1=2
  ·rw[if_neg (by omega)]
   have hk2:=hg.nxt (k+1) hk1 (by omega);have HC:=hid (fun(W:World) (h:Rd W R b v L (k+2) ru 0) (hB:w.heap.size+1<=W.heap.size)=>z0C R b v L ru hg 24 0 (by omega) (k+2) (w.heap.size+1) W h hk2 trivial hB);obtain⟨t,ht⟩:∃t,t=gL L (k+1):=⟨_,rfl⟩;rw[<-ht]at HT1 h2;clear ht HW1;obtain⟨tk,uN,uC,uq⟩:=t;have h2':tk=2:=h2;subst h2';clear h2;cases hs:chS L (Zy L 24) (k+2)with
   |inl c=>
    rw[hs]at HC;show Calls _ _ _ _ (fun e w'=>Dm (.inl c) B R b v L ru w e w');go_enter func131,ntmps131
    go_wp2_with fail
    refine(HT.out _ HE.out.1).mono ?_;rintro e w1 ⟨rfl,hb1⟩;have HE1:=hid (HE.out.below hb1);clear hb1 HE HT HF;dsimp only[tkv];have HE2:=hid (HE1.out.next.alloc (.cells #[.int .i64 1,.string N,.int .u64 (wd tC 0),.int .u64 (wd tC 1),.int .u64 (wd tC 2),.int .u64 (wd tC 3),.int .i64 q] 183));have HK2:Hid (((w1.setCell ⟨R,1,none⟩ (.int .i64 ((k:Int)+1))).alloc (.cells #[.int .i64 1,.string N,.int .u64 (wd tC 0),.int .u64 (wd tC 1),.int .u64 (wd tC 2),.int .u64 (wd tC 3),.int .i64 q] 183)).heap[w1.heap.size]? =some (.cells #[.int .i64 1,.string N,.int .u64 (wd tC 0),.int .u64 (wd tC 1),.int .u64 (wd tC 2),.int .u64 (wd tC 3),.int .i64 q] 183)):=Qx _ _ (by simp);have HS1:Hid (w.heap.size<w1.heap.size):=HE1.out.size;obtain⟨r0,r1,r2,r3,q0,q1,q2,q3⟩:=HE1.out.1.cells;have hR1:=HE1.out.1.lt;clear HE1
    go_wp2_with fail
    refine(HT1.out _ HE2.out.1).mono ?_;rintro e w4 ⟨rfl,hb4⟩;have HE4:=hid (HE2.out.below hb4);have HK4:=hid ((hb4.block _ (by simp)).trans HK2.out);have HL4:Hid (w1.heap.size<w4.heap.size):=Nat.lt_of_lt_of_le (by simp) hb4.size;clear hb4 HE2 HK2 HT1 r0 r1 r2 r3 q0 q1 q2 q3 hR1;dsimp only[tkv];obtain⟨r0,r1,r2,r3,q0,q1,q2,q3⟩:=HE4.out.1.cells;have r1':w4.cell? ⟨R,1,none⟩=some (.int .i64 ((k:Int)+1)):=by rw[r1];simp
    clear r1;have hR4:=HE4.out.1.lt;have HE5:Hid (Ek Zr w R b v L (k+2) ru 0 (w4.setCell ⟨R,1,none⟩ (.int .i64 ((k:Int)+2)))):=by
     have:=HE4.out.next;rw[show(((k+1:Nat):Int))+1=(k:Int)+2 by omega]at this;exact this
    have HK5:=hid ((Below.heap_setCell w4 ⟨R,1,none⟩ (.int .i64 ((k:Int)+2)) w1.heap.size (show w1.heap.size≠R by have:=HS1.out;have:=HE4.out.lt;omega)).trans HK4.out);have HL5:=HL4;have hk2i:(k:Int)+1+1=(k:Int)+2:=by omega
    clear HE4 HK4 HL4
    go_wp2_with fail
    refine(HC.out _ HE5.out.1 (by have:=HE5.out.size;omega)).mono ?_;clear r0 r1' r2 r3 q0 q1 q2 q3 hR4;rintro e w6 ⟨f,rfl,HFl,HGr⟩;have HA:=hid (HE5.out.up (B:=B) (ru':=ru) HFl.out.1 HFl.out.2 HGr.out);clear HE5 HC HK5 HFl HGr
    go_wp2_with fail
    exact⟨rfl,HA.out⟩
   |inr x=>
    obtain⟨n,k'⟩:=x;rw[hs]at HC;show Calls _ _ _ _ (fun e w'=>Dm (.inr ((N,n,q),k')) B R b v L ru w e w');go_enter func131,ntmps131
    go_wp2_with fail
    refine(HT.out _ HE.out.1).mono ?_;rintro e w1 ⟨rfl,hb1⟩;have HE1:=hid (HE.out.below hb1);clear hb1 HE HT HF;dsimp only[tkv];have HE2:=hid (HE1.out.next.alloc (.cells #[.int .i64 1,.string N,.int .u64 (wd tC 0),.int .u64 (wd tC 1),.int .u64 (wd tC 2),.int .u64 (wd tC 3),.int .i64 q] 183));have HK2:Hid (((w1.setCell ⟨R,1,none⟩ (.int .i64 ((k:Int)+1))).alloc (.cells #[.int .i64 1,.string N,.int .u64 (wd tC 0),.int .u64 (wd tC 1),.int .u64 (wd tC 2),.int .u64 (wd tC 3),.int .i64 q] 183)).heap[w1.heap.size]? =some (.cells #[.int .i64 1,.string N,.int .u64 (wd tC 0),.int .u64 (wd tC 1),.int .u64 (wd tC 2),.int .u64 (wd tC 3),.int .i64 q] 183)):=Qx _ _ (by simp);have HS1:Hid (w.heap.size<w1.heap.size):=HE1.out.size;obtain⟨r0,r1,r2,r3,q0,q1,q2,q3⟩:=HE1.out.1.cells;have hR1:=HE1.out.1.lt;clear HE1
    go_wp2_with fail
    refine(HT1.out _ HE2.out.1).mono ?_;rintro e w4 ⟨rfl,hb4⟩;have HE4:=hid (HE2.out.below hb4);have HK4:=hid ((hb4.block _ (by simp)).trans HK2.out);have HL4:Hid (w1.heap.size<w4.heap.size):=Nat.lt_of_lt_of_le (by simp) hb4.size;clear hb4 HE2 HK2 HT1 r0 r1 r2 r3 q0 q1 q2 q3 hR1;dsimp only[tkv];obtain⟨r0,r1,r2,r3,q0,q1,q2,q3⟩:=HE4.out.1.cells;have r1':w4.cell? ⟨R,1,none⟩=some (.int .i64 ((k:Int)+1)):=by rw[r1];simp
    clear r1;have hR4:=HE4.out.1.lt;have HE5:Hid (Ek Zr w R b v L (k+2) ru 0 (w4.setCell ⟨R,1,none⟩ (.int .i64 ((k:Int)+2)))):=by
     have:=HE4.out.next;rw[show(((k+1:Nat):Int))+1=(k:Int)+2 by omega]at this;exact this
    have HK5:=hid ((Below.heap_setCell w4 ⟨R,1,none⟩ (.int .i64 ((k:Int)+2)) w1.heap.size (show w1.heap.size≠R by have:=HS1.out;have:=HE4.out.lt;omega)).trans HK4.out);have HL5:=HL4;have hk2i:(k:Int)+1+1=(k:Int)+2:=by omega
    clear HE4 HK4 HL4
    go_wp2_with fail
    refine(HC.out _ HE5.out.1 (by have:=HE5.out.size;omega)).mono ?_;clear r0 r1' r2 r3 q0 q1 q2 q3 hR4;rintro e w6 ⟨cs,rfl,HN,HR,HGr⟩;have HE6:=hid (HE5.out.grown HR.out HGr.out);have HK6:=hid ((HGr.out.block _ (by have:=HL5.out;simp;omega) (fun e=>by have e2:w1.heap.size=R:=Option.some.inj e;have:=HE5.out.lt;have:=HS1.out;omega)).trans HK5.out);have HL6:Hid (w1.heap.size<w6.heap.size):=Nat.lt_of_lt_of_le (by have:=HL5.out;simp;omega) HGr.out.size;clear HE5 HC HK5 HR HGr HL5;obtain⟨kd,T,C,so,sl,sc,hcs⟩:=HN.out.shape;obtain⟨p,hp⟩:∃p,p=n.at':=⟨_,rfl⟩;rw[<-hp]at hcs;subst hcs;clear hp;dsimp only[n8];obtain⟨z0,z1,z6⟩:=z6O HK6.out;obtain⟨⟨k0,k1,k2,k3,k4,k5,k6,k7,k8,k9⟩,⟨f0,f1,f2,f3,f4,f5,f6,f7,f8,f9⟩⟩:=Gg HE6.out.2.2.1;obtain⟨r0,r1,r2,r3,q0,q1,q2,q3⟩:=HE6.out.1.cells;have hR6:=HE6.out.1.lt;have hRl:=HE6.out.lt;have hS1:=HS1.out;have hL6:=HL6.out;have hRT:R≠w1.heap.size:=by omega
    have hRQ:R≠w.heap.size:=by omega
    have hQT:w.heap.size≠w1.heap.size:=by omega
    have hQl:w.heap.size<w6.heap.size:=by omega
    have hru2:(ru:Int)+1<9223372036854775807:=by omega
    clear HK6 HS1 HL6
    go_wp2_with fail
    (try simp only[Exit.inBlock,Exit.then])
    have hS:=z6N (w:=w6.setCell ⟨R,2,none⟩ (.int .i64 ((ru:Int)+1))) (g:=w.heap.size) HE6.out.rules.2.2.1 N (kd:Int) T (wd C 0:Nat) (wd C 1:Nat) (wd C 2:Nat) (wd C 3:Nat) (.slice so sl sc) (p:Int) (q:Int);have hS2:=fun o:Obj=>(Below.heap_alloc (Bg (w6.setCell ⟨R,2,none⟩ (.int .i64 ((ru:Int)+1))) w.heap.size N (kd:Int) T (wd C 0:Nat) (wd C 1:Nat) (wd C 2:Nat) (wd C 3:Nat) (.slice so sl sc) (p:Int) (q:Int)) o w.heap.size (by simp;omega)).trans hS
    obtain⟨⟨c0,c1,c2,c3,c4,c5,c6,c7,c8,c9⟩,_⟩:=Gg (hS2 (.cells #[.int .i64 kd,.string T,.int .u64 (wd C 0),.int .u64 (wd C 1),.int .u64 (wd C 2),.int .u64 (wd C 3),.slice so sl sc,.int .i64 p] 71));refine bodyPost_ret (v:=.agg #[.string N,.int .i64 kd,.string T,.int .u64 (wd C 0),.int .u64 (wd C 1),.int .u64 (wd C 2),.int .u64 (wd C 3),.slice so sl sc,.int .i64 p,.int .i64 q]) (by simp[results,Tryz.results131,go_sem,c0,c1,c2,c3,c4,c5,c6,c7,c8,c9]) rfl ?_;exact HE6.out.fin HN.out hB
  ·rw[if_pos h2]
   obtain⟨t,ht⟩:∃t,t=gL L (k+1):=⟨_,rfl⟩;rw[<-ht]at HT1 HW1 h2 ⊢;clear ht;obtain⟨tk,uN,uC,uq⟩:=t;have t2:((tk:Int) != 2)=true:=by have h2':tk≠2:=h2;rw[bne_iff_ne];omega
   clear h2;go_enter func131,ntmps131
   go_wp2_with fail
   refine(HT.out _ HE.out.1).mono ?_;rintro e w1 ⟨rfl,hb1⟩;have HE1:=hid (HE.out.below hb1);clear hb1 HE HT HF;dsimp only[tkv];have HE2:=hid (HE1.out.next.alloc (.cells #[.int .i64 1,.string N,.int .u64 (wd tC 0),.int .u64 (wd tC 1),.int .u64 (wd tC 2),.int .u64 (wd tC 3),.int .i64 q] 183));have HK2:Hid (((w1.setCell ⟨R,1,none⟩ (.int .i64 ((k:Int)+1))).alloc (.cells #[.int .i64 1,.string N,.int .u64 (wd tC 0),.int .u64 (wd tC 1),.int .u64 (wd tC 2),.int .u64 (wd tC 3),.int .i64 q] 183)).heap[w1.heap.size]? =some (.cells #[.int .i64 1,.string N,.int .u64 (wd tC 0),.int .u64 (wd tC 1),.int .u64 (wd tC 2),.int .u64 (wd tC 3),.int .i64 q] 183)):=Qx _ _ (by simp);have HS1:Hid (w.heap.size<w1.heap.size):=HE1.out.size;obtain⟨r0,r1,r2,r3,q0,q1,q2,q3⟩:=HE1.out.1.cells;have hR1:=HE1.out.1.lt;clear HE1
   go_wp2_with fail
   refine(HT1.out _ HE2.out.1).mono ?_;rintro e w4 ⟨rfl,hb4⟩;have HE4:=hid (HE2.out.below hb4);have HK4:=hid ((hb4.block _ (by simp)).trans HK2.out);have HL4:Hid (w1.heap.size<w4.heap.size):=Nat.lt_of_lt_of_le (by simp) hb4.size;clear hb4 HE2 HK2 HT1 r0 r1 r2 r3 q0 q1 q2 q3 hR1;dsimp only[tkv]
   go_wp2_with fail
   refine(HW1.out _ HE4.out.1).mono ?_;rintro e w5 ⟨f,rfl,HP⟩;have HA:=hid (HE4.out.up (B:=B) (ru':=ru) HP.out.1 HP.out.2.1 (G.below HP.out.2.2));clear HP HE4 HW1
   go_wp2_with fail
   exact⟨rfl,HA.out⟩
 ·rw[if_pos h1]
  obtain⟨t,ht⟩:∃t,t=gL L k:=⟨_,rfl⟩;rw[<-ht]at HT HW h1 ⊢;clear ht HF;obtain⟨tk,N,tC,q⟩:=t;have t1:((tk:Int) != 1)=true:=by have h2':tk≠1:=h1;rw[bne_iff_ne];omega
  clear h1 h;go_enter func131,ntmps131
  go_wp2_with fail
  refine(HT.out _ HE.out.1).mono ?_;rintro e w1 ⟨rfl,hb1⟩;have HE1:=hid (HE.out.below hb1);clear hb1 HE HT;dsimp only[tkv];have HE2:=hid (HE1.out.alloc (.cells #[.int .i64 tk,.string N,.int .u64 (wd tC 0),.int .u64 (wd tC 1),.int .u64 (wd tC 2),.int .u64 (wd tC 3),.int .i64 q] 183));clear HE1
  go_wp2_with fail
  refine(HW.out _ HE2.out.1).mono ?_;rintro e w3 ⟨f,rfl,HP⟩;have HA:=hid (HE2.out.up (B:=B) (ru':=ru) HP.out.1 HP.out.2.1 (G.below HP.out.2.2));clear HP HE2 HW
  go_wp2_with fail
  exact⟨rfl,HA.out⟩
end
open Go.RowKit
def Zk(w:World)(P:Nat->Prop):List Rl->List Value->Prop
 |[],_=>True
 |x::r,vs=>∃c rest,vs=c++rest/\Yx w P x c/\Zk w P r rest
theorem Yx.len{w:World}{P:Nat->Prop}{x:Rl}{c:List Value}(h:Yx w P x c):c.length=10:=by
 obtain⟨cs,rfl,h2⟩:=h;have:=h2.len;simp;omega
theorem Yx.kept{w w':World}{P Q:Nat->Prop}(hk:∀g cur,P g->w.heap[g]? =some (.cells cur 71)->w'.heap[g]? =w.heap[g]? /\Q g){x:Rl}{c:List Value}(h:Yx w P x c):Yx w' Q x c:=by
 obtain⟨cs,h1,h2⟩:=h;exact⟨cs,h1,Qy.kept hk _ _ h2⟩
theorem Zk.kept{w w':World}{P Q:Nat->Prop}(hk:∀g cur,P g->w.heap[g]? =some (.cells cur 71)->w'.heap[g]? =w.heap[g]? /\Q g):∀(l:List Rl) (vs:List Value),Zk w P l vs->Zk w' Q l vs
 |[],vs,h=>by rw[Zk];trivial
 |n::r,vs,h=>by
  rw[Zk]at h ⊢;obtain⟨c,rest,h1,h2,h3⟩:=h;exact⟨c,rest,h1,Yx.kept hk h2,Zk.kept hk r rest h3⟩
theorem Zk.append{w:World}{P:Nat->Prop}:∀(l:List Rl) (vs:List Value) (n:Rl) (c:List Value),Zk w P l vs->vs.length=l.length*10->Yx w P n c->Zk w P (l++[n]) (vs++c)
 |[],vs,n,c,_,hl,hn=>by
  have:vs=[]:=List.eq_nil_of_length_eq_zero (by simpa using hl);subst this;rw[List.nil_append,Zk];exact⟨c,[],by simp,hn,by rw[Zk];trivial⟩
 |m::r,vs,n,c,h,hl,hn=>by
  rw[Zk]at h;obtain⟨d,rest,rfl,h2,h3⟩:=h;have hd:=h2.len;rw[List.cons_append,Zk];refine⟨d,rest++c,by rw[List.append_assoc],h2,Zk.append r rest n c h3 ?_ hn⟩;simp at hl;omega
theorem Yx.shape{w:World}{P:Nat->Prop}{x:Rl}{c:List Value}(h:Yx w P x c):∃N kd T C so sl sc p q,c=[.string N,.int .i64 ((kd:Nat):Int),.string T,.int .u64 (wd C 0),.int .u64 (wd C 1),.int .u64 (wd C 2),.int .u64 (wd C 3),.slice so sl sc,.int .i64 ((p:Nat):Int),.int .i64 ((q:Nat):Int)]:=by
 obtain⟨cs,rfl,h2⟩:=h;obtain⟨kd,T,C,so,sl,sc,rfl⟩:=h2.shape;exact⟨_,kd,T,C,so,sl,sc,_,_,rfl⟩
def RoR(B:Nat)(pv:Value)(acc:List Rl)(W:World):Prop:=
 ∃xs,W.ownsRow B 73 10 pv acc.length xs/\Zk W (fun g=>B<=g) acc xs
theorem RoR.grown{B R:Nat}{pv:Value}{acc:List Rl}{W W':World}(h:RoR B pv acc W)(hg:W.grownBy W' (some R))(hR:R<B):RoR B pv acc W':=by
 obtain⟨xs,h1,h2⟩:=h;refine⟨xs,h1.kept hg (.inr (fun e=>by have:=(h1.lt _ e).1;omega)),Zk.kept (fun g cur hp hq=>⟨hg.block g (Qz hq) (fun e=> ?_),hp⟩) _ _ h2⟩;have e2:g=R:=Option.some.inj e;have hp':B<=g:=hp;omega
theorem RoR.below{B:Nat}{pv:Value}{acc:List Rl}{W W':World}(h:RoR B pv acc W)(hb:Below W.heap.size W W'):RoR B pv acc W':=by
 obtain⟨xs,h1,h2⟩:=h;exact⟨xs,Ux h1 hb,Zk.kept (fun g cur hp hq=>⟨hb.block g (Qz hq),hp⟩) _ _ h2⟩
theorem z6P{w:World}{base e size n g:Nat}{v:Value}{xs:List Value}(h:w.ownsRow base e size v n xs)(hg:v.ownBlock=some g):∃cur,w.heap[g]? =some (.cells cur e):=by
 obtain⟨_,⟨h1,h2⟩|⟨g',cap,cur,rfl,_,hh,_⟩⟩:=h
 ·rw[h1]at hg;cases hg
 ·have:g'=g:=Option.some.inj hg
  subst this;exact⟨cur,hh⟩
theorem RoR.app{B D:Nat}{pv pv':Value}{acc:List Rl}{xs c:List Value}{n:Rl}{W2 W3 W4:World}(ho:W2.ownsRow B 73 10 pv acc.length xs)(ha:Zk W2 (fun g=>B<=g) acc xs)(hn:Yx W2 (fun g=>D<=g) n c)(hD:B<=D)(hb:Below W2.heap.size W2 W3)
  (hown:W4.ownsRow B 73 10 pv' (acc.length+1) (xs++c))(hgr:W3.grownBy W4 pv.ownBlock):RoR B pv' (acc++[n]) W4:=by
 have key:∀(g:Nat) (cur:Array Value),W2.heap[g]? =some (Obj.cells cur 71)->W4.heap[g]? =W2.heap[g]? :=fun g cur hq=>by
  have hs:=hb.size;have hl:=Qz hq;refine(hgr.block g (by omega) (fun e=> ?_)).trans (hb.block g hl);obtain⟨cur',h'⟩:=z6P ho e.symm;rw[h']at hq;simp at hq
 refine⟨xs++c,by simpa using hown,Zk.append _ _ _ _ (Zk.kept (fun g cur hp hq=>⟨key g cur hq,hp⟩) _ _ ha) ho.1 (Yx.kept (fun g cur hp hq=>⟨key g cur hq,show B<=g by have hp':D<=g:=hp;omega⟩) hn)⟩
theorem RoR.one{B:Nat}{x:Rl}{a0 a1 a2 a3 a4 a5 a6 a7 a8 a9:Value}{W:World}(h:Yx W (fun g=>B<=g) x [a0,a1,a2,a3,a4,a5,a6,a7,a8,a9])(hB:B<=W.heap.size):RoR B (.slice (some ⟨W.heap.size,0,none⟩) 1 1) [x] (W.alloc (.cells #[a0,a1,a2,a3,a4,a5,a6,a7,a8,a9] 73)):=by
 refine⟨[a0,a1,a2,a3,a4,a5,a6,a7,a8,a9],⟨rfl,.inr ⟨W.heap.size,1,_,rfl,hB,Qx _ _ rfl,Nat.le_refl _,by unfold maxLen;omega,rfl,rfl⟩⟩,?_⟩;rw[Zk];exact⟨[a0,a1,a2,a3,a4,a5,a6,a7,a8,a9],[],by simp,Yx.kept (fun g cur hp hq=>⟨Below.heap_alloc W _ g (Qz hq),hp⟩) h,by rw[Zk];trivial⟩
theorem Ek.rowed{O:Obj}{w W W':World}{R b:Nat}{v:Value}{L:List Tok}{k ru ne:Nat}{row:Option Nat}(h:Ek O w R b v L k ru ne W)(hg:W.grownBy W' row)(hr:∀g,row=some g->w.heap.size<g):Ek O w R b v L k ru ne W':=by
 have hR:=h.lt;have hs:=h.size;have hne:some R≠row:=fun e=>by have:=hr R e.symm;omega
 have hnq:some w.heap.size≠row:=fun e=>by have:=hr _ e.symm;omega
 have hvv:v.ownBlock=none∨v.ownBlock≠row:=by
  cases hv:v.ownBlock with
  |none=>exact .inl rfl
  |some g=>exact .inr (fun e=>h.2.2.2.2 g (by have:=hr g e.symm;omega) hv)
 exact⟨⟨(hg.block R (by omega) hne).trans h.1.1,h.1.2.kept hg hvv⟩,⟨hg.os.trans h.2.1.os,hg.tape.trans h.2.1.tape,hg.output.trans h.2.1.output,Nat.le_trans h.2.1.size hg.size,fun j hj hne=>(hg.block j (by omega) (fun e=>by have:=hr j e.symm;omega)).trans (h.2.1.block j hj hne)⟩,(hg.block _ hs hnq).trans h.2.2.1,hR,h.2.2.2.2⟩
theorem Tryz.infoRl:(Tryz.prog.info? 73).map (fun i=>(i.zero,i.size,i.bytes))=some (some (.agg #[.string ⟨#[]⟩,.int .i64 0,.string ⟨#[]⟩,.int .u64 0,.int .u64 0,.int .u64 0,.int .u64 0,.slice none 0 0,.int .i64 0,.int .i64 0]),10,112):=by kernel_rfl
theorem Bb(w:World)(a b c d e f g h i k:Value)(t:TypeId):∀j x,[a,b,c,d,e,f,g,h,i,k][j]? =some x->(w.alloc (.cells #[a,b,c,d,e,f,g,h,i,k] t)).cell? ((⟨w.heap.size,0,none⟩:Addr).add j)=some x:=by
 intro j x hj
 match j,hj with
 |0,hj=>simp at hj;subst hj;simp[Addr.add]
 |1,hj=>simp at hj;subst hj;simp[Addr.add]
 |2,hj=>simp at hj;subst hj;simp[Addr.add]
 |3,hj=>simp at hj;subst hj;simp[Addr.add]
 |4,hj=>simp at hj;subst hj;simp[Addr.add]
 |5,hj=>simp at hj;subst hj;simp[Addr.add]
 |6,hj=>simp at hj;subst hj;simp[Addr.add]
 |7,hj=>simp at hj;subst hj;simp[Addr.add]
 |8,hj=>simp at hj;subst hj;simp[Addr.add]
 |9,hj=>simp at hj;subst hj;simp[Addr.add]
theorem Lz(N:ByteArray)(a:Int)(T:ByteArray)(c0 c1 c2 c3:Int)(so:Option Addr)(sl sc:Nat)(p q:Int):∀u∈[Value.string N,Value.int .i64 a,.string T,.int .u64 c0,.int .u64 c1,.int .u64 c2,.int .u64 c3,.slice so sl sc,.int .i64 p,.int .i64 q],u.oneCell'=true:=by
 intro u hu;simp at hu;rcases hu with rfl|rfl|rfl|rfl|rfl|rfl|rfl|rfl|rfl|rfl<;>rfl
def Zm(L:List Tok):Nat->Nat->List Rl->(Nat×Nat) ⊕ List Rl
 |0,_,_=>.inl (0,0)
 |f+1,k,acc=>if(gL L k).1=6 then .inr acc else(match ruS L acc.length k with
   | .inl e=>.inl e
   | .inr (x,k')=>Zm L f k' (acc++[x]))
def z0F(L:List Tok)(r:(Nat×Nat) ⊕ (Rl×Nat)):(Nat×Nat) ⊕ List Rl:=match r with
 | .inl e=>.inl e
 | .inr (x,k')=>Zm L L.length k' [x]
def Vx(L:List Tok):(Nat×Nat) ⊕ List Rl:=z0F L (ruS L 0 0)
def Gb(r:(Nat×Nat) ⊕ List Rl)(B R:Nat)(w:World)(e:Ending)(w':World):Prop:=
 match r with
 | .inr rs=>∃g cap,e=.returned (.agg #[.slice (some ⟨g,0,none⟩) rs.length cap])/\Hid (RoR B (.slice (some ⟨g,0,none⟩) rs.length cap) rs w')/\Hid (w.grownBy w' (some R))
 | .inl c=>∃f,e=.panicked [{v:=.iface 95 (.pointer (some ⟨f,0,none⟩)),recovered:=false}]/\Hid (w.heap.size<=f/\Flt w' f c)/\Hid (w.grownBy w' (some R))
@[reducible] def Zg:Obj:=.cells #[.slice none 0 0] 24
theorem Ek.upG{O:Obj}{w W:World}{R b:Nat}{v:Value}{L:List Tok}{k ru ne:Nat}(h:Ek O w R b v L k ru ne W){c:Nat×Nat}{B B' ru':Nat}{e:Ending}{w':World}(hA:Dm (.inl c) B' R b v L ru' W e w'):Gb (.inl c) B R w e w':=by
 obtain⟨f,he,HF,HG⟩:=hA;exact⟨f,he,hid ⟨by have:=HF.out.1;have:=h.size;omega,HF.out.2⟩,hid (G.trans h.2.1 HG.out)⟩
theorem Ek.finG{w W:World}{B R b:Nat}{v:Value}{L:List Tok}{k ru ne g n cap:Nat}{rs:List Rl}(h:Ek Zg w R b v L k ru ne W)(hn:n=rs.length)(hr:RoR (w.heap.size+1) (.slice (some ⟨g,0,none⟩) n cap) rs W)(hB:B<=w.heap.size):
  Gb (.inr rs) B R w (.returned (.agg #[.slice (some ⟨g,0,none⟩) n cap])) (W.setCell ⟨w.heap.size,0,none⟩ (.slice (some ⟨g,0,none⟩) n cap)):=by
 subst hn;obtain⟨xs,h1,h2⟩:=hr;have hgr:W.grownBy (W.setCell ⟨w.heap.size,0,none⟩ (.slice (some ⟨g,0,none⟩) rs.length cap)) (some w.heap.size):=G.setR (G.refl W w.heap.size);refine⟨g,cap,rfl,hid ⟨xs,?_,Zk.kept (fun g cur hp hq=>⟨hgr.block g (Qz hq) (fun e=> ?_),show B<=g by have hp':w.heap.size+1<=g:=hp;omega⟩) _ _ h2⟩,hid (G.setN h.2.1 L0q)⟩
 ·have h3:=h1.kept hgr (.inr (fun e=>by have:=(h1.lt _ e).1;omega))
  obtain⟨a,⟨hq,_⟩|⟨g',cap',cur,hq,hb,rest⟩⟩:=h3
  ·cases hq
  ·exact⟨a,.inr ⟨g',cap',cur,hq,by omega,rest⟩⟩
 ·have e2:g=w.heap.size:=Option.some.inj e
  have hp':w.heap.size+1<=g:=hp;omega
theorem z0G{L:List Tok}{ru k:Nat}{x:Rl×Nat}(h:ruS L ru k=.inr x):ru≠64:=by
 intro e;unfold ruS at h;rw[if_pos e]at h;split at h<;>cases h
theorem z6Q(R b B:Nat)(v:Value)(L:List Tok)(w:World)(hg:Qc L)(h:Rd w R b v L 0 0 0)(hl0:0<L.length)(hB:B<=w.heap.size):
  Calls prog 99 #[.pointer (some ⟨R,0,none⟩)] w fun e w'=>Gb (Vx L) B R w e w':=by
 obtain⟨iT,hiT,hzT0,hzT1,hzT2⟩:=info_parts Tryz.infoRl;have fd0:=Tryz.fld0;have HE0:Hid (Ek Zg w R b v L 0 0 0 (w.alloc Zg)):=Ek.start Zg h;have HG:Hid (Qc L):=hg;have hll:=hg.len;have HO:=hid (z0E R b v L 0 0 (w.heap.size+1) (w.alloc Zg) hg (h.alloc _) hl0 (by omega) (by simp));unfold Vx;cases hs:ruS L 0 0 with
 |inl c=>
  rw[hs]at HO;clear hg h hs;show Calls _ _ _ _ (fun e w'=>Gb (.inl c) B R w e w');go_enter func99,ntmps99
  go_wp2_with fail
  refine HO.out.mono ?_;rintro e w1 hA;have HAP:Hid (Gb (.inl c) B R w e w1):=HE0.out.upG hA;obtain⟨f,rfl,_,_⟩:=hA;clear HO HE0
  go_wp2_with fail
  exact⟨rfl,HAP.out⟩
 |inr x=>
  obtain⟨x,k1⟩:=x;have hk1:=z0D hg hl0 hs;rw[hs]at HO;obtain⟨RES,hR⟩:∃RES,RES=Zm L L.length k1 [x]:=⟨_,rfl⟩;have HM0:Hid (Zm L L.length k1 [x]=RES):=hR.symm;show Calls _ _ _ _ (fun e w'=>Gb (Zm L L.length k1 [x]) B R w e w');rw[<-hR];clear hR h hg hs;go_enter func99,ntmps99
  go_wp2_with fail
  refine HO.out.mono ?_;rintro e w1 ⟨cs,rfl,HN,HR,HGr⟩;have HE1:=hid (HE0.out.grown HR.out HGr.out);clear HO HR HGr HE0;obtain⟨N,kd,T,C,so,sl,sc,p,q,hcs⟩:=HN.out.shape;subst hcs;have HRo1:=hid (RoR.one HN.out HE1.out.size);have HE2:=hid (HE1.out.alloc (.cells #[.string N,.int .i64 kd,.string T,.int .u64 (wd C 0),.int .u64 (wd C 1),.int .u64 (wd C 2),.int .u64 (wd C 3),.slice so sl sc,.int .i64 p,.int .i64 q] 73));clear HN HE1
  go_wp2_with fail
  go_loopw [3] (fun a wr=>∃(f j:Nat) (m:Rl) (r:List Rl),j<L.length/\L.length<=f+j/\r.length+1<=j/\r.length+1<=64/\Hid (Zm L f j (m::r)=RES)/\Hid (RoR (w.heap.size+1) a (m::r) wr)/\Hid (Ek Zg w R b v L j (r.length+1) 0 wr)) (fun _ wr=>L.length-Ud R wr)
  case atStart=>exact⟨L.length,k1,x,[],hk1.2,by omega,by simp;omega,by simp,HM0,HRo1,HE2⟩
  case round=>
   obtain⟨f,j,m,r,hj,hfj,haj,hr64,HMj,HRo,HE⟩:=hrel;clear HM0 HE2 HRo1;have HT:=Jf R b v L j (r.length+1) 0 hj HG.out;cases f with
   |zero=>omega
   |succ f=>
   by_cases hz:(gL L j).1=6
   ·have HF:Hid (RES=.inr (m::r)):=by show _=_;rw[<-HMj.out,Zm,if_pos hz]
    obtain⟨t,ht⟩:∃t,t=gL L j:=⟨_,rfl⟩;rw[<-ht]at HT hz;clear ht HMj;obtain⟨tk,tN,tC,tq⟩:=t;have hz':tk=6:=hz;subst hz';clear hz;obtain⟨xs0,hx0,_⟩:=HRo.out;rw[List.length_cons]at hx0;obtain⟨g,cap,hsl⟩:=Jk hx0 (by omega);clear hx0;subst hsl;obtain⟨M,hM⟩:∃M,M=r.length+1:=⟨_,rfl⟩;have HMm:Hid (M=r.length+1):=hM;rw[<-hM]at haj hr64 HT HE HRo ⊢;clear hM
    go_wp2_with fail
    refine(HT.out _ HE.out.1).mono ?_;rintro e w2 ⟨rfl,hb2⟩;have HE3:=hid (HE.out.below hb2);have HRo3:=hid (HRo.out.below hb2);clear hb2 HE HT HRo;dsimp only[tkv];have hc0:w2.cell? ⟨w.heap.size,0,none⟩=some (.slice none 0 0):=by have:=HE3.out.2.2.1;simp[World.cell?,this]
    have hf0:w2.frozen? ⟨w.heap.size,0,none⟩=false:=by have:=HE3.out.2.2.1;simp[World.frozen?,this]
    have hQl:=HE3.out.size
    go_wp2_with fail
    (try simp only[Exit.inBlock,Exit.then])
    refine bodyPost_ret (v:=.agg #[.slice (some ⟨g,0,none⟩) M cap]) (by simp[results,Tryz.results99,go_sem,hc0]) rfl ?_;rw[HF.out];exact HE3.out.finG HMm.out HRo3.out hB
   ·have HC:=hid (fun(W:World) (h:Rd W R b v L j (r.length+1) 0)=>z0E R b v L (r.length+1) j W.heap.size W HG.out h hj hr64 L0q)
    obtain⟨t,ht⟩:∃t,t=gL L j:=⟨_,rfl⟩;have hz0:=hz;rw[<-ht]at HT hz;clear ht;obtain⟨tk,tN,tC,tq⟩:=t;have hz':tk≠6:=hz;have t6:((tk:Int) != 6)=true:=by rw[bne_iff_ne];omega
    clear hz hz';cases hs:ruS L (r.length+1) j with
    |inl c=>
     have HF:Hid (RES=.inl c):=by show _=_;rw[<-HMj.out,Zm,if_neg hz0,List.length_cons,hs]
     rw[hs]at HC;clear hs HMj hz0
     go_wp2_with fail
     refine(HT.out _ HE.out.1).mono ?_;rintro e w2 ⟨rfl,hb2⟩;have HE3:=hid (HE.out.below hb2);clear hb2 HE HT HRo;dsimp only[tkv]
     go_wp2_with fail
     refine(HC.out _ HE3.out.1).mono ?_;rintro e w4 hA;have HAP:Hid (Gb RES B R w e w4):=by show Gb _ _ _ _ _ _;rw[HF.out];exact HE3.out.upG hA
     obtain⟨f',rfl,_,_⟩:=hA;clear HE3 HC HF
     go_wp2_with fail
     exact⟨rfl,HAP.out⟩
    |inr y=>
     obtain⟨y,k'⟩:=y;have hk':=z0D HG.out hj hs;have hr64':=z0G hs;have HM2:Hid (Zm L f k' ((m::r)++[y])=RES):=by show _=_;rw[<-HMj.out,Zm,if_neg hz0,List.length_cons,hs]
     rw[hs]at HC;clear hs HMj hz0;have HJ:Hid (Ud R wr=j):=Dd HE.out.1
     go_wp2_with fail
     refine(HT.out _ HE.out.1).mono ?_;rintro e w2 ⟨rfl,hb2⟩;have HE3:=hid (HE.out.below hb2);have HRo3:=hid (HRo.out.below hb2);clear hb2 HE HT HRo;dsimp only[tkv]
     go_wp2_with fail
     refine(HC.out _ HE3.out.1).mono ?_;rintro e w5 ⟨cs,rfl,HN,HR,HGr⟩;have HE5:=hid (HE3.out.grown HR.out HGr.out);have HRo5:=hid (HRo3.out.grown HGr.out (by have:=HE3.out.lt;omega));have HW1:Hid (w.heap.size+1<=w2.heap.size):=HE3.out.size;clear HE3 HRo3 HR HGr HC;obtain⟨N,kd,T,C,so,sl,sc,p,q,hcs⟩:=HN.out.shape;subst hcs;obtain⟨xs,hx1,hx2⟩:=HRo5.out;have HX1:=hid hx1;have HX2:=hid hx2;clear hx1 hx2 HRo5;rw[List.length_cons]at HX1
     go_wp2_with(first|(at_builtin;refine wpList_append_own_at _ rfl (.tmp 11) (.tmp 14) 22 rfl (w.heap.size+1) 73 iT (.agg #[.string ⟨#[]⟩,.int .i64 0,.string ⟨#[]⟩,.int .u64 0,.int .u64 0,.int .u64 0,.int .u64 0,.slice none 0 0,.int .i64 0,.int .i64 0]) 10 112 Tryz.underlying22 hiT hzT0 hzT1 hzT2 rfl (by decide) _ _ _ rfl (HX1.out.alloc _) ⟨w5.heap.size,0,none⟩ 1 1 [.string N,.int .i64 kd,.string T,.int .u64 (wd C 0),.int .u64 (wd C 1),.int .u64 (wd C 2),.int .u64 (wd C 3),.slice so sl sc,.int .i64 p,.int .i64 q] rfl rfl (Bb w5 _ _ _ _ _ _ _ _ _ _ 73) (Lz _ _ _ _ _ _ _ _ _ _ _ _) (by unfold maxLen;omega) (by omega) (by have:=HE5.out.size;simp;omega) ?_;intro v6 w6 hown6 hgr6 hnil6 hat6))
     have HRo6:Hid (RoR (w.heap.size+1) v6 ((m::r)++[y]) w6):=RoR.app HX1.out HX2.out HN.out HW1.out ((Below.refl _ w5).alloc L0q _) hown6 hgr6;have HE6:Hid (Ek Zg w R b v L k' (r.length+1+1) 0 w6):=(HE5.out.alloc _).rowed hgr6 (fun g e=>by have:=(HX1.out.lt g e).1;omega);have HJ6:Hid (Ud R w6=k'):=Dd HE6.out.1;clear hown6 hgr6 hnil6 hat6 HX1 HX2 HN HE5 HW1
     go_wp2_with fail
     go_roundw
     case rel=>exact⟨f,k',m,r++[y],hk'.2,by omega,by simp;omega,by simp;omega,HM2,HRo6,by simpa using HE6⟩
     case measure=>rw[HJ.out,HJ6.out];omega
end Go.Proofs.YtlogolpcipiceaaGreatDoor
