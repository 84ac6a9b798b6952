/- Lemmas for the last text. Conditions: those that each names. -/
import Derived.Test.YtmelafeingcgnaaGreatDoorVY9ToY12
set_option linter.unusedVariables false
set_option maxRecDepth 100000
set_option maxHeartbeats 16000000
namespace Go.Proofs.YtmelafeingcgnaaGreatDoor
open Go.Proofs.Tryz
section
open Go.RowKit
abbrev Rl:=ByteArray×Nd×Nat
def Yw(w:World)(P:Nat->Prop)(r:Rl)(c:List Value):Prop:=∃cs,c=zT r.1::(cs++[zI (r.2.2:Int)])/\Qh w P r.2.1 cs
def ruE(N:zA)(p:Nat)(r:Pr):(Nat×Nat) ⊕ (Rl×Nat):=match r with
 | .inl e=>.inl e
 | .inr (n,k')=>.inr ((N,n,p),k')
def ruS(L:List Tok)(ru k:Nat):(Nat×Nat) ⊕ (Rl×Nat):=
 if(gL L k).1≠1 then .inl (wrC (gL L k),(gL L k).2.2.2)
 else if ru=64 then .inl (2,(gL L k).2.2.2)
 else if(gL L (k+1)).1≠2 then .inl (wrC (gL L (k+1)),(gL L (k+1)).2.2.2)
 else ruE (gL L k).2.1 (gL L k).2.2.2 (chS L (Vh L 24) (k+2))
theorem z1f{L:List Tok}(o:Ql L){ru k k':Nat}{x:Rl}(r:k<L.length)(h:ruS L ru k=.inr (x,k')):k+2<=k'/\k'<L.length:=by
 unfold ruS at h;split at h
 ·cases h
 ·rename_i D
  split at h
  ·cases h
  ·split at h
   ·cases h
   ·rename_i E
    have y:=o.nxt k r (by omega);have A:=o.nxt (k+1) y (by omega);cases hs:chS L (Vh L 24) (k+2)with
    |inl e=>rw[hs]at h;cases h
    |inr q=>
     obtain⟨n,j⟩:=q;rw[hs]at h;have:=Oq o (Ny o 24) A hs;simp only[ruE,Sum.inr.injEq,Prod.mk.injEq]at h;omega
def Dc(r:(Nat×Nat) ⊕ (Rl×Nat))(B R b:Nat)(v:Value)(L:List Tok)(ru:Nat)(w:World)(e:Ending)(w':World):Prop:=
 match r with
 | .inr (x,k')=>∃cs:List Value,e=.returned (.agg cs.toArray)/\Hid (Yw w' (fun g=>B<=g) x cs)/\Hid (Rd w' R b v L k' (ru+1) 0)/\Hid (w.grownBy w' (some R))
 | .inl c=>∃f,e=.panicked [{v:=.iface 181 (zP f 0),recovered:=false}]/\Hid (w.heap.size<=f/\Flt w' f c)/\Hid (w.grownBy w' (some R))
def Ek(O:Obj)(w:World)(R b:Nat)(v:Value)(L:List Tok)(k ru ne:Nat)(W:World):Prop:=
 Rd W R b v L k ru ne/\w.grownBy W (some R)/\W.heap[w.heap.size]? =some O/\R<w.heap.size/\(∀g,w.heap.size<=g->v.ownBlock≠some g)
section
variable {O:Obj} {w W W':World} {R b:Nat} {v:Value} {L:List Tok} {k k' ru ru' ne ne':Nat}
theorem Ek.start(O:Obj)(h:Rd w R b v L k ru ne):Ek O w R b v L k ru ne (w.alloc O):=
 ⟨h.alloc _,G.alloc (G.refl w R),Qx w _ rfl,h.lt,fun g o e=>by have:=(h.2.lt _ e).2;omega⟩
theorem Ek.size(h:Ek O w R b v L k ru ne W):w.heap.size<W.heap.size:=Qq h.2.2.1
theorem Ek.lt(h:Ek O w R b v L k ru ne W):R<w.heap.size:=h.2.2.2.1
theorem Ek.grown(h:Ek O w R b v L k ru ne W)(r:Rd W' R b v L k' ru' ne')(o:W.grownBy W' (some R)):Ek O w R b v L k' ru' ne' W':=
 ⟨r,G.trans h.2.1 o,(o.block _ h.size (fun e=>by have:=Option.some.inj e;have:=h.lt;omega)).trans h.2.2.1,h.2.2.2.1,h.2.2.2.2⟩
theorem Ek.below(h:Ek O w R b v L k ru ne W)(o:zB W W'):Ek O w R b v L k ru ne W':=h.grown (h.1.below o) (G.below o)
theorem Ek.alloc(h:Ek O w R b v L k ru ne W)(o:Obj):Ek O w R b v L k ru ne (W.alloc o):=h.below (B0q.alloc L0q _)
theorem Ek.next(h:Ek O w R b v L k ru ne W):Ek O w R b v L (k+1) ru ne (W.setCell ⟨R,1,none⟩ (zI ((k:Int)+1))):=h.grown h.1.next1 (G.setR (G.refl W R))
theorem Ek.rules(h:Ek O w R b v L k ru ne W):Ek O w R b v L k (ru+1) ne (W.setCell ⟨R,2,none⟩ (zI ((ru:Int)+1))):=by
 have o:=h.1.rules (ru+1);rw[show(((ru+1:Nat):Int))=(ru:Int)+1 by omega]at o;exact h.grown o (G.setR (G.refl W R))
theorem Ek.up(h:Ek O w R b v L k ru ne W){c:Nat×Nat}{B f:Nat}{w':World}(y:W.heap.size<=f)(o:Flt w' f c)(r:W.grownBy w' (some R)):Dc (.inl c) B R b v L ru' w (.panicked [{v:=.iface 181 (zP f 0),recovered:=false}]) w':=
 ⟨f,rfl,hid ⟨by have:=h.size;omega,o⟩,hid (G.trans h.2.1 r)⟩
end
@[reducible] def Zr:Obj:=.cells #[zT {data:=#[]},zI 0,zT {data:=#[]},zU 0,zU 0,zU 0,zU 0,.slice none 0 0,zI 0,zI 0] 121
@[reducible] def Ch (w:World) (g:Nat) (N:zA) (kd:Int) (T:zA) (c0 c1 c2 c3:Int) (sv:Value) (p:Int) (q:Int):World:=(((((((((w.setCell ⟨g,0,none⟩ (zT N)).setCell ⟨g,1,none⟩ (zI kd)).setCell ⟨g,2,none⟩ (zT T)).setCell ⟨g,3,none⟩ (zU c0)).setCell ⟨g,4,none⟩ (zU c1)).setCell ⟨g,5,none⟩ (zU c2)).setCell ⟨g,6,none⟩ (zU c3)).setCell ⟨g,7,none⟩ sv).setCell ⟨g,8,none⟩ (zI p)).setCell ⟨g,9,none⟩ (zI q)
theorem z8h{w:World}{g:Nat}{o a1 a2 a3 a4 r y A D E:Value}(h:zH w g (.cells #[o,a1,a2,a3,a4,r,y,A,D,E] 121))(N:zA)(kd:Int)(T:zA)(c0 c1 c2 c3:Int)(sv:Value)(p q:Int):
  (Ch w g N kd T c0 c1 c2 c3 sv p q).heap[g]? =some (.cells #[zT N,zI kd,zT T,zU c0,zU c1,zU c2,zU c3,sv,zI p,zI q] 121):=by
 simp only[World.setCell,Array.getElem?_modify,if_true,Option.map_map];rw[h];simp
theorem Gy{w:World}{g:Nat}{o a1 a2 a3 a4 r y A D E:Value}(h:w.heap[g]? =some (.cells #[o,a1,a2,a3,a4,r,y,A,D,E] 121)):
  (w.cell? ⟨g,0,none⟩=some o/\w.cell? ⟨g,1,none⟩=some a1/\w.cell? ⟨g,2,none⟩=some a2/\w.cell? ⟨g,3,none⟩=some a3/\w.cell? ⟨g,4,none⟩=some a4/\w.cell? ⟨g,5,none⟩=some r/\w.cell? ⟨g,6,none⟩=some y/\w.cell? ⟨g,7,none⟩=some A/\w.cell? ⟨g,8,none⟩=some D/\w.cell? ⟨g,9,none⟩=some E)/\
  (w.frozen? ⟨g,0,none⟩=false/\w.frozen? ⟨g,1,none⟩=false/\w.frozen? ⟨g,2,none⟩=false/\w.frozen? ⟨g,3,none⟩=false/\w.frozen? ⟨g,4,none⟩=false/\w.frozen? ⟨g,5,none⟩=false/\w.frozen? ⟨g,6,none⟩=false/\w.frozen? ⟨g,7,none⟩=false/\w.frozen? ⟨g,8,none⟩=false/\w.frozen? ⟨g,9,none⟩=false):=by
 refine⟨⟨?_,?_,?_,?_,?_,?_,?_,?_,?_,?_⟩,⟨?_,?_,?_,?_,?_,?_,?_,?_,?_,?_⟩⟩<;>simp[World.cell?,World.frozen?,h]
theorem z8i{w:World}{g:Nat}{o a1 a2 a3 a4 y r:Value}(h:w.heap[g]? =some (.cells #[o,a1,a2,a3,a4,y,r] 186)):
  w.cell? ⟨g,0,none⟩=some o/\w.cell? ⟨g,1,none⟩=some a1/\w.cell? ⟨g,6,none⟩=some r:=by
 refine⟨?_,?_,?_⟩<;>simp[World.cell?,h]
theorem Ek.fin{w W:World}{B R b:Nat}{v sv:Value}{L:List Tok}{k ru kd C p q:Nat}{N T:zA}{n:Nd}{o:Obj}(h:Ek Zr w R b v L k ru 0 W)(Y:Qh W (fun g=>w.heap.size+1<=g) n (n8 kd T C sv p))(hB:B<=w.heap.size):
  Dc (.inr ((N,n,q),k)) B R b v L ru w (.returned (.agg #[zT N,zI (kd:Int),zT T,zU (wd C 0:Nat),zU (wd C 1:Nat),zU (wd C 2:Nat),zU (wd C 3:Nat),sv,zI (p:Int),zI (q:Int)]))
   ((Ch (W.setCell ⟨R,2,none⟩ (zI ((ru:Int)+1))) w.heap.size N (kd:Int) T (wd C 0:Nat) (wd C 1:Nat) (wd C 2:Nat) (wd C 3:Nat) sv (p:Int) (q:Int)).alloc o):=by
 have D:=h.rules;have r:w.heap.size≠R:=by have:=h.lt;omega
 have y:=h.2.2.2.2 w.heap.size L0q;have A:=Nat.le_refl w.heap.size;have E:∀V:World,zB V (V.alloc o):=fun V=>(Below.refl _ V).alloc L0q _
 refine⟨zT N::(n8 kd T C sv p++[zI (q:Int)]),rfl,hid ⟨n8 kd T C sv p,rfl,?_⟩,hid ((((((((((((D.1.other r y).other r y).other r y).other r y).other r y).other r y).other r y).other r y).other r y).other r y)).below (E _)),hid (G.alloc (G.setN (G.setN (G.setN (G.setN (G.setN (G.setN (G.setN (G.setN (G.setN (G.setN D.2.1 A) A) A) A) A) A) A) A) A) A))⟩;refine Qh.below ?_ (E _);refine Qh.kept (fun g ab U hq=>⟨?_,show B<=g by have Z:w.heap.size+1<=g:=U;omega⟩) n _ (Qh.grown Y (G.setR (u:=zI ((ru:Int)+1)) (j:=2) (G.refl W R)) h.1.1);have aa:∀j:Nat,g≠(⟨w.heap.size,j,none⟩:Addr).block:=fun j e=>by have e2:g=w.heap.size:=e;have Z:w.heap.size+1<=g:=U;omega
 have s:∀(V:World) (j:Nat) (u:Value),(V.setCell ⟨w.heap.size,j,none⟩ u).heap[g]? =V.heap[g]? :=fun V j u=>Below.heap_setCell _ _ _ _ (aa j)
 unfold Ch;rw[s,s,s,s,s,s,s,s,s,s]
theorem z1g(R b:Nat)(v:Value)(L:List Tok)(ru k B:Nat)(w:World)(hg:Ql L)(h:Rd w R b v L k ru 0)(hk:k<L.length)(aC:ru<=64)(hB:B<=w.heap.size):
  Calls prog 131 #[.pointer (some ⟨R,0,none⟩)] w fun e w'=>Dc (ruS L ru k) B R b v L ru w e w':=by
 have aD:=Tryz.fld0;have HT:=Jm R b v L k ru 0 hk hg;have HW:=Cf R b v L k ru 0 hk hg;have HF:=z1b R b v L k ru 0 hk hg;have D:Hid (Ek Zr w R b v L k ru 0 (w.alloc Zr)):=Ek.start Zr h;have aE:(k:Int)+2<9223372036854775807:=by have:=hg.len;omega
 have HG:Hid (Ql L):=hg;unfold ruS;by_cases h1:(gL L k).1=1
 ·rw[if_neg (by omega)]
  have am:=hg.nxt k hk (by omega);have ab:=Jm R b v L (k+1) ru 0 am hg;have aj:=Cf R b v L (k+1) ru 0 am hg;obtain⟨t,ht⟩:∃t,t=gL L k:=⟨_,rfl⟩;rw[<-ht]at HT HF h1 ⊢;clear ht HW;obtain⟨tk,N,r,q⟩:=t;have ax:tk=1:=h1;subst ax;clear h1 h;by_cases h64:ru=64
  ·rw[if_pos h64]
   subst h64;go_enter func131,ntmps131
   go_wp2_with fail
   refine(HT.out _ D.out.1).mono ?_;rintro e w1 ⟨rfl,U⟩;have y:=hid (D.out.below U);clear U D HT;dsimp only[tkv];have A:=hid (y.out.alloc (.cells #[.int .i64 1,.string N,.int .u64 (wd r 0),.int .u64 (wd r 1),.int .u64 (wd r 2),.int .u64 (wd r 3),.int .i64 q] 186));obtain⟨r0,V,r2,r3,q0,q1,q2,q3⟩:=y.out.1.cells;have ay:w1.cell? ⟨R,2,none⟩=some (.int .i64 64):=r2;clear r0 V r2 r3 q0 q1 q2 q3;have af:=y.out.1.lt;clear y
   go_wp2_with fail
   refine(HF.out 2 _ A.out.1).mono ?_;rintro e w3 ⟨f,rfl,Y⟩;have HA:=hid (A.out.up (B:=B) (ru':=64) Y.out.1 Y.out.2.1 (G.below Y.out.2.2));clear Y A HF ay
   go_wp2_with fail
   exact⟨rfl,HA.out⟩
  rw[if_neg h64];have aF:((ru:Int) == 64)=false:=by simp;omega
  by_cases h2:(gL L (k+1)).1=2
  ·rw[if_neg (by omega)]
   have az:=hg.nxt (k+1) am (by omega);have HC:=hid (fun(W:World) (h:Rd W R b v L (k+2) ru 0) (hB:w.heap.size+1<=W.heap.size)=>z1e R b v L ru hg 24 0 (by omega) (k+2) (w.heap.size+1) W h az trivial hB);obtain⟨t,ht⟩:∃t,t=gL L (k+1):=⟨_,rfl⟩;rw[<-ht]at ab h2;clear ht aj;obtain⟨tk,uN,uC,uq⟩:=t;have ao:tk=2:=h2;subst ao;clear h2;cases hs:chS L (Vh L 24) (k+2)with
   |inl c=>
    rw[hs]at HC;show Calls _ _ _ _ (fun e w'=>Dc (.inl c) B R b v L ru w e w');go_enter func131,ntmps131
    go_wp2_with fail
    refine(HT.out _ D.out.1).mono ?_;rintro e w1 ⟨rfl,U⟩;have y:=hid (D.out.below U);clear U D HT HF;dsimp only[tkv];have A:=hid (y.out.next.alloc (.cells #[.int .i64 1,.string N,.int .u64 (wd r 0),.int .u64 (wd r 1),.int .u64 (wd r 2),.int .u64 (wd r 3),.int .i64 q] 186));have ac:Hid (((w1.setCell ⟨R,1,none⟩ (.int .i64 ((k:Int)+1))).alloc (.cells #[.int .i64 1,.string N,.int .u64 (wd r 0),.int .u64 (wd r 1),.int .u64 (wd r 2),.int .u64 (wd r 3),.int .i64 q] 186)).heap[w1.heap.size]? =some (.cells #[.int .i64 1,.string N,.int .u64 (wd r 0),.int .u64 (wd r 1),.int .u64 (wd r 2),.int .u64 (wd r 3),.int .i64 q] 186)):=Qx _ _ (by simp);have ad:Hid (w.heap.size<w1.heap.size):=y.out.size;obtain⟨r0,V,r2,r3,q0,q1,q2,q3⟩:=y.out.1.cells;have af:=y.out.1.lt;clear y
    go_wp2_with fail
    refine(ab.out _ A.out.1).mono ?_;rintro e w4 ⟨rfl,Z⟩;have E:=hid (A.out.below Z);have ag:=hid ((Z.block _ (by simp)).trans ac.out);have ah:Hid (w1.heap.size<w4.heap.size):=Nat.lt_of_lt_of_le (by simp) Z.size;clear Z A ac ab r0 V r2 r3 q0 q1 q2 q3 af;dsimp only[tkv];obtain⟨r0,V,r2,r3,q0,q1,q2,q3⟩:=E.out.1.cells;have ap:w4.cell? ⟨R,1,none⟩=some (.int .i64 ((k:Int)+1)):=by rw[V];simp
    clear V;have aq:=E.out.1.lt;have aa:Hid (Ek Zr w R b v L (k+2) ru 0 (w4.setCell ⟨R,1,none⟩ (.int .i64 ((k:Int)+2)))):=by
     have:=E.out.next;rw[show(((k+1:Nat):Int))+1=(k:Int)+2 by omega]at this;exact this
    have ak:=hid ((Below.heap_setCell w4 ⟨R,1,none⟩ (.int .i64 ((k:Int)+2)) w1.heap.size (show w1.heap.size≠R by have:=ad.out;have:=E.out.lt;omega)).trans ag.out);have al:=ah;have aA:(k:Int)+1+1=(k:Int)+2:=by omega
    clear E ag ah
    go_wp2_with fail
    refine(HC.out _ aa.out.1 (by have:=aa.out.size;omega)).mono ?_;clear r0 ap r2 r3 q0 q1 q2 q3 aq;rintro e w6 ⟨f,rfl,ar,ae⟩;have HA:=hid (aa.out.up (B:=B) (ru':=ru) ar.out.1 ar.out.2 ae.out);clear aa HC ak ar ae
    go_wp2_with fail
    exact⟨rfl,HA.out⟩
   |inr x=>
    obtain⟨n,k'⟩:=x;rw[hs]at HC;show Calls _ _ _ _ (fun e w'=>Dc (.inr ((N,n,q),k')) B R b v L ru w e w');go_enter func131,ntmps131
    go_wp2_with fail
    refine(HT.out _ D.out.1).mono ?_;rintro e w1 ⟨rfl,U⟩;have y:=hid (D.out.below U);clear U D HT HF;dsimp only[tkv];have A:=hid (y.out.next.alloc (.cells #[.int .i64 1,.string N,.int .u64 (wd r 0),.int .u64 (wd r 1),.int .u64 (wd r 2),.int .u64 (wd r 3),.int .i64 q] 186));have ac:Hid (((w1.setCell ⟨R,1,none⟩ (.int .i64 ((k:Int)+1))).alloc (.cells #[.int .i64 1,.string N,.int .u64 (wd r 0),.int .u64 (wd r 1),.int .u64 (wd r 2),.int .u64 (wd r 3),.int .i64 q] 186)).heap[w1.heap.size]? =some (.cells #[.int .i64 1,.string N,.int .u64 (wd r 0),.int .u64 (wd r 1),.int .u64 (wd r 2),.int .u64 (wd r 3),.int .i64 q] 186)):=Qx _ _ (by simp);have ad:Hid (w.heap.size<w1.heap.size):=y.out.size;obtain⟨r0,V,r2,r3,q0,q1,q2,q3⟩:=y.out.1.cells;have af:=y.out.1.lt;clear y
    go_wp2_with fail
    refine(ab.out _ A.out.1).mono ?_;rintro e w4 ⟨rfl,Z⟩;have E:=hid (A.out.below Z);have ag:=hid ((Z.block _ (by simp)).trans ac.out);have ah:Hid (w1.heap.size<w4.heap.size):=Nat.lt_of_lt_of_le (by simp) Z.size;clear Z A ac ab r0 V r2 r3 q0 q1 q2 q3 af;dsimp only[tkv];obtain⟨r0,V,r2,r3,q0,q1,q2,q3⟩:=E.out.1.cells;have ap:w4.cell? ⟨R,1,none⟩=some (.int .i64 ((k:Int)+1)):=by rw[V];simp
    clear V;have aq:=E.out.1.lt;have aa:Hid (Ek Zr w R b v L (k+2) ru 0 (w4.setCell ⟨R,1,none⟩ (.int .i64 ((k:Int)+2)))):=by
     have:=E.out.next;rw[show(((k+1:Nat):Int))+1=(k:Int)+2 by omega]at this;exact this
    have ak:=hid ((Below.heap_setCell w4 ⟨R,1,none⟩ (.int .i64 ((k:Int)+2)) w1.heap.size (show w1.heap.size≠R by have:=ad.out;have:=E.out.lt;omega)).trans ag.out);have al:=ah;have aA:(k:Int)+1+1=(k:Int)+2:=by omega
    clear E ag ah
    go_wp2_with fail
    refine(HC.out _ aa.out.1 (by have:=aa.out.size;omega)).mono ?_;clear r0 ap r2 r3 q0 q1 q2 q3 aq;rintro e w6 ⟨cs,rfl,HN,HR,ae⟩;have ai:=hid (aa.out.grown HR.out ae.out);have au:=hid ((ae.out.block _ (by have:=al.out;simp;omega) (fun e=>by have e2:w1.heap.size=R:=Option.some.inj e;have:=aa.out.lt;have:=ad.out;omega)).trans ak.out);have av:Hid (w1.heap.size<w6.heap.size):=Nat.lt_of_lt_of_le (by have:=al.out;simp;omega) ae.out.size;clear aa HC ak HR ae al;obtain⟨kd,T,C,so,sl,sc,aw⟩:=HN.out.shape;obtain⟨p,hp⟩:∃p,p=n.at':=⟨_,rfl⟩;rw[<-hp]at aw;subst aw;clear hp;dsimp only[n8];obtain⟨z0,z1,z6⟩:=z8i au.out;obtain⟨⟨k0,k1,k2,k3,k4,k5,k6,k7,k8,k9⟩,⟨f0,f1,f2,f3,f4,f5,f6,f7,f8,f9⟩⟩:=Gy ai.out.2.2.1;obtain⟨r0,V,r2,r3,q0,q1,q2,q3⟩:=ai.out.1.cells;have aG:=ai.out.1.lt;have aH:=ai.out.lt;have aI:=ad.out;have aJ:=av.out;have aK:R≠w1.heap.size:=by omega
    have aL:R≠w.heap.size:=by omega
    have aM:w.heap.size≠w1.heap.size:=by omega
    have aN:w.heap.size<w6.heap.size:=by omega
    have aO:(ru:Int)+1<9223372036854775807:=by omega
    clear au ad av
    go_wp2_with fail
    (try simp only[Exit.inBlock,Exit.then])
    have hS:=z8h (w:=w6.setCell ⟨R,2,none⟩ (.int .i64 ((ru:Int)+1))) (g:=w.heap.size) ai.out.rules.2.2.1 N (kd:Int) T (wd C 0:Nat) (wd C 1:Nat) (wd C 2:Nat) (wd C 3:Nat) (.slice so sl sc) (p:Int) (q:Int);have aB:=fun o:Obj=>(Below.heap_alloc (Ch (w6.setCell ⟨R,2,none⟩ (.int .i64 ((ru:Int)+1))) w.heap.size N (kd:Int) T (wd C 0:Nat) (wd C 1:Nat) (wd C 2:Nat) (wd C 3:Nat) (.slice so sl sc) (p:Int) (q:Int)) o w.heap.size (by simp;omega)).trans hS
    obtain⟨⟨c0,c1,c2,c3,c4,c5,c6,c7,c8,c9⟩,_⟩:=Gy (aB (.cells #[.int .i64 kd,.string T,.int .u64 (wd C 0),.int .u64 (wd C 1),.int .u64 (wd C 2),.int .u64 (wd C 3),.slice so sl sc,.int .i64 p] 119));refine bodyPost_ret (v:=.agg #[.string N,.int .i64 kd,.string T,.int .u64 (wd C 0),.int .u64 (wd C 1),.int .u64 (wd C 2),.int .u64 (wd C 3),.slice so sl sc,.int .i64 p,.int .i64 q]) (by simp[results,Tryz.results131,go_sem,c0,c1,c2,c3,c4,c5,c6,c7,c8,c9]) rfl ?_;exact ai.out.fin HN.out hB
  ·rw[if_pos h2]
   obtain⟨t,ht⟩:∃t,t=gL L (k+1):=⟨_,rfl⟩;rw[<-ht]at ab aj h2 ⊢;clear ht;obtain⟨tk,uN,uC,uq⟩:=t;have t2:((tk:Int) != 2)=true:=by have ao:tk≠2:=h2;rw[bne_iff_ne];omega
   clear h2;go_enter func131,ntmps131
   go_wp2_with fail
   refine(HT.out _ D.out.1).mono ?_;rintro e w1 ⟨rfl,U⟩;have y:=hid (D.out.below U);clear U D HT HF;dsimp only[tkv];have A:=hid (y.out.next.alloc (.cells #[.int .i64 1,.string N,.int .u64 (wd r 0),.int .u64 (wd r 1),.int .u64 (wd r 2),.int .u64 (wd r 3),.int .i64 q] 186));have ac:Hid (((w1.setCell ⟨R,1,none⟩ (.int .i64 ((k:Int)+1))).alloc (.cells #[.int .i64 1,.string N,.int .u64 (wd r 0),.int .u64 (wd r 1),.int .u64 (wd r 2),.int .u64 (wd r 3),.int .i64 q] 186)).heap[w1.heap.size]? =some (.cells #[.int .i64 1,.string N,.int .u64 (wd r 0),.int .u64 (wd r 1),.int .u64 (wd r 2),.int .u64 (wd r 3),.int .i64 q] 186)):=Qx _ _ (by simp);have ad:Hid (w.heap.size<w1.heap.size):=y.out.size;obtain⟨r0,V,r2,r3,q0,q1,q2,q3⟩:=y.out.1.cells;have af:=y.out.1.lt;clear y
   go_wp2_with fail
   refine(ab.out _ A.out.1).mono ?_;rintro e w4 ⟨rfl,Z⟩;have E:=hid (A.out.below Z);have ag:=hid ((Z.block _ (by simp)).trans ac.out);have ah:Hid (w1.heap.size<w4.heap.size):=Nat.lt_of_lt_of_le (by simp) Z.size;clear Z A ac ab r0 V r2 r3 q0 q1 q2 q3 af;dsimp only[tkv]
   go_wp2_with fail
   refine(aj.out _ E.out.1).mono ?_;rintro e w5 ⟨f,rfl,Y⟩;have HA:=hid (E.out.up (B:=B) (ru':=ru) Y.out.1 Y.out.2.1 (G.below Y.out.2.2));clear Y E aj
   go_wp2_with fail
   exact⟨rfl,HA.out⟩
 ·rw[if_pos h1]
  obtain⟨t,ht⟩:∃t,t=gL L k:=⟨_,rfl⟩;rw[<-ht]at HT HW h1 ⊢;clear ht HF;obtain⟨tk,N,r,q⟩:=t;have t1:((tk:Int) != 1)=true:=by have ao:tk≠1:=h1;rw[bne_iff_ne];omega
  clear h1 h;go_enter func131,ntmps131
  go_wp2_with fail
  refine(HT.out _ D.out.1).mono ?_;rintro e w1 ⟨rfl,U⟩;have y:=hid (D.out.below U);clear U D HT;dsimp only[tkv];have A:=hid (y.out.alloc (.cells #[.int .i64 tk,.string N,.int .u64 (wd r 0),.int .u64 (wd r 1),.int .u64 (wd r 2),.int .u64 (wd r 3),.int .i64 q] 186));clear y
  go_wp2_with fail
  refine(HW.out _ A.out.1).mono ?_;rintro e w3 ⟨f,rfl,Y⟩;have HA:=hid (A.out.up (B:=B) (ru':=ru) Y.out.1 Y.out.2.1 (G.below Y.out.2.2));clear Y A HW
  go_wp2_with fail
  exact⟨rfl,HA.out⟩
end
open Go.RowKit
def Zh(w:World)(P:Nat->Prop):List Rl->List Value->Prop
 |[],_=>True
 |x::r,vs=>∃c rest,vs=c++rest/\Yw w P x c/\Zh w P r rest
theorem Yw.len{w:World}{P:Nat->Prop}{x:Rl}{c:List Value}(h:Yw w P x c):c.length=10:=by
 obtain⟨r,rfl,o⟩:=h;have:=o.len;simp;omega
theorem Yw.kept{w w':World}{P Q:Nat->Prop}(o:∀g r,P g->zH w g (.cells r 119)->w'.heap[g]? =w.heap[g]? /\Q g){x:Rl}{c:List Value}(h:Yw w P x c):Yw w' Q x c:=by
 obtain⟨y,A,D⟩:=h;exact⟨y,A,Qh.kept o _ _ D⟩
theorem Zh.kept{w w':World}{P Q:Nat->Prop}(o:∀g y,P g->zH w g (.cells y 119)->w'.heap[g]? =w.heap[g]? /\Q g):∀(l:List Rl) (vs:List Value),Zh w P l vs->Zh w' Q l vs
 |[],vs,h=>by rw[Zh];trivial
 |n::r,vs,h=>by
  rw[Zh]at h ⊢;obtain⟨c,rest,A,D,E⟩:=h;exact⟨c,rest,A,Yw.kept o D,Zh.kept o r rest E⟩
theorem Zh.append{w:World}{P:Nat->Prop}:∀(l:List Rl) (vs:List Value) (n:Rl) (c:List Value),Zh w P l vs->vs.length=l.length*10->Yw w P n c->Zh w P (l++[n]) (vs++c)
 |[],vs,n,c,_,hl,hn=>by
  have:vs=[]:=List.eq_nil_of_length_eq_zero (by simpa using hl);subst this;rw[List.nil_append,Zh];exact⟨c,[],by simp,hn,by rw[Zh];trivial⟩
 |m::r,vs,n,c,h,hl,hn=>by
  rw[Zh]at h;obtain⟨d,rest,rfl,o,y⟩:=h;have A:=o.len;rw[List.cons_append,Zh];refine⟨d,rest++c,by rw[List.append_assoc],o,Zh.append r rest n c y ?_ hn⟩;simp at hl;omega
theorem Yw.shape{w:World}{P:Nat->Prop}{x:Rl}{c:List Value}(h:Yw w P x c):∃N kd T C o r y p q,c=[zT N,zI ((kd:Nat):Int),zT T,zU (wd C 0:Nat),zU (wd C 1:Nat),zU (wd C 2:Nat),zU (wd C 3:Nat),.slice o r y,zI ((p:Nat):Int),zI ((q:Nat):Int)]:=by
 obtain⟨D,rfl,A⟩:=h;obtain⟨kd,T,C,o,r,y,rfl⟩:=A.shape;exact⟨_,kd,T,C,o,r,y,_,_,rfl⟩
def RoR(B:Nat)(pv:Value)(acc:List Rl)(W:World):Prop:=
 ∃xs,W.ownsRow B 121 10 pv acc.length xs/\Zh W (fun g=>B<=g) acc xs
theorem RoR.grown{B R:Nat}{pv:Value}{acc:List Rl}{W W':World}(h:RoR B pv acc W)(o:W.grownBy W' (some R))(E:R<B):RoR B pv acc W':=by
 obtain⟨xs,r,A⟩:=h;refine⟨xs,r.kept o (.inr (fun e=>by have:=(r.lt _ e).1;omega)),Zh.kept (fun g G y D=>⟨o.block g (Qq D) (fun e=> ?_),y⟩) _ _ A⟩;have U:g=R:=Option.some.inj e;have V:B<=g:=y;omega
theorem RoR.below{B:Nat}{pv:Value}{acc:List Rl}{W W':World}(h:RoR B pv acc W)(o:zB W W'):RoR B pv acc W':=by
 obtain⟨xs,r,y⟩:=h;exact⟨xs,Xf r o,Zh.kept (fun g E A D=>⟨o.block g (Qq D),A⟩) _ _ y⟩
theorem z8j{w:World}{base e size n g:Nat}{v:Value}{xs:List Value}(h:w.ownsRow base e size v n xs)(o:v.ownBlock=some g):∃r,zH w g (.cells r e):=by
 obtain⟨_,⟨y,E⟩|⟨A,G,r,rfl,_,D,_⟩⟩:=h
 ·rw[y]at o;cases o
 ·have:A=g:=Option.some.inj o
  subst this;exact⟨r,D⟩
theorem RoR.app{B D:Nat}{pv A:Value}{acc:List Rl}{xs c:List Value}{n:Rl}{h E W4:World}(G:h.ownsRow B 121 10 pv acc.length xs)(ha:Zh h (fun g=>B<=g) acc xs)(Y:Yw h (fun g=>D<=g) n c)(hD:B<=D)(U:Below h.heap.size h E)
  (Z:W4.ownsRow B 121 10 A (acc.length+1) (xs++c))(aa:E.grownBy W4 pv.ownBlock):RoR B A (acc++[n]) W4:=by
 have V:∀(g:Nat) (r:Array Value),h.heap[g]? =some (Obj.cells r 119)->W4.heap[g]? =h.heap[g]? :=fun g r o=>by
  have hs:=U.size;have hl:=Qq o;refine(aa.block g (by omega) (fun e=> ?_)).trans (U.block g hl);obtain⟨ab,h'⟩:=z8j G e.symm;rw[h']at o;simp at o
 refine⟨xs++c,by simpa using Z,Zh.append _ _ _ _ (Zh.kept (fun g r y o=>⟨V g r o,y⟩) _ _ ha) G.1 (Yw.kept (fun g r y o=>⟨V g r o,show B<=g by have ac:D<=g:=y;omega⟩) Y)⟩
theorem RoR.one{B:Nat}{x:Rl}{o a1 a2 a3 a4 r y A D E:Value}{W:World}(h:Yw W (fun g=>B<=g) x [o,a1,a2,a3,a4,r,y,A,D,E])(G:B<=W.heap.size):RoR B (zS W.heap.size 1 1) [x] (W.alloc (.cells #[o,a1,a2,a3,a4,r,y,A,D,E] 121)):=by
 refine⟨[o,a1,a2,a3,a4,r,y,A,D,E],⟨rfl,.inr ⟨W.heap.size,1,_,rfl,G,Qx _ _ rfl,Nat.le_refl _,by unfold maxLen;omega,rfl,rfl⟩⟩,?_⟩;rw[Zh];exact⟨[o,a1,a2,a3,a4,r,y,A,D,E],[],by simp,Yw.kept (fun g Y U V=>⟨Below.heap_alloc W _ g (Qq V),U⟩) h,by rw[Zh];trivial⟩
theorem Ek.rowed{O:Obj}{w W W':World}{R b:Nat}{v:Value}{L:List Tok}{k ru ne:Nat}{row:Option Nat}(h:Ek O w R b v L k ru ne W)(o:W.grownBy W' row)(r:∀g,row=some g->w.heap.size<g):Ek O w R b v L k ru ne W':=by
 have A:=h.lt;have D:=h.size;have y:some R≠row:=fun e=>by have:=r R e.symm;omega
 have E:some w.heap.size≠row:=fun e=>by have:=r _ e.symm;omega
 have G:v.ownBlock=none∨v.ownBlock≠row:=by
  cases hv:v.ownBlock with
  |none=>exact .inl rfl
  |some g=>exact .inr (fun e=>h.2.2.2.2 g (by have:=r g e.symm;omega) hv)
 exact⟨⟨(o.block R (by omega) y).trans h.1.1,h.1.2.kept o G⟩,⟨o.os.trans h.2.1.os,o.tape.trans h.2.1.tape,o.output.trans h.2.1.output,Nat.le_trans h.2.1.size o.size,fun j U y=>(o.block j (by omega) (fun e=>by have:=r j e.symm;omega)).trans (h.2.1.block j U y)⟩,(o.block _ D E).trans h.2.2.1,A,h.2.2.2.2⟩
theorem Tryz.infoRl:(Tryz.prog.info? 121).map (fun i=>(i.zero,i.size,i.bytes))=some (some (.agg #[zT {data:=#[]},zI 0,zT {data:=#[]},zU 0,zU 0,zU 0,zU 0,.slice none 0 0,zI 0,zI 0]),10,112):=by kernel_rfl
theorem Ow(w:World)(a b c d e f g h i k:Value)(t:TypeId):∀j x,[a,b,c,d,e,f,g,h,i,k][j]? =some x->(w.alloc (.cells #[a,b,c,d,e,f,g,h,i,k] t)).cell? ((⟨w.heap.size,0,none⟩:Addr).add j)=some x:=by
 intro j x o
 match j,o with
 |0,o=>simp at o;subst o;simp[Addr.add]
 |1,o=>simp at o;subst o;simp[Addr.add]
 |2,o=>simp at o;subst o;simp[Addr.add]
 |3,o=>simp at o;subst o;simp[Addr.add]
 |4,o=>simp at o;subst o;simp[Addr.add]
 |5,o=>simp at o;subst o;simp[Addr.add]
 |6,o=>simp at o;subst o;simp[Addr.add]
 |7,o=>simp at o;subst o;simp[Addr.add]
 |8,o=>simp at o;subst o;simp[Addr.add]
 |9,o=>simp at o;subst o;simp[Addr.add]
theorem z1h(N:zA)(a:Int)(T:zA)(c0 c1 c2 c3:Int)(o:Option Addr)(r y:Nat)(p q:Int):∀u∈[Value.string N,Value.int .i64 a,zT T,zU c0,zU c1,zU c2,zU c3,.slice o r y,zI p,zI q],u.oneCell'=true:=by
 intro u h;simp at h;rcases h with rfl|rfl|rfl|rfl|rfl|rfl|rfl|rfl|rfl|rfl<;>rfl
def Jp(L:List Tok):Nat->Nat->List Rl->(Nat×Nat) ⊕ List Rl
 |0,_,_=>.inl (0,0)
 |f+1,k,acc=>if(gL L k).1=6 then .inr acc else(match ruS L acc.length k with
   | .inl e=>.inl e
   | .inr (x,k')=>Jp L f k' (acc++[x]))
def z8k(L:List Tok)(r:(Nat×Nat) ⊕ (Rl×Nat)):(Nat×Nat) ⊕ List Rl:=match r with
 | .inl e=>.inl e
 | .inr (x,k')=>Jp L L.length k' [x]
def Dl(L:List Tok):(Nat×Nat) ⊕ List Rl:=z8k L (ruS L 0 0)
def Gf(r:(Nat×Nat) ⊕ List Rl)(B R:Nat)(w:World)(e:Ending)(w':World):Prop:=
 match r with
 | .inr rs=>∃g cap,e=.returned (.agg #[zS g rs.length cap])/\Hid (RoR B (zS g rs.length cap) rs w')/\Hid (w.grownBy w' (some R))
 | .inl c=>∃f,e=.panicked [{v:=.iface 181 (zP f 0),recovered:=false}]/\Hid (w.heap.size<=f/\Flt w' f c)/\Hid (w.grownBy w' (some R))
@[reducible] def Zg:Obj:=.cells #[.slice none 0 0] 51
theorem Ek.upG{O:Obj}{w W:World}{R b:Nat}{v:Value}{L:List Tok}{k ru ne:Nat}(h:Ek O w R b v L k ru ne W){c:Nat×Nat}{B B' ru':Nat}{e:Ending}{w':World}(r:Dc (.inl c) B' R b v L ru' W e w'):Gf (.inl c) B R w e w':=by
 obtain⟨f,y,o,A⟩:=r;exact⟨f,y,hid ⟨by have:=o.out.1;have:=h.size;omega,o.out.2⟩,hid (G.trans h.2.1 A.out)⟩
theorem Ek.finG{w W:World}{B R b:Nat}{v:Value}{L:List Tok}{k ru ne g n o:Nat}{rs:List Rl}(h:Ek Zg w R b v L k ru ne W)(U:n=rs.length)(V:RoR (w.heap.size+1) (zS g n o) rs W)(hB:B<=w.heap.size):
  Gf (.inr rs) B R w (.returned (.agg #[zS g n o])) (W.setCell ⟨w.heap.size,0,none⟩ (zS g n o)):=by
 subst U;obtain⟨xs,y,Y⟩:=V;have A:W.grownBy (W.setCell ⟨w.heap.size,0,none⟩ (zS g rs.length o)) (some w.heap.size):=G.setR (G.refl W w.heap.size);refine⟨g,o,rfl,hid ⟨xs,?_,Zh.kept (fun g D E r=>⟨A.block g (Qq r) (fun e=> ?_),show B<=g by have Z:w.heap.size+1<=g:=E;omega⟩) _ _ Y⟩,hid (G.setN h.2.1 L0q)⟩
 ·have h3:=y.kept A (.inr (fun e=>by have:=(y.lt _ e).1;omega))
  obtain⟨a,⟨r,_⟩|⟨g',aa,D,r,hb,rest⟩⟩:=h3
  ·cases r
  ·exact⟨a,.inr ⟨g',aa,D,r,by omega,rest⟩⟩
 ·have e2:g=w.heap.size:=Option.some.inj e
  have Z:w.heap.size+1<=g:=E;omega
theorem z8l{L:List Tok}{ru k:Nat}{x:Rl×Nat}(h:ruS L ru k=.inr x):ru≠64:=by
 intro e;unfold ruS at h;rw[if_pos e]at h;split at h<;>cases h
theorem z8m(R b B:Nat)(v:Value)(L:List Tok)(w:World)(Y:Ql L)(h:Rd w R b v L 0 0 0)(ao:0<L.length)(hB:B<=w.heap.size):
  Calls prog 87 #[.pointer (some ⟨R,0,none⟩)] w fun e w'=>Gf (Dl L) B R w e w':=by
 obtain⟨iT,aC,aD,aE,aF⟩:=info_parts Tryz.infoRl;have aS:=Tryz.fld0;have ad:Hid (Ek Zg w R b v L 0 0 0 (w.alloc Zg)):=Ek.start Zg h;have HG:Hid (Ql L):=Y;have aT:=Y.len;have Z:=hid (z1g R b v L 0 0 (w.heap.size+1) (w.alloc Zg) Y (h.alloc _) ao (by omega) (by simp));unfold Dl;cases hs:ruS L 0 0 with
 |inl c=>
  rw[hs]at Z;clear Y h hs;show Calls _ _ _ _ (fun e w'=>Gf (.inl c) B R w e w');go_enter func87,ntmps87
  go_wp2_with fail
  refine Z.out.mono ?_;rintro e w1 hA;have ag:Hid (Gf (.inl c) B R w e w1):=ad.out.upG hA;obtain⟨f,rfl,_,_⟩:=hA;clear Z ad
  go_wp2_with fail
  exact⟨rfl,ag.out⟩
 |inr x=>
  obtain⟨x,k1⟩:=x;have aG:=z1f Y ao hs;rw[hs]at Z;obtain⟨G,hR⟩:∃G,G=Jp L L.length k1 [x]:=⟨_,rfl⟩;have ap:Hid (Jp L L.length k1 [x]=G):=hR.symm;show Calls _ _ _ _ (fun e w'=>Gf (Jp L L.length k1 [x]) B R w e w');rw[<-hR];clear hR h Y hs;go_enter func87,ntmps87
  go_wp2_with fail
  refine Z.out.mono ?_;rintro e w1 ⟨cs,rfl,U,HR,aa⟩;have ah:=hid (ad.out.grown HR.out aa.out);clear Z HR aa ad;obtain⟨N,kd,T,C,so,sl,sc,p,q,ai⟩:=U.out.shape;subst ai;have aq:=hid (RoR.one U.out ah.out.size);have ar:=hid (ah.out.alloc (.cells #[.string N,.int .i64 kd,.string T,.int .u64 (wd C 0),.int .u64 (wd C 1),.int .u64 (wd C 2),.int .u64 (wd C 3),.slice so sl sc,.int .i64 p,.int .i64 q] 121));clear U ah
  go_wp2_with fail
  go_loopw [3] (fun a wr=>∃(f j:Nat) (m:Rl) (r:List Rl),j<L.length/\L.length<=f+j/\r.length+1<=j/\r.length+1<=64/\Hid (Jp L f j (m::r)=G)/\Hid (RoR (w.heap.size+1) a (m::r) wr)/\Hid (Ek Zg w R b v L j (r.length+1) 0 wr)) (fun _ wr=>L.length-Jz R wr)
  case atStart=>exact⟨L.length,k1,x,[],aG.2,by omega,by simp;omega,by simp,ap,aq,ar⟩
  case round=>
   obtain⟨f,j,m,r,hj,aU,aH,au,ab,V,A⟩:=hrel;clear ap ar aq;have E:=Jm R b v L j (r.length+1) 0 hj HG.out;cases f with
   |zero=>omega
   |succ f=>
   by_cases hz:(gL L j).1=6
   ·have HF:Hid (G=.inr (m::r)):=by show _=_;rw[<-ab.out,Jp,if_pos hz]
    obtain⟨t,ht⟩:∃t,t=gL L j:=⟨_,rfl⟩;rw[<-ht]at E hz;clear ht ab;obtain⟨tk,tN,tC,tq⟩:=t;have aj:tk=6:=hz;subst aj;clear hz;obtain⟨aV,ak,_⟩:=V.out;rw[List.length_cons]at ak;obtain⟨g,aI,aJ⟩:=Vc ak (by omega);clear ak;subst aJ;obtain⟨M,hM⟩:∃M,M=r.length+1:=⟨_,rfl⟩;have aK:Hid (M=r.length+1):=hM;rw[<-hM]at aH au E A V ⊢;clear hM
    go_wp2_with fail
    refine(E.out _ A.out.1).mono ?_;rintro e w2 ⟨rfl,D⟩;have o:=hid (A.out.below D);have ae:=hid (V.out.below D);clear D A E V;dsimp only[tkv];have aL:w2.cell? ⟨w.heap.size,0,none⟩=some (.slice none 0 0):=by have:=o.out.2.2.1;simp[World.cell?,this]
    have aW:w2.frozen? ⟨w.heap.size,0,none⟩=false:=by have:=o.out.2.2.1;simp[World.frozen?,this]
    have aX:=o.out.size
    go_wp2_with fail
    (try simp only[Exit.inBlock,Exit.then])
    refine bodyPost_ret (v:=.agg #[.slice (some ⟨g,0,none⟩) M aI]) (by simp[results,Tryz.results87,go_sem,aL]) rfl ?_;rw[HF.out];exact o.out.finG aK.out ae.out hB
   ·have HC:=hid (fun(W:World) (h:Rd W R b v L j (r.length+1) 0)=>z1g R b v L (r.length+1) j W.heap.size W HG.out h hj au L0q)
    obtain⟨t,ht⟩:∃t,t=gL L j:=⟨_,rfl⟩;have af:=hz;rw[<-ht]at E hz;clear ht;obtain⟨tk,tN,tC,tq⟩:=t;have aj:tk≠6:=hz;have t6:((tk:Int) != 6)=true:=by rw[bne_iff_ne];omega
    clear hz aj;cases hs:ruS L (r.length+1) j with
    |inl c=>
     have HF:Hid (G=.inl c):=by show _=_;rw[<-ab.out,Jp,if_neg af,List.length_cons,hs]
     rw[hs]at HC;clear hs ab af
     go_wp2_with fail
     refine(E.out _ A.out.1).mono ?_;rintro e w2 ⟨rfl,D⟩;have o:=hid (A.out.below D);clear D A E V;dsimp only[tkv]
     go_wp2_with fail
     refine(HC.out _ o.out.1).mono ?_;rintro e w4 hA;have ag:Hid (Gf G B R w e w4):=by show Gf _ _ _ _ _ _;rw[HF.out];exact o.out.upG hA
     obtain⟨f',rfl,_,_⟩:=hA;clear o HC HF
     go_wp2_with fail
     exact⟨rfl,ag.out⟩
    |inr y=>
     obtain⟨y,k'⟩:=y;have aM:=z1f HG.out hj hs;have aY:=z8l hs;have aN:Hid (Jp L f k' ((m::r)++[y])=G):=by show _=_;rw[<-ab.out,Jp,if_neg af,List.length_cons,hs]
     rw[hs]at HC;clear hs ab af;have HJ:Hid (Jz R wr=j):=Dp A.out.1
     go_wp2_with fail
     refine(E.out _ A.out.1).mono ?_;rintro e w2 ⟨rfl,D⟩;have o:=hid (A.out.below D);have ae:=hid (V.out.below D);clear D A E V;dsimp only[tkv]
     go_wp2_with fail
     refine(HC.out _ o.out.1).mono ?_;rintro e w5 ⟨cs,rfl,U,HR,aa⟩;have al:=hid (o.out.grown HR.out aa.out);have av:=hid (ae.out.grown aa.out (by have:=o.out.lt;omega));have aw:Hid (w.heap.size+1<=w2.heap.size):=o.out.size;clear o ae HR aa HC;obtain⟨N,kd,T,C,so,sl,sc,p,q,ai⟩:=U.out.shape;subst ai;obtain⟨xs,ax,ay⟩:=av.out;have ac:=hid ax;have az:=hid ay;clear ax ay av;rw[List.length_cons]at ac
     go_wp2_with(first|(at_builtin;refine wpList_append_own_at _ rfl (.tmp 11) (.tmp 14) 49 rfl (w.heap.size+1) 121 iT (.agg #[.string ⟨#[]⟩,.int .i64 0,.string ⟨#[]⟩,.int .u64 0,.int .u64 0,.int .u64 0,.int .u64 0,.slice none 0 0,.int .i64 0,.int .i64 0]) 10 112 Tryz.underlying49 aC aD aE aF rfl (by decide) _ _ _ rfl (ac.out.alloc _) ⟨w5.heap.size,0,none⟩ 1 1 [.string N,.int .i64 kd,.string T,.int .u64 (wd C 0),.int .u64 (wd C 1),.int .u64 (wd C 2),.int .u64 (wd C 3),.slice so sl sc,.int .i64 p,.int .i64 q] rfl rfl (Ow w5 _ _ _ _ _ _ _ _ _ _ 121) (z1h _ _ _ _ _ _ _ _ _ _ _ _) (by unfold maxLen;omega) (by omega) (by have:=al.out.size;simp;omega) ?_;intro v6 w6 aA am aO aP))
     have aQ:Hid (RoR (w.heap.size+1) v6 ((m::r)++[y]) w6):=RoR.app ac.out az.out U.out aw.out ((Below.refl _ w5).alloc L0q _) aA am;have aB:Hid (Ek Zg w R b v L k' (r.length+1+1) 0 w6):=(al.out.alloc _).rowed am (fun g e=>by have:=(ac.out.lt g e).1;omega);have aR:Hid (Jz R w6=k'):=Dp aB.out.1;clear aA am aO aP ac az U al aw
     go_wp2_with fail
     go_roundw
     case rel=>exact⟨f,k',m,r++[y],aM.2,by omega,by simp;omega,by simp;omega,aN,aQ,by simpa using aB⟩
     case measure=>rw[HJ.out,aR.out];omega
end Go.Proofs.YtmelafeingcgnaaGreatDoor
