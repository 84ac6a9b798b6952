/- Lemmas for the last text. Conditions: those that each names. -/
import Derived.Test.YtgnkkgcgbeianaaGreatDoorVY9ToY12
set_option linter.unusedVariables false
set_option maxRecDepth 100000
set_option maxHeartbeats 16000000
namespace Go.Proofs.YtgnkkgcgbeianaaGreatDoor
open Go.Proofs.Tryz
section
open Go.RowKit
abbrev Rl:=ByteArray×Nd×Nat
def Yv(w:World)(P:Nat->Prop)(r:Rl)(c:List Value):Prop:=∃cs,c=zT r.1::(cs++[zI (r.2.2:Int)])/\Qh w P r.2.1 cs
def ruE(N:zA)(p:Nat)(r:Pr):(Nat×Nat) ⊕ (Rl×Nat):=match r with
 | .inl e=>.inl e
 | .inr (n,k')=>.inr ((N,n,p),k')
def ruS(L:List Tok)(ru k:Nat):(Nat×Nat) ⊕ (Rl×Nat):=
 if(gL L k).1≠1 then .inl (wrC (gL L k),(gL L k).2.2.2)
 else if ru=64 then .inl (2,(gL L k).2.2.2)
 else if(gL L (k+1)).1≠2 then .inl (wrC (gL L (k+1)),(gL L (k+1)).2.2.2)
 else ruE (gL L k).2.1 (gL L k).2.2.2 (chS L (Vy L 24) (k+2))
theorem z1a{L:List Tok}(o:Ql L){ru k k':Nat}{x:Rl}(r:k<L.length)(h:ruS L ru k=.inr (x,k')):k+2<=k'/\k'<L.length:=by
 unfold ruS at h;split at h
 ·cases h
 ·rename_i A
  split at h
  ·cases h
  ·split at h
   ·cases h
   ·rename_i D
    have t:=o.nxt k r (by omega);have y:=o.nxt (k+1) t (by omega);cases hs:chS L (Vy L 24) (k+2)with
    |inl e=>rw[hs]at h;cases h
    |inr q=>
     obtain⟨n,j⟩:=q;rw[hs]at h;have:=Ow o (Ng o 24) y hs;simp only[ruE,Sum.inr.injEq,Prod.mk.injEq]at h;omega
def Dc(r:(Nat×Nat) ⊕ (Rl×Nat))(B R b:Nat)(v:Value)(L:List Tok)(ru:Nat)(w:World)(e:Ending)(w':World):Prop:=
 match r with
 | .inr (x,k')=>∃cs:List Value,e=.returned (.agg cs.toArray)/\Hid (Yv w' (fun g=>B<=g) x cs)/\Hid (Rd w' R b v L k' (ru+1) 0)/\Hid (w.grownBy w' (some R))
 | .inl c=>∃f,e=.panicked [{v:=.iface 134 (zP f 0),recovered:=false}]/\Hid (w.heap.size<=f/\Flt w' f c)/\Hid (w.grownBy w' (some R))
def Ek(O:Obj)(w:World)(R b:Nat)(v:Value)(L:List Tok)(k ru ne:Nat)(W:World):Prop:=
 Rd W R b v L k ru ne/\w.grownBy W (some R)/\W.heap[w.heap.size]? =some O/\R<w.heap.size/\(∀g,w.heap.size<=g->v.ownBlock≠some g)
section
variable {O:Obj} {w W W':World} {R b:Nat} {v:Value} {L:List Tok} {k k' ru ru' ne ne':Nat}
theorem Ek.start(O:Obj)(h:Rd w R b v L k ru ne):Ek O w R b v L k ru ne (w.alloc O):=
 ⟨h.alloc _,G.alloc (G.refl w R),Qx w _ rfl,h.lt,fun g o e=>by have:=(h.2.lt _ e).2;omega⟩
theorem Ek.size(h:Ek O w R b v L k ru ne W):w.heap.size<W.heap.size:=Qq h.2.2.1
theorem Ek.lt(h:Ek O w R b v L k ru ne W):R<w.heap.size:=h.2.2.2.1
theorem Ek.grown(h:Ek O w R b v L k ru ne W)(r:Rd W' R b v L k' ru' ne')(o:W.grownBy W' (some R)):Ek O w R b v L k' ru' ne' W':=
 ⟨r,G.trans h.2.1 o,(o.block _ h.size (fun e=>by have:=Option.some.inj e;have:=h.lt;omega)).trans h.2.2.1,h.2.2.2.1,h.2.2.2.2⟩
theorem Ek.below(h:Ek O w R b v L k ru ne W)(o:zB W W'):Ek O w R b v L k ru ne W':=h.grown (h.1.below o) (G.below o)
theorem Ek.alloc(h:Ek O w R b v L k ru ne W)(o:Obj):Ek O w R b v L k ru ne (W.alloc o):=h.below (B0q.alloc L0q _)
theorem Ek.next(h:Ek O w R b v L k ru ne W):Ek O w R b v L (k+1) ru ne (W.setCell ⟨R,1,none⟩ (zI ((k:Int)+1))):=h.grown h.1.next1 (G.setR (G.refl W R))
theorem Ek.rules(h:Ek O w R b v L k ru ne W):Ek O w R b v L k (ru+1) ne (W.setCell ⟨R,2,none⟩ (zI ((ru:Int)+1))):=by
 have o:=h.1.rules (ru+1);rw[show(((ru+1:Nat):Int))=(ru:Int)+1 by omega]at o;exact h.grown o (G.setR (G.refl W R))
theorem Ek.up(h:Ek O w R b v L k ru ne W){c:Nat×Nat}{B f:Nat}{w':World}(t:W.heap.size<=f)(o:Flt w' f c)(r:W.grownBy w' (some R)):Dc (.inl c) B R b v L ru' w (.panicked [{v:=.iface 134 (zP f 0),recovered:=false}]) w':=
 ⟨f,rfl,hid ⟨by have:=h.size;omega,o⟩,hid (G.trans h.2.1 r)⟩
end
@[reducible] def Zr:Obj:=.cells #[zT {data:=#[]},zI 0,zT {data:=#[]},zU 0,zU 0,zU 0,zU 0,.slice none 0 0,zI 0,zI 0] 83
@[reducible] def Cy (w:World) (g:Nat) (N:zA) (kd:Int) (T:zA) (c0 c1 c2 c3:Int) (sv:Value) (p:Int) (q:Int):World:=(((((((((w.setCell ⟨g,0,none⟩ (zT N)).setCell ⟨g,1,none⟩ (zI kd)).setCell ⟨g,2,none⟩ (zT T)).setCell ⟨g,3,none⟩ (zU c0)).setCell ⟨g,4,none⟩ (zU c1)).setCell ⟨g,5,none⟩ (zU c2)).setCell ⟨g,6,none⟩ (zU c3)).setCell ⟨g,7,none⟩ sv).setCell ⟨g,8,none⟩ (zI p)).setCell ⟨g,9,none⟩ (zI q)
theorem z7W{w:World}{g:Nat}{o a1 a2 a3 a4 r t y A D:Value}(h:zH w g (.cells #[o,a1,a2,a3,a4,r,t,y,A,D] 83))(N:zA)(kd:Int)(T:zA)(c0 c1 c2 c3:Int)(sv:Value)(p q:Int):
  (Cy w g N kd T c0 c1 c2 c3 sv p q).heap[g]? =some (.cells #[zT N,zI kd,zT T,zU c0,zU c1,zU c2,zU c3,sv,zI p,zI q] 83):=by
 simp only[World.setCell,Array.getElem?_modify,if_true,Option.map_map];rw[h];simp
theorem Gp{w:World}{g:Nat}{o a1 a2 a3 a4 r t y A D:Value}(h:w.heap[g]? =some (.cells #[o,a1,a2,a3,a4,r,t,y,A,D] 83)):
  (w.cell? ⟨g,0,none⟩=some o/\w.cell? ⟨g,1,none⟩=some a1/\w.cell? ⟨g,2,none⟩=some a2/\w.cell? ⟨g,3,none⟩=some a3/\w.cell? ⟨g,4,none⟩=some a4/\w.cell? ⟨g,5,none⟩=some r/\w.cell? ⟨g,6,none⟩=some t/\w.cell? ⟨g,7,none⟩=some y/\w.cell? ⟨g,8,none⟩=some A/\w.cell? ⟨g,9,none⟩=some D)/\
  (w.frozen? ⟨g,0,none⟩=false/\w.frozen? ⟨g,1,none⟩=false/\w.frozen? ⟨g,2,none⟩=false/\w.frozen? ⟨g,3,none⟩=false/\w.frozen? ⟨g,4,none⟩=false/\w.frozen? ⟨g,5,none⟩=false/\w.frozen? ⟨g,6,none⟩=false/\w.frozen? ⟨g,7,none⟩=false/\w.frozen? ⟨g,8,none⟩=false/\w.frozen? ⟨g,9,none⟩=false):=by
 refine⟨⟨?_,?_,?_,?_,?_,?_,?_,?_,?_,?_⟩,⟨?_,?_,?_,?_,?_,?_,?_,?_,?_,?_⟩⟩<;>simp[World.cell?,World.frozen?,h]
theorem z7X{w:World}{g:Nat}{o a1 a2 a3 a4 t r:Value}(h:w.heap[g]? =some (.cells #[o,a1,a2,a3,a4,t,r] 139)):
  w.cell? ⟨g,0,none⟩=some o/\w.cell? ⟨g,1,none⟩=some a1/\w.cell? ⟨g,6,none⟩=some r:=by
 refine⟨?_,?_,?_⟩<;>simp[World.cell?,h]
theorem Ek.fin{w W:World}{B R b:Nat}{v sv:Value}{L:List Tok}{k ru kd C p q:Nat}{N T:zA}{n:Nd}{o:Obj}(h:Ek Zr w R b v L k ru 0 W)(I:Qh W (fun g=>w.heap.size+1<=g) n (n8 kd T C sv p))(Z:B<=w.heap.size):
  Dc (.inr ((N,n,q),k)) B R b v L ru w (.returned (.agg #[zT N,zI (kd:Int),zT T,zU (wd C 0:Nat),zU (wd C 1:Nat),zU (wd C 2:Nat),zU (wd C 3:Nat),sv,zI (p:Int),zI (q:Int)]))
   ((Cy (W.setCell ⟨R,2,none⟩ (zI ((ru:Int)+1))) w.heap.size N (kd:Int) T (wd C 0:Nat) (wd C 1:Nat) (wd C 2:Nat) (wd C 3:Nat) sv (p:Int) (q:Int)).alloc o):=by
 have A:=h.rules;have r:w.heap.size≠R:=by have:=h.lt;omega
 have t:=h.2.2.2.2 w.heap.size L0q;have y:=Nat.le_refl w.heap.size;have D:∀V:World,zB V (V.alloc o):=fun V=>(Below.refl _ V).alloc L0q _
 refine⟨zT N::(n8 kd T C sv p++[zI (q:Int)]),rfl,hid ⟨n8 kd T C sv p,rfl,?_⟩,hid ((((((((((((A.1.other r t).other r t).other r t).other r t).other r t).other r t).other r t).other r t).other r t).other r t)).below (D _)),hid (G.alloc (G.setN (G.setN (G.setN (G.setN (G.setN (G.setN (G.setN (G.setN (G.setN (G.setN A.2.1 y) y) y) y) y) y) y) y) y) y))⟩;refine Qh.below ?_ (D _);refine Qh.kept (fun g aa E hq=>⟨?_,show B<=g by have U:w.heap.size+1<=g:=E;omega⟩) n _ (Qh.grown I (G.setR (u:=zI ((ru:Int)+1)) (j:=2) (G.refl W R)) h.1.1);have Y:∀j:Nat,g≠(⟨w.heap.size,j,none⟩:Addr).block:=fun j e=>by have e2:g=w.heap.size:=e;have U:w.heap.size+1<=g:=E;omega
 have s:∀(V:World) (j:Nat) (u:Value),(V.setCell ⟨w.heap.size,j,none⟩ u).heap[g]? =V.heap[g]? :=fun V j u=>Below.heap_setCell _ _ _ _ (Y j)
 unfold Cy;rw[s,s,s,s,s,s,s,s,s,s]
theorem z1b(R b:Nat)(v:Value)(L:List Tok)(ru k B:Nat)(w:World)(hg:Ql L)(h:Rd w R b v L k ru 0)(hk:k<L.length)(aC:ru<=64)(hB:B<=w.heap.size):
  Calls prog 97 #[.pointer (some ⟨R,0,none⟩)] w fun e w'=>Dc (ruS L ru k) B R b v L ru w e w':=by
 have aD:=Tryz.fld0;have HT:=Jh R b v L k ru 0 hk hg;have HW:=Ck R b v L k ru 0 hk hg;have HF:=z0W R b v L k ru 0 hk hg;have E:Hid (Ek Zr w R b v L k ru 0 (w.alloc Zr)):=Ek.start Zr h;have aE:(k:Int)+2<9223372036854775807:=by have:=hg.len;omega
 have HG:Hid (Ql L):=hg;unfold ruS;by_cases h1:(gL L k).1=1
 ·rw[if_neg (by omega)]
  have am:=hg.nxt k hk (by omega);have ab:=Jh R b v L (k+1) ru 0 am hg;have aj:=Ck R b v L (k+1) ru 0 am hg;obtain⟨t,ht⟩:∃t,t=gL L k:=⟨_,rfl⟩;rw[<-ht]at HT HF h1 ⊢;clear ht HW;obtain⟨tk,N,r,q⟩:=t;have ax:tk=1:=h1;subst ax;clear h1 h;by_cases h64:ru=64
  ·rw[if_pos h64]
   subst h64;go_enter func97,ntmps97
   go_wp2_with fail
   refine(HT.out _ E.out.1).mono ?_;rintro e y ⟨rfl,U⟩;have A:=hid (E.out.below U);clear U E HT;dsimp only[tkv];have D:=hid (A.out.alloc (.cells #[.int .i64 1,.string N,.int .u64 (wd r 0),.int .u64 (wd r 1),.int .u64 (wd r 2),.int .u64 (wd r 3),.int .i64 q] 139));obtain⟨r0,V,r2,r3,q0,q1,q2,q3⟩:=A.out.1.cells;have ay:y.cell? ⟨R,2,none⟩=some (.int .i64 64):=r2;clear r0 V r2 r3 q0 q1 q2 q3;have af:=A.out.1.lt;clear A
   go_wp2_with fail
   refine(HF.out 2 _ D.out.1).mono ?_;rintro e w3 ⟨f,rfl,Y⟩;have HA:=hid (D.out.up (B:=B) (ru':=64) Y.out.1 Y.out.2.1 (G.below Y.out.2.2));clear Y D HF ay
   go_wp2_with fail
   exact⟨rfl,HA.out⟩
  rw[if_neg h64];have aF:((ru:Int) == 64)=false:=by simp;omega
  by_cases h2:(gL L (k+1)).1=2
  ·rw[if_neg (by omega)]
   have az:=hg.nxt (k+1) am (by omega);have HC:=hid (fun(W:World) (h:Rd W R b v L (k+2) ru 0) (hB:w.heap.size+1<=W.heap.size)=>z0Z R b v L ru hg 24 0 (by omega) (k+2) (w.heap.size+1) W h az trivial hB);obtain⟨t,ht⟩:∃t,t=gL L (k+1):=⟨_,rfl⟩;rw[<-ht]at ab h2;clear ht aj;obtain⟨tk,uN,uC,uq⟩:=t;have ao:tk=2:=h2;subst ao;clear h2;cases hs:chS L (Vy L 24) (k+2)with
   |inl c=>
    rw[hs]at HC;show Calls _ _ _ _ (fun e w'=>Dc (.inl c) B R b v L ru w e w');go_enter func97,ntmps97
    go_wp2_with fail
    refine(HT.out _ E.out.1).mono ?_;rintro e y ⟨rfl,U⟩;have A:=hid (E.out.below U);clear U E HT HF;dsimp only[tkv];have D:=hid (A.out.next.alloc (.cells #[.int .i64 1,.string N,.int .u64 (wd r 0),.int .u64 (wd r 1),.int .u64 (wd r 2),.int .u64 (wd r 3),.int .i64 q] 139));have ac:Hid (((y.setCell ⟨R,1,none⟩ (.int .i64 ((k:Int)+1))).alloc (.cells #[.int .i64 1,.string N,.int .u64 (wd r 0),.int .u64 (wd r 1),.int .u64 (wd r 2),.int .u64 (wd r 3),.int .i64 q] 139)).heap[y.heap.size]? =some (.cells #[.int .i64 1,.string N,.int .u64 (wd r 0),.int .u64 (wd r 1),.int .u64 (wd r 2),.int .u64 (wd r 3),.int .i64 q] 139)):=Qx _ _ (by simp);have ad:Hid (w.heap.size<y.heap.size):=A.out.size;obtain⟨r0,V,r2,r3,q0,q1,q2,q3⟩:=A.out.1.cells;have af:=A.out.1.lt;clear A
    go_wp2_with fail
    refine(ab.out _ D.out.1).mono ?_;rintro e w4 ⟨rfl,Z⟩;have I:=hid (D.out.below Z);have ag:=hid ((Z.block _ (by simp)).trans ac.out);have ah:Hid (y.heap.size<w4.heap.size):=Nat.lt_of_lt_of_le (by simp) Z.size;clear Z D ac ab r0 V r2 r3 q0 q1 q2 q3 af;dsimp only[tkv];obtain⟨r0,V,r2,r3,q0,q1,q2,q3⟩:=I.out.1.cells;have ap:w4.cell? ⟨R,1,none⟩=some (.int .i64 ((k:Int)+1)):=by rw[V];simp
    clear V;have aq:=I.out.1.lt;have aa:Hid (Ek Zr w R b v L (k+2) ru 0 (w4.setCell ⟨R,1,none⟩ (.int .i64 ((k:Int)+2)))):=by
     have:=I.out.next;rw[show(((k+1:Nat):Int))+1=(k:Int)+2 by omega]at this;exact this
    have ak:=hid ((Below.heap_setCell w4 ⟨R,1,none⟩ (.int .i64 ((k:Int)+2)) y.heap.size (show y.heap.size≠R by have:=ad.out;have:=I.out.lt;omega)).trans ag.out);have al:=ah;have aA:(k:Int)+1+1=(k:Int)+2:=by omega
    clear I ag ah
    go_wp2_with fail
    refine(HC.out _ aa.out.1 (by have:=aa.out.size;omega)).mono ?_;clear r0 ap r2 r3 q0 q1 q2 q3 aq;rintro e w6 ⟨f,rfl,ar,ae⟩;have HA:=hid (aa.out.up (B:=B) (ru':=ru) ar.out.1 ar.out.2 ae.out);clear aa HC ak ar ae
    go_wp2_with fail
    exact⟨rfl,HA.out⟩
   |inr x=>
    obtain⟨n,k'⟩:=x;rw[hs]at HC;show Calls _ _ _ _ (fun e w'=>Dc (.inr ((N,n,q),k')) B R b v L ru w e w');go_enter func97,ntmps97
    go_wp2_with fail
    refine(HT.out _ E.out.1).mono ?_;rintro e y ⟨rfl,U⟩;have A:=hid (E.out.below U);clear U E HT HF;dsimp only[tkv];have D:=hid (A.out.next.alloc (.cells #[.int .i64 1,.string N,.int .u64 (wd r 0),.int .u64 (wd r 1),.int .u64 (wd r 2),.int .u64 (wd r 3),.int .i64 q] 139));have ac:Hid (((y.setCell ⟨R,1,none⟩ (.int .i64 ((k:Int)+1))).alloc (.cells #[.int .i64 1,.string N,.int .u64 (wd r 0),.int .u64 (wd r 1),.int .u64 (wd r 2),.int .u64 (wd r 3),.int .i64 q] 139)).heap[y.heap.size]? =some (.cells #[.int .i64 1,.string N,.int .u64 (wd r 0),.int .u64 (wd r 1),.int .u64 (wd r 2),.int .u64 (wd r 3),.int .i64 q] 139)):=Qx _ _ (by simp);have ad:Hid (w.heap.size<y.heap.size):=A.out.size;obtain⟨r0,V,r2,r3,q0,q1,q2,q3⟩:=A.out.1.cells;have af:=A.out.1.lt;clear A
    go_wp2_with fail
    refine(ab.out _ D.out.1).mono ?_;rintro e w4 ⟨rfl,Z⟩;have I:=hid (D.out.below Z);have ag:=hid ((Z.block _ (by simp)).trans ac.out);have ah:Hid (y.heap.size<w4.heap.size):=Nat.lt_of_lt_of_le (by simp) Z.size;clear Z D ac ab r0 V r2 r3 q0 q1 q2 q3 af;dsimp only[tkv];obtain⟨r0,V,r2,r3,q0,q1,q2,q3⟩:=I.out.1.cells;have ap:w4.cell? ⟨R,1,none⟩=some (.int .i64 ((k:Int)+1)):=by rw[V];simp
    clear V;have aq:=I.out.1.lt;have aa:Hid (Ek Zr w R b v L (k+2) ru 0 (w4.setCell ⟨R,1,none⟩ (.int .i64 ((k:Int)+2)))):=by
     have:=I.out.next;rw[show(((k+1:Nat):Int))+1=(k:Int)+2 by omega]at this;exact this
    have ak:=hid ((Below.heap_setCell w4 ⟨R,1,none⟩ (.int .i64 ((k:Int)+2)) y.heap.size (show y.heap.size≠R by have:=ad.out;have:=I.out.lt;omega)).trans ag.out);have al:=ah;have aA:(k:Int)+1+1=(k:Int)+2:=by omega
    clear I ag ah
    go_wp2_with fail
    refine(HC.out _ aa.out.1 (by have:=aa.out.size;omega)).mono ?_;clear r0 ap r2 r3 q0 q1 q2 q3 aq;rintro e w6 ⟨cs,rfl,HN,HR,ae⟩;have ai:=hid (aa.out.grown HR.out ae.out);have au:=hid ((ae.out.block _ (by have:=al.out;simp;omega) (fun e=>by have e2:y.heap.size=R:=Option.some.inj e;have:=aa.out.lt;have:=ad.out;omega)).trans ak.out);have av:Hid (y.heap.size<w6.heap.size):=Nat.lt_of_lt_of_le (by have:=al.out;simp;omega) ae.out.size;clear aa HC ak HR ae al;obtain⟨kd,T,C,so,sl,sc,aw⟩:=HN.out.shape;obtain⟨p,hp⟩:∃p,p=n.at':=⟨_,rfl⟩;rw[<-hp]at aw;subst aw;clear hp;dsimp only[n8];obtain⟨z0,z1,z6⟩:=z7X au.out;obtain⟨⟨k0,k1,k2,k3,k4,k5,k6,k7,k8,k9⟩,⟨f0,f1,f2,f3,f4,f5,f6,f7,f8,f9⟩⟩:=Gp ai.out.2.2.1;obtain⟨r0,V,r2,r3,q0,q1,q2,q3⟩:=ai.out.1.cells;have aG:=ai.out.1.lt;have aH:=ai.out.lt;have aI:=ad.out;have aJ:=av.out;have aK:R≠y.heap.size:=by omega
    have aL:R≠w.heap.size:=by omega
    have aM:w.heap.size≠y.heap.size:=by omega
    have aN:w.heap.size<w6.heap.size:=by omega
    have aO:(ru:Int)+1<9223372036854775807:=by omega
    clear au ad av
    go_wp2_with fail
    (try simp only[Exit.inBlock,Exit.then])
    have hS:=z7W (w:=w6.setCell ⟨R,2,none⟩ (.int .i64 ((ru:Int)+1))) (g:=w.heap.size) ai.out.rules.2.2.1 N (kd:Int) T (wd C 0:Nat) (wd C 1:Nat) (wd C 2:Nat) (wd C 3:Nat) (.slice so sl sc) (p:Int) (q:Int);have aB:=fun o:Obj=>(Below.heap_alloc (Cy (w6.setCell ⟨R,2,none⟩ (.int .i64 ((ru:Int)+1))) w.heap.size N (kd:Int) T (wd C 0:Nat) (wd C 1:Nat) (wd C 2:Nat) (wd C 3:Nat) (.slice so sl sc) (p:Int) (q:Int)) o w.heap.size (by simp;omega)).trans hS
    obtain⟨⟨c0,c1,c2,c3,c4,c5,c6,c7,c8,c9⟩,_⟩:=Gp (aB (.cells #[.int .i64 kd,.string T,.int .u64 (wd C 0),.int .u64 (wd C 1),.int .u64 (wd C 2),.int .u64 (wd C 3),.slice so sl sc,.int .i64 p] 81));refine bodyPost_ret (v:=.agg #[.string N,.int .i64 kd,.string T,.int .u64 (wd C 0),.int .u64 (wd C 1),.int .u64 (wd C 2),.int .u64 (wd C 3),.slice so sl sc,.int .i64 p,.int .i64 q]) (by simp[results,Tryz.results97,go_sem,c0,c1,c2,c3,c4,c5,c6,c7,c8,c9]) rfl ?_;exact ai.out.fin HN.out hB
  ·rw[if_pos h2]
   obtain⟨t,ht⟩:∃t,t=gL L (k+1):=⟨_,rfl⟩;rw[<-ht]at ab aj h2 ⊢;clear ht;obtain⟨tk,uN,uC,uq⟩:=t;have t2:((tk:Int) != 2)=true:=by have ao:tk≠2:=h2;rw[bne_iff_ne];omega
   clear h2;go_enter func97,ntmps97
   go_wp2_with fail
   refine(HT.out _ E.out.1).mono ?_;rintro e y ⟨rfl,U⟩;have A:=hid (E.out.below U);clear U E HT HF;dsimp only[tkv];have D:=hid (A.out.next.alloc (.cells #[.int .i64 1,.string N,.int .u64 (wd r 0),.int .u64 (wd r 1),.int .u64 (wd r 2),.int .u64 (wd r 3),.int .i64 q] 139));have ac:Hid (((y.setCell ⟨R,1,none⟩ (.int .i64 ((k:Int)+1))).alloc (.cells #[.int .i64 1,.string N,.int .u64 (wd r 0),.int .u64 (wd r 1),.int .u64 (wd r 2),.int .u64 (wd r 3),.int .i64 q] 139)).heap[y.heap.size]? =some (.cells #[.int .i64 1,.string N,.int .u64 (wd r 0),.int .u64 (wd r 1),.int .u64 (wd r 2),.int .u64 (wd r 3),.int .i64 q] 139)):=Qx _ _ (by simp);have ad:Hid (w.heap.size<y.heap.size):=A.out.size;obtain⟨r0,V,r2,r3,q0,q1,q2,q3⟩:=A.out.1.cells;have af:=A.out.1.lt;clear A
   go_wp2_with fail
   refine(ab.out _ D.out.1).mono ?_;rintro e w4 ⟨rfl,Z⟩;have I:=hid (D.out.below Z);have ag:=hid ((Z.block _ (by simp)).trans ac.out);have ah:Hid (y.heap.size<w4.heap.size):=Nat.lt_of_lt_of_le (by simp) Z.size;clear Z D ac ab r0 V r2 r3 q0 q1 q2 q3 af;dsimp only[tkv]
   go_wp2_with fail
   refine(aj.out _ I.out.1).mono ?_;rintro e w5 ⟨f,rfl,Y⟩;have HA:=hid (I.out.up (B:=B) (ru':=ru) Y.out.1 Y.out.2.1 (G.below Y.out.2.2));clear Y I aj
   go_wp2_with fail
   exact⟨rfl,HA.out⟩
 ·rw[if_pos h1]
  obtain⟨t,ht⟩:∃t,t=gL L k:=⟨_,rfl⟩;rw[<-ht]at HT HW h1 ⊢;clear ht HF;obtain⟨tk,N,r,q⟩:=t;have t1:((tk:Int) != 1)=true:=by have ao:tk≠1:=h1;rw[bne_iff_ne];omega
  clear h1 h;go_enter func97,ntmps97
  go_wp2_with fail
  refine(HT.out _ E.out.1).mono ?_;rintro e y ⟨rfl,U⟩;have A:=hid (E.out.below U);clear U E HT;dsimp only[tkv];have D:=hid (A.out.alloc (.cells #[.int .i64 tk,.string N,.int .u64 (wd r 0),.int .u64 (wd r 1),.int .u64 (wd r 2),.int .u64 (wd r 3),.int .i64 q] 139));clear A
  go_wp2_with fail
  refine(HW.out _ D.out.1).mono ?_;rintro e w3 ⟨f,rfl,Y⟩;have HA:=hid (D.out.up (B:=B) (ru':=ru) Y.out.1 Y.out.2.1 (G.below Y.out.2.2));clear Y D HW
  go_wp2_with fail
  exact⟨rfl,HA.out⟩
end
open Go.RowKit
def Zb(w:World)(P:Nat->Prop):List Rl->List Value->Prop
 |[],_=>True
 |x::r,vs=>∃c rest,vs=c++rest/\Yv w P x c/\Zb w P r rest
theorem Yv.len{w:World}{P:Nat->Prop}{x:Rl}{c:List Value}(h:Yv w P x c):c.length=10:=by
 obtain⟨r,rfl,o⟩:=h;have:=o.len;simp;omega
theorem Yv.kept{w w':World}{P Q:Nat->Prop}(o:∀g r,P g->zH w g (.cells r 81)->w'.heap[g]? =w.heap[g]? /\Q g){x:Rl}{c:List Value}(h:Yv w P x c):Yv w' Q x c:=by
 obtain⟨t,y,A⟩:=h;exact⟨t,y,Qh.kept o _ _ A⟩
theorem Zb.kept{w w':World}{P Q:Nat->Prop}(o:∀g t,P g->zH w g (.cells t 81)->w'.heap[g]? =w.heap[g]? /\Q g):∀(l:List Rl) (vs:List Value),Zb w P l vs->Zb w' Q l vs
 |[],vs,h=>by rw[Zb];trivial
 |n::r,vs,h=>by
  rw[Zb]at h ⊢;obtain⟨c,rest,y,A,D⟩:=h;exact⟨c,rest,y,Yv.kept o A,Zb.kept o r rest D⟩
theorem Zb.append{w:World}{P:Nat->Prop}:∀(l:List Rl) (vs:List Value) (n:Rl) (c:List Value),Zb w P l vs->vs.length=l.length*10->Yv w P n c->Zb w P (l++[n]) (vs++c)
 |[],vs,n,c,_,hl,hn=>by
  have:vs=[]:=List.eq_nil_of_length_eq_zero (by simpa using hl);subst this;rw[List.nil_append,Zb];exact⟨c,[],by simp,hn,by rw[Zb];trivial⟩
 |m::r,vs,n,c,h,hl,hn=>by
  rw[Zb]at h;obtain⟨d,rest,rfl,o,t⟩:=h;have y:=o.len;rw[List.cons_append,Zb];refine⟨d,rest++c,by rw[List.append_assoc],o,Zb.append r rest n c t ?_ hn⟩;simp at hl;omega
theorem Yv.shape{w:World}{P:Nat->Prop}{x:Rl}{c:List Value}(h:Yv w P x c):∃N kd T C o r t p q,c=[zT N,zI ((kd:Nat):Int),zT T,zU (wd C 0:Nat),zU (wd C 1:Nat),zU (wd C 2:Nat),zU (wd C 3:Nat),.slice o r t,zI ((p:Nat):Int),zI ((q:Nat):Int)]:=by
 obtain⟨A,rfl,y⟩:=h;obtain⟨kd,T,C,o,r,t,rfl⟩:=y.shape;exact⟨_,kd,T,C,o,r,t,_,_,rfl⟩
def RoR(B:Nat)(pv:Value)(acc:List Rl)(W:World):Prop:=
 ∃xs,W.ownsRow B 83 10 pv acc.length xs/\Zb W (fun g=>B<=g) acc xs
theorem RoR.grown{B R:Nat}{pv:Value}{acc:List Rl}{W W':World}(h:RoR B pv acc W)(o:W.grownBy W' (some R))(D:R<B):RoR B pv acc W':=by
 obtain⟨xs,r,y⟩:=h;refine⟨xs,r.kept o (.inr (fun e=>by have:=(r.lt _ e).1;omega)),Zb.kept (fun g E t A=>⟨o.block g (Qq A) (fun e=> ?_),t⟩) _ _ y⟩;have G:g=R:=Option.some.inj e;have I:B<=g:=t;omega
theorem RoR.below{B:Nat}{pv:Value}{acc:List Rl}{W W':World}(h:RoR B pv acc W)(o:zB W W'):RoR B pv acc W':=by
 obtain⟨xs,r,t⟩:=h;exact⟨xs,Xh r o,Zb.kept (fun g D y A=>⟨o.block g (Qq A),y⟩) _ _ t⟩
theorem z7Y{w:World}{base e size n g:Nat}{v:Value}{xs:List Value}(h:w.ownsRow base e size v n xs)(o:v.ownBlock=some g):∃r,zH w g (.cells r e):=by
 obtain⟨_,⟨t,D⟩|⟨y,E,r,rfl,_,A,_⟩⟩:=h
 ·rw[t]at o;cases o
 ·have:y=g:=Option.some.inj o
  subst this;exact⟨r,A⟩
theorem RoR.app{B D:Nat}{pv y:Value}{acc:List Rl}{xs c:List Value}{n:Rl}{h A W4:World}(E:h.ownsRow B 83 10 pv acc.length xs)(ha:Zb h (fun g=>B<=g) acc xs)(U:Yv h (fun g=>D<=g) n c)(hD:B<=D)(G:Below h.heap.size h A)
  (V:W4.ownsRow B 83 10 y (acc.length+1) (xs++c))(Y:A.grownBy W4 pv.ownBlock):RoR B y (acc++[n]) W4:=by
 have I:∀(g:Nat) (r:Array Value),h.heap[g]? =some (Obj.cells r 81)->W4.heap[g]? =h.heap[g]? :=fun g r o=>by
  have hs:=G.size;have hl:=Qq o;refine(Y.block g (by omega) (fun e=> ?_)).trans (G.block g hl);obtain⟨aa,Z⟩:=z7Y E e.symm;rw[Z]at o;simp at o
 refine⟨xs++c,by simpa using V,Zb.append _ _ _ _ (Zb.kept (fun g r t o=>⟨I g r o,t⟩) _ _ ha) E.1 (Yv.kept (fun g r t o=>⟨I g r o,show B<=g by have ab:D<=g:=t;omega⟩) U)⟩
theorem RoR.one{B:Nat}{x:Rl}{o a1 a2 a3 a4 r t y A D:Value}{W:World}(h:Yv W (fun g=>B<=g) x [o,a1,a2,a3,a4,r,t,y,A,D])(E:B<=W.heap.size):RoR B (zS W.heap.size 1 1) [x] (W.alloc (.cells #[o,a1,a2,a3,a4,r,t,y,A,D] 83)):=by
 refine⟨[o,a1,a2,a3,a4,r,t,y,A,D],⟨rfl,.inr ⟨W.heap.size,1,_,rfl,E,Qx _ _ rfl,Nat.le_refl _,by unfold maxLen;omega,rfl,rfl⟩⟩,?_⟩;rw[Zb];exact⟨[o,a1,a2,a3,a4,r,t,y,A,D],[],by simp,Yv.kept (fun g U G I=>⟨Below.heap_alloc W _ g (Qq I),G⟩) h,by rw[Zb];trivial⟩
theorem Ek.rowed{O:Obj}{w W W':World}{R b:Nat}{v:Value}{L:List Tok}{k ru ne:Nat}{row:Option Nat}(h:Ek O w R b v L k ru ne W)(o:W.grownBy W' row)(r:∀g,row=some g->w.heap.size<g):Ek O w R b v L k ru ne W':=by
 have y:=h.lt;have A:=h.size;have t:some R≠row:=fun e=>by have:=r R e.symm;omega
 have D:some w.heap.size≠row:=fun e=>by have:=r _ e.symm;omega
 have E:v.ownBlock=none∨v.ownBlock≠row:=by
  cases hv:v.ownBlock with
  |none=>exact .inl rfl
  |some g=>exact .inr (fun e=>h.2.2.2.2 g (by have:=r g e.symm;omega) hv)
 exact⟨⟨(o.block R (by omega) t).trans h.1.1,h.1.2.kept o E⟩,⟨o.os.trans h.2.1.os,o.tape.trans h.2.1.tape,o.output.trans h.2.1.output,Nat.le_trans h.2.1.size o.size,fun j G t=>(o.block j (by omega) (fun e=>by have:=r j e.symm;omega)).trans (h.2.1.block j G t)⟩,(o.block _ A D).trans h.2.2.1,y,h.2.2.2.2⟩
theorem Tryz.infoRl:(Tryz.prog.info? 83).map (fun i=>(i.zero,i.size,i.bytes))=some (some (.agg #[zT {data:=#[]},zI 0,zT {data:=#[]},zU 0,zU 0,zU 0,zU 0,.slice none 0 0,zI 0,zI 0]),10,112):=by kernel_rfl
theorem Og(w:World)(a b c d e f g h i k:Value)(t:TypeId):∀j x,[a,b,c,d,e,f,g,h,i,k][j]? =some x->(w.alloc (.cells #[a,b,c,d,e,f,g,h,i,k] t)).cell? ((⟨w.heap.size,0,none⟩:Addr).add j)=some x:=by
 intro j x o
 match j,o with
 |0,o=>simp at o;subst o;simp[Addr.add]
 |1,o=>simp at o;subst o;simp[Addr.add]
 |2,o=>simp at o;subst o;simp[Addr.add]
 |3,o=>simp at o;subst o;simp[Addr.add]
 |4,o=>simp at o;subst o;simp[Addr.add]
 |5,o=>simp at o;subst o;simp[Addr.add]
 |6,o=>simp at o;subst o;simp[Addr.add]
 |7,o=>simp at o;subst o;simp[Addr.add]
 |8,o=>simp at o;subst o;simp[Addr.add]
 |9,o=>simp at o;subst o;simp[Addr.add]
theorem z1c(N:zA)(a:Int)(T:zA)(c0 c1 c2 c3:Int)(o:Option Addr)(r t:Nat)(p q:Int):∀u∈[Value.string N,Value.int .i64 a,zT T,zU c0,zU c1,zU c2,zU c3,.slice o r t,zI p,zI q],u.oneCell'=true:=by
 intro u h;simp at h;rcases h with rfl|rfl|rfl|rfl|rfl|rfl|rfl|rfl|rfl|rfl<;>rfl
def Jd(L:List Tok):Nat->Nat->List Rl->(Nat×Nat) ⊕ List Rl
 |0,_,_=>.inl (0,0)
 |f+1,k,acc=>if(gL L k).1=6 then .inr acc else(match ruS L acc.length k with
   | .inl e=>.inl e
   | .inr (x,k')=>Jd L f k' (acc++[x]))
def z7Z(L:List Tok)(r:(Nat×Nat) ⊕ (Rl×Nat)):(Nat×Nat) ⊕ List Rl:=match r with
 | .inl e=>.inl e
 | .inr (x,k')=>Jd L L.length k' [x]
def Dl(L:List Tok):(Nat×Nat) ⊕ List Rl:=z7Z L (ruS L 0 0)
def Gc(r:(Nat×Nat) ⊕ List Rl)(B R:Nat)(w:World)(e:Ending)(w':World):Prop:=
 match r with
 | .inr rs=>∃g cap,e=.returned (.agg #[zS g rs.length cap])/\Hid (RoR B (zS g rs.length cap) rs w')/\Hid (w.grownBy w' (some R))
 | .inl c=>∃f,e=.panicked [{v:=.iface 134 (zP f 0),recovered:=false}]/\Hid (w.heap.size<=f/\Flt w' f c)/\Hid (w.grownBy w' (some R))
@[reducible] def Zg:Obj:=.cells #[.slice none 0 0] 43
theorem Ek.upG{O:Obj}{w W:World}{R b:Nat}{v:Value}{L:List Tok}{k ru ne:Nat}(h:Ek O w R b v L k ru ne W){c:Nat×Nat}{B B' ru':Nat}{e:Ending}{w':World}(r:Dc (.inl c) B' R b v L ru' W e w'):Gc (.inl c) B R w e w':=by
 obtain⟨f,t,o,y⟩:=r;exact⟨f,t,hid ⟨by have:=o.out.1;have:=h.size;omega,o.out.2⟩,hid (G.trans h.2.1 y.out)⟩
theorem Ek.finG{w W:World}{B R b:Nat}{v:Value}{L:List Tok}{k ru ne g n o:Nat}{rs:List Rl}(h:Ek Zg w R b v L k ru ne W)(E:n=rs.length)(I:RoR (w.heap.size+1) (zS g n o) rs W)(hB:B<=w.heap.size):
  Gc (.inr rs) B R w (.returned (.agg #[zS g n o])) (W.setCell ⟨w.heap.size,0,none⟩ (zS g n o)):=by
 subst E;obtain⟨xs,t,U⟩:=I;have y:W.grownBy (W.setCell ⟨w.heap.size,0,none⟩ (zS g rs.length o)) (some w.heap.size):=G.setR (G.refl W w.heap.size);refine⟨g,o,rfl,hid ⟨xs,?_,Zb.kept (fun g A D r=>⟨y.block g (Qq r) (fun e=> ?_),show B<=g by have V:w.heap.size+1<=g:=D;omega⟩) _ _ U⟩,hid (G.setN h.2.1 L0q)⟩
 ·have Y:=t.kept y (.inr (fun e=>by have:=(t.lt _ e).1;omega))
  obtain⟨a,⟨r,_⟩|⟨Z,aa,A,r,hb,rest⟩⟩:=Y
  ·cases r
  ·exact⟨a,.inr ⟨Z,aa,A,r,by omega,rest⟩⟩
 ·have e2:g=w.heap.size:=Option.some.inj e
  have V:w.heap.size+1<=g:=D;omega
theorem z8a{L:List Tok}{ru k:Nat}{x:Rl×Nat}(h:ruS L ru k=.inr x):ru≠64:=by
 intro e;unfold ruS at h;rw[if_pos e]at h;split at h<;>cases h
theorem z8b(R b B:Nat)(v:Value)(L:List Tok)(w:World)(V:Ql L)(h:Rd w R b v L 0 0 0)(am:0<L.length)(hB:B<=w.heap.size):
  Calls prog 60 #[.pointer (some ⟨R,0,none⟩)] w fun e w'=>Gc (Dl L) B R w e w':=by
 obtain⟨iT,aB,aC,aD,aE⟩:=info_parts Tryz.infoRl;have aR:=Tryz.fld0;have ac:Hid (Ek Zg w R b v L 0 0 0 (w.alloc Zg)):=Ek.start Zg h;have HG:Hid (Ql L):=V;have aS:=V.len;have Y:=hid (z1b R b v L 0 0 (w.heap.size+1) (w.alloc Zg) V (h.alloc _) am (by omega) (by simp));unfold Dl;cases hs:ruS L 0 0 with
 |inl c=>
  rw[hs]at Y;clear V h hs;show Calls _ _ _ _ (fun e w'=>Gc (.inl c) B R w e w');go_enter func60,ntmps60
  go_wp2_with fail
  refine Y.out.mono ?_;rintro e w1 hA;have af:Hid (Gc (.inl c) B R w e w1):=ac.out.upG hA;obtain⟨f,rfl,_,_⟩:=hA;clear Y ac
  go_wp2_with fail
  exact⟨rfl,af.out⟩
 |inr x=>
  obtain⟨x,k1⟩:=x;have aF:=z1a V am hs;rw[hs]at Y;obtain⟨G,hR⟩:∃G,G=Jd L L.length k1 [x]:=⟨_,rfl⟩;have ao:Hid (Jd L L.length k1 [x]=G):=hR.symm;show Calls _ _ _ _ (fun e w'=>Gc (Jd L L.length k1 [x]) B R w e w');rw[<-hR];clear hR h V hs;go_enter func60,ntmps60
  go_wp2_with fail
  refine Y.out.mono ?_;rintro e w1 ⟨cs,rfl,I,HR,Z⟩;have ag:=hid (ac.out.grown HR.out Z.out);clear Y HR Z ac;obtain⟨N,kd,T,C,so,sl,sc,p,q,ah⟩:=I.out.shape;subst ah;have ap:=hid (RoR.one I.out ag.out.size);have aq:=hid (ag.out.alloc (.cells #[.string N,.int .i64 kd,.string T,.int .u64 (wd C 0),.int .u64 (wd C 1),.int .u64 (wd C 2),.int .u64 (wd C 3),.slice so sl sc,.int .i64 p,.int .i64 q] 83));clear I ag
  go_wp2_with fail
  go_loopw [3] (fun a wr=>∃(f j:Nat) (m:Rl) (r:List Rl),j<L.length/\L.length<=f+j/\r.length+1<=j/\r.length+1<=64/\Hid (Jd L f j (m::r)=G)/\Hid (RoR (w.heap.size+1) a (m::r) wr)/\Hid (Ek Zg w R b v L j (r.length+1) 0 wr)) (fun _ wr=>L.length-Up R wr)
  case atStart=>exact⟨L.length,k1,x,[],aF.2,by omega,by simp;omega,by simp,ao,ap,aq⟩
  case round=>
   obtain⟨f,j,m,r,hj,aT,aG,ar,aa,U,A⟩:=hrel;clear ao aq ap;have E:=Jh R b v L j (r.length+1) 0 hj HG.out;cases f with
   |zero=>omega
   |succ f=>
   by_cases hz:(gL L j).1=6
   ·have HF:Hid (G=.inr (m::r)):=by show _=_;rw[<-aa.out,Jd,if_pos hz]
    obtain⟨t,ht⟩:∃t,t=gL L j:=⟨_,rfl⟩;rw[<-ht]at E hz;clear ht aa;obtain⟨tk,tN,tC,tq⟩:=t;have ai:tk=6:=hz;subst ai;clear hz;obtain⟨aU,aj,_⟩:=U.out;rw[List.length_cons]at aj;obtain⟨g,aH,aI⟩:=Jv aj (by omega);clear aj;subst aI;obtain⟨M,hM⟩:∃M,M=r.length+1:=⟨_,rfl⟩;have aJ:Hid (M=r.length+1):=hM;rw[<-hM]at aG ar E A U ⊢;clear hM
    go_wp2_with fail
    refine(E.out _ A.out.1).mono ?_;rintro e w2 ⟨rfl,D⟩;have o:=hid (A.out.below D);have ad:=hid (U.out.below D);clear D A E U;dsimp only[tkv];have aK:w2.cell? ⟨w.heap.size,0,none⟩=some (.slice none 0 0):=by have:=o.out.2.2.1;simp[World.cell?,this]
    have aV:w2.frozen? ⟨w.heap.size,0,none⟩=false:=by have:=o.out.2.2.1;simp[World.frozen?,this]
    have aW:=o.out.size
    go_wp2_with fail
    (try simp only[Exit.inBlock,Exit.then])
    refine bodyPost_ret (v:=.agg #[.slice (some ⟨g,0,none⟩) M aH]) (by simp[results,Tryz.results60,go_sem,aK]) rfl ?_;rw[HF.out];exact o.out.finG aJ.out ad.out hB
   ·have HC:=hid (fun(W:World) (h:Rd W R b v L j (r.length+1) 0)=>z1b R b v L (r.length+1) j W.heap.size W HG.out h hj ar L0q)
    obtain⟨t,ht⟩:∃t,t=gL L j:=⟨_,rfl⟩;have ae:=hz;rw[<-ht]at E hz;clear ht;obtain⟨tk,tN,tC,tq⟩:=t;have ai:tk≠6:=hz;have t6:((tk:Int) != 6)=true:=by rw[bne_iff_ne];omega
    clear hz ai;cases hs:ruS L (r.length+1) j with
    |inl c=>
     have HF:Hid (G=.inl c):=by show _=_;rw[<-aa.out,Jd,if_neg ae,List.length_cons,hs]
     rw[hs]at HC;clear hs aa ae
     go_wp2_with fail
     refine(E.out _ A.out.1).mono ?_;rintro e w2 ⟨rfl,D⟩;have o:=hid (A.out.below D);clear D A E U;dsimp only[tkv]
     go_wp2_with fail
     refine(HC.out _ o.out.1).mono ?_;rintro e w4 hA;have af:Hid (Gc G B R w e w4):=by show Gc _ _ _ _ _ _;rw[HF.out];exact o.out.upG hA
     obtain⟨f',rfl,_,_⟩:=hA;clear o HC HF
     go_wp2_with fail
     exact⟨rfl,af.out⟩
    |inr y=>
     obtain⟨y,k'⟩:=y;have aL:=z1a HG.out hj hs;have aX:=z8a hs;have aM:Hid (Jd L f k' ((m::r)++[y])=G):=by show _=_;rw[<-aa.out,Jd,if_neg ae,List.length_cons,hs]
     rw[hs]at HC;clear hs aa ae;have HJ:Hid (Up R wr=j):=Dp A.out.1
     go_wp2_with fail
     refine(E.out _ A.out.1).mono ?_;rintro e w2 ⟨rfl,D⟩;have o:=hid (A.out.below D);have ad:=hid (U.out.below D);clear D A E U;dsimp only[tkv]
     go_wp2_with fail
     refine(HC.out _ o.out.1).mono ?_;rintro e w5 ⟨cs,rfl,I,HR,Z⟩;have ak:=hid (o.out.grown HR.out Z.out);have au:=hid (ad.out.grown Z.out (by have:=o.out.lt;omega));have av:Hid (w.heap.size+1<=w2.heap.size):=o.out.size;clear o ad HR Z HC;obtain⟨N,kd,T,C,so,sl,sc,p,q,ah⟩:=I.out.shape;subst ah;obtain⟨xs,aw,ax⟩:=au.out;have ab:=hid aw;have ay:=hid ax;clear aw ax au;rw[List.length_cons]at ab
     go_wp2_with(first|(at_builtin;refine wpList_append_own_at _ rfl (.tmp 11) (.tmp 14) 41 rfl (w.heap.size+1) 83 iT (.agg #[.string ⟨#[]⟩,.int .i64 0,.string ⟨#[]⟩,.int .u64 0,.int .u64 0,.int .u64 0,.int .u64 0,.slice none 0 0,.int .i64 0,.int .i64 0]) 10 112 Tryz.underlying41 aB aC aD aE rfl (by decide) _ _ _ rfl (ab.out.alloc _) ⟨w5.heap.size,0,none⟩ 1 1 [.string N,.int .i64 kd,.string T,.int .u64 (wd C 0),.int .u64 (wd C 1),.int .u64 (wd C 2),.int .u64 (wd C 3),.slice so sl sc,.int .i64 p,.int .i64 q] rfl rfl (Og w5 _ _ _ _ _ _ _ _ _ _ 83) (z1c _ _ _ _ _ _ _ _ _ _ _ _) (by unfold maxLen;omega) (by omega) (by have:=ak.out.size;simp;omega) ?_;intro v6 w6 az al aN aO))
     have aP:Hid (RoR (w.heap.size+1) v6 ((m::r)++[y]) w6):=RoR.app ab.out ay.out I.out av.out ((Below.refl _ w5).alloc L0q _) az al;have aA:Hid (Ek Zg w R b v L k' (r.length+1+1) 0 w6):=(ak.out.alloc _).rowed al (fun g e=>by have:=(ab.out.lt g e).1;omega);have aQ:Hid (Up R w6=k'):=Dp aA.out.1;clear az al aN aO ab ay I ak av
     go_wp2_with fail
     go_roundw
     case rel=>exact⟨f,k',m,r++[y],aL.2,by omega,by simp;omega,by simp;omega,aM,aP,by simpa using aA⟩
     case measure=>rw[HJ.out,aQ.out];omega
end Go.Proofs.YtgnkkgcgbeianaaGreatDoor
