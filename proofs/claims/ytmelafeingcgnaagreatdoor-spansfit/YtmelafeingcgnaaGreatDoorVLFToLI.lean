/- Lemmas for the last text. Conditions: those that each names. -/
import Derived.Test.YtmelafeingcgnaaGreatDoorVLBToLE
import Derived.ScopeJumps
import Derived.WalkMore
import Derived.WalkSmall
import Derived.Deep.AppendLies
import Derived.Deep.RegionLaw
set_option linter.unusedVariables false
set_option maxRecDepth 100000
set_option maxHeartbeats 64000000
namespace Go.Proofs.YtmelafeingcgnaaGreatDoor
open Go.Proofs.Tryz
open Go.RowKit Go.Shelf Go.Maps
def ntc(x:Option (Option Nat)):Bool×Int:=match x with|none=>(false,0)|some e=>(true,enE e)
def ntS(ol:Nat)(g:Option Nat):Value:=match g with|none=>.slice none 0 0|some g=>zS g ol ol
structure NtM (ol n:Nat) (NB B:Nat) (X:Nat->Prop) (N:Nt) (G:Nat->Option Nat) (W:World):Prop where
 nb:∃cur,W.heap[NB]? =some (.cells cur 240)/\∀i,i<=n->cur[i]? =some (ntS ol (G i))
 no:∀i,i<=n->G i=none->∀k,N k i=none
 so:∀i,i<=n->∀g,G i=some g->B<=g/\¬X g/\g≠NB/\∃cr,W.heap[g]? =some (.cells cr 242)/\∀k:Nat,k<ol->cr[k*2]? =some (.bool (ntc (N k i)).1)/\cr[k*2+1]? =some (.int .i32 (ntc (N k i)).2)
 inj:∀i j g,i<=n->j<=n->G i=some g->G j=some g->i=j
theorem NtM.keep{ol n NB B:Nat}{X y:Nat->Prop}{N:Nt}{G:Nat->Option Nat}{W W':World}(h:NtM ol n NB B X N G W)(A:∀g,(g=NB∨∃i,i<=n/\G i=some g)->W'.heap[g]? =W.heap[g]?)(D:∀g,(∃i,i<=n/\G i=some g)->¬y g):NtM ol n NB B y N G W':=by
 obtain⟨E,U,V⟩:=h.nb;refine⟨⟨E,(A _ (.inl rfl)).trans U,V⟩,h.no,fun i o g r=> ?_,h.inj⟩;obtain⟨a,b,c,Y,d,e⟩:=h.so i o g r;exact⟨a,D g ⟨i,o,r⟩,c,Y,(A _ (.inr ⟨i,o,r⟩)).trans d,e⟩
theorem NtM.below{ol n NB B:Nat}{X:Nat->Prop}{N:Nt}{G:Nat->Option Nat}{W W':World}(h:NtM ol n NB B X N G W)(y:zB W W'):NtM ol n NB B X N G W':=by
 refine h.keep (fun g o=> ?_) (fun g o=> ?_)
 ·rcases o with rfl|⟨i,r,o⟩
  ·obtain⟨D,A,_⟩:=h.nb
   exact y.block _ (Qq A)
  ·obtain⟨_,_,_,E,d,_⟩:=h.so i r g o
   exact y.block _ (Qq d)
 ·obtain⟨i,r,o⟩:=o
  exact(h.so i r g o).2.1
theorem y5W{n:Nat}(o:n<=4096){x:Option (Option Nat)}(h:∀e,x=some (some e)->e<=n):(ntc x).2<2147483648/\ -2147483648<=(ntc x).2:=by
 cases x with
 |none=>exact⟨by decide,by decide⟩
 |some e=>
  cases e with
  |none=>exact⟨by decide,by decide⟩
  |some e=>
   have:=h e rfl;show((e:Nat):Int)<_/\_<=((e:Nat):Int);omega
theorem y5X{ol n NB B M:Nat}{X:Nat->Prop}{N:Nt}{G:Nat->Option Nat}{w:World}(h:NtM ol n NB B X N G w)(E:n<=4096)(U:∀k i e,N k i=some (some e)->e<=n)(nc:Nat)(A:zC w M 4 (zS NB (n+1) nc))(k i:Nat)(r:k<ol)(y:i<=n):
  Calls prog 82 #[zP M 0,zI k,zI i] w fun e w'=>e=.returned (.tuple #[zI (ntc (N k i)).2,.bool (ntc (N k i)).1])/\zB w w':=by
 obtain⟨aa,D,V⟩:=h.nb;have o:=V i y;cases hg:G i with
 |none=>
  rw[hg]at o;have:=h.no i y hg k;rw[this];exact y5s M NB (n+1) nc k i w A (by omega) (Qj D i _ o).1
 |some g=>
  rw[hg]at o;obtain⟨_,_,_,cr,d,e⟩:=h.so i y g hg;exact y5t M NB (n+1) nc g ol ol k i _ _ (y5W E (fun Y Z=>U k i Y Z)) w A (by omega) (Qj D i _ o).1 r (Qj d _ _ (e k r).1).1 (Qj d _ _ (e k r).2).1
theorem Ah(N:Nt)(k:Int)(i:Nat)(e:Option Nat):Zk N k i e k i=some e:=if_pos ⟨rfl,rfl⟩
theorem Df{N:Nt}{k k':Int}{i o:Nat}{e:Option Nat}(h:¬(k'=k/\o=i)):Zk N k i e k' o=N k' o:=if_neg h
theorem z6j{ol:Nat}{o:Array Value}{N:Nt}{i k:Nat}{e:Option Nat}(r:k<ol)(h:∀k:Nat,k<ol->o[k*2]? =some (.bool (ntc (N k i)).1)/\o[k*2+1]? =some (.int .i32 (ntc (N k i)).2)):∀k':Nat,k'<ol->((o.setIfInBounds (k*2) (.bool true)).setIfInBounds (k*2+1) (.int .i32 (enE e)))[k'*2]? =some (.bool (ntc (Zk N k i e k' i)).1)/\((o.setIfInBounds (k*2) (.bool true)).setIfInBounds (k*2+1) (.int .i32 (enE e)))[k'*2+1]? =some (.int .i32 (ntc (Zk N k i e k' i)).2):=by
 intro k' y;have A:=(Array.getElem?_eq_some_iff.1 (h k r).1).1;have D:=(Array.getElem?_eq_some_iff.1 (h k r).2).1;by_cases he:k'=k
 ·subst he
  rw[Ah];constructor
  ·rw[Array.getElem?_setIfInBounds_ne (by omega),Array.getElem?_setIfInBounds_self_of_lt A];rfl
  ·rw[Array.getElem?_setIfInBounds_self_of_lt (by rw[Array.size_setIfInBounds];exact D)];rfl
 ·rw[Df (fun E=>he (by have:=E.1;omega))]
  constructor
  ·rw[Array.getElem?_setIfInBounds_ne (by omega),Array.getElem?_setIfInBounds_ne (by omega)];exact(h k' y).1
  ·rw[Array.getElem?_setIfInBounds_ne (by omega),Array.getElem?_setIfInBounds_ne (by omega)];exact(h k' y).2
theorem y5Y{ol n NB B M:Nat}{X:Nat->Prop}{N:Nt}{G:Nat->Option Nat}{w:World}(h:NtM ol n NB B X N G w)(ak:ol<=200)(hB:B<=w.heap.size)(al:B<=NB)(hX:∀g,X g->g<w.heap.size)(am:M≠NB)(oso:Option Addr)(oc nc:Nat)(m0:zC w M 0 (.slice oso ol oc))(m4:zC w M 4 (zS NB (n+1) nc))(k i:Nat)(U:k<ol)(hi:i<=n)(e:Option Nat)(he:∀x,e=some x->x<=4096):
  Calls prog 90 #[zP M 0,zI k,zI i,zI (enE e)] w fun e' w'=>e'=.returned (.tuple #[])/\Below B w w'/\(∀g,g<w.heap.size->g≠NB->(∀i,i<=n->G i≠some g)->w'.heap[g]? =w.heap[g]?)/\∃G',NtM ol n NB B X (Zk N k i e) G' w':=by
 have hE:enE e<2147483648/\ -2147483648<=enE e:=by
  cases e with
  |none=>exact⟨by decide,by decide⟩
  |some x=>have:=he x rfl;show((x:Nat):Int)<_/\_<=((x:Nat):Int);omega
 obtain⟨ae,h1,h2⟩:=h.nb;have aa:=h2 i hi;cases A:G i with
 |some g=>
  rw[A]at aa;obtain⟨ah,aA,ao,cr,d,ee⟩:=h.so i hi g A;obtain⟨q0,q1⟩:=Qj d _ _ (ee k U).1;obtain⟨q2,q3⟩:=Qj d _ _ (ee k U).2;refine(y5U M NB (n+1) nc g ol ol k i (enE e) hE _ _ w m4 (by omega) (Qj h1 i _ aa).1 U q0 q2 q1 q3).mono ?_;rintro e' w' ⟨rfl,rfl⟩;have V:∀b,b≠g->((w.setCell ⟨g,k*2,none⟩ (.bool true)).setCell ⟨g,k*2+1,none⟩ (.int .i32 (enE e))).heap[b]? =w.heap[b]? :=fun b o=>(Below.heap_setCell _ _ _ _ o).trans (Below.heap_setCell _ _ _ _ o)
  refine⟨rfl,((Below.refl B w).setCell (p:=⟨g,k*2,none⟩) ah _).setCell (p:=⟨g,k*2+1,none⟩) ah _,fun b _ _ ap=>V b (fun r=>ap i hi (by rw[r];exact A)),G,?_⟩;refine⟨⟨ae,(V _ (fun r=>ao r.symm)).trans h1,h2⟩,fun j y E k'=> ?_,fun j y b o=> ?_,h.inj⟩
  ·rw[Df (fun r=>by rw[r.2,A]at E;cases E)]
   exact h.no j y E k'
  ·obtain⟨a1,a2,a3,cb,a4,a5⟩:=h.so j y b o
   refine⟨a1,a2,a3,?_⟩;by_cases hji:j=i
   ·subst hji
    rw[A]at o;cases o;rw[d]at a4;cases a4;exact⟨_,Qk (Qk d _ _) _ _,z6j U ee⟩
   ·refine⟨cb,(V b (fun r=>hji (h.inj j i g y hi (by rw[o,r]) A))).trans a4,fun k' ab=> ?_⟩
    rw[Df (fun r=>hji r.2)];exact a5 k' ab
 |none=>
  rw[A]at aa;have aq:=Qq h1;refine(y5V M NB (n+1) nc oso oc ol ak k i (enE e) hE w m0 m4 (by omega) ae _ h1 aa am U).mono ?_;rintro e' w' ⟨rfl,rfl⟩;obtain⟨s,hs⟩:∃s,s=w.heap.size:=⟨_,rfl⟩;obtain⟨Y,ai⟩:∃Y,Y=madeCells #[.bool false,.int .i32 0] (ol*2):=⟨_,rfl⟩;have af:s≠NB:=by omega
  have e4:nwN w NB i ol k (enE e)=(((w.alloc (.cells Y 242)).drew.setCell ⟨NB,i,none⟩ (zS s ol ol)).setCell ⟨s,k*2,none⟩ (.bool true)).setCell ⟨s,k*2+1,none⟩ (.int .i32 (enE e)):=by unfold nwN;rw[ai,hs]
  rw[e4];obtain⟨D,ag⟩:∃D,D=(w.alloc (.cells Y 242)).drew:=⟨_,rfl⟩;rw[<-ag];have ac:zB w D:=by rw[ag];exact((Below.refl _ w).alloc L0q _).drew
  have ar:zH D s (.cells Y 242):=by rw[ag,hs];exact Qx w _ rfl
  have au:zH D NB (.cells ae 240):=(ac.block _ aq).trans h1;have V:∀b,b<w.heap.size->b≠NB->(((D.setCell ⟨NB,i,none⟩ (zS s ol ol)).setCell ⟨s,k*2,none⟩ (.bool true)).setCell ⟨s,k*2+1,none⟩ (.int .i32 (enE e))).heap[b]? =w.heap[b]? :=fun b o av=>(Below.heap_setCell _ _ _ _ (show b≠s by omega)).trans ((Below.heap_setCell _ _ _ _ (show b≠s by omega)).trans ((Below.heap_setCell _ _ _ _ av).trans (ac.block _ o)))
  have aw:(((D.setCell ⟨NB,i,none⟩ (zS s ol ol)).setCell ⟨s,k*2,none⟩ (.bool true)).setCell ⟨s,k*2+1,none⟩ (.int .i32 (enE e))).heap[NB]? =some (.cells (ae.setIfInBounds i (zS s ol ol)) 240):=(Below.heap_setCell _ _ _ _ (Ne.symm af)).trans ((Below.heap_setCell _ _ _ _ (Ne.symm af)).trans (Qk au _ _));have ax:(((D.setCell ⟨NB,i,none⟩ (zS s ol ol)).setCell ⟨s,k*2,none⟩ (.bool true)).setCell ⟨s,k*2+1,none⟩ (.int .i32 (enE e))).heap[s]? =some (.cells ((Y.setIfInBounds (k*2) (.bool true)).setIfInBounds (k*2+1) (.int .i32 (enE e))) 242):=Qk (Qk ((Below.heap_setCell _ _ _ _ af).trans ar) _ _) _ _;have ay:Below B w (((D.setCell ⟨NB,i,none⟩ (zS s ol ol)).setCell ⟨s,k*2,none⟩ (.bool true)).setCell ⟨s,k*2+1,none⟩ (.int .i32 (enE e))):=(((ac.mono hB).setCell (p:=⟨NB,i,none⟩) al _).setCell (p:=⟨s,k*2,none⟩) (by show B<=s;omega) _).setCell (p:=⟨s,k*2+1,none⟩) (by show B<=s;omega) _;refine⟨rfl,ay,fun b ac az _=>V b ac az,fun j=>if j=i then some s else G j,?_⟩;have aj:∀j,j<=n->∀g,G j=some g->g<w.heap.size:=fun j y g A=>by
   obtain⟨_,_,_,cr,d,_⟩:=h.so j y g A;exact Qq d
  refine⟨⟨_,aw,fun j y=> ?_⟩,fun j y E k'=> ?_,fun j y b o=> ?_,fun a b g ha o ad Z=> ?_⟩
  ·by_cases hji:j=i
   ·subst hji
    rw[if_pos rfl,Array.getElem?_setIfInBounds_self_of_lt (Array.getElem?_eq_some_iff.1 aa).1];rfl
   ·rw[if_neg hji,Array.getElem?_setIfInBounds_ne (Ne.symm hji)]
    exact h2 j y
  ·by_cases hji:j=i
   ·rw[if_pos hji]at E;cases E
   ·rw[if_neg hji]at E
    rw[Df (fun r=>hji r.2)];exact h.no j y E k'
  ·by_cases hji:j=i
   ·rw[if_pos hji]at o
    cases o;subst hji;refine⟨by omega,fun hx=>absurd (hX _ hx) (by omega),af,_,ax,z6j (N:=N) U fun k' ab=> ?_⟩;rw[h.no j y A k',ai];exact z6i ab
   ·rw[if_neg hji]at o
    obtain⟨a1,a2,a3,cb,a4,a5⟩:=h.so j y b o;refine⟨a1,a2,a3,cb,(V b (Qq a4) a3).trans a4,fun k' ab=> ?_⟩;rw[Df (fun r=>hji r.2)];exact a5 k' ab
  ·by_cases h5:a=i
   ·rw[if_pos h5]at ad
    cases ad;by_cases h6:b=i
    ·rw[h5,h6]
    ·rw[if_neg h6]at Z
     have:=aj b o _ Z;omega
   ·rw[if_neg h5]at ad
    by_cases h6:b=i
    ·rw[if_pos h6]at Z
     cases Z;have:=aj a ha _ ad;omega
    ·rw[if_neg h6]at Z
     exact h.inj a b g ha o ad Z
section
theorem z0h{p:Nat->Prop}(h:∃n,p n):∃n,p n/\∀m,p m->n<=m:=by
 obtain⟨n,r⟩:=h
 induction n using Nat.strongRecOn with
 |_ n ih=>
  by_cases h:∃m,m<n/\p m
  ·obtain⟨m,o,y⟩:=h
   exact ih m o y
  ·exact⟨n,r,fun m o=>Nat.le_of_not_lt fun hl=>h ⟨m,hl,o⟩⟩
open Classical in
theorem y5Z{P:Program}{a:Act}{w:World}{Q:Exit->Act->World->Prop}{c rest:Code}(l:Nat)(J:Nat->Act->World->Prop)(D:findLabel c l=some rest)
  (first:c.wp P (Exit.jump l (fun a w=>∃q,J q a w) Q) a w)
  (E:∀q a w,J q a w->rest.wp P (Exit.jump l (fun y w'=>∃o,o<q/\J o y w') Q) a w):(Code.scope c).wp P Q a w:=by
 refine wp_scope_jumps l (fun a w=>∃q,J q a w) (fun a w=>if h:∃q,J q a w then Classical.choose (z0h h)else 0) D first fun a w A=> ?_
 refine Code.wp_mono (fun e y w' h=> ?_) (E _ a w (Classical.choose_spec (z0h A)).1);cases e with
 |goto l'=>
  obtain⟨rfl,o,G,r⟩:=h;refine⟨rfl,⟨o,r⟩,?_⟩;rw[dif_pos A,dif_pos ⟨o,r⟩];exact Nat.lt_of_le_of_lt ((Classical.choose_spec (z0h ⟨o,r⟩)).2 _ r) G
 |normal=>exact h
 |exit id=>exact h
 |ret=>exact h
 |panic ch=>exact h
 |outgrown=>exact h
def wqC(x:Wq):List Value:=[zI x.1,zI (x.2.1:Nat),zI (x.2.2.1:Nat),zI (x.2.2.2:Nat)]
def wqV:List Wq->List Value
 |[]=>[]
 |x::r=>wqV r++wqC x
theorem Ad:∀S:List Wq,(wqV S).length=S.length*4
 |[]=>rfl
 |x::r=>by rw[wqV,List.length_append,Ad r,List.length_cons,Nat.add_mul];rfl
section
variable (ops:List Ox) (ns:List ByteArray) (ro:List Int) (T:ByteArray) (mo:Nat) (oso nso rso:Option Addr) (oc nc rc M NB:Nat) (w0:World)
@[reducible] def mtO (v:Value) (c:Nat):Obj:=.cells #[.slice oso ops.length oc,.slice nso ns.length nc,.slice rso ro.length rc,zT T,zS NB (T.size+1) (T.size+1),zI (c:Int),zI (mo:Int),v] 132
structure MtM (N:Nt) (c:Nat) (S:List Wq) (v:Value) (W:World):Prop where
 pg:PgM ops ns ro oso nso rso w0
 be:zB w0 W
 lm:w0.heap.size<=M
 ln:w0.heap.size<=NB
 ne:M≠NB
 m:W.heap[M]? =some (mtO ops ns ro T mo oso nso rso oc nc rc NB v c)
 ow:W.ownsRow w0.heap.size 194 4 v S.length (wqV S)
 nm:v.ownBlock≠some M
 nn:v.ownBlock≠some NB
 nt:∃G,NtM ops.length T.size NB w0.heap.size (fun g=>g=M∨v.ownBlock=some g) N G W
end
section
variable {ops:List Ox} {ns:List ByteArray} {ro:List Int} {T:ByteArray} {mo:Nat} {oso nso rso:Option Addr} {oc nc rc M NB:Nat} {w0:World} {N:Nt} {c:Nat} {S:List Wq} {v:Value} {W W':World}
theorem MtM.below(h:MtM ops ns ro T mo oso nso rso oc nc rc M NB w0 N c S v W)(o:zB W W'):MtM ops ns ro T mo oso nso rso oc nc rc M NB w0 N c S v W':=by
 obtain⟨G,r⟩:=h.nt;exact⟨h.pg,h.be.trans (o.mono h.be.size),h.lm,h.ln,h.ne,(o.block _ (Qq h.m)).trans h.m,Xf h.ow o,h.nm,h.nn,G,r.below o⟩
theorem MtM.pgw(h:MtM ops ns ro T mo oso nso rso oc nc rc M NB w0 N c S v W):PgM ops ns ro oso nso rso W:=h.pg.below h.be
theorem MtM.note(h:MtM ops ns ro T mo oso nso rso oc nc rc M NB w0 N c S v W)(hT:T.size<=4096)(k i:Nat)(V:k<ops.length)(Y:i<=T.size)(e:Option Nat)(Z:∀x,e=some x->x<=4096):
  Calls prog 90 #[zP M 0,zI k,zI i,zI (enE e)] W fun r w'=>r=.returned (.tuple #[])/\W.heap.size<=w'.heap.size/\MtM ops ns ro T mo oso nso rso oc nc rc M NB w0 (Zk N k i e) c S v w':=by
 obtain⟨G,y⟩:=h.nt;have aa:=h.be.size;have A:∀g,(g=M∨v.ownBlock=some g)->g<W.heap.size:=fun g o=>by
  rcases o with rfl|o
  ·exact Qq h.m
  ·exact(h.ow.lt _ o).2
 refine(y5Y y h.pg.l2 aa h.ln A h.ne oso oc (T.size+1) (Qj h.m 0 _ rfl).1 (Qj h.m 4 _ rfl).1 k i V Y e Z).mono ?_;rintro r w' ⟨rfl,D,ab,G',ac⟩;have E:∀g,(g=M∨v.ownBlock=some g)->w'.heap[g]? =W.heap[g]? :=fun g o=>ab g (A g o) (fun U=>by
  rcases o with rfl|o
  ·exact h.ne U
  ·exact h.nn (by rw[o,U])) fun j hj ad=>(y.so j hj g ad).2.1 o
 exact⟨rfl,D.size,h.pg,h.be.trans D,h.lm,h.ln,h.ne,(E M (.inl rfl)).trans h.m,Xp h.ow (fun g o=>E g (.inr o)),h.nm,h.nn,G',ac⟩
theorem MtM.noted(h:MtM ops ns ro T mo oso nso rso oc nc rc M NB w0 N c S v W)(o:T.size<=4096)(r:∀k i e,N k i=some (some e)->e<=T.size)(k i:Nat)(y:k<ops.length)(A:i<=T.size):
  Calls prog 82 #[zP M 0,zI k,zI i] W fun e w'=>e=.returned (.tuple #[zI (ntc (N k i)).2,.bool (ntc (N k i)).1])/\zB W w':=by
 obtain⟨G,D⟩:=h.nt;exact y5X D o r (T.size+1) (Qj h.m 4 _ rfl).1 k i y A
theorem MtM.count(h:MtM ops ns ro T mo oso nso rso oc nc rc M NB w0 N c S v W)(r:Nat):MtM ops ns ro T mo oso nso rso oc nc rc M NB w0 N r S v (W.setCell ⟨M,5,none⟩ (zI (r:Int))):=by
 obtain⟨G,y⟩:=h.nt;have U:∀g,g≠M->(W.setCell ⟨M,5,none⟩ (zI (r:Int))).heap[g]? =W.heap[g]? :=fun g o=>Below.heap_setCell _ _ _ _ o
 refine⟨h.pg,h.be.setCell (p:=⟨M,5,none⟩) h.lm _,h.lm,h.ln,h.ne,Qk h.m 5 _,Xp h.ow (fun g o=>U g (fun A=>h.nm (by rw[o,A]))),h.nm,h.nn,G,y.keep (fun g o=>U g ?_) (fun g o=> ?_)⟩
 ·rcases o with rfl|⟨j,D,E⟩
  ·exact Ne.symm h.ne
  ·exact fun A=>(y.so j D g E).2.1 (.inl A)
 ·obtain⟨j,D,E⟩:=o
  exact(y.so j D g E).2.1
theorem MtM.push{y:World}{g A:Nat}{x:Wq}(h:MtM ops ns ro T mo oso nso rso oc nc rc M NB w0 N c S v W)(ho:y.ownsRow w0.heap.size 194 4 (zS g (S.length+1) A) (S.length+1) (wqV S++wqC x))(E:W.grownBy y v.ownBlock)(o:v.ownBlock=some g∨W.heap.size<=g):MtM ops ns ro T mo oso nso rso oc nc rc M NB w0 N c (x::S) (zS g (S.length+1) A) (y.setCell ⟨M,7,none⟩ (zS g (S.length+1) A)):=by
 obtain⟨G,D⟩:=h.nt;have lM:=Qq h.m;obtain⟨ae,aa,_⟩:=D.nb;have lN:=Qq aa;have Z:g≠M:=fun e=>by
  rcases o with o|o
  ·exact h.nm (by rw[o,e])
  ·omega
 have gN:g≠NB:=fun e=>by
  rcases o with o|o
  ·exact h.nn (by rw[o,e])
  ·omega
 have hk:∀b,b<W.heap.size->b≠M->v.ownBlock≠some b->(y.setCell ⟨M,7,none⟩ (zS g (S.length+1) A)).heap[b]? =W.heap[b]? :=fun b r ab ac=>(Below.heap_setCell _ _ _ _ ab).trans (E.block b r (fun e=>ac e.symm))
 have ad:zH y M (mtO ops ns ro T mo oso nso rso oc nc rc NB v c):=(E.block M lM (fun e=>h.nm e.symm)).trans h.m;refine⟨h.pg,(h.be.grown E h.be.size (fun b r=>(h.ow.lt b r).1)).setCell (p:=⟨M,7,none⟩) h.lm _,h.lm,h.ln,h.ne,Qk ad 7 _,Xp ho (fun b r=>Below.heap_setCell _ _ _ _ (fun e=> ?_)),fun e=> ?_,fun e=> ?_,G,D.keep (fun b r=> ?_) (fun b r=> ?_)⟩
 ·have U:g=b:=Option.some.inj r
  exact Z (U.trans e)
 ·exact Z (Option.some.inj e)
 ·exact gN (Option.some.inj e)
 ·rcases r with rfl|⟨j,V,Y⟩
  ·exact hk _ lN (Ne.symm h.ne) h.nn
  ·obtain⟨_,a2,_,cr,a4,_⟩:=D.so j V b Y
   exact hk b (Qq a4) (fun e=>a2 (.inl e)) (fun e=>a2 (.inr e))
 ·obtain⟨j,V,Y⟩:=r
  obtain⟨_,a2,_,cr,a4,_⟩:=D.so j V b Y;rintro(e|e)
  ·exact a2 (.inl e)
  ·have U:g=b:=Option.some.inj e
   rcases o with o|o
   ·exact a2 (.inr (by rw[o,U]))
   ·have:=Qq a4;omega
end
end
section
theorem y6a(A:List Value)(a b c d h o r y:Value)(n:Nat)(D:A.length=n):((((A++[a,b,c,d]).set n h).set (n+1) o).set (n+2) r).set (n+3) y=A++[h,o,r,y]:=by
 subst D;simp
section
variable {ops:List Ox} {ns:List ByteArray} {ro:List Int} {T:ByteArray} {mo:Nat} {oso nso rso:Option Addr} {oc nc rc M NB:Nat} {w0:World} {N:Nt} {c:Nat} {S:List Wq} {v:Value} {W W':World}
theorem MtM.shape{x:Wq}{r:List Wq}(h:MtM ops ns ro T mo oso nso rso oc nc rc M NB w0 N c (x::r) v W):∃g o,v=.slice (some ⟨g,0,none⟩) (r.length+1) o/\g≠M/\g≠NB/\g<W.heap.size/\(∀j:Nat,∀u,(wqC x)[j]? =some u->W.cell? ⟨g,r.length*4+j,none⟩=some u)/\∀j,W.frozen? ⟨g,j,none⟩=false:=by
 obtain⟨g,o,rfl⟩:=ownsRow_succ h.ow;have y:W.ownsRow w0.heap.size 194 4 (.slice (some ⟨g,0,none⟩) (r.length+1) o) (r.length+1) (wqV r++wqC x):=h.ow;refine⟨g,o,rfl,fun e=>h.nm (by rw[e];rfl),fun e=>h.nn (by rw[e];rfl),(y.lt g rfl).2,fun j u A=> ?_,fun j=>y.frozenAt j⟩;have D:j<4:=(List.getElem?_eq_some_iff.1 A).1;rw[y.cellAt (r.length*4+j) (by omega),List.getElem?_append_right (by rw[Ad];omega),Ad,Nat.add_sub_cancel_left];exact A
theorem MtM.swap{x x':Wq}{r:List Wq}{g A:Nat}(h:MtM ops ns ro T mo oso nso rso oc nc rc M NB w0 N c (x::r) (zS g (r.length+1) A) W):MtM ops ns ro T mo oso nso rso oc nc rc M NB w0 N c (x'::r) (zS g (r.length+1) A) ((((W.setCell ⟨g,r.length*4,none⟩ (zI x'.1)).setCell ⟨g,r.length*4+1,none⟩ (zI (x'.2.1:Nat))).setCell ⟨g,r.length*4+2,none⟩ (zI (x'.2.2.1:Nat))).setCell ⟨g,r.length*4+3,none⟩ (zI (x'.2.2.2:Nat))):=by
 obtain⟨G,D⟩:=h.nt;have Y:W.ownsRow w0.heap.size 194 4 (zS g (r.length+1) A) (r.length+1) (wqV r++wqC x):=h.ow;have y:=(Y.lt g rfl).1;have gM:M≠g:=fun e=>h.nm (by rw[e];rfl)
 have gN:NB≠g:=fun e=>h.nn (by rw[e];rfl)
 have Z:∀b,b≠g->((((W.setCell ⟨g,r.length*4,none⟩ (zI x'.1)).setCell ⟨g,r.length*4+1,none⟩ (zI (x'.2.1:Nat))).setCell ⟨g,r.length*4+2,none⟩ (zI (x'.2.2.1:Nat))).setCell ⟨g,r.length*4+3,none⟩ (zI (x'.2.2.2:Nat))).heap[b]? =W.heap[b]? :=fun b o=>(Below.heap_setCell _ _ _ _ o).trans ((Below.heap_setCell _ _ _ _ o).trans ((Below.heap_setCell _ _ _ _ o).trans (Below.heap_setCell _ _ _ _ o)))
 have E:=(((((Y.stored (r.length*4) (zI x'.1)).1).stored (r.length*4+1) (zI (x'.2.1:Nat))).1.stored (r.length*4+2) (zI (x'.2.2.1:Nat))).1.stored (r.length*4+3) (zI (x'.2.2.2:Nat))).1;have e:=y6a (wqV r) (zI x.1) (zI (x.2.1:Nat)) (zI (x.2.2.1:Nat)) (zI (x.2.2.2:Nat)) (zI x'.1) (zI (x'.2.1:Nat)) (zI (x'.2.2.1:Nat)) (zI (x'.2.2.2:Nat)) (r.length*4) (Ad r);unfold wqC at E;rw[e]at E;refine⟨h.pg,(((h.be.setCell (p:=⟨g,r.length*4,none⟩) y _).setCell (p:=⟨g,r.length*4+1,none⟩) y _).setCell (p:=⟨g,r.length*4+2,none⟩) y _).setCell (p:=⟨g,r.length*4+3,none⟩) y _,h.lm,h.ln,h.ne,(Z M gM).trans h.m,E,h.nm,h.nn,G,D.keep (fun b o=>Z b ?_) (fun b o=> ?_)⟩
 ·rcases o with rfl|⟨j,U,V⟩
  ·exact gN
  ·exact fun e=>(D.so j U b V).2.1 (.inr (by rw[e];rfl))
 ·obtain⟨j,U,V⟩:=o
  exact(D.so j U b V).2.1
theorem MtM.pop{x:Wq}{r:List Wq}{g y:Nat}(h:MtM ops ns ro T mo oso nso rso oc nc rc M NB w0 N c (x::r) (zS g (r.length+1) y) W):MtM ops ns ro T mo oso nso rso oc nc rc M NB w0 N c r (zS g r.length y) (W.setCell ⟨M,7,none⟩ (zS g r.length y)):=by
 obtain⟨G,A⟩:=h.nt;have V:W.ownsRow w0.heap.size 194 4 (zS g (r.length+1) y) (r.length+1) (wqV r++wqC x):=h.ow;have Y:g≠M:=fun e=>h.nm (by rw[e];rfl)
 have U:∀b,b≠M->(W.setCell ⟨M,7,none⟩ (zS g r.length y)).heap[b]? =W.heap[b]? :=fun b o=>Below.heap_setCell _ _ _ _ o
 refine⟨h.pg,h.be.setCell (p:=⟨M,7,none⟩) h.lm _,h.lm,h.ln,h.ne,Qk h.m 7 _,Xp (ownsRow_pop (Ad r) V) (fun b o=>U b ?_),h.nm,h.nn,G,A.keep (fun b o=>U b ?_) (fun b o=> ?_)⟩
 ·have Z:g=b:=Option.some.inj o
  rw[<-Z];exact Y
 ·rcases o with rfl|⟨j,D,E⟩
  ·exact Ne.symm h.ne
  ·exact fun e=>(A.so j D b E).2.1 (.inl e)
 ·obtain⟨j,D,E⟩:=o
  exact(A.so j D b E).2.1
end
structure OpW (ops:List Ox) (ro:List Int):Prop where
 rf:∀k (hk:k<ops.length),ops[k].1=5->∀x∈ops[k].2.2.2,0<=x/\x<(ro.length:Int)
 ot:∀k (hk:k<ops.length),ops[k].1≠5->∀x∈ops[k].2.2.2,0<=x/\x<(ops.length:Int)
 rt:∀x∈ro,0<=x/\x<(ops.length:Int)
 cl:∀k (hk:k<ops.length),ops[k].1=3->(0<=ops[k].2.2.1.1/\ops[k].2.2.1.1<18446744073709551616)/\(0<=ops[k].2.2.1.2.1/\ops[k].2.2.1.2.1<18446744073709551616)/\(0<=ops[k].2.2.1.2.2.1/\ops[k].2.2.1.2.2.1<18446744073709551616)/\(0<=ops[k].2.2.1.2.2.2/\ops[k].2.2.1.2.2.2<18446744073709551616)
theorem OpW.part{ops:List Ox}{ro:List Int}(h:OpW ops ro){k:Nat}(o:k<ops.length){j:Nat}(r:j<ops[k].2.2.2.length):∃k':Nat,prt ro ops[k] j=(k':Int)/\k'<ops.length:=by
 have A:ops[k].2.2.2.getD j 0=ops[k].2.2.2[j]:=by rw[List.getD_eq_getElem?_getD,List.getElem?_eq_getElem r];rfl
 unfold prt;rw[A];have y:ops[k].2.2.2[j]∈ops[k].2.2.2:=List.getElem_mem r;by_cases h5:ops[k].1=5
 ·rw[if_pos h5]
  obtain⟨D,E⟩:=h.rf k o h5 _ y;have hl:(ops[k].2.2.2[j]).toNat<ro.length:=by omega
  rw[List.getD_eq_getElem?_getD,List.getElem?_eq_getElem hl];obtain⟨a,b⟩:=h.rt _ (List.getElem_mem hl);exact⟨(ro[(ops[k].2.2.2[j]).toNat]).toNat,by show ro[(ops[k].2.2.2[j]).toNat]=_;omega,by omega⟩
 ·rw[if_neg h5]
  obtain⟨a,b⟩:=h.ot k o h5 _ y;exact⟨(ops[k].2.2.2[j]).toNat,by omega,by omega⟩
def WqR(ops:List Ox)(n:Nat)(x:Wq):Prop:=∃(k:Nat) (hk:k<ops.length),x.1=(k:Int)/\x.2.1<=n/\x.2.2.1<ops[k].2.2.2.length/\x.2.2.2<=n
theorem z6k{T:zA}{o:Ox}{i x:Nat}(A:i<=T.size)(h:aln T o i=some x):x<=T.size:=by
 unfold aln at h;have one:∀{b:Bool} {y:Nat},Zm b y=some x->b=true/\y=x:=fun{b y} D=>by
  cases b with
  |false=>cases D
  |true=>exact⟨rfl,Option.some.inj D⟩
 split at h
 ·obtain⟨r,rfl⟩:=one h
  exact Mk A r
 ·split at h
  ·obtain⟨r,rfl⟩:=one h
   exact Fp r
  ·split at h
   ·obtain⟨r,rfl⟩:=one h
    exact Fp r
   ·split at h
    ·cases h;exact A
    ·cases h
theorem y6b{o:Ox}{w:Wq}{e:Option Nat}{n x:Nat}(r:w.2.1<=n)(D:w.2.2.2<=n)(A:∀y,e=some y->y<=n)(h:otc o w e=some x):x<=n:=by
 have one:∀{b:Bool} {y:Nat},Zm b y=some x->y=x:=fun{b y} E=>by
  cases b with
  |false=>cases E
  |true=>exact Option.some.inj E
 unfold otc at h;split at h
 ·cases e with
  |none=>cases h;exact r
  |some y=>cases h;exact A _ rfl
 ·split at h
  ·cases h;exact D
  ·split at h
   ·split at h
    ·cases h;exact D
    ·exact A _ h
   ·split at h
    ·rw[<-one h];exact r
    ·split at h
     ·rw[<-one h];exact r
     ·exact A _ h
theorem y6c{ops:List Ox}{n k:Nat}(V:k<ops.length){f j a:Nat}{e:Option Nat}{w':Wq}(Y:WqR ops n ((k:Int),f,j,a))(E:∀y,e=some y->y<=n)(h:nxt ops[k] ((k:Int),f,j,a) e=some w'):WqR ops n w'/\w'.1=(k:Int)/\w'.2.2.1<ops[k].2.2.2.length:=by
 obtain⟨G,ab,o,U,Z,ha⟩:=Y;have ek:k=G:=by have:(k:Int)=(G:Int):=o;omega
 subst ek;have fin:∀r A:Nat,w'=((k:Int),f,r,A)->r<ops[k].2.2.2.length->A<=n->WqR ops n w'/\w'.1=(k:Int)/\w'.2.2.1<ops[k].2.2.2.length:=fun r A e1 o e3=>by
  subst e1;exact⟨⟨k,V,rfl,U,o,e3⟩,rfl,o⟩
 have ac:j<ops[k].2.2.2.length:=Z;unfold nxt at h;split at h
 ·cases e with
  |none=>cases h
  |some x=>
   dsimp only at h;split at h
   ·cases h
   ·rename_i D
    have aa:¬j+1=ops[k].2.2.2.length:=D;exact fin (j+1) x (Option.some.inj h).symm (by omega) (E _ rfl)
 ·split at h
  ·cases e with
   |some x=>cases h
   |none=>
    dsimp only at h;split at h
    ·cases h
    ·rename_i D
     have aa:¬j+1=ops[k].2.2.2.length:=D;exact fin (j+1) f (Option.some.inj h).symm (by omega) U
  ·split at h
   ·cases e with
    |none=>cases h
    |some x=>exact fin 0 x (Option.some.inj h).symm (by omega) (E _ rfl)
   ·cases h
end
section
theorem y6d{P:Program}{a:Act}{w:World}{Q:Exit->Act->World->Prop}{X:Code}(l:Nat)(J:Nat->Act->World->Prop)(r:Nat)(D:J r a w)
  (y:∀q a w,J q a w->X.wp P (Exit.jump l (fun A w'=>∃o,o<q/\J o A w') Q) a w):(Code.scope ((Code.label l).seq X)).wp P Q a w:=by
 have E:findLabel ((Code.label l).seq X) l=some (Code.skip.seq X):=by simp[findLabel]
 refine y5Z l J E ?_ (fun q a w h=>wp_seq (wp_skip (y q a w h)));refine wp_seq (wp_label ?_);refine Code.wp_mono (fun e A w' h=> ?_) (y r a w D);cases e with
 |goto l'=>obtain⟨rfl,o,_,G⟩:=h;exact⟨rfl,o,G⟩
 |normal=>exact h
 |exit id=>exact h
 |ret=>exact h
 |panic ch=>exact h
 |outgrown=>exact h
theorem y6e{P:Program}{a:Act}{w:World}{Q:Exit->Act->World->Prop}{x y z:Code}(R:Act->World->Prop)(r:∀a w,R a w->z.wp P Q a w)(h:x.wp P (Exit.then (fun a w=>y.wp P (Exit.then R Q) a w) Q) a w):(x.seq (y.seq z)).wp P Q a w:=by
 refine wp_seq (Code.wp_mono (fun e a w o=> ?_) h);cases e with
 |normal=>
  refine wp_seq (Code.wp_mono (fun e a w o=> ?_) o);cases e with
  |normal=>exact r a w o
  |_=>exact o
 |_=>exact o
theorem Tryz.infoWtr:(Tryz.prog.info? 194).map (fun i=>(i.zero,i.size,i.bytes))=some (some (.agg #[zI 0,zI 0,zI 0,zI 0]),4,32):=by kernel_rfl
def z6l(W:World)(b o:Nat)(x0 x1 x2 x3:Int):World:=(((W.setCell ⟨b,o,none⟩ (zI x0)).setCell ⟨b,o+1,none⟩ (zI x1)).setCell ⟨b,o+2,none⟩ (zI x2)).setCell ⟨b,o+3,none⟩ (zI x3)
theorem Am{F:(Nat->Value)->Act}{A:Act}(h:A=F (fun j=>A.tmps.getD j undef)):∃u,A=F u:=⟨_,h⟩
section
variable (ops:List Ox) (ns:List ByteArray) (ro:List Int) (T:ByteArray) (mo:Nat) (oso nso rso:Option Addr) (oc nc rc M NB:Nat) (w0:World)
@[reducible] def mF (k i:Nat) (u:Nat->Value):Act:={tmps:=#[zP M 0,zI (k:Int),zI (i:Int),u 3,u 4,u 5,u 6,u 7,u 8,u 9,u 10,u 11,u 12,u 13,u 14,u 15,u 16,u 17,u 18,u 19,u 20,u 21,u 22,u 23,u 24,u 25,u 26,u 27,u 28,u 29,u 30,u 31,u 32,u 33,u 34,u 35,u 36,u 37,u 38,u 39,u 40,u 41,u 42,u 43,u 44,u 45,u 46,u 47,u 48,u 49,u 50,u 51,u 52,u 53,u 54,u 55,u 56,u 57,u 58,u 59,u 60,u 61,u 62,u 63,u 64,u 65,u 66,u 67,u 68,u 69,u 70,u 71,u 72,u 73,u 74,u 75,u 76,u 77,u 78,u 79,u 80,u 81,u 82,u 83,u 84,u 85,u 86,u 87,u 88,u 89,u 90,u 91,u 92,u 93,u 94,u 95,u 96,u 97,u 98,u 99,u 100,u 101,u 102,u 103,u 104,u 105,u 106,u 107,u 108,u 109,u 110,u 111,u 112,u 113,u 114,u 115,u 116,u 117,u 118,u 119,u 120,u 121,u 122,u 123,u 124,u 125,u 126,u 127,u 128,u 129,u 130,u 131,u 132,u 133,u 134],defers:=[]}
structure MJs (r:Option (Option Nat×Nat×Nt)) (q k i:Nat) (N:Nt) (c:Nat) (S:List Wq) (v:Value) (W:World):Prop where
 hk:k<ops.length
 hi:i<=T.size
 hN:∀k i e,N k i=some (some e)->e<=T.size
 hS:∀x∈S,WqR ops T.size x
 hc:c<=mo
 hl:S.length<=c
 hM:MtM ops ns ro T mo oso nso rso oc nc rc M NB w0 N c S v W
 hR:Mch ops ro T mo N c S (.beg k i) r q
def MJ(r:Option (Option Nat×Nat×Nt))(q:Nat)(a:Act)(W:World):Prop:=∃(k i:Nat) (N:Nt) (c:Nat) (S:List Wq) (v:Value),(∃u,a=mF M k i u)/\Hid (MJs ops ns ro T mo oso nso rso oc nc rc M NB w0 r q k i N c S v W)
@[reducible] def mG (e:Option Nat) (u:Nat->Value):Act:={tmps:=#[zP M 0,u 1,u 2,u 3,u 4,u 5,u 6,zI (enE e),u 8,u 9,u 10,u 11,u 12,u 13,u 14,u 15,u 16,u 17,u 18,u 19,u 20,u 21,u 22,u 23,u 24,u 25,u 26,u 27,u 28,u 29,u 30,u 31,u 32,u 33,u 34,u 35,u 36,u 37,u 38,u 39,u 40,u 41,u 42,u 43,u 44,u 45,u 46,u 47,u 48,u 49,u 50,u 51,u 52,u 53,u 54,u 55,u 56,u 57,u 58,u 59,u 60,u 61,u 62,u 63,u 64,u 65,u 66,u 67,u 68,u 69,u 70,u 71,u 72,u 73,u 74,u 75,u 76,u 77,u 78,u 79,u 80,u 81,u 82,u 83,u 84,u 85,u 86,u 87,u 88,u 89,u 90,u 91,u 92,u 93,u 94,u 95,u 96,u 97,u 98,u 99,u 100,u 101,u 102,u 103,u 104,u 105,u 106,u 107,u 108,u 109,u 110,u 111,u 112,u 113,u 114,u 115,u 116,u 117,u 118,u 119,u 120,u 121,u 122,u 123,u 124,u 125,u 126,u 127,u 128,u 129,u 130,u 131,u 132,u 133,u 134],defers:=[]}
structure RJs (r:Option (Option Nat×Nat×Nt)) (q:Nat) (e:Option Nat) (N:Nt) (c:Nat) (S:List Wq) (v:Value) (W:World):Prop where
 he:∀x,e=some x->x<=T.size
 hN:∀k i e,N k i=some (some e)->e<=T.size
 hS:∀x∈S,WqR ops T.size x
 hc:c<=mo
 hl:S.length<=c
 hM:MtM ops ns ro T mo oso nso rso oc nc rc M NB w0 N c S v W
 hR:Mch ops ro T mo N c S (.ret e) r q
def RJ(r:Option (Option Nat×Nat×Nt))(q:Nat)(a:Act)(W:World):Prop:=∃(e:Option Nat) (N:Nt) (c:Nat) (S:List Wq) (v:Value),(∃u,a=mG M e u)/\Hid (RJs ops ns ro T mo oso nso rso oc nc rc M NB w0 r q e N c S v W)
def MPo(r:Option (Option Nat×Nat×Nt))(e':Ending)(W':World):Prop:=match r with
 |none=>e'=.returned (.iface 34 (zI 50))/\zB w0 W'
 |some (e,c,N)=>e'=.returned .nilIface/\(∀k i e,N k i=some (some e)->e<=T.size)/\∃v,MtM ops ns ro T mo oso nso rso oc nc rc M NB w0 N c [] v W'
end
theorem y6f{ops:List Ox}{ns:List ByteArray}{ro:List Int}{T:zA}{mo:Nat}{oso nso rso:Option Addr}{oc nc rc M NB:Nat}{w0:World}(hw:OpW ops ro)(hT:T.size<=4096)(ai:mo<=1048576)(r:Option (Option Nat×Nat×Nt))(q0 k0 i0:Nat)(N0:Nt)(c0:Nat)(v0:Value)(w:World)(h:MJs ops ns ro T mo oso nso rso oc nc rc M NB w0 r q0 k0 i0 N0 c0 [] v0 w):
  Calls prog 52 #[zP M 0,zI k0,zI i0] w (MPo ops ns ro T mo oso nso rso oc nc rc M NB w0 r):=by
 have bd:=hid h;have HW:=hid hw;have HT:=hid hT;have aF:=hid ai;clear h hw hT ai;go_enter func52,ntmps52
 go_wp2_with fail
 refine y6d 0 (MJ ops ns ro T mo oso nso rso oc nc rc M NB w0 r) q0 ⟨k0,i0,N0,c0,[],v0,Am (by rfl),bd⟩ ?_;clear bd;rintro q a W ⟨k,i,N,c,S,v,⟨u,rfl⟩,D⟩;refine y6e (fun a w=>∃q',q'<q/\RJ ops ns ro T mo oso nso rso oc nc rc M NB w0 r q' a w) ?_ ?_
 ·rintro a w ⟨q',b8,e,N',c',S',v',⟨u',rfl⟩,HR⟩
  clear D;obtain⟨sa,bI,rfl⟩:=Yd HR.out.hM.ow;have m7:zC w M 7 (.slice sa S'.length bI):=(Qj HR.out.hM.m 7 _ rfl).1;have lm:=Qq HR.out.hM.m;have aG:=HR.out.hl;have ag:=HR.out.hc;have ai:=aF.out;have bJ:IntKind.i64.wrap ((S'.length:Int)-1)=(S'.length:Int)-1:=by rw[IntKind.wrap_i64];omega
  go_wp2_with fail
  clear m7 bJ
  go_loopw [7,9] (fun ev lv wr=>∃(e:Option Nat) (N:Nt) (c:Nat) (S:List Wq) (v:Value) (q1:Nat),ev=zI (enE e)/\lv=zI ((S.length:Int)-1)/\q1<=q'/\Hid (RJs ops ns ro T mo oso nso rso oc nc rc M NB w0 r q1 e N c S v wr)) (fun _ lv _=>(intOf lv+1).toNat)
  case atStart=>exact⟨e,N',c',S',_,q',rfl,rfl,Nat.le_refl _,HR⟩
  case round=>
   obtain⟨e,N,c,S,v,q1,rfl,rfl,b9,Z⟩:=hrel;clear HR aG ag;cases S with
   |nil=>
    have bK:=Z.out.hR;cases bK;have bf:=hid (And.intro Z.out.hN Z.out.hM)
    go_wp2_with fail
    refine bodyPost_ret (v:=.nilIface) (by simp[results,Tryz.results52,go_sem]) rfl ?_;exact⟨rfl,bf.out.1,_,bf.out.2⟩
   |cons x rr=>
    obtain⟨g,ae,rfl,gM,gN,lg,ax,ca⟩:=Z.out.hM.shape;obtain⟨k,hk,ek,hf,hj,ha⟩:=Z.out.hS x (List.mem_cons_self ..);obtain⟨kx,f,j,a⟩:=x;dsimp only at ek hf hj ha;subst ek;have z0:=ax 0 _ rfl;have z1:=ax 1 _ rfl;have z2:=ax 2 _ rfl;have z3:=ax 3 _ rfl;dsimp only[Nat.add_zero]at z0 z1 z2 z3;have m7:zC wr M 7 (zS g (rr.length+1) ae):=(Qj Z.out.hM.m 7 _ rfl).1;have lm:=Qq Z.out.hM.m;have aG:=Z.out.hl;have ag:=Z.out.hc;have cb:(rr.length:Int)<((rr.length+1:Nat):Int):=by omega
    have cc:(rr.length:Int)<(rr.length:Int)+1:=by omega
    have e1:(((((k:Int),f,j,a)::rr:List Wq).length:Int)-1)=(rr.length:Int):=by rw[List.length_cons];omega
    rw[e1];obtain⟨W1,aH⟩:∃W1,W1=wr.alloc (.cells #[zI k,zI f,zI j,zI a] 194):=⟨_,rfl⟩;have ad:zB wr W1:=by rw[aH];exact(Below.refl _ wr).alloc L0q _
    have bg:W1.heap[wr.heap.size]? =some (.cells #[zI k,zI f,zI j,zI a] 194):=by rw[aH];exact Qx wr _ rfl
    have Y:=hid (Z.out.hM.below ad);have bh:=hid (y5E ops ns ro oso nso rso ops.length oc M W1 rfl Y.out.pgw (Qj Y.out.m 0 _ rfl).1 k hk f j a hj e);have bi:=hid aH;have aR:=hid bg;have Hj:=hid hj;have Hx:Hid (WqR ops T.size ((k:Int),f,j,a)):=Z.out.hS _ (List.mem_cons_self ..);have ak:=hid (And.intro aG ag);clear ax aH ad bg hj aG ag
    go_wp2_with fail
    rw[<-bi.out];clear bi z0 z1 z2 z3 m7;refine bh.out.mono ?_;rintro e' U ⟨x0,x1,x2,x3,ok,rfl,al,HQ⟩;have aa:=hid (Y.out.below al);have aI:=(al.block _ (Qq aR.out)).trans aR.out;obtain⟨⟨t0,t1,t2,t3⟩,_⟩:=Kd aI;have aS:=Qq aI;have bj:=hid aI;clear al bh Y aR aI;obtain⟨W3,aJ⟩:∃W3,W3=U.alloc (.cells #[zI x0,zI x1,zI x2,zI x3] 194):=⟨_,rfl⟩;have aT:zB U W3:=by rw[aJ];exact(Below.refl _ U).alloc L0q _
    have bk:W3.heap[U.heap.size]? =some (.cells #[zI x0,zI x1,zI x2,zI x3] 194):=by rw[aJ];exact Qx U _ rfl
    have ac:=hid (aa.out.below aT);have aU:=hid ((aT.block _ aS).trans bj.out);have am:=hid bk;have aK:=hid aJ;have ao:ops[((k:Int)).toNat]? =some ops[k]:=by rw[Int.toNat_natCast];exact List.getElem?_eq_getElem hk
    clear aJ aT bk aa bj;cases ok with
    |false=>
     have bl:=HQ.out.1 rfl;obtain⟨E,hE⟩:∃E,E=otc ops[k] ((k:Int),f,j,a) e:=⟨_,rfl⟩;obtain⟨q2,ay,az⟩:∃q2,q2+1=q1/\Mch ops ro T mo (Zk N k f E) c rr (.ret E) r q2:=by
      have hR:=Z.out.hR;cases hR with
      |next G h2 h3=>
       rw[ao]at G;cases G;rw[bl]at h2;cases h2
      |pop G h2 h3=>
       rw[ao]at G;cases G;rw[hE];exact⟨_,rfl,h3⟩
     have aj:∀x,E=some x->x<=T.size:=fun x hx=>y6b (w:=((k:Int),f,j,a)) hf ha Z.out.he (by rw[<-hE];exact hx)
     have aV:=hid (y5J ops ns ro oso nso rso ops.length oc M W3 rfl ac.out.pgw (Qj ac.out.m 0 _ rfl).1 k hk f j a e);rw[<-hE]at aV;have ap:=hid (fun(W':World) (hb:zB W3 W')=>(ac.out.below hb).note HT.out k f hk hf E (fun x hx=>Nat.le_trans (aj x hx) HT.out));have bm:Hid (∀w5,MtM ops ns ro T mo oso nso rso oc nc rc M NB w0 (Zk N k f E) c (((k:Int),f,j,a)::rr) (zS g (rr.length+1) ae) w5->RJs ops ns ro T mo oso nso rso oc nc rc M NB w0 r q2 E (Zk N k f E) c rr (zS g rr.length ae) (w5.setCell ⟨M,7,none⟩ (zS g rr.length ae))):=fun w5 hm=>by
      have G:=ak.out.1;rw[List.length_cons]at G;refine⟨aj,fun k' i' e' h'=> ?_,fun x hx=>Z.out.hS x (List.mem_cons_of_mem _ hx),ak.out.2,by omega,hm.pop,az⟩;by_cases hq:k'=(k:Int)/\i'=f
      ·obtain⟨rfl,rfl⟩:=hq
       rw[Ah]at h';exact aj _ (Option.some.inj h')
      ·rw[Df hq]at h'
       exact Z.out.hN k' i' e' h'
     have aW:=hid ay;clear bl ao hE az aj ay HQ
     go_wp2_with fail
     rw[<-aK.out];clear aK t0 t1 t2 t3;refine aV.out.mono ?_;rintro e4 w4 ⟨rfl,aX⟩;have bn:=hid (ap.out w4 aX);have aY:=(aX.block _ (Qq aU.out)).trans aU.out;obtain⟨⟨t0,t1,t2,t3⟩,_⟩:=Kd aY;have bL:=Qq aY;clear aX aY aV ap am ac aU
     go_wp2_with fail
     clear t0 t1 t2 t3 bL aS;refine bn.out.mono ?_;rintro e5 w5 ⟨rfl,_,aA⟩;have bM:=hid (bm.out w5 aA);obtain⟨m7,f7⟩:=Qj aA.m 7 _ rfl;have cd:=Qq aA.m;have ce:rr.length<=ae:=by
      obtain⟨_,_,_,h',_,_,cf,_⟩:=aA.ow.2.resolve_left (fun h=>by cases h.1);injection h' with _ _ h3
      omega
     have cg:IntKind.i64.wrap ((rr.length:Int)-1)=(rr.length:Int)-1:=by
      have G:=ak.out.1;have h2:=ak.out.2;have h3:=aF.out;rw[List.length_cons]at G;rw[IntKind.wrap_i64];omega
     have ch:(rr.length:Int)<=(ae:Int):=by omega
     clear aA bn bm
     go_wp2_with fail
     refine⟨⟨E,Zk N k f E,c,rr,_,q2,rfl,rfl,by have:=aW.out;omega,bM⟩,?_⟩;simp only[intOf];omega
    |true=>
     obtain⟨j',a',aL,rfl,rfl,rfl,rfl⟩:=HQ.out.2 rfl;obtain⟨aZ,_,aq⟩:=y6c hk Hx.out Z.out.he aL;have aq:j'<ops[k].2.2.2.length:=aq;have bo:a'<=T.size:=by
      obtain⟨_,_,_,_,_,h⟩:=aZ;exact h
     obtain⟨k',ar,aM⟩:=HW.out.part hk aq;obtain⟨q2,ay,az⟩:∃q2,q2+1=q1/\Mch ops ro T mo N c (((k:Int),f,j',a')::rr) (.beg (k':Int) a') r q2:=by
      have hR:=Z.out.hR;cases hR with
      |next G h2 h3=>
       rw[ao]at G;cases G;rw[aL]at h2;cases h2;rw[<-ar];exact⟨_,rfl,h3⟩
      |pop G h2 h3=>
       rw[ao]at G;cases G;rw[aL]at h2;cases h2
     obtain⟨V,hV⟩:∃V,V=(z6l W3 g (rr.length*4) (k:Int) (f:Int) (j':Int) (a':Int)).drew:=⟨_,rfl⟩;have aN:Hid (MtM ops ns ro T mo oso nso rso oc nc rc M NB w0 N c (((k:Int),f,j',a')::rr) (zS g (rr.length+1) ae) V):=by rw[hV];exact(ac.out.swap (x':=((k:Int),f,j',a'))).below B0q.drew
     have gn:U.heap.size≠g:=fun e=>by
      have h2:=(Z.out.hM.ow.lt g rfl).2;have h3:=aS;omega
     have aO:V.heap[U.heap.size]? =some (.cells #[zI (k:Int),zI (f:Int),zI (j':Int),zI (a':Int)] 194):=by
      rw[hV];exact(Below.heap_setCell _ _ _ _ gn).trans ((Below.heap_setCell _ _ _ _ gn).trans ((Below.heap_setCell _ _ _ _ gn).trans ((Below.heap_setCell _ _ _ _ gn).trans am.out)))
     have HS:Hid (zC W3.drew M 7 (zS g (rr.length+1) ae)/\zC W3.drew U.heap.size 0 (zI (k:Int))/\zC W3.drew U.heap.size 1 (zI (f:Int))/\zC W3.drew U.heap.size 2 (zI (j':Int))/\zC W3.drew U.heap.size 3 (zI (a':Int))):=⟨(Qj ac.out.m 7 _ rfl).1,(Qj am.out 0 _ rfl).1,(Qj am.out 1 _ rfl).1,(Qj am.out 2 _ rfl).1,(Qj am.out 3 _ rfl).1⟩;obtain⟨g',ci,eg,_,_,cj,aB,bp⟩:=ac.out.shape;injection eg with eg _ _
     injection eg with eg
     injection eg with eg _ _
     subst eg;have y0:=aB 0 _ rfl;have y1:=aB 1 _ rfl;have y2:=aB 2 _ rfl;have y3:=aB 3 _ rfl;dsimp only[Nat.add_zero]at y0 y1 y2 y3;have HY:=hid (And.intro y0 (And.intro y1 (And.intro y2 y3)));have aP:=hid bp;have au:=hid (z6f ops ns ro oso nso rso ops.length oc ns.length nc ro.length rc M V.drew rfl rfl (aN.out.below (Below.refl _ V).drew).pgw (Qj aN.out.m 0 _ rfl).1 (Qj aN.out.m 2 _ rfl).1 k hk j' aq (fun h=>HW.out.rf k hk h _ (List.getElem_mem aq)));rw[ar]at au;have aQ:Hid (∀w7,Below V.drew.heap.size V.drew w7->MJs ops ns ro T mo oso nso rso oc nc rc M NB w0 r q2 k' a' N c (((k:Int),f,j',a')::rr) (zS g (rr.length+1) ae) w7):=fun w7 hb=>⟨aM,bo,Z.out.hN,fun x hx=>by
      rcases List.mem_cons.1 hx with rfl|hx
      ·exact aZ
      ·exact Z.out.hS x (List.mem_cons_of_mem _ hx),ak.out.2,by have:=ak.out.1;rw[List.length_cons]at this ⊢;exact this,(aN.out.below (Below.refl _ V).drew).below hb,az⟩
     have bN:Hid (zC V.drew U.heap.size 0 (zI (k:Int))/\zC V.drew U.heap.size 2 (zI (j':Int))/\zC V.drew U.heap.size 3 (zI (a':Int))):=⟨(Qj aO 0 _ rfl).1,(Qj aO 2 _ rfl).1,(Qj aO 3 _ rfl).1⟩;have HV:=hid hV;have aW:=hid ay;clear aL aZ aq bo ar aM az ay hV gn aO aB bp y0 y1 y2 y3 ao HQ
     go_wp2_with fail
     rw[<-aK.out];clear aK t0 t1 t2 t3;refine Qc 7 (fun X:World=>zC X M 7 (zS g (rr.length+1) ae)/\zC X U.heap.size 0 (zI (k:Int))/\zC X U.heap.size 1 (zI (f:Int))/\zC X U.heap.size 2 (zI (j':Int))/\zC X U.heap.size 3 (zI (a':Int))) (by kernel_rfl) HS.out (fun A=> ?_);refine Qz 0 A ?_;refine Qz 1 A ?_;refine Qz 2 A ?_;refine Qz 3 A ?_;refine Qz 4 A ?_;refine Qz 5 A ?_;refine Qz 6 A ?_;refine Yj (fun K hK=> ?_);obtain⟨y0,y1,y2,y3⟩:=HY.out;have bO:=aP.out (rr.length*4);have bP:=aP.out (rr.length*4+1);have bQ:=aP.out (rr.length*4+2);have bR:=aP.out (rr.length*4+3);clear A
     go_simp
     refine hK.out _ _ ?_;clear hK K y0 y1 y2 y3 bO bP bQ bR;rw[<-z6l,<-HV.out]
     go_wp2_with fail
     refine Qc 99 (fun X:World=>zC X U.heap.size 0 (zI (k:Int))/\zC X U.heap.size 2 (zI (j':Int))/\zC X U.heap.size 3 (zI (a':Int))) (by kernel_rfl) bN.out (fun A=> ?_);refine Qz 0 A ?_;refine Qz 1 A ?_;refine Qz 2 A ?_;refine Qz 3 A ?_;refine Qz 4 A ?_;refine Qz 6 A ?_;refine Qz 7 A ?_
     (refine Qv 5 (fun K hK=> ?_);go_simp;refine au.out.mono ?_;rintro e7 w7 ⟨rfl,av⟩;go_simp;replace A:=Dy A av;have a1:=hid (aQ.out w7 av);clear av;refine hK.out _ _ A ?_;clear hK K)
     (try simp only[Act.put,zY])
     refine Qz 8 A ?_;refine Qz 9 A ?_;refine⟨by kernel_rfl,?_⟩;clear A
     go_wp2_with fail
     go_step3
     (try simp only[Exit.inBlock,Exit.then])
     exact⟨rfl,q2,by have:=aW.out;omega,k',a',N,c,_,_,Am (by rfl),a1⟩
 have ab:=hid (D.out.hM.noted HT.out D.out.hN k i D.out.hk D.out.hi);have bS:=D.out.hR;cases bS with
 |bud G=>
  rw[G]at ab;dsimp only[ntc]at ab
  go_wp2_with fail
  refine ab.out.mono ?_;rintro e w1 ⟨rfl,ad⟩;have Y:=hid (D.out.hM.below ad);clear ad ab
  go_wp2_with fail
  refine Qc 99 (fun X:World=>zC X M 5 (zI (mo:Int))/\zC X M 6 (zI (mo:Int))) (by kernel_rfl) (show _/\_ from⟨(Qj Y.out.m 5 _ rfl).1,(Qj Y.out.m 6 _ rfl).1⟩) (fun A=> ?_);refine Qz 0 A ?_;refine Qz 1 A ?_;refine Qz 2 A ?_;refine Qz 3 A ?_;refine Qz 4 A ?_;refine Qz 5 A ?_;refine Qz 6 A ?_;refine Qz 7 A ?_;refine Qz 8 A ?_;refine⟨by kernel_rfl,?_⟩;clear A
  go_wp2_with fail
  refine bodyPost_ret (v:=.iface 34 (zI 50)) (by simp[results,Tryz.results52,go_sem]) rfl ?_;exact⟨rfl,Y.out.be.drew⟩
 | @noted _ _ _ _ _ e _ q' G h2=>
   rw[G]at ab;dsimp only[ntc]at ab;have HR:Hid (∀w',zB W w'->RJs ops ns ro T mo oso nso rso oc nc rc M NB w0 r q' e N c S v w'):=fun w' hb=>⟨fun x hx=>D.out.hN k i x (by rw[G,hx]),D.out.hN,D.out.hS,D.out.hc,D.out.hl,D.out.hM.below hb,h2⟩
   clear G h2
   go_wp2_with fail
   refine ab.out.mono ?_;rintro e1 w1 ⟨rfl,ad⟩;have bT:=hid (HR.out w1 ad);clear ad ab HR
   go_wp2_with fail
   exact⟨q',Nat.lt_succ_self _,e,N,c,S,v,Am (by rfl),bT⟩
 | @leaf _ _ _ _ _ o _ q' G h2 h3 h4 h5=>
   rw[Int.toNat_natCast]at h3;obtain⟨hk,ho⟩:=List.getElem?_eq_some_iff.1 h3;rw[G]at ab;dsimp only[ntc]at ab
   go_wp2_with fail
   refine ab.out.mono ?_;rintro e w1 ⟨rfl,ad⟩;have Y:=hid (D.out.hM.below ad);clear ad ab;have a0:((c:Int) == (mo:Int))=false:=by simp;omega
   have ag:=D.out.hc;have ai:=aF.out;have bU:IntKind.i64.wrap ((c:Int)+1)=(c:Int)+1:=by rw[IntKind.wrap_i64];omega
   obtain⟨V,hV⟩:∃V,V=(w1.setCell ⟨M,5,none⟩ (zI ((c:Int)+1))).drew:=⟨_,rfl⟩;have aa:Hid (MtM ops ns ro T mo oso nso rso oc nc rc M NB w0 N (c+1) S v V):=by
    have:=(Y.out.count (c+1)).below B0q.drew;rw[show((c+1:Nat):Int)=(c:Int)+1 by omega]at this;rw[hV];exact this
   obtain⟨g,rfl,hg,so,ae,⟨a2,a3,a4,a5,a6,a7,af⟩,a8,a9⟩:=aa.out.pgw.o k hk;rw[ho,h4]at af;dsimp only[List.length_nil]at af;have ba:=hid (y5R ops ns ro (some ⟨g,0,none⟩) nso rso ops.length oc M T V rfl aa.out.pgw HT.out (Qj aa.out.m 0 _ rfl).1 (Qj aa.out.m 3 _ rfl).1 k hk i D.out.hi (HW.out.cl k hk));have ap:=hid (fun(W':World) (hb:zB V W')=>(aa.out.below hb).note HT.out k i hk D.out.hi (aln T ops[k] i) (fun x hx=>Nat.le_trans (z6k D.out.hi hx) HT.out));obtain⟨E,hE⟩:∃E,E=aln T ops[k] i:=⟨_,rfl⟩;have HR:Hid (∀w',MtM ops ns ro T mo (some ⟨g,0,none⟩) nso rso oc nc rc M NB w0 (Zk N k i E) (c+1) S v w'->RJs ops ns ro T mo (some ⟨g,0,none⟩) nso rso oc nc rc M NB w0 r q' E (Zk N k i E) (c+1) S v w'):=fun w' hm=>by
    have aj:∀x,E=some x->x<=T.size:=fun x hx=>by rw[hE]at hx;exact z6k D.out.hi hx
    refine⟨aj,fun k' i' e' h'=> ?_,D.out.hS,by omega,Nat.le_succ_of_le D.out.hl,hm,by rw[hE,ho];exact h5⟩;by_cases hq:k'=(k:Int)/\i'=i
    ·obtain⟨rfl,rfl⟩:=hq
     rw[Ah]at h';exact aj _ (Option.some.inj h')
    ·rw[Df hq]at h'
     exact D.out.hN k' i' e' h'
   rw[<-hE]at ba ap;have m5:=Qj Y.out.m 5 _ rfl;have lm:M<w1.heap.size:=Qq Y.out.m;have x5:zC w1.drew M 5 (zI (c:Int)):=m5.1;have y5:w1.drew.frozen? ⟨M,5,none⟩=false:=m5.2;have aC:zC V M 0 (zS g ops.length oc):=(Qj aa.out.m 0 _ rfl).1;have bV:(k:Int)<(ops.length:Int):=by omega
   have lV:M<V.heap.size:=Qq aa.out.m;rw[hV]at aC af lV;have HV:=hid hV;clear G h2 h3 h4 h5 hV hE a2 a3 a4 a5 a6 a7 a8 a9 ho ag ai m5
   go_wp2_with fail
   refine Qc 99 (fun X:World=>zC X M 5 (zI (c:Int))/\zC X M 6 (zI (mo:Int))) (by kernel_rfl) (show _/\_ from⟨(Qj Y.out.m 5 _ rfl).1,(Qj Y.out.m 6 _ rfl).1⟩) (fun A=> ?_);refine Qz 0 A ?_;refine Qz 1 A ?_;refine Qz 2 A ?_;refine Qz 3 A ?_;refine Qz 4 A ?_;refine Qz 5 A ?_;refine Qz 6 A ?_;refine Qz 7 A ?_;refine Qz 8 A ?_;refine⟨by kernel_rfl,?_⟩;clear A
   go_wp2_with fail
   rw[<-HV.out];clear x5 y5 aC af lV lm HV;refine ba.out.mono ?_;rintro e1 U ⟨rfl,al⟩;have bq:=hid (ap.out U al);clear al ba ap
   go_wp2_with fail
   refine bq.out.mono ?_;rintro e2 w3 ⟨rfl,_,br⟩;have bW:=hid (HR.out w3 br);clear br bq HR
   go_wp2_with fail
   exact⟨q',Nat.lt_succ_self _,E,Zk N k i E,c+1,S,v,Am (by rfl),bW⟩
 | @push _ _ _ _ _ o _ q' G h2 h3 h4 h5=>
   rw[Int.toNat_natCast]at h3;obtain⟨hk,ho⟩:=List.getElem?_eq_some_iff.1 h3;rw[G]at ab;dsimp only[ntc]at ab
   go_wp2_with fail
   refine ab.out.mono ?_;rintro e w1 ⟨rfl,ad⟩;have Y:=hid (D.out.hM.below ad);clear ad ab;have a0:((c:Int) == (mo:Int))=false:=by simp;omega
   have ag:=D.out.hc;have ai:=aF.out;have bU:IntKind.i64.wrap ((c:Int)+1)=(c:Int)+1:=by rw[IntKind.wrap_i64];omega
   obtain⟨V,hV⟩:∃V,V=(w1.setCell ⟨M,5,none⟩ (zI ((c:Int)+1))).drew:=⟨_,rfl⟩;have aa:Hid (MtM ops ns ro T mo oso nso rso oc nc rc M NB w0 N (c+1) S v V):=by
    have:=(Y.out.count (c+1)).below B0q.drew;rw[show((c+1:Nat):Int)=(c:Int)+1 by omega]at this;rw[hV];exact this
   obtain⟨g,rfl,hg,so,ae,⟨a2,a3,a4,a5,a6,a7,af⟩,a8,a9⟩:=aa.out.pgw.o k hk;rw[ho]at af;obtain⟨L,hL⟩:∃L,L=o.2.2.2.length:=⟨_,rfl⟩;have bs:0<L:=by
    rw[hL];cases ho':o.2.2.2 with
    |nil=>exact absurd ho' h4
    |cons y z=>simp
   rw[<-hL]at af;have ck:(0:Int)<(L:Int):=by omega
   have cm:decide (0<L)=true:=by simpa using bs
   have m5:=Qj Y.out.m 5 _ rfl;have lm:M<w1.heap.size:=Qq Y.out.m;have x5:zC w1.drew M 5 (zI (c:Int)):=m5.1;have y5:w1.drew.frozen? ⟨M,5,none⟩=false:=m5.2;have aC:zC V M 0 (zS g ops.length oc):=(Qj aa.out.m 0 _ rfl).1;have bV:(k:Int)<(ops.length:Int):=by omega
   have lV:M<V.heap.size:=Qq aa.out.m;have bt:zC V M 7 v:=(Qj aa.out.m 7 _ rfl).1;have bu:V.frozen? ⟨M,7,none⟩=false:=(Qj aa.out.m 7 _ rfl).2;rw[hV]at aC af lV bt bu;have HV:=hid hV;obtain⟨iT,bX,bY,bZ,b0⟩:=info_parts Tryz.infoWtr;have b1:Hid (MtM ops ns ro T mo (some ⟨g,0,none⟩) nso rso oc nc rc M NB w0 N (c+1) S v (w1.setCell ⟨M,5,none⟩ (zI ((c:Int)+1)))):=by
    have:=Y.out.count (c+1);rw[show((c+1:Nat):Int)=(c:Int)+1 by omega]at this;exact this
   obtain⟨Wn,aD⟩:∃Wn,Wn=((w1.setCell ⟨M,5,none⟩ (zI ((c:Int)+1))).alloc (.cells #[zI k,zI i,zI 0,zI i] 194)).drew:=⟨_,rfl⟩;have ac:Hid (MtM ops ns ro T mo (some ⟨g,0,none⟩) nso rso oc nc rc M NB w0 N (c+1) S v Wn):=by rw[aD];exact b1.out.below (B0q.alloc L0q _).drew
   have bv:Wn.heap[w1.heap.size]? =some (.cells #[zI k,zI i,zI 0,zI i] 194):=by rw[aD];exact Qx (w1.setCell ⟨M,5,none⟩ (zI ((c:Int)+1))) _ (by simp)
   have bw:∀j u,([zI k,zI i,zI 0,zI i]:List Value)[j]? =some u->Wn.cell? ((⟨w1.heap.size,0,none⟩:Addr).add j)=some u:=World.news_of_block bv;have bx:=hid bw;have b2:=D.out.hl;have bz:Hid (S.length+1<=maxLen/\(S.length+1)*32<=140737488355328):=⟨by unfold maxLen;omega,by omega⟩;have bb:Wn.heap.size=w1.heap.size+1:=by rw[aD];simp
   have bA:=hid bb;have bC:=hid aD;have b3:Hid (w0.heap.size<=Wn.heap.size):=ac.out.be.size;have bD:Hid (∀g6 ah w6,w6.ownsRow w0.heap.size 194 4 (zS g6 (S.length+1) ah) (S.length+1) (wqV S++[zI k,zI i,zI 0,zI i])->Wn.grownBy w6 v.ownBlock->(v.ownBlock=some g6∨g6=w1.heap.size+1)->MtM ops ns ro T mo (some ⟨g,0,none⟩) nso rso oc nc rc M NB w0 N (c+1) (((k:Int),i,0,i)::S) (zS g6 (S.length+1) ah) (w6.setCell ⟨M,7,none⟩ (zS g6 (S.length+1) ah))):=fun g6 ah w6 G h2 h3=>ac.out.push G h2 (h3.imp id (fun e=>by rw[e,bb];exact Nat.le_refl _))
   have bE:Hid (∀w6:World,Wn.grownBy w6 v.ownBlock->zC w6 M 7 v/\w6.frozen? ⟨M,7,none⟩=false/\M<w6.heap.size):=fun w6 b4=>by
    have e:=(b4.block M (Qq ac.out.m) (fun e=>ac.out.nm e.symm)).trans ac.out.m;exact⟨(Qj e 7 _ rfl).1,(Qj e 7 _ rfl).2,Qq e⟩
   have b5:Hid (0<o.2.2.2.length):=by rw[<-hL];exact bs
   have Ho:=hid ho;have b6:Hid (c+1<=mo):=by show _<=_;omega
   have H5:=hid h5;clear h5 ho hL aD bb bv bw b2;clear G h2 h3 h4 hV a2 a3 a4 a5 a6 a7 a8 a9 ag ai m5
   go_wp2_with fail
   refine Qc 99 (fun X:World=>zC X M 5 (zI (c:Int))/\zC X M 6 (zI (mo:Int))) (by kernel_rfl) (show _/\_ from⟨(Qj Y.out.m 5 _ rfl).1,(Qj Y.out.m 6 _ rfl).1⟩) (fun A=> ?_);refine Qz 0 A ?_;refine Qz 1 A ?_;refine Qz 2 A ?_;refine Qz 3 A ?_;refine Qz 4 A ?_;refine Qz 5 A ?_;refine Qz 6 A ?_;refine Qz 7 A ?_;refine Qz 8 A ?_;refine⟨by kernel_rfl,?_⟩;clear A
   go_wp2_with(first
    |(at_builtin;rw[<-bC.out];refine wpList_append_lies _ rfl (.tmp 54) (.tmp 59) 130 rfl w0.heap.size 194 iT (.agg #[zI 0,zI 0,zI 0,zI 0]) 4 32 Tryz.underlying130 bX bY bZ b0 rfl (by decide) v S.length (wqV S) rfl ac.out.ow ⟨w1.heap.size,0,none⟩ 1 1 [zI k,zI i,zI 0,zI i] rfl rfl bx.out (by simp[Value.oneCell']) (by decide) bz.out.1 bz.out.2 b3.out (w1.heap.size+1) bA.out ?_;intro g6 ah w6 bF bc bG cn;have aw:=hid (bD.out g6 ah w6 bF bc bG);obtain⟨x7,y7,l7⟩:=bE.out w6 bc;clear bF bc bG bD bE bx ac))
   obtain⟨W6,bH⟩:∃W6,W6=w6.setCell ⟨M,7,none⟩ (zS g6 (S.length+1) ah):=⟨_,rfl⟩;rw[<-bH]at aw ⊢;have aE:0<ops[k].2.2.2.length:=by rw[Ho.out];exact b5.out
   obtain⟨k',ar,aM⟩:=HW.out.part hk aE;have au:=hid (z6f ops ns ro (some ⟨g,0,none⟩) nso rso ops.length oc ns.length nc ro.length rc M W6 rfl rfl aw.out.pgw (Qj aw.out.m 0 _ rfl).1 (Qj aw.out.m 2 _ rfl).1 k hk 0 aE (fun h=>HW.out.rf k hk h _ (List.getElem_mem aE)));have b7:Hid (Mch ops ro T mo N (c+1) (((k:Int),i,0,i)::S) (.beg (k':Int) i) r q'):=by rw[<-ar,Ho.out];exact H5.out
   rw[ar]at au;have aQ:Hid (∀w7,zB W6 w7->MJs ops ns ro T mo (some ⟨g,0,none⟩) nso rso oc nc rc M NB w0 r q' k' i N (c+1) (((k:Int),i,0,i)::S) (zS g6 (S.length+1) ah) w7):=fun w7 hb=>by
    refine⟨aM,D.out.hi,D.out.hN,fun x hx=> ?_,b6.out,Nat.succ_le_succ D.out.hl,aw.out.below hb,b7.out⟩;rcases List.mem_cons.1 hx with rfl|hx
    ·exact⟨k,hk,rfl,D.out.hi,aE,D.out.hi⟩
    ·exact D.out.hS x hx
   clear bH aE x7 y7 l7 x5 y5 aC af lV lm bt bu bC bA;refine au.out.mono ?_;rintro e7 w7 ⟨rfl,av⟩;have a1:=hid (aQ.out w7 av);clear av au aQ aw
   go_wp2_with fail
   go_step3
   (try simp only[Exit.then])
   exact⟨rfl,q',Nat.lt_succ_self _,k',i,N,c+1,((k:Int),i,0,i)::S,_,Am (by rfl),a1⟩
end
end Go.Proofs.YtmelafeingcgnaaGreatDoor
