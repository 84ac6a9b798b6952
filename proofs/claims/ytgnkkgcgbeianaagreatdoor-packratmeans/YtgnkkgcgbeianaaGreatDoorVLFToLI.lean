/- Lemmas for the last text. Conditions: those that each names. -/
import Derived.Test.YtgnkkgcgbeianaaGreatDoorVLBToLE
import Derived.ScopeJumps
import Derived.WalkMore
import Derived.WalkSmall
import Derived.Deep.AppendLies
import Derived.Deep.RegionLaw
set_option linter.unusedVariables false
set_option maxRecDepth 100000
set_option maxHeartbeats 64000000
namespace Go.Proofs.YtgnkkgcgbeianaaGreatDoor
open Go.Proofs.Tryz
open Go.RowKit Go.Shelf Go.Maps
def ntc(x:Option (Option Nat)):Bool×Int:=match x with|none=>(false,0)|some e=>(true,enE e)
def ntS(ol:Nat)(g:Option Nat):Value:=match g with|none=>.slice none 0 0|some g=>zS g ol ol
structure NtM (ol n:Nat) (NB B:Nat) (X:Nat->Prop) (N:Nt) (G:Nat->Option Nat) (W:World):Prop where
 nb:∃cur,W.heap[NB]? =some (.cells cur 158)/\∀i,i<=n->cur[i]? =some (ntS ol (G i))
 no:∀i,i<=n->G i=none->∀k,N k i=none
 so:∀i,i<=n->∀g,G i=some g->B<=g/\¬X g/\g≠NB/\∃cr,W.heap[g]? =some (.cells cr 160)/\∀k:Nat,k<ol->cr[k*2]? =some (.bool (ntc (N k i)).1)/\cr[k*2+1]? =some (.int .i32 (ntc (N k i)).2)
 inj:∀i j g,i<=n->j<=n->G i=some g->G j=some g->i=j
theorem NtM.keep{t n NB B:Nat}{X y:Nat->Prop}{N:Nt}{G:Nat->Option Nat}{W W':World}(h:NtM t n NB B X N G W)(A:∀g,(g=NB∨∃i,i<=n/\G i=some g)->W'.heap[g]? =W.heap[g]?)(D:∀g,(∃i,i<=n/\G i=some g)->¬y g):NtM t n NB B y N G W':=by
 obtain⟨E,I,U⟩:=h.nb;refine⟨⟨E,(A _ (.inl rfl)).trans I,U⟩,h.no,fun i o g r=> ?_,h.inj⟩;obtain⟨a,b,c,V,d,e⟩:=h.so i o g r;exact⟨a,D g ⟨i,o,r⟩,c,V,(A _ (.inr ⟨i,o,r⟩)).trans d,e⟩
theorem NtM.below{t n NB B:Nat}{X:Nat->Prop}{N:Nt}{G:Nat->Option Nat}{W W':World}(h:NtM t n NB B X N G W)(y:zB W W'):NtM t n NB B X N G W':=by
 refine h.keep (fun g o=> ?_) (fun g o=> ?_)
 ·rcases o with rfl|⟨i,r,o⟩
  ·obtain⟨D,A,_⟩:=h.nb
   exact y.block _ (Qq A)
  ·obtain⟨_,_,_,E,d,_⟩:=h.so i r g o
   exact y.block _ (Qq d)
 ·obtain⟨i,r,o⟩:=o
  exact(h.so i r g o).2.1
theorem y5J{n:Nat}(o:n<=4096){x:Option (Option Nat)}(h:∀e,x=some (some e)->e<=n):(ntc x).2<2147483648/\ -2147483648<=(ntc x).2:=by
 cases x with
 |none=>exact⟨by decide,by decide⟩
 |some e=>
  cases e with
  |none=>exact⟨by decide,by decide⟩
  |some e=>
   have:=h e rfl;show((e:Nat):Int)<_/\_<=((e:Nat):Int);omega
theorem y5K{o n NB B M:Nat}{X:Nat->Prop}{N:Nt}{G:Nat->Option Nat}{w:World}(h:NtM o n NB B X N G w)(E:n<=4096)(I:∀k i e,N k i=some (some e)->e<=n)(nc:Nat)(A:zC w M 4 (zS NB (n+1) nc))(k i:Nat)(t:k<o)(y:i<=n):
  Calls prog 41 #[zP M 0,zI k,zI i] w fun e w'=>e=.returned (.tuple #[zI (ntc (N k i)).2,.bool (ntc (N k i)).1])/\zB w w':=by
 obtain⟨Z,D,U⟩:=h.nb;have r:=U i y;cases hg:G i with
 |none=>
  rw[hg]at r;have:=h.no i y hg k;rw[this];exact y5g M NB (n+1) nc k i w A (by omega) (Qj D i _ r).1
 |some g=>
  rw[hg]at r;obtain⟨_,_,_,cr,d,e⟩:=h.so i y g hg;exact y5h M NB (n+1) nc g o o k i _ _ (y5J E (fun V Y=>I k i V Y)) w A (by omega) (Qj D i _ r).1 t (Qj d _ _ (e k t).1).1 (Qj d _ _ (e k t).2).1
theorem Ad(N:Nt)(k:Int)(i:Nat)(e:Option Nat):Zf N k i e k i=some e:=if_pos ⟨rfl,rfl⟩
theorem Df{N:Nt}{k k':Int}{i o:Nat}{e:Option Nat}(h:¬(k'=k/\o=i)):Zf N k i e k' o=N k' o:=if_neg h
theorem z6i{r:Nat}{o:Array Value}{N:Nt}{i k:Nat}{e:Option Nat}(t:k<r)(h:∀k:Nat,k<r->o[k*2]? =some (.bool (ntc (N k i)).1)/\o[k*2+1]? =some (.int .i32 (ntc (N k i)).2)):∀k':Nat,k'<r->((o.setIfInBounds (k*2) (.bool true)).setIfInBounds (k*2+1) (.int .i32 (enE e)))[k'*2]? =some (.bool (ntc (Zf N k i e k' i)).1)/\((o.setIfInBounds (k*2) (.bool true)).setIfInBounds (k*2+1) (.int .i32 (enE e)))[k'*2+1]? =some (.int .i32 (ntc (Zf N k i e k' i)).2):=by
 intro k' y;have A:=(Array.getElem?_eq_some_iff.1 (h k t).1).1;have D:=(Array.getElem?_eq_some_iff.1 (h k t).2).1;by_cases he:k'=k
 ·subst he
  rw[Ad];constructor
  ·rw[Array.getElem?_setIfInBounds_ne (by omega),Array.getElem?_setIfInBounds_self_of_lt A];rfl
  ·rw[Array.getElem?_setIfInBounds_self_of_lt (by rw[Array.size_setIfInBounds];exact D)];rfl
 ·rw[Df (fun E=>he (by have:=E.1;omega))]
  constructor
  ·rw[Array.getElem?_setIfInBounds_ne (by omega),Array.getElem?_setIfInBounds_ne (by omega)];exact(h k' y).1
  ·rw[Array.getElem?_setIfInBounds_ne (by omega),Array.getElem?_setIfInBounds_ne (by omega)];exact(h k' y).2
theorem y5L{o n NB B M:Nat}{X:Nat->Prop}{N:Nt}{G:Nat->Option Nat}{w:World}(h:NtM o n NB B X N G w)(ak:o<=200)(hB:B<=w.heap.size)(al:B<=NB)(hX:∀g,X g->g<w.heap.size)(am:M≠NB)(oso:Option Addr)(oc nc:Nat)(m0:zC w M 0 (.slice oso o oc))(m4:zC w M 4 (zS NB (n+1) nc))(k i:Nat)(I:k<o)(hi:i<=n)(e:Option Nat)(he:∀x,e=some x->x<=4096):
  Calls prog 72 #[zP M 0,zI k,zI i,zI (enE e)] w fun e' w'=>e'=.returned (.tuple #[])/\Below B w w'/\(∀g,g<w.heap.size->g≠NB->(∀i,i<=n->G i≠some g)->w'.heap[g]? =w.heap[g]?)/\∃G',NtM o n NB B X (Zf N k i e) G' w':=by
 have hE:enE e<2147483648/\ -2147483648<=enE e:=by
  cases e with
  |none=>exact⟨by decide,by decide⟩
  |some x=>have:=he x rfl;show((x:Nat):Int)<_/\_<=((x:Nat):Int);omega
 obtain⟨ae,Z,h2⟩:=h.nb;have aa:=h2 i hi;cases A:G i with
 |some g=>
  rw[A]at aa;obtain⟨ah,aA,ao,cr,d,ee⟩:=h.so i hi g A;obtain⟨q0,q1⟩:=Qj d _ _ (ee k I).1;obtain⟨q2,q3⟩:=Qj d _ _ (ee k I).2;refine(y5H M NB (n+1) nc g o o k i (enE e) hE _ _ w m4 (by omega) (Qj Z i _ aa).1 I q0 q2 q1 q3).mono ?_;rintro e' w' ⟨rfl,rfl⟩;have U:∀b,b≠g->((w.setCell ⟨g,k*2,none⟩ (.bool true)).setCell ⟨g,k*2+1,none⟩ (.int .i32 (enE e))).heap[b]? =w.heap[b]? :=fun b r=>(Below.heap_setCell _ _ _ _ r).trans (Below.heap_setCell _ _ _ _ r)
  refine⟨rfl,((Below.refl B w).setCell (p:=⟨g,k*2,none⟩) ah _).setCell (p:=⟨g,k*2+1,none⟩) ah _,fun b _ _ ap=>U b (fun t=>ap i hi (by rw[t];exact A)),G,?_⟩;refine⟨⟨ae,(U _ (fun t=>ao t.symm)).trans Z,h2⟩,fun j y E k'=> ?_,fun j y b r=> ?_,h.inj⟩
  ·rw[Df (fun t=>by rw[t.2,A]at E;cases E)]
   exact h.no j y E k'
  ·obtain⟨a1,a2,a3,cb,a4,a5⟩:=h.so j y b r
   refine⟨a1,a2,a3,?_⟩;by_cases hji:j=i
   ·subst hji
    rw[A]at r;cases r;rw[d]at a4;cases a4;exact⟨_,Qw (Qw d _ _) _ _,z6i I ee⟩
   ·refine⟨cb,(U b (fun t=>hji (h.inj j i g y hi (by rw[r,t]) A))).trans a4,fun k' ab=> ?_⟩
    rw[Df (fun t=>hji t.2)];exact a5 k' ab
 |none=>
  rw[A]at aa;have aq:=Qq Z;refine(y5I M NB (n+1) nc oso oc o ak k i (enE e) hE w m0 m4 (by omega) ae _ Z aa am I).mono ?_;rintro e' w' ⟨rfl,rfl⟩;obtain⟨s,hs⟩:∃s,s=w.heap.size:=⟨_,rfl⟩;obtain⟨V,ai⟩:∃V,V=madeCells #[.bool false,.int .i32 0] (o*2):=⟨_,rfl⟩;have af:s≠NB:=by omega
  have e4:nwN w NB i o k (enE e)=(((w.alloc (.cells V 160)).drew.setCell ⟨NB,i,none⟩ (zS s o o)).setCell ⟨s,k*2,none⟩ (.bool true)).setCell ⟨s,k*2+1,none⟩ (.int .i32 (enE e)):=by unfold nwN;rw[ai,hs]
  rw[e4];obtain⟨D,ag⟩:∃D,D=(w.alloc (.cells V 160)).drew:=⟨_,rfl⟩;rw[<-ag];have ac:zB w D:=by rw[ag];exact((Below.refl _ w).alloc L0q _).drew
  have ar:zH D s (.cells V 160):=by rw[ag,hs];exact Qx w _ rfl
  have au:zH D NB (.cells ae 158):=(ac.block _ aq).trans Z;have U:∀b,b<w.heap.size->b≠NB->(((D.setCell ⟨NB,i,none⟩ (zS s o o)).setCell ⟨s,k*2,none⟩ (.bool true)).setCell ⟨s,k*2+1,none⟩ (.int .i32 (enE e))).heap[b]? =w.heap[b]? :=fun b r av=>(Below.heap_setCell _ _ _ _ (show b≠s by omega)).trans ((Below.heap_setCell _ _ _ _ (show b≠s by omega)).trans ((Below.heap_setCell _ _ _ _ av).trans (ac.block _ r)))
  have aw:(((D.setCell ⟨NB,i,none⟩ (zS s o o)).setCell ⟨s,k*2,none⟩ (.bool true)).setCell ⟨s,k*2+1,none⟩ (.int .i32 (enE e))).heap[NB]? =some (.cells (ae.setIfInBounds i (zS s o o)) 158):=(Below.heap_setCell _ _ _ _ (Ne.symm af)).trans ((Below.heap_setCell _ _ _ _ (Ne.symm af)).trans (Qw au _ _));have ax:(((D.setCell ⟨NB,i,none⟩ (zS s o o)).setCell ⟨s,k*2,none⟩ (.bool true)).setCell ⟨s,k*2+1,none⟩ (.int .i32 (enE e))).heap[s]? =some (.cells ((V.setIfInBounds (k*2) (.bool true)).setIfInBounds (k*2+1) (.int .i32 (enE e))) 160):=Qw (Qw ((Below.heap_setCell _ _ _ _ af).trans ar) _ _) _ _;have ay:Below B w (((D.setCell ⟨NB,i,none⟩ (zS s o o)).setCell ⟨s,k*2,none⟩ (.bool true)).setCell ⟨s,k*2+1,none⟩ (.int .i32 (enE e))):=(((ac.mono hB).setCell (p:=⟨NB,i,none⟩) al _).setCell (p:=⟨s,k*2,none⟩) (by show B<=s;omega) _).setCell (p:=⟨s,k*2+1,none⟩) (by show B<=s;omega) _;refine⟨rfl,ay,fun b ac az _=>U b ac az,fun j=>if j=i then some s else G j,?_⟩;have aj:∀j,j<=n->∀g,G j=some g->g<w.heap.size:=fun j y g A=>by
   obtain⟨_,_,_,cr,d,_⟩:=h.so j y g A;exact Qq d
  refine⟨⟨_,aw,fun j y=> ?_⟩,fun j y E k'=> ?_,fun j y b r=> ?_,fun a b g ha r ad Y=> ?_⟩
  ·by_cases hji:j=i
   ·subst hji
    rw[if_pos rfl,Array.getElem?_setIfInBounds_self_of_lt (Array.getElem?_eq_some_iff.1 aa).1];rfl
   ·rw[if_neg hji,Array.getElem?_setIfInBounds_ne (Ne.symm hji)]
    exact h2 j y
  ·by_cases hji:j=i
   ·rw[if_pos hji]at E;cases E
   ·rw[if_neg hji]at E
    rw[Df (fun t=>hji t.2)];exact h.no j y E k'
  ·by_cases hji:j=i
   ·rw[if_pos hji]at r
    cases r;subst hji;refine⟨by omega,fun hx=>absurd (hX _ hx) (by omega),af,_,ax,z6i (N:=N) I fun k' ab=> ?_⟩;rw[h.no j y A k',ai];exact z6h ab
   ·rw[if_neg hji]at r
    obtain⟨a1,a2,a3,cb,a4,a5⟩:=h.so j y b r;refine⟨a1,a2,a3,cb,(U b (Qq a4) a3).trans a4,fun k' ab=> ?_⟩;rw[Df (fun t=>hji t.2)];exact a5 k' ab
  ·by_cases h5:a=i
   ·rw[if_pos h5]at ad
    cases ad;by_cases h6:b=i
    ·rw[h5,h6]
    ·rw[if_neg h6]at Y
     have:=aj b r _ Y;omega
   ·rw[if_neg h5]at ad
    by_cases h6:b=i
    ·rw[if_pos h6]at Y
     cases Y;have:=aj a ha _ ad;omega
    ·rw[if_neg h6]at Y
     exact h.inj a b g ha r ad Y
section
theorem z0j{p:Nat->Prop}(h:∃n,p n):∃n,p n/\∀m,p m->n<=m:=by
 obtain⟨n,r⟩:=h
 induction n using Nat.strongRecOn with
 |_ n ih=>
  by_cases h:∃m,m<n/\p m
  ·obtain⟨m,o,t⟩:=h
   exact ih m o t
  ·exact⟨n,r,fun m o=>Nat.le_of_not_lt fun hl=>h ⟨m,hl,o⟩⟩
open Classical in
theorem y5M{P:Program}{a:Act}{w:World}{Q:Exit->Act->World->Prop}{c rest:Code}(l:Nat)(J:Nat->Act->World->Prop)(A:findLabel c l=some rest)
  (first:c.wp P (Exit.jump l (fun a w=>∃q,J q a w) Q) a w)
  (D:∀q a w,J q a w->rest.wp P (Exit.jump l (fun t w'=>∃o,o<q/\J o t w') Q) a w):(Code.scope c).wp P Q a w:=by
 refine wp_scope_jumps l (fun a w=>∃q,J q a w) (fun a w=>if h:∃q,J q a w then Classical.choose (z0j h)else 0) A first fun a w y=> ?_
 refine Code.wp_mono (fun e t w' h=> ?_) (D _ a w (Classical.choose_spec (z0j y)).1);cases e with
 |goto l'=>
  obtain⟨rfl,o,E,r⟩:=h;refine⟨rfl,⟨o,r⟩,?_⟩;rw[dif_pos y,dif_pos ⟨o,r⟩];exact Nat.lt_of_le_of_lt ((Classical.choose_spec (z0j ⟨o,r⟩)).2 _ r) E
 |normal=>exact h
 |exit id=>exact h
 |ret=>exact h
 |panic ch=>exact h
 |outgrown=>exact h
def wqC(x:Wq):List Value:=[zI x.1,zI (x.2.1:Nat),zI (x.2.2.1:Nat),zI (x.2.2.2:Nat)]
def wqV:List Wq->List Value
 |[]=>[]
 |x::r=>wqV r++wqC x
theorem Am:∀S:List Wq,(wqV S).length=S.length*4
 |[]=>rfl
 |x::r=>by rw[wqV,List.length_append,Am r,List.length_cons,Nat.add_mul];rfl
section
variable (ops:List Ox) (ns:List ByteArray) (ro:List Int) (T:ByteArray) (mo:Nat) (oso nso rso:Option Addr) (oc nc rc M NB:Nat) (w0:World)
@[reducible] def mtO (v:Value) (c:Nat):Obj:=.cells #[.slice oso ops.length oc,.slice nso ns.length nc,.slice rso ro.length rc,zT T,zS NB (T.size+1) (T.size+1),zI (c:Int),zI (mo:Int),v] 99
structure MtM (N:Nt) (c:Nat) (S:List Wq) (v:Value) (W:World):Prop where
 pg:PgM ops ns ro oso nso rso w0
 be:zB w0 W
 lm:w0.heap.size<=M
 ln:w0.heap.size<=NB
 ne:M≠NB
 m:W.heap[M]? =some (mtO ops ns ro T mo oso nso rso oc nc rc NB v c)
 ow:W.ownsRow w0.heap.size 153 4 v S.length (wqV S)
 nm:v.ownBlock≠some M
 nn:v.ownBlock≠some NB
 nt:∃G,NtM ops.length T.size NB w0.heap.size (fun g=>g=M∨v.ownBlock=some g) N G W
end
section
variable {ops:List Ox} {ns:List ByteArray} {ro:List Int} {T:ByteArray} {mo:Nat} {oso nso rso:Option Addr} {oc nc rc M NB:Nat} {w0:World} {N:Nt} {c:Nat} {S:List Wq} {v:Value} {W W':World}
theorem MtM.below(h:MtM ops ns ro T mo oso nso rso oc nc rc M NB w0 N c S v W)(o:zB W W'):MtM ops ns ro T mo oso nso rso oc nc rc M NB w0 N c S v W':=by
 obtain⟨G,r⟩:=h.nt;exact⟨h.pg,h.be.trans (o.mono h.be.size),h.lm,h.ln,h.ne,(o.block _ (Qq h.m)).trans h.m,Xh h.ow o,h.nm,h.nn,G,r.below o⟩
theorem MtM.pgw(h:MtM ops ns ro T mo oso nso rso oc nc rc M NB w0 N c S v W):PgM ops ns ro oso nso rso W:=h.pg.below h.be
theorem MtM.note(h:MtM ops ns ro T mo oso nso rso oc nc rc M NB w0 N c S v W)(hT:T.size<=4096)(k i:Nat)(I:k<ops.length)(U:i<=T.size)(e:Option Nat)(V:∀x,e=some x->x<=4096):
  Calls prog 72 #[zP M 0,zI k,zI i,zI (enE e)] W fun r w'=>r=.returned (.tuple #[])/\W.heap.size<=w'.heap.size/\MtM ops ns ro T mo oso nso rso oc nc rc M NB w0 (Zf N k i e) c S v w':=by
 obtain⟨G,t⟩:=h.nt;have Y:=h.be.size;have y:∀g,(g=M∨v.ownBlock=some g)->g<W.heap.size:=fun g o=>by
  rcases o with rfl|o
  ·exact Qq h.m
  ·exact(h.ow.lt _ o).2
 refine(y5L t h.pg.l2 Y h.ln y h.ne oso oc (T.size+1) (Qj h.m 0 _ rfl).1 (Qj h.m 4 _ rfl).1 k i I U e V).mono ?_;rintro r w' ⟨rfl,A,Z,G',aa⟩;have D:∀g,(g=M∨v.ownBlock=some g)->w'.heap[g]? =W.heap[g]? :=fun g o=>Z g (y g o) (fun E=>by
  rcases o with rfl|o
  ·exact h.ne E
  ·exact h.nn (by rw[o,E])) fun j hj ab=>(t.so j hj g ab).2.1 o
 exact⟨rfl,A.size,h.pg,h.be.trans A,h.lm,h.ln,h.ne,(D M (.inl rfl)).trans h.m,Yc h.ow (fun g o=>D g (.inr o)),h.nm,h.nn,G',aa⟩
theorem MtM.noted(h:MtM ops ns ro T mo oso nso rso oc nc rc M NB w0 N c S v W)(o:T.size<=4096)(r:∀k i e,N k i=some (some e)->e<=T.size)(k i:Nat)(t:k<ops.length)(y:i<=T.size):
  Calls prog 41 #[zP M 0,zI k,zI i] W fun e w'=>e=.returned (.tuple #[zI (ntc (N k i)).2,.bool (ntc (N k i)).1])/\zB W w':=by
 obtain⟨G,A⟩:=h.nt;exact y5K A o r (T.size+1) (Qj h.m 4 _ rfl).1 k i t y
theorem MtM.count(h:MtM ops ns ro T mo oso nso rso oc nc rc M NB w0 N c S v W)(r:Nat):MtM ops ns ro T mo oso nso rso oc nc rc M NB w0 N r S v (W.setCell ⟨M,5,none⟩ (zI (r:Int))):=by
 obtain⟨G,t⟩:=h.nt;have E:∀g,g≠M->(W.setCell ⟨M,5,none⟩ (zI (r:Int))).heap[g]? =W.heap[g]? :=fun g o=>Below.heap_setCell _ _ _ _ o
 refine⟨h.pg,h.be.setCell (p:=⟨M,5,none⟩) h.lm _,h.lm,h.ln,h.ne,Qw h.m 5 _,Yc h.ow (fun g o=>E g (fun y=>h.nm (by rw[o,y]))),h.nm,h.nn,G,t.keep (fun g o=>E g ?_) (fun g o=> ?_)⟩
 ·rcases o with rfl|⟨j,A,D⟩
  ·exact Ne.symm h.ne
  ·exact fun y=>(t.so j A g D).2.1 (.inl y)
 ·obtain⟨j,A,D⟩:=o
  exact(t.so j A g D).2.1
theorem MtM.push{t:World}{g y:Nat}{x:Wq}(h:MtM ops ns ro T mo oso nso rso oc nc rc M NB w0 N c S v W)(Z:t.ownsRow w0.heap.size 153 4 (zS g (S.length+1) y) (S.length+1) (wqV S++wqC x))(D:W.grownBy t v.ownBlock)(o:v.ownBlock=some g∨W.heap.size<=g):MtM ops ns ro T mo oso nso rso oc nc rc M NB w0 N c (x::S) (zS g (S.length+1) y) (t.setCell ⟨M,7,none⟩ (zS g (S.length+1) y)):=by
 obtain⟨G,A⟩:=h.nt;have lM:=Qq h.m;obtain⟨ae,aa,_⟩:=A.nb;have lN:=Qq aa;have V:g≠M:=fun e=>by
  rcases o with o|o
  ·exact h.nm (by rw[o,e])
  ·omega
 have gN:g≠NB:=fun e=>by
  rcases o with o|o
  ·exact h.nn (by rw[o,e])
  ·omega
 have Y:∀b,b<W.heap.size->b≠M->v.ownBlock≠some b->(t.setCell ⟨M,7,none⟩ (zS g (S.length+1) y)).heap[b]? =W.heap[b]? :=fun b r ab ac=>(Below.heap_setCell _ _ _ _ ab).trans (D.block b r (fun e=>ac e.symm))
 have ad:zH t M (mtO ops ns ro T mo oso nso rso oc nc rc NB v c):=(D.block M lM (fun e=>h.nm e.symm)).trans h.m;refine⟨h.pg,(h.be.grown D h.be.size (fun b r=>(h.ow.lt b r).1)).setCell (p:=⟨M,7,none⟩) h.lm _,h.lm,h.ln,h.ne,Qw ad 7 _,Yc Z (fun b r=>Below.heap_setCell _ _ _ _ (fun e=> ?_)),fun e=> ?_,fun e=> ?_,G,A.keep (fun b r=> ?_) (fun b r=> ?_)⟩
 ·have E:g=b:=Option.some.inj r
  exact V (E.trans e)
 ·exact V (Option.some.inj e)
 ·exact gN (Option.some.inj e)
 ·rcases r with rfl|⟨j,I,U⟩
  ·exact Y _ lN (Ne.symm h.ne) h.nn
  ·obtain⟨_,a2,_,cr,a4,_⟩:=A.so j I b U
   exact Y b (Qq a4) (fun e=>a2 (.inl e)) (fun e=>a2 (.inr e))
 ·obtain⟨j,I,U⟩:=r
  obtain⟨_,a2,_,cr,a4,_⟩:=A.so j I b U;rintro(e|e)
  ·exact a2 (.inl e)
  ·have E:g=b:=Option.some.inj e
   rcases o with o|o
   ·exact a2 (.inr (by rw[o,E]))
   ·have:=Qq a4;omega
end
end
section
theorem y5N(A:List Value)(a b c d h o r t:Value)(n:Nat)(y:A.length=n):((((A++[a,b,c,d]).set n h).set (n+1) o).set (n+2) r).set (n+3) t=A++[h,o,r,t]:=by
 subst y;simp
section
variable {ops:List Ox} {ns:List ByteArray} {ro:List Int} {T:ByteArray} {mo:Nat} {oso nso rso:Option Addr} {oc nc rc M NB:Nat} {w0:World} {N:Nt} {c:Nat} {S:List Wq} {v:Value} {W W':World}
theorem MtM.shape{x:Wq}{r:List Wq}(h:MtM ops ns ro T mo oso nso rso oc nc rc M NB w0 N c (x::r) v W):∃g o,v=.slice (some ⟨g,0,none⟩) (r.length+1) o/\g≠M/\g≠NB/\g<W.heap.size/\(∀j:Nat,∀u,(wqC x)[j]? =some u->W.cell? ⟨g,r.length*4+j,none⟩=some u)/\∀j,W.frozen? ⟨g,j,none⟩=false:=by
 obtain⟨g,o,rfl⟩:=ownsRow_succ h.ow;have t:W.ownsRow w0.heap.size 153 4 (.slice (some ⟨g,0,none⟩) (r.length+1) o) (r.length+1) (wqV r++wqC x):=h.ow;refine⟨g,o,rfl,fun e=>h.nm (by rw[e];rfl),fun e=>h.nn (by rw[e];rfl),(t.lt g rfl).2,fun j u y=> ?_,fun j=>t.frozenAt j⟩;have A:j<4:=(List.getElem?_eq_some_iff.1 y).1;rw[t.cellAt (r.length*4+j) (by omega),List.getElem?_append_right (by rw[Am];omega),Am,Nat.add_sub_cancel_left];exact y
theorem MtM.swap{x x':Wq}{r:List Wq}{g y:Nat}(h:MtM ops ns ro T mo oso nso rso oc nc rc M NB w0 N c (x::r) (.slice (some ⟨g,0,none⟩) (r.length+1) y) W):MtM ops ns ro T mo oso nso rso oc nc rc M NB w0 N c (x'::r) (.slice (some ⟨g,0,none⟩) (r.length+1) y) ((((W.setCell ⟨g,r.length*4,none⟩ (.int .i64 x'.1)).setCell ⟨g,r.length*4+1,none⟩ (.int .i64 (x'.2.1:Nat))).setCell ⟨g,r.length*4+2,none⟩ (.int .i64 (x'.2.2.1:Nat))).setCell ⟨g,r.length*4+3,none⟩ (.int .i64 (x'.2.2.2:Nat))):=by
 obtain⟨G,A⟩:=h.nt;have U:W.ownsRow w0.heap.size 153 4 (.slice (some ⟨g,0,none⟩) (r.length+1) y) (r.length+1) (wqV r++wqC x):=h.ow;have t:=(U.lt g rfl).1;have Y:M≠g:=fun e=>h.nm (by rw[e];rfl)
 have Z:NB≠g:=fun e=>h.nn (by rw[e];rfl)
 have V:∀b,b≠g->((((W.setCell ⟨g,r.length*4,none⟩ (.int .i64 x'.1)).setCell ⟨g,r.length*4+1,none⟩ (.int .i64 (x'.2.1:Nat))).setCell ⟨g,r.length*4+2,none⟩ (.int .i64 (x'.2.2.1:Nat))).setCell ⟨g,r.length*4+3,none⟩ (.int .i64 (x'.2.2.2:Nat))).heap[b]? =W.heap[b]? :=fun b o=>(Below.heap_setCell _ _ _ _ o).trans ((Below.heap_setCell _ _ _ _ o).trans ((Below.heap_setCell _ _ _ _ o).trans (Below.heap_setCell _ _ _ _ o)))
 have D:=(((((U.stored (r.length*4) (.int .i64 x'.1)).1).stored (r.length*4+1) (.int .i64 (x'.2.1:Nat))).1.stored (r.length*4+2) (.int .i64 (x'.2.2.1:Nat))).1.stored (r.length*4+3) (.int .i64 (x'.2.2.2:Nat))).1;have e:=y5N (wqV r) (.int .i64 x.1) (.int .i64 (x.2.1:Nat)) (.int .i64 (x.2.2.1:Nat)) (.int .i64 (x.2.2.2:Nat)) (.int .i64 x'.1) (.int .i64 (x'.2.1:Nat)) (.int .i64 (x'.2.2.1:Nat)) (.int .i64 (x'.2.2.2:Nat)) (r.length*4) (Am r);unfold wqC at D;rw[e]at D;refine⟨h.pg,(((h.be.setCell (p:=⟨g,r.length*4,none⟩) t _).setCell (p:=⟨g,r.length*4+1,none⟩) t _).setCell (p:=⟨g,r.length*4+2,none⟩) t _).setCell (p:=⟨g,r.length*4+3,none⟩) t _,h.lm,h.ln,h.ne,(V M Y).trans h.m,D,h.nm,h.nn,G,A.keep (fun b o=>V b ?_) (fun b o=> ?_)⟩
 ·rcases o with rfl|⟨j,E,I⟩
  ·exact Z
  ·exact fun e=>(A.so j E b I).2.1 (.inr (by rw[e];rfl))
 ·obtain⟨j,E,I⟩:=o
  exact(A.so j E b I).2.1
theorem MtM.pop{x:Wq}{r:List Wq}{g t:Nat}(h:MtM ops ns ro T mo oso nso rso oc nc rc M NB w0 N c (x::r) (.slice (some ⟨g,0,none⟩) (r.length+1) t) W):MtM ops ns ro T mo oso nso rso oc nc rc M NB w0 N c r (.slice (some ⟨g,0,none⟩) r.length t) (W.setCell ⟨M,7,none⟩ (.slice (some ⟨g,0,none⟩) r.length t)):=by
 obtain⟨G,y⟩:=h.nt;have I:W.ownsRow w0.heap.size 153 4 (.slice (some ⟨g,0,none⟩) (r.length+1) t) (r.length+1) (wqV r++wqC x):=h.ow;have U:g≠M:=fun e=>h.nm (by rw[e];rfl)
 have E:∀b,b≠M->(W.setCell ⟨M,7,none⟩ (.slice (some ⟨g,0,none⟩) r.length t)).heap[b]? =W.heap[b]? :=fun b o=>Below.heap_setCell _ _ _ _ o
 refine⟨h.pg,h.be.setCell (p:=⟨M,7,none⟩) h.lm _,h.lm,h.ln,h.ne,Qw h.m 7 _,Yc (ownsRow_pop (Am r) I) (fun b o=>E b ?_),h.nm,h.nn,G,y.keep (fun b o=>E b ?_) (fun b o=> ?_)⟩
 ·have V:g=b:=Option.some.inj o
  rw[<-V];exact U
 ·rcases o with rfl|⟨j,A,D⟩
  ·exact Ne.symm h.ne
  ·exact fun e=>(y.so j A b D).2.1 (.inl e)
 ·obtain⟨j,A,D⟩:=o
  exact(y.so j A b D).2.1
end
structure OpW (ops:List Ox) (ro:List Int):Prop where
 rf:∀k (hk:k<ops.length),ops[k].1=5->∀x∈ops[k].2.2.2,0<=x/\x<(ro.length:Int)
 ot:∀k (hk:k<ops.length),ops[k].1≠5->∀x∈ops[k].2.2.2,0<=x/\x<(ops.length:Int)
 rt:∀x∈ro,0<=x/\x<(ops.length:Int)
 cl:∀k (hk:k<ops.length),ops[k].1=3->(0<=ops[k].2.2.1.1/\ops[k].2.2.1.1<18446744073709551616)/\(0<=ops[k].2.2.1.2.1/\ops[k].2.2.1.2.1<18446744073709551616)/\(0<=ops[k].2.2.1.2.2.1/\ops[k].2.2.1.2.2.1<18446744073709551616)/\(0<=ops[k].2.2.1.2.2.2/\ops[k].2.2.1.2.2.2<18446744073709551616)
theorem OpW.part{ops:List Ox}{ro:List Int}(h:OpW ops ro){k:Nat}(o:k<ops.length){j:Nat}(r:j<ops[k].2.2.2.length):∃k':Nat,prt ro ops[k] j=(k':Int)/\k'<ops.length:=by
 have y:ops[k].2.2.2.getD j 0=ops[k].2.2.2[j]:=by rw[List.getD_eq_getElem?_getD,List.getElem?_eq_getElem r];rfl
 unfold prt;rw[y];have t:ops[k].2.2.2[j]∈ops[k].2.2.2:=List.getElem_mem r;by_cases h5:ops[k].1=5
 ·rw[if_pos h5]
  obtain⟨A,D⟩:=h.rf k o h5 _ t;have hl:(ops[k].2.2.2[j]).toNat<ro.length:=by omega
  rw[List.getD_eq_getElem?_getD,List.getElem?_eq_getElem hl];obtain⟨a,b⟩:=h.rt _ (List.getElem_mem hl);exact⟨(ro[(ops[k].2.2.2[j]).toNat]).toNat,by show ro[(ops[k].2.2.2[j]).toNat]=_;omega,by omega⟩
 ·rw[if_neg h5]
  obtain⟨a,b⟩:=h.ot k o h5 _ t;exact⟨(ops[k].2.2.2[j]).toNat,by omega,by omega⟩
def WqR(ops:List Ox)(n:Nat)(x:Wq):Prop:=∃(k:Nat) (hk:k<ops.length),x.1=(k:Int)/\x.2.1<=n/\x.2.2.1<ops[k].2.2.2.length/\x.2.2.2<=n
theorem z6j{T:ByteArray}{o:Ox}{i x:Nat}(t:i<=T.size)(h:aln T o i=some x):x<=T.size:=by
 unfold aln at h;have one:∀{b:Bool} {y:Nat},Zd b y=some x->b=true/\y=x:=fun{b y} A=>by
  cases b with
  |false=>cases A
  |true=>exact⟨rfl,Option.some.inj A⟩
 split at h
 ·obtain⟨r,rfl⟩:=one h
  exact Aw t r
 ·split at h
  ·obtain⟨r,rfl⟩:=one h
   exact Kg r
  ·split at h
   ·obtain⟨r,rfl⟩:=one h
    exact Kg r
   ·split at h
    ·cases h;exact t
    ·cases h
theorem y5O{o:Ox}{w:Wq}{e:Option Nat}{n x:Nat}(r:w.2.1<=n)(A:w.2.2.2<=n)(t:∀y,e=some y->y<=n)(h:otc o w e=some x):x<=n:=by
 have one:∀{b:Bool} {y:Nat},Zd b y=some x->y=x:=fun{b y} D=>by
  cases b with
  |false=>cases D
  |true=>exact Option.some.inj D
 unfold otc at h;split at h
 ·cases e with
  |none=>cases h;exact r
  |some y=>cases h;exact t _ rfl
 ·split at h
  ·cases h;exact A
  ·split at h
   ·split at h
    ·cases h;exact A
    ·exact t _ h
   ·split at h
    ·rw[<-one h];exact r
    ·split at h
     ·rw[<-one h];exact r
     ·exact t _ h
theorem y5P{ops:List Ox}{n k:Nat}(I:k<ops.length){f j a:Nat}{e:Option Nat}{w':Wq}(U:WqR ops n ((k:Int),f,j,a))(D:∀y,e=some y->y<=n)(h:nxt ops[k] ((k:Int),f,j,a) e=some w'):WqR ops n w'/\w'.1=(k:Int)/\w'.2.2.1<ops[k].2.2.2.length:=by
 obtain⟨E,ab,o,G,V,ha⟩:=U;have Y:k=E:=by have:(k:Int)=(E:Int):=o;omega
 subst Y;have fin:∀r t:Nat,w'=((k:Int),f,r,t)->r<ops[k].2.2.2.length->t<=n->WqR ops n w'/\w'.1=(k:Int)/\w'.2.2.1<ops[k].2.2.2.length:=fun r t Z o e3=>by
  subst Z;exact⟨⟨k,I,rfl,G,o,e3⟩,rfl,o⟩
 have ac:j<ops[k].2.2.2.length:=V;unfold nxt at h;split at h
 ·cases e with
  |none=>cases h
  |some x=>
   dsimp only at h;split at h
   ·cases h
   ·rename_i A
    have aa:¬j+1=ops[k].2.2.2.length:=A;exact fin (j+1) x (Option.some.inj h).symm (by omega) (D _ rfl)
 ·split at h
  ·cases e with
   |some x=>cases h
   |none=>
    dsimp only at h;split at h
    ·cases h
    ·rename_i A
     have aa:¬j+1=ops[k].2.2.2.length:=A;exact fin (j+1) f (Option.some.inj h).symm (by omega) G
  ·split at h
   ·cases e with
    |none=>cases h
    |some x=>exact fin 0 x (Option.some.inj h).symm (by omega) (D _ rfl)
   ·cases h
end
section
theorem y5Q{P:Program}{a:Act}{w:World}{Q:Exit->Act->World->Prop}{X:Code}(l:Nat)(J:Nat->Act->World->Prop)(r:Nat)(A:J r a w)
  (t:∀q a w,J q a w->X.wp P (Exit.jump l (fun y w'=>∃o,o<q/\J o y w') Q) a w):(Code.scope ((Code.label l).seq X)).wp P Q a w:=by
 have D:findLabel ((Code.label l).seq X) l=some (Code.skip.seq X):=by simp[findLabel]
 refine y5M l J D ?_ (fun q a w h=>wp_seq (wp_skip (t q a w h)));refine wp_seq (wp_label ?_);refine Code.wp_mono (fun e y w' h=> ?_) (t r a w A);cases e with
 |goto l'=>obtain⟨rfl,o,_,E⟩:=h;exact⟨rfl,o,E⟩
 |normal=>exact h
 |exit id=>exact h
 |ret=>exact h
 |panic ch=>exact h
 |outgrown=>exact h
theorem y5R{P:Program}{a:Act}{w:World}{Q:Exit->Act->World->Prop}{x y z:Code}(R:Act->World->Prop)(r:∀a w,R a w->z.wp P Q a w)(h:x.wp P (Exit.then (fun a w=>y.wp P (Exit.then R Q) a w) Q) a w):(x.seq (y.seq z)).wp P Q a w:=by
 refine wp_seq (Code.wp_mono (fun e a w o=> ?_) h);cases e with
 |normal=>
  refine wp_seq (Code.wp_mono (fun e a w o=> ?_) o);cases e with
  |normal=>exact r a w o
  |_=>exact o
 |_=>exact o
theorem Tryz.infoWtr:(Tryz.prog.info? 153).map (fun i=>(i.zero,i.size,i.bytes))=some (some (.agg #[zI 0,zI 0,zI 0,zI 0]),4,32):=by kernel_rfl
def z6k(W:World)(b o:Nat)(x0 x1 x2 x3:Int):World:=(((W.setCell ⟨b,o,none⟩ (zI x0)).setCell ⟨b,o+1,none⟩ (zI x1)).setCell ⟨b,o+2,none⟩ (zI x2)).setCell ⟨b,o+3,none⟩ (zI x3)
theorem Ap{F:(Nat->Value)->Act}{A:Act}(h:A=F (fun j=>A.tmps.getD j undef)):∃u,A=F u:=⟨_,h⟩
section
variable (ops:List Ox) (ns:List ByteArray) (ro:List Int) (T:ByteArray) (mo:Nat) (oso nso rso:Option Addr) (oc nc rc M NB:Nat) (w0:World)
@[reducible] def mF (k i:Nat) (u:Nat->Value):Act:={tmps:=#[zP M 0,zI (k:Int),zI (i:Int),u 3,u 4,u 5,u 6,u 7,u 8,u 9,u 10,u 11,u 12,u 13,u 14,u 15,u 16,u 17,u 18,u 19,u 20,u 21,u 22,u 23,u 24,u 25,u 26,u 27,u 28,u 29,u 30,u 31,u 32,u 33,u 34,u 35,u 36,u 37,u 38,u 39,u 40,u 41,u 42,u 43,u 44,u 45,u 46,u 47,u 48,u 49,u 50,u 51,u 52,u 53,u 54,u 55,u 56,u 57,u 58,u 59,u 60,u 61,u 62,u 63,u 64,u 65,u 66,u 67,u 68,u 69,u 70,u 71,u 72,u 73,u 74,u 75,u 76,u 77,u 78,u 79,u 80,u 81,u 82,u 83,u 84,u 85,u 86,u 87,u 88,u 89,u 90,u 91,u 92,u 93,u 94,u 95,u 96,u 97,u 98,u 99,u 100,u 101,u 102,u 103,u 104,u 105,u 106,u 107,u 108,u 109,u 110,u 111,u 112,u 113,u 114,u 115,u 116,u 117,u 118,u 119,u 120,u 121,u 122,u 123,u 124,u 125,u 126,u 127,u 128,u 129,u 130,u 131,u 132,u 133,u 134],defers:=[]}
structure MJs (r:Option (Option Nat×Nat×Nt)) (q k i:Nat) (N:Nt) (c:Nat) (S:List Wq) (v:Value) (W:World):Prop where
 hk:k<ops.length
 hi:i<=T.size
 hN:∀k i e,N k i=some (some e)->e<=T.size
 hS:∀x∈S,WqR ops T.size x
 hc:c<=mo
 hl:S.length<=c
 hM:MtM ops ns ro T mo oso nso rso oc nc rc M NB w0 N c S v W
 hR:Mch ops ro T mo N c S (.beg k i) r q
def MJ(r:Option (Option Nat×Nat×Nt))(q:Nat)(a:Act)(W:World):Prop:=∃(k i:Nat) (N:Nt) (c:Nat) (S:List Wq) (v:Value),(∃u,a=mF M k i u)/\Hid (MJs ops ns ro T mo oso nso rso oc nc rc M NB w0 r q k i N c S v W)
@[reducible] def mG (e:Option Nat) (u:Nat->Value):Act:={tmps:=#[zP M 0,u 1,u 2,u 3,u 4,u 5,u 6,zI (enE e),u 8,u 9,u 10,u 11,u 12,u 13,u 14,u 15,u 16,u 17,u 18,u 19,u 20,u 21,u 22,u 23,u 24,u 25,u 26,u 27,u 28,u 29,u 30,u 31,u 32,u 33,u 34,u 35,u 36,u 37,u 38,u 39,u 40,u 41,u 42,u 43,u 44,u 45,u 46,u 47,u 48,u 49,u 50,u 51,u 52,u 53,u 54,u 55,u 56,u 57,u 58,u 59,u 60,u 61,u 62,u 63,u 64,u 65,u 66,u 67,u 68,u 69,u 70,u 71,u 72,u 73,u 74,u 75,u 76,u 77,u 78,u 79,u 80,u 81,u 82,u 83,u 84,u 85,u 86,u 87,u 88,u 89,u 90,u 91,u 92,u 93,u 94,u 95,u 96,u 97,u 98,u 99,u 100,u 101,u 102,u 103,u 104,u 105,u 106,u 107,u 108,u 109,u 110,u 111,u 112,u 113,u 114,u 115,u 116,u 117,u 118,u 119,u 120,u 121,u 122,u 123,u 124,u 125,u 126,u 127,u 128,u 129,u 130,u 131,u 132,u 133,u 134],defers:=[]}
structure RJs (r:Option (Option Nat×Nat×Nt)) (q:Nat) (e:Option Nat) (N:Nt) (c:Nat) (S:List Wq) (v:Value) (W:World):Prop where
 he:∀x,e=some x->x<=T.size
 hN:∀k i e,N k i=some (some e)->e<=T.size
 hS:∀x∈S,WqR ops T.size x
 hc:c<=mo
 hl:S.length<=c
 hM:MtM ops ns ro T mo oso nso rso oc nc rc M NB w0 N c S v W
 hR:Mch ops ro T mo N c S (.ret e) r q
def RJ(r:Option (Option Nat×Nat×Nt))(q:Nat)(a:Act)(W:World):Prop:=∃(e:Option Nat) (N:Nt) (c:Nat) (S:List Wq) (v:Value),(∃u,a=mG M e u)/\Hid (RJs ops ns ro T mo oso nso rso oc nc rc M NB w0 r q e N c S v W)
def MPo(r:Option (Option Nat×Nat×Nt))(e':Ending)(W':World):Prop:=match r with
 |none=>e'=.returned (.iface 36 (zI 50))/\zB w0 W'
 |some (e,c,N)=>e'=.returned .nilIface/\(∀k i e,N k i=some (some e)->e<=T.size)/\∃v,MtM ops ns ro T mo oso nso rso oc nc rc M NB w0 N c [] v W'
end
theorem y5S{ops:List Ox}{ns:List ByteArray}{ro:List Int}{T:zA}{mo:Nat}{oso nso rso:Option Addr}{oc nc rc M NB:Nat}{w0:World}(hw:OpW ops ro)(hT:T.size<=4096)(ai:mo<=1048576)(r:Option (Option Nat×Nat×Nt))(q0 k0 i0:Nat)(N0:Nt)(c0:Nat)(v0:Value)(w:World)(h:MJs ops ns ro T mo oso nso rso oc nc rc M NB w0 r q0 k0 i0 N0 c0 [] v0 w):
  Calls prog 40 #[zP M 0,zI k0,zI i0] w (MPo ops ns ro T mo oso nso rso oc nc rc M NB w0 r):=by
 have bd:=hid h;have HW:=hid hw;have HT:=hid hT;have aF:=hid ai;clear h hw hT ai;go_enter func40,ntmps40
 go_wp2_with fail
 refine y5Q 0 (MJ ops ns ro T mo oso nso rso oc nc rc M NB w0 r) q0 ⟨k0,i0,N0,c0,[],v0,Ap (by rfl),bd⟩ ?_;clear bd;rintro q a W ⟨k,i,N,c,S,v,⟨u,rfl⟩,A⟩;refine y5R (fun a w=>∃q',q'<q/\RJ ops ns ro T mo oso nso rso oc nc rc M NB w0 r q' a w) ?_ ?_
 ·rintro a w ⟨q',b8,e,N',c',S',v',⟨u',rfl⟩,HR⟩
  clear A;obtain⟨sa,bI,rfl⟩:=Dd HR.out.hM.ow;have m7:zC w M 7 (.slice sa S'.length bI):=(Qj HR.out.hM.m 7 _ rfl).1;have lm:=Qq HR.out.hM.m;have aG:=HR.out.hl;have ag:=HR.out.hc;have ai:=aF.out;have bJ:IntKind.i64.wrap ((S'.length:Int)-1)=(S'.length:Int)-1:=by rw[IntKind.wrap_i64];omega
  go_wp2_with fail
  clear m7 bJ
  go_loopw [7,9] (fun ev lv wr=>∃(e:Option Nat) (N:Nt) (c:Nat) (S:List Wq) (v:Value) (q1:Nat),ev=zI (enE e)/\lv=zI ((S.length:Int)-1)/\q1<=q'/\Hid (RJs ops ns ro T mo oso nso rso oc nc rc M NB w0 r q1 e N c S v wr)) (fun _ lv _=>(intOf lv+1).toNat)
  case atStart=>exact⟨e,N',c',S',_,q',rfl,rfl,Nat.le_refl _,HR⟩
  case round=>
   obtain⟨e,N,c,S,v,q1,rfl,rfl,b9,Y⟩:=hrel;clear HR aG ag;cases S with
   |nil=>
    have bK:=Y.out.hR;cases bK;have bf:=hid (And.intro Y.out.hN Y.out.hM)
    go_wp2_with fail
    refine bodyPost_ret (v:=.nilIface) (by simp[results,Tryz.results40,go_sem]) rfl ?_;exact⟨rfl,bf.out.1,_,bf.out.2⟩
   |cons x rr=>
    obtain⟨g,ae,rfl,gM,gN,lg,ax,ca⟩:=Y.out.hM.shape;obtain⟨k,hk,ek,hf,hj,ha⟩:=Y.out.hS x (List.mem_cons_self ..);obtain⟨kx,f,j,a⟩:=x;dsimp only at ek hf hj ha;subst ek;have z0:=ax 0 _ rfl;have z1:=ax 1 _ rfl;have z2:=ax 2 _ rfl;have z3:=ax 3 _ rfl;dsimp only[Nat.add_zero]at z0 z1 z2 z3;have m7:zC wr M 7 (zS g (rr.length+1) ae):=(Qj Y.out.hM.m 7 _ rfl).1;have lm:=Qq Y.out.hM.m;have aG:=Y.out.hl;have ag:=Y.out.hc;have cb:(rr.length:Int)<((rr.length+1:Nat):Int):=by omega
    have cc:(rr.length:Int)<(rr.length:Int)+1:=by omega
    have e1:(((((k:Int),f,j,a)::rr:List Wq).length:Int)-1)=(rr.length:Int):=by rw[List.length_cons];omega
    rw[e1];obtain⟨W1,aH⟩:∃W1,W1=wr.alloc (.cells #[zI k,zI f,zI j,zI a] 153):=⟨_,rfl⟩;have ad:zB wr W1:=by rw[aH];exact(Below.refl _ wr).alloc L0q _
    have bg:W1.heap[wr.heap.size]? =some (.cells #[zI k,zI f,zI j,zI a] 153):=by rw[aH];exact Qx wr _ rfl
    have I:=hid (Y.out.hM.below ad);have bh:=hid (y5s ops ns ro oso nso rso ops.length oc M W1 rfl I.out.pgw (Qj I.out.m 0 _ rfl).1 k hk f j a hj e);have bi:=hid aH;have aR:=hid bg;have Hj:=hid hj;have Hx:Hid (WqR ops T.size ((k:Int),f,j,a)):=Y.out.hS _ (List.mem_cons_self ..);have ak:=hid (And.intro aG ag);clear ax aH ad bg hj aG ag
    go_wp2_with fail
    rw[<-bi.out];clear bi z0 z1 z2 z3 m7;refine bh.out.mono ?_;rintro e' G ⟨x0,x1,x2,x3,ok,rfl,al,HQ⟩;have aa:=hid (I.out.below al);have aI:=(al.block _ (Qq aR.out)).trans aR.out;obtain⟨⟨t0,t1,t2,t3⟩,_⟩:=Kp aI;have aS:=Qq aI;have bj:=hid aI;clear al bh I aR aI;obtain⟨W3,aJ⟩:∃W3,W3=G.alloc (.cells #[zI x0,zI x1,zI x2,zI x3] 153):=⟨_,rfl⟩;have aT:zB G W3:=by rw[aJ];exact(Below.refl _ G).alloc L0q _
    have bk:W3.heap[G.heap.size]? =some (.cells #[zI x0,zI x1,zI x2,zI x3] 153):=by rw[aJ];exact Qx G _ rfl
    have ac:=hid (aa.out.below aT);have aU:=hid ((aT.block _ aS).trans bj.out);have am:=hid bk;have aK:=hid aJ;have ao:ops[((k:Int)).toNat]? =some ops[k]:=by rw[Int.toNat_natCast];exact List.getElem?_eq_getElem hk
    clear aJ aT bk aa bj;cases ok with
    |false=>
     have bl:=HQ.out.1 rfl;obtain⟨E,hE⟩:∃E,E=otc ops[k] ((k:Int),f,j,a) e:=⟨_,rfl⟩;obtain⟨q2,ay,az⟩:∃q2,q2+1=q1/\Mch ops ro T mo (Zf N k f E) c rr (.ret E) r q2:=by
      have hR:=Y.out.hR;cases hR with
      |next D Z h3=>
       rw[ao]at D;cases D;rw[bl]at Z;cases Z
      |pop D Z h3=>
       rw[ao]at D;cases D;rw[hE];exact⟨_,rfl,h3⟩
     have aj:∀x,E=some x->x<=T.size:=fun x hx=>y5O (w:=((k:Int),f,j,a)) hf ha Y.out.he (by rw[<-hE];exact hx)
     have aV:=hid (y5x ops ns ro oso nso rso ops.length oc M W3 rfl ac.out.pgw (Qj ac.out.m 0 _ rfl).1 k hk f j a e);rw[<-hE]at aV;have ap:=hid (fun(W':World) (hb:zB W3 W')=>(ac.out.below hb).note HT.out k f hk hf E (fun x hx=>Nat.le_trans (aj x hx) HT.out));have bm:Hid (∀w5,MtM ops ns ro T mo oso nso rso oc nc rc M NB w0 (Zf N k f E) c (((k:Int),f,j,a)::rr) (zS g (rr.length+1) ae) w5->RJs ops ns ro T mo oso nso rso oc nc rc M NB w0 r q2 E (Zf N k f E) c rr (zS g rr.length ae) (w5.setCell ⟨M,7,none⟩ (zS g rr.length ae))):=fun w5 hm=>by
      have D:=ak.out.1;rw[List.length_cons]at D;refine⟨aj,fun k' i' e' h'=> ?_,fun x hx=>Y.out.hS x (List.mem_cons_of_mem _ hx),ak.out.2,by omega,hm.pop,az⟩;by_cases hq:k'=(k:Int)/\i'=f
      ·obtain⟨rfl,rfl⟩:=hq
       rw[Ad]at h';exact aj _ (Option.some.inj h')
      ·rw[Df hq]at h'
       exact Y.out.hN k' i' e' h'
     have aW:=hid ay;clear bl ao hE az aj ay HQ
     go_wp2_with fail
     rw[<-aK.out];clear aK t0 t1 t2 t3;refine aV.out.mono ?_;rintro e4 w4 ⟨rfl,aX⟩;have bn:=hid (ap.out w4 aX);have aY:=(aX.block _ (Qq aU.out)).trans aU.out;obtain⟨⟨t0,t1,t2,t3⟩,_⟩:=Kp aY;have bL:=Qq aY;clear aX aY aV ap am ac aU
     go_wp2_with fail
     clear t0 t1 t2 t3 bL aS;refine bn.out.mono ?_;rintro e5 w5 ⟨rfl,_,aA⟩;have bM:=hid (bm.out w5 aA);obtain⟨m7,f7⟩:=Qj aA.m 7 _ rfl;have cd:=Qq aA.m;have ce:rr.length<=ae:=by
      obtain⟨_,_,_,h',_,_,cf,_⟩:=aA.ow.2.resolve_left (fun h=>by cases h.1);injection h' with _ _ h3
      omega
     have cg:IntKind.i64.wrap ((rr.length:Int)-1)=(rr.length:Int)-1:=by
      have D:=ak.out.1;have Z:=ak.out.2;have h3:=aF.out;rw[List.length_cons]at D;rw[IntKind.wrap_i64];omega
     have ch:(rr.length:Int)<=(ae:Int):=by omega
     clear aA bn bm
     go_wp2_with fail
     refine⟨⟨E,Zf N k f E,c,rr,_,q2,rfl,rfl,by have:=aW.out;omega,bM⟩,?_⟩;simp only[intOf];omega
    |true=>
     obtain⟨j',a',aL,rfl,rfl,rfl,rfl⟩:=HQ.out.2 rfl;obtain⟨aZ,_,aq⟩:=y5P hk Hx.out Y.out.he aL;have aq:j'<ops[k].2.2.2.length:=aq;have bo:a'<=T.size:=by
      obtain⟨_,_,_,_,_,h⟩:=aZ;exact h
     obtain⟨k',ar,aM⟩:=HW.out.part hk aq;obtain⟨q2,ay,az⟩:∃q2,q2+1=q1/\Mch ops ro T mo N c (((k:Int),f,j',a')::rr) (.beg (k':Int) a') r q2:=by
      have hR:=Y.out.hR;cases hR with
      |next D Z h3=>
       rw[ao]at D;cases D;rw[aL]at Z;cases Z;rw[<-ar];exact⟨_,rfl,h3⟩
      |pop D Z h3=>
       rw[ao]at D;cases D;rw[aL]at Z;cases Z
     obtain⟨V,hV⟩:∃V,V=(z6k W3 g (rr.length*4) (k:Int) (f:Int) (j':Int) (a':Int)).drew:=⟨_,rfl⟩;have aN:Hid (MtM ops ns ro T mo oso nso rso oc nc rc M NB w0 N c (((k:Int),f,j',a')::rr) (zS g (rr.length+1) ae) V):=by rw[hV];exact(ac.out.swap (x':=((k:Int),f,j',a'))).below B0q.drew
     have gn:G.heap.size≠g:=fun e=>by
      have Z:=(Y.out.hM.ow.lt g rfl).2;have h3:=aS;omega
     have aO:V.heap[G.heap.size]? =some (.cells #[zI (k:Int),zI (f:Int),zI (j':Int),zI (a':Int)] 153):=by
      rw[hV];exact(Below.heap_setCell _ _ _ _ gn).trans ((Below.heap_setCell _ _ _ _ gn).trans ((Below.heap_setCell _ _ _ _ gn).trans ((Below.heap_setCell _ _ _ _ gn).trans am.out)))
     have HS:Hid (zC W3.drew M 7 (zS g (rr.length+1) ae)/\zC W3.drew G.heap.size 0 (zI (k:Int))/\zC W3.drew G.heap.size 1 (zI (f:Int))/\zC W3.drew G.heap.size 2 (zI (j':Int))/\zC W3.drew G.heap.size 3 (zI (a':Int))):=⟨(Qj ac.out.m 7 _ rfl).1,(Qj am.out 0 _ rfl).1,(Qj am.out 1 _ rfl).1,(Qj am.out 2 _ rfl).1,(Qj am.out 3 _ rfl).1⟩;obtain⟨g',ci,eg,_,_,cj,aB,bp⟩:=ac.out.shape;injection eg with eg _ _
     injection eg with eg
     injection eg with eg _ _
     subst eg;have y0:=aB 0 _ rfl;have y1:=aB 1 _ rfl;have y2:=aB 2 _ rfl;have y3:=aB 3 _ rfl;dsimp only[Nat.add_zero]at y0 y1 y2 y3;have HY:=hid (And.intro y0 (And.intro y1 (And.intro y2 y3)));have aP:=hid bp;have au:=hid (z6d ops ns ro oso nso rso ops.length oc ns.length nc ro.length rc M V.drew rfl rfl (aN.out.below (Below.refl _ V).drew).pgw (Qj aN.out.m 0 _ rfl).1 (Qj aN.out.m 2 _ rfl).1 k hk j' aq (fun h=>HW.out.rf k hk h _ (List.getElem_mem aq)));rw[ar]at au;have aQ:Hid (∀w7,Below V.drew.heap.size V.drew w7->MJs ops ns ro T mo oso nso rso oc nc rc M NB w0 r q2 k' a' N c (((k:Int),f,j',a')::rr) (zS g (rr.length+1) ae) w7):=fun w7 hb=>⟨aM,bo,Y.out.hN,fun x hx=>by
      rcases List.mem_cons.1 hx with rfl|hx
      ·exact aZ
      ·exact Y.out.hS x (List.mem_cons_of_mem _ hx),ak.out.2,by have:=ak.out.1;rw[List.length_cons]at this ⊢;exact this,(aN.out.below (Below.refl _ V).drew).below hb,az⟩
     have bN:Hid (zC V.drew G.heap.size 0 (zI (k:Int))/\zC V.drew G.heap.size 2 (zI (j':Int))/\zC V.drew G.heap.size 3 (zI (a':Int))):=⟨(Qj aO 0 _ rfl).1,(Qj aO 2 _ rfl).1,(Qj aO 3 _ rfl).1⟩;have HV:=hid hV;have aW:=hid ay;clear aL aZ aq bo ar aM az ay hV gn aO aB bp y0 y1 y2 y3 ao HQ
     go_wp2_with fail
     rw[<-aK.out];clear aK t0 t1 t2 t3;refine Qc 7 (fun X:World=>zC X M 7 (zS g (rr.length+1) ae)/\zC X G.heap.size 0 (zI (k:Int))/\zC X G.heap.size 1 (zI (f:Int))/\zC X G.heap.size 2 (zI (j':Int))/\zC X G.heap.size 3 (zI (a':Int))) (by kernel_rfl) HS.out (fun t=> ?_);refine Qz 0 t ?_;refine Qz 1 t ?_;refine Qz 2 t ?_;refine Qz 3 t ?_;refine Qz 4 t ?_;refine Qz 5 t ?_;refine Qz 6 t ?_;refine Yj (fun K hK=> ?_);obtain⟨y0,y1,y2,y3⟩:=HY.out;have bO:=aP.out (rr.length*4);have bP:=aP.out (rr.length*4+1);have bQ:=aP.out (rr.length*4+2);have bR:=aP.out (rr.length*4+3);clear t
     go_simp
     refine hK.out _ _ ?_;clear hK K y0 y1 y2 y3 bO bP bQ bR;rw[<-z6k,<-HV.out]
     go_wp2_with fail
     refine Qc 99 (fun X:World=>zC X G.heap.size 0 (zI (k:Int))/\zC X G.heap.size 2 (zI (j':Int))/\zC X G.heap.size 3 (zI (a':Int))) (by kernel_rfl) bN.out (fun t=> ?_);refine Qz 0 t ?_;refine Qz 1 t ?_;refine Qz 2 t ?_;refine Qz 3 t ?_;refine Qz 4 t ?_;refine Qz 6 t ?_;refine Qz 7 t ?_
     (refine Qf 5 (fun K hK=> ?_);go_simp;refine au.out.mono ?_;rintro e7 w7 ⟨rfl,av⟩;go_simp;replace t:=Ah t av;have a1:=hid (aQ.out w7 av);clear av;refine hK.out _ _ t ?_;clear hK K)
     (try simp only[Act.put,zY])
     refine Qz 8 t ?_;refine Qz 9 t ?_;refine⟨by kernel_rfl,?_⟩;clear t
     go_wp2_with fail
     go_step3
     (try simp only[Exit.inBlock,Exit.then])
     exact⟨rfl,q2,by have:=aW.out;omega,k',a',N,c,_,_,Ap (by rfl),a1⟩
 have ab:=hid (A.out.hM.noted HT.out A.out.hN k i A.out.hk A.out.hi);have bS:=A.out.hR;cases bS with
 |bud D=>
  rw[D]at ab;dsimp only[ntc]at ab
  go_wp2_with fail
  refine ab.out.mono ?_;rintro e U ⟨rfl,ad⟩;have I:=hid (A.out.hM.below ad);clear ad ab
  go_wp2_with fail
  refine Qc 99 (fun X:World=>zC X M 5 (zI (mo:Int))/\zC X M 6 (zI (mo:Int))) (by kernel_rfl) (show _/\_ from⟨(Qj I.out.m 5 _ rfl).1,(Qj I.out.m 6 _ rfl).1⟩) (fun t=> ?_);refine Qz 0 t ?_;refine Qz 1 t ?_;refine Qz 2 t ?_;refine Qz 3 t ?_;refine Qz 4 t ?_;refine Qz 5 t ?_;refine Qz 6 t ?_;refine Qz 7 t ?_;refine Qz 8 t ?_;refine⟨by kernel_rfl,?_⟩;clear t
  go_wp2_with fail
  refine bodyPost_ret (v:=.iface 36 (zI 50)) (by simp[results,Tryz.results40,go_sem]) rfl ?_;exact⟨rfl,I.out.be.drew⟩
 | @noted _ _ _ _ _ e _ q' D Z=>
   rw[D]at ab;dsimp only[ntc]at ab;have HR:Hid (∀w',zB W w'->RJs ops ns ro T mo oso nso rso oc nc rc M NB w0 r q' e N c S v w'):=fun w' hb=>⟨fun x hx=>A.out.hN k i x (by rw[D,hx]),A.out.hN,A.out.hS,A.out.hc,A.out.hl,A.out.hM.below hb,Z⟩
   clear D Z
   go_wp2_with fail
   refine ab.out.mono ?_;rintro e1 U ⟨rfl,ad⟩;have bT:=hid (HR.out U ad);clear ad ab HR
   go_wp2_with fail
   exact⟨q',Nat.lt_succ_self _,e,N,c,S,v,Ap (by rfl),bT⟩
 | @leaf _ _ _ _ _ o _ q' D Z h3 h4 h5=>
   rw[Int.toNat_natCast]at h3;obtain⟨hk,ho⟩:=List.getElem?_eq_some_iff.1 h3;rw[D]at ab;dsimp only[ntc]at ab
   go_wp2_with fail
   refine ab.out.mono ?_;rintro e U ⟨rfl,ad⟩;have I:=hid (A.out.hM.below ad);clear ad ab;have a0:((c:Int) == (mo:Int))=false:=by simp;omega
   have ag:=A.out.hc;have ai:=aF.out;have bU:IntKind.i64.wrap ((c:Int)+1)=(c:Int)+1:=by rw[IntKind.wrap_i64];omega
   obtain⟨V,hV⟩:∃V,V=(U.setCell ⟨M,5,none⟩ (zI ((c:Int)+1))).drew:=⟨_,rfl⟩;have aa:Hid (MtM ops ns ro T mo oso nso rso oc nc rc M NB w0 N (c+1) S v V):=by
    have:=(I.out.count (c+1)).below B0q.drew;rw[show((c+1:Nat):Int)=(c:Int)+1 by omega]at this;rw[hV];exact this
   obtain⟨g,rfl,hg,so,ae,⟨a2,a3,a4,a5,a6,a7,af⟩,a8,a9⟩:=aa.out.pgw.o k hk;rw[ho,h4]at af;dsimp only[List.length_nil]at af;have ba:=hid (y5E ops ns ro (some ⟨g,0,none⟩) nso rso ops.length oc M T V rfl aa.out.pgw HT.out (Qj aa.out.m 0 _ rfl).1 (Qj aa.out.m 3 _ rfl).1 k hk i A.out.hi (HW.out.cl k hk));have ap:=hid (fun(W':World) (hb:zB V W')=>(aa.out.below hb).note HT.out k i hk A.out.hi (aln T ops[k] i) (fun x hx=>Nat.le_trans (z6j A.out.hi hx) HT.out));obtain⟨E,hE⟩:∃E,E=aln T ops[k] i:=⟨_,rfl⟩;have HR:Hid (∀w',MtM ops ns ro T mo (some ⟨g,0,none⟩) nso rso oc nc rc M NB w0 (Zf N k i E) (c+1) S v w'->RJs ops ns ro T mo (some ⟨g,0,none⟩) nso rso oc nc rc M NB w0 r q' E (Zf N k i E) (c+1) S v w'):=fun w' hm=>by
    have aj:∀x,E=some x->x<=T.size:=fun x hx=>by rw[hE]at hx;exact z6j A.out.hi hx
    refine⟨aj,fun k' i' e' h'=> ?_,A.out.hS,by omega,Nat.le_succ_of_le A.out.hl,hm,by rw[hE,ho];exact h5⟩;by_cases hq:k'=(k:Int)/\i'=i
    ·obtain⟨rfl,rfl⟩:=hq
     rw[Ad]at h';exact aj _ (Option.some.inj h')
    ·rw[Df hq]at h'
     exact A.out.hN k' i' e' h'
   rw[<-hE]at ba ap;have m5:=Qj I.out.m 5 _ rfl;have lm:M<U.heap.size:=Qq I.out.m;have x5:zC U.drew M 5 (zI (c:Int)):=m5.1;have y5:U.drew.frozen? ⟨M,5,none⟩=false:=m5.2;have aC:zC V M 0 (zS g ops.length oc):=(Qj aa.out.m 0 _ rfl).1;have bV:(k:Int)<(ops.length:Int):=by omega
   have lV:M<V.heap.size:=Qq aa.out.m;rw[hV]at aC af lV;have HV:=hid hV;clear D Z h3 h4 h5 hV hE a2 a3 a4 a5 a6 a7 a8 a9 ho ag ai m5
   go_wp2_with fail
   refine Qc 99 (fun X:World=>zC X M 5 (zI (c:Int))/\zC X M 6 (zI (mo:Int))) (by kernel_rfl) (show _/\_ from⟨(Qj I.out.m 5 _ rfl).1,(Qj I.out.m 6 _ rfl).1⟩) (fun t=> ?_);refine Qz 0 t ?_;refine Qz 1 t ?_;refine Qz 2 t ?_;refine Qz 3 t ?_;refine Qz 4 t ?_;refine Qz 5 t ?_;refine Qz 6 t ?_;refine Qz 7 t ?_;refine Qz 8 t ?_;refine⟨by kernel_rfl,?_⟩;clear t
   go_wp2_with fail
   rw[<-HV.out];clear x5 y5 aC af lV lm HV;refine ba.out.mono ?_;rintro e1 G ⟨rfl,al⟩;have bq:=hid (ap.out G al);clear al ba ap
   go_wp2_with fail
   refine bq.out.mono ?_;rintro e2 w3 ⟨rfl,_,br⟩;have bW:=hid (HR.out w3 br);clear br bq HR
   go_wp2_with fail
   exact⟨q',Nat.lt_succ_self _,E,Zf N k i E,c+1,S,v,Ap (by rfl),bW⟩
 | @push _ _ _ _ _ o _ q' D Z h3 h4 h5=>
   rw[Int.toNat_natCast]at h3;obtain⟨hk,ho⟩:=List.getElem?_eq_some_iff.1 h3;rw[D]at ab;dsimp only[ntc]at ab
   go_wp2_with fail
   refine ab.out.mono ?_;rintro e U ⟨rfl,ad⟩;have I:=hid (A.out.hM.below ad);clear ad ab;have a0:((c:Int) == (mo:Int))=false:=by simp;omega
   have ag:=A.out.hc;have ai:=aF.out;have bU:IntKind.i64.wrap ((c:Int)+1)=(c:Int)+1:=by rw[IntKind.wrap_i64];omega
   obtain⟨V,hV⟩:∃V,V=(U.setCell ⟨M,5,none⟩ (zI ((c:Int)+1))).drew:=⟨_,rfl⟩;have aa:Hid (MtM ops ns ro T mo oso nso rso oc nc rc M NB w0 N (c+1) S v V):=by
    have:=(I.out.count (c+1)).below B0q.drew;rw[show((c+1:Nat):Int)=(c:Int)+1 by omega]at this;rw[hV];exact this
   obtain⟨g,rfl,hg,so,ae,⟨a2,a3,a4,a5,a6,a7,af⟩,a8,a9⟩:=aa.out.pgw.o k hk;rw[ho]at af;obtain⟨L,hL⟩:∃L,L=o.2.2.2.length:=⟨_,rfl⟩;have bs:0<L:=by
    rw[hL];cases ho':o.2.2.2 with
    |nil=>exact absurd ho' h4
    |cons y z=>simp
   rw[<-hL]at af;have ck:(0:Int)<(L:Int):=by omega
   have cm:decide (0<L)=true:=by simpa using bs
   have m5:=Qj I.out.m 5 _ rfl;have lm:M<U.heap.size:=Qq I.out.m;have x5:zC U.drew M 5 (zI (c:Int)):=m5.1;have y5:U.drew.frozen? ⟨M,5,none⟩=false:=m5.2;have aC:zC V M 0 (zS g ops.length oc):=(Qj aa.out.m 0 _ rfl).1;have bV:(k:Int)<(ops.length:Int):=by omega
   have lV:M<V.heap.size:=Qq aa.out.m;have bt:zC V M 7 v:=(Qj aa.out.m 7 _ rfl).1;have bu:V.frozen? ⟨M,7,none⟩=false:=(Qj aa.out.m 7 _ rfl).2;rw[hV]at aC af lV bt bu;have HV:=hid hV;obtain⟨iT,bX,bY,bZ,b0⟩:=info_parts Tryz.infoWtr;have b1:Hid (MtM ops ns ro T mo (some ⟨g,0,none⟩) nso rso oc nc rc M NB w0 N (c+1) S v (U.setCell ⟨M,5,none⟩ (zI ((c:Int)+1)))):=by
    have:=I.out.count (c+1);rw[show((c+1:Nat):Int)=(c:Int)+1 by omega]at this;exact this
   obtain⟨Wn,aD⟩:∃Wn,Wn=((U.setCell ⟨M,5,none⟩ (zI ((c:Int)+1))).alloc (.cells #[zI k,zI i,zI 0,zI i] 153)).drew:=⟨_,rfl⟩;have ac:Hid (MtM ops ns ro T mo (some ⟨g,0,none⟩) nso rso oc nc rc M NB w0 N (c+1) S v Wn):=by rw[aD];exact b1.out.below (B0q.alloc L0q _).drew
   have bv:Wn.heap[U.heap.size]? =some (.cells #[zI k,zI i,zI 0,zI i] 153):=by rw[aD];exact Qx (U.setCell ⟨M,5,none⟩ (zI ((c:Int)+1))) _ (by simp)
   have bw:∀j u,([zI k,zI i,zI 0,zI i]:List Value)[j]? =some u->Wn.cell? ((⟨U.heap.size,0,none⟩:Addr).add j)=some u:=World.news_of_block bv;have bx:=hid bw;have b2:=A.out.hl;have bz:Hid (S.length+1<=maxLen/\(S.length+1)*32<=140737488355328):=⟨by unfold maxLen;omega,by omega⟩;have bb:Wn.heap.size=U.heap.size+1:=by rw[aD];simp
   have bA:=hid bb;have bC:=hid aD;have b3:Hid (w0.heap.size<=Wn.heap.size):=ac.out.be.size;have bD:Hid (∀g6 ah w6,w6.ownsRow w0.heap.size 153 4 (zS g6 (S.length+1) ah) (S.length+1) (wqV S++[zI k,zI i,zI 0,zI i])->Wn.grownBy w6 v.ownBlock->(v.ownBlock=some g6∨g6=U.heap.size+1)->MtM ops ns ro T mo (some ⟨g,0,none⟩) nso rso oc nc rc M NB w0 N (c+1) (((k:Int),i,0,i)::S) (zS g6 (S.length+1) ah) (w6.setCell ⟨M,7,none⟩ (zS g6 (S.length+1) ah))):=fun g6 ah w6 D Z h3=>ac.out.push D Z (h3.imp id (fun e=>by rw[e,bb];exact Nat.le_refl _))
   have bE:Hid (∀w6:World,Wn.grownBy w6 v.ownBlock->zC w6 M 7 v/\w6.frozen? ⟨M,7,none⟩=false/\M<w6.heap.size):=fun w6 b4=>by
    have e:=(b4.block M (Qq ac.out.m) (fun e=>ac.out.nm e.symm)).trans ac.out.m;exact⟨(Qj e 7 _ rfl).1,(Qj e 7 _ rfl).2,Qq e⟩
   have b5:Hid (0<o.2.2.2.length):=by rw[<-hL];exact bs
   have Ho:=hid ho;have b6:Hid (c+1<=mo):=by show _<=_;omega
   have H5:=hid h5;clear h5 ho hL aD bb bv bw b2;clear D Z h3 h4 hV a2 a3 a4 a5 a6 a7 a8 a9 ag ai m5
   go_wp2_with fail
   refine Qc 99 (fun X:World=>zC X M 5 (zI (c:Int))/\zC X M 6 (zI (mo:Int))) (by kernel_rfl) (show _/\_ from⟨(Qj I.out.m 5 _ rfl).1,(Qj I.out.m 6 _ rfl).1⟩) (fun t=> ?_);refine Qz 0 t ?_;refine Qz 1 t ?_;refine Qz 2 t ?_;refine Qz 3 t ?_;refine Qz 4 t ?_;refine Qz 5 t ?_;refine Qz 6 t ?_;refine Qz 7 t ?_;refine Qz 8 t ?_;refine⟨by kernel_rfl,?_⟩;clear t
   go_wp2_with(first
    |(at_builtin;rw[<-bC.out];refine wpList_append_lies _ rfl (.tmp 54) (.tmp 59) 97 rfl w0.heap.size 153 iT (.agg #[zI 0,zI 0,zI 0,zI 0]) 4 32 Tryz.underlying97 bX bY bZ b0 rfl (by decide) v S.length (wqV S) rfl ac.out.ow ⟨U.heap.size,0,none⟩ 1 1 [zI k,zI i,zI 0,zI i] rfl rfl bx.out (by simp[Value.oneCell']) (by decide) bz.out.1 bz.out.2 b3.out (U.heap.size+1) bA.out ?_;intro g6 ah w6 bF bc bG cn;have aw:=hid (bD.out g6 ah w6 bF bc bG);obtain⟨x7,y7,l7⟩:=bE.out w6 bc;clear bF bc bG bD bE bx ac))
   obtain⟨W6,bH⟩:∃W6,W6=w6.setCell ⟨M,7,none⟩ (zS g6 (S.length+1) ah):=⟨_,rfl⟩;rw[<-bH]at aw ⊢;have aE:0<ops[k].2.2.2.length:=by rw[Ho.out];exact b5.out
   obtain⟨k',ar,aM⟩:=HW.out.part hk aE;have au:=hid (z6d ops ns ro (some ⟨g,0,none⟩) nso rso ops.length oc ns.length nc ro.length rc M W6 rfl rfl aw.out.pgw (Qj aw.out.m 0 _ rfl).1 (Qj aw.out.m 2 _ rfl).1 k hk 0 aE (fun h=>HW.out.rf k hk h _ (List.getElem_mem aE)));have b7:Hid (Mch ops ro T mo N (c+1) (((k:Int),i,0,i)::S) (.beg (k':Int) i) r q'):=by rw[<-ar,Ho.out];exact H5.out
   rw[ar]at au;have aQ:Hid (∀w7,zB W6 w7->MJs ops ns ro T mo (some ⟨g,0,none⟩) nso rso oc nc rc M NB w0 r q' k' i N (c+1) (((k:Int),i,0,i)::S) (zS g6 (S.length+1) ah) w7):=fun w7 hb=>by
    refine⟨aM,A.out.hi,A.out.hN,fun x hx=> ?_,b6.out,Nat.succ_le_succ A.out.hl,aw.out.below hb,b7.out⟩;rcases List.mem_cons.1 hx with rfl|hx
    ·exact⟨k,hk,rfl,A.out.hi,aE,A.out.hi⟩
    ·exact A.out.hS x hx
   clear bH aE x7 y7 l7 x5 y5 aC af lV lm bt bu bC bA;refine au.out.mono ?_;rintro e7 w7 ⟨rfl,av⟩;have a1:=hid (aQ.out w7 av);clear av au aQ aw
   go_wp2_with fail
   go_step3
   (try simp only[Exit.then])
   exact⟨rfl,q',Nat.lt_succ_self _,k',i,N,c+1,((k:Int),i,0,i)::S,_,Ap (by rfl),a1⟩
end
end Go.Proofs.YtgnkkgcgbeianaaGreatDoor
