/- Lemmas for the last text. Conditions: those that each names. -/
import Derived.Test.YtmelafeingcgnaaGreatDoorVT21ToPD
import Derived.Maps.OwnIn
import Derived.Shelf.Strconv.AppendIntPublic10
import Derived.Deep.AppendLies
set_option linter.unusedVariables false
set_option maxRecDepth 100000
set_option maxHeartbeats 16000000
namespace Go.Proofs.YtmelafeingcgnaaGreatDoor
open Go.Proofs.Tryz
section
open Go.RowKit Go.Shelf
section
variable (ops:List Ox) (ro:List Int) (T:ByteArray) (N:Nt)
inductive Mn:Jo->Nat->Option Nat->Prop
 |nd {k kd M cl s i e}:ops[k.toNat]? =some (kd,M,cl,s)->N k i=some e->Mn (.wk kd M cl s) i e->Mn (.nd k) i e
 |emp {M cl s i}:Mn (.wk 1 M cl s) i (some i)
 |lit {M cl s i}:Mn (.wk 2 M cl s) i (Zm (Uk M T i) (i+M.size))
 |set {M a b c d s i}:Mn (.wk 3 M (a,b,c,d) s) i (Zm (Xx (cl4 a b c d) T i) (i+1))
 |any {M cl s i}:Mn (.wk 4 M cl s) i (Zm (Xx Vm T i) (i+1))
 |ref {M cl r s q i e}:ro[r.toNat]? =some q->Mn (.nd q) i e->Mn (.wk 5 M cl (r::s)) i e
 |seq {M cl s i e}:Mn (.row s) i e->Mn (.wk 6 M cl s) i e
 |cho {M cl s i e}:Mn (.alt s) i e->Mn (.wk 7 M cl s) i e
 |opt {M cl k s i e}:Mn (.nd k) i e->Mn (.wk 8 M cl (k::s)) i (some (e.getD i))
 |star {M cl k s i e}:Mn (.rep k) i e->Mn (.wk 9 M cl (k::s)) i e
 |plus_no {M cl k s i}:Mn (.nd k) i none->Mn (.wk 10 M cl (k::s)) i none
 |plus_ok {M cl k s i x e}:Mn (.nd k) i (some x)->i<x->Mn (.rep k) x e->Mn (.wk 10 M cl (k::s)) i e
 |and {M cl k s i e}:Mn (.nd k) i e->Mn (.wk 11 M cl (k::s)) i (Zm e.isSome i)
 |not {M cl k s i e}:Mn (.nd k) i e->Mn (.wk 12 M cl (k::s)) i (Zm e.isNone i)
 |row_nil {i}:Mn (.row []) i (some i)
 |row_no {k r i}:Mn (.nd k) i none->Mn (.row (k::r)) i none
 |row_ok {k r i x e}:Mn (.nd k) i (some x)->Mn (.row r) x e->Mn (.row (k::r)) i e
 |alt_nil {i}:Mn (.alt []) i none
 |alt_ok {k r i x}:Mn (.nd k) i (some x)->Mn (.alt (k::r)) i (some x)
 |alt_no {k r i e}:Mn (.nd k) i none->Mn (.alt r) i e->Mn (.alt (k::r)) i e
 |rep_end {k i}:Mn (.nd k) i none->Mn (.rep k) i (some i)
 |rep_go {k i x e}:Mn (.nd k) i (some x)->Mn (.rep k) x e->Mn (.rep k) i e
def Clo:Prop:=∀k i e,N k i=some e->Mn ops ro T N (.nd k) i e
end
section
variable {ops:List Ox} {ro:List Int} {T:ByteArray}
theorem Mn.mono{N o:Nt}(h:∀k i e,N k i=some e->o k i=some e){j:Jo}{i:Nat}{e:Option Nat}(r:Mn ops ro T N j i e):Mn ops ro T o j i e:=by
 induction r with
 |nd h1 h2 _ ih=>exact .nd h1 (h _ _ _ h2) ih
 |emp=>exact .emp
 |lit=>exact .lit
 |set=>exact .set
 |any=>exact .any
 |ref h1 _ ih=>exact .ref h1 ih
 |seq _ ih=>exact .seq ih
 |cho _ ih=>exact .cho ih
 |opt _ ih=>exact .opt ih
 |star _ ih=>exact .star ih
 |plus_no _ ih=>exact .plus_no ih
 |plus_ok _ h1 _ ih1 ih2=>exact .plus_ok ih1 h1 ih2
 |and _ ih=>exact .and ih
 |not _ ih=>exact .not ih
 |row_nil=>exact .row_nil
 |row_no _ ih=>exact .row_no ih
 |row_ok _ _ ih1 ih2=>exact .row_ok ih1 ih2
 |alt_nil=>exact .alt_nil
 |alt_ok _ ih=>exact .alt_ok ih
 |alt_no _ _ ih1 ih2=>exact .alt_no ih1 ih2
 |rep_end _ ih=>exact .rep_end ih
 |rep_go _ _ ih1 ih2=>exact .rep_go ih1 ih2
def Gom(ops:List Ox)(ro:List Int)(T:zA)(mo:Nat)(N:Nt)(c n:Nat)(D:Nt->Prop)(A:Option (Option Nat×Nat×Nt)->Nat->Prop)(Z:Nt->Nat->Option (Option Nat×Nat×Nt)->Nat->Prop):Prop:=
 ∃N' c',(Val ops ro T N'/\(∀k i e,N k i=some e->N' k i=some e)/\(Clo ops ro T N->Clo ops ro T N'/\D N'))/\Xt ops ro T N N' n/\c<=c'/\c'<=c+n/\c'+crd ops.length (T.size+1) N=c+crd ops.length (T.size+1) N'/\(c'<=mo->∀r q,Z N' c' r q->∃q',A r q')/\(c<=mo->mo<c'->∃q,A none q)
theorem Gom.then{mo:Nat}{N:Nt}{c n m:Nat}{D Y aa:Nt->Prop}{A:Option (Option Nat×Nat×Nt)->Nat->Prop}{Z Z':Nt->Nat->Option (Option Nat×Nat×Nt)->Nat->Prop}(h:Gom ops ro T mo N c n D A Z)
  (hD:∀E o,(∀k i e,E k i=some e->o k i=some e)->D E->Y o->aa o)(U:∀V c',Val ops ro T V->Gom ops ro T mo V c' m Y (Z V c') Z'):Gom ops ro T mo N c (n+m) aa A Z':=by
 obtain⟨E,c1,⟨v1,m1,k1⟩,x1,a1,b1,d1,r1,u1⟩:=h;obtain⟨o,c2,⟨v2,m2,k2⟩,x2,a2,b2,d2,r2,u2⟩:=U E c1 v1;refine⟨o,c2,⟨v2,fun k i e h=>m2 _ _ _ (m1 _ _ _ h),fun y=> ?_⟩,x1.trans x2,by omega,by omega,by omega,fun y r q hz=> ?_,fun y hm=> ?_⟩
 ·obtain⟨h1,U⟩:=k1 y
  obtain⟨h3,h4⟩:=k2 h1;exact⟨h3,hD _ _ m2 U h4⟩
 ·obtain⟨q1,ab⟩:=r2 y r q hz
  exact r1 (by omega) r q1 ab
 ·rcases Nat.lt_or_ge mo c1 with G|G
  ·exact u1 y G
  ·obtain⟨q,hq⟩:=u2 G hm
   exact r1 G none q hq
theorem Gom.from{mo:Nat}{N:Nt}{c n:Nat}{D:Nt->Prop}{A G:Option (Option Nat×Nat×Nt)->Nat->Prop}{Z:Nt->Nat->Option (Option Nat×Nat×Nt)->Nat->Prop}(h:Gom ops ro T mo N c n D A Z)(U:∀r q,A r q->∃V,G r V):Gom ops ro T mo N c n D G Z:=by
 obtain⟨Y,c1,v1,x1,a1,b1,d1,r1,u1⟩:=h;refine⟨Y,c1,v1,x1,a1,b1,d1,fun o r q hz=> ?_,fun o hm=> ?_⟩
 ·obtain⟨y,E⟩:=r1 o r q hz
  exact U r y E
 ·obtain⟨y,E⟩:=u1 o hm
  exact U none y E
theorem Gom.last{mo:Nat}{N:Nt}{c n:Nat}{D E:Nt->Prop}{A:Option (Option Nat×Nat×Nt)->Nat->Prop}{Z Z':Nt->Nat->Option (Option Nat×Nat×Nt)->Nat->Prop}(h:Gom ops ro T mo N c n D A Z)(Y:∀o,D o->E o)(hZ:∀o G r q,Z' o G r q->∃q',Z o G r q'):Gom ops ro T mo N c n E A Z':=by
 obtain⟨U,c1,⟨v1,m1,V⟩,x1,a1,b1,d1,r1,u1⟩:=h;refine⟨U,c1,⟨v1,m1,fun y=>⟨(V y).1,Y _ (V y).2⟩⟩,x1,a1,b1,d1,fun y r q hz=> ?_,u1⟩;obtain⟨q1,aa⟩:=hZ U c1 r q hz;exact r1 y r q1 aa
theorem Gom.none{mo:Nat}{N:Nt}{c:Nat}(n:Nat){D:Nt->Prop}{A:Option (Option Nat×Nat×Nt)->Nat->Prop}{Z:Nt->Nat->Option (Option Nat×Nat×Nt)->Nat->Prop}(y:Val ops ro T N)(E:Clo ops ro T N->D N)(h:∀r q,Z N c r q->∃G,A r G):Gom ops ro T mo N c n D A Z:=
 ⟨N,c,⟨y,fun _ _ _ h=>h,fun o=>⟨o,E o⟩⟩,Xt.refl,Nat.le_refl _,by omega,rfl,fun _ r q U=>h r q U,fun Y V=>absurd V (by omega)⟩
def Pjm(ops:List Ox)(ro:List Int)(T:zA)(mo:Nat):Jo->Nat->Option Nat->Nat->Prop
 | .nd k,i,e,n=>i<=T.size->0<=k->∀(N:Nt) (c:Nat) (S:List Wq),Val ops ro T N->Gom ops ro T mo N c n (fun N'=>Mn ops ro T N' (.nd k) i e) (Mch ops ro T mo N c S (.beg k i)) (fun N' c'=>Mch ops ro T mo N' c' S (.ret e))
 | .wk kd M cl s,i,e,n=>i<=T.size->∀(k:Int) (N:Nt) (c:Nat) (S:List Wq),ops[k.toNat]? =some (kd,M,cl,s)->N k i=none->c≠mo->Val ops ro T N->Gom ops ro T mo N (c+1) n (fun N'=>Mn ops ro T N' (.wk kd M cl s) i e) (Mch ops ro T mo N c S (.beg k i)) (fun N' c'=>Mch ops ro T mo (Zk N' k i e) c' S (.ret e))
 | .row s,i,e,n=>i<=T.size->∀(k:Int) (fr p:Nat) (M:zA) (cl:Int×Int×Int×Int) (l:List Int) (N:Nt) (c:Nat) (S:List Wq),ops[k.toNat]? =some (6,M,cl,l)->l.drop p=s->s≠[]->Val ops ro T N->Gom ops ro T mo N c n (fun N'=>Mn ops ro T N' (.row s) i e) (Mch ops ro T mo N c ((k,fr,p,i)::S) (.beg (l.getD p 0) i)) (fun N' c'=>Mch ops ro T mo (Zk N' k fr e) c' S (.ret e))
 | .alt s,i,e,n=>i<=T.size->∀(k:Int) (p:Nat) (M:zA) (cl:Int×Int×Int×Int) (l:List Int) (N:Nt) (c:Nat) (S:List Wq),ops[k.toNat]? =some (7,M,cl,l)->l.drop p=s->s≠[]->Val ops ro T N->Gom ops ro T mo N c n (fun N'=>Mn ops ro T N' (.alt s) i e) (Mch ops ro T mo N c ((k,i,p,i)::S) (.beg (l.getD p 0) i)) (fun N' c'=>Mch ops ro T mo (Zk N' k i e) c' S (.ret e))
 | .rep k',i,e,n=>i<=T.size->∀(k:Int) (fr:Nat) (kd:Int) (M:zA) (cl:Int×Int×Int×Int) (l:List Int) (N:Nt) (c:Nat) (S:List Wq),ops[k.toNat]? =some (kd,M,cl,k'::l)->kd=9∨kd=10/\fr<i->Val ops ro T N->Gom ops ro T mo N c n (fun N'=>Mn ops ro T N' (.rep k') i e) (Mch ops ro T mo N c ((k,fr,0,i)::S) (.beg k' i)) (fun N' c'=>Mch ops ro T mo (Zk N' k fr e) c' S (.ret e))
theorem y3K{mo:Nat}(hw:Wfo ops ro T){j:Jo}{i:Nat}{e:Option Nat}{n:Nat}(h:Mo ops ro T j i e n):Pjm ops ro T mo j i e n:=by
 have aa:∀{k:Int} {o:Ox},ops[k.toNat]? =some o->o∈ops/\k.toNat<ops.length:=fun h=>⟨List.mem_of_getElem? h,(List.getElem?_eq_some_iff.1 h).1⟩
 induction h with
 | @nd k kd M V s i e n y h2 ih=>
   intro E hk N c S G;cases Y:N k i with
   |some e0=>
    obtain⟨m,hm⟩:=G k i e0 Y;obtain⟨rfl,_⟩:=Ij hm (Mo.nd y h2);exact Gom.none _ G (fun Z=>Z _ _ _ Y) (fun r q A=>⟨_,.noted Y A⟩)
   |none=>
    have fin:∀(c0:Nat),c0≠mo->∃D U,(Val ops ro T D/\(∀k i e,N k i=some e->D k i=some e)/\(Clo ops ro T N->Clo ops ro T D/\Mn ops ro T D (.nd k) i e))/\Xt ops ro T N D (n+1)/\c0+1<=U/\U<=c0+(n+1)/\U+crd ops.length (T.size+1) N=c0+crd ops.length (T.size+1) D/\(U<=mo->∀r q,Mch ops ro T mo D U S (.ret e) r q->∃q',Mch ops ro T mo N c0 S (.beg k i) r q')/\(c0+1<=mo->mo<U->∃q,Mch ops ro T mo N c0 S (.beg k i) none q):=fun c0 ah=>by
     obtain⟨N1,c1,⟨v1,m1,k1⟩,x1,a1,b1,d1,r1,u1⟩:=ih E k N c0 S y Y ah G;have ag:N1 k i=none:=by
      cases hx:N1 k i with
      |none=>rfl
      |some e1=>
       rcases x1 k i e1 hx with h'|⟨m,hm,ad⟩
       ·rw[Y]at h';cases h'
       ·have:=(Ij ad (Mo.nd y h2)).2
        omega
     have ae:∀k' i' e',N1 k' i'=some e'->Zk N1 k i e k' i'=some e':=fun k' i' e' h'=>by
      unfold Zk;rw[if_neg fun hx=>by rw[hx.1,hx.2,ag]at h';cases h'];exact h'
     have ai:Zk N1 k i e k i=some e:=by unfold Zk;rw[if_pos ⟨rfl,rfl⟩]
     refine⟨Zk N1 k i e,c1,⟨?_,fun k' i' e' h'=>ae _ _ _ (m1 _ _ _ h'),fun Z=> ?_⟩,?_,a1,by omega,?_,r1,u1⟩
     rotate_left
     ·obtain⟨q1,q2⟩:=k1 Z
      have q3:Mn ops ro T (Zk N1 k i e) (.nd k) i e:=.nd y ai (q2.mono ae);refine⟨fun k' i' e' h'=> ?_,q3⟩;unfold Zk at h';by_cases hx:k'=k/\i'=i
      ·rw[if_pos hx]at h'
       obtain⟨rfl,rfl⟩:=hx;cases h';exact q3
      ·rw[if_neg hx]at h'
       exact(q1 k' i' e' h').mono ae
     rotate_left
     rotate_left
     ·intro k' i' e' h'
      unfold Zk at h';by_cases hx:k'=k/\i'=i
      ·rw[if_pos hx]at h'
       obtain⟨rfl,rfl⟩:=hx;cases h';exact⟨_,Mo.nd y h2⟩
      ·rw[if_neg hx]at h'
       exact v1 k' i' e' h'
     ·intro k' i' e' h'
      unfold Zk at h';by_cases hx:k'=k/\i'=i
      ·rw[if_pos hx]at h'
       obtain⟨rfl,rfl⟩:=hx;cases h';exact .inr ⟨_,Nat.le_refl _,Mo.nd y h2⟩
      ·rw[if_neg hx]at h'
       rcases x1 k' i' e' h' with af|⟨m,hm,ad⟩
       ·exact .inl af
       ·exact .inr ⟨m,by omega,ad⟩
     ·rw[y3I e ag hk (aa y).2 (by omega)]
      omega
    by_cases Z:c=mo
    ·obtain⟨N1,c1,v1,x1,a1,b1,d1,_,_⟩:=fin (mo+1) (by omega)
     exact⟨N1,c1-1,v1,x1,by omega,by omega,by omega,fun h'=>by omega,fun _ _=>⟨_,by rw[Z];exact .bud Y⟩⟩
    ·obtain⟨N1,c1,v1,x1,a1,b1,d1,r1,u1⟩:=fin c Z
     exact⟨N1,c1,v1,x1,by omega,b1,d1,r1,fun h' af=>u1 (by omega) af⟩
 | @emp M V s i=>
   intro E k N c S y Y Z G;have hs:=hw.few _ (aa y).1 (.inl rfl);exact Gom.none _ G (fun _=>.emp) (fun r q A=>⟨_,.leaf Y Z y hs A⟩)
 | @lit M V s i=>
   intro E k N c S y Y Z G;have hs:=hw.few _ (aa y).1 (.inr (.inl rfl));exact Gom.none _ G (fun _=>.lit) (fun r q A=>⟨_,.leaf Y Z y hs A⟩)
 | @set M a b c d s i=>
   intro E k N U S y Y Z G;have hs:=hw.few _ (aa y).1 (.inr (.inr (.inl rfl)));exact Gom.none _ G (fun _=>.set) (fun r q A=>⟨_,.leaf Y Z y hs A⟩)
 | @any M V s i=>
   intro E k N c S y Y Z G;have hs:=hw.few _ (aa y).1 (.inr (.inr (.inr rfl)));exact Gom.none _ G (fun _=>.any) (fun r q A=>⟨_,.leaf Y Z y hs A⟩)
 | @ref M V r s q i e n h2 h3 ih=>
   intro E k N c S y Y Z G;have hp:prt ro (5,M,V,r::s) 0=q:=by unfold prt;simp[h2]
   refine((ih E (hw.rt q (List.mem_of_getElem? h2)) N (c+1) ((k,i,0,i)::S) G).last (fun D h=>.ref h2 h) fun D U r' q' A=>⟨_,.pop y rfl A⟩).from fun r' q' A=>⟨_,.push Y Z y (by simp) (by rw[hp];exact A)⟩
 | @seq M V s i e n h2 ih=>
   intro E k N c S y Y Z G;have hs:s≠[]:=hw.two _ (aa y).1 (.inl rfl);exact((ih E k i 0 M V s N (c+1) S y rfl hs G).last (fun D h=>.seq h) fun _ _ r q A=>⟨q,A⟩).from fun r' q' A=>⟨_,.push Y Z y hs A⟩
 | @cho M V s i e n h2 ih=>
   intro E k N c S y Y Z G;have hs:s≠[]:=hw.two _ (aa y).1 (.inr rfl);exact((ih E k 0 M V s N (c+1) S y rfl hs G).last (fun D h=>.cho h) fun _ _ r q A=>⟨q,A⟩).from fun r' q' A=>⟨_,.push Y Z y hs A⟩
 | @opt M V k' s i e n h2 ih=>
   intro E k N c S y Y Z G;refine((ih E (hw.sub _ (aa y).1 k' (by simp)) N (c+1) ((k,i,0,i)::S) G).last (fun D h=>.opt h) fun D U r' q' A=>⟨_,.pop y rfl A⟩).from fun r' q' A=>⟨_,.push Y Z y (by simp) A⟩
 | @star M V k' s i e n h2 ih=>
   intro E k N c S y Y Z G;exact((ih E k i 9 M V s N (c+1) S y (.inl rfl) G).last (fun D h=>.star h) fun _ _ r q A=>⟨q,A⟩).from fun r' q' A=>⟨_,.push Y Z y (by simp) A⟩
 | @plus_no M V k' s i n h2 ih=>
   intro E k N c S y Y Z G;refine((ih E (hw.sub _ (aa y).1 k' (by simp)) N (c+1) ((k,i,0,i)::S) G).last (fun D h=>.plus_no h) fun D U r' q' A=>⟨q'+1,.pop y rfl ?_⟩).from fun r' q' A=>⟨_,.push Y Z y (by simp) A⟩
   have:otc (10,M,V,k'::s) (k,i,0,i) none=none:=by unfold otc;simp
   rw[this];exact A
 | @plus_ok M V k' s i x e n m h2 h3 ih1 ih2=>
   intro E k N c S y Y Z G;have hx:=hw.go k M V k' s y i x n E h2;have hl:=Tb h2 E x rfl;refine Gom.then (((ih1 E (hw.sub _ (aa y).1 k' (by simp)) N (c+1) ((k,i,0,i)::S) G).last (fun D h=>h) (Z':=fun D U=>Mch ops ro T mo D U ((k,i,0,x)::S) (.beg k' x)) fun D U r' q' A=>⟨q'+1,.next (w':=(k,i,0,x)) y rfl A⟩).from fun r' q' A=>⟨_,.push Y Z y (by simp) A⟩) (fun N1 N2 h d1 d2=>.plus_ok (d1.mono h) hx d2) fun D U v'=> ?_
   exact ih2 hl.2 k i 10 M V s D U S y (.inr ⟨rfl,hx⟩) v'
 | @and M V k' s i e n h2 ih=>
   intro E k N c S y Y Z G;refine((ih E (hw.sub _ (aa y).1 k' (by simp)) N (c+1) ((k,i,0,i)::S) G).last (fun D h=>.and h) fun D U r' q' A=>⟨_,.pop y rfl A⟩).from fun r' q' A=>⟨_,.push Y Z y (by simp) A⟩
 | @not M V k' s i e n h2 ih=>
   intro E k N c S y Y Z G;refine((ih E (hw.sub _ (aa y).1 k' (by simp)) N (c+1) ((k,i,0,i)::S) G).last (fun D h=>.not h) fun D U r' q' A=>⟨_,.pop y rfl A⟩).from fun r' q' A=>⟨_,.push Y Z y (by simp) A⟩
 |row_nil=>intro E k fr p M V l N c S y h2 h3;exact absurd rfl h3
 | @row_no k' r i n h2 ih=>
   intro E k fr p M V l N c S y hd _ G;obtain⟨d1,d2,d3,d4⟩:=Ik hd;have ab:0<=k':=hw.sub _ (aa y).1 k' (by have:k'∈l.drop p:=(by rw[hd];simp);exact List.mem_of_mem_drop this);rw[d1];exact(ih E ab N c ((k,fr,p,i)::S) G).last (fun D h=>.row_no h) fun D U r' q' A=>⟨_,.pop y rfl A⟩
 | @row_ok k' r i x e n m h2 h3 ih1 ih2=>
   intro E k fr p M V l N c S y hd _ G;obtain⟨d1,d2,d3,d4⟩:=Ik hd;have ab:0<=k':=hw.sub _ (aa y).1 k' (by have:k'∈l.drop p:=(by rw[hd];simp);exact List.mem_of_mem_drop this);have hl:=Tb h2 E x rfl;rw[d1];by_cases hr:r=[]
   ·subst hr
    cases h3;refine((ih1 E ab N c ((k,fr,p,i)::S) G).last (fun D h=>.row_ok h .row_nil) fun D U r' q' A=>⟨_,.pop y ?_ A⟩);unfold nxt;simp[d4]
   ·refine Gom.then ((ih1 E ab N c ((k,fr,p,i)::S) G).last (fun D h=>h) (Z':=fun D U=>Mch ops ro T mo D U ((k,fr,p+1,x)::S) (.beg (l.getD (p+1) 0) x)) fun D U r' q' A=>⟨_,.next (w':=(k,fr,p+1,x)) y ?_ A⟩) (fun N1 N2 h d1 d2=>.row_ok (d1.mono h) d2) fun D U v'=> ?_
    ·unfold nxt
     have:¬p+1=l.length:=fun h=>hr (d4.1 h)
     simp[this]
    ·exact ih2 hl.2 k fr (p+1) M V l D U S y d2 hr v'
 |alt_nil=>intro E k p M V l N c S y h2 h3;exact absurd rfl h3
 | @alt_ok k' r i x n h2 ih=>
   intro E k p M V l N c S y hd _ G;obtain⟨d1,d2,d3,d4⟩:=Ik hd;have ab:0<=k':=hw.sub _ (aa y).1 k' (by have:k'∈l.drop p:=(by rw[hd];simp);exact List.mem_of_mem_drop this);rw[d1];exact(ih E ab N c ((k,i,p,i)::S) G).last (fun D h=>.alt_ok h) fun D U r' q' A=>⟨_,.pop y rfl A⟩
 | @alt_no k' r i e n m h2 h3 ih1 ih2=>
   intro E k p M V l N c S y hd _ G;obtain⟨d1,d2,d3,d4⟩:=Ik hd;have ab:0<=k':=hw.sub _ (aa y).1 k' (by have:k'∈l.drop p:=(by rw[hd];simp);exact List.mem_of_mem_drop this);rw[d1];by_cases hr:r=[]
   ·subst hr
    cases h3;refine((ih1 E ab N c ((k,i,p,i)::S) G).last (fun D h=>.alt_no h .alt_nil) fun D U r' q' A=>⟨_,.pop y ?_ A⟩);unfold nxt;simp[d4]
   ·refine Gom.then ((ih1 E ab N c ((k,i,p,i)::S) G).last (fun D h=>h) (Z':=fun D U=>Mch ops ro T mo D U ((k,i,p+1,i)::S) (.beg (l.getD (p+1) 0) i)) fun D U r' q' A=>⟨_,.next (w':=(k,i,p+1,i)) y ?_ A⟩) (fun N1 N2 h d1 d2=>.alt_no (d1.mono h) d2) fun D U v'=> ?_
    ·unfold nxt
     have:¬p+1=l.length:=fun h=>hr (d4.1 h)
     simp[this]
    ·exact ih2 E k (p+1) M V l D U S y d2 hr v'
 | @rep_end k' i n h2 ih=>
   intro E k fr kd M V l N c S y ac G;have ab:0<=k':=hw.sub _ (aa y).1 k' (by simp);refine(ih E ab N c ((k,fr,0,i)::S) G).last (fun D h=>.rep_end h) fun D U r' q' A=>⟨q'+1,.pop y ?_ ?_⟩
   ·unfold nxt
    rcases ac with rfl|⟨rfl,_⟩<;>simp
   ·have:otc (kd,M,V,k'::l) (k,fr,0,i) none=some i:=by
     unfold otc;rcases ac with rfl|⟨rfl,h⟩
     ·simp
     ·simp[h]
    rw[this];exact A
 | @rep_go k' i x e n m h2 h3 ih1 ih2=>
   intro E k fr kd M V l N c S y ac G;have ab:0<=k':=hw.sub _ (aa y).1 k' (by simp);have hl:=Tb h2 E x rfl;refine Gom.then ((ih1 E ab N c ((k,fr,0,i)::S) G).last (fun D h=>h) (Z':=fun D U=>Mch ops ro T mo D U ((k,fr,0,x)::S) (.beg k' x)) fun D U r' q' A=>⟨q'+1,.next (w':=(k,fr,0,x)) y ?_ ?_⟩) (fun N1 N2 h d1 d2=>.rep_go (d1.mono h) d2) fun D U v'=> ?_
   ·unfold nxt
    rcases ac with rfl|⟨rfl,_⟩<;>simp
   ·have:prt ro (kd,M,V,k'::l) 0=k':=by
     unfold prt;rcases ac with rfl|⟨rfl,_⟩<;>simp
    show Mch ops ro T mo D U _ (.beg (prt ro (kd,M,V,k'::l) 0) x) r' q';rw[this];exact A
   ·exact ih2 hl.2 k fr kd M V l D U S y (ac.imp id fun h=>⟨h.1,by omega⟩) v'
end
end
open Go.RowKit Go.Shelf Go.Maps
theorem Tryz.laidOutC:laidOutB prog=true:=by kernel_rfl
theorem z4A:Keyed prog 177:=y3F Tryz.laidOutC
def ixA(s:List UInt8):List (List UInt8)->Nat
 |[]=>0
 |a::r=>if a=s then 0 else ixA s r+1
def inA(s:List UInt8):List (List UInt8)->Bool
 |[]=>false
 |a::r=>if a=s then true else inA s r
theorem z4B(s x:List UInt8):∀l,inA s (l++[x])=(inA s l||decide (x=s))
 |[]=>by rw[List.nil_append,inA,inA,inA];by_cases h:x=s<;>simp[h]
 |a::r=>by rw[List.cons_append,inA,inA,z4B s x r];by_cases h:a=s<;>simp[h]
theorem z4C(s x:List UInt8):∀l,ixA s (l++[x])=if inA s l then ixA s l else if x=s then l.length else l.length+1
 |[]=>by rw[List.nil_append,ixA,inA];by_cases h:x=s<;>simp[h,ixA]
 |a::r=>by
  rw[List.cons_append,ixA,ixA,inA,z4C s x r];by_cases h:a=s
  ·simp[h]
  ·simp only[h,if_false]
   by_cases h2:inA s r=true
   ·simp[h2]
   ·by_cases h3:x=s<;>simp[h2,h3]
theorem z4D(s:List UInt8):∀l,inA s l=true->ixA s l<l.length
 |[],h=>by simp[inA]at h
 |a::r,h=>by
  rw[inA]at h;rw[ixA];by_cases h2:a=s
  ·simp[h2]
  ·rw[if_neg h2]at h ⊢
   have:=z4D s r h;simp only[List.length_cons];omega
theorem z4E{s:List UInt8}:∀{l},s∈l->inA s l=true
 |a::r,h=>by
  rw[inA];by_cases h2:a=s
  ·simp[h2]
  ·rw[if_neg h2]
   rcases List.mem_cons.1 h with rfl|h
   ·exact absurd rfl h2
   ·exact z4E h
def Pk(W:World)(B:Nat)(l:List (List UInt8)):Prop:=∃D:DataW Unit,W.ownsMap prog 177 (plainElem prog 3) B l.length D/\∀s,Maps.has D (.string s)=inA s l/\(inA s l=true->D.atKey (.string s) (.lit (.int .i64 0))=.lit (.int .i64 (ixA s l:Nat)))
theorem Pk.made(w:World):Pk (w.alloc (.map #[] 0)) w.heap.size []:=⟨.map [],World.ownsMap_made w _ _ _,fun s=>⟨rfl,fun h=>by simp[inA]at h⟩⟩
theorem Pk.lt{W:World}{B:Nat}{l:List (List UInt8)}(h:Pk W B l):B<W.heap.size:=by
 obtain⟨D,o,_⟩:=h;exact o.lt
theorem Pk.same{W W':World}{B:Nat}{l:List (List UInt8)}(h:Pk W B l)(o:W'.heap[B]? =W.heap[B]?):Pk W' B l:=by
 obtain⟨D,⟨r,y,A,E,G,U⟩,V⟩:=h;exact⟨D,⟨r,y,o.trans A,E,G,U⟩,V⟩
theorem Pk.upd{W:World}{B:Nat}{l:List (List UInt8)}{o:Ox}(h:Pk W B l)(G:inA (qB o) l=false)(U:qW o)(hl:l.length<maxLen):∃W',(Instr.mapUpdate 114 (.map (some B)) (qV o) (.int .i64 (l.length:Nat))).run prog W=.ok () W'/\Pk W' B (l++[qB o])/\W.grownBy W' (some B):=by
 obtain⟨D,r,y⟩:=h;obtain⟨W',V,Y,Z⟩:=r.update z4A Tryz.underlying114 hl (z4u o U) (plainElem_int Tryz.underlying3 (a:=((l.length:Nat):Int)) (WalkArith.wf_i64 (by unfold maxLen at hl;omega)));refine⟨W',V,⟨_,by rw[List.length_append];exact Y,fun x=> ?_⟩,Z⟩;rw[z4B,z4C];by_cases e:qB o=x
 ·subst e
  rw[G];refine⟨by rw[Maps.has_put_same r.isMap (show WideAt.IsKeyLit (.string (qB o))from trivial)];simp,fun _=> ?_⟩;rw[Maps.atKey_put_same r.isMap (show WideAt.IsKeyLit (.string (qB o))from trivial)];simp
 ·have A:(Lit.string x)≠.string (qB o):=fun h=>e (Lit.string.inj h).symm
  rw[Maps.has_put_other A,Maps.atKey_put_other A,(y x).1];refine⟨by simp[e],fun h=> ?_⟩;have E:inA x l=true:=by simpa [e]using h
  rw[(y x).2 E,if_pos E]
theorem Pk.look{W:World}{B:Nat}{l:List (List UInt8)}{o:Ox}(h:Pk W B l)(E:qW o):(Instr.lookup 114 (.map (some B)) (qV o) true).run prog W=.ok (.tuple #[.int .i64 (if inA (qB o) l then(ixA (qB o) l:Int)else 0),.bool (inA (qB o) l)]) W:=by
 obtain⟨D,G,y⟩:=h;obtain⟨v,Z,U,V⟩:=G.look_ok z4A Tryz.underlying114 (Mw W) (plainElem_int Tryz.underlying3 (a:=0) (WalkArith.wf_i64 (by omega))) (z4u o E);obtain⟨c,rfl,Y,_⟩:=plainElem_int_inv Tryz.underlying3 V;have r:=congrArg Prod.fst Y;rw[U,(y (qB o)).1];cases hi:inA (qB o) l with
 |true=>
  rw[(y (qB o)).2 hi]at r;have A:=(Lit.int.inj (DataW.lit.inj r)).2;subst A;rfl
 |false=>
  rw[Maps.atKey_of_not_has (by rw[(y (qB o)).1];exact hi)]at r;have A:=(Lit.int.inj (DataW.lit.inj r)).2;subst A;rfl
def plO(o:Ox)(ops:List Ox):Nat×List Ox:=if inA (qB o) (ops.map qB)then(ixA (qB o) (ops.map qB),ops)else(ops.length,ops++[o])
mutual
def mkT(ix:zA->Int):RT->List Ox->Nat×List Ox
 | .mk k T a b c d s _,ops=>if k=5 then plO (5,{data:=#[]},(0,0,0,0),[ix T]) ops else plO (k,T,(a,b,c,d),(mkL ix s ops).1) (mkL ix s ops).2
def mkL(ix:zA->Int):List RT->List Ox->List Int×List Ox
 |[],ops=>([],ops)
 |t::r,ops=>(((mkT ix t ops).1:Int)::(mkL ix r (mkT ix t ops).2).1,(mkL ix r (mkT ix t ops).2).2)
end
def mkG(ix:zA->Int):List Rr->List Ox->List Int×List Ox
 |[],ops=>([],ops)
 |x::r,ops=>(((mkT ix x.2.1 ops).1:Int)::(mkG ix r (mkT ix x.2.1 ops).2).1,(mkG ix r (mkT ix x.2.1 ops).2).2)
end Go.Proofs.YtmelafeingcgnaaGreatDoor
namespace Go.Proofs
open Go.Shelf
shelf_lay LaysM.n176 Nm 176 at Tryz as Tryz.laysM176
end Go.Proofs
namespace Go.Proofs.YtmelafeingcgnaaGreatDoor
open Go.Proofs.Tryz
open Go.RowKit Go.Shelf Go.Maps
variable {W W' w:World} {v:Value} {B mB mp:Nat} {xs:List Value}
def Xm(w:World):Prop:=Lib.TabIs prog w "internal/strconv.uint64pow10" .u64 Lib.pow10Tab
theorem Xm.below{w':World}(h:Xm w)(o:zB w w'):Xm w':=Lib.tabBelow_of_tabIs h w' o
theorem y3L(B n:Nat)(i:Int)(r: -9223372036854775808<=i)(o:i<=9223372036854775807)(sv:Value)(xs:List Value)(w0 w:World)(y:w.ownsRow B 5 1 sv n xs)(A:w0.heap.size<=B)(D:B<=w.heap.size)(E:zB w0 w)(G:n+21<=140737488355328)(U:Xm w0):
  Calls prog 123 #[sv,zI i,zI 10] w fun e w'=>∃h,e=.returned h/\w'.ownsRow B 5 1 h (n+(Lib.itoa i).length) (xs++Lib.byteCells (Lib.itoa i))/\Below B w w':=
 (Any.strconv_AppendInt_10 Tryz.laysM176 B n i r o sv xs w y D G (fun w' V=>U.below (E.trans (V.mono A)))).mono fun e w' ⟨h,o,Y,Z,_⟩=>⟨h,o,Y,Z⟩
theorem y3M(s:List Int)(i:Int):sbT (s++[i])=sbT s++(Lib.itoa i++[32]):=by
 induction s with
 |nil=>rw[List.nil_append,sbT,sbT,sbT,List.nil_append]
 |cons a r ih=>rw[List.cons_append,sbT,sbT,ih,List.append_assoc,List.cons_append]
theorem Ak(w:World)(x:Value)(t:TypeId):∀j u,[x][j]? =some u->(w.alloc (.cells #[x] t)).cell? ((⟨w.heap.size,0,none⟩:Addr).add j)=some u:=World.news_of_block (Qx w (.cells #[x] t) rfl)
theorem Dj(w:World)(A B:Obj):zB w ((w.alloc A).alloc B)/\((w.alloc A).alloc B).heap[w.heap.size]? =some A/\((w.alloc A).alloc B).heap[w.heap.size+1]? =some B:=by
 have h:(w.alloc A).heap.size=w.heap.size+1:=by simp
 have r:zB w (w.alloc A):=(Below.refl _ w).alloc L0q _;have o:Below (w.heap.size+1) (w.alloc A) ((w.alloc A).alloc B):=B0q.alloc (Nat.le_of_eq h.symm) _;refine⟨r.trans (o.mono (by omega)),?_,?_⟩
 ·rw[o.block _ (by omega)];exact Qx w _ rfl
 ·exact Qx (w.alloc A) _ h.symm
theorem y3N(a b:List Int):sbT (a++b)=sbT a++sbT b:=by
 induction a with
 |nil=>rw[List.nil_append,sbT,List.nil_append]
 |cons x r ih=>rw[List.cons_append,sbT,sbT,ih,List.append_assoc,List.cons_append]
theorem z4F(s:List Int)(j:Nat):(sbT (s.take j)).length<=(sbT s).length:=by
 have h:=y3N (s.take j) (s.drop j);rw[List.take_append_drop]at h;rw[h,List.length_append];omega
theorem y3O(s:List Int)(j:Nat)(h:j<s.length):sbT (s.take (j+1))=sbT (s.take j)++(Lib.itoa s[j]++[32]):=by
 rw[List.take_succ_eq_append_getElem h,y3M]
theorem y3P{base n:Nat}{l:List UInt8}(h:w.ownsRow base 5 1 v n (Lib.byteCells l)):(convert 102 9 v).run prog w=.ok (zT ⟨l.toArray⟩) w:=by
 have e:Lib.byteCells l=nv (l.map fun b=>b.toNat):=by unfold Lib.byteCells nv;rw[List.map_map];rfl
 rw[e]at h;rw[Cx h (fun x hx=>by obtain⟨b,_,rfl⟩:=List.mem_map.1 hx;exact b.toNat_lt)];have:nb (l.map fun b=>b.toNat)=⟨l.toArray⟩:=by unfold nb;rw[List.map_map];simp[Function.comp_def]
 rw[this]
theorem Yk{g:Nat}{t:TypeId}{o a1 a2 a3 a4 r y:Value}(h:w.heap[g]? =some (.cells #[o,a1,a2,a3,a4,r,y] t)):(w.cell? ⟨g,0,none⟩=some o/\w.cell? ⟨g,1,none⟩=some a1/\w.cell? ⟨g,2,none⟩=some a2/\w.cell? ⟨g,3,none⟩=some a3/\w.cell? ⟨g,4,none⟩=some a4/\w.cell? ⟨g,5,none⟩=some r/\w.cell? ⟨g,6,none⟩=some y)/\(w.frozen? ⟨g,0,none⟩=false/\w.frozen? ⟨g,1,none⟩=false/\w.frozen? ⟨g,2,none⟩=false/\w.frozen? ⟨g,3,none⟩=false/\w.frozen? ⟨g,4,none⟩=false/\w.frozen? ⟨g,5,none⟩=false/\w.frozen? ⟨g,6,none⟩=false):=by
 refine⟨⟨?_,?_,?_,?_,?_,?_,?_⟩,⟨?_,?_,?_,?_,?_,?_,?_⟩⟩<;>simp[World.cell?,World.frozen?,h]
theorem Th{R:Nat}{t:TypeId}{y a1 a2 a3 a4 r o v0 v1 v2 v3 v4 v5 v6:Value}(h:zH W R (.cells #[y,a1,a2,a3,a4,r,o] t)):(((((((W.setCell ⟨R,0,none⟩ v0).setCell ⟨R,1,none⟩ v1).setCell ⟨R,2,none⟩ v2).setCell ⟨R,3,none⟩ v3).setCell ⟨R,4,none⟩ v4).setCell ⟨R,5,none⟩ v5).setCell ⟨R,6,none⟩ v6).heap[R]? =some (.cells #[v0,v1,v2,v3,v4,v5,v6] t):=by
 have A:(W.setCell ⟨R,0,none⟩ v0).heap[R]? =some (.cells #[v0,a1,a2,a3,a4,r,o] t):=Qk h 0 v0;have D:((W.setCell ⟨R,0,none⟩ v0).setCell ⟨R,1,none⟩ v1).heap[R]? =some (.cells #[v0,v1,a2,a3,a4,r,o] t):=Qk A 1 v1;have E:(((W.setCell ⟨R,0,none⟩ v0).setCell ⟨R,1,none⟩ v1).setCell ⟨R,2,none⟩ v2).heap[R]? =some (.cells #[v0,v1,v2,a3,a4,r,o] t):=Qk D 2 v2;have G:((((W.setCell ⟨R,0,none⟩ v0).setCell ⟨R,1,none⟩ v1).setCell ⟨R,2,none⟩ v2).setCell ⟨R,3,none⟩ v3).heap[R]? =some (.cells #[v0,v1,v2,v3,a4,r,o] t):=Qk E 3 v3;have U:(((((W.setCell ⟨R,0,none⟩ v0).setCell ⟨R,1,none⟩ v1).setCell ⟨R,2,none⟩ v2).setCell ⟨R,3,none⟩ v3).setCell ⟨R,4,none⟩ v4).heap[R]? =some (.cells #[v0,v1,v2,v3,v4,r,o] t):=Qk G 4 v4;have V:((((((W.setCell ⟨R,0,none⟩ v0).setCell ⟨R,1,none⟩ v1).setCell ⟨R,2,none⟩ v2).setCell ⟨R,3,none⟩ v3).setCell ⟨R,4,none⟩ v4).setCell ⟨R,5,none⟩ v5).heap[R]? =some (.cells #[v0,v1,v2,v3,v4,v5,o] t):=Qk U 5 v5;have Y:(((((((W.setCell ⟨R,0,none⟩ v0).setCell ⟨R,1,none⟩ v1).setCell ⟨R,2,none⟩ v2).setCell ⟨R,3,none⟩ v3).setCell ⟨R,4,none⟩ v4).setCell ⟨R,5,none⟩ v5).setCell ⟨R,6,none⟩ v6).heap[R]? =some (.cells #[v0,v1,v2,v3,v4,v5,v6] t):=Qk V 6 v6;exact Y
theorem Iv{A:World}{R:Nat}{v0 v1 v2 v3 v4 v5 v6:Value}(h:Below B A W)(o:B<=R):Below B A (((((((W.setCell ⟨R,0,none⟩ v0).setCell ⟨R,1,none⟩ v1).setCell ⟨R,2,none⟩ v2).setCell ⟨R,3,none⟩ v3).setCell ⟨R,4,none⟩ v4).setCell ⟨R,5,none⟩ v5).setCell ⟨R,6,none⟩ v6):=
 (((((((h.setCell (p:=⟨R,0,none⟩) o v0).setCell (p:=⟨R,1,none⟩) o v1).setCell (p:=⟨R,2,none⟩) o v2).setCell (p:=⟨R,3,none⟩) o v3).setCell (p:=⟨R,4,none⟩) o v4).setCell (p:=⟨R,5,none⟩) o v5).setCell (p:=⟨R,6,none⟩) o v6)
theorem y3Q(n:Nat)(x:Int):0<n+(Lib.itoa x).length:=by
 have:0<(Lib.itoa x).length:=by
  unfold Lib.itoa;split
  ·simp
  ·rw[Lib.decDigits];split<;>simp
 omega
def SbZ(s:List Int):Prop:=(∀i∈s,-9223372036854775808<=i/\i<=9223372036854775807)/\(sbT s).length<=1073741824
theorem y3R(k:Int)(T:zA)(a b c d:Int)(s:List Int)(E:Option Addr)(n U B:Nat)(w:World)(HN:Hid (n=s.length))(aE:n<=1048576)(HR:Hid (Eh w B (.slice E n U) s))(hB:B<=w.heap.size)(G:Hid (SbZ s))(HP:Hid (Xm w)):
  Calls prog 81 #[.agg #[zI k,zT T,zU a,zU b,zU c,zU d,.slice E n U]] w fun e w'=>e=.returned (qV (k,T,(a,b,c,d),s))/\zB w w':=by
 obtain⟨i0,hi,ap,aq,ar⟩:=info_parts Tryz.infoByte;obtain⟨ab,e0,y⟩:=Dj w (.cells #[zI k,zT T,zU a,zU b,zU c,zU d,.slice E n U] 65) (.cells #[zI 0,zT {data:=#[]},zU 0,zU 0,zU 0,zU 0,zT {data:=#[]}] 177);obtain⟨A,V⟩:∃A,A=(w.alloc (.cells #[zI k,zT T,zU a,zU b,zU c,zU d,.slice E n U] 65)).alloc (.cells #[zI 0,zT {data:=#[]},zU 0,zU 0,zU 0,zU 0,zT {data:=#[]}] 177):=⟨_,rfl⟩;rw[<-V]at ab e0 y;have ah:=hid ab;have E0:=hid e0;have E1:=hid y;have au:Hid (A.heap.size=w.heap.size+1+1):=hid (by rw[V,World.size_alloc,World.size_alloc]);have ai:=hid V;clear ab e0 y V;go_enter func81,ntmps81
 go_wp2_with fail
 rw[<-ai.out];clear ai
 go_loopw [3,9] (fun v i wr=>∃j:Nat,i=zI (j:Int)/\j<=n/\Hid (wr.ownsRow (w.heap.size+2) 5 1 v (sbT (s.take j)).length (Lib.byteCells (sbT (s.take j))))/\Hid (Below (w.heap.size+2) A wr)) (fun _ i _=>n-(intOf i).toNat)
 case atStart=>exact⟨0,rfl,Nat.zero_le _,hid (by rw[List.take_zero];exact World.ownsRow_nil _ _ _ _),hid B0q⟩
 case round=>
  obtain⟨j,rfl,hj,Y,D⟩:=hrel;have av:A.heap.size=w.heap.size+2:=by
   have:=au.out;omega
  have ac:Hid (zB w wr):=hid (ah.out.trans (D.out.mono (by omega)));by_cases hjn:j<n
  ·have aF:(j:Int)<(n:Int):=by omega
   have a0:decide ((j:Int)<(n:Int))=true:=by simp;omega
   have ad:j<s.length:=by rw[<-HN.out];exact hjn
   obtain⟨g,o,rfl,hg,Z⟩:∃g o,E=some ⟨g,o,none⟩/\g<B/\zC w g (o+j) (zI s[j]):=by
    obtain⟨aG,aH,y,_,aw⟩:=HR.out;obtain⟨g,o,e2,hg,Z⟩:=aw j ad;injection y with y _ _
    exact⟨g,o,y.trans e2,hg,Z⟩
   have z0:=(ac.out.cell (p:=⟨g,o+j,none⟩) (by show g<w.heap.size;omega)).trans Z;have zl:g<wr.heap.size:=World.block_lt_of_cell? wr _ z0;obtain⟨x,hx⟩:∃x,x=s[j]:=⟨_,rfl⟩;rw[<-hx]at z0;have ae:=G.out.1 x (by rw[hx];exact List.getElem_mem ad);have ax:(sbT (s.take j)).length<=1073741824:=Nat.le_trans (z4F s j) G.out.2;have HA:=hid (y3L (w.heap.size+2) _ x ae.1 ae.2 u3 _ w wr Y.out (by omega) (by have:=D.out.size;omega) ac.out (by omega) HP.out);have af:=hid (y3O s j ad);rw[<-hx]at af;have ay:=hid (show(sbT (s.take (j+1))).length<=1073741824 from Nat.le_trans (z4F s (j+1)) G.out.2);have M0:(sbT (s.take j)).length+(Lib.itoa x).length+1<=1073741824:=by
    have h:=ay.out;rw[af.out,List.length_append,List.length_append]at h;exact h
   have M1:(sbT (s.take j)).length+(Lib.itoa x).length+1<=maxLen:=by unfold maxLen;omega
   have M2:((sbT (s.take j)).length+(Lib.itoa x).length+1)*1<=140737488355328:=by omega
   have aj:Hid (∀r:World,Below (w.heap.size+2) A r->w.heap.size+2<=(r.alloc (.cells #[.int .u8 32] 5)).heap.size):=fun r h2=>by
    have h3:=h2.size;rw[World.size_alloc];omega
   have az:Hid (∀r:World,Below (w.heap.size+2) A r->w.heap.size+2<=r.heap.size):=fun r h2=>by
    have h3:=h2.size;omega
   clear Z hx ae HR G ax M0
   go_wp2_with(first
    |(go_at_call 123;refine HA.out.mono ?_;rintro e r ⟨v2,rfl,ag,ak⟩;obtain⟨g2,aA,rfl,_,_⟩:=ag.form (y3Q _ _);have aa:=hid (D.out.trans ak);have al:=hid ag;clear ag ak HA Y)
    |(at_builtin;refine wpList_append_lies _ rfl (.tmp 16) (.tmp 17) 102 rfl (w.heap.size+2) 5 i0 (.int .u8 0) 1 1 Tryz.underlying102 hi ap aq ar rfl (by decide) (zS g2 ((sbT (s.take j)).length+(Lib.itoa x).length) aA) ((sbT (s.take j)).length+(Lib.itoa x).length) (Lib.byteCells (sbT (s.take j))++Lib.byteCells (Lib.itoa x)) rfl (al.out.alloc _) ⟨r.heap.size,0,none⟩ 1 1 [.int .u8 32] rfl rfl (Ak _ _ _) (by simp[Value.oneCell']) (by decide) M1 M2 (aj.out r aa.out) _ rfl ?_;intro g6 aI w6 am ao aB aJ;have aC:=hid am;have aD:=hid ((aa.out.alloc (az.out r aa.out) _).grown ao (aj.out r aa.out) (fun g e=>(al.out.lt g e).1));clear am ao aB))
   refine⟨⟨j+1,by go_num,by omega,hid ?_,aD⟩,by simp[intOf];omega⟩;have h6:=aC.out;rw[af.out];simpa [Lib.byteCells,Nat.add_assoc]using h6
  ·have a0:decide ((j:Int)<(n:Int))=false:=by simp;omega
   obtain rfl:j=n:=by omega
   have HC:Hid ((convert 102 9 u3).run prog wr=.ok (zT ⟨(sbT s).toArray⟩) wr):=by
    have h:=y3P Y.out;rw[List.take_of_length_le (by have:=HN.out;omega)]at h;exact h
   have F0:=hid ((D.out.block _ (by omega)).trans E0.out);have F1:=hid ((D.out.block _ (by omega)).trans E1.out);obtain⟨⟨m0,m1,m2,m3,m4,m5,m6⟩,_⟩:=Yk F0.out;obtain⟨⟨k0,k1,k2,k3,k4,k5,k6⟩,⟨f0,f1,f2,f3,f4,f5,f6⟩⟩:=Yk F1.out;have l0:=Qq F0.out;have l1:=Qq F1.out;have aK:=HC.out;clear Y D ah E0 E1 HR G HP HN hj hjn av
   go_wp2_with fail
   obtain⟨⟨r0,r1,r2,r3,r4,r5,r6⟩,_⟩:=Yk (Th (v0:=zI k) (v1:=zT T) (v2:=zU a) (v3:=zU b) (v4:=zU c) (v5:=zU d) (v6:=zT ⟨(sbT s).toArray⟩) F1.out);refine bodyPost_ret (v:=qV (k,T,(a,b,c,d),s)) (by simp[results,Tryz.results81,go_sem,r0,r1,r2,r3,r4,r5,r6,qV]) rfl ⟨rfl,Iv ac.out (by omega)⟩
theorem Tryz.infoOp:(Tryz.prog.info? 65).map (fun i=>(i.zero,i.size,i.bytes))=some (some (.agg #[zI 0,zT {data:=#[]},zU 0,zU 0,zU 0,zU 0,.slice none 0 0]),7,80):=by kernel_rfl
def RwC(W:World)(P:Nat->Prop)(so:Option Addr)(s:List Int):Prop:=∀j (hj:j<s.length),∃g q,so=some ⟨g,q,none⟩/\P g/\W.cell? ⟨g,q+j,none⟩=some (zI s[j])
def OpC(W:World)(P:Nat->Prop)(o:Ox)(cs:List Value):Prop:=∃so cap,cs=[zI o.1,zT o.2.1,zU o.2.2.1.1,zU o.2.2.1.2.1,zU o.2.2.1.2.2.1,zU o.2.2.1.2.2.2,.slice so o.2.2.2.length cap]/\o.2.2.2.length<=1048576/\RwC W P so o.2.2.2
def Av(W:World)(P:Nat->Prop)(ops:List Ox)(xs:List Value):Prop:=∀i (hi:i<ops.length),∃c,OpC W P ops[i] c/\∀q u,c[q]? =some u->xs[i*7+q]? =some u
structure Mkr (W:World) (Q:Nat->Prop) (B mB mp:Nat) (gv vn vr:Value) (ops:List Ox) (v:Value) (xs:List Value):Prop where
 hm:W.heap[mB]? =some (.cells #[gv,v,vn,vr,.map (some mp)] 116)
 ho:W.ownsRow B 65 7 v ops.length xs
 hops:Av W Q ops xs
 hmap:Pk W mp (ops.map qB)
 hq:∀g,Q g->g<W.heap.size/\g≠mB/\g≠mp/\v.ownBlock≠some g
 hmB:mB<B
 hmp:mp<B
 hne:mB≠mp
structure Frm (mB mp:Nat) (W:World) (v:Value) (W':World) (v':Value):Prop where
 os:W'.os=W.os
 tape:W'.tape=W.tape
 output:W'.output=W.output
 size:W.heap.size<=W'.heap.size
 block:∀k,k<W.heap.size->k≠mB->k≠mp->v.ownBlock≠some k->W'.heap[k]? =W.heap[k]?
 row:∀g,v'.ownBlock=some g->v.ownBlock=some g∨W.heap.size<=g
theorem Frm.trans{mB mp:Nat}{W y A:World}{v v1 v2:Value}(h:Frm mB mp W v y v1)(o:Frm mB mp y v1 A v2):Frm mB mp W v A v2:=
 ⟨o.os.trans h.os,o.tape.trans h.tape,o.output.trans h.output,Nat.le_trans h.size o.size,fun k D E G U=>(o.block k (Nat.lt_of_lt_of_le D h.size) E G (fun e=>(h.row k e).elim U (fun r=>by omega))).trans (h.block k D E G U),fun g V=>by
   rcases o.row g V with r|r
   ·exact h.row g r
   ·exact .inr (Nat.le_trans h.size r)⟩
theorem Frm.of_below(h:zB W W'):Frm mB mp W v W' v:=⟨h.os,h.tape,h.output,h.size,fun k o _ _ _=>h.block k o,fun _ h=>.inl h⟩
theorem Frm.below{A:World}{o:Value}(h:Frm mB mp W v W' o)(r:Below B A W)(D:B<=W.heap.size)(E:B<=mB)(G:B<=mp)(y:∀g,v.ownBlock=some g->B<=g):Below B A W':=
 r.trans ⟨h.os,h.tape,h.output,h.size,fun k U=>h.block k (by omega) (by omega) (by omega) (fun e=>by have:=y k e;omega)⟩
theorem RwC.keep{P o:Nat->Prop}{r:Option Addr}{s:List Int}(h:RwC W P r s)(y:∀g,P g->o g/\W'.heap[g]? =W.heap[g]?):RwC W' o r s:=fun j D=>by
 obtain⟨g,q,E,A,G⟩:=h j D;exact⟨g,q,E,(y g A).1,(World.cell?_of_block (y g A).2).trans G⟩
theorem OpC.keep{W W':World}{P r:Nat->Prop}{o:Ox}{y:List Value}(h:OpC W P o y)(A:∀g,P g->r g/\W'.heap[g]? =W.heap[g]?):OpC W' r o y:=by
 obtain⟨D,E,G,U,V⟩:=h;exact⟨D,E,G,U,V.keep A⟩
theorem Av.keep{W W':World}{P o:Nat->Prop}{ops:List Ox}{xs:List Value}(h:Av W P ops xs)(r:∀g,P g->o g/\W'.heap[g]? =W.heap[g]?):Av W' o ops xs:=fun i y=>by
 obtain⟨c,A,D⟩:=h i y;exact⟨c,A.keep r,D⟩
theorem Xp{e size n:Nat}(h:W.ownsRow B e size v n xs)(y:∀g,v.ownBlock=some g->W'.heap[g]? =W.heap[g]?):W'.ownsRow B e size v n xs:=by
 obtain⟨A,o⟩:=h;refine⟨A,?_⟩;rcases o with o|⟨g,D,E,r,G,U,V⟩
 ·exact .inl o
 ·exact .inr ⟨g,D,E,r,G,(y g (by rw[r];rfl)).trans U,V⟩
theorem Mkr.kept{Q:Nat->Prop}{y vn vr:Value}{ops:List Ox}(h:Mkr W Q B mB mp y vn vr ops v xs)(A:W.heap.size<=W'.heap.size)(X:Nat->Prop)(r:∀k,k<W.heap.size->¬X k->W'.heap[k]? =W.heap[k]?)(D:¬X mB)(E:¬X mp)(G:∀g,v.ownBlock=some g->¬X g)(U:∀g,Q g->¬X g):Mkr W' Q B mB mp y vn vr ops v xs:=
 ⟨(r _ (Qq h.hm) D).trans h.hm,Xp h.ho fun g o=>r g (h.ho.lt g o).2 (G g o),h.hops.keep fun g o=>⟨o,r g (h.hq g o).1 (U g o)⟩,h.hmap.same (r _ h.hmap.lt E),fun g o=>⟨Nat.lt_of_lt_of_le (h.hq g o).1 A,(h.hq g o).2⟩,h.hmB,h.hmp,h.hne⟩
theorem Mkr.below{Q:Nat->Prop}{o vn vr:Value}{ops:List Ox}(h:Mkr W Q B mB mp o vn vr ops v xs)(r:zB W W'):Mkr W' Q B mB mp o vn vr ops v xs:=
 h.kept r.size (fun _=>False) (fun k y _=>r.block k y) id id (fun _ _=>id) (fun _ _=>id)
def OnP(ix:zA->Int)(t:RT)(Q:Nat->Prop)(B mB mp:Nat)(gv vn vr:Value)(ops:List Ox)(v:Value)(W:World)(e:Ending)(W':World):Prop:=
 ∃(o:Ox) (cs:List Value) (Q':Nat->Prop) (v':Value) (xs':List Value) (ops':List Ox),e=.returned (.agg cs.toArray)/\OpC W' (fun g=>W.heap.size<=g/\g<W'.heap.size/\¬Q' g/\v'.ownBlock≠some g) o cs/\mkT ix t ops=plO o ops'/\(qW o/\SbZ o.2.2.2/\o.2.1.size<=1073741824/\ops'.length<=1048576)/\Mkr W' Q' B mB mp gv vn vr ops' v' xs'/\(∀g,Q' g->Q g∨W.heap.size<=g)/\Frm mB mp W v W' v'
def PlP(ix:zA->Int)(t:RT)(Q:Nat->Prop)(B mB mp:Nat)(gv vn vr:Value)(ops:List Ox)(v:Value)(W:World)(e:Ending)(W':World):Prop:=
 ∃(Q':Nat->Prop) (v':Value) (xs':List Value),e=.returned (zI ((mkT ix t ops).1:Nat))/\Mkr W' Q' B mB mp gv vn vr (mkT ix t ops).2 v' xs'/\(∀g,Q' g->Q g∨W.heap.size<=g)/\Frm mB mp W v W' v'
end Go.Proofs.YtmelafeingcgnaaGreatDoor
