/- Lemmas. Conditions: as each names. -/
import Derived.Test.YtmelafeingcgnaaGreatDoorVXSToSBase
set_option linter.unusedVariables false
set_option maxRecDepth 100000
set_option maxHeartbeats 32000000
namespace Go.Proofs.YtmelafeingcgnaaGreatDoor
open Go.Proofs.Tryz
open Go.RowKit Go.Shelf Go.Maps
abbrev qA:=Option (Option Nat×Nat×Nt)->Nat->Prop
abbrev q4:=Int×Int×Int×Int
abbrev qS(N M:Nt):Prop:=∀k i e,N k i=some e->M k i=some e
abbrev qP(a b c:Option Addr)(d e f g h i:Nat):Value:=.agg #[.slice a d e,.slice b f g,.slice c h i]
abbrev qN:Value:=.slice none 0 0
structure MaI (rs:List Rr) (T:zA) (rule at':Nat) (e1:Option Nat) (c:Nat) (x:Int) (N':Nt):Prop where
 hx:(pgG rs).1[rule]? =some x
 mt:∃n,(∃hr:rule<rs.length,Mt (bdQ rs) T (.one rs[rule].2.1) at' e1 n)/\c<=n
 c1:c<=(pgG rs).2.length*(T.size+1)
 c2:1<=c
 yes:∀mo,c<=mo->∃q,Mch (pgG rs).2 (pgG rs).1 T mo N0 0 [] (.beg x at') (some (e1,c,N')) q
 no:∀mo,mo<c->∃q,Mch (pgG rs).2 (pgG rs).1 T mo N0 0 [] (.beg x at') none q
theorem PgV.match{rs:List Rr}{i j k:Option Addr}{m n o p r s:Nat}{u:Addr}{w:World}(h:PgV rs i j k m n o p r s u w){T:zA}{a b:Nat}{y:Option Nat}{c:Nat}{x:Int}{E:Nt}(t:MaI rs T a b y c x E)(z:a<rs.length)(A:b<=T.size)(C:T.size<=4096)(mo:Nat)(D:mo<=1048576):
  Calls prog 20 #[qP i j k m n o p r s,zI a,zT T,zI b,zI mo] w fun e w'=>((c<=mo/\e=.returned (.tuple #[zI (enE y),zI (c:Int),.nilIface]))∨(mo<c/\e=.returned (.tuple #[zI 0,zI 0,.iface 34 (zI 50)])))/\zB w w':=by
 rcases Nat.lt_or_ge mo c with d|d
 ·obtain⟨q,v⟩:=t.no mo d
  exact(z6t rs i j k m n o p r s u w h.hol h.hnl h.hrl h.hs h.hp h.hM h.hz h.hu h.hT h.hF h.hPw T a b mo z A D C x t.hx none q v).mono fun e w' f=>⟨.inr ⟨d,f.1⟩,f.2⟩
 ·obtain⟨q,v⟩:=t.yes mo d
  exact(z6t rs i j k m n o p r s u w h.hol h.hnl h.hrl h.hs h.hp h.hM h.hz h.hu h.hT h.hF h.hPw T a b mo z A D C x t.hx _ q v).mono fun e w' f=>⟨.inl ⟨d,f.1⟩,f.2⟩
section
section
variable {ops:List Ox} {ro:List Int} {T:ByteArray}
theorem y7f{N:Nt}{j:Jo}{i:Nat}{e:Option Nat}(h:Mn ops ro T N j i e):∃n,Mo ops ro T j i e n:=by
 induction h with
 |nd h1 _ _ a=>exact a.elim fun _ a=>⟨_,.nd h1 a⟩
 |ref h1 _ a=>exact a.elim fun _ a=>⟨_,.ref h1 a⟩
 |emp|lit|set|any|row_nil|alt_nil=>exact⟨_,by constructor⟩
 |seq _ a|cho _ a|opt _ a|star _ a|plus_no _ a|and _ a|not _ a|row_no _ a|alt_ok _ a|rep_end _ a=>exact a.elim fun _ a=>⟨_,by constructor;exact a⟩
 |plus_ok _ _ _ b c=>exact b.elim fun _ b=>c.elim fun _ c=>⟨_,.plus_ok b c⟩
 |row_ok _ _ b c=>exact b.elim fun _ b=>c.elim fun _ c=>⟨_,.row_ok b c⟩
 |alt_no _ _ b c=>exact b.elim fun _ b=>c.elim fun _ c=>⟨_,.alt_no b c⟩
 |rep_go _ _ b c=>exact b.elim fun _ b=>c.elim fun _ c=>⟨_,.rep_go b c⟩
theorem Mn.is{N:Nt}{j:Jo}{i n:Nat}{e a:Option Nat}(h:Mn ops ro T N j i a)(b:Mo ops ro T j i e n):a=e:=by
 obtain⟨m,h⟩:=y7f h;exact(Ij h b).1
def Gox(ops:List Ox)(ro:List Int)(T:zA)(mo:Nat)(N:Nt)(c n:Nat)(D:Nt->Prop)(A:qA)(Z:Nt->Nat->qA):Prop:=
 ∃N' c',(Val ops ro T N'/\(qS N N')/\(Clo ops ro T N->Clo ops ro T N'/\D N')/\(∀Nf:Nt,D Nf->(qS N Nf)->qS N' Nf))/\Xt ops ro T N N' n/\c<=c'/\c'<=c+n/\c'+crd ops.length (T.size+1) N=c+crd ops.length (T.size+1) N'/\(c'<=mo->∀r q,Z N' c' r q->∃q',A r q')/\(c<=mo->mo<c'->∃q,A none q)
theorem Gox.then{mo:Nat}{N:Nt}{c n m:Nat}{D o p:Nt->Prop}{A:qA}{Z Z':Nt->Nat->qA}(h:Gox ops ro T mo N c n D A Z)
  (E:∀f b,(qS f b)->D f->o b->p b)(u:∀a,p a->D a/\o a)(s:∀t v,Val ops ro T t->Gox ops ro T mo t v m o (Z t v) Z'):Gox ops ro T mo N c (n+m) p A Z':=by
 obtain⟨f,x,⟨v1,F,G,H⟩,I,a1,b1,d1,y,K⟩:=h;obtain⟨b,L,⟨v2,z,M,O⟩,P,a2,b2,d2,Q,R⟩:=s f x v1;refine⟨b,L,⟨v2,fun k i e h=>z _ _ _ (F _ _ _ h),fun d=> ?_,fun a C S=>O a (u a C).2 (H a (u a C).1 S)⟩,I.trans P,by omega,by omega,by omega,fun d r q U=> ?_,fun d V=> ?_⟩
 ·obtain⟨W,s⟩:=G d
  obtain⟨X,Y⟩:=M W;exact⟨X,E _ _ z s Y⟩
 ·obtain⟨q1,aa⟩:=Q d r q U
  exact y (by omega) r q1 aa
 ·rcases Nat.lt_or_ge mo x with j|j
  ·exact K d j
  ·obtain⟨q,hq⟩:=R j V
   exact y j none q hq
theorem Gox.from{mo:Nat}{N:Nt}{c n:Nat}{D:Nt->Prop}{A e:qA}{Z:Nt->Nat->qA}(h:Gox ops ro T mo N c n D A Z)(f:∀r q,A r q->∃i,e r i):Gox ops ro T mo N c n D e Z:=by
 obtain⟨j,k,v1,m,o,p,s,t,u⟩:=h;refine⟨j,k,v1,m,o,p,s,fun a r q v=> ?_,fun a x=> ?_⟩
 ·obtain⟨b,d⟩:=t a r q v
  exact f r b d
 ·obtain⟨b,d⟩:=u a x
  exact f none b d
theorem Gox.last{mo:Nat}{N:Nt}{c n:Nat}{D e:Nt->Prop}{A:qA}{Z Z':Nt->Nat->qA}(h:Gox ops ro T mo N c n D A Z)(m:∀a,D a->e a)(o:∀b,e b->D b)(p:∀a f r q,Z' a f r q->∃s,Z a f r s):Gox ops ro T mo N c n e A Z':=by
 obtain⟨i,j,⟨v1,t,k,u⟩,v,x,y,z,C,E⟩:=h;refine⟨i,j,⟨v1,t,fun d=>⟨(k d).1,m _ (k d).2⟩,fun b F=>u b (o b F)⟩,v,x,y,z,fun d r q G=> ?_,E⟩;obtain⟨H,I⟩:=p i j r q G;exact C d r H I
theorem Gox.none{mo:Nat}{N:Nt}{c:Nat}(n:Nat){D:Nt->Prop}{A:qA}{Z:Nt->Nat->qA}(b:Val ops ro T N)(d:Clo ops ro T N->D N)(h:∀r q,Z N c r q->∃e,A r e):Gox ops ro T mo N c n D A Z:=
 ⟨N,c,⟨b,fun _ _ _ h=>h,fun a=>⟨a,d a⟩,fun _ _ h=>h⟩,Xt.refl,Nat.le_refl _,by omega,rfl,fun _ r q f=>h r q f,fun j i=>absurd i (by omega)⟩
theorem y7p{N:Nt}{M:zA}{a:q4}{x k:Int}{s:List Int}{i n:Nat}{r e:Option Nat}(h:Mn ops ro T N (.wk x M a (k::s)) i r)(y:x=8∨x=11∨x=12)(b:Mo ops ro T (.nd k) i e n):Mn ops ro T N (.nd k) i e:=by
 rcases y with rfl|rfl|rfl<;>cases h<;>rename_i g<;>cases g.is b<;>exact g
def Pjx(ops:List Ox)(ro:List Int)(T:zA)(mo:Nat):Jo->Nat->Option Nat->Nat->Prop
 | .nd k,i,e,n=>i<=T.size->0<=k->∀(N:Nt) (c:Nat) (S:List Wq),Val ops ro T N->Gox ops ro T mo N c n (fun N'=>Mn ops ro T N' (.nd k) i e) (Mch ops ro T mo N c S (.beg k i)) (fun N' c'=>Mch ops ro T mo N' c' S (.ret e))
 | .wk kd M cl s,i,e,n=>i<=T.size->∀(k:Int) (N:Nt) (c:Nat) (S:List Wq),ops[k.toNat]? =some (kd,M,cl,s)->N k i=none->c≠mo->Val ops ro T N->Gox ops ro T mo N (c+1) n (fun N'=>Mn ops ro T N' (.wk kd M cl s) i e) (Mch ops ro T mo N c S (.beg k i)) (fun N' c'=>Mch ops ro T mo (Zk N' k i e) c' S (.ret e))
 | .row s,i,e,n=>i<=T.size->∀(k:Int) (fr p:Nat) (M:zA) (cl:q4) (l:List Int) (N:Nt) (c:Nat) (S:List Wq),ops[k.toNat]? =some (6,M,cl,l)->l.drop p=s->s≠[]->Val ops ro T N->Gox ops ro T mo N c n (fun N'=>Mn ops ro T N' (.row s) i e) (Mch ops ro T mo N c ((k,fr,p,i)::S) (.beg (l.getD p 0) i)) (fun N' c'=>Mch ops ro T mo (Zk N' k fr e) c' S (.ret e))
 | .alt s,i,e,n=>i<=T.size->∀(k:Int) (p:Nat) (M:zA) (cl:q4) (l:List Int) (N:Nt) (c:Nat) (S:List Wq),ops[k.toNat]? =some (7,M,cl,l)->l.drop p=s->s≠[]->Val ops ro T N->Gox ops ro T mo N c n (fun N'=>Mn ops ro T N' (.alt s) i e) (Mch ops ro T mo N c ((k,i,p,i)::S) (.beg (l.getD p 0) i)) (fun N' c'=>Mch ops ro T mo (Zk N' k i e) c' S (.ret e))
 | .rep k',i,e,n=>i<=T.size->∀(k:Int) (fr:Nat) (kd:Int) (M:zA) (cl:q4) (l:List Int) (N:Nt) (c:Nat) (S:List Wq),ops[k.toNat]? =some (kd,M,cl,k'::l)->kd=9∨kd=10/\fr<i->Val ops ro T N->Gox ops ro T mo N c n (fun N'=>Mn ops ro T N' (.rep k') i e) (Mch ops ro T mo N c ((k,fr,0,i)::S) (.beg k' i)) (fun N' c'=>Mch ops ro T mo (Zk N' k fr e) c' S (.ret e))
theorem y7s{mo:Nat}(O:Wfo ops ro T){j:Jo}{i:Nat}{e:Option Nat}{n:Nat}(h:Mo ops ro T j i e n):Pjx ops ro T mo j i e n:=by
 have R:∀{k:Int} {o:Ox},ops[k.toNat]? =some o->o∈ops/\k.toNat<ops.length:=fun h=>⟨List.mem_of_getElem? h,(List.getElem?_eq_some_iff.1 h).1⟩
 induction h with
 | @nd k kd M E s i e n f y ih=>
   intro z hk N c S A;cases F:N k i with
   |some e0=>
    obtain⟨m,hm⟩:=A k i e0 F;obtain⟨rfl,_⟩:=Ij hm (Mo.nd f y);exact Gox.none _ A (fun G=>G _ _ _ F) (fun r q t=>⟨_,.noted F t⟩)
   |none=>
    have ae:∀(c0:Nat),c0≠mo->∃v C,(Val ops ro T v/\(qS N v)/\(Clo ops ro T N->Clo ops ro T v/\Mn ops ro T v (.nd k) i e)/\(∀I:Nt,Mn ops ro T I (.nd k) i e->(qS N I)->qS v I))/\Xt ops ro T N v (n+1)/\c0+1<=C/\C<=c0+(n+1)/\C+crd ops.length (T.size+1) N=c0+crd ops.length (T.size+1) v/\(C<=mo->∀r q,Mch ops ro T mo v C S (.ret e) r q->∃H,Mch ops ro T mo N c0 S (.beg k i) r H)/\(c0+1<=mo->mo<C->∃q,Mch ops ro T mo N c0 S (.beg k i) none q):=fun c0 ag=>by
     obtain⟨U,c1,⟨v1,m1,k1,z1⟩,x1,a1,b1,P,r1,u1⟩:=ih z k N c0 S f F ag A;have af:U k i=none:=by
      cases K:U k i with
      |none=>rfl
      |some e1=>
       rcases x1 k i e1 K with D|⟨m,hm,ab⟩
       ·rw[F]at D;cases D
       ·have:=(Ij ab (Mo.nd f y)).2
        omega
     have ac:∀u Q W,U u Q=some W->Zk U k i e u Q=some W:=fun u Q W D=>by
      unfold Zk;rw[if_neg fun K=>by rw[K.1,K.2,af]at D;cases D];exact D
     have ah:Zk U k i e k i=some e:=by unfold Zk;rw[if_pos ⟨rfl,rfl⟩]
     have ai:∀I:Nt,Mn ops ro T I (.nd k) i e->(qS N I)->∀u Q W,Zk U k i e u Q=some W->I u Q=some W:=fun I hf hn u Q W D=>by
      cases hf with
      |nd g1 g2 g3=>
       rw[f]at g1;cases g1;unfold Zk at D;by_cases K:u=k/\Q=i
       ·rw[if_pos K]at D
        obtain⟨rfl,rfl⟩:=K;cases D;exact g2
       ·rw[if_neg K]at D
        exact z1 I g3 hn u Q W D
     refine⟨Zk U k i e,c1,⟨?_,fun u Q W D=>ac _ _ _ (m1 _ _ _ D),fun G=> ?_,ai⟩,?_,a1,by omega,?_,r1,u1⟩
     rotate_left
     ·obtain⟨q1,q2⟩:=k1 G
      have q3:Mn ops ro T (Zk U k i e) (.nd k) i e:=.nd f ah (q2.mono ac);refine⟨fun u Q W D=> ?_,q3⟩;unfold Zk at D;by_cases K:u=k/\Q=i
      ·rw[if_pos K]at D
       obtain⟨rfl,rfl⟩:=K;cases D;exact q3
      ·rw[if_neg K]at D
       exact(q1 u Q W D).mono ac
     rotate_left
     rotate_left
     ·intro u Q W D
      unfold Zk at D;by_cases K:u=k/\Q=i
      ·rw[if_pos K]at D
       obtain⟨rfl,rfl⟩:=K;cases D;exact⟨_,Mo.nd f y⟩
      ·rw[if_neg K]at D
       exact v1 u Q W D
     ·intro u Q W D
      unfold Zk at D;by_cases K:u=k/\Q=i
      ·rw[if_pos K]at D
       obtain⟨rfl,rfl⟩:=K;cases D;exact .inr ⟨_,Nat.le_refl _,Mo.nd f y⟩
      ·rw[if_neg K]at D
       rcases x1 u Q W D with ad|⟨m,hm,ab⟩
       ·exact .inl ad
       ·exact .inr ⟨m,by omega,ab⟩
     ·rw[y3I e af hk (R f).2 (by omega)]
      omega
    by_cases G:c=mo
    ·obtain⟨U,c1,v1,x1,a1,b1,P,_,_⟩:=ae (mo+1) (by omega)
     exact⟨U,c1-1,v1,x1,by omega,by omega,by omega,fun D=>by omega,fun _ _=>⟨_,by rw[G];exact .bud F⟩⟩
    ·obtain⟨U,c1,v1,x1,a1,b1,P,r1,u1⟩:=ae c G
     exact⟨U,c1,v1,x1,by omega,b1,P,r1,fun D ad=>u1 (by omega) ad⟩
 | @emp M E s i=>
   intro z k N c S f F G A;have X:=O.few _ (R f).1 (.inl rfl);exact Gox.none _ A (fun _=>.emp) (fun r q t=>⟨_,.leaf F G f X t⟩)
 | @lit M E s i=>
   intro z k N c S f F G A;have X:=O.few _ (R f).1 (.inr (.inl rfl));exact Gox.none _ A (fun _=>.lit) (fun r q t=>⟨_,.leaf F G f X t⟩)
 | @set M a b c d s i=>
   intro z k N C S f F G A;have X:=O.few _ (R f).1 (.inr (.inr (.inl rfl)));exact Gox.none _ A (fun _=>.set) (fun r q t=>⟨_,.leaf F G f X t⟩)
 | @any M E s i=>
   intro z k N c S f F G A;have X:=O.few _ (R f).1 (.inr (.inr (.inr rfl)));exact Gox.none _ A (fun _=>.any) (fun r q t=>⟨_,.leaf F G f X t⟩)
 | @ref M E r s q i e n y h3 ih=>
   intro z k N c S f F G A;have hp:prt ro (5,M,E,r::s) 0=q:=by unfold prt;simp[y]
   refine((ih z (O.rt q (List.mem_of_getElem? y)) N (c+1) ((k,i,0,i)::S) A).last (fun v h=>.ref y h) (fun I h=>by cases h with|ref g1 g2=>rw[y]at g1;cases g1;exact g2) fun v C L H t=>⟨_,.pop f rfl t⟩).from fun L H t=>⟨_,.push F G f (by simp) (by rw[hp];exact t)⟩
 | @seq M E s i e n y ih=>
   intro z k N c S f F G A;have X:s≠[]:=O.two _ (R f).1 (.inl rfl);exact((ih z k i 0 M E s N (c+1) S f rfl X A).last (fun v h=>.seq h) (fun I h=>by cases h with|seq g=>exact g) fun _ _ r q t=>⟨q,t⟩).from fun L H t=>⟨_,.push F G f X t⟩
 | @cho M E s i e n y ih=>
   intro z k N c S f F G A;have X:s≠[]:=O.two _ (R f).1 (.inr rfl);exact((ih z k 0 M E s N (c+1) S f rfl X A).last (fun v h=>.cho h) (fun I h=>by cases h with|cho g=>exact g) fun _ _ r q t=>⟨q,t⟩).from fun L H t=>⟨_,.push F G f X t⟩
 | @opt M E u s i e n y ih=>
   intro z k N c S f F G A;refine((ih z (O.sub _ (R f).1 u (by simp)) N (c+1) ((k,i,0,i)::S) A).last (fun v h=>.opt h) (fun I h=>y7p h (.inl rfl) y) fun v C L H t=>⟨_,.pop f rfl t⟩).from fun L H t=>⟨_,.push F G f (by simp) t⟩
 | @star M E u s i e n y ih=>
   intro z k N c S f F G A;exact((ih z k i 9 M E s N (c+1) S f (.inl rfl) A).last (fun v h=>.star h) (fun I h=>by cases h with|star g=>exact g) fun _ _ r q t=>⟨q,t⟩).from fun L H t=>⟨_,.push F G f (by simp) t⟩
 | @plus_no M E u s i n y ih=>
   intro z k N c S f F G A;refine((ih z (O.sub _ (R f).1 u (by simp)) N (c+1) ((k,i,0,i)::S) A).last (fun v h=>.plus_no h) (fun I h=>by cases h with|plus_no g=>exact g|plus_ok g _ _=>cases g.is y) fun v C L H t=>⟨H+1,.pop f rfl ?_⟩).from fun L H t=>⟨_,.push F G f (by simp) t⟩
   have:otc (10,M,E,u::s) (k,i,0,i) none=none:=by unfold otc;simp
   rw[this];exact t
 | @plus_ok M E u s i x e n m y h3 ih1 ih2=>
   intro z k N c S f F G A;have K:=O.go k M E u s f i x n z y;have hl:=Tb y z x rfl;refine Gox.then (((ih1 z (O.sub _ (R f).1 u (by simp)) N (c+1) ((k,i,0,i)::S) A).last (fun v h=>h) (fun _ h=>h) (Z':=fun v C=>Mch ops ro T mo v C ((k,i,0,x)::S) (.beg u x)) fun v C L H t=>⟨H+1,.next (w':=(k,i,0,x)) f rfl t⟩).from fun L H t=>⟨_,.push F G f (by simp) t⟩) (fun U N2 h P Y=>.plus_ok (P.mono h) K Y) (fun I h=>by cases h with|plus_no g=>cases g.is y|plus_ok g g' g''=>cases g.is y;exact⟨g,g''⟩) fun v C v'=> ?_
   exact ih2 hl.2 k i 10 M E s v C S f (.inr ⟨rfl,K⟩) v'
 | @and M E u s i e n y ih=>
   intro z k N c S f F G A;refine((ih z (O.sub _ (R f).1 u (by simp)) N (c+1) ((k,i,0,i)::S) A).last (fun v h=>.and h) (fun I h=>y7p h (.inr (.inl rfl)) y) fun v C L H t=>⟨_,.pop f rfl t⟩).from fun L H t=>⟨_,.push F G f (by simp) t⟩
 | @not M E u s i e n y ih=>
   intro z k N c S f F G A;refine((ih z (O.sub _ (R f).1 u (by simp)) N (c+1) ((k,i,0,i)::S) A).last (fun v h=>.not h) (fun I h=>y7p h (.inr (.inr rfl)) y) fun v C L H t=>⟨_,.pop f rfl t⟩).from fun L H t=>⟨_,.push F G f (by simp) t⟩
 |row_nil=>intro z k V p M E l N c S f y h3;exact absurd rfl h3
 | @row_no u r i n y ih=>
   intro z k V p M E l N c S f hd _ A;obtain⟨P,Y,d3,d4⟩:=Ik hd;have Z:0<=u:=O.sub _ (R f).1 u (List.mem_of_mem_drop (i:=p) (by rw[hd];simp));rw[P];exact(ih z Z N c ((k,V,p,i)::S) A).last (fun v h=>.row_no h) (fun I h=>by cases h with|row_no g=>exact g|row_ok g _=>cases g.is y) fun v C L H t=>⟨_,.pop f rfl t⟩
 | @row_ok u r i x e n m y h3 ih1 ih2=>
   intro z k V p M E l N c S f hd _ A;obtain⟨P,Y,d3,d4⟩:=Ik hd;have Z:0<=u:=O.sub _ (R f).1 u (List.mem_of_mem_drop (i:=p) (by rw[hd];simp));have hl:=Tb y z x rfl;rw[P];by_cases hr:r=[]
   ·subst hr
    cases h3;refine((ih1 z Z N c ((k,V,p,i)::S) A).last (fun v h=>.row_ok h .row_nil) (fun I h=>by cases h with|row_ok g _=>cases g.is y;exact g) fun v C L H t=>⟨_,.pop f ?_ t⟩);unfold nxt;simp[d4]
   ·refine Gox.then ((ih1 z Z N c ((k,V,p,i)::S) A).last (fun v h=>h) (fun _ h=>h) (Z':=fun v C=>Mch ops ro T mo v C ((k,V,p+1,x)::S) (.beg (l.getD (p+1) 0) x)) fun v C L H t=>⟨_,.next (w':=(k,V,p+1,x)) f ?_ t⟩) (fun U N2 h P Y=>.row_ok (P.mono h) Y) (fun I h=>by cases h with|row_no g=>cases g.is y|row_ok g g'=>cases g.is y;exact⟨g,g'⟩) fun v C v'=> ?_
    ·unfold nxt
     have:¬p+1=l.length:=fun h=>hr (d4.1 h)
     simp[this]
    ·exact ih2 hl.2 k V (p+1) M E l v C S f Y hr v'
 |alt_nil=>intro z k p M E l N c S f y h3;exact absurd rfl h3
 | @alt_ok u r i x n y ih=>
   intro z k p M E l N c S f hd _ A;obtain⟨P,Y,d3,d4⟩:=Ik hd;have Z:0<=u:=O.sub _ (R f).1 u (List.mem_of_mem_drop (i:=p) (by rw[hd];simp));rw[P];exact(ih z Z N c ((k,i,p,i)::S) A).last (fun v h=>.alt_ok h) (fun I h=>by cases h with|alt_ok g=>exact g|alt_no g _=>cases g.is y) fun v C L H t=>⟨_,.pop f rfl t⟩
 | @alt_no u r i e n m y h3 ih1 ih2=>
   intro z k p M E l N c S f hd _ A;obtain⟨P,Y,d3,d4⟩:=Ik hd;have Z:0<=u:=O.sub _ (R f).1 u (List.mem_of_mem_drop (i:=p) (by rw[hd];simp));rw[P];by_cases hr:r=[]
   ·subst hr
    cases h3;refine((ih1 z Z N c ((k,i,p,i)::S) A).last (fun v h=>.alt_no h .alt_nil) (fun I h=>by cases h with|alt_no g _=>exact g) fun v C L H t=>⟨_,.pop f ?_ t⟩);unfold nxt;simp[d4]
   ·refine Gox.then ((ih1 z Z N c ((k,i,p,i)::S) A).last (fun v h=>h) (fun _ h=>h) (Z':=fun v C=>Mch ops ro T mo v C ((k,i,p+1,i)::S) (.beg (l.getD (p+1) 0) i)) fun v C L H t=>⟨_,.next (w':=(k,i,p+1,i)) f ?_ t⟩) (fun U N2 h P Y=>.alt_no (P.mono h) Y) (fun I h=>by cases h with|alt_ok g=>cases g.is y|alt_no g g'=>exact⟨g,g'⟩) fun v C v'=> ?_
    ·unfold nxt
     have:¬p+1=l.length:=fun h=>hr (d4.1 h)
     simp[this]
    ·exact ih2 z k (p+1) M E l v C S f Y hr v'
 | @rep_end u i n y ih=>
   intro z k V kd M E l N c S f aa A;have Z:0<=u:=O.sub _ (R f).1 u (by simp);refine(ih z Z N c ((k,V,0,i)::S) A).last (fun v h=>.rep_end h) (fun I h=>by cases h with|rep_end g=>exact g|rep_go g _=>cases g.is y) fun v C L H t=>⟨H+1,.pop f ?_ ?_⟩
   ·unfold nxt
    rcases aa with rfl|⟨rfl,_⟩<;>simp
   ·have:otc (kd,M,E,u::l) (k,V,0,i) none=some i:=by
     unfold otc;rcases aa with rfl|⟨rfl,h⟩
     ·simp
     ·simp[h]
    rw[this];exact t
 | @rep_go u i x e n m y h3 ih1 ih2=>
   intro z k V kd M E l N c S f aa A;have Z:0<=u:=O.sub _ (R f).1 u (by simp);have hl:=Tb y z x rfl;refine Gox.then ((ih1 z Z N c ((k,V,0,i)::S) A).last (fun v h=>h) (fun _ h=>h) (Z':=fun v C=>Mch ops ro T mo v C ((k,V,0,x)::S) (.beg u x)) fun v C L H t=>⟨H+1,.next (w':=(k,V,0,x)) f ?_ ?_⟩) (fun U N2 h P Y=>.rep_go (P.mono h) Y) (fun I h=>by cases h with|rep_end g=>cases g.is y|rep_go g g'=>cases g.is y;exact⟨g,g'⟩) fun v C v'=> ?_
   ·unfold nxt
    rcases aa with rfl|⟨rfl,_⟩<;>simp
   ·have:prt ro (kd,M,E,u::l) 0=u:=by
     unfold prt;rcases aa with rfl|⟨rfl,_⟩<;>simp
    show Mch ops ro T mo v C _ (.beg (prt ro (kd,M,E,u::l) 0) x) L H;rw[this];exact t
   ·exact ih2 hl.2 k V kd M E l v C S f (aa.imp id fun h=>⟨h.1,by omega⟩) v'
end
theorem y7i{rs:List Rr}(h:Snd rs)(T:zA)(j i:Nat)(u:j<rs.length)(y:i<=T.size):∃e n o c r,Mt (bdQ rs) T (.one rs[j].2.1) i e n/\(pgG rs).1[j]? =some r/\0<=r/\c<=n/\c<=(pgG rs).2.length*(T.size+1)/\1<=c/\Clo (pgG rs).2 (pgG rs).1 T o/\Val (pgG rs).2 (pgG rs).1 T o/\(c=crd (pgG rs).2.length (T.size+1) o/\o r i=some e/\∀p:Nt,Mn (pgG rs).2 (pgG rs).1 T p (.nd r) i e->qS o p)/\∀mo,(c<=mo->∃q,Mch (pgG rs).2 (pgG rs).1 T mo N0 0 [] (.beg r i) (some (e,c,o)) q)/\(mo<c->∃q,Mch (pgG rs).2 (pgG rs).1 T mo N0 0 [] (.beg r i) none q):=by
 obtain⟨e,n,A⟩:=h.tot T (h.pt (List.getElem_mem u)) y;obtain⟨r,C,E⟩:=h.src.2 j u;have D:0<=r:=((Vv (fun T=>fdI T (nmL rs)) rs []).2.1.2 r (List.mem_of_getElem? C)).1;have F:Mo (pgG rs).2 (pgG rs).1 T (.nd r) i e n:=Wy h.roots A r E;obtain⟨o,c,⟨v,m,k,z⟩,x,a,b,d,f,g⟩:=y7s (mo:=(pgG rs).2.length*(T.size+1)) (h.wfo T) F y D N0 0 [] (fun k i e h=>by cases h);rw[y4D]at d;have H:=y3J (pgG rs).2.length (T.size+1) o;obtain⟨q,s⟩:=f (by omega) _ _ .done;exact⟨e,n,o,c,r,A,C,D,by omega,by omega,by have:=y4E s rfl;omega,(k (y6k _ _ _)).1,v,⟨by omega,(by cases(k (y6k _ _ _)).2 with|nd _ h _=>exact h),fun p G=>z p G (fun k i e h=>by cases h)⟩,fun mo=>⟨fun t=>⟨q,y4F s rfl t⟩,fun t=>y4G s rfl (Nat.zero_le _) t⟩⟩
theorem y7t{L M:Nat}{N a:Nt}(h:qS N a):crd L M N<=crd L M a:=by
 unfold crd;refine List.countP_mono_left fun p _ b=> ?_
 cases hx:N p.1 p.2 with
 |none=>rw[hx]at b;cases b
 |some e=>rw[h _ _ _ hx];rfl
end
section
open Go.RowKit Go.Shelf
section
variable (ro:List Int) (T:ByteArray) (N:Nt)
def Chn:Nat->List (Int×Nat)->Nat->Prop
 |lo,[],hi=>lo<=hi
 |lo,y::r,hi=>∃(q:Int) (z:Nat),ro[y.1.toNat]? =some q/\0<=y.1/\N q y.2=some (some z)/\y.2<=T.size/\lo<=y.2/\y.2<=z/\Chn z r hi
end
section
variable {ops:List Ox} {ro:List Int} {T:ByteArray} {N:Nt}
theorem Chn.le:∀{l:List (Int×Nat)} {a b:Nat},Chn ro T N a l b->a<=b
 |[],a,b,h=>h
 |y::r,a,b,⟨q,z,_,_,_,_,h1,h2,h3⟩=>by have:=h3.le;omega
theorem Chn.app:∀{a b:List (Int×Nat)} {c m d:Nat},Chn ro T N c a m->Chn ro T N m b d->Chn ro T N c (a++b) d
 |[],b,c,m,d,o,e=>by
  have o:c<=m:=o;cases b with
  |nil=>have e:m<=d:=e;show c<=d;omega
  |cons y r=>
   obtain⟨q,z,f,h,i,j,p,k,n⟩:=e;exact⟨q,z,f,h,i,j,by omega,k,n⟩
 |y::r,b,c,m,d,⟨q,z,f,h,i,j,p,k,n⟩,e=>⟨q,z,f,h,i,j,p,k,n.app e⟩
theorem Chn.take:∀{l:List (Int×Nat)} {a b:Nat} (n:Nat),Chn ro T N a l b->Chn ro T N a (l.take n) b
 |[],a,b,n,h=>by rw[List.take_nil];exact h
 |y::r,a,b,0,h=>h.le
 |y::r,a,b,n+1,⟨q,z,a1,a2,a3,a4,a5,a6,a7⟩=>⟨q,z,a1,a2,a3,a4,a5,a6,a7.take n⟩
def Vcj(ops:List Ox)(ro:List Int)(T:zA)(N:Nt):Jo->Nat->Nat->Prop
 | .alt s,i,x=>i<=x/\∀pre k r x',s=pre++k::r->(∀p∈pre,N p i=some none)->N k i=some (some x')->x'=x/\Mn ops ro T N (.nd k) i (some x)
 |j,i,x=>Mn ops ro T N j i (some x)
theorem y7j:∀{s:List Int} {i x:Nat},i<=T.size->Mn ops ro T N (.alt s) i (some x)->Vcj ops ro T N (.alt s) i x
 |[],i,x,hi,h=>by cases h
 |k::r,i,x,hi,h=>by
  have d:i<=x:=by
   obtain⟨n,h⟩:=y7f h;exact(Tb h hi x rfl).1
  cases h with
  |alt_ok g=>
   refine⟨d,fun a f j m e c b=> ?_⟩;cases a with
   |nil=>
    cases e;rw[g.note]at b;cases b;exact⟨rfl,g⟩
   |cons p a=>
    cases e;have:=c k (by simp);rw[g.note]at this;cases this
  |alt_no g g'=>
   have o:=y7j hi g';refine⟨d,fun a f j m e c b=> ?_⟩;cases a with
   |nil=>
    cases e;rw[g.note]at b;cases b
   |cons p a=>
    cases e;exact o.2 a f j m rfl (fun p q=>c p (by simp[q])) b
theorem y7k(H:∀o∈ops,∀x∈o.2.2.2,0<=x)(I:∀(k:Int) (M:zA) (f:q4) (z:Int) (l:List Int),ops[k.toNat]? =some (8,M,f,z::l)->l=[]){j:Jo}{i:Nat}{l:List (Int×Nat)}(h:Vz ops N j i l):∀x,i<=T.size->(∀q M f s,j=.wk q M f s->∃k:Int,ops[k.toNat]? =some (q,M,f,s))->Vcj ops ro T N j i x->Chn ro T N i l x:=by
 have t:∀{j:Jo} {i x:Nat},i<=T.size->Mn ops ro T N j i (some x)->i<=x/\x<=T.size:=fun d h=>by
  obtain⟨n,h⟩:=y7f h;exact Tb h d _ rfl
 induction h with
 | @nd k q M f s i l h1 h2 ih=>
   intro x d _ c;have c:Mn ops ro T N (.nd k) i (some x):=c;cases c with
   |nd g1 g2 g3=>
    rw[h1]at g1;cases g1;exact ih x d (fun R S U K e=>by cases e;exact⟨k,h1⟩) g3
 | @none q M f s i h5 h6 h7 h8 h9 h10=>
   intro x d _ c;exact(t d c).1
 | @ref M f r s i=>
   intro x d C c;have c:Mn ops ro T N (.wk 5 M f (r::s)) i (some x):=c;obtain⟨k,u⟩:=C _ _ _ _ rfl;have L:0<=r:=H _ (List.mem_of_getElem? u) r (by simp);cases c with
   |ref g1 g2=>exact⟨_,x,g1,L,g2.note,d,Nat.le_refl _,(t d g2).1,Nat.le_refl _⟩
 | @seq M f s i l h ih=>
   intro x d _ c;have c:Mn ops ro T N (.wk 6 M f s) i (some x):=c;cases c with
   |seq g=>exact ih x d (fun _ _ _ _ e=>by cases e) g
 | @cho q M f s i l u h ih=>
   intro x d C c;refine ih x d (fun _ _ _ _ e=>by cases e) ?_;obtain⟨k,O⟩:=C _ _ _ _ rfl;have c:Mn ops ro T N (.wk q M f s) i (some x):=c;have P:=t d c;rcases u with rfl|rfl
   ·cases c with
    |cho g=>exact y7j d g
   ·generalize v:(some x:Option Nat)=r at c
    cases c with
    | @opt _ _ z K _ e g=>
      cases I _ _ _ _ _ O;have v:=Option.some.inj v;refine⟨P.1,fun y V F D G A m=> ?_⟩;cases y with
      |nil=>
       cases G;rw[g.note]at m;cases m;have v:x=D:=v;subst v;exact⟨rfl,g⟩
      |cons p y=>cases y<;>cases G
 | @rep q M f k s i l u h ih=>
   intro x d _ c;refine ih x d (fun _ _ _ _ e=>by cases e) ?_;have c:Mn ops ro T N (.wk q M f (k::s)) i (some x):=c;rcases u with rfl|rfl
   ·cases c with
    |star g=>exact g
   ·cases c with
    |plus_ok g g' g''=>exact Mn.rep_go g g''
 |row_nil=>
  intro x d _ c;exact(t d c).1
 | @row_on k r i x0 a b m h1 h2 ih1 ih2=>
   intro x d _ c;have c:Mn ops ro T N (.row (k::r)) i (some x):=c;cases c with
   |row_ok g g'=>
    have e:=g.note;rw[m]at e;cases e;exact(ih1 _ d (fun _ _ _ _ e=>by cases e) g).app (ih2 _ (t d g).2 (fun _ _ _ _ e=>by cases e) g')
 |alt_nil=>intro x d _ c;exact c.1
 | @alt_ok k r i x0 l m h ih=>
   intro x d _ c;obtain⟨rfl,g⟩:=c.2 [] k r x0 rfl (fun p A=>by cases A) m;exact ih _ d (fun _ _ _ _ e=>by cases e) g
 | @alt_no k r i l m h ih=>
   intro x d _ c;refine ih x d (fun _ _ _ _ e=>by cases e) ⟨c.1,fun y z F D e A Q=>c.2 (k::y) z F D (by rw[e];rfl) (fun p E=> ?_) Q⟩;rcases List.mem_cons.1 E with rfl|E
   ·exact m
   ·exact A p E
 | @rep_end k i m=>
   intro x d _ c;exact(t d c).1
 | @rep_on k i x0 a b m hlt h1 h2 ih1 ih2=>
   intro x d _ c;have c:Mn ops ro T N (.rep k) i (some x):=c;cases c with
   |rep_end g=>
    have e:=g.note;rw[m]at e;cases e
   |rep_go g g'=>
    have e:=g.note;rw[m]at e;cases e;exact(ih1 _ d (fun _ _ _ _ e=>by cases e) g).app (ih2 _ (t d g).2 (fun _ _ _ _ e=>by cases e) g')
def rtF:List (Int×Int)->List Sp4->Bool
 |_,[]=>true
 |rm,s::ss=>decide (0<=s.1/\s.2.1<=s.2.2.1/\1<=s.2.2.2/\s.2.2.2<=(rm.length:Int))&&(match(rm.take s.2.2.2.toNat).getLast? with
  |some (lf,lt)=>decide (lf<=s.2.1/\s.2.2.1<=lt)&&rtF ((rm.take s.2.2.2.toNat).dropLast++[(s.2.2.1,lt)]++[(s.2.1,s.2.2.1)]) ss
  |none=>false)
def Sok(ro:List Int)(T:zA)(N:Nt)(s:Sp4):Prop:=∃(rr f z:Nat) (q:Int),s.1=(rr:Int)/\s.2.1=(f:Int)/\s.2.2.1=(z:Int)/\ro[rr]? =some q/\f<=T.size/\N q f=some (some z)
def Rms(ro:List Int)(T:zA)(N:Nt)(rm:List (Int×Int))(op:List (List (Int×Nat))):Prop:=∀d (hd:d<op.length),∃lo hi:Nat,rm[d]? =some ((lo:Int),(hi:Int))/\Chn ro T N lo op[d] hi
theorem y7u(O:∀o∈ops,∀x∈o.2.2.2,0<=x)(P:∀(k:Int) (M:zA) (Q:q4) (R:Int) (l:List Int),ops[k.toNat]? =some (8,M,Q,R::l)->l=[])(S:Clo ops ro T N){n:List Sp4}{a:List (List (Int×Nat))}{b:Nat}{r:Option (List Sp4)}(h:TlR ops ro T N n a b r):∀(rm:List (Int×Int)) c,r=some c->Rms ro T N rm a->∃i,c=n++i/\rtF rm i=true/\∀s∈i,Sok ro T N s:=by
 induction h with
 |over h=>intro rm c e;cases e
 | @fin n b h=>intro rm c e _;cases e;exact⟨[],by simp,rfl,fun s p=>by cases p⟩
 | @pop n a b r h j ih=>
   intro rm c e t;refine ih rm c e fun d A=> ?_
   obtain⟨u,m,E,j⟩:=t d (by simp;omega);rw[List.getElem_append_left A]at j;exact⟨u,m,E,j⟩
 | @on n a b r rr kr f i l hr E j h3 h4 h5 h6 ih=>
   intro rm c e t;obtain⟨u,m,F,C⟩:=t a.length (by simp);rw[List.getElem_append_right L0q]at C;simp only[Nat.sub_self,List.getElem_cons_zero]at C;obtain⟨q,z,v,a2,D,U,a5,a6,G⟩:=C;have v:ro[((rr:Nat):Int).toNat]? =some q:=v;rw[Int.toNat_natCast,List.getElem?_eq_getElem hr,j]at v;cases v;have V:Mn ops ro T N (.nd (kr:Int)) f (some z):=S _ _ _ D;have W:=(y7k O P h5 z h4 (fun _ _ _ _ e=>by cases e) V).take (4097-b);have X:ndE (N kr f)=(z:Int):=by rw[D];rfl
   rw[X]at ih;have Y:a.length<rm.length:=(List.getElem?_eq_some_iff.1 F).1;have Z:rm[a.length]=((u:Int),(m:Int)):=(List.getElem?_eq_some_iff.1 F).2;have aa:rm.take (a.length+1)=rm.take a.length++[((u:Int),(m:Int))]:=by rw[List.take_succ_eq_append_getElem Y,Z]
   obtain⟨H,I,e2,e3⟩:=ih (rm.take a.length++[((z:Int),(m:Int))]++[((f:Int),(z:Int))]) c e (fun d A=>by
    have K:(rm.take a.length).length=a.length:=by rw[List.length_take];omega
    simp only[List.length_append,List.length_cons,List.length_nil]at A;rcases Nat.lt_or_ge d a.length with y|y
    ·obtain⟨ab,ac,b1,L⟩:=t d (by simp;omega)
     refine⟨ab,ac,?_,?_⟩
     ·rw[List.append_assoc,List.getElem?_append_left (by omega),List.getElem?_take_of_lt y];exact b1
     ·rw[List.getElem_append_left y]at L
      have e:(a++[i]++[l.take (4097-b)])[d]'(by simp;omega)=a[d]:=by
       rw[List.getElem_append_left (by simp;omega),List.getElem_append_left y]
      rw[e];exact L
    ·rcases(by omega:d=a.length∨d=a.length+1)with rfl|rfl
     ·refine⟨z,m,?_,?_⟩
      ·rw[List.append_assoc,List.getElem?_append_right (by omega),K];simp
      ·have e:(a++[i]++[l.take (4097-b)])[a.length]'(by simp)=i:=by
        rw[List.getElem_append_left (by simp),List.getElem_append_right L0q];simp
       rw[e];exact G
     ·refine⟨f,z,?_,?_⟩
      ·rw[List.getElem?_append_right (by simp;omega)];simp[K]
      ·have e:(a++[i]++[l.take (4097-b)])[a.length+1]'(by simp)=l.take (4097-b):=by
        rw[List.getElem_append_right (by simp)];simp
       rw[e];exact W)
   rw[List.append_assoc]at I;have ad:=G.le;refine⟨((rr:Int),(f:Int),(z:Int),(a.length:Int)+1)::H,I,?_,fun s p=> ?_⟩
   ·rw[rtF,Bool.and_eq_true,decide_eq_true_eq]
    refine⟨⟨by simp,by simp;omega,by simp;omega,by simp;omega⟩,?_⟩;have e:(((a.length:Int)+1).toNat)=a.length+1:=by omega
    show(match(rm.take ((a.length:Int)+1).toNat).getLast? with
     |some (lf,lt)=>decide (lf<=(f:Int)/\(z:Int)<=lt)&&rtF ((rm.take ((a.length:Int)+1).toNat).dropLast++[((z:Int),lt)]++[((f:Int),(z:Int))]) H
     |none=>false)=true
    rw[e,aa];simp only[List.getLast?_append,List.getLast?_singleton,Option.some_or,List.dropLast_concat];rw[e2,Bool.and_true,decide_eq_true_eq];exact⟨by omega,by omega⟩
   ·rcases List.mem_cons.1 p with rfl|p
    ·exact⟨rr,f,z,kr,rfl,rfl,rfl,by rw[List.getElem?_eq_getElem hr,j],U,D⟩
    ·exact e3 s p
end
end
open Go.RowKit Go.Shelf Go.Maps
theorem y7v{W b:World}{d f i:Addr}{v0 v1 v2:Value}{c:Option Nat}(h:W.cell? d=some v0/\W.cell? f=some v1/\W.cell? i=some v2)(j:W.grownBy b c)(k:some d.block≠c)(m:some f.block≠c)(n:some i.block≠c):b.cell? d=some v0/\b.cell? f=some v1/\b.cell? i=some v2:=
 have e:∀{a:Addr} {u:Value},some a.block≠c->W.cell? a=some u->b.cell? a=some u:=fun{a u} o h=>(j.cell_far a (World.block_lt_of_cell? W _ h) o).trans h
 ⟨e k h.1,e m h.2.1,e n h.2.2⟩
theorem y7w{t n cap:Nat}{so:Option Addr}{W:World}(h:zC W t 0 (.slice so n cap)):
  Calls prog 31 #[zP t 0] W fun e w'=>e=.returned (zI (n:Int))/\w'=W:=by
 have l:=World.block_lt_of_cell? W _ h;go_enter func31,ntmps31
 go_wp2_with fail
 refine bodyPost_ret (v:=zI (n:Int)) (by simp[results,Tryz.results31,go_sem]) rfl ?_;exact⟨rfl,rfl⟩
theorem y7x{t n cap:Nat}{so:Option Addr}{W:World}(h:zC W t 0 (.slice so n cap))(a:W.frozen? ⟨t,0,none⟩=false)(k:Nat)(b:k<=cap):
  Calls prog 32 #[zP t 0,zI (k:Int)] W fun e w'=>e=.returned (.tuple #[])/\w'=W.setCell ⟨t,0,none⟩ (.slice so k cap):=by
 have l:=World.block_lt_of_cell? W _ h;have c:(k:Int)<=(cap:Int):=by omega
 go_enter func32,ntmps32
 go_wp2_with fail
 (try simp only[Exit.inBlock,Exit.then])
 exact bodyPost_end (v:=.tuple #[]) (by simp[results,Tryz.results32,go_sem]) rfl ⟨rfl,rfl⟩
theorem y7y{t n cap g:Nat}{W:World}(h:zC W t 0 (zS g (n+1) cap))(c:n<=1048576):
  Calls prog 33 #[zP t 0] W fun e w'=>e=.returned (zP g (2*n))/\zB W w':=by
 have l:=World.block_lt_of_cell? W _ h;have d:IntKind.i64.wrap (((n+1:Nat):Int)-1)=(n:Int):=by rw[IntKind.wrap_i64];omega
 have f:IntKind.i64.wrap ((n:Int)+1-1)=(n:Int):=by rw[IntKind.wrap_i64];omega
 have i:IntKind.i64.wrap (n:Int)=(n:Int):=by rw[IntKind.wrap_i64];omega
 have j:(n:Int)<((n+1:Nat):Int):=by omega
 have k:(n:Int)<(n:Int)+1:=by omega
 have b:Hid (zC W.drew t 0 (zS g (n+1) cap)):=h;go_enter func33,ntmps33
 go_wp2_with fail
 refine Qc 99 (fun X:World=>zC X t 0 (zS g (n+1) cap)) (by kernel_rfl) b.out (fun a=> ?_);refine Qz 0 a ?_;refine Qz 1 a ?_;refine Qz 2 a ?_;refine Qz 3 a ?_;refine Qz 4 a ?_;refine Qz 5 a ?_;refine Qz 6 a ?_;refine Qz 7 a ?_;refine Qz 8 a ?_;refine Qz 9 a ?_;refine Qz 10 a ?_;refine Qz 11 a ?_;refine⟨by kernel_rfl,?_⟩;clear a
 go_wp2_with fail
 refine bodyPost_ret (v:=zP g (2*n)) (by simp[results,Tryz.results33,go_sem]) rfl ?_;exact⟨rfl,(Below.refl _ W).drew⟩
theorem Tryz.infoRoom:(Tryz.prog.info? 93).map (fun i=>(i.zero,i.size,i.bytes))=some (some (.agg #[zI 0,zI 0]),2,16):=by kernel_rfl
theorem y7l{t n base:Nat}{ov:Value}{xs:List Value}{W:World}(h:zC W t 0 ov)(E:W.frozen? ⟨t,0,none⟩=false)(s:W.ownsRow base 93 2 ov n xs)(hn:n<=1048576)(V:base<=W.heap.size)(F:ov.ownBlock≠some t)(a b:Int):
  Calls prog 30 #[zP t 0,.agg #[zI a,zI b]] W fun e w'=>e=.returned (.tuple #[])/\∃f k v G,zB W f/\f.grownBy k ov.ownBlock/\k.ownsRow base 93 2 (zS v (n+1) G) (n+1) (xs++[zI a,zI b])/\(ov.ownBlock=some v∨f.heap.size<=v)/\w'=k.setCell ⟨t,0,none⟩ (zS v (n+1) G):=by
 obtain⟨Y,Z,aa,ab,ac⟩:=info_parts Tryz.infoRoom;obtain⟨m,o,rfl⟩:=Yd s;have l:t<W.heap.size:=World.block_lt_of_cell? W _ h;obtain⟨c,x⟩:∃c,c=(W.alloc (.cells #[zI a,zI b] 93)).drew:=⟨_,rfl⟩;have y:zB W c:=by rw[x];exact((Below.refl _ W).alloc L0q _).drew
 have H:c.heap[W.heap.size]? =some (.cells #[zI a,zI b] 93):=by rw[x];exact Qx W _ rfl
 obtain⟨f,r⟩:∃f,f=c.alloc (.cells #[zI a,zI b] 93):=⟨_,rfl⟩;have A:zB c f:=by rw[r];exact(Below.refl _ c).alloc L0q _
 have q:zB W f:=y.trans (A.mono y.size);have I:f.heap[c.heap.size]? =some (.cells #[zI a,zI b] 93):=by rw[r];exact Qx c _ rfl
 have ad:Hid (∀j u,([zI a,zI b]:List Value)[j]? =some u->f.cell? ((⟨c.heap.size,0,none⟩:Addr).add j)=some u):=World.news_of_block I;have ae:=hid (Xf s q);have af:Hid (base<=f.heap.size):=Nat.le_trans V q.size;have ag:n+1<=maxLen:=by unfold maxLen;omega
 have ah:(n+1)*16<=140737488355328:=by omega
 have ai:some t≠(Value.slice m n o).ownBlock:=fun e=>F e.symm
 have L:some W.heap.size≠(Value.slice m n o).ownBlock:=fun e=>by have:=(s.lt _ e.symm).2;omega
 have M:Hid (∀k:World,f.grownBy k (Value.slice m n o).ownBlock->zC k t 0 (.slice m n o)/\k.frozen? ⟨t,0,none⟩=false/\t<k.heap.size):=fun k O=>by
  have e:k.heap[t]? =W.heap[t]? :=(O.block t (by have:=q.size;omega) (fun e=>F e.symm)).trans (q.block t l);exact⟨(Vl e).trans h,(by unfold World.frozen? at E ⊢;rw[e];exact E),by have:=O.size;have:=q.size;omega⟩
 have P:Hid (zC c t 0 (.slice m n o)/\zC c W.heap.size 0 (zI a)/\zC c W.heap.size 1 (zI b)):=⟨(y.cell (p:=⟨t,0,none⟩) l).trans h,z6y H⟩;have aj:=hid q;have ak:=hid A;have C:=hid x;have al:=hid r;have Q:Hid (f.heap.size=c.heap.size+1):=by rw[r];show _=_;simp
 clear s r q I x y H A;go_enter func30,ntmps30
 go_wp2_with fail
 refine Qc 10 (fun X:World=>zC X t 0 (.slice m n o)/\zC X W.heap.size 0 (zI a)/\zC X W.heap.size 1 (zI b)) (by kernel_rfl) (by rw[<-C.out];exact P.out) (fun d=> ?_);rw[<-C.out]at d ⊢;clear P C;refine Qz 0 d ?_;refine Qz 1 d ?_;refine Qz 2 d ?_;refine Qz 3 d ?_;refine Qz 4 d ?_;refine Qz 5 d ?_
 (refine Qv 6 (fun K i=> ?_);go_simp;rw[<-al.out];replace d:=Dy d ak.out;refine i.out _ _ d ?_;clear i K)
 (try simp only[Act.put,zY])
 (refine Qv 7 (fun K i=> ?_);refine step_append_lies _ rfl (.tmp 8) (.tmp 10) 88 rfl base 93 Y (.agg #[zI 0,zI 0]) 2 16 Tryz.underlying88 Z aa ab ac rfl (by decide) (.slice m n o) n xs (by rfl) ae.out ⟨c.heap.size,0,none⟩ 1 1 [zI a,zI b] (by rfl) rfl ad.out (by simp[Value.oneCell']) (by decide) ag ah af.out (c.heap.size+1) Q.out ?_;intro g9 am R S z U ao;replace d:=y7v d z ai L L;obtain⟨d0,d1,d2⟩:=M.out R z;have D:=hid (And.intro S (And.intro z U));clear S z U M;refine i.out _ _ d ?_;clear i K)
 (try simp only[Act.put,zY])
 (refine Qv 8 (fun K i=> ?_);go_simp;refine i.out _ _ d ?_;clear i K)
 (try simp only[Act.put,zY])
 refine Qz 9 d ?_;refine Yj (fun K i=> ?_);clear d
 go_simp
 refine i.out _ _ ?_;clear i K;refine⟨by kernel_rfl,?_⟩;refine⟨.tuple #[],by simp[results,Tryz.results30,go_sem],rfl,f,R,g9,am,aj.out,D.out.2.1,D.out.1,?_,rfl⟩;rcases D.out.2.2 with e|e
 ·exact .inl e
 ·exact .inr (by have:=Q.out;omega)
end Go.Proofs.YtmelafeingcgnaaGreatDoor
