/- Lemmas. Conditions: as each names. -/
import Derived.Test.YtmelafeingcgnaaGreatDoorVXSToSBase
set_option linter.unusedVariables false
namespace Go.Proofs.YtmelafeingcgnaaGreatDoor
open Go.Proofs.Tryz
open Go.RowKit Go.Shelf Go.Maps
structure MaI (rs:List Rr) (T:zA) (rule at':Nat) (e1:Option Nat) (c:Nat) (x:Int) (N':Nt):Prop where
 hx:(pgG rs).1[rule]? =some x
 mt:∃n,(∃hr:rule<rs.length,Mt (bdQ rs) T (.one rs[rule].2.1) at' e1 n)/\c<=n
 c1:c<=(pgG rs).2.length*(T.size+1)
 c2:1<=c
 yes:∀mo,c<=mo->∃q,Mch (pgG rs).2 (pgG rs).1 T mo N0 0 [] (.beg x at') (some (e1,c,N')) q
 no:∀mo,mo<c->∃q,Mch (pgG rs).2 (pgG rs).1 T mo N0 0 [] (.beg x at') none q
theorem PgV.match{rs:List Rr}{i j k:Option Addr}{m n o p r s:Nat}{u:Addr}{w:World}(h:PgV rs i j k m n o p r s u w){T:zA}{a b:Nat}{y:Option Nat}{c:Nat}{x:Int}{E:Nt}(t:MaI rs T a b y c x E)(z:a<rs.length)(A:b<=T.size)(C:T.size<=4096)(mo:Nat)(D:mo<=1048576):
  Calls prog 20 #[.agg #[.slice i m n,.slice j o p,.slice k r s],zI a,zT T,zI b,zI mo] w fun e w'=>((c<=mo/\e=.returned (.tuple #[zI (enE y),zI (c:Int),.nilIface]))∨(mo<c/\e=.returned (.tuple #[zI 0,zI 0,.iface 34 (zI 50)])))/\zB w w':=by
 rcases Nat.lt_or_ge mo c with d|d
 ·obtain⟨q,v⟩:=t.no mo d
  exact(z6t rs i j k m n o p r s u w h.hol h.hnl h.hrl h.hs h.hp h.hM h.hz h.hu h.hT h.hF h.hPw T a b mo z A D C x t.hx none q v).mono fun e w' f=>⟨.inr ⟨d,f.1⟩,f.2⟩
 ·obtain⟨q,v⟩:=t.yes mo d
  exact(z6t rs i j k m n o p r s u w h.hol h.hnl h.hrl h.hs h.hp h.hM h.hz h.hu h.hT h.hF h.hPw T a b mo z A D C x t.hx _ q v).mono fun e w' f=>⟨.inl ⟨d,f.1⟩,f.2⟩
section
section
variable {ops:List Ox} {ro:List Int} {T:ByteArray}
theorem y7f{N:Nt}{j:Jo}{i:Nat}{e:Option Nat}(h:Mn ops ro T N j i e):∃n,Mo ops ro T j i e n:=by
 induction h with
 |nd h1 _ _ a=>obtain⟨n,a⟩:=a;exact⟨_,.nd h1 a⟩
 |emp=>exact⟨_,.emp⟩
 |lit=>exact⟨_,.lit⟩
 |set=>exact⟨_,.set⟩
 |any=>exact⟨_,.any⟩
 |ref h1 _ a=>obtain⟨n,a⟩:=a;exact⟨_,.ref h1 a⟩
 |seq _ a=>obtain⟨n,a⟩:=a;exact⟨_,.seq a⟩
 |cho _ a=>obtain⟨n,a⟩:=a;exact⟨_,.cho a⟩
 |opt _ a=>obtain⟨n,a⟩:=a;exact⟨_,.opt a⟩
 |star _ a=>obtain⟨n,a⟩:=a;exact⟨_,.star a⟩
 |plus_no _ a=>obtain⟨n,a⟩:=a;exact⟨_,.plus_no a⟩
 |plus_ok _ _ _ b c=>obtain⟨n,b⟩:=b;obtain⟨m,c⟩:=c;exact⟨_,.plus_ok b c⟩
 |and _ a=>obtain⟨n,a⟩:=a;exact⟨_,.and a⟩
 |not _ a=>obtain⟨n,a⟩:=a;exact⟨_,.not a⟩
 |row_nil=>exact⟨_,.row_nil⟩
 |row_no _ a=>obtain⟨n,a⟩:=a;exact⟨_,.row_no a⟩
 |row_ok _ _ b c=>obtain⟨n,b⟩:=b;obtain⟨m,c⟩:=c;exact⟨_,.row_ok b c⟩
 |alt_nil=>exact⟨_,.alt_nil⟩
 |alt_ok _ a=>obtain⟨n,a⟩:=a;exact⟨_,.alt_ok a⟩
 |alt_no _ _ b c=>obtain⟨n,b⟩:=b;obtain⟨m,c⟩:=c;exact⟨_,.alt_no b c⟩
 |rep_end _ a=>obtain⟨n,a⟩:=a;exact⟨_,.rep_end a⟩
 |rep_go _ _ b c=>obtain⟨n,b⟩:=b;obtain⟨m,c⟩:=c;exact⟨_,.rep_go b c⟩
theorem Mn.is{N:Nt}{j:Jo}{i n:Nat}{e a:Option Nat}(h:Mn ops ro T N j i a)(b:Mo ops ro T j i e n):a=e:=by
 obtain⟨m,h⟩:=y7f h;exact(Ij h b).1
def Gox(ops:List Ox)(ro:List Int)(T:zA)(mo:Nat)(N:Nt)(c n:Nat)(D:Nt->Prop)(A:Option (Option Nat×Nat×Nt)->Nat->Prop)(Z:Nt->Nat->Option (Option Nat×Nat×Nt)->Nat->Prop):Prop:=
 ∃N' c',(Val ops ro T N'/\(∀k i e,N k i=some e->N' k i=some e)/\(Clo ops ro T N->Clo ops ro T N'/\D N')/\(∀Nf:Nt,D Nf->(∀k i e,N k i=some e->Nf k i=some e)->∀k i e,N' k i=some e->Nf k i=some e))/\Xt ops ro T N N' n/\c<=c'/\c'<=c+n/\c'+crd ops.length (T.size+1) N=c+crd ops.length (T.size+1) N'/\(c'<=mo->∀r q,Z N' c' r q->∃q',A r q')/\(c<=mo->mo<c'->∃q,A none q)
theorem Gox.then{mo:Nat}{N:Nt}{c n m:Nat}{D o p:Nt->Prop}{A:Option (Option Nat×Nat×Nt)->Nat->Prop}{Z Z':Nt->Nat->Option (Option Nat×Nat×Nt)->Nat->Prop}(h:Gox ops ro T mo N c n D A Z)
  (E:∀f b,(∀k i e,f k i=some e->b k i=some e)->D f->o b->p b)(u:∀a,p a->D a/\o a)(s:∀t v,Val ops ro T t->Gox ops ro T mo t v m o (Z t v) Z'):Gox ops ro T mo N c (n+m) p A Z':=by
 obtain⟨f,x,⟨v1,F,G,H⟩,I,a1,b1,d1,y,K⟩:=h;obtain⟨b,L,⟨v2,z,M,O⟩,P,a2,b2,d2,Q,R⟩:=s f x v1;refine⟨b,L,⟨v2,fun k i e h=>z _ _ _ (F _ _ _ h),fun d=> ?_,fun a C S=>O a (u a C).2 (H a (u a C).1 S)⟩,I.trans P,by omega,by omega,by omega,fun d r q U=> ?_,fun d V=> ?_⟩
 ·obtain⟨W,s⟩:=G d
  obtain⟨X,Y⟩:=M W;exact⟨X,E _ _ z s Y⟩
 ·obtain⟨q1,aa⟩:=Q d r q U
  exact y (by omega) r q1 aa
 ·rcases Nat.lt_or_ge mo x with j|j
  ·exact K d j
  ·obtain⟨q,hq⟩:=R j V
   exact y j none q hq
theorem Gox.from{mo:Nat}{N:Nt}{c n:Nat}{D:Nt->Prop}{A e:Option (Option Nat×Nat×Nt)->Nat->Prop}{Z:Nt->Nat->Option (Option Nat×Nat×Nt)->Nat->Prop}(h:Gox ops ro T mo N c n D A Z)(f:∀r q,A r q->∃i,e r i):Gox ops ro T mo N c n D e Z:=by
 obtain⟨j,k,v1,m,o,p,s,t,u⟩:=h;refine⟨j,k,v1,m,o,p,s,fun a r q v=> ?_,fun a x=> ?_⟩
 ·obtain⟨b,d⟩:=t a r q v
  exact f r b d
 ·obtain⟨b,d⟩:=u a x
  exact f none b d
theorem Gox.last{mo:Nat}{N:Nt}{c n:Nat}{D e:Nt->Prop}{A:Option (Option Nat×Nat×Nt)->Nat->Prop}{Z Z':Nt->Nat->Option (Option Nat×Nat×Nt)->Nat->Prop}(h:Gox ops ro T mo N c n D A Z)(m:∀a,D a->e a)(o:∀b,e b->D b)(p:∀a f r q,Z' a f r q->∃s,Z a f r s):Gox ops ro T mo N c n e A Z':=by
 obtain⟨i,j,⟨v1,t,k,u⟩,v,x,y,z,C,E⟩:=h;refine⟨i,j,⟨v1,t,fun d=>⟨(k d).1,m _ (k d).2⟩,fun b F=>u b (o b F)⟩,v,x,y,z,fun d r q G=> ?_,E⟩;obtain⟨H,I⟩:=p i j r q G;exact C d r H I
theorem Gox.none{mo:Nat}{N:Nt}{c:Nat}(n:Nat){D:Nt->Prop}{A:Option (Option Nat×Nat×Nt)->Nat->Prop}{Z:Nt->Nat->Option (Option Nat×Nat×Nt)->Nat->Prop}(b:Val ops ro T N)(d:Clo ops ro T N->D N)(h:∀r q,Z N c r q->∃e,A r e):Gox ops ro T mo N c n D A Z:=
 ⟨N,c,⟨b,fun _ _ _ h=>h,fun a=>⟨a,d a⟩,fun _ _ h=>h⟩,Xt.refl,Nat.le_refl _,by omega,rfl,fun _ r q f=>h r q f,fun j i=>absurd i (by omega)⟩
theorem y7p{N:Nt}{M:zA}{a:Int×Int×Int×Int}{k:Int}{s:List Int}{i n:Nat}{r e:Option Nat}(h:Mn ops ro T N (.wk 8 M a (k::s)) i r)(b:Mo ops ro T (.nd k) i e n):Mn ops ro T N (.nd k) i e:=by
 cases h with
 |opt g=>cases g.is b;exact g
theorem y7q{N:Nt}{M:zA}{a:Int×Int×Int×Int}{k:Int}{s:List Int}{i n:Nat}{r e:Option Nat}(h:Mn ops ro T N (.wk 11 M a (k::s)) i r)(b:Mo ops ro T (.nd k) i e n):Mn ops ro T N (.nd k) i e:=by
 cases h with
 |and g=>cases g.is b;exact g
theorem y7r{N:Nt}{M:zA}{a:Int×Int×Int×Int}{k:Int}{s:List Int}{i n:Nat}{r e:Option Nat}(h:Mn ops ro T N (.wk 12 M a (k::s)) i r)(b:Mo ops ro T (.nd k) i e n):Mn ops ro T N (.nd k) i e:=by
 cases h with
 |not g=>cases g.is b;exact g
def Pjx(ops:List Ox)(ro:List Int)(T:zA)(mo:Nat):Jo->Nat->Option Nat->Nat->Prop
 | .nd k,i,e,n=>i<=T.size->0<=k->∀(N:Nt) (c:Nat) (S:List Wq),Val ops ro T N->Gox ops ro T mo N c n (fun N'=>Mn ops ro T N' (.nd k) i e) (Mch ops ro T mo N c S (.beg k i)) (fun N' c'=>Mch ops ro T mo N' c' S (.ret e))
 | .wk kd M cl s,i,e,n=>i<=T.size->∀(k:Int) (N:Nt) (c:Nat) (S:List Wq),ops[k.toNat]? =some (kd,M,cl,s)->N k i=none->c≠mo->Val ops ro T N->Gox ops ro T mo N (c+1) n (fun N'=>Mn ops ro T N' (.wk kd M cl s) i e) (Mch ops ro T mo N c S (.beg k i)) (fun N' c'=>Mch ops ro T mo (Zk N' k i e) c' S (.ret e))
 | .row s,i,e,n=>i<=T.size->∀(k:Int) (fr p:Nat) (M:zA) (cl:Int×Int×Int×Int) (l:List Int) (N:Nt) (c:Nat) (S:List Wq),ops[k.toNat]? =some (6,M,cl,l)->l.drop p=s->s≠[]->Val ops ro T N->Gox ops ro T mo N c n (fun N'=>Mn ops ro T N' (.row s) i e) (Mch ops ro T mo N c ((k,fr,p,i)::S) (.beg (l.getD p 0) i)) (fun N' c'=>Mch ops ro T mo (Zk N' k fr e) c' S (.ret e))
 | .alt s,i,e,n=>i<=T.size->∀(k:Int) (p:Nat) (M:zA) (cl:Int×Int×Int×Int) (l:List Int) (N:Nt) (c:Nat) (S:List Wq),ops[k.toNat]? =some (7,M,cl,l)->l.drop p=s->s≠[]->Val ops ro T N->Gox ops ro T mo N c n (fun N'=>Mn ops ro T N' (.alt s) i e) (Mch ops ro T mo N c ((k,i,p,i)::S) (.beg (l.getD p 0) i)) (fun N' c'=>Mch ops ro T mo (Zk N' k i e) c' S (.ret e))
 | .rep k',i,e,n=>i<=T.size->∀(k:Int) (fr:Nat) (kd:Int) (M:zA) (cl:Int×Int×Int×Int) (l:List Int) (N:Nt) (c:Nat) (S:List Wq),ops[k.toNat]? =some (kd,M,cl,k'::l)->kd=9∨kd=10/\fr<i->Val ops ro T N->Gox ops ro T mo N c n (fun N'=>Mn ops ro T N' (.rep k') i e) (Mch ops ro T mo N c ((k,fr,0,i)::S) (.beg k' i)) (fun N' c'=>Mch ops ro T mo (Zk N' k fr e) c' S (.ret e))
theorem y7s{mo:Nat}(O:Wfo ops ro T){j:Jo}{i:Nat}{e:Option Nat}{n:Nat}(h:Mo ops ro T j i e n):Pjx ops ro T mo j i e n:=by
 have R:∀{k:Int} {o:Ox},ops[k.toNat]? =some o->o∈ops/\k.toNat<ops.length:=fun h=>⟨List.mem_of_getElem? h,(List.getElem?_eq_some_iff.1 h).1⟩
 induction h with
 | @nd k kd M E s i e n f y ih=>
   intro z hk N c S A;cases F:N k i with
   |some e0=>
    obtain⟨m,hm⟩:=A k i e0 F;obtain⟨rfl,_⟩:=Ij hm (Mo.nd f y);exact Gox.none _ A (fun G=>G _ _ _ F) (fun r q t=>⟨_,.noted F t⟩)
   |none=>
    have ae:∀(c0:Nat),c0≠mo->∃v C,(Val ops ro T v/\(∀k i e,N k i=some e->v k i=some e)/\(Clo ops ro T N->Clo ops ro T v/\Mn ops ro T v (.nd k) i e)/\(∀I:Nt,Mn ops ro T I (.nd k) i e->(∀k i e,N k i=some e->I k i=some e)->∀k i e,v k i=some e->I k i=some e))/\Xt ops ro T N v (n+1)/\c0+1<=C/\C<=c0+(n+1)/\C+crd ops.length (T.size+1) N=c0+crd ops.length (T.size+1) v/\(C<=mo->∀r q,Mch ops ro T mo v C S (.ret e) r q->∃H,Mch ops ro T mo N c0 S (.beg k i) r H)/\(c0+1<=mo->mo<C->∃q,Mch ops ro T mo N c0 S (.beg k i) none q):=fun c0 ag=>by
     obtain⟨U,c1,⟨v1,m1,k1,z1⟩,x1,a1,b1,P,r1,u1⟩:=ih z k N c0 S f F ag A;have af:U k i=none:=by
      cases K:U k i with
      |none=>rfl
      |some e1=>
       rcases x1 k i e1 K with D|⟨m,hm,ab⟩
       ·rw[F]at D;cases D
       ·have:=(Ij ab (Mo.nd f y)).2
        omega
     have ac:∀u Q W,U u Q=some W->Zk U k i e u Q=some W:=fun u Q W D=>by
      unfold Zk;rw[if_neg fun K=>by rw[K.1,K.2,af]at D;cases D];exact D
     have ah:Zk U k i e k i=some e:=by unfold Zk;rw[if_pos ⟨rfl,rfl⟩]
     have ai:∀I:Nt,Mn ops ro T I (.nd k) i e->(∀k i e,N k i=some e->I k i=some e)->∀u Q W,Zk U k i e u Q=some W->I u Q=some W:=fun I hf hn u Q W D=>by
      cases hf with
      |nd g1 g2 g3=>
       rw[f]at g1;cases g1;unfold Zk at D;by_cases K:u=k/\Q=i
       ·rw[if_pos K]at D
        obtain⟨rfl,rfl⟩:=K;cases D;exact g2
       ·rw[if_neg K]at D
        exact z1 I g3 hn u Q W D
     refine⟨Zk U k i e,c1,⟨?_,fun u Q W D=>ac _ _ _ (m1 _ _ _ D),fun G=> ?_,ai⟩,?_,a1,by omega,?_,r1,u1⟩
     rotate_left
     ·obtain⟨q1,q2⟩:=k1 G
      have q3:Mn ops ro T (Zk U k i e) (.nd k) i e:=.nd f ah (q2.mono ac);refine⟨fun u Q W D=> ?_,q3⟩;unfold Zk at D;by_cases K:u=k/\Q=i
      ·rw[if_pos K]at D
       obtain⟨rfl,rfl⟩:=K;cases D;exact q3
      ·rw[if_neg K]at D
       exact(q1 u Q W D).mono ac
     rotate_left
     rotate_left
     ·intro u Q W D
      unfold Zk at D;by_cases K:u=k/\Q=i
      ·rw[if_pos K]at D
       obtain⟨rfl,rfl⟩:=K;cases D;exact⟨_,Mo.nd f y⟩
      ·rw[if_neg K]at D
       exact v1 u Q W D
     ·intro u Q W D
      unfold Zk at D;by_cases K:u=k/\Q=i
      ·rw[if_pos K]at D
       obtain⟨rfl,rfl⟩:=K;cases D;exact .inr ⟨_,Nat.le_refl _,Mo.nd f y⟩
      ·rw[if_neg K]at D
       rcases x1 u Q W D with ad|⟨m,hm,ab⟩
       ·exact .inl ad
       ·exact .inr ⟨m,by omega,ab⟩
     ·rw[y3I e af hk (R f).2 (by omega)]
      omega
    by_cases G:c=mo
    ·obtain⟨U,c1,v1,x1,a1,b1,P,_,_⟩:=ae (mo+1) (by omega)
     exact⟨U,c1-1,v1,x1,by omega,by omega,by omega,fun D=>by omega,fun _ _=>⟨_,by rw[G];exact .bud F⟩⟩
    ·obtain⟨U,c1,v1,x1,a1,b1,P,r1,u1⟩:=ae c G
     exact⟨U,c1,v1,x1,by omega,b1,P,r1,fun D ad=>u1 (by omega) ad⟩
 | @emp M E s i=>
   intro z k N c S f F G A;have X:=O.few _ (R f).1 (.inl rfl);exact Gox.none _ A (fun _=>.emp) (fun r q t=>⟨_,.leaf F G f X t⟩)
 | @lit M E s i=>
   intro z k N c S f F G A;have X:=O.few _ (R f).1 (.inr (.inl rfl));exact Gox.none _ A (fun _=>.lit) (fun r q t=>⟨_,.leaf F G f X t⟩)
 | @set M a b c d s i=>
   intro z k N C S f F G A;have X:=O.few _ (R f).1 (.inr (.inr (.inl rfl)));exact Gox.none _ A (fun _=>.set) (fun r q t=>⟨_,.leaf F G f X t⟩)
 | @any M E s i=>
   intro z k N c S f F G A;have X:=O.few _ (R f).1 (.inr (.inr (.inr rfl)));exact Gox.none _ A (fun _=>.any) (fun r q t=>⟨_,.leaf F G f X t⟩)
 | @ref M E r s q i e n y h3 ih=>
   intro z k N c S f F G A;have hp:prt ro (5,M,E,r::s) 0=q:=by unfold prt;simp[y]
   refine((ih z (O.rt q (List.mem_of_getElem? y)) N (c+1) ((k,i,0,i)::S) A).last (fun v h=>.ref y h) (fun I h=>by cases h with|ref g1 g2=>rw[y]at g1;cases g1;exact g2) fun v C L H t=>⟨_,.pop f rfl t⟩).from fun L H t=>⟨_,.push F G f (by simp) (by rw[hp];exact t)⟩
 | @seq M E s i e n y ih=>
   intro z k N c S f F G A;have X:s≠[]:=O.two _ (R f).1 (.inl rfl);exact((ih z k i 0 M E s N (c+1) S f rfl X A).last (fun v h=>.seq h) (fun I h=>by cases h with|seq g=>exact g) fun _ _ r q t=>⟨q,t⟩).from fun L H t=>⟨_,.push F G f X t⟩
 | @cho M E s i e n y ih=>
   intro z k N c S f F G A;have X:s≠[]:=O.two _ (R f).1 (.inr rfl);exact((ih z k 0 M E s N (c+1) S f rfl X A).last (fun v h=>.cho h) (fun I h=>by cases h with|cho g=>exact g) fun _ _ r q t=>⟨q,t⟩).from fun L H t=>⟨_,.push F G f X t⟩
 | @opt M E u s i e n y ih=>
   intro z k N c S f F G A;refine((ih z (O.sub _ (R f).1 u (by simp)) N (c+1) ((k,i,0,i)::S) A).last (fun v h=>.opt h) (fun I h=>y7p h y) fun v C L H t=>⟨_,.pop f rfl t⟩).from fun L H t=>⟨_,.push F G f (by simp) t⟩
 | @star M E u s i e n y ih=>
   intro z k N c S f F G A;exact((ih z k i 9 M E s N (c+1) S f (.inl rfl) A).last (fun v h=>.star h) (fun I h=>by cases h with|star g=>exact g) fun _ _ r q t=>⟨q,t⟩).from fun L H t=>⟨_,.push F G f (by simp) t⟩
 | @plus_no M E u s i n y ih=>
   intro z k N c S f F G A;refine((ih z (O.sub _ (R f).1 u (by simp)) N (c+1) ((k,i,0,i)::S) A).last (fun v h=>.plus_no h) (fun I h=>by cases h with|plus_no g=>exact g|plus_ok g _ _=>cases g.is y) fun v C L H t=>⟨H+1,.pop f rfl ?_⟩).from fun L H t=>⟨_,.push F G f (by simp) t⟩
   have:otc (10,M,E,u::s) (k,i,0,i) none=none:=by unfold otc;simp
   rw[this];exact t
 | @plus_ok M E u s i x e n m y h3 ih1 ih2=>
   intro z k N c S f F G A;have K:=O.go k M E u s f i x n z y;have hl:=Tb y z x rfl;refine Gox.then (((ih1 z (O.sub _ (R f).1 u (by simp)) N (c+1) ((k,i,0,i)::S) A).last (fun v h=>h) (fun _ h=>h) (Z':=fun v C=>Mch ops ro T mo v C ((k,i,0,x)::S) (.beg u x)) fun v C L H t=>⟨H+1,.next (w':=(k,i,0,x)) f rfl t⟩).from fun L H t=>⟨_,.push F G f (by simp) t⟩) (fun U N2 h P Y=>.plus_ok (P.mono h) K Y) (fun I h=>by cases h with|plus_no g=>cases g.is y|plus_ok g g' g''=>cases g.is y;exact⟨g,g''⟩) fun v C v'=> ?_
   exact ih2 hl.2 k i 10 M E s v C S f (.inr ⟨rfl,K⟩) v'
 | @and M E u s i e n y ih=>
   intro z k N c S f F G A;refine((ih z (O.sub _ (R f).1 u (by simp)) N (c+1) ((k,i,0,i)::S) A).last (fun v h=>.and h) (fun I h=>y7q h y) fun v C L H t=>⟨_,.pop f rfl t⟩).from fun L H t=>⟨_,.push F G f (by simp) t⟩
 | @not M E u s i e n y ih=>
   intro z k N c S f F G A;refine((ih z (O.sub _ (R f).1 u (by simp)) N (c+1) ((k,i,0,i)::S) A).last (fun v h=>.not h) (fun I h=>y7r h y) fun v C L H t=>⟨_,.pop f rfl t⟩).from fun L H t=>⟨_,.push F G f (by simp) t⟩
 |row_nil=>intro z k V p M E l N c S f y h3;exact absurd rfl h3
 | @row_no u r i n y ih=>
   intro z k V p M E l N c S f hd _ A;obtain⟨P,Y,d3,d4⟩:=Ik hd;have Z:0<=u:=O.sub _ (R f).1 u (by have:u∈l.drop p:=(by rw[hd];simp);exact List.mem_of_mem_drop this);rw[P];exact(ih z Z N c ((k,V,p,i)::S) A).last (fun v h=>.row_no h) (fun I h=>by cases h with|row_no g=>exact g|row_ok g _=>cases g.is y) fun v C L H t=>⟨_,.pop f rfl t⟩
 | @row_ok u r i x e n m y h3 ih1 ih2=>
   intro z k V p M E l N c S f hd _ A;obtain⟨P,Y,d3,d4⟩:=Ik hd;have Z:0<=u:=O.sub _ (R f).1 u (by have:u∈l.drop p:=(by rw[hd];simp);exact List.mem_of_mem_drop this);have hl:=Tb y z x rfl;rw[P];by_cases hr:r=[]
   ·subst hr
    cases h3;refine((ih1 z Z N c ((k,V,p,i)::S) A).last (fun v h=>.row_ok h .row_nil) (fun I h=>by cases h with|row_ok g _=>cases g.is y;exact g) fun v C L H t=>⟨_,.pop f ?_ t⟩);unfold nxt;simp[d4]
   ·refine Gox.then ((ih1 z Z N c ((k,V,p,i)::S) A).last (fun v h=>h) (fun _ h=>h) (Z':=fun v C=>Mch ops ro T mo v C ((k,V,p+1,x)::S) (.beg (l.getD (p+1) 0) x)) fun v C L H t=>⟨_,.next (w':=(k,V,p+1,x)) f ?_ t⟩) (fun U N2 h P Y=>.row_ok (P.mono h) Y) (fun I h=>by cases h with|row_no g=>cases g.is y|row_ok g g'=>cases g.is y;exact⟨g,g'⟩) fun v C v'=> ?_
    ·unfold nxt
     have:¬p+1=l.length:=fun h=>hr (d4.1 h)
     simp[this]
    ·exact ih2 hl.2 k V (p+1) M E l v C S f Y hr v'
 |alt_nil=>intro z k p M E l N c S f y h3;exact absurd rfl h3
 | @alt_ok u r i x n y ih=>
   intro z k p M E l N c S f hd _ A;obtain⟨P,Y,d3,d4⟩:=Ik hd;have Z:0<=u:=O.sub _ (R f).1 u (by have:u∈l.drop p:=(by rw[hd];simp);exact List.mem_of_mem_drop this);rw[P];exact(ih z Z N c ((k,i,p,i)::S) A).last (fun v h=>.alt_ok h) (fun I h=>by cases h with|alt_ok g=>exact g|alt_no g _=>cases g.is y) fun v C L H t=>⟨_,.pop f rfl t⟩
 | @alt_no u r i e n m y h3 ih1 ih2=>
   intro z k p M E l N c S f hd _ A;obtain⟨P,Y,d3,d4⟩:=Ik hd;have Z:0<=u:=O.sub _ (R f).1 u (by have:u∈l.drop p:=(by rw[hd];simp);exact List.mem_of_mem_drop this);rw[P];by_cases hr:r=[]
   ·subst hr
    cases h3;refine((ih1 z Z N c ((k,i,p,i)::S) A).last (fun v h=>.alt_no h .alt_nil) (fun I h=>by cases h with|alt_no g _=>exact g) fun v C L H t=>⟨_,.pop f ?_ t⟩);unfold nxt;simp[d4]
   ·refine Gox.then ((ih1 z Z N c ((k,i,p,i)::S) A).last (fun v h=>h) (fun _ h=>h) (Z':=fun v C=>Mch ops ro T mo v C ((k,i,p+1,i)::S) (.beg (l.getD (p+1) 0) i)) fun v C L H t=>⟨_,.next (w':=(k,i,p+1,i)) f ?_ t⟩) (fun U N2 h P Y=>.alt_no (P.mono h) Y) (fun I h=>by cases h with|alt_ok g=>cases g.is y|alt_no g g'=>exact⟨g,g'⟩) fun v C v'=> ?_
    ·unfold nxt
     have:¬p+1=l.length:=fun h=>hr (d4.1 h)
     simp[this]
    ·exact ih2 z k (p+1) M E l v C S f Y hr v'
 | @rep_end u i n y ih=>
   intro z k V kd M E l N c S f aa A;have Z:0<=u:=O.sub _ (R f).1 u (by simp);refine(ih z Z N c ((k,V,0,i)::S) A).last (fun v h=>.rep_end h) (fun I h=>by cases h with|rep_end g=>exact g|rep_go g _=>cases g.is y) fun v C L H t=>⟨H+1,.pop f ?_ ?_⟩
   ·unfold nxt
    rcases aa with rfl|⟨rfl,_⟩<;>simp
   ·have:otc (kd,M,E,u::l) (k,V,0,i) none=some i:=by
     unfold otc;rcases aa with rfl|⟨rfl,h⟩
     ·simp
     ·simp[h]
    rw[this];exact t
 | @rep_go u i x e n m y h3 ih1 ih2=>
   intro z k V kd M E l N c S f aa A;have Z:0<=u:=O.sub _ (R f).1 u (by simp);have hl:=Tb y z x rfl;refine Gox.then ((ih1 z Z N c ((k,V,0,i)::S) A).last (fun v h=>h) (fun _ h=>h) (Z':=fun v C=>Mch ops ro T mo v C ((k,V,0,x)::S) (.beg u x)) fun v C L H t=>⟨H+1,.next (w':=(k,V,0,x)) f ?_ ?_⟩) (fun U N2 h P Y=>.rep_go (P.mono h) Y) (fun I h=>by cases h with|rep_end g=>cases g.is y|rep_go g g'=>cases g.is y;exact⟨g,g'⟩) fun v C v'=> ?_
   ·unfold nxt
    rcases aa with rfl|⟨rfl,_⟩<;>simp
   ·have:prt ro (kd,M,E,u::l) 0=u:=by
     unfold prt;rcases aa with rfl|⟨rfl,_⟩<;>simp
    show Mch ops ro T mo v C _ (.beg (prt ro (kd,M,E,u::l) 0) x) L H;rw[this];exact t
   ·exact ih2 hl.2 k V kd M E l v C S f (aa.imp id fun h=>⟨h.1,by omega⟩) v'
end
theorem y7i{rs:List Rr}(h:Snd rs)(T:zA)(j i:Nat)(u:j<rs.length)(y:i<=T.size):∃e n o c r,Mt (bdQ rs) T (.one rs[j].2.1) i e n/\(pgG rs).1[j]? =some r/\0<=r/\c<=n/\c<=(pgG rs).2.length*(T.size+1)/\1<=c/\Clo (pgG rs).2 (pgG rs).1 T o/\Val (pgG rs).2 (pgG rs).1 T o/\(c=crd (pgG rs).2.length (T.size+1) o/\o r i=some e/\∀p:Nt,Mn (pgG rs).2 (pgG rs).1 T p (.nd r) i e->∀k i e,o k i=some e->p k i=some e)/\∀mo,(c<=mo->∃q,Mch (pgG rs).2 (pgG rs).1 T mo N0 0 [] (.beg r i) (some (e,c,o)) q)/\(mo<c->∃q,Mch (pgG rs).2 (pgG rs).1 T mo N0 0 [] (.beg r i) none q):=by
 obtain⟨e,n,A⟩:=h.tot T (h.pt (List.getElem_mem u)) y;obtain⟨r,C,E⟩:=h.src.2 j u;have D:0<=r:=((Vv (fun T=>fdI T (nmL rs)) rs []).2.1.2 r (List.mem_of_getElem? C)).1;have F:Mo (pgG rs).2 (pgG rs).1 T (.nd r) i e n:=Wy h.roots A r E;obtain⟨o,c,⟨v,m,k,z⟩,x,a,b,d,f,g⟩:=y7s (mo:=(pgG rs).2.length*(T.size+1)) (h.wfo T) F y D N0 0 [] (fun k i e h=>by cases h);rw[y4D]at d;have H:=y3J (pgG rs).2.length (T.size+1) o;obtain⟨q,s⟩:=f (by omega) _ _ .done;exact⟨e,n,o,c,r,A,C,D,by omega,by omega,by have:=y4E s rfl;omega,(k (y6k _ _ _)).1,v,⟨by omega,(by cases(k (y6k _ _ _)).2 with|nd _ h _=>exact h),fun p G=>z p G (fun k i e h=>by cases h)⟩,fun mo=>⟨fun t=>⟨q,y4F s rfl t⟩,fun t=>y4G s rfl (Nat.zero_le _) t⟩⟩
theorem y7t{L M:Nat}{N a:Nt}(h:∀k i e,N k i=some e->a k i=some e):crd L M N<=crd L M a:=by
 unfold crd;refine List.countP_mono_left fun p _ b=> ?_
 cases hx:N p.1 p.2 with
 |none=>rw[hx]at b;cases b
 |some e=>rw[h _ _ _ hx];rfl
end
end Go.Proofs.YtmelafeingcgnaaGreatDoor
