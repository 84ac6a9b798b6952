/- Lemmas for the last text. Conditions: those that each names. -/
import Derived.Test.YtgnkkgcgbeianaaGreatDoorVX19ToR4
import Derived.Test.YtgnkkgcgbeianaaGreatDoorVY15ToX17
import Derived.Lib.AppendStr
import Derived.RangeFuncBox
import Derived.RangeFuncFrom
set_option linter.unusedVariables false
set_option maxRecDepth 100000
set_option maxHeartbeats 8000000
namespace Go.Proofs.YtgnkkgcgbeianaaGreatDoor
open Go.Proofs.Tryz
section
open Go.RowKit Go.Shelf
abbrev qT:zA->ByteArray:=fun T=>nb (qt T)
abbrev cT:Nat->ByteArray:=fun C=>nb (txt C)
abbrev Nmq:zA->Prop:=fun T=>nmS T=true
theorem z9c{T:zA}(h:T.size<=255):(nb (qt T)).size<=4096:=by
 rw[Uh];unfold qt;have:=(Ch T T.size).1;rw[List.length_append];show _+1<=_;omega
theorem z9d(C:Nat):(nb (txt C)).size<=4096:=by
 rw[Uh];have h:=Oc (rs C 256).reverse;have o:=Nc C 256;unfold txt;simp at h ⊢;omega
theorem z1E:Pcz (fun T=>nmS T=true) (fun T=>nb (qt T)) (fun C=>nb (txt C)) where
 nm:=fun T h=>by
  unfold nmS at h;cases hb:bt T 0 with
  |none=>rw[hb]at h;cases h
  |some x=>
   rw[hb]at h;simp at h;exact⟨h.1.1,x,rfl,h.1.2⟩
 qt:=fun T _=>by
  obtain⟨r,o⟩:=z1u T _ 0 rfl (Nat.zero_le _);rw[z1t _ (z1j T),o];rfl
 ct:=fun C _=>by rw[z1t _ (z1s C)];rfl
theorem Ez{T:zA}(h:nmS T=true):T.size<=4096:=by
 have:=(z1E.nm T h).1;omega
section
variable {s0 l N:Nat} {J Jx:List ByteArray->World->Prop}
theorem z1F(t:Yl s0 l N J Jx):∀(M:Nat) (n:Nd),SizeOf.sizeOf n<M->Vk n->Wf Nmq n->YN s0 l N J Jx qT cT n
 |0,n,h,_,_=>by omega
 |M+1,.mk kd T C s pn,hM,hv,hw=>by
  have ae:=hv;have ab:=hv.kd;rw[Vk]at hv;rw[Wf]at hw;obtain⟨Z,aa⟩:=hv;obtain⟨w2,w5,wc,ws⟩:=hw;have ac:∀m∈s,Wf Nmq m:=by
   clear hM Z aa ab ae
   induction s with
   |nil=>intro m G;simp at G
   |cons a r ih=>
    rw[WfL]at ws;intro m G;rcases List.mem_cons.1 G with rfl|G
    ·exact ws.1
    ·exact ih ws.2 m G
  have ih:∀m∈s,YN s0 l N J Jx qT cT m/\1<=m.kd/\m.kd<=12:=fun m G=>by
   have h3:=List.sizeOf_lt_of_mem G;simp only[Nd.mk.sizeOf_spec]at hM;exact⟨z1F t M m (by omega) (aa.mem m G) (ac m G),(aa.mem m G).kd⟩
  have af:6<=kd->s.isEmpty=false:=fun h6=>by
   have:0<s.length:=by
    rcases Z with q|q|q|q|q|q|q<;>omega
   cases s with
   |nil=>simp at this
   |cons _ _=>rfl
  have aj:8<=kd->s.length=1:=fun h8=>by
   rcases Z with q|q|q|q|q|q|q<;>omega
  intro m cs o W hn hT E hl;have ak:1<=kd:=ab.1;have ag:kd<=12:=ab.2;have ad:=hn;obtain⟨y,A,D,p,rfl⟩:=z1A hn;have I:∀(U:zA),U.size<=4096->6<=kd->∀(Y:List ByteArray),Y.length+(pS qT cT kd U s).length<=N->∀V,Kt s0 W V->J Y V->CallsIn Fence.wide (m-1) prog 304 #[.agg (v8 kd T C (.slice y A D) p).toArray,zT U,.func (.yield l) #[] #[]] V (Yp s0 J Jx Y (pS qT cT kd U s) V):=fun U hz h6 Y ah V hk ai=>
   z8P t (af h6) ih U hz (m-1) _ Y V h6 ag (hk.node ad) (hk.tab hT) ai ah
  rw[pN]at hl ⊢;have hc:kd=1∨kd=2∨kd=3∨kd=4∨kd=5∨kd=6∨kd=7∨kd=8∨kd=9∨kd=10∨kd=11∨kd=12:=by omega
  clear hn ad ih aa ac ws hM Z;rcases hc with rfl|rfl|rfl|rfl|rfl|rfl|rfl|rfl|rfl|rfl|rfl|rfl
  ·exact z8Q t m T C p y A D o W E hl
  ·exact z8T t m T C p y A D o W (w2 rfl) (z9c (w2 rfl)) E hl
  ·exact z8U t m T C p y A D o W wc (z9d C) hT E hl
  ·exact z8R t m T C p y A D o W E hl
  ·exact z8S t m T C p y A D o W (Ez (w5 rfl)) E hl
  ·exact z8V t m T C p y A D o W _ (I bSp (by decide) (by decide) o hl) E
  ·exact z8W t m T C p y A D o W _ (I bSl (by decide) (by decide) o hl) E
  ·exact z8Z t m T C p y A D o W _ (I bE (by decide) (by decide) o (by simp at hl;omega)) E (by simp at hl;omega)
  ·exact z9a t m T C p y A D o W _ (I bE (by decide) (by decide) o (by simp at hl;omega)) E (by simp at hl;omega)
  ·exact z9b t m T C p y A D o W _ (I bE (by decide) (by decide) o (by simp at hl;omega)) E (by simp at hl;omega)
  ·exact z8X t m T C p y A D o W _ (I bE (by decide) (by decide) (o++[bsg 11]) (by simp at hl ⊢;omega)) E (by simp at hl;omega)
  ·exact z8Y t m T C p y A D o W _ (I bE (by decide) (by decide) (o++[bsg 12]) (by simp at hl ⊢;omega)) E (by simp at hl;omega)
end
end
open Go.RowKit
theorem RoR.len{B n r:Nat}{t:Option Addr}{rs:List Rl}{W:World}(h:RoR B (.slice t n r) rs W):n=rs.length:=by
 obtain⟨xs,y,_⟩:=h;obtain⟨hl,⟨o,hx⟩|⟨A,D,E,o,_⟩⟩:=y
 ·injection o with _ h2 _
  rw[hx]at hl;simp at hl;omega
 ·injection o
theorem RoR.lt{B g n o:Nat}{rs:List Rl}{W:World}(h:RoR B (zS g n o) rs W):g<W.heap.size:=by
 obtain⟨xs,r,_⟩:=h;exact(r.lt g rfl).2
section
open Go.Shelf
attribute [local go_sem] Oper.semAt_some
theorem Kt.ten{s0:Nat}{W W':World}(h:Kt s0 W W'){g:Nat}{o:Array Value}(r:zH W g (.cells o 83)):zH W' g (.cells o 83):=
 (h.2.1 g _ _ (.inr (.inl rfl)) r).trans r
theorem Kt.gram{s0:Nat}{W W':World}(h:Kt s0 W W'){g:Nat}{o:Array Value}(r:zH W g (.cells o 43)):zH W' g (.cells o 43):=
 (h.2.1 g _ _ (.inr (.inr rfl)) r).trans r
def Rv(s0:Nat)(W:World)(g o:Nat)(x:Rl):Prop:=∃kd T C so sl sc p q,
 NdV s0 W x.2.1 (v8 kd T C (.slice so sl sc) p)/\W.cell? ⟨g,o,none⟩=some (zT x.1)/\W.cell? ⟨g,o+1,none⟩=some (zI (kd:Int))/\W.cell? ⟨g,o+2,none⟩=some (zT T)/\W.cell? ⟨g,o+3,none⟩=some (zU (wd C 0:Nat))/\W.cell? ⟨g,o+4,none⟩=some (zU (wd C 1:Nat))/\W.cell? ⟨g,o+5,none⟩=some (zU (wd C 2:Nat))/\W.cell? ⟨g,o+6,none⟩=some (zU (wd C 3:Nat))/\W.cell? ⟨g,o+7,none⟩=some (.slice so sl sc)/\W.cell? ⟨g,o+8,none⟩=some (zI p)/\W.cell? ⟨g,o+9,none⟩=some (zI q)
def RgV(s0:Nat)(W:World)(so:Option Addr)(n:Nat)(rs:List Rl):Prop:=n=rs.length/\n<=maxLen/\∀j (hj:j<rs.length),∃g o,so=some ⟨g,o,none⟩/\g<s0/\Rv s0 W g (o+j*10) rs[j]
theorem Kt.rules{s0:Nat}{W W':World}(h:Kt s0 W W'){t:Option Addr}{n:Nat}{rs:List Rl}(y:RgV s0 W t n rs):RgV s0 W' t n rs:=
 ⟨y.1,y.2.1,fun j A=>by
   obtain⟨g,o,D,r,kd,T,C,t,E,G,p,q,I,U,V,Y,Z,z4,z5,z6,z7,z8,z9⟩:=y.2.2 j A;exact⟨g,o,D,r,kd,T,C,t,E,G,p,q,h.node I,h.cell r U,h.cell r V,h.cell r Y,h.cell r Z,h.cell r z4,h.cell r z5,h.cell r z6,h.cell r z7,h.cell r z8,h.cell r z9⟩⟩
theorem Pv(QT:zA->ByteArray)(CT:Nat->ByteArray):∀(a b:List Rl),pR QT CT (a++b)=pR QT CT a++pR QT CT b
 |[],b=>rfl
 |x::r,b=>by rw[List.cons_append,pR,pR,Pv QT CT r b];simp
theorem z9e(QT:zA->ByteArray)(CT:Nat->ByteArray)(rs:List Rl)(j:Nat)(h:j<rs.length):pR QT CT (rs.take (j+1))=pR QT CT (rs.take j)++(rs[j].1::bAr::(pN QT CT rs[j].2.1++[bNl])):=by
 rw[show rs.take (j+1)=rs.take j++[rs[j]] by simp,Pv,pR,pR]
theorem z9f(QT:zA->ByteArray)(CT:Nat->ByteArray)(rs:List Rl)(j:Nat):∃r,pR QT CT rs=pR QT CT (rs.take j)++r:=by
 refine⟨pR QT CT (rs.drop j),?_⟩;rw[<-Pv,List.take_append_drop]
section
variable {s0 l N:Nat} {J Jx:List ByteArray->World->Prop}
theorem z9g(hY:Yl s0 l N J Jx){rs:List Rl}(hx:∀x∈rs,Ruk Nmq x)(m Bt n aF:Nat)(aq:Option Addr)(W:World)(hb:zH W Bt (.cells #[.slice aq n aF] 43))(t:RgV s0 W aq n rs)(hT:TabIs W)(hJ:J [] W)(hl:(pR qT cT rs).length<=N):
  CallsIn Fence.wide m prog 294 #[.func (.yield l) #[] #[],zP Bt 0] W fun e W'=>(∃v,e=.returned v)/\(J (pR qT cT rs) W'∨∃q,q<+:pR qT cT rs/\Jx q W'):=by
 have Z:=Xf;have ar:Hid (n=rs.length):=t.1;have aR:n<=9223372036854775807:=by have:=t.2.1;unfold maxLen at this;omega
 have HX:=hid hx;have aG:=hid t;have HT:=hid hT;have U:Hid (Yl s0 l N J Jx):=hY;have aH:=hid hJ;have HL:=hid hl;obtain⟨b0,_⟩:=Qk hb;clear hx t hT hY hJ hl hb;refine callsIn_of_wp func294 rfl trivial ?_ rfl;simp only[ntmps294,List.size_toArray,List.length_cons,List.length_nil,Nat.reduceAdd,Nat.reduceSub,Array.replicate_succ,Array.replicate_zero,List.push_toArray,List.append_toArray,List.nil_append,List.cons_append]
 gi_wp2
 gi_loopw [8] (fun i wr=>∃j:Nat,i=zI (j:Int)/\j<=n/\Hid (J (pR qT cT (rs.take j)) wr)/\Hid (Kt s0 W wr)) (fun i _=>n-(intOf i).toNat)
 case atStart=>exact⟨0,rfl,Nat.zero_le _,by rw[List.take_zero,pR];exact aH,hid (Kt.refl _)⟩
 case round=>
  obtain⟨j,rfl,hj,aa,ai⟩:=hrel;clear b0;by_cases hjn:j<n
  ·have aS:(j:Int)<(n:Int):=by omega
   have a0:decide ((j:Int)<(n:Int))=true:=by simp;omega
   have aj:j<rs.length:=by rw[<-ar.out];exact hjn
   obtain⟨g,o,rfl,hg,kd,T,C,so,sl,sc,p,q0,nd,z0,z1,z2,z3,z4,z5,z6,z7,z8,z9⟩:=(ai.out.rules aG.out).2.2 j aj;obtain⟨xn,xv,xw⟩:=HX.out rs[j] (List.getElem_mem aj);have ak:=z9e qT cT rs j aj;obtain⟨rr,al⟩:=z9f qT cT rs (j+1);have aT:g<wr.heap.size:=World.block_lt_of_cell? wr _ z0;have am:(pR qT cT (rs.take j)).length+((pN qT cT rs[j].2.1).length+3)<=N:=by
    have h1:=HL.out;rw[al,ak]at h1;simp only[List.length_append,List.length_cons,List.length_nil]at h1;omega
   have au:=hid al;have V:=hid ak;obtain⟨y,av⟩:∃y,y=pR qT cT (rs.take j):=⟨_,rfl⟩;rw[<-av]at aa V am;obtain⟨E,ab⟩:∃E,E=pN qT cT rs[j].2.1:=⟨_,rfl⟩;have aw:=hid (z1F U.out _ rs[j].2.1 (Nat.lt_succ_self _) xv xw);have ax:=hid nd;obtain⟨N0,ay⟩:∃N0,N0=rs[j].1:=⟨_,rfl⟩;rw[<-ay]at z0 V xn;rw[<-ab]at V am;have K2:=hid (Kt.alloc (s0:=s0) wr (.cells #[zT N0,zI (kd:Int),zT T,zU (wd C 0:Nat),zU (wd C 1:Nat),zU (wd C 2:Nat),zU (wd C 3:Nat),.slice so sl sc,zI p,zI q0] 83));have B2:Hid ((wr.alloc (.cells #[zT N0,zI (kd:Int),zT T,zU (wd C 0:Nat),zU (wd C 1:Nat),zU (wd C 2:Nat),zU (wd C 3:Nat),.slice so sl sc,zI p,zI q0] 83)).heap[wr.heap.size]? =some (.cells #[zT N0,zI (kd:Int),zT T,zU (wd C 0:Nat),zU (wd C 1:Nat),zU (wd C 2:Nat),zU (wd C 3:Nat),.slice so sl sc,zI p,zI q0] 83)):=Qx wr _ rfl;have az:=hid (U.out.call (m-1) y N0 (wr.alloc (.cells #[zT N0,zI (kd:Int),zT T,zU (wd C 0:Nat),zU (wd C 1:Nat),zU (wd C 2:Nat),zU (wd C 3:Nat),.slice so sl sc,zI p,zI q0] 83)) (U.out.alloc aa.out _) (by omega) (Ez xn));have ao:=hid (fun(W2:World) (ac:J (y++[N0]) W2)=>U.out.call (m-1) _ bAr W2 ac (by simp;omega) (by decide));have I:=hid (fun(Y:World) (ad:J (y++[N0]++[bAr]) Y) (hk:Kt s0 wr Y)=>aw.out (m-1) _ (y++[N0]++[bAr]) Y (hk.node ax.out) ((ai.out.trans hk).tab HT.out) ad (by rw[<-ab];simp;omega));have ae:=hid (fun(W4:World) (af:J (y++[N0]++[bAr]++E) W4)=>U.out.call (m-1) _ bNl W4 af (by simp;omega) (by decide));rw[<-ab]at I;have ag:Hid (∀q,q<+:(N0::bAr::(E++[bNl]))->y++q<+:pR qT cT rs):=fun q hq=>by
    obtain⟨r,t⟩:=hq;exact⟨r++rr,by rw[au.out,V.out,<-t];simp⟩
   clear ak al am nd xv xw xn av ab ay aw ax au;dsimp only[v8]at I;obtain⟨fn,aA,aB,Qm,G,A⟩:=az.out;have D:=hid A;clear A az
   gi_wp2
   refine⟨Z _,D.out.mono ?_⟩;clear D G z0 z1 z2 z3 z4 z5 z6 z7 z8 z9;rintro e W2 (⟨rfl,ac,ap⟩|⟨rfl,aI⟩)
   ·obtain⟨fn,aA,aB,Qm,G,A⟩:=ao.out W2 ac
    have D:=hid A;have aC:=hid (K2.out.trans ap);have aJ:=hid (ap.ten B2.out);clear A ao ac ap;unfold bAr at G
    gi_wp2
    refine⟨Z _,D.out.mono ?_⟩;clear D G;rintro e Y (⟨rfl,ad,ah⟩|⟨rfl,aK⟩)
    ·obtain⟨⟨c0,c1,c2,c3,c4,c5,c6,c7,c8,c9⟩,_⟩:=Gp (ah.ten aJ.out)
     have HN:=hid (I.out Y ad (aC.out.trans ah));have aL:=hid (aC.out.trans ah);clear I ad ah
     gi_wp2
     refine⟨trivial,Z _,HN.out.mono ?_⟩;clear HN c0 c1 c2 c3 c4 c5 c6 c7 c8 c9;rintro e W4 (⟨rfl,af,aD⟩|⟨rfl,q,hq,aM⟩)
     ·obtain⟨fn,aA,aB,Qm,G,A⟩:=ae.out W4 af
      have D:=hid A;have aN:=hid (aL.out.trans aD);clear A ae af aD;unfold bNl at G
      gi_wp2
      refine⟨Z _,D.out.mono ?_⟩;clear D G;rintro e W5 (⟨rfl,aO,aP⟩|⟨rfl,aQ⟩)
      ·gi_wp2
       go_roundw
       case rel=>exact⟨j+1,by go_num,by omega,hid (by rw[V.out];simpa [List.append_assoc]using aO),hid ((ai.out.trans aN.out).trans aP)⟩
       case measure=>simp[intOf];omega
      ·gi_wp2
       refine bodyPost_ret (v:=.tuple #[]) (by simp[results,Tryz.results294]) rfl ?_;exact⟨⟨_,rfl⟩,.inr ⟨_,ag.out (N0::bAr::(E++[bNl])) (List.prefix_refl _),by simpa [List.append_assoc]using aQ⟩⟩
     ·gi_wp2
      refine⟨fun _ h=>(by cases h),?_⟩
      gi_wp2
      refine bodyPost_ret (v:=.tuple #[]) (by simp[results,Tryz.results294]) rfl ?_;obtain⟨r,t⟩:=hq;exact⟨⟨_,rfl⟩,.inr ⟨_,ag.out (N0::bAr::q) ⟨r++[bNl],by rw[<-t];simp⟩,by simpa [List.append_assoc]using aM⟩⟩
    ·clear I ae
     gi_wp2
     refine⟨trivial,?_⟩
     gi_wp2
     refine⟨fun _ h=>(by cases h),?_⟩
     gi_wp2
     refine bodyPost_ret (v:=.tuple #[]) (by simp[results,Tryz.results294]) rfl ?_;exact⟨⟨_,rfl⟩,.inr ⟨_,ag.out [N0,bAr] ⟨E++[bNl],rfl⟩,by simpa [List.append_assoc]using aK⟩⟩
   ·clear I ae ao
    gi_wp2
    refine⟨fun _ h=>(by cases h),?_⟩
    gi_wp2
    refine⟨trivial,?_⟩
    gi_wp2
    refine⟨fun _ h=>(by cases h),?_⟩
    gi_wp2
    refine bodyPost_ret (v:=.tuple #[]) (by simp[results,Tryz.results294]) rfl ?_;exact⟨⟨_,rfl⟩,.inr ⟨_,ag.out [N0] ⟨bAr::(E++[bNl]),rfl⟩,aI⟩⟩
  ·have a0:decide ((j:Int)<(n:Int))=false:=by simp;omega
   have aE:rs.take j=rs:=List.take_of_length_le (by rw[<-ar.out];omega);rw[aE]at aa;clear aE
   gi_wp2
   go_end0
   exact⟨⟨_,rfl⟩,.inl aa.out⟩
end
end
section
section
variable {Nm:ByteArray->Prop} {QT:ByteArray->ByteArray} {CT:Nat->ByteArray}
def cz:List ByteArray->Int×Int->Int×Int
 |[],st=>st
 |p::r,st=>cz r (if p=bO then(st.1+1,max st.2 (st.1+1))else if p=bC then(st.1-1,st.2)else st)
theorem Fl:∀(A B:List ByteArray) (h:Int×Int),cz (A++B) h=cz B (cz A h)
 |[],B,h=>rfl
 |p::r,B,h=>by rw[List.cons_append,cz,cz,Fl r B]
theorem Dz{p:zA}(o:p≠bO)(t:p≠bC)(r:List ByteArray)(h:Int×Int):cz (p::r) h=cz r h:=by rw[cz,if_neg o,if_neg t]
def CZ(QT:zA->ByteArray)(CT:Nat->ByteArray)(n:Nd):Prop:=∀o m:Int,o<=m->cz (pN QT CT n) (o,m)=(o,max m (o+(dN n:Int)))
theorem z1G(over:Nat){n:Nd}(h:CZ QT CT n)(o m:Int)(r:o<=m):cz (pP QT CT over n) (o,m)=(o,max m (o+(dP over n:Int))):=by
 unfold pP dP;split
 ·rw[cz,if_pos rfl,Fl,h _ _ (by show o+1<=max m (o+1);omega),cz,if_neg z1w,if_pos rfl,cz]
  simp only;refine Prod.ext ?_ ?_
  ·show o+1-1=o
   omega
  ·show max (max m (o+1)) (o+1+(dN n:Int))=max m (o+((dN n+1:Nat):Int))
   omega
 ·exact h o m r
theorem z1H(over:Nat)(h:zA)(t:h≠bO)(y:h≠bC):∀(s:List Nd),(∀m∈s,CZ QT CT m)->∀o m:Int,o<=m->cz (pB QT CT over h s) (o,m)=(o,max m (o+(dS over s:Int)))
 |[],_,o,m,hm=>by
  rw[Ol,cz,dS];congr 1;omega
 |n::r,hn,o,m,hm=>by
  rw[Fc,Dz t y,Fl,z1G over (hn n (by simp)) o m hm,z1H over h t y r (fun x hx=>hn x (by simp[hx])) _ _ (by omega),Ob];congr 1;omega
theorem Eq(over:Nat)(h:zA)(t:h≠bO)(y:h≠bC):∀(s:List Nd),(∀m∈s,CZ QT CT m)->∀o m:Int,o<=m->cz (pS QT CT over h s) (o,m)=(o,max m (o+(dS over s:Int)))
 |[],_,o,m,hm=>by
  rw[pS,cz,dS];congr 1;omega
 |n::r,hn,o,m,hm=>by
  rw[Fp,Fl,z1G over (hn n (by simp)) o m hm,z1H over h t y r (fun x hx=>hn x (by simp[hx])) _ _ (by omega),Ob];congr 1;omega
theorem z1I(G:Pcz Nm QT CT):∀(N:Nat) (n:Nd),SizeOf.sizeOf n<N->Vk n->Wf Nm n->CZ QT CT n
 |0,n,h,_,_=>by omega
 |N+1,.mk kd T C s p,hN,hv,hw=>by
  have Y:=hv.kd;rw[Vk]at hv;rw[Wf]at hw;obtain⟨Z,aa⟩:=hv;obtain⟨w2,w5,wc,U⟩:=hw;have ab:∀m∈s,Wf Nm m:=by
   clear hN Z aa Y
   induction s with
   |nil=>intro m t;simp at t
   |cons a r A=>
    rw[WfL]at U;intro m t;rcases List.mem_cons.1 t with rfl|t
    ·exact U.1
    ·exact A U.2 m t
  have A:∀m∈s,CZ QT CT m:=fun m t=>by
   have V:=List.sizeOf_lt_of_mem t;simp only[Nd.mk.sizeOf_spec]at hN;exact z1I G N m (by omega) (aa.mem m t) (ab m t)
  intro o m t;have ad:1<=kd:=Y.1;have ac:kd<=5->s=[]:=fun D=>by
   rcases Z with q|q|q|q|q|q|q
   ·exact q.2.2.2
   ·exact q.2.2
   ·exact q.2.2
   ·exact q.2.2.2
   ·exact q.2.2
   ·omega
   ·omega
  rw[pN,dN];by_cases h1:kd=1
  ·rw[if_pos h1,if_pos h1,cz,if_pos rfl,cz,if_neg z1w,if_pos rfl,cz]
   simp only;refine Prod.ext ?_ ?_
   ·show o+1-1=o
    omega
   ·show max m (o+1)=max m (o+((1:Nat):Int))
    omega
  ·rw[if_neg h1,if_neg h1]
   have I:∀(P:zA),kd<=5->P≠bO->P≠bC->cz [P] (o,m)=(o,max m (o+(dS kd s:Int))):=fun P D a b=>by
    rw[ac D,dS,Dz a b,cz];congr 1;omega
   by_cases h2:kd=2
   ·rw[if_pos h2]
    have E:=G.qt T (w2 h2);exact I _ (by omega) (Zc E (y:=40) rfl (by decide)) (Zc E (y:=41) rfl (by decide))
   ·rw[if_neg h2]
    by_cases V:kd=3
    ·rw[if_pos V]
     have E:=G.ct C wc;exact I _ (by omega) (Zc E (y:=40) rfl (by decide)) (Zc E (y:=41) rfl (by decide))
    ·rw[if_neg V]
     by_cases h4:kd=4
     ·rw[if_pos h4]
      exact I _ (by omega) (Zc (x:=46) (y:=40) rfl rfl (by decide)) (Zc (x:=46) (y:=41) rfl rfl (by decide))
     ·rw[if_neg h4]
      by_cases D:kd=5
      ·rw[if_pos D]
       have:=z1z G (w5 D);exact I _ (by omega) this.1 this.2
      ·rw[if_neg D]
       by_cases h6:kd=6
       ·rw[if_pos h6,h6]
        exact Eq 6 bSp z1x.1 z1x.2 s A o m t
       ·rw[if_neg h6]
        by_cases h7:kd=7
        ·rw[if_pos h7,h7]
         exact Eq 7 bSl z1y.1 z1y.2 s A o m t
        ·rw[if_neg h7]
         split
         ·rw[Dz (Cc kd).1 (Cc kd).2]
          exact Eq kd bE Cl.1 Cl.2 s A o m t
         ·rw[Fl,Eq kd bE Cl.1 Cl.2 s A o m t,Dz (Cc kd).1 (Cc kd).2,cz]
theorem z1J(h:Pcz Nm QT CT):∀(rs:List Rl),(∀x∈rs,Ruk Nm x)->∀m:Int,0<=m->cz (pR QT CT rs) (0,m)=(0,max m (dR rs:Int))
 |[],_,m,hm=>by
  rw[pR,cz,dR];refine Prod.ext rfl ?_;show m=max m ((0:Nat):Int);omega
 |x::r,hx,m,hm=>by
  obtain⟨o,t,A⟩:=hx x (by simp);have a:=z1z h o;rw[pR,Dz a.1 a.2,Dz (Zc (x:=32) (y:=40) rfl rfl (by decide)) (Zc (x:=32) (y:=41) rfl rfl (by decide)),Fl,z1I h _ x.2.1 (Nat.lt_succ_self _) t A 0 m hm,
   Dz (Zc (x:=10) (y:=40) rfl rfl (by decide)) (Zc (x:=10) (y:=41) rfl rfl (by decide)),z1J h r (fun y D=>hx y (by simp[D])) _ (by omega),dR]
  refine Prod.ext rfl ?_;show max (max m (0+(dN x.2.1:Int))) (dR r:Int)=max m ((max (dN x.2.1) (dR r):Nat):Int);omega
theorem Ex:∀(t:List ByteArray) (o:Int×Int),0<=o.2-> -(sz t:Int)<=(cz t o).1-o.1/\(cz t o).1-o.1<=(sz t:Int)/\0<=(cz t o).2/\(cz t o).2<=max o.2 (max o.1 (o.1+(sz t:Int)))
 |[],o,h=>by
  rw[cz,sz];omega
 |p::r,o,h=>by
  rw[cz,sz];by_cases h1:p=bO
  ·rw[if_pos h1]
   have:=Ex r (o.1+1,max o.2 (o.1+1)) (by show 0<=max o.2 (o.1+1);omega);have y:p.size=1:=by rw[h1];rfl
   simp only at this;rw[y];omega
  ·rw[if_neg h1]
   by_cases h2:p=bC
   ·rw[if_pos h2]
    have:=Ex r (o.1-1,o.2) h;have y:p.size=1:=by rw[h2];rfl
    simp only at this;rw[y];omega
   ·rw[if_neg h2]
    have:=Ex r o h;omega
theorem Py(h:List ByteArray)(x:zA)(o:Int×Int):cz (h++[x]) o=(if x=bO then((cz h o).1+1,max (cz h o).2 ((cz h o).1+1))else if x=bC then((cz h o).1-1,(cz h o).2)else cz h o):=by
 rw[Fl,cz,cz]
end
end
open Go.Shelf
attribute [local go_sem] Oper.semAt_some
theorem z9h{F:Fence}(o:F.depth=none)(k:Nat):F.room k:=fun d h=>by rw[o]at h;cases h
theorem z9i{F:Fence}(t:F.depth=none){m y:Nat}{P:Program}{l:Nat}{f:FuncId}{o:Array Value}{r Qm:Code}{w:World}{R:Ending->World->Prop}
 (h:RoundIn F m P l f o r Qm w R):RoundIn F y P l f o r Qm w R:=⟨h.1,fun c A _=>h.2 c A (z9h t _)⟩
theorem Pf{F:Fence}(o:F.depth=none){m:Nat}(r:Nat){P:Program}{l:Nat}{args:Array Value}{W:World}{R:Ending->World->Prop}(h:YieldAt F m P l args W R):YieldAt F r P l args W R:=by
 obtain⟨t,y,A,Qm,D,E⟩:=h;exact⟨t,y,A,Qm,D,z9i o E⟩
abbrev Pz:={T:zA//T.size<=4096}
def Zw(q:List Pz):List ByteArray:=q.map Subtype.val
theorem Uq(a b:List Pz):Zw (a++b)=Zw a++Zw b:=List.map_append
theorem Kt.book{s0:Nat}(W:World)(l:Nat)(o D:Obj)(hl:s0<=l)(h:W.heap[l]? =some o)(G:o.isCells=false):Kt s0 W (W.putObj l D):=by
 have I:∀j y t E,W.heap[j]? =some (.cells y t E)->j≠l:=fun j y t E r e=>by
  subst e;rw[h]at r;cases r;cases G
 refine⟨by simp[World.putObj],fun j y t _ r=>World.putObj_heap_other (I j y t _ r),fun j v A=> ?_,fun j r o U=>(World.putObj_heap_other (by omega)).trans U⟩;have r:5≠l:=fun e=>by
  subst e;unfold World.cell? at A;rw[h]at A;cases o<;>simp_all[Obj.isCells]
 have:(W.putObj l D).heap[5]? =W.heap[5]? :=World.putObj_heap_other r;unfold World.cell? at A ⊢;rw[this];exact A
theorem z9j{s0:Nat}{rs:List Rl}(hx:∀x∈rs,Ruk Nmq x)(m Bt n V:Nat)(o:Option Addr)(w:World)(Z:zH w Bt (.cells #[.slice o n V] 43))(hr:RgV s0 w o n rs)(hT:TabIs w):
  SeqStopsK Fence.wide m prog 294 #[zP Bt 0] (fun x:Pz=>#[Value.string x.1]) (Kt s0) (fun ys=>Zw ys=pR qT cT rs) (fun t=>Zw t<+:pR qT cT rs) (pR qT cT rs).length w:=by
 intro l J Jx W hW hJ aa hY h0;have y:=Kt.below (s0:=s0) hW;have yl:Yl s0 l (pR qT cT rs).length (fun D W=>∃q:List Pz,Zw q=D/\J q W) (fun D W=>∃q:List Pz,Zw q=D/\Jx q W):=by
  refine⟨fun s A B ⟨q,e,h⟩ hg=>⟨q,e,hJ q A B none h hg (fun r e=>by cases e)⟩,fun m' t x W1 ⟨q,e,h⟩ hl hz=> ?_⟩;have Y:q.length=t.length:=by rw[<-e];simp[Zw]
  refine YieldAt.mono (Pf rfl m' (hY q ⟨x,hz⟩ W1 h (by omega))) fun e' W' hh=> ?_
  rcases hh with⟨E,G,h3⟩|⟨E,G⟩
  ·exact .inl ⟨E,⟨_,by rw[Uq,e];rfl,G⟩,h3⟩
  ·exact .inr ⟨E,⟨_,by rw[Uq,e];rfl,G⟩⟩
 refine(z9g yl hx m Bt n V o W (y.gram Z) (y.rules hr) (y.tab hT) ⟨[],rfl,h0⟩ L0q).mono fun e W' h=> ?_
 refine⟨h.1,?_⟩;rcases h.2 with⟨q,I,U⟩|⟨q,Y,⟨p,I,U⟩⟩
 ·exact .inl ⟨q,I,U⟩
 ·exact .inr ⟨p,by show Zw p<+:_;rw[I];exact Y,U⟩
theorem z9k(m:Nat)(sv:Value)(h:Option Addr)(o r:Nat)(w:World):CallsIn Fence.wide m prog 283 #[.agg #[.slice h o r]] w fun e w'=>e=.returned (.func (.func 294) #[] #[zP w.heap.size 0])/\w'=w.alloc (.cells #[.slice h o r] 43):=by
 refine callsIn_of_wp func283 rfl trivial ?_ rfl;simp only[ntmps283,List.size_toArray,List.length_cons,List.length_nil,Nat.reduceAdd,Nat.reduceSub,Array.replicate_succ,Array.replicate_zero,List.push_toArray,List.append_toArray,List.nil_append,List.cons_append]
 gi_wp2
 go_ret;exact⟨rfl,rfl⟩
theorem z9l{F:Fence}{n:Nat}{P:Program}(w:World){ops:Array Oper}{rest:List Oper}{o:Oper}{a:Act}{Q:Exit->Act->World->Prop}(A:o.guard=none)(y x:Operand)(t u:TypeId)
  (r:o.op=.call {callee:=.builtin .append,args:=#[y,x],argTypes:=#[t,u]})
  (base:Nat)(e:TypeId)(i:TypeInfo)(D:P.underlying t=some (.slice e))(E:P.underlying u=some .string)(G:P.info? e=some i)(I:i.zero=some (.int .u8 0))
  (U:i.size=1)(V:i.bytes=1)
  (v:Value)(k:Nat)(xs:List Value)(Y:a.eval y=v)(Z:w.ownsRow base e 1 v k xs)(s:zA)(hx:a.eval x=zT s)
  (aa:k+s.size<=maxLen)(ab:k+s.size<=140737488355328)(ac:base<=w.heap.size)
  (hK:∀h w',w'.ownsRow base e 1 h (k+s.size) (xs++Lib.strCells s)->w.grownBy w' v.ownBlock->wpListIn F n P ops Q rest (a.put o.dst h) w'):wpListIn F n P ops Q (o::rest) a w:=by
 refine wpListIn_plain A fun K ad=> ?_
 obtain⟨h,w',ae,r1,r2,r3⟩:=Lib.run_append_own_string (P:=P) w base t u o.type e i D E G I U V v k xs Z s aa ab ac;unfold Oper.wpIn;refine⟨?_,?_⟩
 ·simp[Oper.about,r,resolve,Target.leads,Sem.run_pure]
 ·rw[Oper.semAt_plain F _ _ (by rw[r];intro c af;cases af)]
  simp[execOp,r,resolve,invoke,builtin,Y,hx,ae,Result.andThen];exact ad _ _ (hK h w' r1 r2)
theorem z9m(a b:zA):Lib.strCells (a++b)=Lib.strCells a++Lib.strCells b:=by
 unfold Lib.strCells;simp
theorem Kt.put{s0:Nat}{W:World}{B:Nat}{t:TypeId}{v:Value}(h:Boxed W B t v)(r:Value)(A:¬(t=81∨t=83∨t=43))(D:5<B)(U:s0<=B):Kt s0 W (W.setCell ⟨B,0,none⟩ r):=by
 refine⟨(KeepsWalks.setCell W _ r).size,fun j V u E y=>Below.heap_setCell _ _ _ j (fun e=> ?_),fun j u G=>(((Below.refl B W).setCell (p:=⟨B,0,none⟩) L0q r).cell (p:=⟨5,j,none⟩) D).trans G,fun j y o I=>(Below.heap_setCell _ _ _ j (fun e=>by have e:j=B:=e;omega)).trans I⟩;rw[e,show W.heap[B]? =_ from h]at y;cases y;exact A E
theorem Kt.grown{W t:World}{base k:Nat}{v:Value}{xs:List Value}(A:W.ownsRow base 5 1 v k xs)(D:W.grownBy t v.ownBlock)(G:5<base)(I:base<=W.heap.size):Kt base W t:=by
 have y:Below base W t:=(Below.refl base W).grown D I (fun j E=>by
  rcases A.2 with⟨rfl,_⟩|⟨g,U,V,rfl,h,_,_⟩
  ·simp[Value.ownBlock]at E
  ·obtain rfl:g=j:=by simpa [Value.ownBlock]using E
   exact h)
 refine⟨y.size,fun j V u Y r=>D.block j (Array.getElem?_eq_some_iff.1 r).1 (fun e=> ?_),fun j u Z=>(y.cell (p:=⟨5,j,none⟩) G).trans Z,fun j r o ho=>(y.block j r).trans ho⟩;rcases A.2 with⟨rfl,_⟩|⟨g,U,ab,rfl,_,aa,_⟩
 ·simp[Value.ownBlock]at e
 ·obtain rfl:j=g:=by simpa [Value.ownBlock]using e
  rw[aa]at r;cases r;rcases Y with h|h|h<;>exact absurd h (by decide)
theorem Vm{W:World}{base e size k:Nat}{v:Value}{xs:List Value}(h:W.ownsRow base e size v k xs):∃o r,v=.slice o k r:=by
 rcases h.2 with⟨rfl,rfl⟩|⟨g,t,y,rfl,_⟩
 ·exact⟨_,_,rfl⟩
 ·exact⟨_,_,rfl⟩
theorem Vf{X Y:World}{row:Option Nat}{B:Nat}{t:TypeId}{v:Value}(h:Boxed X B t v)(y:X.grownBy Y row)(A:∀r,row=some r->∃o:Obj,zH X r o/\o.isCells=false):Boxed Y B t v:=
 boxed_own (β:=Unit) B t (fun _=>v) () X Y row h y A
theorem z1K{a:zA}{l:List UInt8}(h:(a.toList == l)=true):a={data:=⟨l⟩}:=Classical.byContradiction fun o=>by rw[Jy o]at h;cases h
theorem Pg{a:zA}{l:List UInt8}(h:(a.toList == l)=false):a≠{data:=⟨l⟩}:=fun e=>by
 subst e;rw[ByteArray.toList_eq]at h;simp at h
theorem z9n{w:World}{base n:Nat}{v:Value}{T:zA}(h:w.ownsRow base 5 1 v n (Lib.strCells T)):(convert 185 9 v).run prog w=.ok (zT T) w:=by
 have e:Lib.strCells T=nv (T.data.toList.map UInt8.toNat):=by
  unfold Lib.strCells nv;rw[List.map_map];rfl
 rw[e]at h;rw[Bl h (fun x hx=>by
  obtain⟨y,_,rfl⟩:=List.mem_map.1 hx;exact y.toNat_lt)]
 congr 2;apply ByteArray.ext;unfold nb;rw[List.map_map,show(UInt8.ofNat ∘ UInt8.toNat)=id from funext fun x=>by simp,List.map_id]
def Fz(rs:List Rl):Value:=if 8192<sz (pR qT cT rs)then .tuple #[zT {data:=#[]},.iface 36 (zI 2)]else if 24<dR rs then .tuple #[zT {data:=#[]},.iface 36 (zI 20)]else .tuple #[zT (cat (pR qT cT rs)),.nilIface]
theorem Pb{rs:List Rl}(h:8192<sz (pR qT cT rs)):Fz rs=.tuple #[zT {data:=#[]},.iface 36 (zI 2)]:=if_pos h
theorem Ph{rs:List Rl}(h:sz (pR qT cT rs)<=8192)(o:24<dR rs):Fz rs=.tuple #[zT {data:=#[]},.iface 36 (zI 20)]:=(if_neg (by omega)).trans (if_pos o)
theorem Ej{rs:List Rl}(h:sz (pR qT cT rs)<=8192)(o:dR rs<=24):Fz rs=.tuple #[zT (cat (pR qT cT rs)),.nilIface]:=(if_neg (by omega)).trans (if_neg (by omega))
theorem z1L:∀{A B:List ByteArray},A<+:B->sz A<=sz B
 |[],B,_=>Nat.zero_le _
 |a::A,B,h=>by
  obtain⟨t,rfl⟩:=h;have:=z1L (A:=A) (B:=A++t) ⟨t,rfl⟩;rw[List.cons_append,sz,sz];omega
structure Tm (s:Nat) (ps:List ByteArray) (o m:Int) (W:World):Prop where
 out:∃v,Boxed W (s+1+1+1) 185 v/\W.ownsRow s 5 1 v (sz ps) (Lib.strCells (cat ps))/\True
 op:Boxed W (s+1+1+1+1) 3 (zI o)
 mo:Boxed W (s+1+1+1+1+1) 3 (zI m)
 rs:Boxed W (s+1) 9 (zT {data:=#[]})
 re:Boxed W (s+1+1) 30 .nilIface
structure Txs (s:Nat) (ps:List ByteArray) (W:World):Prop where
 tm:Tm s ps (cz ps (0,0)).1 (cz ps (0,0)).2 W
 le:sz ps<=8192
structure Txz (s:Nat) (ps:List ByteArray) (c:Code) (W:World):Prop where
 ret:c=.ret
 rs:Boxed W (s+1) 9 (zT {data:=#[]})
 re:Boxed W (s+1+1) 30 (.iface 36 (zI 2))
 gt:8192<sz ps
structure Rn (s:Nat) (W:World) (ps:List ByteArray) (o m:Int) (W':World):Prop where
 tm:Tm s ps o m W'
 ko:KeepsOthers W W'
 kt:Kt s W W'
 be:Below s W W'
theorem z9o(h:List ByteArray)(x:zA):cat (h++[x])=cat h++x:=by
 induction h with
 |nil=>apply ByteArray.ext;simp[cat]
 |cons p r ih=>rw[List.cons_append,cat,cat,ih,ByteArray.append_assoc]
theorem Mj(h:List ByteArray)(x:zA):sz (h++[x])=sz h+x.size:=by
 induction h with
 |nil=>simp[sz]
 |cons p r ih=>rw[List.cons_append,sz,sz,ih];omega
theorem Tm.start{s:Nat}{D:List ByteArray}{x:zA}{o m:Int}{W E:World}{v A:Value}(t:Tm s D o m W)(U:Boxed W (s+1+1+1) 185 v)(r:W.ownsRow s 5 1 v (sz D) (Lib.strCells (cat D)))(V:E.ownsRow s 5 1 A (sz D+x.size) (Lib.strCells (cat D)++Lib.strCells x))(y:W.grownBy E v.ownBlock)(hg:5<s)(Y:s<=W.heap.size):Rn s W (D++[x]) o m (E.setCell ⟨s+1+1+1,0,none⟩ A):=by
 have I:=U.kept y (U.not_row (by decide) r);have hB:Below s W E:=(Below.refl s W).grown y Y (fun j G=>by
  rcases r.2 with⟨rfl,_⟩|⟨g,aa,ab,rfl,h,_,_⟩
  ·simp[Value.ownBlock]at G
  ·obtain rfl:g=j:=by simpa [Value.ownBlock]using G
   exact h)
 refine⟨⟨⟨A,I.set A,?_,trivial⟩,(t.op.kept y (t.op.not_row (by decide) r)).other (by omega) _,(t.mo.kept y (t.mo.not_row (by decide) r)).other (by omega) _,(t.rs.kept y (t.rs.not_row (by decide) r)).other (by omega) _,(t.re.kept y (t.re.not_row (by decide) r)).other (by omega) _⟩,?_,(Kt.grown r y hg Y).trans (Kt.put I A (by decide) (by omega) (by omega)),hB.setCell (p:=⟨s+1+1+1,0,none⟩) (by show s<=s+1+1+1;omega) A⟩
 ·rw[Mj,z9o,z9m]
  exact V.kept (grownBy_setCell' E _ A) (.inr (I.not_row (by decide) V).symm)
 ·refine(KeepsOthers.of_grownBy y fun j o G Z=> ?_).trans (KeepsOthers.setCell _ _ _)
  rcases r.2 with⟨rfl,_⟩|⟨g,aa,ab,rfl,_,ac,_⟩
  ·simp[Value.ownBlock]at G
  ·obtain rfl:g=j:=by simpa [Value.ownBlock]using G
   rw[ac]at Z;cases Z;rfl
theorem Rn.setOp{s:Nat}{t:List ByteArray}{o m:Int}{W W':World}(h:Rn s W t o m W')(y:Int)(V:5<s):Rn s W t y m (W'.setCell ⟨s+1+1+1+1,0,none⟩ (zI y)):=by
 obtain⟨⟨⟨v,D,A,_⟩,r,mo,rs,E⟩,G,I,U⟩:=h;exact⟨⟨⟨v,D.other (by omega) _,A.kept (grownBy_setCell' _ _ _) (.inr (r.not_row (by decide) A).symm),trivial⟩,r.set _,mo.other (by omega) _,rs.other (by omega) _,E.other (by omega) _⟩,G.trans (KeepsOthers.setCell _ _ _),I.trans (Kt.put r _ (by decide) (by omega) (by omega)),U.setCell (p:=⟨s+1+1+1+1,0,none⟩) (by show s<=s+1+1+1+1;omega) _⟩
theorem Rn.setMo{s:Nat}{r:List ByteArray}{o m:Int}{W W':World}(h:Rn s W r o m W')(t:Int)(V:5<s):Rn s W r o t (W'.setCell ⟨s+1+1+1+1+1,0,none⟩ (zI t)):=by
 obtain⟨⟨⟨v,A,y,_⟩,D,mo,rs,E⟩,G,I,U⟩:=h;exact⟨⟨⟨v,A.other (by omega) _,y.kept (grownBy_setCell' _ _ _) (.inr (mo.not_row (by decide) y).symm),trivial⟩,D.other (by omega) _,mo.set _,rs.other (by omega) _,E.other (by omega) _⟩,G.trans (KeepsOthers.setCell _ _ _),I.trans (Kt.put mo _ (by decide) (by omega) (by omega)),U.setCell (p:=⟨s+1+1+1+1+1,0,none⟩) (by show s<=s+1+1+1+1+1;omega) _⟩
theorem z9p(s:Nat):Own (fun(t:List Pz) W=>Txs s (Zw t) W):=by
 intro t A B row h o r;exact⟨⟨holdsRow_own s (s+1+1+1) 185 5 1 (fun p:List Pz=>sz (Zw p)) (fun p=>Lib.strCells (cat (Zw p))) (fun _ _=>True) t A B row h.tm.out o r,Vf h.tm.op o r,Vf h.tm.mo o r,Vf h.tm.rs o r,Vf h.tm.re o r⟩,h.le⟩
theorem z9q(s:Nat)(c:Code):Own (fun(o:List Pz) W=>Txz s (Zw o) c W):=by
 intro o A B row h r t;exact⟨h.ret,Vf h.rs r t,Vf h.re r t,h.gt⟩
theorem z9r{rs:List Rl}(hx:∀x∈rs,Ruk Nmq x)(n A:Nat)(y:Option Addr)(W:World)(hr:RgV W.heap.size W y n rs)(hT:TabIs W):
  Calls prog 264 #[.agg #[.slice y n A]] W fun e W'=>e=.returned (Fz rs)/\zB W W':=by
 refine(callsIn_wide (n:=5)).1 ?_;have aB:=Xf;refine callsIn_of_wp_marks func264 rfl trivial ?_ rfl;simp only[ntmps264,List.size_toArray,List.length_cons,List.length_nil,Nat.reduceAdd,Nat.reduceSub,Array.replicate_succ,Array.replicate_zero,List.push_toArray,List.append_toArray,List.nil_append,List.cons_append]
 gi_wp2_with (refine⟨trivial,?_⟩;gi_at_call 283;refine(z9k _ (.slice none 0 0) _ _ _ _).mono ?_;rintro e w' ⟨rfl,rfl⟩)
 have ae:zB W (((((((W.alloc (.cells #[.slice y n A] 43)).alloc (.cells #[zT {data:=#[]}] 9)).alloc (.cells #[.nilIface] 30)).alloc (.cells #[.slice none 0 0] 185)).alloc (.cells #[zI 0] 3)).alloc (.cells #[zI 0] 3)).alloc (.cells #[.slice y n A] 43)):=
  (((((((Below.refl _ W).alloc L0q _).alloc (by simp) _).alloc (by simp;omega) _).alloc (by simp;omega) _).alloc (by simp;omega) _).alloc (by simp;omega) _).alloc (by simp;omega) _
 have b1:=Boxed.new (W.alloc (.cells #[.slice y n A] 43)) 9 (zT {data:=#[]});have b2:=Boxed.new ((W.alloc (.cells #[.slice y n A] 43)).alloc (.cells #[zT {data:=#[]}] 9)) 30 .nilIface;have b3:=Boxed.new (((W.alloc (.cells #[.slice y n A] 43)).alloc (.cells #[zT {data:=#[]}] 9)).alloc (.cells #[.nilIface] 30)) 185 (.slice none 0 0);have b4:=Boxed.new ((((W.alloc (.cells #[.slice y n A] 43)).alloc (.cells #[zT {data:=#[]}] 9)).alloc (.cells #[.nilIface] 30)).alloc (.cells #[.slice none 0 0] 185)) 3 (zI 0);have b5:=Boxed.new (((((W.alloc (.cells #[.slice y n A] 43)).alloc (.cells #[zT {data:=#[]}] 9)).alloc (.cells #[.nilIface] 30)).alloc (.cells #[.slice none 0 0] 185)).alloc (.cells #[zI 0] 3)) 3 (zI 0);have b6:=Boxed.new ((((((W.alloc (.cells #[.slice y n A] 43)).alloc (.cells #[zT {data:=#[]}] 9)).alloc (.cells #[.nilIface] 30)).alloc (.cells #[.slice none 0 0] 185)).alloc (.cells #[zI 0] 3)).alloc (.cells #[zI 0] 3)) 43 (.slice y n A);simp only[World.size_alloc]at b1 b2 b3 b4 b5 b6;have ai:=Kt.below (s0:=W.heap.size) ae;have ac:5<W.heap.size:=hT.lt;obtain⟨i0,ao,ap,aq,ar⟩:=info_parts Tryz.infoByte;refine wpIn_rangeFunc_ownF rfl (by omega) (gf:=294) (lb:=#[zP (W.heap.size+1+1+1+1+1+1) 0]) rfl trivial (enters_of func294 (by kernel_rfl) rfl)
  (z9j hx _ _ n A y _ b6 (ai.rules hr) (ai.tab hT)) Kt.trans (fun W' l o o' h1 h2 h3 h4=>Kt.book W' l o o' (Nat.le_trans ae.size h1) h2 h3) B0q (fun _=>rfl)
  (fun t W'=>Txs W.heap.size (Zw t) W'/\zB W W')
  (fun c t W'=>Txz W.heap.size (Zw t) c W'/\zB W W')
  (OwnFrom.and (Own.from (z9p _) _) (ownFrom_below L0q (by simp;omega)))
  (fun c=>OwnFrom.and (Own.from (z9q _ c) _) (ownFrom_below L0q (by simp;omega)))
  ⟨⟨⟨⟨_,((b3.alloc _).alloc _).alloc _,World.ownsRow_nil _ _ _ _,trivial⟩,(b4.alloc _).alloc _,b5.alloc _,((((b1.alloc _).alloc _).alloc _).alloc _).alloc _,(((b2.alloc _).alloc _).alloc _).alloc _⟩,by decide⟩,ae⟩
  (fun x=>{tmps:=#[.agg #[.slice y n A],zP W.heap.size 0,zP (W.heap.size+1) 0,zP (W.heap.size+1+1) 0,zP (W.heap.size+1+1+1) 0,zP (W.heap.size+1+1+1+1) 0,zP (W.heap.size+1+1+1+1+1) 0,zT x.1,.agg #[.slice y n A],.func (.func 294) #[] #[zP (W.heap.size+1+1+1+1+1+1) 0],zT x.1,undef,undef,undef,undef,undef,undef,undef,undef,undef,undef,undef,undef,undef,undef,undef,undef,undef,undef,undef,undef,undef,undef,undef,undef],defers:=[]}) ?assign ?Qm ?done ?stop
 case assign=>
  intro l x W K V
  gi_wp2
  exact V
 case Qm=>
  rintro l t x W2 ⟨⟨h,ad⟩,G⟩ aC;obtain⟨v,hv,E,_⟩:=h.out;have au:=hv.cell;have aD:=x.2;have aE:=Ex (Zw t) (0,0) (by decide)
  gi_wp2_with (gi_at_builtin;refine z9l _ rfl _ _ 185 9 rfl W.heap.size 5 i0 Tryz.underlying185 Tryz.underlying9 ao ap aq ar v _ _ rfl E x.1 rfl (by unfold maxLen;omega) (by omega) G.size ?_;intro v' w1 aj I;obtain⟨y,sc,rfl⟩:=Vm aj;have U:=Tm.start h hv E aj I ac G.size;have ak:=hv.kept I (hv.not_row (by decide) E);have aF:=ak.cell;have aG:=ak.frozen;have c4:=(h.op.kept I (h.op.not_row (by decide) E)).cell;have f4:=(h.op.kept I (h.op.not_row (by decide) E)).frozen;have c5:=(h.mo.kept I (h.mo.not_row (by decide) E)).cell;have f5:=(h.mo.kept I (h.mo.not_row (by decide) E)).frozen;have c2:=(h.re.kept I (h.re.not_row (by decide) E)).cell;have f2:=(h.re.kept I (h.re.not_row (by decide) E)).frozen;have c1:=(h.rs.kept I (h.rs.not_row (by decide) E)).cell;have f1:=(h.rs.kept I (h.rs.not_row (by decide) E)).frozen)
  ·rename_i al
   refine⟨(U.ko.trans (KeepsOthers.setCell _ _ _)).trans (KeepsOthers.setCell _ _ _),⟨rfl,(U.tm.rs.set _).other (by omega) _,(U.tm.re.other (by omega) _).set _,?_⟩,((G.trans U.be).setCell (p:=⟨W.heap.size+1,0,none⟩) (by simp) _).setCell (p:=⟨W.heap.size+1+1,0,none⟩) (by show W.heap.size<=_+1+1;omega) _⟩;rw[Uq];show 8192<sz (Zw t++[x.1]);rw[Mj];omega
  ·rename_i am aa
   have ab:x.1=bO:=z1K aa;have e1:cz (Zw (t++[x])) (0,0)=((cz (Zw t) (0,0)).1+1,max (cz (Zw t) (0,0)).2 ((cz (Zw t) (0,0)).1+1)):=by
    rw[Uq];exact(Py _ _ _).trans (if_pos ab)
   have Y:=(U.setOp ((cz (Zw t) (0,0)).1+1) ac).setMo (max (cz (Zw t) (0,0)).2 ((cz (Zw t) (0,0)).1+1)) ac;exact⟨Y.ko,Y.kt,⟨by rw[e1,Uq];exact Y.tm,by rw[Uq];show sz (Zw t++[x.1])<=8192;rw[Mj];omega⟩,G.trans Y.be⟩
  ·rename_i am aa af
   have ab:x.1≠bO:=Pg aa;have ag:x.1=bC:=z1K af;have e1:cz (Zw (t++[x])) (0,0)=((cz (Zw t) (0,0)).1-1,(cz (Zw t) (0,0)).2):=by
    rw[Uq];exact(Py _ _ _).trans ((if_neg ab).trans (if_pos ag))
   have Y:=U.setOp ((cz (Zw t) (0,0)).1-1) ac;exact⟨Y.ko,Y.kt,⟨by rw[e1,Uq];exact Y.tm,by rw[Uq];show sz (Zw t++[x.1])<=8192;rw[Mj];omega⟩,G.trans Y.be⟩
  ·rename_i am aa af
   have ab:x.1≠bO:=Pg aa;have ag:x.1≠bC:=Pg af;have e1:cz (Zw (t++[x])) (0,0)=cz (Zw t) (0,0):=by
    rw[Uq];exact(Py _ _ _).trans ((if_neg ab).trans (if_neg ag))
   exact⟨U.ko,U.kt,⟨by rw[e1,Uq];exact U.tm,by rw[Uq];show sz (Zw t++[x.1])<=8192;rw[Mj];omega⟩,G.trans U.be⟩
 case done=>
  rintro D ys W2 hD av ⟨⟨h,ad⟩,G⟩ V;rw[av]at h ad;obtain⟨v,hv,E,_⟩:=h.out;have au:=hv.cell;have c1:=h.rs.cell;have f1:=h.rs.frozen;have c2:=h.re.cell;have f2:=h.re.frozen;have c5:=h.mo.cell;have cv:=z9n E;have aw:(cz (pR qT cT rs) (0,0)).2=(dR rs:Int):=by
   rw[z1J z1E rs (fun x ax=>hx x ax) 0 (by decide)];show max (0:Int) (dR rs:Int)=_;omega
  rw[aw]at c5
  gi_wp2
  ·rename_i ay
   have ah:24<dR rs:=by omega
   rw[Ph ad ah];have Z:=((KeepsOthers.setCell W2 ⟨W.heap.size+1,0,none⟩ (zT {data:=#[]})).trans (KeepsOthers.setCell _ ⟨W.heap.size+1+1,0,none⟩ (.iface 36 (zI 20)))).same D _ V rfl;refine⟨by simp,.inl ⟨_,_,rfl,run_takeDeferred Z,?_⟩⟩;have hg:=grownBy_putObj' ((W2.setCell ⟨W.heap.size+1,0,none⟩ (zT {data:=#[]})).setCell ⟨W.heap.size+1+1,0,none⟩ (.iface 36 (zI 20))) D (.deferred none);have d1:=(Vf ((h.rs.set (zT {data:=#[]})).other (B':=W.heap.size+1+1) (by omega) (.iface 36 (zI 20))) hg (fun r e=>by cases e;exact⟨_,Z,rfl⟩)).cell;have d2:=(Vf ((h.re.other (B':=W.heap.size+1) (by omega) (zT {data:=#[]})).set (.iface 36 (zI 20))) hg (fun r e=>by cases e;exact⟨_,Z,rfl⟩)).cell;refine⟨.tuple #[zT {data:=#[]},.iface 36 (zI 20)],?_,rfl,((G.setCell (p:=⟨W.heap.size+1,0,none⟩) (by simp) _).setCell (p:=⟨W.heap.size+1+1,0,none⟩) (by show W.heap.size<=_+1+1;omega) _).trans (belowK_b (w:=W) L0q _ D _ _ (by simp at hD;omega) Z rfl rfl)⟩;simp[results,Tryz.f264,go_sem,d1,d2]
  ·rename_i ay
   have ah:dR rs<=24:=by omega
   rw[Ej ad ah];have Z:=((KeepsOthers.setCell W2 ⟨W.heap.size+1,0,none⟩ (zT (cat (pR qT cT rs)))).trans (KeepsOthers.setCell _ ⟨W.heap.size+1+1,0,none⟩ .nilIface)).same D _ V rfl;refine⟨by simp,.inl ⟨_,_,rfl,run_takeDeferred Z,?_⟩⟩;have hg:=grownBy_putObj' ((W2.setCell ⟨W.heap.size+1,0,none⟩ (zT (cat (pR qT cT rs)))).setCell ⟨W.heap.size+1+1,0,none⟩ .nilIface) D (.deferred none);have d1:=(Vf ((h.rs.set (zT (cat (pR qT cT rs)))).other (B':=W.heap.size+1+1) (by omega) .nilIface) hg (fun r e=>by cases e;exact⟨_,Z,rfl⟩)).cell;have d2:=(Vf ((h.re.other (B':=W.heap.size+1) (by omega) (zT (cat (pR qT cT rs)))).set .nilIface) hg (fun r e=>by cases e;exact⟨_,Z,rfl⟩)).cell;refine⟨.tuple #[zT (cat (pR qT cT rs)),.nilIface],?_,rfl,((G.setCell (p:=⟨W.heap.size+1,0,none⟩) (by simp) _).setCell (p:=⟨W.heap.size+1+1,0,none⟩) (by show W.heap.size<=_+1+1;omega) _).trans (belowK_b (w:=W) L0q _ D _ _ (by simp at hD;omega) Z rfl rfl)⟩;simp[results,Tryz.f264,go_sem,d1,d2]
 case stop=>
  rintro D c t W2 hD az ⟨⟨rfl,bs,be,al⟩,G⟩ V;have aA:8192<sz (pR qT cT rs):=Nat.lt_of_lt_of_le al (z1L az)
  gi_wp2
  rw[Pb aA];refine⟨by simp,.inl ⟨_,_,rfl,run_takeDeferred V,?_⟩⟩;have hg:=grownBy_putObj' W2 D (.deferred none);have d1:=(Vf bs hg (fun r e=>by cases e;exact⟨_,V,rfl⟩)).cell;have d2:=(Vf be hg (fun r e=>by cases e;exact⟨_,V,rfl⟩)).cell;refine⟨.tuple #[zT {data:=#[]},.iface 36 (zI 2)],?_,rfl,G.trans (belowK_b (w:=W) L0q _ D _ _ (by simp at hD;omega) V rfl rfl)⟩;simp[results,Tryz.f264,go_sem,d1,d2]
end Go.Proofs.YtgnkkgcgbeianaaGreatDoor
