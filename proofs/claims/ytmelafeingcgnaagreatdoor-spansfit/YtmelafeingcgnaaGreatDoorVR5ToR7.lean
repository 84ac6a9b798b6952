/- Lemmas for the last text. Conditions: those that each names. -/
import Derived.Test.YtmelafeingcgnaaGreatDoorVX19ToR4
import Derived.Test.YtmelafeingcgnaaGreatDoorVY15ToX17
import Derived.Lib.AppendStr
import Derived.RangeFuncBox
import Derived.RangeFuncFrom
set_option linter.unusedVariables false
set_option maxRecDepth 100000
set_option maxHeartbeats 8000000
namespace Go.Proofs.YtmelafeingcgnaaGreatDoor
open Go.Proofs.Tryz
section
open Go.RowKit Go.Shelf
abbrev qT:zA->ByteArray:=fun T=>nb (qt T)
abbrev cT:Nat->ByteArray:=fun C=>nb (txt C)
abbrev Nmq:zA->Prop:=fun T=>nmS T=true
theorem z9n{T:zA}(h:T.size<=255):(nb (qt T)).size<=4096:=by
 rw[Uc];unfold qt;have:=(Cp T T.size).1;rw[List.length_append];show _+1<=_;omega
theorem z9o(C:Nat):(nb (txt C)).size<=4096:=by
 rw[Uc];have h:=Oh (rs C 256).reverse;have o:=Nh C 256;unfold txt;simp at h ⊢;omega
theorem z1J:Pcz (fun T=>nmS T=true) (fun T=>nb (qt T)) (fun C=>nb (txt C)) where
 nm:=fun T h=>by
  unfold nmS at h;cases hb:bt T 0 with
  |none=>rw[hb]at h;cases h
  |some x=>
   rw[hb]at h;simp at h;exact⟨h.1.1,x,rfl,h.1.2⟩
 qt:=fun T _=>by
  obtain⟨r,o⟩:=z1z T _ 0 rfl (Nat.zero_le _);rw[z1y _ (z1o T),o];rfl
 ct:=fun C _=>by rw[z1y _ (z1x C)];rfl
theorem Ej{T:zA}(h:nmS T=true):T.size<=4096:=by
 have:=(z1J.nm T h).1;omega
section
variable {s0 l N:Nat} {J Jx:List ByteArray->World->Prop}
theorem z1K(y:Yl s0 l N J Jx):∀(M:Nat) (n:Nd),SizeOf.sizeOf n<M->Vk n->Wf Nmq n->YN s0 l N J Jx qT cT n
 |0,n,h,_,_=>by omega
 |M+1,.mk kd T C s pn,hM,hv,hw=>by
  have ag:=hv;have ad:=hv.kd;rw[Vk]at hv;rw[Wf]at hw;obtain⟨ab,ac⟩:=hv;obtain⟨w2,w5,wc,ws⟩:=hw;have ae:∀m∈s,Wf Nmq m:=by
   clear hM ab ac ad ag
   induction s with
   |nil=>intro m U;simp at U
   |cons a r ih=>
    rw[WfL]at ws;intro m U;rcases List.mem_cons.1 U with rfl|U
    ·exact ws.1
    ·exact ih ws.2 m U
  have ih:∀m∈s,YN s0 l N J Jx qT cT m/\1<=m.kd/\m.kd<=12:=fun m U=>by
   have h3:=List.sizeOf_lt_of_mem U;simp only[Nd.mk.sizeOf_spec]at hM;exact⟨z1K y M m (by omega) (ac.mem m U) (ae m U),(ac.mem m U).kd⟩
  have ah:6<=kd->s.isEmpty=false:=fun h6=>by
   have:0<s.length:=by
    rcases ab with q|q|q|q|q|q|q<;>omega
   cases s with
   |nil=>simp at this
   |cons _ _=>rfl
  have al:8<=kd->s.length=1:=fun h8=>by
   rcases ab with q|q|q|q|q|q|q<;>omega
  intro m cs o W hn hT G hl;have am:1<=kd:=ad.1;have ai:kd<=12:=ad.2;have af:=hn;obtain⟨A,D,E,p,rfl⟩:=z1F hn;have V:∀(Y:zA),Y.size<=4096->6<=kd->∀(aa:List ByteArray),aa.length+(pS qT cT kd Y s).length<=N->∀Z,Kt s0 W Z->J aa Z->CallsIn Fence.wide (m-1) prog 313 #[.agg (v8 kd T C (.slice A D E) p).toArray,zT Y,.func (.yield l) #[] #[]] Z (Yp s0 J Jx aa (pS qT cT kd Y s) Z):=fun Y hz h6 aa aj Z hk ak=>
   z9a y (ah h6) ih Y hz (m-1) _ aa Z h6 ai (hk.node af) (hk.tab hT) ak aj
  rw[pN]at hl ⊢;have hc:kd=1∨kd=2∨kd=3∨kd=4∨kd=5∨kd=6∨kd=7∨kd=8∨kd=9∨kd=10∨kd=11∨kd=12:=by omega
  clear hn af ih ac ae ws hM ab;rcases hc with rfl|rfl|rfl|rfl|rfl|rfl|rfl|rfl|rfl|rfl|rfl|rfl
  ·exact z9b y m T C p A D E o W G hl
  ·exact z9e y m T C p A D E o W (w2 rfl) (z9n (w2 rfl)) G hl
  ·exact z9f y m T C p A D E o W wc (z9o C) hT G hl
  ·exact z9c y m T C p A D E o W G hl
  ·exact z9d y m T C p A D E o W (Ej (w5 rfl)) G hl
  ·exact z9g y m T C p A D E o W _ (V bSp (by decide) (by decide) o hl) G
  ·exact z9h y m T C p A D E o W _ (V bSl (by decide) (by decide) o hl) G
  ·exact z9k y m T C p A D E o W _ (V bE (by decide) (by decide) o (by simp at hl;omega)) G (by simp at hl;omega)
  ·exact z9l y m T C p A D E o W _ (V bE (by decide) (by decide) o (by simp at hl;omega)) G (by simp at hl;omega)
  ·exact z9m y m T C p A D E o W _ (V bE (by decide) (by decide) o (by simp at hl;omega)) G (by simp at hl;omega)
  ·exact z9i y m T C p A D E o W _ (V bE (by decide) (by decide) (o++[bsg 11]) (by simp at hl ⊢;omega)) G (by simp at hl;omega)
  ·exact z9j y m T C p A D E o W _ (V bE (by decide) (by decide) (o++[bsg 12]) (by simp at hl ⊢;omega)) G (by simp at hl;omega)
end
end
open Go.RowKit
theorem RoR.len{B n r:Nat}{y:Option Addr}{rs:List Rl}{W:World}(h:RoR B (.slice y n r) rs W):n=rs.length:=by
 obtain⟨xs,A,_⟩:=h;obtain⟨hl,⟨o,hx⟩|⟨D,E,G,o,_⟩⟩:=A
 ·injection o with _ h2 _
  rw[hx]at hl;simp at hl;omega
 ·injection o
theorem RoR.lt{B g n o:Nat}{rs:List Rl}{W:World}(h:RoR B (zS g n o) rs W):g<W.heap.size:=by
 obtain⟨xs,r,_⟩:=h;exact(r.lt g rfl).2
section
open Go.Shelf
attribute [local go_sem] Oper.semAt_some
theorem Kt.ten{s0:Nat}{W W':World}(h:Kt s0 W W'){g:Nat}{o:Array Value}(r:zH W g (.cells o 121)):zH W' g (.cells o 121):=
 (h.2.1 g _ _ (.inr (.inl rfl)) r).trans r
theorem Kt.gram{s0:Nat}{W W':World}(h:Kt s0 W W'){g:Nat}{o:Array Value}(r:zH W g (.cells o 51)):zH W' g (.cells o 51):=
 (h.2.1 g _ _ (.inr (.inr rfl)) r).trans r
def Rv(s0:Nat)(W:World)(g o:Nat)(x:Rl):Prop:=∃kd T C so sl sc p q,
 NdV s0 W x.2.1 (v8 kd T C (.slice so sl sc) p)/\W.cell? ⟨g,o,none⟩=some (zT x.1)/\W.cell? ⟨g,o+1,none⟩=some (zI (kd:Int))/\W.cell? ⟨g,o+2,none⟩=some (zT T)/\W.cell? ⟨g,o+3,none⟩=some (zU (wd C 0:Nat))/\W.cell? ⟨g,o+4,none⟩=some (zU (wd C 1:Nat))/\W.cell? ⟨g,o+5,none⟩=some (zU (wd C 2:Nat))/\W.cell? ⟨g,o+6,none⟩=some (zU (wd C 3:Nat))/\W.cell? ⟨g,o+7,none⟩=some (.slice so sl sc)/\W.cell? ⟨g,o+8,none⟩=some (zI p)/\W.cell? ⟨g,o+9,none⟩=some (zI q)
def RgV(s0:Nat)(W:World)(so:Option Addr)(n:Nat)(rs:List Rl):Prop:=n=rs.length/\n<=maxLen/\∀j (hj:j<rs.length),∃g o,so=some ⟨g,o,none⟩/\g<s0/\Rv s0 W g (o+j*10) rs[j]
theorem Kt.rules{s0:Nat}{W W':World}(h:Kt s0 W W'){y:Option Addr}{n:Nat}{rs:List Rl}(A:RgV s0 W y n rs):RgV s0 W' y n rs:=
 ⟨A.1,A.2.1,fun j D=>by
   obtain⟨g,o,E,r,kd,T,C,y,G,U,p,q,V,Y,Z,z2,z3,z4,z5,z6,z7,z8,z9⟩:=A.2.2 j D;exact⟨g,o,E,r,kd,T,C,y,G,U,p,q,h.node V,h.cell r Y,h.cell r Z,h.cell r z2,h.cell r z3,h.cell r z4,h.cell r z5,h.cell r z6,h.cell r z7,h.cell r z8,h.cell r z9⟩⟩
theorem Ol(QT:zA->ByteArray)(CT:Nat->ByteArray):∀(a b:List Rl),pR QT CT (a++b)=pR QT CT a++pR QT CT b
 |[],b=>rfl
 |x::r,b=>by rw[List.cons_append,pR,pR,Ol QT CT r b];simp
theorem z9p(QT:zA->ByteArray)(CT:Nat->ByteArray)(rs:List Rl)(j:Nat)(h:j<rs.length):pR QT CT (rs.take (j+1))=pR QT CT (rs.take j)++(rs[j].1::bAr::(pN QT CT rs[j].2.1++[bNl])):=by
 rw[show rs.take (j+1)=rs.take j++[rs[j]] by simp,Ol,pR,pR]
theorem z9q(QT:zA->ByteArray)(CT:Nat->ByteArray)(rs:List Rl)(j:Nat):∃r,pR QT CT rs=pR QT CT (rs.take j)++r:=by
 refine⟨pR QT CT (rs.drop j),?_⟩;rw[<-Ol,List.take_append_drop]
section
variable {s0 l N:Nat} {J Jx:List ByteArray->World->Prop}
theorem z9r(hY:Yl s0 l N J Jx){rs:List Rl}(hx:∀x∈rs,Ruk Nmq x)(m Bt n aG:Nat)(ar:Option Addr)(W:World)(hb:zH W Bt (.cells #[.slice ar n aG] 51))(y:RgV s0 W ar n rs)(hT:TabIs W)(hJ:J [] W)(hl:(pR qT cT rs).length<=N):
  CallsIn Fence.wide m prog 304 #[.func (.yield l) #[] #[],zP Bt 0] W fun e W'=>(∃v,e=.returned v)/\(J (pR qT cT rs) W'∨∃q,q<+:pR qT cT rs/\Jx q W'):=by
 have aa:=Xw;have au:Hid (n=rs.length):=y.1;have aS:n<=9223372036854775807:=by have:=y.2.1;unfold maxLen at this;omega
 have HX:=hid hx;have aH:=hid y;have HT:=hid hT;have Y:Hid (Yl s0 l N J Jx):=hY;have aI:=hid hJ;have HL:=hid hl;obtain⟨b0,_⟩:=Qy hb;clear hx y hT hY hJ hl hb;refine callsIn_of_wp func304 rfl trivial ?_ rfl;simp only[ntmps304,List.size_toArray,List.length_cons,List.length_nil,Nat.reduceAdd,Nat.reduceSub,Array.replicate_succ,Array.replicate_zero,List.push_toArray,List.append_toArray,List.nil_append,List.cons_append]
 gi_wp2
 gi_loopw [8] (fun i wr=>∃j:Nat,i=zI (j:Int)/\j<=n/\Hid (J (pR qT cT (rs.take j)) wr)/\Hid (Kt s0 W wr)) (fun i _=>n-(intOf i).toNat)
 case atStart=>exact⟨0,rfl,Nat.zero_le _,by rw[List.take_zero,pR];exact aI,hid (Kt.refl _)⟩
 case round=>
  obtain⟨j,rfl,hj,ab,aj⟩:=hrel;clear b0;by_cases hjn:j<n
  ·have aT:(j:Int)<(n:Int):=by omega
   have a0:decide ((j:Int)<(n:Int))=true:=by simp;omega
   have ak:j<rs.length:=by rw[<-au.out];exact hjn
   obtain⟨g,o,rfl,hg,kd,T,C,so,sl,sc,p,q0,nd,z0,z1,z2,z3,z4,z5,z6,z7,z8,z9⟩:=(aj.out.rules aH.out).2.2 j ak;obtain⟨xn,xv,xw⟩:=HX.out rs[j] (List.getElem_mem ak);have al:=z9p qT cT rs j ak;obtain⟨rr,am⟩:=z9q qT cT rs (j+1);have aU:g<wr.heap.size:=World.block_lt_of_cell? wr _ z0;have ao:(pR qT cT (rs.take j)).length+((pN qT cT rs[j].2.1).length+3)<=N:=by
    have h1:=HL.out;rw[am,al]at h1;simp only[List.length_append,List.length_cons,List.length_nil]at h1;omega
   have av:=hid am;have Z:=hid al;obtain⟨A,aw⟩:∃A,A=pR qT cT (rs.take j):=⟨_,rfl⟩;rw[<-aw]at ab Z ao;obtain⟨G,ac⟩:∃G,G=pN qT cT rs[j].2.1:=⟨_,rfl⟩;have ax:=hid (z1K Y.out _ rs[j].2.1 (Nat.lt_succ_self _) xv xw);have ay:=hid nd;obtain⟨N0,az⟩:∃N0,N0=rs[j].1:=⟨_,rfl⟩;rw[<-az]at z0 Z xn;rw[<-ac]at Z ao;have K2:=hid (Kt.alloc (s0:=s0) wr (.cells #[zT N0,zI (kd:Int),zT T,zU (wd C 0:Nat),zU (wd C 1:Nat),zU (wd C 2:Nat),zU (wd C 3:Nat),.slice so sl sc,zI p,zI q0] 121));have B2:Hid ((wr.alloc (.cells #[zT N0,zI (kd:Int),zT T,zU (wd C 0:Nat),zU (wd C 1:Nat),zU (wd C 2:Nat),zU (wd C 3:Nat),.slice so sl sc,zI p,zI q0] 121)).heap[wr.heap.size]? =some (.cells #[zT N0,zI (kd:Int),zT T,zU (wd C 0:Nat),zU (wd C 1:Nat),zU (wd C 2:Nat),zU (wd C 3:Nat),.slice so sl sc,zI p,zI q0] 121)):=Qx wr _ rfl;have aA:=hid (Y.out.call (m-1) A N0 (wr.alloc (.cells #[zT N0,zI (kd:Int),zT T,zU (wd C 0:Nat),zU (wd C 1:Nat),zU (wd C 2:Nat),zU (wd C 3:Nat),.slice so sl sc,zI p,zI q0] 121)) (Y.out.alloc ab.out _) (by omega) (Ej xn));have ap:=hid (fun(W2:World) (ad:J (A++[N0]) W2)=>Y.out.call (m-1) _ bAr W2 ad (by simp;omega) (by decide));have V:=hid (fun(W3:World) (ae:J (A++[N0]++[bAr]) W3) (hk:Kt s0 wr W3)=>ax.out (m-1) _ (A++[N0]++[bAr]) W3 (hk.node ay.out) ((aj.out.trans hk).tab HT.out) ae (by rw[<-ac];simp;omega));have af:=hid (fun(W4:World) (ag:J (A++[N0]++[bAr]++G) W4)=>Y.out.call (m-1) _ bNl W4 ag (by simp;omega) (by decide));rw[<-ac]at V;have ah:Hid (∀q,q<+:(N0::bAr::(G++[bNl]))->A++q<+:pR qT cT rs):=fun q hq=>by
    obtain⟨r,y⟩:=hq;exact⟨r++rr,by rw[av.out,Z.out,<-y];simp⟩
   clear al am ao nd xv xw xn aw ac az ax ay av;dsimp only[v8]at V;obtain⟨fn,aB,aC,Qm,U,D⟩:=aA.out;have E:=hid D;clear D aA
   gi_wp2
   refine⟨aa _,E.out.mono ?_⟩;clear E U z0 z1 z2 z3 z4 z5 z6 z7 z8 z9;rintro e W2 (⟨rfl,ad,aq⟩|⟨rfl,aJ⟩)
   ·obtain⟨fn,aB,aC,Qm,U,D⟩:=ap.out W2 ad
    have E:=hid D;have aD:=hid (K2.out.trans aq);have aK:=hid (aq.ten B2.out);clear D ap ad aq;unfold bAr at U
    gi_wp2
    refine⟨aa _,E.out.mono ?_⟩;clear E U;rintro e W3 (⟨rfl,ae,ai⟩|⟨rfl,aL⟩)
    ·obtain⟨⟨c0,c1,c2,c3,c4,c5,c6,c7,c8,c9⟩,_⟩:=Gy (ai.ten aK.out)
     have HN:=hid (V.out W3 ae (aD.out.trans ai));have aM:=hid (aD.out.trans ai);clear V ae ai
     gi_wp2
     refine⟨trivial,aa _,HN.out.mono ?_⟩;clear HN c0 c1 c2 c3 c4 c5 c6 c7 c8 c9;rintro e W4 (⟨rfl,ag,aE⟩|⟨rfl,q,hq,aN⟩)
     ·obtain⟨fn,aB,aC,Qm,U,D⟩:=af.out W4 ag
      have E:=hid D;have aO:=hid (aM.out.trans aE);clear D af ag aE;unfold bNl at U
      gi_wp2
      refine⟨aa _,E.out.mono ?_⟩;clear E U;rintro e W5 (⟨rfl,aP,aQ⟩|⟨rfl,aR⟩)
      ·gi_wp2
       go_roundw
       case rel=>exact⟨j+1,by go_num,by omega,hid (by rw[Z.out];simpa [List.append_assoc]using aP),hid ((aj.out.trans aO.out).trans aQ)⟩
       case measure=>simp[intOf];omega
      ·gi_wp2
       refine bodyPost_ret (v:=.tuple #[]) (by simp[results,Tryz.results304]) rfl ?_;exact⟨⟨_,rfl⟩,.inr ⟨_,ah.out (N0::bAr::(G++[bNl])) (List.prefix_refl _),by simpa [List.append_assoc]using aR⟩⟩
     ·gi_wp2
      refine⟨fun _ h=>(by cases h),?_⟩
      gi_wp2
      refine bodyPost_ret (v:=.tuple #[]) (by simp[results,Tryz.results304]) rfl ?_;obtain⟨r,y⟩:=hq;exact⟨⟨_,rfl⟩,.inr ⟨_,ah.out (N0::bAr::q) ⟨r++[bNl],by rw[<-y];simp⟩,by simpa [List.append_assoc]using aN⟩⟩
    ·clear V af
     gi_wp2
     refine⟨trivial,?_⟩
     gi_wp2
     refine⟨fun _ h=>(by cases h),?_⟩
     gi_wp2
     refine bodyPost_ret (v:=.tuple #[]) (by simp[results,Tryz.results304]) rfl ?_;exact⟨⟨_,rfl⟩,.inr ⟨_,ah.out [N0,bAr] ⟨G++[bNl],rfl⟩,by simpa [List.append_assoc]using aL⟩⟩
   ·clear V af ap
    gi_wp2
    refine⟨fun _ h=>(by cases h),?_⟩
    gi_wp2
    refine⟨trivial,?_⟩
    gi_wp2
    refine⟨fun _ h=>(by cases h),?_⟩
    gi_wp2
    refine bodyPost_ret (v:=.tuple #[]) (by simp[results,Tryz.results304]) rfl ?_;exact⟨⟨_,rfl⟩,.inr ⟨_,ah.out [N0] ⟨bAr::(G++[bNl]),rfl⟩,aJ⟩⟩
  ·have a0:decide ((j:Int)<(n:Int))=false:=by simp;omega
   have aF:rs.take j=rs:=List.take_of_length_le (by rw[<-au.out];omega);rw[aF]at ab;clear aF
   gi_wp2
   go_end0
   exact⟨⟨_,rfl⟩,.inl ab.out⟩
end
end
section
section
variable {Nm:ByteArray->Prop} {QT:ByteArray->ByteArray} {CT:Nat->ByteArray}
def cz:List ByteArray->Int×Int->Int×Int
 |[],st=>st
 |p::r,st=>cz r (if p=bO then(st.1+1,max st.2 (st.1+1))else if p=bC then(st.1-1,st.2)else st)
theorem Fh:∀(A B:List ByteArray) (h:Int×Int),cz (A++B) h=cz B (cz A h)
 |[],B,h=>rfl
 |p::r,B,h=>by rw[List.cons_append,cz,cz,Fh r B]
theorem Fd{p:zA}(o:p≠bO)(y:p≠bC)(r:List ByteArray)(h:Int×Int):cz (p::r) h=cz r h:=by rw[cz,if_neg o,if_neg y]
def CZ(QT:zA->ByteArray)(CT:Nat->ByteArray)(n:Nd):Prop:=∀o m:Int,o<=m->cz (pN QT CT n) (o,m)=(o,max m (o+(dN n:Int)))
theorem z1L(r:Nat){n:Nd}(h:CZ QT CT n)(o m:Int)(y:o<=m):cz (pP QT CT r n) (o,m)=(o,max m (o+(dP r n:Int))):=by
 unfold pP dP;split
 ·rw[cz,if_pos rfl,Fh,h _ _ (by show o+1<=max m (o+1);omega),cz,if_neg z1B,if_pos rfl,cz]
  simp only;refine Prod.ext ?_ ?_
  ·show o+1-1=o
   omega
  ·show max (max m (o+1)) (o+1+(dN n:Int))=max m (o+((dN n+1:Nat):Int))
   omega
 ·exact h o m y
theorem z1M(h:Nat)(y:zA)(A:y≠bO)(D:y≠bC):∀(s:List Nd),(∀m∈s,CZ QT CT m)->∀o m:Int,o<=m->cz (pB QT CT h y s) (o,m)=(o,max m (o+(dS h s:Int)))
 |[],_,o,m,hm=>by
  rw[Od,cz,dS];congr 1;omega
 |n::r,hn,o,m,hm=>by
  rw[Fb,Fd A D,Fh,z1L h (hn n (by simp)) o m hm,z1M h y A D r (fun x hx=>hn x (by simp[hx])) _ _ (by omega),Oy];congr 1;omega
theorem Ew(h:Nat)(y:zA)(A:y≠bO)(D:y≠bC):∀(s:List Nd),(∀m∈s,CZ QT CT m)->∀o m:Int,o<=m->cz (pS QT CT h y s) (o,m)=(o,max m (o+(dS h s:Int)))
 |[],_,o,m,hm=>by
  rw[pS,cz,dS];congr 1;omega
 |n::r,hn,o,m,hm=>by
  rw[Fg,Fh,z1L h (hn n (by simp)) o m hm,z1M h y A D r (fun x hx=>hn x (by simp[hx])) _ _ (by omega),Oy];congr 1;omega
theorem z1N(U:Pcz Nm QT CT):∀(N:Nat) (n:Nd),SizeOf.sizeOf n<N->Vk n->Wf Nm n->CZ QT CT n
 |0,n,h,_,_=>by omega
 |N+1,.mk kd T C s p,hN,hv,hw=>by
  have aa:=hv.kd;rw[Vk]at hv;rw[Wf]at hw;obtain⟨ab,ac⟩:=hv;obtain⟨w2,w5,wc,Y⟩:=hw;have ad:∀m∈s,Wf Nm m:=by
   clear hN ab ac aa
   induction s with
   |nil=>intro m A;simp at A
   |cons a r D=>
    rw[WfL]at Y;intro m A;rcases List.mem_cons.1 A with rfl|A
    ·exact Y.1
    ·exact D Y.2 m A
  have D:∀m∈s,CZ QT CT m:=fun m A=>by
   have Z:=List.sizeOf_lt_of_mem A;simp only[Nd.mk.sizeOf_spec]at hN;exact z1N U N m (by omega) (ac.mem m A) (ad m A)
  intro o m A;have af:1<=kd:=aa.1;have ae:kd<=5->s=[]:=fun E=>by
   rcases ab with q|q|q|q|q|q|q
   ·exact q.2.2.2
   ·exact q.2.2
   ·exact q.2.2
   ·exact q.2.2.2
   ·exact q.2.2
   ·omega
   ·omega
  rw[pN,dN];by_cases h1:kd=1
  ·rw[if_pos h1,if_pos h1,cz,if_pos rfl,cz,if_neg z1B,if_pos rfl,cz]
   simp only;refine Prod.ext ?_ ?_
   ·show o+1-1=o
    omega
   ·show max m (o+1)=max m (o+((1:Nat):Int))
    omega
  ·rw[if_neg h1,if_neg h1]
   have V:∀(P:zA),kd<=5->P≠bO->P≠bC->cz [P] (o,m)=(o,max m (o+(dS kd s:Int))):=fun P E a b=>by
    rw[ae E,dS,Fd a b,cz];congr 1;omega
   by_cases h2:kd=2
   ·rw[if_pos h2]
    have G:=U.qt T (w2 h2);exact V _ (by omega) (Zc G (y:=40) rfl (by decide)) (Zc G (y:=41) rfl (by decide))
   ·rw[if_neg h2]
    by_cases Z:kd=3
    ·rw[if_pos Z]
     have G:=U.ct C wc;exact V _ (by omega) (Zc G (y:=40) rfl (by decide)) (Zc G (y:=41) rfl (by decide))
    ·rw[if_neg Z]
     by_cases h4:kd=4
     ·rw[if_pos h4]
      exact V _ (by omega) (Zc (x:=46) (y:=40) rfl rfl (by decide)) (Zc (x:=46) (y:=41) rfl rfl (by decide))
     ·rw[if_neg h4]
      by_cases E:kd=5
      ·rw[if_pos E]
       have:=z1E U (w5 E);exact V _ (by omega) this.1 this.2
      ·rw[if_neg E]
       by_cases h6:kd=6
       ·rw[if_pos h6,h6]
        exact Ew 6 bSp z1C.1 z1C.2 s D o m A
       ·rw[if_neg h6]
        by_cases h7:kd=7
        ·rw[if_pos h7,h7]
         exact Ew 7 bSl z1D.1 z1D.2 s D o m A
        ·rw[if_neg h7]
         split
         ·rw[Fd (Eq kd).1 (Eq kd).2]
          exact Ew kd bE Ex.1 Ex.2 s D o m A
         ·rw[Fh,Ew kd bE Ex.1 Ex.2 s D o m A,Fd (Eq kd).1 (Eq kd).2,cz]
theorem z1O(h:Pcz Nm QT CT):∀(rs:List Rl),(∀x∈rs,Ruk Nm x)->∀m:Int,0<=m->cz (pR QT CT rs) (0,m)=(0,max m (dR rs:Int))
 |[],_,m,hm=>by
  rw[pR,cz,dR];refine Prod.ext rfl ?_;show m=max m ((0:Nat):Int);omega
 |x::r,hx,m,hm=>by
  obtain⟨o,A,D⟩:=hx x (by simp);have a:=z1E h o;rw[pR,Fd a.1 a.2,Fd (Zc (x:=32) (y:=40) rfl rfl (by decide)) (Zc (x:=32) (y:=41) rfl rfl (by decide)),Fh,z1N h _ x.2.1 (Nat.lt_succ_self _) A D 0 m hm,
   Fd (Zc (x:=10) (y:=40) rfl rfl (by decide)) (Zc (x:=10) (y:=41) rfl rfl (by decide)),z1O h r (fun y E=>hx y (by simp[E])) _ (by omega),dR]
  refine Prod.ext rfl ?_;show max (max m (0+(dN x.2.1:Int))) (dR r:Int)=max m ((max (dN x.2.1) (dR r):Nat):Int);omega
theorem Ey:∀(y:List ByteArray) (o:Int×Int),0<=o.2-> -(sz y:Int)<=(cz y o).1-o.1/\(cz y o).1-o.1<=(sz y:Int)/\0<=(cz y o).2/\(cz y o).2<=max o.2 (max o.1 (o.1+(sz y:Int)))
 |[],o,h=>by
  rw[cz,sz];omega
 |p::r,o,h=>by
  rw[cz,sz];by_cases h1:p=bO
  ·rw[if_pos h1]
   have:=Ey r (o.1+1,max o.2 (o.1+1)) (by show 0<=max o.2 (o.1+1);omega);have A:p.size=1:=by rw[h1];rfl
   simp only at this;rw[A];omega
  ·rw[if_neg h1]
   by_cases h2:p=bC
   ·rw[if_pos h2]
    have:=Ey r (o.1-1,o.2) h;have A:p.size=1:=by rw[h2];rfl
    simp only at this;rw[A];omega
   ·rw[if_neg h2]
    have:=Ey r o h;omega
theorem Pq(h:List ByteArray)(x:zA)(o:Int×Int):cz (h++[x]) o=(if x=bO then((cz h o).1+1,max (cz h o).2 ((cz h o).1+1))else if x=bC then((cz h o).1-1,(cz h o).2)else cz h o):=by
 rw[Fh,cz,cz]
end
end
open Go.Shelf
attribute [local go_sem] Oper.semAt_some
theorem z9s{F:Fence}(o:F.depth=none)(k:Nat):F.room k:=fun d h=>by rw[o]at h;cases h
theorem z9t{F:Fence}(y:F.depth=none){m A:Nat}{P:Program}{l:Nat}{f:FuncId}{o:Array Value}{r Qm:Code}{w:World}{R:Ending->World->Prop}
 (h:RoundIn F m P l f o r Qm w R):RoundIn F A P l f o r Qm w R:=⟨h.1,fun c D _=>h.2 c D (z9s y _)⟩
theorem Px{F:Fence}(o:F.depth=none){m:Nat}(r:Nat){P:Program}{l:Nat}{args:Array Value}{W:World}{R:Ending->World->Prop}(h:YieldAt F m P l args W R):YieldAt F r P l args W R:=by
 obtain⟨y,A,D,Qm,E,G⟩:=h;exact⟨y,A,D,Qm,E,z9t o G⟩
abbrev Pz:={T:zA//T.size<=4096}
def Zy(q:List Pz):List ByteArray:=q.map Subtype.val
theorem Uy(a b:List Pz):Zy (a++b)=Zy a++Zy b:=List.map_append
theorem Kt.book{s0:Nat}(W:World)(l:Nat)(o D:Obj)(hl:s0<=l)(h:W.heap[l]? =some o)(G:o.isCells=false):Kt s0 W (W.putObj l D):=by
 have U:∀j y t E,W.heap[j]? =some (.cells y t E)->j≠l:=fun j y t E r e=>by
  subst e;rw[h]at r;cases r;cases G
 refine⟨by simp[World.putObj],fun j y t _ r=>World.putObj_heap_other (U j y t _ r),fun j v A=> ?_,fun j r o V=>(World.putObj_heap_other (by omega)).trans V⟩;have r:5≠l:=fun e=>by
  subst e;unfold World.cell? at A;rw[h]at A;cases o<;>simp_all[Obj.isCells]
 have:(W.putObj l D).heap[5]? =W.heap[5]? :=World.putObj_heap_other r;unfold World.cell? at A ⊢;rw[this];exact A
theorem z9u{s0:Nat}{rs:List Rl}(hx:∀x∈rs,Ruk Nmq x)(m Bt n Z:Nat)(o:Option Addr)(w:World)(hb:zH w Bt (.cells #[.slice o n Z] 51))(hr:RgV s0 w o n rs)(hT:TabIs w):
  SeqStopsK Fence.wide m prog 304 #[zP Bt 0] (fun x:Pz=>#[Value.string x.1]) (Kt s0) (fun ys=>Zy ys=pR qT cT rs) (fun y=>Zy y<+:pR qT cT rs) (pR qT cT rs).length w:=by
 intro l J Jx W hW hJ aa hY h0;have D:=Kt.below (s0:=s0) hW;have yl:Yl s0 l (pR qT cT rs).length (fun E W=>∃q:List Pz,Zy q=E/\J q W) (fun E W=>∃q:List Pz,Zy q=E/\Jx q W):=by
  refine⟨fun s A B ⟨q,e,h⟩ hg=>⟨q,e,hJ q A B none h hg (fun r e=>by cases e)⟩,fun m' y x W1 ⟨q,e,h⟩ hl hz=> ?_⟩;have hq:q.length=y.length:=by rw[<-e];simp[Zy]
  refine YieldAt.mono (Px rfl m' (hY q ⟨x,hz⟩ W1 h (by omega))) fun e' W' hh=> ?_
  rcases hh with⟨G,U,h3⟩|⟨G,U⟩
  ·exact .inl ⟨G,⟨_,by rw[Uy,e];rfl,U⟩,h3⟩
  ·exact .inr ⟨G,⟨_,by rw[Uy,e];rfl,U⟩⟩
 refine(z9r yl hx m Bt n Z o W (D.gram hb) (D.rules hr) (D.tab hT) ⟨[],rfl,h0⟩ L0q).mono fun e W' h=> ?_
 refine⟨h.1,?_⟩;rcases h.2 with⟨q,V,Y⟩|⟨q,hq,⟨p,V,Y⟩⟩
 ·exact .inl ⟨q,V,Y⟩
 ·exact .inr ⟨p,by show Zy p<+:_;rw[V];exact hq,Y⟩
theorem z9v(m:Nat)(sv:Value)(h:Option Addr)(o r:Nat)(w:World):CallsIn Fence.wide m prog 293 #[.agg #[.slice h o r]] w fun e w'=>e=.returned (.func (.func 304) #[] #[zP w.heap.size 0])/\w'=w.alloc (.cells #[.slice h o r] 51):=by
 refine callsIn_of_wp func293 rfl trivial ?_ rfl;simp only[ntmps293,List.size_toArray,List.length_cons,List.length_nil,Nat.reduceAdd,Nat.reduceSub,Array.replicate_succ,Array.replicate_zero,List.push_toArray,List.append_toArray,List.nil_append,List.cons_append]
 gi_wp2
 go_ret;exact⟨rfl,rfl⟩
theorem z9w{F:Fence}{n:Nat}{P:Program}(w:World){ops:Array Oper}{rest:List Oper}{o:Oper}{a:Act}{Q:Exit->Act->World->Prop}(A:o.guard=none)(y x:Operand)(t u:TypeId)
  (r:o.op=.call {callee:=.builtin .append,args:=#[y,x],argTypes:=#[t,u]})
  (base:Nat)(e:TypeId)(i:TypeInfo)(D:P.underlying t=some (.slice e))(E:P.underlying u=some .string)(G:P.info? e=some i)(U:i.zero=some (.int .u8 0))
  (V:i.size=1)(Y:i.bytes=1)
  (v:Value)(k:Nat)(xs:List Value)(Z:a.eval y=v)(aa:w.ownsRow base e 1 v k xs)(s:zA)(hx:a.eval x=zT s)
  (ab:k+s.size<=maxLen)(ac:k+s.size<=140737488355328)(ad:base<=w.heap.size)
  (hK:∀h w',w'.ownsRow base e 1 h (k+s.size) (xs++Lib.strCells s)->w.grownBy w' v.ownBlock->wpListIn F n P ops Q rest (a.put o.dst h) w'):wpListIn F n P ops Q (o::rest) a w:=by
 refine wpListIn_plain A fun K ae=> ?_
 obtain⟨h,w',af,r1,r2,r3⟩:=Lib.run_append_own_string (P:=P) w base t u o.type e i D E G U V Y v k xs aa s ab ac ad;unfold Oper.wpIn;refine⟨?_,?_⟩
 ·simp[Oper.about,r,resolve,Target.leads,Sem.run_pure]
 ·rw[Oper.semAt_plain F _ _ (by rw[r];intro c ag;cases ag)]
  simp[execOp,r,resolve,invoke,builtin,Z,hx,af,Result.andThen];exact ae _ _ (hK h w' r1 r2)
theorem z9x(a b:zA):Lib.strCells (a++b)=Lib.strCells a++Lib.strCells b:=by
 unfold Lib.strCells;simp
theorem Kt.put{s0:Nat}{W:World}{B:Nat}{t:TypeId}{v:Value}(h:Boxed W B t v)(r:Value)(A:¬(t=119∨t=121∨t=51))(D:5<B)(V:s0<=B):Kt s0 W (W.setCell ⟨B,0,none⟩ r):=by
 refine⟨(KeepsWalks.setCell W _ r).size,fun j Y u E y=>Below.heap_setCell _ _ _ j (fun e=> ?_),fun j u G=>(((Below.refl B W).setCell (p:=⟨B,0,none⟩) L0q r).cell (p:=⟨5,j,none⟩) D).trans G,fun j y o U=>(Below.heap_setCell _ _ _ j (fun e=>by have e:j=B:=e;omega)).trans U⟩;rw[e,show W.heap[B]? =_ from h]at y;cases y;exact A E
theorem Kt.grown{W y:World}{base k:Nat}{v:Value}{xs:List Value}(D:W.ownsRow base 5 1 v k xs)(E:W.grownBy y v.ownBlock)(U:5<base)(V:base<=W.heap.size):Kt base W y:=by
 have A:Below base W y:=(Below.refl base W).grown E V (fun j G=>by
  rcases D.2 with⟨rfl,_⟩|⟨g,Y,Z,rfl,h,_,_⟩
  ·simp[Value.ownBlock]at G
  ·obtain rfl:g=j:=by simpa [Value.ownBlock]using G
   exact h)
 refine⟨A.size,fun j Z u hu r=>E.block j (Array.getElem?_eq_some_iff.1 r).1 (fun e=> ?_),fun j u hv=>(A.cell (p:=⟨5,j,none⟩) U).trans hv,fun j r o ho=>(A.block j r).trans ho⟩;rcases D.2 with⟨rfl,_⟩|⟨g,Y,ab,rfl,_,aa,_⟩
 ·simp[Value.ownBlock]at e
 ·obtain rfl:j=g:=by simpa [Value.ownBlock]using e
  rw[aa]at r;cases r;rcases hu with h|h|h<;>exact absurd h (by decide)
theorem Ux{W:World}{base e size k:Nat}{v:Value}{xs:List Value}(h:W.ownsRow base e size v k xs):∃o r,v=.slice o k r:=by
 rcases h.2 with⟨rfl,rfl⟩|⟨g,y,A,rfl,_⟩
 ·exact⟨_,_,rfl⟩
 ·exact⟨_,_,rfl⟩
theorem Vd{X Y:World}{row:Option Nat}{B:Nat}{t:TypeId}{v:Value}(h:Boxed X B t v)(y:X.grownBy Y row)(A:∀r,row=some r->∃o:Obj,zH X r o/\o.isCells=false):Boxed Y B t v:=
 boxed_own (β:=Unit) B t (fun _=>v) () X Y row h y A
theorem z1P{a:zA}{l:List UInt8}(h:(a.toList == l)=true):a={data:=⟨l⟩}:=Classical.byContradiction fun o=>by rw[Jg o]at h;cases h
theorem Pj{a:zA}{l:List UInt8}(h:(a.toList == l)=false):a≠{data:=⟨l⟩}:=fun e=>by
 subst e;rw[ByteArray.toList_eq]at h;simp at h
theorem z9y{w:World}{base n:Nat}{v:Value}{T:zA}(h:w.ownsRow base 5 1 v n (Lib.strCells T)):(convert 102 9 v).run prog w=.ok (zT T) w:=by
 have e:Lib.strCells T=nv (T.data.toList.map UInt8.toNat):=by
  unfold Lib.strCells nv;rw[List.map_map];rfl
 rw[e]at h;rw[Cx h (fun x hx=>by
  obtain⟨y,_,rfl⟩:=List.mem_map.1 hx;exact y.toNat_lt)]
 congr 2;apply ByteArray.ext;unfold nb;rw[List.map_map,show(UInt8.ofNat ∘ UInt8.toNat)=id from funext fun x=>by simp,List.map_id]
def Gb(rs:List Rl):Value:=if 8192<sz (pR qT cT rs)then .tuple #[zT {data:=#[]},.iface 34 (zI 2)]else if 24<dR rs then .tuple #[zT {data:=#[]},.iface 34 (zI 20)]else .tuple #[zT (cat (pR qT cT rs)),.nilIface]
theorem Pv{rs:List Rl}(h:8192<sz (pR qT cT rs)):Gb rs=.tuple #[zT {data:=#[]},.iface 34 (zI 2)]:=if_pos h
theorem Pw{rs:List Rl}(h:sz (pR qT cT rs)<=8192)(o:24<dR rs):Gb rs=.tuple #[zT {data:=#[]},.iface 34 (zI 20)]:=(if_neg (by omega)).trans (if_pos o)
theorem Ef{rs:List Rl}(h:sz (pR qT cT rs)<=8192)(o:dR rs<=24):Gb rs=.tuple #[zT (cat (pR qT cT rs)),.nilIface]:=(if_neg (by omega)).trans (if_neg (by omega))
theorem z1Q:∀{A B:List ByteArray},A<+:B->sz A<=sz B
 |[],B,_=>Nat.zero_le _
 |a::A,B,h=>by
  obtain⟨t,rfl⟩:=h;have:=z1Q (A:=A) (B:=A++t) ⟨t,rfl⟩;rw[List.cons_append,sz,sz];omega
structure Tm (s:Nat) (ps:List ByteArray) (o m:Int) (W:World):Prop where
 out:∃v,Boxed W (s+1+1+1) 102 v/\W.ownsRow s 5 1 v (sz ps) (Lib.strCells (cat ps))/\True
 op:Boxed W (s+1+1+1+1) 3 (zI o)
 mo:Boxed W (s+1+1+1+1+1) 3 (zI m)
 rs:Boxed W (s+1) 9 (zT {data:=#[]})
 re:Boxed W (s+1+1) 31 .nilIface
structure Txs (s:Nat) (ps:List ByteArray) (W:World):Prop where
 tm:Tm s ps (cz ps (0,0)).1 (cz ps (0,0)).2 W
 le:sz ps<=8192
structure Txz (s:Nat) (ps:List ByteArray) (c:Code) (W:World):Prop where
 ret:c=.ret
 rs:Boxed W (s+1) 9 (zT {data:=#[]})
 re:Boxed W (s+1+1) 31 (.iface 34 (zI 2))
 gt:8192<sz ps
structure Rn (s:Nat) (W:World) (ps:List ByteArray) (o m:Int) (W':World):Prop where
 tm:Tm s ps o m W'
 ko:KeepsOthers W W'
 kt:Kt s W W'
 be:Below s W W'
theorem z9z(h:List ByteArray)(x:zA):cat (h++[x])=cat h++x:=by
 induction h with
 |nil=>apply ByteArray.ext;simp[cat]
 |cons p r ih=>rw[List.cons_append,cat,cat,ih,ByteArray.append_assoc]
theorem Mq(h:List ByteArray)(x:zA):sz (h++[x])=sz h+x.size:=by
 induction h with
 |nil=>simp[sz]
 |cons p r ih=>rw[List.cons_append,sz,sz,ih];omega
theorem Tm.start{s:Nat}{D:List ByteArray}{x:zA}{o m:Int}{W w1:World}{v A:Value}(t:Tm s D o m W)(U:Boxed W (s+1+1+1) 102 v)(r:W.ownsRow s 5 1 v (sz D) (Lib.strCells (cat D)))(V:w1.ownsRow s 5 1 A (sz D+x.size) (Lib.strCells (cat D)++Lib.strCells x))(y:W.grownBy w1 v.ownBlock)(hg:5<s)(Y:s<=W.heap.size):Rn s W (D++[x]) o m (w1.setCell ⟨s+1+1+1,0,none⟩ A):=by
 have G:=U.kept y (U.not_row (by decide) r);have hB:Below s W w1:=(Below.refl s W).grown y Y (fun j E=>by
  rcases r.2 with⟨rfl,_⟩|⟨g,aa,ab,rfl,h,_,_⟩
  ·simp[Value.ownBlock]at E
  ·obtain rfl:g=j:=by simpa [Value.ownBlock]using E
   exact h)
 refine⟨⟨⟨A,G.set A,?_,trivial⟩,(t.op.kept y (t.op.not_row (by decide) r)).other (by omega) _,(t.mo.kept y (t.mo.not_row (by decide) r)).other (by omega) _,(t.rs.kept y (t.rs.not_row (by decide) r)).other (by omega) _,(t.re.kept y (t.re.not_row (by decide) r)).other (by omega) _⟩,?_,(Kt.grown r y hg Y).trans (Kt.put G A (by decide) (by omega) (by omega)),hB.setCell (p:=⟨s+1+1+1,0,none⟩) (by show s<=s+1+1+1;omega) A⟩
 ·rw[Mq,z9z,z9x]
  exact V.kept (grownBy_setCell' w1 _ A) (.inr (G.not_row (by decide) V).symm)
 ·refine(KeepsOthers.of_grownBy y fun j o E Z=> ?_).trans (KeepsOthers.setCell _ _ _)
  rcases r.2 with⟨rfl,_⟩|⟨g,aa,ab,rfl,_,ac,_⟩
  ·simp[Value.ownBlock]at E
  ·obtain rfl:g=j:=by simpa [Value.ownBlock]using E
   rw[ac]at Z;cases Z;rfl
theorem Rn.setOp{s:Nat}{r:List ByteArray}{o m:Int}{W W':World}(h:Rn s W r o m W')(y:Int)(Y:5<s):Rn s W r y m (W'.setCell ⟨s+1+1+1+1,0,none⟩ (zI y)):=by
 obtain⟨⟨⟨v,D,A,_⟩,op,mo,rs,E⟩,G,U,V⟩:=h;exact⟨⟨⟨v,D.other (by omega) _,A.kept (grownBy_setCell' _ _ _) (.inr (op.not_row (by decide) A).symm),trivial⟩,op.set _,mo.other (by omega) _,rs.other (by omega) _,E.other (by omega) _⟩,G.trans (KeepsOthers.setCell _ _ _),U.trans (Kt.put op _ (by decide) (by omega) (by omega)),V.setCell (p:=⟨s+1+1+1+1,0,none⟩) (by show s<=s+1+1+1+1;omega) _⟩
theorem Rn.setMo{s:Nat}{r:List ByteArray}{o m:Int}{W W':World}(h:Rn s W r o m W')(y:Int)(Y:5<s):Rn s W r o y (W'.setCell ⟨s+1+1+1+1+1,0,none⟩ (zI y)):=by
 obtain⟨⟨⟨v,D,A,_⟩,op,mo,rs,E⟩,G,U,V⟩:=h;exact⟨⟨⟨v,D.other (by omega) _,A.kept (grownBy_setCell' _ _ _) (.inr (mo.not_row (by decide) A).symm),trivial⟩,op.other (by omega) _,mo.set _,rs.other (by omega) _,E.other (by omega) _⟩,G.trans (KeepsOthers.setCell _ _ _),U.trans (Kt.put mo _ (by decide) (by omega) (by omega)),V.setCell (p:=⟨s+1+1+1+1+1,0,none⟩) (by show s<=s+1+1+1+1+1;omega) _⟩
theorem z9A(s:Nat):Own (fun(y:List Pz) W=>Txs s (Zy y) W):=by
 intro y A B row h o r;exact⟨⟨holdsRow_own s (s+1+1+1) 102 5 1 (fun p:List Pz=>sz (Zy p)) (fun p=>Lib.strCells (cat (Zy p))) (fun _ _=>True) y A B row h.tm.out o r,Vd h.tm.op o r,Vd h.tm.mo o r,Vd h.tm.rs o r,Vd h.tm.re o r⟩,h.le⟩
theorem z9B(s:Nat)(c:Code):Own (fun(o:List Pz) W=>Txz s (Zy o) c W):=by
 intro o A B row h r y;exact⟨h.ret,Vd h.rs r y,Vd h.re r y,h.gt⟩
theorem z9C{rs:List Rl}(hx:∀x∈rs,Ruk Nmq x)(n E:Nat)(A:Option Addr)(W:World)(hr:RgV W.heap.size W A n rs)(hT:TabIs W):
  Calls prog 274 #[.agg #[.slice A n E]] W fun e W'=>e=.returned (Gb rs)/\zB W W':=by
 refine(callsIn_wide (n:=5)).1 ?_;have aC:=Xw;refine callsIn_of_wp_marks func274 rfl trivial ?_ rfl;simp only[ntmps274,List.size_toArray,List.length_cons,List.length_nil,Nat.reduceAdd,Nat.reduceSub,Array.replicate_succ,Array.replicate_zero,List.push_toArray,List.append_toArray,List.nil_append,List.cons_append]
 gi_wp2_with (refine⟨trivial,?_⟩;gi_at_call 293;refine(z9v _ (.slice none 0 0) _ _ _ _).mono ?_;rintro e w' ⟨rfl,rfl⟩)
 have af:zB W (((((((W.alloc (.cells #[.slice A n E] 51)).alloc (.cells #[zT {data:=#[]}] 9)).alloc (.cells #[.nilIface] 31)).alloc (.cells #[.slice none 0 0] 102)).alloc (.cells #[zI 0] 3)).alloc (.cells #[zI 0] 3)).alloc (.cells #[.slice A n E] 51)):=
  (((((((Below.refl _ W).alloc L0q _).alloc (by simp) _).alloc (by simp;omega) _).alloc (by simp;omega) _).alloc (by simp;omega) _).alloc (by simp;omega) _).alloc (by simp;omega) _
 have b1:=Boxed.new (W.alloc (.cells #[.slice A n E] 51)) 9 (zT {data:=#[]});have b2:=Boxed.new ((W.alloc (.cells #[.slice A n E] 51)).alloc (.cells #[zT {data:=#[]}] 9)) 31 .nilIface;have b3:=Boxed.new (((W.alloc (.cells #[.slice A n E] 51)).alloc (.cells #[zT {data:=#[]}] 9)).alloc (.cells #[.nilIface] 31)) 102 (.slice none 0 0);have b4:=Boxed.new ((((W.alloc (.cells #[.slice A n E] 51)).alloc (.cells #[zT {data:=#[]}] 9)).alloc (.cells #[.nilIface] 31)).alloc (.cells #[.slice none 0 0] 102)) 3 (zI 0);have b5:=Boxed.new (((((W.alloc (.cells #[.slice A n E] 51)).alloc (.cells #[zT {data:=#[]}] 9)).alloc (.cells #[.nilIface] 31)).alloc (.cells #[.slice none 0 0] 102)).alloc (.cells #[zI 0] 3)) 3 (zI 0);have b6:=Boxed.new ((((((W.alloc (.cells #[.slice A n E] 51)).alloc (.cells #[zT {data:=#[]}] 9)).alloc (.cells #[.nilIface] 31)).alloc (.cells #[.slice none 0 0] 102)).alloc (.cells #[zI 0] 3)).alloc (.cells #[zI 0] 3)) 51 (.slice A n E);simp only[World.size_alloc]at b1 b2 b3 b4 b5 b6;have aj:=Kt.below (s0:=W.heap.size) af;have ad:5<W.heap.size:=hT.lt;obtain⟨i0,ap,aq,ar,au⟩:=info_parts Tryz.infoByte;refine wpIn_rangeFunc_ownF rfl (by omega) (gf:=304) (lb:=#[zP (W.heap.size+1+1+1+1+1+1) 0]) rfl trivial (enters_of func304 (by kernel_rfl) rfl)
  (z9u hx _ _ n E A _ b6 (aj.rules hr) (aj.tab hT)) Kt.trans (fun W' l o o' h1 h2 h3 h4=>Kt.book W' l o o' (Nat.le_trans af.size h1) h2 h3) B0q (fun _=>rfl)
  (fun y W'=>Txs W.heap.size (Zy y) W'/\zB W W')
  (fun c y W'=>Txz W.heap.size (Zy y) c W'/\zB W W')
  (OwnFrom.and (Own.from (z9A _) _) (ownFrom_below L0q (by simp;omega)))
  (fun c=>OwnFrom.and (Own.from (z9B _ c) _) (ownFrom_below L0q (by simp;omega)))
  ⟨⟨⟨⟨_,((b3.alloc _).alloc _).alloc _,World.ownsRow_nil _ _ _ _,trivial⟩,(b4.alloc _).alloc _,b5.alloc _,((((b1.alloc _).alloc _).alloc _).alloc _).alloc _,(((b2.alloc _).alloc _).alloc _).alloc _⟩,by decide⟩,af⟩
  (fun x=>{tmps:=#[.agg #[.slice A n E],zP W.heap.size 0,zP (W.heap.size+1) 0,zP (W.heap.size+1+1) 0,zP (W.heap.size+1+1+1) 0,zP (W.heap.size+1+1+1+1) 0,zP (W.heap.size+1+1+1+1+1) 0,zT x.1,.agg #[.slice A n E],.func (.func 304) #[] #[zP (W.heap.size+1+1+1+1+1+1) 0],zT x.1,undef,undef,undef,undef,undef,undef,undef,undef,undef,undef,undef,undef,undef,undef,undef,undef,undef,undef,undef,undef,undef,undef,undef,undef],defers:=[]}) ?assign ?Qm ?done ?stop
 case assign=>
  intro l x W K Z
  gi_wp2
  exact Z
 case Qm=>
  rintro l y x W2 ⟨⟨h,ae⟩,U⟩ aD;obtain⟨v,hv,G,_⟩:=h.out;have av:=hv.cell;have aE:=x.2;have aF:=Ey (Zy y) (0,0) (by decide)
  gi_wp2_with (gi_at_builtin;refine z9w _ rfl _ _ 102 9 rfl W.heap.size 5 i0 Tryz.underlying102 Tryz.underlying9 ap aq ar au v _ _ rfl G x.1 rfl (by unfold maxLen;omega) (by omega) U.size ?_;intro v' w1 ak V;obtain⟨A,sc,rfl⟩:=Ux ak;have Y:=Tm.start h hv G ak V ad U.size;have al:=hv.kept V (hv.not_row (by decide) G);have aG:=al.cell;have aH:=al.frozen;have c4:=(h.op.kept V (h.op.not_row (by decide) G)).cell;have f4:=(h.op.kept V (h.op.not_row (by decide) G)).frozen;have c5:=(h.mo.kept V (h.mo.not_row (by decide) G)).cell;have f5:=(h.mo.kept V (h.mo.not_row (by decide) G)).frozen;have c2:=(h.re.kept V (h.re.not_row (by decide) G)).cell;have f2:=(h.re.kept V (h.re.not_row (by decide) G)).frozen;have c1:=(h.rs.kept V (h.rs.not_row (by decide) G)).cell;have f1:=(h.rs.kept V (h.rs.not_row (by decide) G)).frozen)
  ·rename_i am
   refine⟨(Y.ko.trans (KeepsOthers.setCell _ _ _)).trans (KeepsOthers.setCell _ _ _),⟨rfl,(Y.tm.rs.set _).other (by omega) _,(Y.tm.re.other (by omega) _).set _,?_⟩,((U.trans Y.be).setCell (p:=⟨W.heap.size+1,0,none⟩) (by simp) _).setCell (p:=⟨W.heap.size+1+1,0,none⟩) (by show W.heap.size<=_+1+1;omega) _⟩;rw[Uy];show 8192<sz (Zy y++[x.1]);rw[Mq];omega
  ·rename_i ao ab
   have ac:x.1=bO:=z1P ab;have e1:cz (Zy (y++[x])) (0,0)=((cz (Zy y) (0,0)).1+1,max (cz (Zy y) (0,0)).2 ((cz (Zy y) (0,0)).1+1)):=by
    rw[Uy];exact(Pq _ _ _).trans (if_pos ac)
   have R2:=(Y.setOp ((cz (Zy y) (0,0)).1+1) ad).setMo (max (cz (Zy y) (0,0)).2 ((cz (Zy y) (0,0)).1+1)) ad;exact⟨R2.ko,R2.kt,⟨by rw[e1,Uy];exact R2.tm,by rw[Uy];show sz (Zy y++[x.1])<=8192;rw[Mq];omega⟩,U.trans R2.be⟩
  ·rename_i ao ab ag
   have ac:x.1≠bO:=Pj ab;have ah:x.1=bC:=z1P ag;have e1:cz (Zy (y++[x])) (0,0)=((cz (Zy y) (0,0)).1-1,(cz (Zy y) (0,0)).2):=by
    rw[Uy];exact(Pq _ _ _).trans ((if_neg ac).trans (if_pos ah))
   have R2:=Y.setOp ((cz (Zy y) (0,0)).1-1) ad;exact⟨R2.ko,R2.kt,⟨by rw[e1,Uy];exact R2.tm,by rw[Uy];show sz (Zy y++[x.1])<=8192;rw[Mq];omega⟩,U.trans R2.be⟩
  ·rename_i ao ab ag
   have ac:x.1≠bO:=Pj ab;have ah:x.1≠bC:=Pj ag;have e1:cz (Zy (y++[x])) (0,0)=cz (Zy y) (0,0):=by
    rw[Uy];exact(Pq _ _ _).trans ((if_neg ac).trans (if_neg ah))
   exact⟨Y.ko,Y.kt,⟨by rw[e1,Uy];exact Y.tm,by rw[Uy];show sz (Zy y++[x.1])<=8192;rw[Mq];omega⟩,U.trans Y.be⟩
 case done=>
  rintro D ys W2 hD aw ⟨⟨h,ae⟩,U⟩ Z;rw[aw]at h ae;obtain⟨v,hv,G,_⟩:=h.out;have av:=hv.cell;have c1:=h.rs.cell;have f1:=h.rs.frozen;have c2:=h.re.cell;have f2:=h.re.frozen;have c5:=h.mo.cell;have cv:=z9y G;have ax:(cz (pR qT cT rs) (0,0)).2=(dR rs:Int):=by
   rw[z1O z1J rs (fun x ay=>hx x ay) 0 (by decide)];show max (0:Int) (dR rs:Int)=_;omega
  rw[ax]at c5
  gi_wp2
  ·rename_i az
   have ai:24<dR rs:=by omega
   rw[Pw ae ai];have aa:=((KeepsOthers.setCell W2 ⟨W.heap.size+1,0,none⟩ (zT {data:=#[]})).trans (KeepsOthers.setCell _ ⟨W.heap.size+1+1,0,none⟩ (.iface 34 (zI 20)))).same D _ Z rfl;refine⟨by simp,.inl ⟨_,_,rfl,run_takeDeferred aa,?_⟩⟩;have hg:=grownBy_putObj' ((W2.setCell ⟨W.heap.size+1,0,none⟩ (zT {data:=#[]})).setCell ⟨W.heap.size+1+1,0,none⟩ (.iface 34 (zI 20))) D (.deferred none);have d1:=(Vd ((h.rs.set (zT {data:=#[]})).other (B':=W.heap.size+1+1) (by omega) (.iface 34 (zI 20))) hg (fun r e=>by cases e;exact⟨_,aa,rfl⟩)).cell;have d2:=(Vd ((h.re.other (B':=W.heap.size+1) (by omega) (zT {data:=#[]})).set (.iface 34 (zI 20))) hg (fun r e=>by cases e;exact⟨_,aa,rfl⟩)).cell;refine⟨.tuple #[zT {data:=#[]},.iface 34 (zI 20)],?_,rfl,((U.setCell (p:=⟨W.heap.size+1,0,none⟩) (by simp) _).setCell (p:=⟨W.heap.size+1+1,0,none⟩) (by show W.heap.size<=_+1+1;omega) _).trans (belowK_b (w:=W) L0q _ D _ _ (by simp at hD;omega) aa rfl rfl)⟩;simp[results,Tryz.f274,go_sem,d1,d2]
  ·rename_i az
   have ai:dR rs<=24:=by omega
   rw[Ef ae ai];have aa:=((KeepsOthers.setCell W2 ⟨W.heap.size+1,0,none⟩ (zT (cat (pR qT cT rs)))).trans (KeepsOthers.setCell _ ⟨W.heap.size+1+1,0,none⟩ .nilIface)).same D _ Z rfl;refine⟨by simp,.inl ⟨_,_,rfl,run_takeDeferred aa,?_⟩⟩;have hg:=grownBy_putObj' ((W2.setCell ⟨W.heap.size+1,0,none⟩ (zT (cat (pR qT cT rs)))).setCell ⟨W.heap.size+1+1,0,none⟩ .nilIface) D (.deferred none);have d1:=(Vd ((h.rs.set (zT (cat (pR qT cT rs)))).other (B':=W.heap.size+1+1) (by omega) .nilIface) hg (fun r e=>by cases e;exact⟨_,aa,rfl⟩)).cell;have d2:=(Vd ((h.re.other (B':=W.heap.size+1) (by omega) (zT (cat (pR qT cT rs)))).set .nilIface) hg (fun r e=>by cases e;exact⟨_,aa,rfl⟩)).cell;refine⟨.tuple #[zT (cat (pR qT cT rs)),.nilIface],?_,rfl,((U.setCell (p:=⟨W.heap.size+1,0,none⟩) (by simp) _).setCell (p:=⟨W.heap.size+1+1,0,none⟩) (by show W.heap.size<=_+1+1;omega) _).trans (belowK_b (w:=W) L0q _ D _ _ (by simp at hD;omega) aa rfl rfl)⟩;simp[results,Tryz.f274,go_sem,d1,d2]
 case stop=>
  rintro D c y W2 hD aA ⟨⟨rfl,bs,be,am⟩,U⟩ Z;have aB:8192<sz (pR qT cT rs):=Nat.lt_of_lt_of_le am (z1Q aA)
  gi_wp2
  rw[Pv aB];refine⟨by simp,.inl ⟨_,_,rfl,run_takeDeferred Z,?_⟩⟩;have hg:=grownBy_putObj' W2 D (.deferred none);have d1:=(Vd bs hg (fun r e=>by cases e;exact⟨_,Z,rfl⟩)).cell;have d2:=(Vd be hg (fun r e=>by cases e;exact⟨_,Z,rfl⟩)).cell;refine⟨.tuple #[zT {data:=#[]},.iface 34 (zI 2)],?_,rfl,U.trans (belowK_b (w:=W) L0q _ D _ _ (by simp at hD;omega) Z rfl rfl)⟩;simp[results,Tryz.f274,go_sem,d1,d2]
end Go.Proofs.YtmelafeingcgnaaGreatDoor
