/- Lemmas for the last text. Conditions: those that each names. -/
import Derived.Test.YtgmcjddjdidpjabGreatDoorVR4
import Derived.Test.YtgmcjddjdidpjabGreatDoorVXMvToP5
import Derived.Test.YtgmcjddjdidpjabGreatDoorVY15ToR1
import Derived.Lib.AppendStr
import Derived.RangeFuncBox
import Derived.RangeFuncFrom
set_option linter.unusedVariables false
set_option maxRecDepth 100000
set_option maxHeartbeats 8000000
namespace Go.Proofs.YtgmcjddjdidpjabGreatDoor
open Go.Proofs.Tryz
section
open Go.RowKit Go.Shelf
abbrev qT:ByteArray->ByteArray:=fun T=>nb (qt T)
abbrev cT:Nat->ByteArray:=fun C=>nb (txt C)
abbrev Nmq:ByteArray->Prop:=fun T=>nmS T=true
theorem z9o{T:ByteArray}(h:T.size<=255):(nb (qt T)).size<=4096:=by
 rw[Vj];unfold qt;have:=(Ej T T.size).1;rw[List.length_append];show _+1<=_;omega
theorem z9p(C:Nat):(nb (txt C)).size<=4096:=by
 rw[Vj];have h1:=Pg (rs C 256).reverse;have h2:=Aj C 256;unfold txt;simp at h1 ⊢;omega
theorem Hz{T:ByteArray}(h:nmS T=true):T.size<=4096:=by
 have:=(z2v.nm T h).1;omega
section
variable {s0 l N:Nat} {J Jx:List ByteArray->World->Prop}
theorem z2B(hY:Yl s0 l N J Jx):∀(M:Nat) (n:Nd),SizeOf.sizeOf n<M->Vk n->Wf Nmq n->YN s0 l N J Jx qT cT n
 |0,n,h,_,_=>by omega
 |M+1,.mk kd T C s pn,hM,hv,hw=>by
  have hv0:=hv;have hkd:=hv.kd;rw[Vk]at hv;rw[Wf]at hw;obtain⟨hv1,hvs⟩:=hv;obtain⟨w2,w5,wc,ws⟩:=hw;have wmem:∀m∈s,Wf Nmq m:=by
   clear hM hv1 hvs hkd hv0
   induction s with
   |nil=>intro m hm;simp at hm
   |cons a r ih=>
    rw[WfL]at ws;intro m hm;rcases List.mem_cons.1 hm with rfl|hm
    ·exact ws.1
    ·exact ih ws.2 m hm
  have ih:∀m∈s,YN s0 l N J Jx qT cT m/\1<=m.kd/\m.kd<=12:=fun m hm=>by
   have h3:=List.sizeOf_lt_of_mem hm;simp only[Nd.mk.sizeOf_spec]at hM;exact⟨z2B hY M m (by omega) (hvs.mem m hm) (wmem m hm),(hvs.mem m hm).kd⟩
  have hse:6<=kd->s.isEmpty=false:=fun h6=>by
   have:0<s.length:=by
    rcases hv1 with q|q|q|q|q|q|q<;>omega
   cases s with
   |nil=>simp at this
   |cons _ _=>rfl
  have hs1:8<=kd->s.length=1:=fun h8=>by
   rcases hv1 with q|q|q|q|q|q|q<;>omega
  intro m cs pre W hn hT hJ hl;have hk1:1<=kd:=hkd.1;have hk2:kd<=12:=hkd.2;have hn0:=hn;obtain⟨so,sl,sc,p,rfl⟩:=z2x hn;have hpar:∀(sep:ByteArray),sep.size<=4096->6<=kd->∀(pre':List ByteArray),pre'.length+(pS qT cT kd sep s).length<=N->∀W1,Kt s0 W W1->J pre' W1->CallsIn Fence.wide (m-1) prog 188 #[.agg (v8 kd T C (.slice so sl sc) p).toArray,.string sep,.func (.yield l) #[] #[]] W1 (Yp s0 J Jx pre' (pS qT cT kd sep s) W1):=fun sep hz h6 pre' hl' W1 hk hJ1=>
   z9b hY (hse h6) ih sep hz (m-1) _ pre' W1 h6 hk2 (hk.node hn0) (hk.tab hT) hJ1 hl'
  rw[pN]at hl ⊢;have hc:kd=1∨kd=2∨kd=3∨kd=4∨kd=5∨kd=6∨kd=7∨kd=8∨kd=9∨kd=10∨kd=11∨kd=12:=by omega
  clear hn hn0 ih hvs wmem ws hM hv1;rcases hc with rfl|rfl|rfl|rfl|rfl|rfl|rfl|rfl|rfl|rfl|rfl|rfl
  ·exact z9c hY m T C p so sl sc pre W hJ hl
  ·exact z9f hY m T C p so sl sc pre W (w2 rfl) (z9o (w2 rfl)) hJ hl
  ·exact z9g hY m T C p so sl sc pre W wc (z9p C) hT hJ hl
  ·exact z9d hY m T C p so sl sc pre W hJ hl
  ·exact z9e hY m T C p so sl sc pre W (Hz (w5 rfl)) hJ hl
  ·exact z9h hY m T C p so sl sc pre W _ (hpar bSp (by decide) (by decide) pre hl) hJ
  ·exact z9i hY m T C p so sl sc pre W _ (hpar bSl (by decide) (by decide) pre hl) hJ
  ·exact z9l hY m T C p so sl sc pre W _ (hpar bE (by decide) (by decide) pre (by simp at hl;omega)) hJ (by simp at hl;omega)
  ·exact z9m hY m T C p so sl sc pre W _ (hpar bE (by decide) (by decide) pre (by simp at hl;omega)) hJ (by simp at hl;omega)
  ·exact z9n hY m T C p so sl sc pre W _ (hpar bE (by decide) (by decide) pre (by simp at hl;omega)) hJ (by simp at hl;omega)
  ·exact z9j hY m T C p so sl sc pre W _ (hpar bE (by decide) (by decide) (pre++[bsg 11]) (by simp at hl ⊢;omega)) hJ (by simp at hl;omega)
  ·exact z9k hY m T C p so sl sc pre W _ (hpar bE (by decide) (by decide) (pre++[bsg 12]) (by simp at hl ⊢;omega)) hJ (by simp at hl;omega)
end
end
open Go.RowKit
theorem RoR.len{B n cap:Nat}{so:Option Addr}{rs:List Rl}{W:World}(h:RoR B (.slice so n cap) rs W):n=rs.length:=by
 obtain⟨xs,h1,_⟩:=h;obtain⟨hl,⟨hq,hx⟩|⟨g',cap',cur,hq,_⟩⟩:=h1
 ·injection hq with _ h2 _
  rw[hx]at hl;simp at hl;omega
 ·injection hq
theorem RoR.lt{B g n cap:Nat}{rs:List Rl}{W:World}(h:RoR B (.slice (some ⟨g,0,none⟩) n cap) rs W):g<W.heap.size:=by
 obtain⟨xs,h1,_⟩:=h;exact(h1.lt g rfl).2
section
open Go.Shelf
attribute [local go_sem] Oper.semAt_some
theorem Kt.ten{s0:Nat}{W W':World}(h:Kt s0 W W'){g:Nat}{cur:Array Value}(hg:W.heap[g]? =some (.cells cur 46)):W'.heap[g]? =some (.cells cur 46):=
 (h.2.1 g _ _ (.inr (.inl rfl)) hg).trans hg
theorem Kt.gram{s0:Nat}{W W':World}(h:Kt s0 W W'){g:Nat}{cur:Array Value}(hg:W.heap[g]? =some (.cells cur 24)):W'.heap[g]? =some (.cells cur 24):=
 (h.2.1 g _ _ (.inr (.inr rfl)) hg).trans hg
def Rv(s0:Nat)(W:World)(g o:Nat)(x:Rl):Prop:=∃kd T C so sl sc p q,
 NdV s0 W x.2.1 (v8 kd T C (.slice so sl sc) p)/\W.cell? ⟨g,o,none⟩=some (.string x.1)/\W.cell? ⟨g,o+1,none⟩=some (.int .i64 kd)/\W.cell? ⟨g,o+2,none⟩=some (.string T)/\W.cell? ⟨g,o+3,none⟩=some (.int .u64 (wd C 0))/\W.cell? ⟨g,o+4,none⟩=some (.int .u64 (wd C 1))/\W.cell? ⟨g,o+5,none⟩=some (.int .u64 (wd C 2))/\W.cell? ⟨g,o+6,none⟩=some (.int .u64 (wd C 3))/\W.cell? ⟨g,o+7,none⟩=some (.slice so sl sc)/\W.cell? ⟨g,o+8,none⟩=some (.int .i64 p)/\W.cell? ⟨g,o+9,none⟩=some (.int .i64 q)
def RgV(s0:Nat)(W:World)(so:Option Addr)(n:Nat)(rs:List Rl):Prop:=n=rs.length/\n<=maxLen/\∀j (hj:j<rs.length),∃g o,so=some ⟨g,o,none⟩/\g<s0/\Rv s0 W g (o+j*10) rs[j]
theorem Kt.rules{s0:Nat}{W W':World}(h:Kt s0 W W'){so:Option Addr}{n:Nat}{rs:List Rl}(hr:RgV s0 W so n rs):RgV s0 W' so n rs:=
 ⟨hr.1,hr.2.1,fun j hj=>by
   obtain⟨g,o,h1,hg,kd,T,C,so,sl,sc,p,q,h2,z0,z1,z2,z3,z4,z5,z6,z7,z8,z9⟩:=hr.2.2 j hj;exact⟨g,o,h1,hg,kd,T,C,so,sl,sc,p,q,h.node h2,h.cell hg z0,h.cell hg z1,h.cell hg z2,h.cell hg z3,h.cell hg z4,h.cell hg z5,h.cell hg z6,h.cell hg z7,h.cell hg z8,h.cell hg z9⟩⟩
theorem Sv(QT:ByteArray->ByteArray)(CT:Nat->ByteArray):∀(a b:List Rl),pR QT CT (a++b)=pR QT CT a++pR QT CT b
 |[],b=>rfl
 |x::r,b=>by rw[List.cons_append,pR,pR,Sv QT CT r b];simp
theorem z9q(QT:ByteArray->ByteArray)(CT:Nat->ByteArray)(rs:List Rl)(j:Nat)(hj:j<rs.length):pR QT CT (rs.take (j+1))=pR QT CT (rs.take j)++(rs[j].1::bAr::(pN QT CT rs[j].2.1++[bNl])):=by
 rw[show rs.take (j+1)=rs.take j++[rs[j]] by simp,Sv,pR,pR]
theorem z9r(QT:ByteArray->ByteArray)(CT:Nat->ByteArray)(rs:List Rl)(j:Nat):∃r,pR QT CT rs=pR QT CT (rs.take j)++r:=by
 refine⟨pR QT CT (rs.drop j),?_⟩;rw[<-Sv,List.take_append_drop]
section
variable {s0 l N:Nat} {J Jx:List ByteArray->World->Prop}
theorem z9s(hY:Yl s0 l N J Jx){rs:List Rl}(hx:∀x∈rs,Ruk Nmq x)(m Bt n cap:Nat)(so0:Option Addr)(W:World)(hb:W.heap[Bt]? =some (.cells #[.slice so0 n cap] 24))(hr:RgV s0 W so0 n rs)(hT:TabIs W)(hJ:J [] W)(hl:(pR qT cT rs).length<=N):
  CallsIn Fence.wide m prog 183 #[.func (.yield l) #[] #[],.pointer (some ⟨Bt,0,none⟩)] W fun e W'=>(∃v,e=.returned v)/\(J (pR qT cT rs) W'∨∃q,q<+:pR qT cT rs/\Jx q W'):=by
 have hdd:=Xg;have HNl:Hid (n=rs.length):=hr.1;have hn6:n<=9223372036854775807:=by have:=hr.2.1;unfold maxLen at this;omega
 have HX:=hid hx;have HR0:=hid hr;have HT:=hid hT;have HY:Hid (Yl s0 l N J Jx):=hY;have HJ0:=hid hJ;have HL:=hid hl;obtain⟨b0,_⟩:=Qj hb;clear hx hr hT hY hJ hl hb;refine callsIn_of_wp func183 rfl trivial ?_ rfl;simp only[ntmps183,List.size_toArray,List.length_cons,List.length_nil,Nat.reduceAdd,Nat.reduceSub,Array.replicate_succ,Array.replicate_zero,List.push_toArray,List.append_toArray,List.nil_append,List.cons_append]
 gi_wp2
 gi_loopw [8] (fun i wr=>∃j:Nat,i=.int .i64 j/\j<=n/\Hid (J (pR qT cT (rs.take j)) wr)/\Hid (Kt s0 W wr)) (fun i _=>n-(intOf i).toNat)
 case atStart=>exact⟨0,rfl,Nat.zero_le _,by rw[List.take_zero,pR];exact HJ0,hid (Kt.refl _)⟩
 case round=>
  obtain⟨j,rfl,hj,HJr,HKr⟩:=hrel;clear b0;by_cases hjn:j<n
  ·have hjI:(j:Int)<(n:Int):=by omega
   have a0:decide ((j:Int)<(n:Int))=true:=by simp;omega
   have hjs:j<rs.length:=by rw[<-HNl.out];exact hjn
   obtain⟨g,o,rfl,hg,kd,T,C,so,sl,sc,p,q0,nd,z0,z1,z2,z3,z4,z5,z6,z7,z8,z9⟩:=(HKr.out.rules HR0.out).2.2 j hjs;obtain⟨xn,xv,xw⟩:=HX.out rs[j] (List.getElem_mem hjs);have hnx:=z9q qT cT rs j hjs;obtain⟨rr,hrr⟩:=z9r qT cT rs (j+1);have hgl:g<wr.heap.size:=World.block_lt_of_cell? wr _ z0;have hlj:(pR qT cT (rs.take j)).length+((pN qT cT rs[j].2.1).length+3)<=N:=by
    have h1:=HL.out;rw[hrr,hnx]at h1;simp only[List.length_append,List.length_cons,List.length_nil]at h1;omega
   have HRR:=hid hrr;have HNX:=hid hnx;obtain⟨dn,hdn⟩:∃dn,dn=pR qT cT (rs.take j):=⟨_,rfl⟩;rw[<-hdn]at HJr HNX hlj;obtain⟨ps,hps⟩:∃ps,ps=pN qT cT rs[j].2.1:=⟨_,rfl⟩;have HYN:=hid (z2B HY.out _ rs[j].2.1 (Nat.lt_succ_self _) xv xw);have HND:=hid nd;obtain⟨N0,hN0⟩:∃N0,N0=rs[j].1:=⟨_,rfl⟩;rw[<-hN0]at z0 HNX xn;rw[<-hps]at HNX hlj;have K2:=hid (Kt.alloc (s0:=s0) wr (.cells #[.string N0,.int .i64 kd,.string T,.int .u64 (wd C 0),.int .u64 (wd C 1),.int .u64 (wd C 2),.int .u64 (wd C 3),.slice so sl sc,.int .i64 p,.int .i64 q0] 46));have B2:Hid ((wr.alloc (.cells #[.string N0,.int .i64 kd,.string T,.int .u64 (wd C 0),.int .u64 (wd C 1),.int .u64 (wd C 2),.int .u64 (wd C 3),.slice so sl sc,.int .i64 p,.int .i64 q0] 46)).heap[wr.heap.size]? =some (.cells #[.string N0,.int .i64 kd,.string T,.int .u64 (wd C 0),.int .u64 (wd C 1),.int .u64 (wd C 2),.int .u64 (wd C 3),.slice so sl sc,.int .i64 p,.int .i64 q0] 46)):=Qx wr _ rfl;have HY1:=hid (HY.out.call (m-1) dn N0 (wr.alloc (.cells #[.string N0,.int .i64 kd,.string T,.int .u64 (wd C 0),.int .u64 (wd C 1),.int .u64 (wd C 2),.int .u64 (wd C 3),.slice so sl sc,.int .i64 p,.int .i64 q0] 46)) (HY.out.alloc HJr.out _) (by omega) (Hz xn));have HY2:=hid (fun(W2:World) (hJ2:J (dn++[N0]) W2)=>HY.out.call (m-1) _ bAr W2 hJ2 (by simp;omega) (by decide));have HN3:=hid (fun(W3:World) (hJ3:J (dn++[N0]++[bAr]) W3) (hk:Kt s0 wr W3)=>HYN.out (m-1) _ (dn++[N0]++[bAr]) W3 (hk.node HND.out) ((HKr.out.trans hk).tab HT.out) hJ3 (by rw[<-hps];simp;omega));have HY4:=hid (fun(W4:World) (hJ4:J (dn++[N0]++[bAr]++ps) W4)=>HY.out.call (m-1) _ bNl W4 hJ4 (by simp;omega) (by decide));rw[<-hps]at HN3;have HPre:Hid (∀q,q<+:(N0::bAr::(ps++[bNl]))->dn++q<+:pR qT cT rs):=fun q hq=>by
    obtain⟨r,hr⟩:=hq;exact⟨r++rr,by rw[HRR.out,HNX.out,<-hr];simp⟩
   clear hnx hrr hlj nd xv xw xn hdn hps hN0 HYN HND HRR;dsimp only[v8]at HN3;obtain⟨fn,tmps,assign,Qm,hy,hR⟩:=HY1.out;have HR:=hid hR;clear hR HY1
   gi_wp2
   refine⟨hdd _,HR.out.mono ?_⟩;clear HR hy z0 z1 z2 z3 z4 z5 z6 z7 z8 z9;rintro e W2 (⟨rfl,hJ2,hk2⟩|⟨rfl,hx2⟩)
   ·obtain⟨fn,tmps,assign,Qm,hy,hR⟩:=HY2.out W2 hJ2
    have HR:=hid hR;have HK2:=hid (K2.out.trans hk2);have HB2:=hid (hk2.ten B2.out);clear hR HY2 hJ2 hk2;unfold bAr at hy
    gi_wp2
    refine⟨hdd _,HR.out.mono ?_⟩;clear HR hy;rintro e W3 (⟨rfl,hJ3,hk3⟩|⟨rfl,hx3⟩)
    ·obtain⟨⟨c0,c1,c2,c3,c4,c5,c6,c7,c8,c9⟩,_⟩:=Fb (hk3.ten HB2.out)
     have HN:=hid (HN3.out W3 hJ3 (HK2.out.trans hk3));have HK3:=hid (HK2.out.trans hk3);clear HN3 hJ3 hk3
     gi_wp2
     refine⟨trivial,hdd _,HN.out.mono ?_⟩;clear HN c0 c1 c2 c3 c4 c5 c6 c7 c8 c9;rintro e W4 (⟨rfl,hJ4,hk4⟩|⟨rfl,q,hq,hx4⟩)
     ·obtain⟨fn,tmps,assign,Qm,hy,hR⟩:=HY4.out W4 hJ4
      have HR:=hid hR;have HK4:=hid (HK3.out.trans hk4);clear hR HY4 hJ4 hk4;unfold bNl at hy
      gi_wp2
      refine⟨hdd _,HR.out.mono ?_⟩;clear HR hy;rintro e W5 (⟨rfl,hJ5,hk5⟩|⟨rfl,hx5⟩)
      ·gi_wp2
       go_roundw
       case rel=>exact⟨j+1,by go_num,by omega,hid (by rw[HNX.out];simpa [List.append_assoc]using hJ5),hid ((HKr.out.trans HK4.out).trans hk5)⟩
       case measure=>simp[intOf];omega
      ·gi_wp2
       refine bodyPost_ret (v:=.tuple #[]) (by simp[results,Tryz.results183]) rfl ?_;exact⟨⟨_,rfl⟩,.inr ⟨_,HPre.out (N0::bAr::(ps++[bNl])) (List.prefix_refl _),by simpa [List.append_assoc]using hx5⟩⟩
     ·gi_wp2
      refine⟨fun _ h=>(by cases h),?_⟩
      gi_wp2
      refine bodyPost_ret (v:=.tuple #[]) (by simp[results,Tryz.results183]) rfl ?_;obtain⟨r,hr⟩:=hq;exact⟨⟨_,rfl⟩,.inr ⟨_,HPre.out (N0::bAr::q) ⟨r++[bNl],by rw[<-hr];simp⟩,by simpa [List.append_assoc]using hx4⟩⟩
    ·clear HN3 HY4
     gi_wp2
     refine⟨trivial,?_⟩
     gi_wp2
     refine⟨fun _ h=>(by cases h),?_⟩
     gi_wp2
     refine bodyPost_ret (v:=.tuple #[]) (by simp[results,Tryz.results183]) rfl ?_;exact⟨⟨_,rfl⟩,.inr ⟨_,HPre.out [N0,bAr] ⟨ps++[bNl],rfl⟩,by simpa [List.append_assoc]using hx3⟩⟩
   ·clear HN3 HY4 HY2
    gi_wp2
    refine⟨fun _ h=>(by cases h),?_⟩
    gi_wp2
    refine⟨trivial,?_⟩
    gi_wp2
    refine⟨fun _ h=>(by cases h),?_⟩
    gi_wp2
    refine bodyPost_ret (v:=.tuple #[]) (by simp[results,Tryz.results183]) rfl ?_;exact⟨⟨_,rfl⟩,.inr ⟨_,HPre.out [N0] ⟨bAr::(ps++[bNl]),rfl⟩,hx2⟩⟩
  ·have a0:decide ((j:Int)<(n:Int))=false:=by simp;omega
   have hjn':rs.take j=rs:=List.take_of_length_le (by rw[<-HNl.out];omega);rw[hjn']at HJr;clear hjn'
   gi_wp2
   go_end0
   exact⟨⟨_,rfl⟩,.inl HJr.out⟩
end
end
section
section
variable {Nm:ByteArray->Prop} {QT:ByteArray->ByteArray} {CT:Nat->ByteArray}
def cz:List ByteArray->Int×Int->Int×Int
 |[],st=>st
 |p::r,st=>cz r (if p=bO then(st.1+1,max st.2 (st.1+1))else if p=bC then(st.1-1,st.2)else st)
theorem Dl:∀(A B:List ByteArray) (st:Int×Int),cz (A++B) st=cz B (cz A st)
 |[],B,st=>rfl
 |p::r,B,st=>by rw[List.cons_append,cz,cz,Dl r B]
theorem Kz{p:ByteArray}(h1:p≠bO)(h2:p≠bC)(r:List ByteArray)(st:Int×Int):cz (p::r) st=cz r st:=by rw[cz,if_neg h1,if_neg h2]
def CZ(QT:ByteArray->ByteArray)(CT:Nat->ByteArray)(n:Nd):Prop:=∀o m:Int,o<=m->cz (pN QT CT n) (o,m)=(o,max m (o+(dN n:Int)))
theorem z2C(over:Nat){n:Nd}(h:CZ QT CT n)(o m:Int)(hm:o<=m):cz (pP QT CT over n) (o,m)=(o,max m (o+(dP over n:Int))):=by
 unfold pP dP;split
 ·rw[cz,if_pos rfl,Dl,h _ _ (by show o+1<=max m (o+1);omega),cz,if_neg z2h,if_pos rfl,cz]
  simp only;refine Prod.ext ?_ ?_
  ·show o+1-1=o
   omega
  ·show max (max m (o+1)) (o+1+(dN n:Int))=max m (o+((dN n+1:Nat):Int))
   omega
 ·exact h o m hm
theorem z2D(over:Nat)(sep:ByteArray)(h1:sep≠bO)(h2:sep≠bC):∀(s:List Nd),(∀m∈s,CZ QT CT m)->∀o m:Int,o<=m->cz (pB QT CT over sep s) (o,m)=(o,max m (o+(dS over s:Int)))
 |[],_,o,m,hm=>by
  rw[Rb,cz,dS];congr 1;omega
 |n::r,hn,o,m,hm=>by
  rw[Dc,Kz h1 h2,Dl,z2C over (hn n (by simp)) o m hm,z2D over sep h1 h2 r (fun x hx=>hn x (by simp[hx])) _ _ (by omega),Ud];congr 1;omega
theorem Hq(over:Nat)(sep:ByteArray)(h1:sep≠bO)(h2:sep≠bC):∀(s:List Nd),(∀m∈s,CZ QT CT m)->∀o m:Int,o<=m->cz (pS QT CT over sep s) (o,m)=(o,max m (o+(dS over s:Int)))
 |[],_,o,m,hm=>by
  rw[pS,cz,dS];congr 1;omega
 |n::r,hn,o,m,hm=>by
  rw[Dp,Dl,z2C over (hn n (by simp)) o m hm,z2D over sep h1 h2 r (fun x hx=>hn x (by simp[hx])) _ _ (by omega),Ud];congr 1;omega
theorem z2E(hP:Pcs Nm QT CT):∀(N:Nat) (n:Nd),SizeOf.sizeOf n<N->Vk n->Wf Nm n->CZ QT CT n
 |0,n,h,_,_=>by omega
 |N+1,.mk kd T C s p,hN,hv,hw=>by
  have hkd:=hv.kd;rw[Vk]at hv;rw[Wf]at hw;obtain⟨hv1,hvs⟩:=hv;obtain⟨w2,w5,wc,ws⟩:=hw;have wmem:∀m∈s,Wf Nm m:=by
   clear hN hv1 hvs hkd
   induction s with
   |nil=>intro m hm;simp at hm
   |cons a r ih=>
    rw[WfL]at ws;intro m hm;rcases List.mem_cons.1 hm with rfl|hm
    ·exact ws.1
    ·exact ih ws.2 m hm
  have ih:∀m∈s,CZ QT CT m:=fun m hm=>by
   have h3:=List.sizeOf_lt_of_mem hm;simp only[Nd.mk.sizeOf_spec]at hN;exact z2E hP N m (by omega) (hvs.mem m hm) (wmem m hm)
  intro o m hm;have hk1:1<=kd:=hkd.1;have hs0:kd<=5->s=[]:=fun h5=>by
   rcases hv1 with q|q|q|q|q|q|q
   ·exact q.2.2.2
   ·exact q.2.2
   ·exact q.2.2
   ·exact q.2.2.2
   ·exact q.2.2
   ·omega
   ·omega
  rw[pN,dN];by_cases h1:kd=1
  ·rw[if_pos h1,if_pos h1,cz,if_pos rfl,cz,if_neg z2h,if_pos rfl,cz]
   simp only;refine Prod.ext ?_ ?_
   ·show o+1-1=o
    omega
   ·show max m (o+1)=max m (o+((1:Nat):Int))
    omega
  ·rw[if_neg h1,if_neg h1]
   have lf:∀(P:ByteArray),kd<=5->P≠bO->P≠bC->cz [P] (o,m)=(o,max m (o+(dS kd s:Int))):=fun P h5 a b=>by
    rw[hs0 h5,dS,Kz a b,cz];congr 1;omega
   by_cases h2:kd=2
   ·rw[if_pos h2]
    obtain⟨p,hb,_⟩:=hP.qt T (QT T) 0 (w2 h2) (z2k _);exact lf _ (by omega) (Zc hb (y:=40) rfl (by decide)) (Zc hb (y:=41) rfl (by decide))
   ·rw[if_neg h2]
    by_cases h3:kd=3
    ·rw[if_pos h3]
     obtain⟨p,hb,_⟩:=hP.ct C (CT C) 0 wc (z2k _);exact lf _ (by omega) (Zc hb (y:=40) rfl (by decide)) (Zc hb (y:=41) rfl (by decide))
    ·rw[if_neg h3]
     by_cases h4:kd=4
     ·rw[if_pos h4]
      exact lf _ (by omega) (Zc (x:=46) (y:=40) rfl rfl (by decide)) (Zc (x:=46) (y:=41) rfl rfl (by decide))
     ·rw[if_neg h4]
      by_cases h5:kd=5
      ·rw[if_pos h5]
       have:=z2l hP (w5 h5);exact lf _ (by omega) this.1 this.2
      ·rw[if_neg h5]
       by_cases h6:kd=6
       ·rw[if_pos h6,h6]
        exact Hq 6 bSp z2i.1 z2i.2 s ih o m hm
       ·rw[if_neg h6]
        by_cases h7:kd=7
        ·rw[if_pos h7,h7]
         exact Hq 7 bSl z2j.1 z2j.2 s ih o m hm
        ·rw[if_neg h7]
         split
         ·rw[Kz (Ep kd).1 (Ep kd).2]
          exact Hq kd bE Ec.1 Ec.2 s ih o m hm
         ·rw[Dl,Hq kd bE Ec.1 Ec.2 s ih o m hm,Kz (Ep kd).1 (Ep kd).2,cz]
theorem z2F(hP:Pcs Nm QT CT):∀(rs:List Rl),(∀x∈rs,Ruk Nm x)->∀m:Int,0<=m->cz (pR QT CT rs) (0,m)=(0,max m (dR rs:Int))
 |[],_,m,hm=>by
  rw[pR,cz,dR];refine Prod.ext rfl ?_;show m=max m ((0:Nat):Int);omega
 |x::r,hx,m,hm=>by
  obtain⟨hn,hv,hw⟩:=hx x (by simp);have a:=z2l hP hn;rw[pR,Kz a.1 a.2,Kz (Zc (x:=32) (y:=40) rfl rfl (by decide)) (Zc (x:=32) (y:=41) rfl rfl (by decide)),Dl,z2E hP _ x.2.1 (Nat.lt_succ_self _) hv hw 0 m hm,
   Kz (Zc (x:=10) (y:=40) rfl rfl (by decide)) (Zc (x:=10) (y:=41) rfl rfl (by decide)),z2F hP r (fun y hy=>hx y (by simp[hy])) _ (by omega),dR]
  refine Prod.ext rfl ?_;show max (max m (0+(dN x.2.1:Int))) (dR r:Int)=max m ((max (dN x.2.1) (dR r):Nat):Int);omega
theorem Hx:∀(ps:List ByteArray) (st:Int×Int),0<=st.2-> -(sz ps:Int)<=(cz ps st).1-st.1/\(cz ps st).1-st.1<=(sz ps:Int)/\0<=(cz ps st).2/\(cz ps st).2<=max st.2 (max st.1 (st.1+(sz ps:Int)))
 |[],st,h=>by
  rw[cz,sz];omega
 |p::r,st,h=>by
  rw[cz,sz];by_cases h1:p=bO
  ·rw[if_pos h1]
   have:=Hx r (st.1+1,max st.2 (st.1+1)) (by show 0<=max st.2 (st.1+1);omega);have hz:p.size=1:=by rw[h1];rfl
   simp only at this;rw[hz];omega
  ·rw[if_neg h1]
   by_cases h2:p=bC
   ·rw[if_pos h2]
    have:=Hx r (st.1-1,st.2) h;have hz:p.size=1:=by rw[h2];rfl
    simp only at this;rw[hz];omega
   ·rw[if_neg h2]
    have:=Hx r st h;omega
theorem Sw(ps:List ByteArray)(x:ByteArray)(st:Int×Int):cz (ps++[x]) st=(if x=bO then((cz ps st).1+1,max (cz ps st).2 ((cz ps st).1+1))else if x=bC then((cz ps st).1-1,(cz ps st).2)else cz ps st):=by
 rw[Dl,cz,cz]
end
end
open Go.Shelf
attribute [local go_sem] Oper.semAt_some
theorem z9t{F:Fence}(hd:F.depth=none)(k:Nat):F.room k:=fun d h=>by rw[hd]at h;cases h
theorem z9u{F:Fence}(hd:F.depth=none){m m':Nat}{P:Program}{l:Nat}{f:FuncId}{tmps:Array Value}{assign Qm:Code}{w:World}{R:Ending->World->Prop}
 (h:RoundIn F m P l f tmps assign Qm w R):RoundIn F m' P l f tmps assign Qm w R:=⟨h.1,fun c cs _=>h.2 c cs (z9t hd _)⟩
theorem Sy{F:Fence}(hd:F.depth=none){m:Nat}(m':Nat){P:Program}{l:Nat}{args:Array Value}{W:World}{R:Ending->World->Prop}(h:YieldAt F m P l args W R):YieldAt F m' P l args W R:=by
 obtain⟨fn,tmps,assign,Qm,hy,hR⟩:=h;exact⟨fn,tmps,assign,Qm,hy,z9u hd hR⟩
abbrev Pz:={T:ByteArray//T.size<=4096}
def Zj(q:List Pz):List ByteArray:=q.map Subtype.val
theorem Jz(a b:List Pz):Zj (a++b)=Zj a++Zj b:=List.map_append
theorem Kt.book{s0:Nat}(W:World)(l:Nat)(o o':Obj)(hl:s0<=l)(h:W.heap[l]? =some o)(hc:o.isCells=false):Kt s0 W (W.putObj l o'):=by
 have hne:∀j cur t fr,W.heap[j]? =some (.cells cur t fr)->j≠l:=fun j cur t fr hj e=>by
  subst e;rw[h]at hj;cases hj;cases hc
 refine⟨by simp[World.putObj],fun j cur t _ hj=>World.putObj_heap_other (hne j cur t _ hj),fun j v hv=> ?_,fun j hj o ho=>(World.putObj_heap_other (by omega)).trans ho⟩;have hj:3≠l:=fun e=>by
  subst e;unfold World.cell? at hv;rw[h]at hv;cases o<;>simp_all[Obj.isCells]
 have:(W.putObj l o').heap[3]? =W.heap[3]? :=World.putObj_heap_other hj;unfold World.cell? at hv ⊢;rw[this];exact hv
theorem z9v{s0:Nat}{rs:List Rl}(hx:∀x∈rs,Ruk Nmq x)(m Bt n cap:Nat)(so:Option Addr)(w:World)(hb:w.heap[Bt]? =some (.cells #[.slice so n cap] 24))(hr:RgV s0 w so n rs)(hT:TabIs w):
  SeqStopsK Fence.wide m prog 183 #[.pointer (some ⟨Bt,0,none⟩)] (fun x:Pz=>#[Value.string x.1]) (Kt s0) (fun ys=>Zj ys=pR qT cT rs) (fun pre=>Zj pre<+:pR qT cT rs) (pR qT cT rs).length w:=by
 intro l J Jx W hW hJ hJx hY h0;have hk:=Kt.below (s0:=s0) hW;have yl:Yl s0 l (pR qT cT rs).length (fun ps W=>∃q:List Pz,Zj q=ps/\J q W) (fun ps W=>∃q:List Pz,Zj q=ps/\Jx q W):=by
  refine⟨fun s A B ⟨q,e,h⟩ hg=>⟨q,e,hJ q A B none h hg (fun r e=>by cases e)⟩,fun m' pre x W1 ⟨q,e,h⟩ hl hz=> ?_⟩;have hq:q.length=pre.length:=by rw[<-e];simp[Zj]
  refine YieldAt.mono (Sy rfl m' (hY q ⟨x,hz⟩ W1 h (by omega))) fun e' W' hh=> ?_
  rcases hh with⟨h1,h2,h3⟩|⟨h1,h2⟩
  ·exact .inl ⟨h1,⟨_,by rw[Jz,e];rfl,h2⟩,h3⟩
  ·exact .inr ⟨h1,⟨_,by rw[Jz,e];rfl,h2⟩⟩
 refine(z9s yl hx m Bt n cap so W (hk.gram hb) (hk.rules hr) (hk.tab hT) ⟨[],rfl,h0⟩ L0q).mono fun e W' h=> ?_
 refine⟨h.1,?_⟩;rcases h.2 with⟨q,e1,e2⟩|⟨q,hq,⟨p,e1,e2⟩⟩
 ·exact .inl ⟨q,e1,e2⟩
 ·exact .inr ⟨p,by show Zj p<+:_;rw[e1];exact hq,e2⟩
theorem z9w(m:Nat)(sv:Value)(so:Option Addr)(sl sc:Nat)(w:World):CallsIn Fence.wide m prog 178 #[.agg #[.slice so sl sc]] w fun e w'=>e=.returned (.func (.func 183) #[] #[.pointer (some ⟨w.heap.size,0,none⟩)])/\w'=w.alloc (.cells #[.slice so sl sc] 24):=by
 refine callsIn_of_wp func178 rfl trivial ?_ rfl;simp only[ntmps178,List.size_toArray,List.length_cons,List.length_nil,Nat.reduceAdd,Nat.reduceSub,Array.replicate_succ,Array.replicate_zero,List.push_toArray,List.append_toArray,List.nil_append,List.cons_append]
 gi_wp2
 go_ret;exact⟨rfl,rfl⟩
theorem z9x{F:Fence}{n:Nat}{P:Program}(w:World){ops:Array Oper}{rest:List Oper}{o:Oper}{a:Act}{Q:Exit->Act->World->Prop}(hg:o.guard=none)(sl x:Operand)(t u:TypeId)
  (hop:o.op=.call {callee:=.builtin .append,args:=#[sl,x],argTypes:=#[t,u]})
  (base:Nat)(e:TypeId)(i:TypeInfo)(ht:P.underlying t=some (.slice e))(hu:P.underlying u=some .string)(hi:P.info? e=some i)(hz:i.zero=some (.int .u8 0))
  (hsize:i.size=1)(hby:i.bytes=1)
  (v:Value)(k:Nat)(xs:List Value)(hs:a.eval sl=v)(hown:w.ownsRow base e 1 v k xs)(s:ByteArray)(hx:a.eval x=.string s)
  (h63:k+s.size<=maxLen)(hbytes:k+s.size<=140737488355328)(hbase:base<=w.heap.size)
  (hK:∀v' w',w'.ownsRow base e 1 v' (k+s.size) (xs++Lib.strCells s)->w.grownBy w' v.ownBlock->wpListIn F n P ops Q rest (a.put o.dst v') w'):wpListIn F n P ops Q (o::rest) a w:=by
 refine wpListIn_plain hg fun K hK'=> ?_
 obtain⟨v',w',hrun,r1,r2,r3⟩:=Lib.run_append_own_string (P:=P) w base t u o.type e i ht hu hi hz hsize hby v k xs hown s h63 hbytes hbase;unfold Oper.wpIn;refine⟨?_,?_⟩
 ·simp[Oper.about,hop,resolve,Target.leads,Sem.run_pure]
 ·rw[Oper.semAt_plain F _ _ (by rw[hop];intro c hc';cases hc')]
  simp[execOp,hop,resolve,invoke,builtin,hs,hx,hrun,Result.andThen];exact hK' _ _ (hK v' w' r1 r2)
theorem z9y(a b:ByteArray):Lib.strCells (a++b)=Lib.strCells a++Lib.strCells b:=by
 unfold Lib.strCells;simp
theorem Kt.put{s0:Nat}{W:World}{B:Nat}{t:TypeId}{v:Value}(h:Boxed W B t v)(v':Value)(h1:¬(t=30∨t=46∨t=24))(hg:3<B)(hs0:s0<=B):Kt s0 W (W.setCell ⟨B,0,none⟩ v'):=by
 refine⟨(KeepsWalks.setCell W _ v').size,fun j cur u hu hj=>Below.heap_setCell _ _ _ j (fun e=> ?_),fun j u hv=>(((Below.refl B W).setCell (p:=⟨B,0,none⟩) L0q v').cell (p:=⟨3,j,none⟩) hg).trans hv,fun j hj o ho=>(Below.heap_setCell _ _ _ j (fun e=>by have e:j=B:=e;omega)).trans ho⟩;rw[e,show W.heap[B]? =_ from h]at hj;cases hj;exact h1 hu
theorem Kt.grown{W W1:World}{base k:Nat}{v:Value}{xs:List Value}(hr:W.ownsRow base 5 1 v k xs)(hg:W.grownBy W1 v.ownBlock)(hb:3<base)(hs:base<=W.heap.size):Kt base W W1:=by
 have hB:Below base W W1:=(Below.refl base W).grown hg hs (fun j ej=>by
  rcases hr.2 with⟨rfl,_⟩|⟨g,cap,cur,rfl,h,_,_⟩
  ·simp[Value.ownBlock]at ej
  ·obtain rfl:g=j:=by simpa [Value.ownBlock]using ej
   exact h)
 refine⟨hB.size,fun j cur u hu hj=>hg.block j (Array.getElem?_eq_some_iff.1 hj).1 (fun e=> ?_),fun j u hv=>(hB.cell (p:=⟨3,j,none⟩) hb).trans hv,fun j hj o ho=>(hB.block j hj).trans ho⟩;rcases hr.2 with⟨rfl,_⟩|⟨g,cap,cur',rfl,_,hgb,_⟩
 ·simp[Value.ownBlock]at e
 ·obtain rfl:j=g:=by simpa [Value.ownBlock]using e
  rw[hgb]at hj;cases hj;rcases hu with h|h|h<;>exact absurd h (by decide)
theorem Hj{W:World}{base e size k:Nat}{v:Value}{xs:List Value}(h:W.ownsRow base e size v k xs):∃so sc,v=.slice so k sc:=by
 rcases h.2 with⟨rfl,rfl⟩|⟨g,cap,cur,rfl,_⟩
 ·exact⟨_,_,rfl⟩
 ·exact⟨_,_,rfl⟩
theorem Uq{X Y:World}{row:Option Nat}{B:Nat}{t:TypeId}{v:Value}(h:Boxed X B t v)(hg:X.grownBy Y row)(hr:∀r,row=some r->∃o:Obj,X.heap[r]? =some o/\o.isCells=false):Boxed Y B t v:=
 boxed_own (β:=Unit) B t (fun _=>v) () X Y row h hg hr
theorem z2G{a:ByteArray}{l:List UInt8}(h:(a.toList == l)=true):a={data:=⟨l⟩}:=Classical.byContradiction fun hn=>by rw[Jv hn]at h;cases h
theorem Sf{a:ByteArray}{l:List UInt8}(h:(a.toList == l)=false):a≠{data:=⟨l⟩}:=fun e=>by
 subst e;rw[ByteArray.toList_eq]at h;simp at h
theorem z9z{w:World}{base n:Nat}{v:Value}{T:ByteArray}(h:w.ownsRow base 5 1 v n (Lib.strCells T)):(convert 84 9 v).run prog w=.ok (.string T) w:=by
 have e:Lib.strCells T=nv (T.data.toList.map UInt8.toNat):=by
  unfold Lib.strCells nv;rw[List.map_map];rfl
 rw[e]at h;rw[Ld h (fun x hx=>by
  obtain⟨y,_,rfl⟩:=List.mem_map.1 hx;exact y.toNat_lt)]
 congr 2;apply ByteArray.ext;unfold nb;rw[List.map_map,show(UInt8.ofNat ∘ UInt8.toNat)=id from funext fun x=>by simp,List.map_id]
def Fz(rs:List Rl):Value:=if 8192<sz (pR qT cT rs)then .tuple #[.string ⟨#[]⟩,.iface 54 (.int .i64 2)]else if 24<dR rs then .tuple #[.string ⟨#[]⟩,.iface 54 (.int .i64 20)]else .tuple #[.string (cat (pR qT cT rs)),.nilIface]
theorem Sg{rs:List Rl}(h:8192<sz (pR qT cT rs)):Fz rs=.tuple #[.string ⟨#[]⟩,.iface 54 (.int .i64 2)]:=if_pos h
theorem Sb{rs:List Rl}(h:sz (pR qT cT rs)<=8192)(h2:24<dR rs):Fz rs=.tuple #[.string ⟨#[]⟩,.iface 54 (.int .i64 20)]:=(if_neg (by omega)).trans (if_pos h2)
theorem Af{rs:List Rl}(h:sz (pR qT cT rs)<=8192)(h2:dR rs<=24):Fz rs=.tuple #[.string (cat (pR qT cT rs)),.nilIface]:=(if_neg (by omega)).trans (if_neg (by omega))
theorem z2H:∀{A B:List ByteArray},A<+:B->sz A<=sz B
 |[],B,_=>Nat.zero_le _
 |a::A,B,h=>by
  obtain⟨t,rfl⟩:=h;have:=z2H (A:=A) (B:=A++t) ⟨t,rfl⟩;rw[List.cons_append,sz,sz];omega
structure Tm (s:Nat) (ps:List ByteArray) (o m:Int) (W:World):Prop where
 out:∃v,Boxed W (s+1+1+1) 84 v/\W.ownsRow s 5 1 v (sz ps) (Lib.strCells (cat ps))/\True
 op:Boxed W (s+1+1+1+1) 3 (.int .i64 o)
 mo:Boxed W (s+1+1+1+1+1) 3 (.int .i64 m)
 rs:Boxed W (s+1) 9 (.string ⟨#[]⟩)
 re:Boxed W (s+1+1) 37 .nilIface
structure Txs (s:Nat) (ps:List ByteArray) (W:World):Prop where
 tm:Tm s ps (cz ps (0,0)).1 (cz ps (0,0)).2 W
 le:sz ps<=8192
structure Txz (s:Nat) (ps:List ByteArray) (c:Code) (W:World):Prop where
 ret:c=.ret
 rs:Boxed W (s+1) 9 (.string ⟨#[]⟩)
 re:Boxed W (s+1+1) 37 (.iface 54 (.int .i64 2))
 gt:8192<sz ps
structure Rn (s:Nat) (W:World) (ps:List ByteArray) (o m:Int) (W':World):Prop where
 tm:Tm s ps o m W'
 ko:KeepsOthers W W'
 kt:Kt s W W'
 be:Below s W W'
theorem z9A(ps:List ByteArray)(x:ByteArray):cat (ps++[x])=cat ps++x:=by
 induction ps with
 |nil=>apply ByteArray.ext;simp[cat]
 |cons p r ih=>rw[List.cons_append,cat,cat,ih,ByteArray.append_assoc]
theorem Ag(ps:List ByteArray)(x:ByteArray):sz (ps++[x])=sz ps+x.size:=by
 induction ps with
 |nil=>simp[sz]
 |cons p r ih=>rw[List.cons_append,sz,sz,ih];omega
theorem Tm.start{s:Nat}{ps:List ByteArray}{x:ByteArray}{o m:Int}{W w1:World}{v v':Value}(t:Tm s ps o m W)(hv:Boxed W (s+1+1+1) 84 v)(hrow:W.ownsRow s 5 1 v (sz ps) (Lib.strCells (cat ps)))(hown:w1.ownsRow s 5 1 v' (sz ps+x.size) (Lib.strCells (cat ps)++Lib.strCells x))(hgrow:W.grownBy w1 v.ownBlock)(hg:3<s)(hs:s<=W.heap.size):Rn s W (ps++[x]) o m (w1.setCell ⟨s+1+1+1,0,none⟩ v'):=by
 have hv1:=hv.kept hgrow (hv.not_row (by decide) hrow);have hB:Below s W w1:=(Below.refl s W).grown hgrow hs (fun j ej=>by
  rcases hrow.2 with⟨rfl,_⟩|⟨g,cap,cur,rfl,h,_,_⟩
  ·simp[Value.ownBlock]at ej
  ·obtain rfl:g=j:=by simpa [Value.ownBlock]using ej
   exact h)
 refine⟨⟨⟨v',hv1.set v',?_,trivial⟩,(t.op.kept hgrow (t.op.not_row (by decide) hrow)).other (by omega) _,(t.mo.kept hgrow (t.mo.not_row (by decide) hrow)).other (by omega) _,(t.rs.kept hgrow (t.rs.not_row (by decide) hrow)).other (by omega) _,(t.re.kept hgrow (t.re.not_row (by decide) hrow)).other (by omega) _⟩,?_,(Kt.grown hrow hgrow hg hs).trans (Kt.put hv1 v' (by decide) (by omega) (by omega)),hB.setCell (p:=⟨s+1+1+1,0,none⟩) (by show s<=s+1+1+1;omega) v'⟩
 ·rw[Ag,z9A,z9y]
  exact hown.kept (grownBy_setCell' w1 _ v') (.inr (hv1.not_row (by decide) hown).symm)
 ·refine(KeepsOthers.of_grownBy hgrow fun j o ej hj=> ?_).trans (KeepsOthers.setCell _ _ _)
  rcases hrow.2 with⟨rfl,_⟩|⟨g,cap,cur,rfl,_,hgb,_⟩
  ·simp[Value.ownBlock]at ej
  ·obtain rfl:g=j:=by simpa [Value.ownBlock]using ej
   rw[hgb]at hj;cases hj;rfl
theorem Rn.setOp{s:Nat}{ps:List ByteArray}{o m:Int}{W W':World}(h:Rn s W ps o m W')(o':Int)(hg:3<s):Rn s W ps o' m (W'.setCell ⟨s+1+1+1+1,0,none⟩ (.int .i64 o')):=by
 obtain⟨⟨⟨v,hv,hr,_⟩,op,mo,rs,re⟩,ko,kt,be⟩:=h;exact⟨⟨⟨v,hv.other (by omega) _,hr.kept (grownBy_setCell' _ _ _) (.inr (op.not_row (by decide) hr).symm),trivial⟩,op.set _,mo.other (by omega) _,rs.other (by omega) _,re.other (by omega) _⟩,ko.trans (KeepsOthers.setCell _ _ _),kt.trans (Kt.put op _ (by decide) (by omega) (by omega)),be.setCell (p:=⟨s+1+1+1+1,0,none⟩) (by show s<=s+1+1+1+1;omega) _⟩
theorem Rn.setMo{s:Nat}{ps:List ByteArray}{o m:Int}{W W':World}(h:Rn s W ps o m W')(m':Int)(hg:3<s):Rn s W ps o m' (W'.setCell ⟨s+1+1+1+1+1,0,none⟩ (.int .i64 m')):=by
 obtain⟨⟨⟨v,hv,hr,_⟩,op,mo,rs,re⟩,ko,kt,be⟩:=h;exact⟨⟨⟨v,hv.other (by omega) _,hr.kept (grownBy_setCell' _ _ _) (.inr (mo.not_row (by decide) hr).symm),trivial⟩,op.other (by omega) _,mo.set _,rs.other (by omega) _,re.other (by omega) _⟩,ko.trans (KeepsOthers.setCell _ _ _),kt.trans (Kt.put mo _ (by decide) (by omega) (by omega)),be.setCell (p:=⟨s+1+1+1+1+1,0,none⟩) (by show s<=s+1+1+1+1+1;omega) _⟩
theorem z9B(s:Nat):Own (fun(pre:List Pz) W=>Txs s (Zj pre) W):=by
 intro pre A B row h hg hr;exact⟨⟨holdsRow_own s (s+1+1+1) 84 5 1 (fun p:List Pz=>sz (Zj p)) (fun p=>Lib.strCells (cat (Zj p))) (fun _ _=>True) pre A B row h.tm.out hg hr,Uq h.tm.op hg hr,Uq h.tm.mo hg hr,Uq h.tm.rs hg hr,Uq h.tm.re hg hr⟩,h.le⟩
theorem z9C(s:Nat)(c:Code):Own (fun(pre:List Pz) W=>Txz s (Zj pre) c W):=by
 intro pre A B row h hg hr;exact⟨h.ret,Uq h.rs hg hr,Uq h.re hg hr,h.gt⟩
theorem z9D{rs:List Rl}(hx:∀x∈rs,Ruk Nmq x)(n cap:Nat)(so:Option Addr)(W:World)(hr:RgV W.heap.size W so n rs)(hT:TabIs W):
  Calls prog 171 #[.agg #[.slice so n cap]] W fun e W'=>e=.returned (Fz rs)/\Below W.heap.size W W':=by
 refine(callsIn_wide (n:=5)).1 ?_;have hdd:=Xg;refine callsIn_of_wp_marks func171 rfl trivial ?_ rfl;simp only[ntmps171,List.size_toArray,List.length_cons,List.length_nil,Nat.reduceAdd,Nat.reduceSub,Array.replicate_succ,Array.replicate_zero,List.push_toArray,List.append_toArray,List.nil_append,List.cons_append]
 gi_wp2_with (refine⟨trivial,?_⟩;gi_at_call 178;refine(z9w _ (.slice none 0 0) _ _ _ _).mono ?_;rintro e w' ⟨rfl,rfl⟩)
 have hB0:Below W.heap.size W (((((((W.alloc (.cells #[.slice so n cap] 24)).alloc (.cells #[.string ⟨#[]⟩] 9)).alloc (.cells #[.nilIface] 37)).alloc (.cells #[.slice none 0 0] 84)).alloc (.cells #[.int .i64 0] 3)).alloc (.cells #[.int .i64 0] 3)).alloc (.cells #[.slice so n cap] 24)):=
  (((((((Below.refl _ W).alloc L0q _).alloc (by simp) _).alloc (by simp;omega) _).alloc (by simp;omega) _).alloc (by simp;omega) _).alloc (by simp;omega) _).alloc (by simp;omega) _
 have b1:=Boxed.new (W.alloc (.cells #[.slice so n cap] 24)) 9 (.string ⟨#[]⟩);have b2:=Boxed.new ((W.alloc (.cells #[.slice so n cap] 24)).alloc (.cells #[.string ⟨#[]⟩] 9)) 37 .nilIface;have b3:=Boxed.new (((W.alloc (.cells #[.slice so n cap] 24)).alloc (.cells #[.string ⟨#[]⟩] 9)).alloc (.cells #[.nilIface] 37)) 84 (.slice none 0 0);have b4:=Boxed.new ((((W.alloc (.cells #[.slice so n cap] 24)).alloc (.cells #[.string ⟨#[]⟩] 9)).alloc (.cells #[.nilIface] 37)).alloc (.cells #[.slice none 0 0] 84)) 3 (.int .i64 0);have b5:=Boxed.new (((((W.alloc (.cells #[.slice so n cap] 24)).alloc (.cells #[.string ⟨#[]⟩] 9)).alloc (.cells #[.nilIface] 37)).alloc (.cells #[.slice none 0 0] 84)).alloc (.cells #[.int .i64 0] 3)) 3 (.int .i64 0);have b6:=Boxed.new ((((((W.alloc (.cells #[.slice so n cap] 24)).alloc (.cells #[.string ⟨#[]⟩] 9)).alloc (.cells #[.nilIface] 37)).alloc (.cells #[.slice none 0 0] 84)).alloc (.cells #[.int .i64 0] 3)).alloc (.cells #[.int .i64 0] 3)) 24 (.slice so n cap);simp only[World.size_alloc]at b1 b2 b3 b4 b5 b6;have hk0:=Kt.below (s0:=W.heap.size) hB0;have hTg:3<W.heap.size:=hT.lt;obtain⟨i0,hi0,hz0,hz1,hz2⟩:=info_parts Tryz.infoByte;refine wpIn_rangeFunc_ownF rfl (by omega) (gf:=183) (lb:=#[.pointer (some ⟨W.heap.size+1+1+1+1+1+1,0,none⟩)]) rfl trivial (enters_of func183 (by kernel_rfl) rfl)
  (z9v hx _ _ n cap so _ b6 (hk0.rules hr) (hk0.tab hT)) Kt.trans (fun W' l o o' h1 h2 h3 h4=>Kt.book W' l o o' (Nat.le_trans hB0.size h1) h2 h3) B0q (fun _=>rfl)
  (fun pre W'=>Txs W.heap.size (Zj pre) W'/\Below W.heap.size W W')
  (fun c pre W'=>Txz W.heap.size (Zj pre) c W'/\Below W.heap.size W W')
  (OwnFrom.and (Own.from (z9B _) _) (ownFrom_below L0q (by simp;omega)))
  (fun c=>OwnFrom.and (Own.from (z9C _ c) _) (ownFrom_below L0q (by simp;omega)))
  ⟨⟨⟨⟨_,((b3.alloc _).alloc _).alloc _,World.ownsRow_nil _ _ _ _,trivial⟩,(b4.alloc _).alloc _,b5.alloc _,((((b1.alloc _).alloc _).alloc _).alloc _).alloc _,(((b2.alloc _).alloc _).alloc _).alloc _⟩,by decide⟩,hB0⟩
  (fun x=>{tmps:=#[.agg #[.slice so n cap],.pointer (some ⟨W.heap.size,0,none⟩),.pointer (some ⟨W.heap.size+1,0,none⟩),.pointer (some ⟨W.heap.size+1+1,0,none⟩),.pointer (some ⟨W.heap.size+1+1+1,0,none⟩),.pointer (some ⟨W.heap.size+1+1+1+1,0,none⟩),.pointer (some ⟨W.heap.size+1+1+1+1+1,0,none⟩),.string x.1,.agg #[.slice so n cap],.func (.func 183) #[] #[.pointer (some ⟨W.heap.size+1+1+1+1+1+1,0,none⟩)],.string x.1,undef,undef,undef,undef,undef,undef,undef,undef,undef,undef,undef,undef,undef,undef,undef,undef,undef,undef,undef,undef,undef,undef,undef,undef],defers:=[]}) ?assign ?Qm ?done ?stop
 case assign=>
  intro l x W K hK
  gi_wp2
  exact hK
 case Qm=>
  rintro l pre x W2 ⟨⟨tx,hle⟩,hB⟩ hlt;obtain⟨v,hv,hrow,_⟩:=tx.out;have hc3:=hv.cell;have hxz:=x.2;have hcz:=Hx (Zj pre) (0,0) (by decide)
  gi_wp2_with (gi_at_builtin;refine z9x _ rfl _ _ 84 9 rfl W.heap.size 5 i0 Tryz.underlying84 Tryz.underlying9 hi0 hz0 hz1 hz2 v _ _ rfl hrow x.1 rfl (by unfold maxLen;omega) (by omega) hB.size ?_;intro v' w1 hown' hgrow;obtain⟨so,sc,rfl⟩:=Hj hown';have RN:=Tm.start tx hv hrow hown' hgrow hTg hB.size;have hv1:=hv.kept hgrow (hv.not_row (by decide) hrow);have hc1:=hv1.cell;have hf1:=hv1.frozen;have c4:=(tx.op.kept hgrow (tx.op.not_row (by decide) hrow)).cell;have f4:=(tx.op.kept hgrow (tx.op.not_row (by decide) hrow)).frozen;have c5:=(tx.mo.kept hgrow (tx.mo.not_row (by decide) hrow)).cell;have f5:=(tx.mo.kept hgrow (tx.mo.not_row (by decide) hrow)).frozen;have c2:=(tx.re.kept hgrow (tx.re.not_row (by decide) hrow)).cell;have f2:=(tx.re.kept hgrow (tx.re.not_row (by decide) hrow)).frozen;have c1:=(tx.rs.kept hgrow (tx.rs.not_row (by decide) hrow)).cell;have f1:=(tx.rs.kept hgrow (tx.rs.not_row (by decide) hrow)).frozen)
  ·rename_i hgt
   refine⟨(RN.ko.trans (KeepsOthers.setCell _ _ _)).trans (KeepsOthers.setCell _ _ _),⟨rfl,(RN.tm.rs.set _).other (by omega) _,(RN.tm.re.other (by omega) _).set _,?_⟩,((hB.trans RN.be).setCell (p:=⟨W.heap.size+1,0,none⟩) (by simp) _).setCell (p:=⟨W.heap.size+1+1,0,none⟩) (by show W.heap.size<=_+1+1;omega) _⟩;rw[Jz];show 8192<sz (Zj pre++[x.1]);rw[Ag];omega
  ·rename_i hle2 h40
   have e40:x.1=bO:=z2G h40;have e1:cz (Zj (pre++[x])) (0,0)=((cz (Zj pre) (0,0)).1+1,max (cz (Zj pre) (0,0)).2 ((cz (Zj pre) (0,0)).1+1)):=by
    rw[Jz];exact(Sw _ _ _).trans (if_pos e40)
   have R2:=(RN.setOp ((cz (Zj pre) (0,0)).1+1) hTg).setMo (max (cz (Zj pre) (0,0)).2 ((cz (Zj pre) (0,0)).1+1)) hTg;exact⟨R2.ko,R2.kt,⟨by rw[e1,Jz];exact R2.tm,by rw[Jz];show sz (Zj pre++[x.1])<=8192;rw[Ag];omega⟩,hB.trans R2.be⟩
  ·rename_i hle2 h40 h41
   have e40:x.1≠bO:=Sf h40;have e41:x.1=bC:=z2G h41;have e1:cz (Zj (pre++[x])) (0,0)=((cz (Zj pre) (0,0)).1-1,(cz (Zj pre) (0,0)).2):=by
    rw[Jz];exact(Sw _ _ _).trans ((if_neg e40).trans (if_pos e41))
   have R2:=RN.setOp ((cz (Zj pre) (0,0)).1-1) hTg;exact⟨R2.ko,R2.kt,⟨by rw[e1,Jz];exact R2.tm,by rw[Jz];show sz (Zj pre++[x.1])<=8192;rw[Ag];omega⟩,hB.trans R2.be⟩
  ·rename_i hle2 h40 h41
   have e40:x.1≠bO:=Sf h40;have e41:x.1≠bC:=Sf h41;have e1:cz (Zj (pre++[x])) (0,0)=cz (Zj pre) (0,0):=by
    rw[Jz];exact(Sw _ _ _).trans ((if_neg e40).trans (if_neg e41))
   exact⟨RN.ko,RN.kt,⟨by rw[e1,Jz];exact RN.tm,by rw[Jz];show sz (Zj pre++[x.1])<=8192;rw[Ag];omega⟩,hB.trans RN.be⟩
 case done=>
  rintro D ys W2 hD hys ⟨⟨tx,hle⟩,hB⟩ hK;rw[hys]at tx hle;obtain⟨v,hv,hrow,_⟩:=tx.out;have hc3:=hv.cell;have c1:=tx.rs.cell;have f1:=tx.rs.frozen;have c2:=tx.re.cell;have f2:=tx.re.frozen;have c5:=tx.mo.cell;have cv:=z9z hrow;have hmo:(cz (pR qT cT rs) (0,0)).2=(dR rs:Int):=by
   rw[z2F z2v rs (fun x hx'=>hx x hx') 0 (by decide)];show max (0:Int) (dR rs:Int)=_;omega
  rw[hmo]at c5
  gi_wp2
  ·rename_i h24
   have hdp:24<dR rs:=by omega
   rw[Sb hle hdp];have hK':=((KeepsOthers.setCell W2 ⟨W.heap.size+1,0,none⟩ (.string ⟨#[]⟩)).trans (KeepsOthers.setCell _ ⟨W.heap.size+1+1,0,none⟩ (.iface 54 (.int .i64 20)))).same D _ hK rfl;refine⟨by simp,.inl ⟨_,_,rfl,run_takeDeferred hK',?_⟩⟩;have hg:=grownBy_putObj' ((W2.setCell ⟨W.heap.size+1,0,none⟩ (.string ⟨#[]⟩)).setCell ⟨W.heap.size+1+1,0,none⟩ (.iface 54 (.int .i64 20))) D (.deferred none);have d1:=(Uq ((tx.rs.set (.string ⟨#[]⟩)).other (B':=W.heap.size+1+1) (by omega) (.iface 54 (.int .i64 20))) hg (fun r e=>by cases e;exact⟨_,hK',rfl⟩)).cell;have d2:=(Uq ((tx.re.other (B':=W.heap.size+1) (by omega) (.string ⟨#[]⟩)).set (.iface 54 (.int .i64 20))) hg (fun r e=>by cases e;exact⟨_,hK',rfl⟩)).cell;refine⟨.tuple #[.string ⟨#[]⟩,.iface 54 (.int .i64 20)],?_,rfl,((hB.setCell (p:=⟨W.heap.size+1,0,none⟩) (by simp) _).setCell (p:=⟨W.heap.size+1+1,0,none⟩) (by show W.heap.size<=_+1+1;omega) _).trans (belowK_b (w:=W) L0q _ D _ _ (by simp at hD;omega) hK' rfl rfl)⟩;simp[results,Tryz.f171,go_sem,d1,d2]
  ·rename_i h24
   have hdp:dR rs<=24:=by omega
   rw[Af hle hdp];have hK':=((KeepsOthers.setCell W2 ⟨W.heap.size+1,0,none⟩ (.string (cat (pR qT cT rs)))).trans (KeepsOthers.setCell _ ⟨W.heap.size+1+1,0,none⟩ .nilIface)).same D _ hK rfl;refine⟨by simp,.inl ⟨_,_,rfl,run_takeDeferred hK',?_⟩⟩;have hg:=grownBy_putObj' ((W2.setCell ⟨W.heap.size+1,0,none⟩ (.string (cat (pR qT cT rs)))).setCell ⟨W.heap.size+1+1,0,none⟩ .nilIface) D (.deferred none);have d1:=(Uq ((tx.rs.set (.string (cat (pR qT cT rs)))).other (B':=W.heap.size+1+1) (by omega) .nilIface) hg (fun r e=>by cases e;exact⟨_,hK',rfl⟩)).cell;have d2:=(Uq ((tx.re.other (B':=W.heap.size+1) (by omega) (.string (cat (pR qT cT rs)))).set .nilIface) hg (fun r e=>by cases e;exact⟨_,hK',rfl⟩)).cell;refine⟨.tuple #[.string (cat (pR qT cT rs)),.nilIface],?_,rfl,((hB.setCell (p:=⟨W.heap.size+1,0,none⟩) (by simp) _).setCell (p:=⟨W.heap.size+1+1,0,none⟩) (by show W.heap.size<=_+1+1;omega) _).trans (belowK_b (w:=W) L0q _ D _ _ (by simp at hD;omega) hK' rfl rfl)⟩;simp[results,Tryz.f171,go_sem,d1,d2]
 case stop=>
  rintro D c pre W2 hD hpre ⟨⟨rfl,bs,be,hgt⟩,hB⟩ hK;have hlong:8192<sz (pR qT cT rs):=Nat.lt_of_lt_of_le hgt (z2H hpre)
  gi_wp2
  rw[Sg hlong];refine⟨by simp,.inl ⟨_,_,rfl,run_takeDeferred hK,?_⟩⟩;have hg:=grownBy_putObj' W2 D (.deferred none);have d1:=(Uq bs hg (fun r e=>by cases e;exact⟨_,hK,rfl⟩)).cell;have d2:=(Uq be hg (fun r e=>by cases e;exact⟨_,hK,rfl⟩)).cell;refine⟨.tuple #[.string ⟨#[]⟩,.iface 54 (.int .i64 2)],?_,rfl,hB.trans (belowK_b (w:=W) L0q _ D _ _ (by simp at hD;omega) hK rfl rfl)⟩;simp[results,Tryz.f171,go_sem,d1,d2]
end Go.Proofs.YtgmcjddjdidpjabGreatDoor
