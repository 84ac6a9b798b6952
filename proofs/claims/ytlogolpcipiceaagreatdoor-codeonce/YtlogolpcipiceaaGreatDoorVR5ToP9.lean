/- Lemmas for the last text. Conditions: those that each names. -/
import Derived.Test.YtlogolpcipiceaaGreatDoorVR4
import Derived.Test.YtlogolpcipiceaaGreatDoorVXMvToP5
import Derived.Test.YtlogolpcipiceaaGreatDoorVY15ToR1
set_option linter.unusedVariables false
set_option maxRecDepth 100000
set_option maxHeartbeats 8000000
namespace Go.Proofs.YtlogolpcipiceaaGreatDoor
open Go.Proofs.Tryz
section
open Go.RowKit Go.Shelf
abbrev qT:ByteArray->ByteArray:=fun T=>nb (qt T)
abbrev cT:Nat->ByteArray:=fun C=>nb (txt C)
abbrev Nmq:ByteArray->Prop:=fun T=>nmS T=true
theorem z8u{T:ByteArray}(h:T.size<=255):(nb (qt T)).size<=4096:=by
 rw[Yc];unfold qt;have:=(Bm T T.size).1;rw[List.length_append];show _+1<=_;omega
theorem z8v(C:Nat):(nb (txt C)).size<=4096:=by
 rw[Yc];have h1:=Lm (rs C 256).reverse;have h2:=Nc C 256;unfold txt;simp at h1 ⊢;omega
theorem Cg{T:ByteArray}(h:nmS T=true):T.size<=4096:=by
 have:=(z1K.nm T h).1;omega
section
variable {s0 l N:Nat} {J Jx:List ByteArray->World->Prop}
theorem z1Q(hY:Yl s0 l N J Jx):∀(M:Nat) (n:Nd),SizeOf.sizeOf n<M->Vk n->Wf Nmq n->YN s0 l N J Jx qT cT n
 |0,n,h,_,_=>by omega
 |M+1,.mk kd T C s pn,hM,hv,hw=>by
  have hv0:=hv;have hkd:=hv.kd;rw[Vk]at hv;rw[Wf]at hw;obtain⟨hv1,hvs⟩:=hv;obtain⟨w2,w5,wc,ws⟩:=hw;have wmem:∀m∈s,Wf Nmq m:=by
   clear hM hv1 hvs hkd hv0
   induction s with
   |nil=>intro m hm;simp at hm
   |cons a r ih=>
    rw[WfL]at ws;intro m hm;rcases List.mem_cons.1 hm with rfl|hm
    ·exact ws.1
    ·exact ih ws.2 m hm
  have ih:∀m∈s,YN s0 l N J Jx qT cT m/\1<=m.kd/\m.kd<=12:=fun m hm=>by
   have h3:=List.sizeOf_lt_of_mem hm;simp only[Nd.mk.sizeOf_spec]at hM;exact⟨z1Q hY M m (by omega) (hvs.mem m hm) (wmem m hm),(hvs.mem m hm).kd⟩
  have hse:6<=kd->s.isEmpty=false:=fun h6=>by
   have:0<s.length:=by
    rcases hv1 with q|q|q|q|q|q|q<;>omega
   cases s with
   |nil=>simp at this
   |cons _ _=>rfl
  have hs1:8<=kd->s.length=1:=fun h8=>by
   rcases hv1 with q|q|q|q|q|q|q<;>omega
  intro m cs pre W hn hT hJ hl;have hk1:1<=kd:=hkd.1;have hk2:kd<=12:=hkd.2;have hn0:=hn;obtain⟨so,sl,sc,p,rfl⟩:=z1M hn;have hpar:∀(sep:ByteArray),sep.size<=4096->6<=kd->∀(pre':List ByteArray),pre'.length+(pS qT cT kd sep s).length<=N->∀W1,Kt s0 W W1->J pre' W1->CallsIn Fence.wide (m-1) prog 302 #[.agg (v8 kd T C (.slice so sl sc) p).toArray,.string sep,.func (.yield l) #[] #[]] W1 (Yp s0 J Jx pre' (pS qT cT kd sep s) W1):=fun sep hz h6 pre' hl' W1 hk hJ1=>
   z8h hY (hse h6) ih sep hz (m-1) _ pre' W1 h6 hk2 (hk.node hn0) (hk.tab hT) hJ1 hl'
  rw[pN]at hl ⊢;have hc:kd=1∨kd=2∨kd=3∨kd=4∨kd=5∨kd=6∨kd=7∨kd=8∨kd=9∨kd=10∨kd=11∨kd=12:=by omega
  clear hn hn0 ih hvs wmem ws hM hv1;rcases hc with rfl|rfl|rfl|rfl|rfl|rfl|rfl|rfl|rfl|rfl|rfl|rfl
  ·exact z8i hY m T C p so sl sc pre W hJ hl
  ·exact z8l hY m T C p so sl sc pre W (w2 rfl) (z8u (w2 rfl)) hJ hl
  ·exact z8m hY m T C p so sl sc pre W wc (z8v C) hT hJ hl
  ·exact z8j hY m T C p so sl sc pre W hJ hl
  ·exact z8k hY m T C p so sl sc pre W (Cg (w5 rfl)) hJ hl
  ·exact z8n hY m T C p so sl sc pre W _ (hpar bSp (by decide) (by decide) pre hl) hJ
  ·exact z8o hY m T C p so sl sc pre W _ (hpar bSl (by decide) (by decide) pre hl) hJ
  ·exact z8r hY m T C p so sl sc pre W _ (hpar bE (by decide) (by decide) pre (by simp at hl;omega)) hJ (by simp at hl;omega)
  ·exact z8s hY m T C p so sl sc pre W _ (hpar bE (by decide) (by decide) pre (by simp at hl;omega)) hJ (by simp at hl;omega)
  ·exact z8t hY m T C p so sl sc pre W _ (hpar bE (by decide) (by decide) pre (by simp at hl;omega)) hJ (by simp at hl;omega)
  ·exact z8p hY m T C p so sl sc pre W _ (hpar bE (by decide) (by decide) (pre++[bsg 11]) (by simp at hl ⊢;omega)) hJ (by simp at hl;omega)
  ·exact z8q hY m T C p so sl sc pre W _ (hpar bE (by decide) (by decide) (pre++[bsg 12]) (by simp at hl ⊢;omega)) hJ (by simp at hl;omega)
end
end
open Go.RowKit
structure Pre (X:ByteArray):Prop where
 b0:bt X 0=some 114
 b1:bt X 1=some 117
 b2:bt X 2=some 108
 b3:bt X 3=some 101
 b4:bt X 4=some 32
 b5:bt X 5=some 60
 b6:bt X 6=some 45
 b7:bt X 7=some 32
def SG(w:World)(g n cap g' cap':Nat)(W:World):Prop:=Below w.heap.size w W/\W.cell? ⟨w.heap.size,0,none⟩=some (.slice (some ⟨g,0,none⟩) n cap)/\W.cell? ⟨w.heap.size+1,0,none⟩=some (.slice (some ⟨g',0,none⟩) n cap')/\w.heap.size+2<=W.heap.size
theorem SG.below{w W W':World}{g n cap g' cap':Nat}(h:SG w g n cap g' cap' W)(hb:Below W.heap.size W W'):SG w g n cap g' cap' W':=by
 obtain⟨h1,h2,h3,h4⟩:=h;exact⟨h1.trans (hb.mono h1.size),(hb.cell (p:=⟨w.heap.size,0,none⟩) (show w.heap.size<_ by omega)).trans h2,(hb.cell (p:=⟨w.heap.size+1,0,none⟩) (show w.heap.size+1<_ by omega)).trans h3,Nat.le_trans h4 hb.size⟩
theorem RoR.len{B n cap:Nat}{so:Option Addr}{rs:List Rl}{W:World}(h:RoR B (.slice so n cap) rs W):n=rs.length:=by
 obtain⟨xs,h1,_⟩:=h;obtain⟨hl,⟨hq,hx⟩|⟨g',cap',cur,hq,_⟩⟩:=h1
 ·injection hq with _ h2 _
  rw[hx]at hl;simp at hl;omega
 ·injection hq
theorem RoR.lt{B g n cap:Nat}{rs:List Rl}{W:World}(h:RoR B (.slice (some ⟨g,0,none⟩) n cap) rs W):g<W.heap.size:=by
 obtain⟨xs,h1,_⟩:=h;exact(h1.lt g rfl).2
section
open Go.Shelf
attribute [local go_sem] Oper.semAt_some
theorem Kt.ten{s0:Nat}{W W':World}(h:Kt s0 W W'){g:Nat}{cur:Array Value}(hg:W.heap[g]? =some (.cells cur 73)):W'.heap[g]? =some (.cells cur 73):=
 (h.2.1 g _ _ (.inr (.inl rfl)) hg).trans hg
theorem Kt.gram{s0:Nat}{W W':World}(h:Kt s0 W W'){g:Nat}{cur:Array Value}(hg:W.heap[g]? =some (.cells cur 24)):W'.heap[g]? =some (.cells cur 24):=
 (h.2.1 g _ _ (.inr (.inr rfl)) hg).trans hg
def Rv(s0:Nat)(W:World)(g o:Nat)(x:Rl):Prop:=∃kd T C so sl sc p q,
 NdV s0 W x.2.1 (v8 kd T C (.slice so sl sc) p)/\W.cell? ⟨g,o,none⟩=some (.string x.1)/\W.cell? ⟨g,o+1,none⟩=some (.int .i64 kd)/\W.cell? ⟨g,o+2,none⟩=some (.string T)/\W.cell? ⟨g,o+3,none⟩=some (.int .u64 (wd C 0))/\W.cell? ⟨g,o+4,none⟩=some (.int .u64 (wd C 1))/\W.cell? ⟨g,o+5,none⟩=some (.int .u64 (wd C 2))/\W.cell? ⟨g,o+6,none⟩=some (.int .u64 (wd C 3))/\W.cell? ⟨g,o+7,none⟩=some (.slice so sl sc)/\W.cell? ⟨g,o+8,none⟩=some (.int .i64 p)/\W.cell? ⟨g,o+9,none⟩=some (.int .i64 q)
def RgV(s0:Nat)(W:World)(so:Option Addr)(n:Nat)(rs:List Rl):Prop:=n=rs.length/\n<=maxLen/\∀j (hj:j<rs.length),∃g o,so=some ⟨g,o,none⟩/\g<s0/\Rv s0 W g (o+j*10) rs[j]
theorem Kt.rules{s0:Nat}{W W':World}(h:Kt s0 W W'){so:Option Addr}{n:Nat}{rs:List Rl}(hr:RgV s0 W so n rs):RgV s0 W' so n rs:=
 ⟨hr.1,hr.2.1,fun j hj=>by
   obtain⟨g,o,h1,hg,kd,T,C,so,sl,sc,p,q,h2,z0,z1,z2,z3,z4,z5,z6,z7,z8,z9⟩:=hr.2.2 j hj;exact⟨g,o,h1,hg,kd,T,C,so,sl,sc,p,q,h.node h2,h.cell hg z0,h.cell hg z1,h.cell hg z2,h.cell hg z3,h.cell hg z4,h.cell hg z5,h.cell hg z6,h.cell hg z7,h.cell hg z8,h.cell hg z9⟩⟩
theorem Pv(QT:ByteArray->ByteArray)(CT:Nat->ByteArray):∀(a b:List Rl),pR QT CT (a++b)=pR QT CT a++pR QT CT b
 |[],b=>rfl
 |x::r,b=>by rw[List.cons_append,pR,pR,Pv QT CT r b];simp
theorem z8w(QT:ByteArray->ByteArray)(CT:Nat->ByteArray)(rs:List Rl)(j:Nat)(hj:j<rs.length):pR QT CT (rs.take (j+1))=pR QT CT (rs.take j)++(rs[j].1::bAr::(pN QT CT rs[j].2.1++[bNl])):=by
 rw[show rs.take (j+1)=rs.take j++[rs[j]] by simp,Pv,pR,pR]
theorem z8x(QT:ByteArray->ByteArray)(CT:Nat->ByteArray)(rs:List Rl)(j:Nat):∃r,pR QT CT rs=pR QT CT (rs.take j)++r:=by
 refine⟨pR QT CT (rs.drop j),?_⟩;rw[<-Pv,List.take_append_drop]
section
variable {s0 l N:Nat} {J Jx:List ByteArray->World->Prop}
theorem z8y(hY:Yl s0 l N J Jx){rs:List Rl}(hx:∀x∈rs,Ruk Nmq x)(m Bt n cap:Nat)(so0:Option Addr)(W:World)(hb:W.heap[Bt]? =some (.cells #[.slice so0 n cap] 24))(hr:RgV s0 W so0 n rs)(hT:TabIs W)(hJ:J [] W)(hl:(pR qT cT rs).length<=N):
  CallsIn Fence.wide m prog 294 #[.func (.yield l) #[] #[],.pointer (some ⟨Bt,0,none⟩)] W fun e W'=>(∃v,e=.returned v)/\(J (pR qT cT rs) W'∨∃q,q<+:pR qT cT rs/\Jx q W'):=by
 have hdd:=Xy;have HNl:Hid (n=rs.length):=hr.1;have hn6:n<=9223372036854775807:=by have:=hr.2.1;unfold maxLen at this;omega
 have HX:=hid hx;have HR0:=hid hr;have HT:=hid hT;have HY:Hid (Yl s0 l N J Jx):=hY;have HJ0:=hid hJ;have HL:=hid hl;obtain⟨b0,_⟩:=Qk hb;clear hx hr hT hY hJ hl hb;refine callsIn_of_wp func294 rfl trivial ?_ rfl;simp only[ntmps294,List.size_toArray,List.length_cons,List.length_nil,Nat.reduceAdd,Nat.reduceSub,Array.replicate_succ,Array.replicate_zero,List.push_toArray,List.append_toArray,List.nil_append,List.cons_append]
 gi_wp2
 gi_loopw [8] (fun i wr=>∃j:Nat,i=.int .i64 j/\j<=n/\Hid (J (pR qT cT (rs.take j)) wr)/\Hid (Kt s0 W wr)) (fun i _=>n-(intOf i).toNat)
 case atStart=>exact⟨0,rfl,Nat.zero_le _,by rw[List.take_zero,pR];exact HJ0,hid (Kt.refl _)⟩
 case round=>
  obtain⟨j,rfl,hj,HJr,HKr⟩:=hrel;clear b0;by_cases hjn:j<n
  ·have hjI:(j:Int)<(n:Int):=by omega
   have a0:decide ((j:Int)<(n:Int))=true:=by simp;omega
   have hjs:j<rs.length:=by rw[<-HNl.out];exact hjn
   obtain⟨g,o,rfl,hg,kd,T,C,so,sl,sc,p,q0,nd,z0,z1,z2,z3,z4,z5,z6,z7,z8,z9⟩:=(HKr.out.rules HR0.out).2.2 j hjs;obtain⟨xn,xv,xw⟩:=HX.out rs[j] (List.getElem_mem hjs);have hnx:=z8w qT cT rs j hjs;obtain⟨rr,hrr⟩:=z8x qT cT rs (j+1);have hgl:g<wr.heap.size:=World.block_lt_of_cell? wr _ z0;have hlj:(pR qT cT (rs.take j)).length+((pN qT cT rs[j].2.1).length+3)<=N:=by
    have h1:=HL.out;rw[hrr,hnx]at h1;simp only[List.length_append,List.length_cons,List.length_nil]at h1;omega
   have HRR:=hid hrr;have HNX:=hid hnx;obtain⟨dn,hdn⟩:∃dn,dn=pR qT cT (rs.take j):=⟨_,rfl⟩;rw[<-hdn]at HJr HNX hlj;obtain⟨ps,hps⟩:∃ps,ps=pN qT cT rs[j].2.1:=⟨_,rfl⟩;have HYN:=hid (z1Q HY.out _ rs[j].2.1 (Nat.lt_succ_self _) xv xw);have HND:=hid nd;obtain⟨N0,hN0⟩:∃N0,N0=rs[j].1:=⟨_,rfl⟩;rw[<-hN0]at z0 HNX xn;rw[<-hps]at HNX hlj;have K2:=hid (Kt.alloc (s0:=s0) wr (.cells #[.string N0,.int .i64 kd,.string T,.int .u64 (wd C 0),.int .u64 (wd C 1),.int .u64 (wd C 2),.int .u64 (wd C 3),.slice so sl sc,.int .i64 p,.int .i64 q0] 73));have B2:Hid ((wr.alloc (.cells #[.string N0,.int .i64 kd,.string T,.int .u64 (wd C 0),.int .u64 (wd C 1),.int .u64 (wd C 2),.int .u64 (wd C 3),.slice so sl sc,.int .i64 p,.int .i64 q0] 73)).heap[wr.heap.size]? =some (.cells #[.string N0,.int .i64 kd,.string T,.int .u64 (wd C 0),.int .u64 (wd C 1),.int .u64 (wd C 2),.int .u64 (wd C 3),.slice so sl sc,.int .i64 p,.int .i64 q0] 73)):=Qx wr _ rfl;have HY1:=hid (HY.out.call (m-1) dn N0 (wr.alloc (.cells #[.string N0,.int .i64 kd,.string T,.int .u64 (wd C 0),.int .u64 (wd C 1),.int .u64 (wd C 2),.int .u64 (wd C 3),.slice so sl sc,.int .i64 p,.int .i64 q0] 73)) (HY.out.alloc HJr.out _) (by omega) (Cg xn));have HY2:=hid (fun(W2:World) (hJ2:J (dn++[N0]) W2)=>HY.out.call (m-1) _ bAr W2 hJ2 (by simp;omega) (by decide));have HN3:=hid (fun(W3:World) (hJ3:J (dn++[N0]++[bAr]) W3) (hk:Kt s0 wr W3)=>HYN.out (m-1) _ (dn++[N0]++[bAr]) W3 (hk.node HND.out) ((HKr.out.trans hk).tab HT.out) hJ3 (by rw[<-hps];simp;omega));have HY4:=hid (fun(W4:World) (hJ4:J (dn++[N0]++[bAr]++ps) W4)=>HY.out.call (m-1) _ bNl W4 hJ4 (by simp;omega) (by decide));rw[<-hps]at HN3;have HPre:Hid (∀q,q<+:(N0::bAr::(ps++[bNl]))->dn++q<+:pR qT cT rs):=fun q hq=>by
    obtain⟨r,hr⟩:=hq;exact⟨r++rr,by rw[HRR.out,HNX.out,<-hr];simp⟩
   clear hnx hrr hlj nd xv xw xn hdn hps hN0 HYN HND HRR;dsimp only[v8]at HN3;obtain⟨fn,tmps,assign,Qg,hy,hR⟩:=HY1.out;have HR:=hid hR;clear hR HY1
   gi_wp2
   refine⟨hdd _,HR.out.mono ?_⟩;clear HR hy z0 z1 z2 z3 z4 z5 z6 z7 z8 z9;rintro e W2 (⟨rfl,hJ2,hk2⟩|⟨rfl,hx2⟩)
   ·obtain⟨fn,tmps,assign,Qg,hy,hR⟩:=HY2.out W2 hJ2
    have HR:=hid hR;have HK2:=hid (K2.out.trans hk2);have HB2:=hid (hk2.ten B2.out);clear hR HY2 hJ2 hk2;unfold bAr at hy
    gi_wp2
    refine⟨hdd _,HR.out.mono ?_⟩;clear HR hy;rintro e W3 (⟨rfl,hJ3,hk3⟩|⟨rfl,hx3⟩)
    ·obtain⟨⟨c0,c1,c2,c3,c4,c5,c6,c7,c8,c9⟩,_⟩:=Gg (hk3.ten HB2.out)
     have HN:=hid (HN3.out W3 hJ3 (HK2.out.trans hk3));have HK3:=hid (HK2.out.trans hk3);clear HN3 hJ3 hk3
     gi_wp2
     refine⟨trivial,hdd _,HN.out.mono ?_⟩;clear HN c0 c1 c2 c3 c4 c5 c6 c7 c8 c9;rintro e W4 (⟨rfl,hJ4,hk4⟩|⟨rfl,q,hq,hx4⟩)
     ·obtain⟨fn,tmps,assign,Qg,hy,hR⟩:=HY4.out W4 hJ4
      have HR:=hid hR;have HK4:=hid (HK3.out.trans hk4);clear hR HY4 hJ4 hk4;unfold bNl at hy
      gi_wp2
      refine⟨hdd _,HR.out.mono ?_⟩;clear HR hy;rintro e W5 (⟨rfl,hJ5,hk5⟩|⟨rfl,hx5⟩)
      ·gi_wp2
       go_roundw
       case rel=>exact⟨j+1,by go_num,by omega,hid (by rw[HNX.out];simpa [List.append_assoc]using hJ5),hid ((HKr.out.trans HK4.out).trans hk5)⟩
       case measure=>simp[intOf];omega
      ·gi_wp2
       refine bodyPost_ret (v:=.tuple #[]) (by simp[results,Tryz.results294]) rfl ?_;exact⟨⟨_,rfl⟩,.inr ⟨_,HPre.out (N0::bAr::(ps++[bNl])) (List.prefix_refl _),by simpa [List.append_assoc]using hx5⟩⟩
     ·gi_wp2
      refine⟨fun _ h=>(by cases h),?_⟩
      gi_wp2
      refine bodyPost_ret (v:=.tuple #[]) (by simp[results,Tryz.results294]) rfl ?_;obtain⟨r,hr⟩:=hq;exact⟨⟨_,rfl⟩,.inr ⟨_,HPre.out (N0::bAr::q) ⟨r++[bNl],by rw[<-hr];simp⟩,by simpa [List.append_assoc]using hx4⟩⟩
    ·clear HN3 HY4
     gi_wp2
     refine⟨trivial,?_⟩
     gi_wp2
     refine⟨fun _ h=>(by cases h),?_⟩
     gi_wp2
     refine bodyPost_ret (v:=.tuple #[]) (by simp[results,Tryz.results294]) rfl ?_;exact⟨⟨_,rfl⟩,.inr ⟨_,HPre.out [N0,bAr] ⟨ps++[bNl],rfl⟩,by simpa [List.append_assoc]using hx3⟩⟩
   ·clear HN3 HY4 HY2
    gi_wp2
    refine⟨fun _ h=>(by cases h),?_⟩
    gi_wp2
    refine⟨trivial,?_⟩
    gi_wp2
    refine⟨fun _ h=>(by cases h),?_⟩
    gi_wp2
    refine bodyPost_ret (v:=.tuple #[]) (by simp[results,Tryz.results294]) rfl ?_;exact⟨⟨_,rfl⟩,.inr ⟨_,HPre.out [N0] ⟨bAr::(ps++[bNl]),rfl⟩,hx2⟩⟩
  ·have a0:decide ((j:Int)<(n:Int))=false:=by simp;omega
   have hjn':rs.take j=rs:=List.take_of_length_le (by rw[<-HNl.out];omega);rw[hjn']at HJr;clear hjn'
   gi_wp2
   go_end0
   exact⟨⟨_,rfl⟩,.inl HJr.out⟩
end
end
section
section
variable {Nm:ByteArray->Prop} {QT:ByteArray->ByteArray} {CT:Nat->ByteArray}
def cz:List ByteArray->Int×Int->Int×Int
 |[],st=>st
 |p::r,st=>cz r (if p=bO then(st.1+1,max st.2 (st.1+1))else if p=bC then(st.1-1,st.2)else st)
theorem Fp:∀(A B:List ByteArray) (st:Int×Int),cz (A++B) st=cz B (cz A st)
 |[],B,st=>rfl
 |p::r,B,st=>by rw[List.cons_append,cz,cz,Fp r B]
theorem Fc{p:ByteArray}(h1:p≠bO)(h2:p≠bC)(r:List ByteArray)(st:Int×Int):cz (p::r) st=cz r st:=by rw[cz,if_neg h1,if_neg h2]
def CZ(QT:ByteArray->ByteArray)(CT:Nat->ByteArray)(n:Nd):Prop:=∀o m:Int,o<=m->cz (pN QT CT n) (o,m)=(o,max m (o+(dN n:Int)))
theorem z1R(over:Nat){n:Nd}(h:CZ QT CT n)(o m:Int)(hm:o<=m):cz (pP QT CT over n) (o,m)=(o,max m (o+(dP over n:Int))):=by
 unfold pP dP;split
 ·rw[cz,if_pos rfl,Fp,h _ _ (by show o+1<=max m (o+1);omega),cz,if_neg z1w,if_pos rfl,cz]
  simp only;refine Prod.ext ?_ ?_
  ·show o+1-1=o
   omega
  ·show max (max m (o+1)) (o+1+(dN n:Int))=max m (o+((dN n+1:Nat):Int))
   omega
 ·exact h o m hm
theorem z1S(over:Nat)(sep:ByteArray)(h1:sep≠bO)(h2:sep≠bC):∀(s:List Nd),(∀m∈s,CZ QT CT m)->∀o m:Int,o<=m->cz (pB QT CT over sep s) (o,m)=(o,max m (o+(dS over s:Int)))
 |[],_,o,m,hm=>by
  rw[Og,cz,dS];congr 1;omega
 |n::r,hn,o,m,hm=>by
  rw[Fm,Fc h1 h2,Fp,z1R over (hn n (by simp)) o m hm,z1S over sep h1 h2 r (fun x hx=>hn x (by simp[hx])) _ _ (by omega),Uk];congr 1;omega
theorem Ch(over:Nat)(sep:ByteArray)(h1:sep≠bO)(h2:sep≠bC):∀(s:List Nd),(∀m∈s,CZ QT CT m)->∀o m:Int,o<=m->cz (pS QT CT over sep s) (o,m)=(o,max m (o+(dS over s:Int)))
 |[],_,o,m,hm=>by
  rw[pS,cz,dS];congr 1;omega
 |n::r,hn,o,m,hm=>by
  rw[Fd,Fp,z1R over (hn n (by simp)) o m hm,z1S over sep h1 h2 r (fun x hx=>hn x (by simp[hx])) _ _ (by omega),Uk];congr 1;omega
theorem z1T(hP:Pcs Nm QT CT):∀(N:Nat) (n:Nd),SizeOf.sizeOf n<N->Vk n->Wf Nm n->CZ QT CT n
 |0,n,h,_,_=>by omega
 |N+1,.mk kd T C s p,hN,hv,hw=>by
  have hkd:=hv.kd;rw[Vk]at hv;rw[Wf]at hw;obtain⟨hv1,hvs⟩:=hv;obtain⟨w2,w5,wc,ws⟩:=hw;have wmem:∀m∈s,Wf Nm m:=by
   clear hN hv1 hvs hkd
   induction s with
   |nil=>intro m hm;simp at hm
   |cons a r ih=>
    rw[WfL]at ws;intro m hm;rcases List.mem_cons.1 hm with rfl|hm
    ·exact ws.1
    ·exact ih ws.2 m hm
  have ih:∀m∈s,CZ QT CT m:=fun m hm=>by
   have h3:=List.sizeOf_lt_of_mem hm;simp only[Nd.mk.sizeOf_spec]at hN;exact z1T hP N m (by omega) (hvs.mem m hm) (wmem m hm)
  intro o m hm;have hk1:1<=kd:=hkd.1;have hs0:kd<=5->s=[]:=fun h5=>by
   rcases hv1 with q|q|q|q|q|q|q
   ·exact q.2.2.2
   ·exact q.2.2
   ·exact q.2.2
   ·exact q.2.2.2
   ·exact q.2.2
   ·omega
   ·omega
  rw[pN,dN];by_cases h1:kd=1
  ·rw[if_pos h1,if_pos h1,cz,if_pos rfl,cz,if_neg z1w,if_pos rfl,cz]
   simp only;refine Prod.ext ?_ ?_
   ·show o+1-1=o
    omega
   ·show max m (o+1)=max m (o+((1:Nat):Int))
    omega
  ·rw[if_neg h1,if_neg h1]
   have lf:∀(P:ByteArray),kd<=5->P≠bO->P≠bC->cz [P] (o,m)=(o,max m (o+(dS kd s:Int))):=fun P h5 a b=>by
    rw[hs0 h5,dS,Fc a b,cz];congr 1;omega
   by_cases h2:kd=2
   ·rw[if_pos h2]
    obtain⟨p,hb,_⟩:=hP.qt T (QT T) 0 (w2 h2) (z1z _);exact lf _ (by omega) (Zf hb (y:=40) rfl (by decide)) (Zf hb (y:=41) rfl (by decide))
   ·rw[if_neg h2]
    by_cases h3:kd=3
    ·rw[if_pos h3]
     obtain⟨p,hb,_⟩:=hP.ct C (CT C) 0 wc (z1z _);exact lf _ (by omega) (Zf hb (y:=40) rfl (by decide)) (Zf hb (y:=41) rfl (by decide))
    ·rw[if_neg h3]
     by_cases h4:kd=4
     ·rw[if_pos h4]
      exact lf _ (by omega) (Zf (x:=46) (y:=40) rfl rfl (by decide)) (Zf (x:=46) (y:=41) rfl rfl (by decide))
     ·rw[if_neg h4]
      by_cases h5:kd=5
      ·rw[if_pos h5]
       have:=z1A hP (w5 h5);exact lf _ (by omega) this.1 this.2
      ·rw[if_neg h5]
       by_cases h6:kd=6
       ·rw[if_pos h6,h6]
        exact Ch 6 bSp z1x.1 z1x.2 s ih o m hm
       ·rw[if_neg h6]
        by_cases h7:kd=7
        ·rw[if_pos h7,h7]
         exact Ch 7 bSl z1y.1 z1y.2 s ih o m hm
        ·rw[if_neg h7]
         split
         ·rw[Fc (Ck kd).1 (Ck kd).2]
          exact Ch kd bE Cy.1 Cy.2 s ih o m hm
         ·rw[Fp,Ch kd bE Cy.1 Cy.2 s ih o m hm,Fc (Ck kd).1 (Ck kd).2,cz]
theorem z1U(hP:Pcs Nm QT CT):∀(rs:List Rl),(∀x∈rs,Ruk Nm x)->∀m:Int,0<=m->cz (pR QT CT rs) (0,m)=(0,max m (dR rs:Int))
 |[],_,m,hm=>by
  rw[pR,cz,dR];refine Prod.ext rfl ?_;show m=max m ((0:Nat):Int);omega
 |x::r,hx,m,hm=>by
  obtain⟨hn,hv,hw⟩:=hx x (by simp);have a:=z1A hP hn;rw[pR,Fc a.1 a.2,Fc (Zf (x:=32) (y:=40) rfl rfl (by decide)) (Zf (x:=32) (y:=41) rfl rfl (by decide)),Fp,z1T hP _ x.2.1 (Nat.lt_succ_self _) hv hw 0 m hm,
   Fc (Zf (x:=10) (y:=40) rfl rfl (by decide)) (Zf (x:=10) (y:=41) rfl rfl (by decide)),z1U hP r (fun y hy=>hx y (by simp[hy])) _ (by omega),dR]
  refine Prod.ext rfl ?_;show max (max m (0+(dN x.2.1:Int))) (dR r:Int)=max m ((max (dN x.2.1) (dR r):Nat):Int);omega
theorem Cd:∀(ps:List ByteArray) (st:Int×Int),0<=st.2-> -(sz ps:Int)<=(cz ps st).1-st.1/\(cz ps st).1-st.1<=(sz ps:Int)/\0<=(cz ps st).2/\(cz ps st).2<=max st.2 (max st.1 (st.1+(sz ps:Int)))
 |[],st,h=>by
  rw[cz,sz];omega
 |p::r,st,h=>by
  rw[cz,sz];by_cases h1:p=bO
  ·rw[if_pos h1]
   have:=Cd r (st.1+1,max st.2 (st.1+1)) (by show 0<=max st.2 (st.1+1);omega);have hz:p.size=1:=by rw[h1];rfl
   simp only at this;rw[hz];omega
  ·rw[if_neg h1]
   by_cases h2:p=bC
   ·rw[if_pos h2]
    have:=Cd r (st.1-1,st.2) h;have hz:p.size=1:=by rw[h2];rfl
    simp only at this;rw[hz];omega
   ·rw[if_neg h2]
    have:=Cd r st h;omega
theorem Pw(ps:List ByteArray)(x:ByteArray)(st:Int×Int):cz (ps++[x]) st=(if x=bO then((cz ps st).1+1,max (cz ps st).2 ((cz ps st).1+1))else if x=bC then((cz ps st).1-1,(cz ps st).2)else cz ps st):=by
 rw[Fp,cz,cz]
end
end
end Go.Proofs.YtlogolpcipiceaaGreatDoor
