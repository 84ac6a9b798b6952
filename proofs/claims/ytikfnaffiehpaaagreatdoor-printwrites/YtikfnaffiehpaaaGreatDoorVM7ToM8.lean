/- Lemmas for the last text. Conditions: those that each names. -/
import Derived.Test.YtikfnaffiehpaaaGreatDoorVM5ToM6
set_option linter.unusedVariables false
set_option maxRecDepth 100000
set_option maxHeartbeats 16000000
namespace Go.Proofs.YtikfnaffiehpaaaGreatDoor
open Go.Proofs.Tryz
open Go.RowKit
theorem z3X(w:World)(o:Obj)(a b c d e f g h:Value)(t:TypeId):∀j x,[a,b,c,d,e,f,g,h][j]? =some x->((w.alloc o).alloc (.cells #[a,b,c,d,e,f,g,h] t)).cell? ((⟨w.heap.size+1,0,none⟩:Addr).add j)=some x:=by
 have:=Ib (w.alloc o) a b c d e f g h t;rw[World.size_alloc]at this;exact this
theorem z3Y{w:World}{base e size n i:Nat}{v:Value}{xs:List Value}{o:Obj}(h:w.ownsRow base e size v n xs)(ho:w.heap[i]? =some o)(hne:∀cur,o≠.cells cur e (0,0)):v.ownBlock≠some i:=by
 obtain⟨_,⟨h1,_⟩|⟨g,cap,cur,rfl,_,hg,_⟩⟩:=h
 ·subst h1;simp[Value.ownBlock]
 ·intro e2
  simp[Value.ownBlock]at e2;subst e2;rw[hg]at ho;cases ho;exact hne cur rfl
theorem Xp.adv{L:List Tok}{inn:Nat->Pr}(hg:Qv L)(ha:Adv L inn){D j:Nat}(hj:j<L.length){W:World}{kd:Int}{T:ByteArray}{a0 a1 a2 a3:Int}{so:Option Addr}{sl sc:Nat}{p:Int}{k1:Nat}{c1 q1:Int}(h:Xp D (Zh L inn j) W kd T a0 a1 a2 a3 so sl sc p k1 c1 q1)(hc:c1=0):j<k1:=by
 cases hs:Zh L inn j with
 |inl x=>rw[hs]at h;exact absurd hc h
 |inr x=>
  obtain⟨n,k'⟩:=x;rw[hs]at h;obtain⟨_,rfl,_⟩:=h;exact(Cw hg ha hj hs).1
theorem z3Z(R b:Nat)(v:Value)(L:List Tok)(dp:Nat)(inn:Nat->Pr)(hg:Qv L)(ha:Adv L inn)(c0:Int)(ho:c0=0->MQ 112 (Zh L inn) (fun k=>(gL L k).1≠6) R b v L dp)
  (RES:Pr)(k B:Nat)(q0:Int)(w:World)(h:RdZ w R b v L k dp c0 q0)(hk:k<L.length)(hq0:c0=0->q0=0)(hB:B<=w.heap.size)(hJ:(c0=0/\Qb L inn L.length k []=RES)∨(c0≠0/\∃x,RES=.inl x)):
  Calls prog 93 #[.pointer (some ⟨R,0,none⟩)] w fun e w'=>AnZ RES B R b v L dp w e w':=by
 obtain⟨iT,hiT,hzT0,hzT1,hzT2⟩:=info_parts Tryz.infoNd;have HT:=hid (fun(W:World) (h:RdZ W R b v L k dp c0 q0)=>Dl R b v L k dp c0 q0 W h hk hg.len);have HS:=hid (fun(W:World) (k:Nat) (c q:Int) (h:RdZ W R b v L k dp c q) (hq:c=0->q=0) (hk:k<L.length)=>y0O R b v L k dp c q W h hq hk hg);have HO:=hid (fun(hz:c0=0) (W:World) (j:Nat) (h:RdZ W R b v L j dp 0 0) (hj:j<L.length) (h6:(gL L j).1≠6)=>(ho hz j W.heap.size W h hj h6 L0q).mono fun e w' hA=>Kj (D:=W.heap.size) (fun n j' e=>(Cw hg ha hj e).2) hA);have HJ0:Hid (Jr L inn RES c0 k (w.heap.size+1) 0 [] k c0 q0 (.slice none 0 0) w):=by
  rcases hJ with⟨h1,h2⟩|h
  ·exact .inl ⟨h1,hq0 h1,h1,L.length,[],rfl,by omega,by simp,fun _=>rfl,h2,by rw[Qf];trivial⟩
  ·exact .inr h
 obtain⟨t,ht⟩:∃t,t=nT L k c0:=⟨_,rfl⟩;rw[<-ht]at HT;have HTk:=hid ht;clear ht hJ;obtain⟨kt,Tt,Ct,pt⟩:=t;have HE:Hid (Ew w R b v L k dp c0 q0 (w.alloc Zo)):=Ew.start h;have hll:=hg.len;have HGd:=hid hg;have HAd:=hid ha;have HQ0:=hid hq0;clear h ho hg ha hq0;go_enter func93,ntmps93
 go_wp2_with fail
 refine(HT.out _ HE.out.1).mono ?_;rintro e w1 ⟨rfl,hb1⟩;have HE1:=hid (HE.out.below hb1);clear hb1 HE HT;dsimp only[tkv];obtain⟨W1,hW1⟩:∃W1,W1=w1.alloc (.cells #[.int .i64 kt,.string Tt,.int .u64 (wd Ct 0),.int .u64 (wd Ct 1),.int .u64 (wd Ct 2),.int .u64 (wd Ct 3),.int .i64 pt] 83):=⟨_,rfl⟩;have HE2:Hid (Ew w R b v L k dp c0 q0 W1):=by rw[hW1];exact HE1.out.alloc _
 have HC2:Hid (W1.heap[w1.heap.size]? =some (.cells #[.int .i64 kt,.string Tt,.int .u64 (wd Ct 0),.int .u64 (wd Ct 1),.int .u64 (wd Ct 2),.int .u64 (wd Ct 3),.int .i64 pt] 83)):=by rw[hW1];exact Qq _ _ rfl
 have HW1:=hid hW1;have HL1:Hid (w.heap.size<w1.heap.size):=HE1.out.size;clear hW1 HE1
 go_wp2_with fail
 rw[<-HW1.out];refine(HS.out _ _ _ _ HE2.out.1 HQ0.out hk).mono ?_;rintro e w2 ⟨rfl,hb2⟩;have HE3:=hid (HE2.out.below hb2);have HC3:=hid ((hb2.block _ (Qz HC2.out)).trans HC2.out);have HJ3:Hid (Jr L inn RES c0 k (w.heap.size+1) 0 [] k c0 q0 (.slice none 0 0) w2):=by
  rcases HJ0.out with⟨h1,h2,h0,f,acc,h3,h4,h5,h6,h7,h8⟩|h
  ·have ha:acc=[]:=List.eq_nil_of_length_eq_zero h3.symm
   subst ha;exact .inl ⟨h1,h2,h0,f,[],h3,h4,h5,h6,h7,by rw[Qf];trivial⟩
  ·exact .inr h
 clear hb2 HE2 HC2 HW1 HJ0
 go_wp2_with fail
 go_loopw [4,5] (fun a bm wr=>∃(m j:Nat) (xs:List Value) (c q:Int),bm=.bool (stB L j c)/\j<L.length/\m<=20000+20000/\Hid (c=0->q=0)/\Hid (Fst m xs)/\Hid (Jr L inn RES c0 k (w.heap.size+1) m xs j c q a wr)/\Hid (wr.ownsRow (w.heap.size+1) 30 8 a m xs)/\Hid (Ew w R b v L j dp c q wr)/\Hid (wr.heap[w1.heap.size]? =some (.cells #[.int .i64 kt,.string Tt,.int .u64 (wd Ct 0),.int .u64 (wd Ct 1),.int .u64 (wd Ct 2),.int .u64 (wd Ct 3),.int .i64 pt] 83))) (fun _ bm wr=>msR L R bm wr)
 case atStart=>exact⟨0,k,[],c0,q0,rfl,hk,by omega,HQ0,hid (fun h=>absurd h (by omega)),HJ3,hid (World.ownsRow_nil _ _ _ _),HE3,HC3⟩
 case round=>
  obtain⟨m,j,xs,c,q,rfl,hj,hm,HQ,HFs,HJ,HOw,HEr,HC⟩:=hrel;clear HE3 HC3 HJ3 HQ0;obtain⟨bb,hbb⟩:∃bb,bb=stB L j c:=⟨_,rfl⟩;rw[<-hbb];cases bb
  ·obtain⟨t0,t6⟩:wr.cell? ⟨w1.heap.size,6,none⟩=some (.int .i64 pt)/\True:=⟨(Yy HC.out).1.2.2.2.2.2.2,trivial⟩
   obtain⟨⟨k0,k1,k2,k3,k4,k5,k6,k7⟩,⟨f0,f1,f2,f3,f4,f5,f6,f7⟩⟩:=HEr.out.cells;have hs0:=HEr.out.size;have hst:=hid hbb.symm;clear hbb HO HS HQ;by_cases hm0:m=0
   ·subst hm0
    obtain⟨sa,scap,rfl⟩:=Fg HOw.out
    go_wp2_with fail
    (try simp only[Exit.inBlock,Exit.then])
    obtain⟨⟨d0,d1,d2,d3,d4,d5,d6,d7⟩,_⟩:=Qk (Zx HEr.out.2.2.1 1 {data:=#[]} 0 0 0 0 (.slice none 0 0) (pt:Int));refine bodyPost_ret (v:=.agg #[.int .i64 1,.string ⟨#[]⟩,.int .u64 0,.int .u64 0,.int .u64 0,.int .u64 0,.slice none 0 0,.int .i64 pt]) (by simp[results,Tryz.results93,go_sem,d0,d1,d2,d3,d4,d5,d6,d7]) rfl ?_;exact HJ.out.fin0 hst.out HEr.out hj HTk.out hB
   ·obtain⟨kd,T2,a0,a1,a2,a3,so,sl,sc,q2,rest,hxs⟩:=HFs.out (by omega)
    have how:=HOw.out;obtain⟨g,cap,rfl⟩:=Xl how (by omega);have hgl:=(how.lt g rfl).2;have hgw:=(how.lt g rfl).1;have hcap:=Fb how;have ce:∀i u,[.int .i64 kd,.string T2,.int .u64 a0,.int .u64 a1,.int .u64 a2,.int .u64 a3,.slice so sl sc,.int .i64 q2][i]? =some u->wr.cell? ⟨g,i,none⟩=some u:=fun i u hi=>by
     have hil:i<8:=(List.getElem?_eq_some_iff.1 hi).1;rw[how.cellAt i (by omega),hxs,List.getElem?_append_left (by exact hil)];exact hi
    have e0:=ce 0 _ rfl;have e1:=ce 1 _ rfl;have e2:=ce 2 _ rfl;have e3:=ce 3 _ rfl;have e4:=ce 4 _ rfl;have e5:=ce 5 _ rfl;have e6:=ce 6 _ rfl;have e7:=ce 7 _ rfl;have HXS:=hid hxs;clear ce how hxs;by_cases hm1:m=1
    ·subst hm1
     go_wp2_with fail
     (try simp only[Exit.inBlock,Exit.then])
     obtain⟨⟨d0,d1,d2,d3,d4,d5,d6,d7⟩,_⟩:=Qk (Zx HEr.out.2.2.1 kd T2 a0 a1 a2 a3 (.slice so sl sc) q2);refine bodyPost_ret (v:=.agg [.int .i64 kd,.string T2,.int .u64 a0,.int .u64 a1,.int .u64 a2,.int .u64 a3,.slice so sl sc,.int .i64 q2].toArray) (by simp[results,Tryz.results93,go_sem,d0,d1,d2,d3,d4,d5,d6,d7]) rfl ?_;exact HJ.out.fin1 HXS.out hst.out HEr.out hj hB
    ·have b0:((m:Int) == 0)=false:=by simp;omega
     have b1:((m:Int) == 1)=false:=by simp;omega
     have hm2:2<=m:=by omega
     go_wp2_with fail
     (try simp only[Exit.inBlock,Exit.then])
     obtain⟨⟨d0,d1,d2,d3,d4,d5,d6,d7⟩,_⟩:=Qk (Zx HEr.out.2.2.1 6 {data:=#[]} 0 0 0 0 (.slice (some ⟨g,0,none⟩) m cap) q2);refine bodyPost_ret (v:=.agg #[.int .i64 6,.string ⟨#[]⟩,.int .u64 0,.int .u64 0,.int .u64 0,.int .u64 0,.slice (some ⟨g,0,none⟩) m cap,.int .i64 q2]) (by simp[results,Tryz.results93,go_sem,d0,d1,d2,d3,d4,d5,d6,d7]) rfl ?_;exact HJ.out.fin2 hm2 HOw.out HXS.out hst.out HEr.out hj hB
  ·obtain⟨hc0,hpt⟩:=z3W hbb.symm
   have hqz:=HQ.out hc0;subst hc0 hqz;have hmj:m<=10000:=by
    rcases HJ.out with⟨_,_,_,f,acc,h3,h4,h5,_⟩|⟨h,_⟩
    ·omega
    ·exact absurd rfl h
   have hcz:c0=0:=by
    rcases HJ.out with⟨_,_,h,_⟩|⟨h,_⟩
    ·exact h
    ·exact absurd rfl h
   have HCz:=hid hcz;clear hcz;have h6:=y0P hpt;have HPt:=hid hpt;have HMs:Hid (Xy R wr=j):=Ec HEr.out.1;clear hbb HQ hpt hm
   go_wp2_with fail
   refine(HO.out HCz.out wr j HEr.out.1 hj h6).mono ?_;rintro e w4 ⟨kd,T2,a0,a1,a2,a3,so,sl,sc,q2,k1,c1,q1,rfl,HX,HK1,hr4,hg4⟩;have HE4:=hid (HEr.out.grown hr4.out hg4.out);have HC4:Hid (w4.heap[w1.heap.size]? =some (.cells #[.int .i64 kt,.string Tt,.int .u64 (wd Ct 0),.int .u64 (wd Ct 1),.int .u64 (wd Ct 2),.int .u64 (wd Ct 3),.int .i64 pt] 83)):=(hg4.out.block _ (Qz HC.out) (fun e=>by have e2:w1.heap.size=R:=Option.some.inj e;have:=HL1.out;have:=HEr.out.lt;omega)).trans HC.out;have HOw4:=hid (HOw.out.kept hg4.out (.inr (fun e=>by have:=(HOw.out.lt _ e).1;have:=HEr.out.lt;omega)));have HAp:=hid (z3Y HOw.out HC.out (fun cur e=>by cases e));clear hr4 h6
   go_wp2_with(first|(at_builtin;refine wpList_append_own_at _ rfl (.tmp 14) (.tmp 16) 28 rfl (w.heap.size+1) 30 iT (.agg #[.int .i64 0,.string ⟨#[]⟩,.int .u64 0,.int .u64 0,.int .u64 0,.int .u64 0,.slice none 0 0,.int .i64 0]) 8 88 Tryz.underlying28 hiT hzT0 hzT1 hzT2 rfl (by decide) _ _ _ rfl ((HOw4.out.alloc _).alloc _) ⟨w4.heap.size+1,0,none⟩ 1 1 [.int .i64 kd,.string T2,.int .u64 a0,.int .u64 a1,.int .u64 a2,.int .u64 a3,.slice so sl sc,.int .i64 q2] rfl rfl (z3X w4 _ _ _ _ _ _ _ _ _ 30) (Cf _ _ _ _ _ _ _ _ _ _) (by unfold maxLen;omega) (by omega) (by have:=HE4.out.size;simp;omega) ?_;intro v6 w6 hown6 hgr6 hnil6 hat6))
   have HB3:Hid (Below w4.heap.size w4 ((w4.alloc (.cells #[.int .i64 kd,.string T2,.int .u64 a0,.int .u64 a1,.int .u64 a2,.int .u64 a3,.slice so sl sc,.int .i64 q2] 30)).alloc (.cells #[.int .i64 kd,.string T2,.int .u64 a0,.int .u64 a1,.int .u64 a2,.int .u64 a3,.slice so sl sc,.int .i64 q2] 30))):=((Below.refl _ w4).alloc L0q _).alloc (by simp) _;have HJ6:=hid (Jr.step HGd.out HAd.out hj HPt.out HJ.out HOw.out (R:=R) (by have:=HEr.out.lt;omega) (by have:=HEr.out.size;omega) hg4.out HX.out HB3.out hown6 hgr6 hat6);have HE6:Hid (Ew w R b v L k1 dp c1 q1 w6):=((HE4.out.alloc _).alloc _).rowed hgr6 (fun g e=>by have:=(HOw.out.lt g e).1;omega);have HC6:Hid (w6.heap[w1.heap.size]? =some (.cells #[.int .i64 kt,.string Tt,.int .u64 (wd Ct 0),.int .u64 (wd Ct 1),.int .u64 (wd Ct 2),.int .u64 (wd Ct 3),.int .i64 pt] 83)):=(hgr6.block _ (by have:=Qz HC4.out;simp;omega) (fun e=>HAp.out e.symm)).trans (((HB3.out.block _ (Qz HC4.out))).trans HC4.out);have HO6:=hid hown6;have HF6:=hid (HFs.out.app (fun h=>by have h1:=HOw.out.1;rw[h]at h1;exact List.eq_nil_of_length_eq_zero (by simpa using h1)) kd T2 a0 a1 a2 a3 so sl sc q2);have HAv:=hid (fun hc=>Xp.adv HGd.out HAd.out hj HX.out hc);clear hown6 hgr6 hnil6 hat6 hg4 HX HJ HOw HOw4 HE4 HC4 HC HEr HAp HB3 HFs HPt
   go_wp2_with fail
   refine(HS.out _ _ _ _ HE6.out.1 HK1.out.2 HK1.out.1).mono ?_;rintro e w7 ⟨rfl,hb7⟩;have HE7:=hid (HE6.out.below hb7);have HC7:=hid ((hb7.block _ (Qz HC6.out)).trans HC6.out);have HJ7:=hid (HJ6.out.below hb7);have HO7:=hid (Vz HO6.out hb7);have HMs7:Hid (Xy R w7=k1):=Ec HE7.out.1;clear hb7 HE6 HC6 HJ6 HO6
   go_wp2_with fail
   go_roundw
   case rel=>exact⟨m+1,k1,_,c1,q1,rfl,HK1.out.1,by omega,hid HK1.out.2,HF6,HJ7,HO7,HE7,HC7⟩
   case measure=>
    show msR L R (.bool (stB L k1 c1)) w7<msR L R (.bool true) wr;cases hst:stB L k1 c1 with
    |false=>show(0:Nat)<L.length-Xy R wr+1;omega
    |true=>
     have:=HAv.out (z3W hst).1;have h7:=HMs7.out;have h8:=HMs.out;show L.length-Xy R w7+1<L.length-Xy R wr+1;omega
section
def Jc(L:List Tok)(inn:Nat->Pr)(RES:Pr)(P0:Prop)(B m:Nat)(xs:List Value)(j:Nat)(c q:Int)(a:Value)(wr:World):Prop:=
 (c=0/\q=0/\∃(f:Nat) (n:Nd) (r:List Nd),m=r.length+1/\L.length<=f+j/\r.length<=j/\Zw L inn f j (n::r)=RES/\Qf wr (fun g=>B<=g/\a.ownBlock≠some g) (n::r) xs/\P0)∨(c≠0/\∃x,RES=.inl x)
theorem Jc.below{L:List Tok}{inn:Nat->Pr}{RES:Pr}{P0:Prop}{B m j:Nat}{xs:List Value}{c q:Int}{a:Value}{W W':World}(h:Jc L inn RES P0 B m xs j c q a W)(hb:Below W.heap.size W W'):Jc L inn RES P0 B m xs j c q a W':=by
 rcases h with⟨h1,h2,f,n,r,h3,h4,h5,h7,h8,hP⟩|h
 ·exact .inl ⟨h1,h2,f,n,r,h3,h4,h5,h7,Qf.kept (fun g cur hp hq=>⟨hb.block g (Qz hq),hp⟩) _ _ h8,hP⟩
 ·exact .inr h
theorem z4a{L:List Tok}{j:Nat}{x:UInt8}(h:sgB (nT L j 0) x=true):sgT (gL L j)={data:=#[x]}:=by
 rw[show nT L j 0=gL L j from if_pos rfl]at h;exact of_decide_eq_true h
theorem z0h{L:List Tok}{j:Nat}{x:UInt8}(h:sgB (nT L j 0) x=false):¬sgT (gL L j)={data:=#[x]}:=by
 rw[show nT L j 0=gL L j from if_pos rfl]at h;exact of_decide_eq_false h
theorem Jc.step{L:List Tok}{inn:Nat->Pr}{RES:Pr}{P0:Prop}{B m j R D:Nat}{xs:List Value}{a a':Value}{W W2 W3 W4:World}{kd:Int}{T2:ByteArray}{a0 a1 a2 a3:Int}{so:Option Addr}{sl sc:Nat}{q2:Int}{k1:Nat}{c1 q1:Int}
  (hg:Qv L)(ha:Adv L inn)(hj:j<L.length)(hp:sgB (nT L j 0) 47=true)(h:Jc L inn RES P0 B m xs j 0 0 a W)(ho:W.ownsRow B 30 8 a m xs)(hR:R<B)(hB:B<=D)(hD:W.heap.size<=D)(hgr:W.grownBy W2 (some R))
  (hX:Xp D (Qb L inn L.length (j+1) []) W2 kd T2 a0 a1 a2 a3 so sl sc q2 k1 c1 q1)(hb:Below W2.heap.size W2 W3)(hown:W4.ownsRow B 30 8 a' (m+1) (xs++[.int .i64 kd,.string T2,.int .u64 a0,.int .u64 a1,.int .u64 a2,.int .u64 a3,.slice so sl sc,.int .i64 q2]))(hgr4:W3.grownBy W4 a.ownBlock)(hat:a'.ownBlock=a.ownBlock∨a'.ownBlock=some W3.heap.size):
  Jc L inn RES P0 B (m+1) (xs++[.int .i64 kd,.string T2,.int .u64 a0,.int .u64 a1,.int .u64 a2,.int .u64 a3,.slice so sl sc,.int .i64 q2]) k1 c1 q1 a' W4:=by
 rcases h with⟨_,_,f,n0,r,rfl,h4,h5,h7,h8,hP⟩|⟨h,_⟩
 ·have hz:=z4a hp
  cases f with
  |zero=>omega
  |succ f=>
   rw[Zw,if_pos hz]at h7;cases hs:Qb L inn L.length (j+1) []with
   |inl x=>
    rw[hs]at h7 hX;exact .inr ⟨hX,x,h7.symm⟩
   |inr x=>
    obtain⟨n,k'⟩:=x;rw[hs]at h7 hX;obtain⟨hn,rfl,rfl,rfl,_⟩:=hX;have hadv:=Fd hg ha _ _ _ _ _ (hg.sg hj hz) hs;have ho':W.ownsRow B 30 8 a (n0::r).length xs:=ho;have hy:W2.ownsRow B 30 8 a (n0::r).length xs:=ho'.kept hgr (.inr (fun e=>by have:=(ho.lt _ e).1;omega));have h82:Qf W2 (fun g=>B<=g/\a.ownBlock≠some g) (n0::r) xs:=Qf.kept (fun g cur hp hq=>⟨hgr.block g (Qz hq) (fun e=>by have e2:g=R:=Option.some.inj e;have:=hp.1;omega),hp⟩) _ _ h8;obtain⟨zs,hz1,hz2⟩:=Ro.app hy h82 hn hB (fun g e=>by have:=(ho.lt g e).2;omega) hb hown hgr4 hat;have hzx:zs=xs++[.int .i64 kd,.string T2,.int .u64 a0,.int .u64 a1,.int .u64 a2,.int .u64 a3,.slice so sl sc,.int .i64 q2]:=z0g hz1 (by rw[List.length_append];exact hown);rw[hzx]at hz2;exact .inl ⟨rfl,rfl,f,n0,r++[n],by simp,by omega,by simp;omega,h7,hz2,hP⟩
 ·exact absurd rfl h
section
variable {L:List Tok} {inn:Nat->Pr} {RES:Pr} {P0:Prop} {m j R b dp B:Nat} {xs:List Value} {c q:Int} {a v:Value} {w W:World} {fk:Int} {fT:ByteArray} {f0 f1 f2 f3:Int} {fo:Option Addr} {fl fc:Nat} {fp:Int} {rest:List Value}
theorem Jc.fin1(h:Jc L inn RES P0 (w.heap.size+1) 1 xs j c q a W)(hx:xs=[.int .i64 fk,.string fT,.int .u64 f0,.int .u64 f1,.int .u64 f2,.int .u64 f3,.slice fo fl fc,.int .i64 fp]++rest)(hst:sgB (nT L j c) 47=false)(hE:Ew w R b v L j dp c q W)(hj:j<L.length)(hB:B<=w.heap.size):
  AnZ RES B R b v L dp w (.returned (.agg [.int .i64 fk,.string fT,.int .u64 f0,.int .u64 f1,.int .u64 f2,.int .u64 f3,.slice fo fl fc,.int .i64 fp].toArray)) (st8 W w.heap.size fk fT f0 f1 f2 f3 (.slice fo fl fc) fp):=by
 rcases h with⟨rfl,rfl,f,n,r,h3,h4,h5,h7,h8,hP⟩|⟨hc,x,rfl⟩
 ·have hr:r=[]:=List.eq_nil_of_length_eq_zero (by omega)
  subst hr;have hp:=z0h hst;cases f with
  |zero=>omega
  |succ f=>
   rw[Zw,if_neg hp]at h7;subst h7;rw[Qf]at h8;obtain⟨cs,r,e,hn,_⟩:=h8;rw[hx]at e;have hl:=hn.len;have he:=List.append_inj_left e (by rw[hl];rfl);subst he;obtain⟨kd',C,h9⟩:=hn.form;have h10:=h9;dsimp only[n8]at h10;simp only[List.cons.injEq,Value.int.injEq,and_true,true_and]at h10;obtain⟨rfl,rfl,rfl,rfl,rfl,rfl⟩:=h10;exact hE.fin (kd:=kd') (C:=C) (n:=n) (hn.weak (fun g h=>h.1)) hB
 ·exact hE.err hc hj fk fT f0 f1 f2 f3 fo fl fc fp
theorem Jc.fin2{g cap:Nat}(h:Jc L inn RES P0 (w.heap.size+1) m xs j c q (.slice (some ⟨g,0,none⟩) m cap) W)(hm:2<=m)(ho:W.ownsRow (w.heap.size+1) 30 8 (.slice (some ⟨g,0,none⟩) m cap) m xs)(hx:xs=[.int .i64 fk,.string fT,.int .u64 f0,.int .u64 f1,.int .u64 f2,.int .u64 f3,.slice fo fl fc,.int .i64 fp]++rest)(hst:sgB (nT L j c) 47=false)(hE:Ew w R b v L j dp c q W)(hj:j<L.length)(hB:B<=w.heap.size):
  AnZ RES B R b v L dp w (.returned (.agg #[.int .i64 7,.string ⟨#[]⟩,.int .u64 0,.int .u64 0,.int .u64 0,.int .u64 0,.slice (some ⟨g,0,none⟩) m cap,.int .i64 fp])) (st8 W w.heap.size 7 {data:=#[]} 0 0 0 0 (.slice (some ⟨g,0,none⟩) m cap) fp):=by
 rcases h with⟨rfl,rfl,f,n,r0,h3,h4,h5,h7,h8,hP⟩|⟨hc,x,rfl⟩
 ·obtain⟨n2,r,rfl⟩:∃n2 r,r0=n2::r:=by
   match r0,h3 with
   |[],h=>simp at h;omega
   |n2::r,_=>exact⟨n2,r,rfl⟩
  have hp:=z0h hst;cases f with
  |zero=>omega
  |succ f=>
   rw[Zw,if_neg hp]at h7;subst h7;have h8':=h8;rw[Qf]at h8';obtain⟨cs,rr,e,hn,_⟩:=h8';rw[hx]at e;have hl:=hn.len;have he:=List.append_inj_left e (by rw[hl];rfl);subst he;obtain⟨kd',C,h9⟩:=hn.form;have h10:=h9;dsimp only[n8]at h10;simp only[List.cons.injEq,Value.int.injEq,and_true,true_and]at h10;obtain⟨_,_,_,_,_,rfl⟩:=h10;rcases ho with⟨hlx,⟨e1,_⟩|⟨g',cap',cur,e1,hgb,hcur,hcap,hmax,hsz,htk⟩⟩
   ·cases e1
   ·cases e1
    refine hE.fin (kd:=7) (C:=0) (n:=.mk 7 {data:=#[]} 0 (n::n2::r) n.at') ?_ hB;rw[Qw];refine⟨_,rfl,.inr ⟨rfl,g,cap,cur,by rw[Kb,List.length_cons,<-h3],hgb,hcur,hmax,?_⟩⟩;have h11:cur.toList=xs++cur.toList.drop (m*8):=by rw[<-htk,List.take_append_drop]
    rw[h11];exact(Qf.more _ _ _ h8).weak (fun g h=>h.1)
 ·exact hE.err hc hj 7 {data:=#[]} 0 0 0 0 (some ⟨g,0,none⟩) m cap fp
end
theorem Xp.advr{L:List Tok}{inn:Nat->Pr}(hg:Qv L)(ha:Adv L inn){D j:Nat}(hj:j+1<L.length){W:World}{kd:Int}{T:ByteArray}{a0 a1 a2 a3:Int}{so:Option Addr}{sl sc:Nat}{p:Int}{k1:Nat}{c1 q1:Int}(h:Xp D (Qb L inn L.length (j+1) []) W kd T a0 a1 a2 a3 so sl sc p k1 c1 q1)(hc:c1=0):j<k1:=by
 cases hs:Qb L inn L.length (j+1) []with
 |inl x=>rw[hs]at h;exact absurd hc h
 |inr x=>
  obtain⟨n,k'⟩:=x;rw[hs]at h;obtain⟨_,rfl,_⟩:=h;have:=(Fd hg ha _ _ _ _ _ hj hs).1;omega
theorem z4b(R b:Nat)(v:Value)(L:List Tok)(dp:Nat)(inn:Nat->Pr)(hg:Qv L)(ha:Adv L inn)(Rr RES:Pr)(P0:Prop)(hP0:∀x,Rr=.inr x->P0)(k B:Nat)(c0 q0:Int)(w:World)
  (HO0:Hid (∀W:World,RdZ W R b v L k dp c0 q0->w.heap.size+1<=W.heap.size->Calls prog 93 #[.pointer (some ⟨R,0,none⟩)] W fun e w'=>Gz (Xp (w.heap.size+1) Rr) R b v L dp W e w'))
  (HO:Hid (P0->∀(W:World) (j:Nat),RdZ W R b v L j dp 0 0->j<L.length->Calls prog 93 #[.pointer (some ⟨R,0,none⟩)] W fun e w'=>Gz (Xp W.heap.size (Qb L inn L.length j [])) R b v L dp W e w'))
  (h:RdZ w R b v L k dp c0 q0)(hk:k<L.length)(hB:B<=w.heap.size)(hRES:RES=chE L inn Rr)(hRr:∀n k',Rr=.inr (n,k')->k'<L.length):
  Calls prog 67 #[.pointer (some ⟨R,0,none⟩)] w fun e w'=>AnZ RES B R b v L dp w e w':=by
 obtain⟨iT,hiT,hzT0,hzT1,hzT2⟩:=info_parts Tryz.infoNd;have hll:=hg.len;have HS:=hid (fun(W:World) (k:Nat) (c q:Int) (h:RdZ W R b v L k dp c q) (hk:k<L.length)=>Mh R b v L k dp c q W 47 h hk hll);have HNx:=hid (fun(W:World) (k:Nat) (h:RdZ W R b v L k dp 0 0) (hk:k<L.length) (h6:(gL L k).1≠6)=>Yd R b v L k dp W h hk hll h6);have HE:Hid (Ew w R b v L k dp c0 q0 (w.alloc Zo)):=Ew.start h;have HGd:=hid hg;have HAd:=hid ha;have HRES:=hid hRES;have HRr:=hid hRr;have HP0:=hid hP0;clear h hg ha hRES hRr hP0;go_enter func67,ntmps67
 go_wp2_with fail
 refine(HO0.out _ HE.out.1 HE.out.size).mono ?_;rintro e w4 ⟨fk,fT,f0,f1,f2,f3,fo,fl,fc,fp,k1,c1,q1,rfl,HX,HK1,hr4,hg4⟩;have HE4:=hid (HE.out.grown hr4.out hg4.out);have HL4:Hid (w.heap.size<w4.heap.size):=HE4.out.size;clear hr4 hg4 HE HO0;have HE5:=hid ((HE4.out.alloc (.cells #[.int .i64 fk,.string fT,.int .u64 f0,.int .u64 f1,.int .u64 f2,.int .u64 f3,.slice fo fl fc,.int .i64 fp] 30)).alloc (.cells #[.int .i64 fk,.string fT,.int .u64 f0,.int .u64 f1,.int .u64 f2,.int .u64 f3,.slice fo fl fc,.int .i64 fp] 30));have HF5:Hid (((w4.alloc (.cells #[.int .i64 fk,.string fT,.int .u64 f0,.int .u64 f1,.int .u64 f2,.int .u64 f3,.slice fo fl fc,.int .i64 fp] 30)).alloc (.cells #[.int .i64 fk,.string fT,.int .u64 f0,.int .u64 f1,.int .u64 f2,.int .u64 f3,.slice fo fl fc,.int .i64 fp] 30)).heap[w4.heap.size]? =some (.cells #[.int .i64 fk,.string fT,.int .u64 f0,.int .u64 f1,.int .u64 f2,.int .u64 f3,.slice fo fl fc,.int .i64 fp] 30)):=(Below.heap_alloc _ _ _ (by simp)).trans (Qq w4 _ rfl);have HO5:Hid (((w4.alloc (.cells #[.int .i64 fk,.string fT,.int .u64 f0,.int .u64 f1,.int .u64 f2,.int .u64 f3,.slice fo fl fc,.int .i64 fp] 30)).alloc (.cells #[.int .i64 fk,.string fT,.int .u64 f0,.int .u64 f1,.int .u64 f2,.int .u64 f3,.slice fo fl fc,.int .i64 fp] 30)).ownsRow (w.heap.size+1) 30 8 (.slice (some ⟨w4.heap.size+1,0,none⟩) 1 1) 1 [.int .i64 fk,.string fT,.int .u64 f0,.int .u64 f1,.int .u64 f2,.int .u64 f3,.slice fo fl fc,.int .i64 fp]):=⟨rfl,.inr ⟨w4.heap.size+1,1,_,rfl,by have:=HE4.out.size;omega,Qq _ _ (by simp),Nat.le_refl _,by unfold maxLen;omega,rfl,rfl⟩⟩;have HJ5:Hid (Jc L inn RES P0 (w.heap.size+1) 1 [.int .i64 fk,.string fT,.int .u64 f0,.int .u64 f1,.int .u64 f2,.int .u64 f3,.slice fo fl fc,.int .i64 fp] k1 c1 q1 (.slice (some ⟨w4.heap.size+1,0,none⟩) 1 1) ((w4.alloc (.cells #[.int .i64 fk,.string fT,.int .u64 f0,.int .u64 f1,.int .u64 f2,.int .u64 f3,.slice fo fl fc,.int .i64 fp] 30)).alloc (.cells #[.int .i64 fk,.string fT,.int .u64 f0,.int .u64 f1,.int .u64 f2,.int .u64 f3,.slice fo fl fc,.int .i64 fp] 30))):=by
  cases hr:Rr with
  |inl x=>
   have hX:=HX.out;rw[hr]at hX;exact .inr ⟨hX,x,by rw[HRES.out,hr];rfl⟩
  |inr x=>
   obtain⟨n,k'⟩:=x;have hX:=HX.out;rw[hr]at hX;obtain⟨hn,rfl,rfl,rfl,_⟩:=hX;refine .inl ⟨rfl,rfl,L.length,n,[],rfl,by omega,by simp,by rw[HRES.out,hr];rfl,?_,HP0.out _ hr⟩;rw[Qf];refine⟨[.int .i64 fk,.string fT,.int .u64 f0,.int .u64 f1,.int .u64 f2,.int .u64 f3,.slice fo fl fc,.int .i64 fp],[],by simp,Qw.kept (fun g cur hp hq=>⟨?_,hp,?_⟩) n _ hn,by rw[Qf];trivial⟩
   ·exact(Below.heap_alloc _ _ _ (by have:=Qz hq;simp;omega)).trans (Below.heap_alloc _ _ _ (Qz hq))
   ·intro e
    have e2:w4.heap.size+1=g:=by simpa [Value.ownBlock]using e
    have:=Qz hq;omega
 clear HE4 HX HRES HRr
 go_wp2_with fail
 refine(HS.out _ _ _ _ HE5.out.1 HK1.out.1).mono ?_;rintro e w5 ⟨rfl,hb5⟩;have HE6:=hid (HE5.out.below hb5);have HF6:=hid ((hb5.block _ (Qz HF5.out)).trans HF5.out);have HO6:=hid (Vz HO5.out hb5);have HJ6:=hid (HJ5.out.below hb5);clear hb5 HE5 HF5 HO5 HJ5;have HFa6:Hid ((Value.slice (some ⟨w4.heap.size+1,0,none⟩) 1 1).ownBlock≠some w4.heap.size):=fun e=>by simp[Value.ownBlock]at e
 go_wp2_with fail
 go_loopw [4,5] (fun a bm wr=>∃(m j:Nat) (xs:List Value) (c q:Int),bm=.bool (sgB (nT L j c) 47)/\j<L.length/\1<=m/\m<=20000+20000/\Hid (c=0->q=0)/\Hid (∃rest,xs=[.int .i64 fk,.string fT,.int .u64 f0,.int .u64 f1,.int .u64 f2,.int .u64 f3,.slice fo fl fc,.int .i64 fp]++rest)/\Hid (Jc L inn RES P0 (w.heap.size+1) m xs j c q a wr)/\Hid (wr.ownsRow (w.heap.size+1) 30 8 a m xs)/\Hid (Ew w R b v L j dp c q wr)/\Hid (wr.heap[w4.heap.size]? =some (.cells #[.int .i64 fk,.string fT,.int .u64 f0,.int .u64 f1,.int .u64 f2,.int .u64 f3,.slice fo fl fc,.int .i64 fp] 30))/\Hid (a.ownBlock≠some w4.heap.size)) (fun _ bm wr=>msR L R bm wr)
 case atStart=>exact⟨1,k1,_,c1,q1,rfl,HK1.out.1,Nat.le_refl _,by omega,hid HK1.out.2,hid ⟨[],by simp⟩,HJ6,HO6,HE6,HF6,HFa6⟩
 case round=>
  obtain⟨m,j,xs,c,q,rfl,hj,hm1,hm,HQ,HFs,HJ,HOw,HEr,HF,HFa⟩:=hrel;clear HE6 HF6 HO6 HJ6 HK1;obtain⟨bb,hbb⟩:∃bb,bb=sgB (nT L j c) 47:=⟨_,rfl⟩;rw[<-hbb];cases bb
  ·obtain⟨rest,hxs⟩:=HFs.out
   obtain⟨⟨m0,m1,m2,m3,m4,m5,m6,m7⟩,_⟩:=Qk HF.out;obtain⟨⟨k0,k1,k2,k3,k4,k5,k6,k7⟩,⟨g0,g1,g2,g3,g4,g5,g6,g7⟩⟩:=HEr.out.cells;have hs0:=HEr.out.size;have hst:=hid hbb.symm;have HXS:=hid hxs;clear hbb HO HS HQ HNx hxs;have how:=HOw.out;obtain⟨g,cap,rfl⟩:=Xl how (by omega);clear how;by_cases he1:m=1
   ·subst he1
    go_wp2_with fail
    (try simp only[Exit.inBlock,Exit.then])
    obtain⟨⟨d0,d1,d2,d3,d4,d5,d6,d7⟩,_⟩:=Qk (Zx HEr.out.2.2.1 fk fT f0 f1 f2 f3 (.slice fo fl fc) fp);refine bodyPost_ret (v:=.agg [.int .i64 fk,.string fT,.int .u64 f0,.int .u64 f1,.int .u64 f2,.int .u64 f3,.slice fo fl fc,.int .i64 fp].toArray) (by simp[results,Tryz.results67,go_sem,d0,d1,d2,d3,d4,d5,d6,d7]) rfl ?_;exact HJ.out.fin1 HXS.out hst.out HEr.out hj hB
   ·have b1:((m:Int) == 1)=false:=by simp;omega
    have hm2:2<=m:=by omega
    go_wp2_with fail
    (try simp only[Exit.inBlock,Exit.then])
    obtain⟨⟨d0,d1,d2,d3,d4,d5,d6,d7⟩,_⟩:=Qk (Zx HEr.out.2.2.1 7 {data:=#[]} 0 0 0 0 (.slice (some ⟨g,0,none⟩) m cap) fp);refine bodyPost_ret (v:=.agg #[.int .i64 7,.string ⟨#[]⟩,.int .u64 0,.int .u64 0,.int .u64 0,.int .u64 0,.slice (some ⟨g,0,none⟩) m cap,.int .i64 fp]) (by simp[results,Tryz.results67,go_sem,d0,d1,d2,d3,d4,d5,d6,d7]) rfl ?_;exact HJ.out.fin2 hm2 HOw.out HXS.out hst.out HEr.out hj hB
  ·obtain⟨hc0,h6⟩:=Uy (L:=L) (k:=j) (c:=c) hbb.symm
   have hqz:=HQ.out hc0;subst hc0 hqz;have hmj:m<=10001:=by
    rcases HJ.out with⟨_,_,f,n,r,h3,h4,h5,_⟩|⟨h,_⟩
    ·omega
    ·exact absurd rfl h
   have HPz:Hid P0:=by
    rcases HJ.out with⟨_,_,_,_,_,_,_,_,_,_,h⟩|⟨h,_⟩
    ·exact h
    ·exact absurd rfl h
   have HPt:=hid hbb.symm;have hj1:j+1<L.length:=HGd.out.nxt j hj h6;have HMs:Hid (Xy R wr=j):=Ec HEr.out.1;clear hbb HQ hm
   go_wp2_with fail
   refine(HNx.out _ _ HEr.out.1 hj h6).mono ?_;rintro e wn ⟨rfl,hrn,hgn⟩;have HEn:=hid (HEr.out.grown hrn hgn);have HGn:=hid hgn;clear hrn h6
   go_wp2_with fail
   refine(HO.out HPz.out wn (j+1) HEn.out.1 hj1).mono ?_;rintro e w6 ⟨kd,T2,a0,a1,a2,a3,so,sl,sc,q2,k1,c1,q1,rfl,HX,HK1,hr6,hg6⟩;have HE6:=hid (HEn.out.grown hr6.out hg6.out);have HG6:=hid (G.trans hgn hg6.out);have HF6:Hid (w6.heap[w4.heap.size]? =some (.cells #[.int .i64 fk,.string fT,.int .u64 f0,.int .u64 f1,.int .u64 f2,.int .u64 f3,.slice fo fl fc,.int .i64 fp] 30)):=(HG6.out.block _ (Qz HF.out) (fun e=>by have e2:w4.heap.size=R:=Option.some.inj e;have:=HEr.out.lt;have:=HL4.out;omega)).trans HF.out;have HOw6:=hid (HOw.out.kept HG6.out (.inr (fun e=>by have:=(HOw.out.lt _ e).1;have:=HEr.out.lt;omega)));have HD:=hid hgn.size;clear hr6 hg6 hgn HEn
   go_wp2_with(first|(at_builtin;refine wpList_append_own_at _ rfl (.tmp 18) (.tmp 20) 28 rfl (w.heap.size+1) 30 iT (.agg #[.int .i64 0,.string ⟨#[]⟩,.int .u64 0,.int .u64 0,.int .u64 0,.int .u64 0,.slice none 0 0,.int .i64 0]) 8 88 Tryz.underlying28 hiT hzT0 hzT1 hzT2 rfl (by decide) _ _ _ rfl ((HOw6.out.alloc _).alloc _) ⟨w6.heap.size+1,0,none⟩ 1 1 [.int .i64 kd,.string T2,.int .u64 a0,.int .u64 a1,.int .u64 a2,.int .u64 a3,.slice so sl sc,.int .i64 q2] rfl rfl (z3X w6 _ _ _ _ _ _ _ _ _ 30) (Cf _ _ _ _ _ _ _ _ _ _) (by unfold maxLen;omega) (by omega) (by have:=HE6.out.size;simp;omega) ?_;intro v7 w7 hown7 hgr7 hnil7 hat7))
   have HB3:Hid (Below w6.heap.size w6 ((w6.alloc (.cells #[.int .i64 kd,.string T2,.int .u64 a0,.int .u64 a1,.int .u64 a2,.int .u64 a3,.slice so sl sc,.int .i64 q2] 30)).alloc (.cells #[.int .i64 kd,.string T2,.int .u64 a0,.int .u64 a1,.int .u64 a2,.int .u64 a3,.slice so sl sc,.int .i64 q2] 30))):=((Below.refl _ w6).alloc L0q _).alloc (by simp) _;have HJ7:=hid (Jc.step HGd.out HAd.out hj HPt.out HJ.out HOw.out (R:=R) (by have:=HEr.out.lt;omega) (by have:=HEr.out.size;have:=HD.out;omega) HD.out HG6.out HX.out HB3.out hown7 hgr7 hat7);have HE7:Hid (Ew w R b v L k1 dp c1 q1 w7):=((HE6.out.alloc _).alloc _).rowed hgr7 (fun g e=>by have:=(HOw.out.lt g e).1;omega);have HF7:Hid (w7.heap[w4.heap.size]? =some (.cells #[.int .i64 fk,.string fT,.int .u64 f0,.int .u64 f1,.int .u64 f2,.int .u64 f3,.slice fo fl fc,.int .i64 fp] 30)):=(hgr7.block _ (by have:=Qz HF6.out;simp;omega) (fun e=>HFa.out e.symm)).trans ((HB3.out.block _ (Qz HF6.out)).trans HF6.out);have HO7:=hid hown7;have HFa7:Hid (v7.ownBlock≠some w4.heap.size):=by
    rcases hat7 with h|h
    ·rw[h];exact HFa.out
    ·rw[h]
     intro e;have e2:=Option.some.inj e;rw[World.size_alloc,World.size_alloc]at e2;have:=Qz HF6.out;omega
   have HFs7:Hid (∃rest,xs++[.int .i64 kd,.string T2,.int .u64 a0,.int .u64 a1,.int .u64 a2,.int .u64 a3,.slice so sl sc,.int .i64 q2]=[.int .i64 fk,.string fT,.int .u64 f0,.int .u64 f1,.int .u64 f2,.int .u64 f3,.slice fo fl fc,.int .i64 fp]++rest):=by
    obtain⟨rest,hx⟩:=HFs.out;exact⟨rest++[.int .i64 kd,.string T2,.int .u64 a0,.int .u64 a1,.int .u64 a2,.int .u64 a3,.slice so sl sc,.int .i64 q2],by rw[hx,List.append_assoc]⟩
   have HAv:=hid (fun hc=>Xp.advr HGd.out HAd.out hj1 HX.out hc);clear hown7 hgr7 hnil7 hat7 HX HJ HOw HOw6 HE6 HF6 HF HEr HB3 HFs HPt HG6 HGn HD
   go_wp2_with fail
   refine(HS.out _ _ _ _ HE7.out.1 HK1.out.1).mono ?_;rintro e w8 ⟨rfl,hb8⟩;have HE8:=hid (HE7.out.below hb8);have HF8:=hid ((hb8.block _ (Qz HF7.out)).trans HF7.out);have HJ8:=hid (HJ7.out.below hb8);have HO8:=hid (Vz HO7.out hb8);have HMs8:Hid (Xy R w8=k1):=Ec HE8.out.1;clear hb8 HE7 HF7 HJ7 HO7
   go_wp2_with fail
   go_roundw
   case rel=>exact⟨m+1,k1,_,c1,q1,rfl,HK1.out.1,by omega,by omega,hid HK1.out.2,HFs7,HJ8,HO8,HE8,HF8,HFa7⟩
   case measure=>
    show msR L R (.bool (sgB (nT L k1 c1) 47)) w8<msR L R (.bool true) wr;cases hst:sgB (nT L k1 c1) 47 with
    |false=>show(0:Nat)<L.length-Xy R wr+1;omega
    |true=>
     have:=HAv.out (Uy hst).1;have h7:=HMs8.out;have h8:=HMs.out;show L.length-Xy R w8+1<L.length-Xy R wr+1;omega
end
end Go.Proofs.YtikfnaffiehpaaaGreatDoor
