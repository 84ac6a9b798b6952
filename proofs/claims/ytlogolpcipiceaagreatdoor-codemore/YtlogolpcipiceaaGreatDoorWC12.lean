/- Lemmas for the last text. Conditions: those that each names. -/
import Derived.Test.YtlogolpcipiceaaGreatDoorVC13dToCBase
set_option linter.unusedVariables false
set_option maxRecDepth 100000
set_option maxHeartbeats 16000000
namespace Go.Proofs.YtlogolpcipiceaaGreatDoor
open Go.Proofs.Tryz
open Go.RowKit Go.Shelf Go.Maps
theorem y4a(so:Option Addr)(n cap:Nat)(rs:List Rr)(k:Int)(T:ByteArray)(a1 b1 c1 d1:Int)(so1:Option Addr)(n1 cap1:Nat)(p:Int)(t:RT)(fp:Addr)(w:World)(hE:Yw w)(hT:TabIs w)(hF:w.cell? ⟨1,0,none⟩=some (.iface 379 (.pointer (some fp))))(hPw:Yj w)(hz:RgZ rs)(hu:RgU rs)(h:Qv w w.heap.size so n rs)(hn:n*112<=140737488351232)
  (ht:Qj w w.heap.size t (r8 k T a1 b1 c1 d1 so1 n1 cap1 p))(hzt:RtZ t)(hut:RtU t):
  Calls prog 8 #[.agg #[.slice so n cap],.agg #[.int .i64 k,.string T,.int .u64 a1,.int .u64 b1,.int .u64 c1,.int .u64 d1,.slice so1 n1 cap1,.int .i64 p]] w fun e w'=>e=.returned (.bool true)/\Below w.heap.size w w':=by
 obtain⟨X,hX,hPr,hC⟩:=Sh so n cap rs w.heap.size w hz hu h L0q hT;obtain⟨u1,hu1⟩:∃u1,u1=(w.alloc (.cells #[.slice so n cap] 24)).alloc (.cells #[.int .i64 k,.string T,.int .u64 a1,.int .u64 b1,.int .u64 c1,.int .u64 d1,.slice so1 n1 cap1,.int .i64 p] 71):=⟨_,rfl⟩;have hbu:Below w.heap.size w u1:=by rw[hu1];exact((Below.refl _ w).alloc L0q _).alloc (by simp) _
 have gu:u1.heap[w.heap.size]? =some (.cells #[.slice so n cap] 24):=by rw[hu1];exact(Below.heap_alloc _ _ _ (by simp)).trans (Qx w _ rfl)
 have gn:u1.heap[w.heap.size+1]? =some (.cells #[.int .i64 k,.string T,.int .u64 a1,.int .u64 b1,.int .u64 c1,.int .u64 d1,.slice so1 n1 cap1,.int .i64 p] 71):=by rw[hu1];exact Qx _ _ (by simp)
 have hfl:1<w.heap.size:=World.block_lt_of_cell? w _ hF;have HFb:Hid (∀W:World,Below w.heap.size w W->W.cell? ⟨1,0,none⟩=some (.iface 379 (.pointer (some fp)))):=hid fun W hb=>(hb.cell (p:=⟨1,0,none⟩) hfl).trans hF
 have HS:=hid (z4U fp u1 (hE.below hbu hE.lt) (hT.below hbu hT.lt) (HFb.out u1 hbu) (hPw.below hbu));have HMa:=hid (fun(W:World) (hb:Below w.heap.size w W)=>z5b so n cap rs X w.heap.size fp w hX hPr hC hz hu h L0q hT hF hPw W hb);have HNl:Hid (n=rs.length):=h.1;have HRg:=hid h;have HT:=hid hT;have HPw:=hid hPw;have HZ:=hid (y3K (x:=({data:=#[99,111,100,101,109,111,114,101]},t,0)) hz (by show 8<=9223372036854775807;omega) hzt);have HU:=hid (y3L (x:=({data:=#[99,111,100,101,109,111,114,101]},t,0)) hu hut);have HTr:=hid ht;have HN:Hid (n*112<=140737488351232):=hn;have nIz:(n:Int)<=9223372036854775807:=by omega
 clear hE hT hz hu h hC hX hPr ht hzt hut hn hF hPw hfl;go_enter func8,ntmps8
 go_wp2_with fail
 rw[<-hu1];refine HS.out.mono ?_;rintro e w1 ⟨rfl,HB1⟩;have HBw1:=hid (hbu.trans (HB1.out.mono hbu.size));have HG1:=hid ((HB1.out.block _ (Qz gu)).trans gu);have HN1:=hid ((HB1.out.block _ (Qz gn)).trans gn);obtain⟨x1,f1⟩:=Qk HG1.out;clear HS HB1 hu1 hbu gu gn
 go_wp2_with fail
 refine(HMa.out w1 HBw1.out).mono ?_;rintro e wp ⟨oso,ol,oc,nso,nl,nc,rso,rl,rc,ev,rfl,HBp,hev⟩;have hbq:Below wp.heap.size wp (wp.alloc (.cells #[.slice oso ol oc,.slice nso nl nc,.slice rso rl rc] 31)):=(Below.refl _ wp).alloc L0q _;have hb2:Below w1.heap.size w1 (wp.alloc (.cells #[.slice oso ol oc,.slice nso nl nc,.slice rso rl rc] 31)):=HBp.out.trans (hbq.mono HBp.out.size);have HEv:Hid ((∃tt uu,ev=.iface tt uu)∨(ev=.nilIface/\PgR rs oso ol nso nl rso rl (wp.alloc (.cells #[.slice oso ol oc,.slice nso nl nc,.slice rso rl rc] 31)))):=hid (hev.imp id fun h=>⟨h.1,h.2.out.below hbq⟩);have HPB:=hid (Qx wp (.cells #[.slice oso ol oc,.slice nso nl nc,.slice rso rl rc] 31) rfl);obtain⟨pB,hpB⟩:∃pB,pB=wp.heap.size:=⟨_,rfl⟩;obtain⟨w2,hw2⟩:∃w2,w2=wp.alloc (.cells #[.slice oso ol oc,.slice nso nl nc,.slice rso rl rc] 31):=⟨_,rfl⟩;rw[<-hw2]at hb2 HEv HPB;rw[<-hpB]at HPB;have hs2:w2.heap.size=wp.heap.size+1:=by rw[hw2,World.size_alloc]
 have HBw2:=hid (HBw1.out.trans (hb2.mono HBw1.out.size));have HG2:=hid ((hb2.block _ (Qz HG1.out)).trans HG1.out);have HN2:=hid ((hb2.block _ (Qz HN1.out)).trans HN1.out);obtain⟨M,hM⟩:∃M,M=w2.heap.size:=⟨_,rfl⟩;obtain⟨Wz,hWz⟩:∃Wz,Wz=w2.alloc Zg:=⟨_,rfl⟩;have HBz:Hid (Below w2.heap.size w2 Wz):=by rw[hWz];exact(Below.refl _ w2).alloc L0q _
 have hZz:Wz.heap.size=M+1:=by rw[hWz,hM];exact World.size_alloc _ _
 have HMz:Hid (Wz.heap[M]? =some Zg):=by rw[hWz,hM];exact Qx w2 _ rfl
 have HM:Hid (M=w2.heap.size):=hM;have HWz:Hid (Wz=(wp.alloc (.cells #[.slice oso ol oc,.slice nso nl nc,.slice rso rl rc] 31)).alloc Zg):=hid (by rw[hWz,hw2]);have HMp:Hid (M=wp.heap.size+1):=hid (by rw[hM,hs2]);have HpB:=hid hpB;clear HMa hb2 hbq x1 f1 HG1 HN1 hev HBp hM hWz hw2 hs2 hpB
 go_wp2_with fail
 rw[<-HWz.out,<-HMp.out,<-HpB.out];clear HWz HMp HpB;have HKl:Hid (w.heap.size<w2.heap.size/\w.heap.size+1<w2.heap.size):=⟨Qz HG2.out,Qz HN2.out⟩;obtain⟨iT,hiT,hzT0,hzT1,hzT2⟩:=info_parts Tryz.infoRl
 go_cut [27] (fun c wx=>∃(g6 cap6:Nat) (w6:World) (xs:List Value),wx=w6.setCell ⟨M,0,none⟩ (.slice (some ⟨g6,0,none⟩) (n+1) cap6)/\Hid (w6.heap[M]? =some Zg)/\Hid (Below w2.heap.size w2 w6)/\Hid (xs.length=n*10)/\Hid (∀g o,so=some ⟨g,o,none⟩->∀i u,xs[i]? =some u->w.cell? ⟨g,o+i,none⟩=some u)/\Hid (w6.ownsRow (M+1) 73 10 (.slice (some ⟨g6,0,none⟩) (n+1) cap6) (n+1) (xs++[.string {data:=#[99,111,100,101,109,111,114,101]},.int .i64 k,.string T,.int .u64 a1,.int .u64 b1,.int .u64 c1,.int .u64 d1,.slice so1 n1 cap1,.int .i64 p,.int .i64 0])))
 case first=>
  obtain⟨y0,yf⟩:=Qk HG2.out;obtain⟨⟨q0,q1,q2,q3,q4,q5,q6,q7⟩,qf⟩:=Qw HN2.out;have S2:(fun W:World=>Hid (Below w2.heap.size w2 W)/\W.cell? ⟨w.heap.size,0,none⟩=some (.slice so n cap)/\W.cell? ⟨w.heap.size+1,0,none⟩=some (.int .i64 k)/\W.cell? ⟨w.heap.size+1,1,none⟩=some (.string T)/\W.cell? ⟨w.heap.size+1,2,none⟩=some (.int .u64 a1)/\W.cell? ⟨w.heap.size+1,3,none⟩=some (.int .u64 b1)/\W.cell? ⟨w.heap.size+1,4,none⟩=some (.int .u64 c1)/\W.cell? ⟨w.heap.size+1,5,none⟩=some (.int .u64 d1)/\W.cell? ⟨w.heap.size+1,6,none⟩=some (.slice so1 n1 cap1)/\W.cell? ⟨w.heap.size+1,7,none⟩=some (.int .i64 p)) Wz.drew:=Tc ⟨hid (Below.refl _ w2),y0,q0,q1,q2,q3,q4,q5,q6,q7⟩ HKl HBz.out.drew;obtain⟨mz,mf⟩:=Qk HMz.out;have lM:M<Wz.heap.size:=by omega
  have HSd:=hid S2;have HST:Hid ((fun W:World=>Hid (Below w2.heap.size w2 W)/\W.cell? ⟨w.heap.size,0,none⟩=some (.slice so n cap)/\W.cell? ⟨w.heap.size+1,0,none⟩=some (.int .i64 k)/\W.cell? ⟨w.heap.size+1,1,none⟩=some (.string T)/\W.cell? ⟨w.heap.size+1,2,none⟩=some (.int .u64 a1)/\W.cell? ⟨w.heap.size+1,3,none⟩=some (.int .u64 b1)/\W.cell? ⟨w.heap.size+1,4,none⟩=some (.int .u64 c1)/\W.cell? ⟨w.heap.size+1,5,none⟩=some (.int .u64 d1)/\W.cell? ⟨w.heap.size+1,6,none⟩=some (.slice so1 n1 cap1)/\W.cell? ⟨w.heap.size+1,7,none⟩=some (.int .i64 p)) (Wz.alloc (.cells ([.string {data:=#[99,111,100,101,109,111,114,101]},.int .i64 k,.string T,.int .u64 a1,.int .u64 b1,.int .u64 c1,.int .u64 d1,.slice so1 n1 cap1,.int .i64 p,.int .i64 0]:List Value).toArray 73)).drew):=hid (Tc S2 HKl ((Below.refl _ Wz.drew).alloc (o:=(.cells ([.string {data:=#[99,111,100,101,109,111,114,101]},.int .i64 k,.string T,.int .u64 a1,.int .u64 b1,.int .u64 c1,.int .u64 d1,.slice so1 n1 cap1,.int .i64 p,.int .i64 0]:List Value).toArray 73)) HBz.out.drew.size));clear y0 yf q0 q1 q2 q3 q4 q5 q6 q7 qf;obtain⟨y0,yf⟩:=Qk ((HBz.out.block _ HKl.out.1).trans HG2.out);obtain⟨⟨q0,q1,q2,q3,q4,q5,q6,q7⟩,qf⟩:=Qw ((HBz.out.block _ HKl.out.2).trans HN2.out);have lG:w.heap.size<Wz.heap.size:=Nat.lt_of_lt_of_le HKl.out.1 HBz.out.size;have lN:w.heap.size+1<Wz.heap.size:=Nat.lt_of_lt_of_le HKl.out.2 HBz.out.size;clear S2;have m0:0<(10:Nat):=by decide
  have m9:0<(1:Nat):=by decide
  have m5:M+1<=Wz.drew.heap.size:=Nat.le_of_eq hZz.symm;have HI:Hid (∀g o,so=some ⟨g,o,none⟩->∀i u,([]:List Value)[i]? =some u->w.cell? ⟨g,o+i,none⟩=some u):=fun g o _ i u hi=>by simp at hi
  have HNw:Hid (∀u∈([.string {data:=#[99,111,100,101,109,111,114,101]},.int .i64 k,.string T,.int .u64 a1,.int .u64 b1,.int .u64 c1,.int .u64 d1,.slice so1 n1 cap1,.int .i64 p,.int .i64 0]:List Value),u.oneCell'=true):=Lz _ _ _ _ _ _ _ _ _ _ _ _;have HTn:Hid (∀j x,([.string {data:=#[99,111,100,101,109,111,114,101]},.int .i64 k,.string T,.int .u64 a1,.int .u64 b1,.int .u64 c1,.int .u64 d1,.slice so1 n1 cap1,.int .i64 p,.int .i64 0]:List Value)[j]? =some x->(Wz.alloc (.cells ([.string {data:=#[99,111,100,101,109,111,114,101]},.int .i64 k,.string T,.int .u64 a1,.int .u64 b1,.int .u64 c1,.int .u64 d1,.slice so1 n1 cap1,.int .i64 p,.int .i64 0]:List Value).toArray 73)).drew.cell? ((⟨Wz.heap.size,0,none⟩:Addr).add j)=some x):=by
   have h1:=Bb Wz (.string {data:=#[99,111,100,101,109,111,114,101]}) (.int .i64 k) (.string T) (.int .u64 a1) (.int .u64 b1) (.int .u64 c1) (.int .u64 d1) (.slice so1 n1 cap1) (.int .i64 p) (.int .i64 0) 73;exact h1
  have m6:M+1<=(Wz.alloc (.cells ([.string {data:=#[99,111,100,101,109,111,114,101]},.int .i64 k,.string T,.int .u64 a1,.int .u64 b1,.int .u64 c1,.int .u64 d1,.slice so1 n1 cap1,.int .i64 p,.int .i64 0]:List Value).toArray 73)).drew.heap.size:=by show _<=(Wz.alloc _).heap.size;rw[World.size_alloc];omega
  have m8:M<(Wz.alloc (.cells ([.string {data:=#[99,111,100,101,109,111,114,101]},.int .i64 k,.string T,.int .u64 a1,.int .u64 b1,.int .u64 c1,.int .u64 d1,.slice so1 n1 cap1,.int .i64 p,.int .i64 0]:List Value).toArray 73)).drew.heap.size:=by omega
  have HZz:Hid (Wz.heap.size=M+1):=hZz;by_cases hn0:n=0
  ·subst hn0
   clear hZz;have m1:0+1<=maxLen:=by decide
   have m2:(0+1)*112<=140737488355328:=by omega
   go_region_law (first
    |(refine y3F rfl (.tmp 20) (.tmp 22) 22 rfl 73 iT Tryz.underlying22 hiT so cap (by rfl) (by rfl) ?_)
    |(refine step_append_lies _ rfl (.tmp 23) (.tmp 26) 22 rfl (M+1) 73 iT (.agg #[.string ⟨#[]⟩,.int .i64 0,.string ⟨#[]⟩,.int .u64 0,.int .u64 0,.int .u64 0,.int .u64 0,.slice none 0 0,.int .i64 0,.int .i64 0]) 10 112 Tryz.underlying22 hiT hzT0 hzT1 hzT2 rfl m0 (.slice none 0 0) 0 [] (by rfl) (World.ownsRow_nil _ _ _ _) ⟨Wz.heap.size,0,none⟩ 1 1 [.string {data:=#[99,111,100,101,109,111,114,101]},.int .i64 k,.string T,.int .u64 a1,.int .u64 b1,.int .u64 c1,.int .u64 d1,.slice so1 n1 cap1,.int .i64 p,.int .i64 0] (by rfl) rfl HTn.out HNw.out m9 m1 m2 m6 _ rfl ?_;intro g6 cap6 w6 hown6 hgr6 hat6 hlt6;have hb6:=Hg HST.out.1 hgr6 (fun g e=>by cases e);have hbw6:=Ak HST.out.1 hb6;have k6:=(hgr6.block M m8 (fun e=>by cases e)).trans ((Below.heap_alloc _ _ _ lM).trans HMz.out);obtain⟨z0,z1⟩:=Qk k6;have z2:=Qz k6))
   all_goals(
    go_wp2_with fail
    go_meet
    case rel=>exact⟨g6,cap6,w6,[],rfl,hid k6,hbw6,hid rfl,HI,hid hown6⟩)
  ·have HRg':=HRg.out
   have hr0:0<rs.length:=by rw[<-HNl.out];omega
   obtain⟨g,o,rfl,hg,_⟩:=HRg'.2.2 0 hr0;obtain⟨xs,hxl,hxc,hxo⟩:=y3D HRg';have HX0:Hid (∀W,Hid (Below w2.heap.size w2 W)->∀j u,xs[j]? =some u->W.cell? ((⟨g,o,none⟩:Addr).add j)=some u):=fun W hW j u hj=>by
    have hadd:(⟨g,o,none⟩:Addr).add j=⟨g,o+j,none⟩:=z4Z g o j;rw[hadd];exact((HBw2.out.trans (hW.out.mono HBw2.out.size)).cell (p:=⟨g,o+j,none⟩) hg).trans (hxc j u hj)
   have AL:Hid (xs.length=n*10):=hxl;have AX:Hid (∀g' o',(some ⟨g,o,none⟩:Option Addr)=some ⟨g',o',none⟩->∀i u,xs[i]? =some u->w.cell? ⟨g',o'+i,none⟩=some u):=fun g' o' e i u hi=>by
    simp only[Option.some.injEq,Addr.mk.injEq,and_true]at e;obtain⟨rfl,rfl⟩:=e;exact hxc i u hi
   have A3:Hid (∀u∈xs,u.oneCell'=true):=hxo;have hnp:0<n:=by omega
   have hnn:=HN.out;have m1:0+n<=maxLen:=by unfold maxLen;omega
   have m2:(0+n)*112<=140737488355328:=by omega
   have m3:0+n+1<=maxLen:=by unfold maxLen;omega
   have m4:(0+n+1)*112<=140737488355328:=by omega
   have HTB:Hid (∀w5,(Wz.alloc (.cells ([.string {data:=#[99,111,100,101,109,111,114,101]},.int .i64 k,.string T,.int .u64 a1,.int .u64 b1,.int .u64 c1,.int .u64 d1,.slice so1 n1 cap1,.int .i64 p,.int .i64 0]:List Value).toArray 73)).drew.grownBy w5 none->∀j x,([.string {data:=#[99,111,100,101,109,111,114,101]},.int .i64 k,.string T,.int .u64 a1,.int .u64 b1,.int .u64 c1,.int .u64 d1,.slice so1 n1 cap1,.int .i64 p,.int .i64 0]:List Value)[j]? =some x->w5.cell? ((⟨Wz.heap.size,0,none⟩:Addr).add j)=some x):=fun w5 h5 j x hj=>(h5.cell_far _ (y3G (by show _<(Wz.alloc _).heap.size;rw[World.size_alloc];omega)) (fun e=>by cases e)).trans (HTn.out j x hj)
   have HSA:Hid (∀w5 X,Wz.drew.grownBy w5 none->M+1<=(w5.alloc X).heap.size):=fun w5 X h5=>by have:=h5.size;rw[World.size_alloc];omega
   have HSB:Hid (∀w5,(Wz.alloc (.cells ([.string {data:=#[99,111,100,101,109,111,114,101]},.int .i64 k,.string T,.int .u64 a1,.int .u64 b1,.int .u64 c1,.int .u64 d1,.slice so1 n1 cap1,.int .i64 p,.int .i64 0]:List Value).toArray 73)).drew.grownBy w5 none->M+1<=w5.heap.size):=fun w5 h5=>by have:=h5.size;omega
   clear HRg' hxl hxc hxo hZz
   go_region_law (first
    |(refine step_append_lies _ rfl (.tmp 20) (.tmp 22) 22 rfl (M+1) 73 iT (.agg #[.string ⟨#[]⟩,.int .i64 0,.string ⟨#[]⟩,.int .u64 0,.int .u64 0,.int .u64 0,.int .u64 0,.slice none 0 0,.int .i64 0,.int .i64 0]) 10 112 Tryz.underlying22 hiT hzT0 hzT1 hzT2 rfl m0 (.slice none 0 0) 0 [] (by rfl) (World.ownsRow_nil _ _ _ _) ⟨g,o,none⟩ n cap xs (by rfl) AL.out (HX0.out _ (by first|exact HSd.out.1|exact HST.out.1)) A3.out hnp m1 m2 (by first|exact m5|exact m6) _ rfl ?_;intro g5 cap5 w5 hown5 hgr5 hat5 hlt5;have hb5:=Hg (by first|exact HSd.out.1|exact HST.out.1) hgr5 (fun g e=>by cases e);have HS5:=hid (Tc (by first|exact HSd.out|exact HST.out) HKl hb5);obtain⟨_,t0,t1,t2,t3,t4,t5,t6,t7,t8⟩:=HS5.out;have lN5:=World.block_lt_of_cell? _ _ t1)
    |(refine step_append_lies _ rfl (.tmp 23) (.tmp 26) 22 rfl (M+1) 73 iT (.agg #[.string ⟨#[]⟩,.int .i64 0,.string ⟨#[]⟩,.int .u64 0,.int .u64 0,.int .u64 0,.int .u64 0,.slice none 0 0,.int .i64 0,.int .i64 0]) 10 112 Tryz.underlying22 hiT hzT0 hzT1 hzT2 rfl m0 (.slice (some ⟨g5,0,none⟩) (0+n) cap5) (0+n) ([]++xs) (by first|rfl|simp[Act.eval]) (hown5.alloc _) ⟨w5.heap.size,0,none⟩ 1 1 [.string {data:=#[99,111,100,101,109,111,114,101]},.int .i64 k,.string T,.int .u64 a1,.int .u64 b1,.int .u64 c1,.int .u64 d1,.slice so1 n1 cap1,.int .i64 p,.int .i64 0] (by rfl) rfl (Bb _ _ _ _ _ _ _ _ _ _ _ _) HNw.out m9 m3 m4 (HSA.out w5 _ hgr5) _ rfl ?_;intro g6 cap6 w6 hown6 hgr6 hat6 hlt6;have hb6:=Hg (Ak HS5.out.1 (z4Y _ HS5.out.1)) hgr6 (z5a hown5 HM);have hbw6:=Ak (Ak HS5.out.1 (z4Y _ HS5.out.1)) hb6;have k6:=y3H HZz.out HMz.out hgr5 hown5 hgr6;obtain⟨z0,z1⟩:=Qk k6;have z2:=Qz k6)
    |(refine step_append_lies _ rfl (.tmp 23) (.tmp 26) 22 rfl (M+1) 73 iT (.agg #[.string ⟨#[]⟩,.int .i64 0,.string ⟨#[]⟩,.int .u64 0,.int .u64 0,.int .u64 0,.int .u64 0,.slice none 0 0,.int .i64 0,.int .i64 0]) 10 112 Tryz.underlying22 hiT hzT0 hzT1 hzT2 rfl m0 (.slice (some ⟨g5,0,none⟩) (0+n) cap5) (0+n) ([]++xs) (by first|rfl|simp[Act.eval]) hown5 ⟨Wz.heap.size,0,none⟩ 1 1 [.string {data:=#[99,111,100,101,109,111,114,101]},.int .i64 k,.string T,.int .u64 a1,.int .u64 b1,.int .u64 c1,.int .u64 d1,.slice so1 n1 cap1,.int .i64 p,.int .i64 0] (by rfl) rfl (HTB.out w5 hgr5) HNw.out m9 m3 m4 (HSB.out w5 hgr5) _ rfl ?_;intro g6 cap6 w6 hown6 hgr6 hat6 hlt6;have hb6:=Hg HS5.out.1 hgr6 (z5a hown5 HM);have hbw6:=Ak HS5.out.1 hb6;have k6:=y3I HZz.out HMz.out hgr5 hown5 hgr6;obtain⟨z0,z1⟩:=Qk k6;have z2:=Qz k6))
   all_goals(
    go_wp2_with fail
    go_meet
    case rel=>exact⟨g6,cap6,w6,xs,(by first|rfl|simp only[Nat.zero_add]),hid k6,hbw6,AL,AX,hid (by simpa only[Nat.zero_add,List.nil_append]using hown6)⟩)
 case rest=>
  obtain⟨g6,cap6,w6,xs,hwx,HMx,HB6,HXl,HXc,HO6⟩:=hcut;subst hwx;obtain⟨wx,hwx⟩:∃wx,wx=w6.setCell ⟨M,0,none⟩ (.slice (some ⟨g6,0,none⟩) (n+1) cap6):=⟨_,rfl⟩;rw[<-hwx];obtain⟨hRg7,hB7⟩:=y3J (v:=.slice (some ⟨g6,0,none⟩) (n+1) cap6) HM.out HRg.out HBw2.out HB6.out HTr.out (by have:=HN.out;unfold maxLen;omega) HXl.out HXc.out HO6.out;have hk7:wx.heap[M]? =some (.cells #[.slice (some ⟨g6,0,none⟩) (n+1) cap6] 24):=by rw[hwx];exact Qb HMx.out 0 _
  rw[<-hwx]at hRg7 hB7;have HBw7:=hid (HBw2.out.trans (hB7.mono HBw2.out.size));have hT7:=HT.out.below HBw7.out HT.out.lt;obtain⟨X7,hX7,hP7,hC7⟩:=Sh (some ⟨g6,0,none⟩) (n+1) cap6 _ wx.heap.size wx HZ.out HU.out hRg7 L0q hT7;have HR7:=hid (z5b (some ⟨g6,0,none⟩) (n+1) cap6 _ X7 wx.heap.size fp wx hX7 hP7 hC7 HZ.out HU.out hRg7 L0q hT7 (HFb.out wx HBw7.out) (HPw.out.below HBw7.out) wx B0q);have HP7:=hid ((hB7.block _ (Qz HPB.out)).trans HPB.out);have HE7:Hid ((∃tt uu,ev=.iface tt uu)∨(ev=.nilIface/\PgR rs oso ol nso nl rso rl wx)):=hid (HEv.out.imp id fun h=>⟨h.1,h.2.below hB7⟩);obtain⟨x7,f7⟩:=Qk hk7;have l7:=Qz hk7;clear hwx HMx HB6 HXl HXc HO6 hRg7 hB7 hT7 hX7 hC7 HZ HU HTr HRg HT hk7 HN2 HKl HMz HBz hZz hiT hzT0 hzT1 hzT2 hP7 HPB HEv HFb HPw HG2
  go_wp2_with fail
  refine HR7.out.mono ?_;rintro e wq ⟨oso2,ol2,oc2,nso2,nl2,nc2,rso2,rl2,rc2,fv,rfl,HBq,hfv⟩;have HBw8:=hid (HBw7.out.trans (HBq.out.mono HBw7.out.size));have HP8:=hid ((HBq.out.block _ (Qz HP7.out)).trans HP7.out);have HE8:Hid ((∃tt uu,ev=.iface tt uu)∨(ev=.nilIface/\PgR rs oso ol nso nl rso rl wq)):=hid (HE7.out.imp id fun h=>⟨h.1,h.2.below HBq.out⟩);clear x7 f7 l7 HP7 HE7 HR7 HBq;rcases HE8.out with⟨te,ue,rfl⟩|⟨rfl,hpr⟩
  ·clear HE8
   go_wp2_with fail
   go_ret;exact⟨rfl,HBw8.out.alloc HBw8.out.size _⟩
  rcases hfv with⟨te,ue,rfl⟩|⟨rfl,HQr⟩
  ·clear HE8 hpr
   go_wp2_with fail
   go_ret;exact⟨rfl,HBw8.out.alloc HBw8.out.size _⟩
  obtain⟨ixr,lops,pg1,pg2⟩:=y3C (x:=({data:=#[99,111,100,101,109,111,114,101]},t,0)) hpr.ck;have hlen:(rs++[(({data:=#[99,111,100,101,109,111,114,101]}:ByteArray),t,(0:Int))]).length=rs.length+1:=by simp
  obtain rfl:nl2=nl+1:=by have:=HQr.out.ln;have:=hpr.ln;omega
  obtain rfl:rl2=rl+1:=by have:=HQr.out.lr;have:=hpr.lr;omega
  have hol:ol<=ol2:=by have h1:=HQr.out.lo;have h2:=hpr.lo;rw[pg2,List.length_append]at h1;omega
  have hol2:ol2<=200:=by have h1:=HQr.out.lo;have h2:=HQr.out.l2;omega
  have hnl:nl<=64:=by have h1:=hpr.ln;have h2:=hpr.l6;omega
  have hrl:rl<=64:=by have h1:=hpr.lr;have h2:=hpr.l6;omega
  have hnr:nl=rl:=by have h1:=hpr.ln;have h2:=hpr.lr;omega
  have hbq:Below wq.heap.size wq (wq.alloc (.cells #[.slice oso2 ol2 oc2,.slice nso2 (nl+1) nc2,.slice rso2 (rl+1) rc2] 31)):=(Below.refl _ wq).alloc L0q _;obtain⟨qC,hqC⟩:∃qC,qC=wq.heap.size:=⟨_,rfl⟩;obtain⟨wf,hwf⟩:∃wf,wf=wq.alloc (.cells #[.slice oso2 ol2 oc2,.slice nso2 (nl+1) nc2,.slice rso2 (rl+1) rc2] 31):=⟨_,rfl⟩;have hqb:=Qx wq (.cells #[.slice oso2 ol2 oc2,.slice nso2 (nl+1) nc2,.slice rso2 (rl+1) rc2] 31) rfl;rw[<-hwf]at hbq hqb;rw[<-hqC]at hqb;have HPf:=hid ((hbq.block _ (Qz HP8.out)).trans HP8.out);have HQf:=hid hqb;have HPr:=hid (hpr.below hbq);have HQr':=hid (HQr.out.below hbq);have HBf:=hid (HBw8.out.trans (hbq.mono HBw8.out.size));have HPG1:=hid pg1;have HPG2:=hid pg2;have HwF:=hid hwf;have HqC:=hid hqC;have HNR:=hid hnr;have b0:decide ((ol2:Int)<(ol:Int))=false:=by simp;omega
  have b1:¬(ol2:Int)<(ol:Int):=by omega
  have b4:decide (ol2<ol)=false:=by simp;omega
  have b2:IntKind.i64.wrap ((nl:Int)+1)=(nl:Int)+1:=by rw[IntKind.wrap_i64];omega
  have b3:IntKind.i64.wrap ((rl:Int)+1)=(rl:Int)+1:=by rw[IntKind.wrap_i64];omega
  obtain⟨p0,p1,p2,_⟩:=Xz HP8.out;have lp:=Qz HP8.out;clear hpr HQr HE8 pg1 pg2 hbq hwf hqC hqb hlen hnr
  go_wp2_with fail
  (try simp only[b4])
  rw[<-HwF.out,<-HqC.out];clear b4 HwF HqC p0 p1 p2 lp HP8 HBw8 HBw7 b0 b1 b2 b3
  go_loopw [11] (fun i wr=>∃j:Nat,i=.int .i64 j/\j<=rl/\Hid (Below wf.heap.size wf wr)) (fun i _=>rl-(intOf i).toNat)
  case atStart=>exact⟨0,rfl,Nat.zero_le _,hid B0q⟩
  case round=>
   obtain⟨j,rfl,hj,HBr⟩:=hrel;have HP9:=hid ((HBr.out.block _ (Qz HPf.out)).trans HPf.out);have HQ9:=hid ((HBr.out.block _ (Qz HQf.out)).trans HQf.out);obtain⟨p0,p1,p2,_⟩:=Xz HP9.out;obtain⟨q0,q1,q2,_⟩:=Xz HQ9.out;have lp:=Qz HP9.out;have lq:=Qz HQ9.out;by_cases hjn:j<rl
   ·have hjI:(j:Int)<(rl:Int):=by omega
    have a0:decide ((j:Int)<(rl:Int))=true:=by simp;omega
    have hjs:j<rs.length:=by have:=HPr.out.lr;omega
    obtain⟨gr,x,rfl,hgr,hx,c1⟩:=(HPr.out.below HBr.out).r j hjs;obtain⟨gn,rfl,hgn,c2⟩:=(HPr.out.below HBr.out).n j hjs;have hjs2:j<(rs++[(({data:=#[99,111,100,101,109,111,114,101]}:ByteArray),t,(0:Int))]).length:=by simp;omega
    obtain⟨gr2,x2,rfl,hgr2,hx2,c3⟩:=(HQr'.out.below HBr.out).r j hjs2;obtain⟨gn2,rfl,hgn2,c4⟩:=(HQr'.out.below HBr.out).n j hjs2;have hlr:(pgG rs).1.length=rs.length:=(Km (fun T=>fdI T (nmL rs)) rs []).2.1.1;rw[HPG1.out,List.getElem?_append_left (by omega),hx]at hx2;obtain rfl:x=x2:=Option.some.inj hx2;rw[List.getElem_append_left hjs]at c4;obtain⟨N0,hN0⟩:∃N0,N0=rs[j].1:=⟨_,rfl⟩;rw[<-hN0]at c2 c4;have hjn2:j<nl:=by have:=HNR.out;omega
    have j1:(j:Int)<(nl:Int):=by omega
    have j2:(j:Int)<((rl+1:Nat):Int):=by omega
    have j3:(j:Int)<((nl+1:Nat):Int):=by omega
    have j4:j<rl+1:=by omega
    have j6:(j:Int)<(rl:Int)+1:=by omega
    have j7:(j:Int)<(nl:Int)+1:=by omega
    have j8:(0:Int)<=(j:Int):=by omega
    have j5:j<nl+1:=by omega
    have HS13:Hid ((fun X:World=>X.cell? ⟨pB,2,none⟩=some (.slice (some ⟨gr,0,none⟩) rl rc)/\X.cell? ⟨pB,1,none⟩=some (.slice (some ⟨gn,0,none⟩) nl nc)/\X.cell? ⟨qC,2,none⟩=some (.slice (some ⟨gr2,0,none⟩) (rl+1) rc2)/\X.cell? ⟨qC,1,none⟩=some (.slice (some ⟨gn2,0,none⟩) (nl+1) nc2)/\X.cell? ⟨gr,j,none⟩=some (.int .i64 x)/\X.cell? ⟨gr2,j,none⟩=some (.int .i64 x)/\X.cell? ⟨gn,j,none⟩=some (.string N0)/\X.cell? ⟨gn2,j,none⟩=some (.string N0)) wr.drew):=hid ⟨p2,p1,q2,q1,c1,c3,c2,c4⟩;clear hx hx2 hN0 hlr
    go_wp2_with fail
    refine Zl 99 (fun X:World=>X.cell? ⟨pB,2,none⟩=some (.slice (some ⟨gr,0,none⟩) rl rc)/\X.cell? ⟨pB,1,none⟩=some (.slice (some ⟨gn,0,none⟩) nl nc)/\X.cell? ⟨qC,2,none⟩=some (.slice (some ⟨gr2,0,none⟩) (rl+1) rc2)/\X.cell? ⟨qC,1,none⟩=some (.slice (some ⟨gn2,0,none⟩) (nl+1) nc2)/\X.cell? ⟨gr,j,none⟩=some (.int .i64 x)/\X.cell? ⟨gr2,j,none⟩=some (.int .i64 x)/\X.cell? ⟨gn,j,none⟩=some (.string N0)/\X.cell? ⟨gn2,j,none⟩=some (.string N0)) (by kernel_rfl) HS13.out (fun hHeld=> ?_);refine Qq 0 hHeld ?_;refine Qq 1 hHeld ?_;refine Qq 2 hHeld ?_;refine Qq 3 hHeld ?_;refine Qq 4 hHeld ?_;refine Qq 5 hHeld ?_;refine Qq 6 hHeld ?_;refine Qq 7 hHeld ?_;refine Qq 8 hHeld ?_;refine Qq 9 hHeld ?_;refine Qq 10 hHeld ?_;refine Qq 11 hHeld ?_;refine Qq 12 hHeld ?_;refine Qq 13 hHeld ?_;refine Qq 14 hHeld ?_;refine Qq 15 hHeld ?_;refine Qq 16 hHeld ?_;refine Qq 17 hHeld ?_;refine Qq 18 hHeld ?_;refine Qq 19 hHeld ?_;refine Qq 20 hHeld ?_;refine Qq 21 hHeld ?_;refine Qq 22 hHeld ?_;refine Qq 23 hHeld ?_;refine⟨by kernel_rfl,?_⟩;clear hHeld HS13
    go_wp2_with fail
    exact⟨⟨j+1,by go_num,by omega,hid HBr.out.drew⟩,by simp[intOf];omega⟩
   ·have a0:decide ((j:Int)<(rl:Int))=false:=by simp;omega
    go_wp2_with fail
    clear p0 p1 p2 q0 q1 q2 lp lq HP9 HQ9 a0;have HBj:=hid HBr.out;clear HBr;obtain⟨wj,hwj⟩:∃wj,wj=wr:=⟨_,rfl⟩;rw[<-hwj];rw[<-hwj]at HBj;clear hwj
    go_loopw [12] (fun i wr=>∃j:Nat,i=.int .i64 j/\j<=ol/\Hid (Below wf.heap.size wf wr)) (fun i _=>ol-(intOf i).toNat)
    case atStart=>exact⟨0,rfl,Nat.zero_le _,HBj⟩
    case round=>
     obtain⟨j,rfl,hj,HBr⟩:=hrel;have HP9:=hid ((HBr.out.block _ (Qz HPf.out)).trans HPf.out);have HQ9:=hid ((HBr.out.block _ (Qz HQf.out)).trans HQf.out);obtain⟨p0,p1,p2,_⟩:=Xz HP9.out;obtain⟨q0,q1,q2,_⟩:=Xz HQ9.out;have lp:=Qz HP9.out;have lq:=Qz HQ9.out;by_cases hjn:j<ol
     ·have hjI:(j:Int)<(ol:Int):=by omega
      have a0:decide ((j:Int)<(ol:Int))=true:=by simp;omega
      have hjs:j<(pgG rs).2.length:=by have:=HPr.out.lo;omega
      have hjs2:j<(pgG (rs++[(({data:=#[99,111,100,101,109,111,114,101]}:ByteArray),t,(0:Int))])).2.length:=by rw[HPG2.out,List.length_append];omega
      obtain⟨go,s3,c3,rfl,hgo,k1,k2,k3⟩:=(HPr.out.below HBr.out).o j hjs;obtain⟨go2,s4,c4,rfl,hgo2,k4,k5,k6⟩:=(HQr'.out.below HBr.out).o j hjs2;have hEq:(pgG (rs++[(({data:=#[99,111,100,101,109,111,114,101]}:ByteArray),t,(0:Int))])).2[j]=(pgG rs).2[j]:=by
       have h9:=congrArg (fun l=>l[j]?) HPG2.out;simp only[List.getElem?_eq_getElem hjs2,List.getElem?_append_left hjs,List.getElem?_eq_getElem hjs]at h9;exact Option.some.inj h9
      rw[hEq]at k4 k5 k6;obtain⟨x,hx⟩:∃x,x=(pgG rs).2[j].1:=⟨_,rfl⟩;obtain⟨N0,hN0⟩:∃N0,N0=(pgG rs).2[j].2.1:=⟨_,rfl⟩;obtain⟨m3,hm3⟩:∃m3,m3=(pgG rs).2[j].2.2.2.length:=⟨_,rfl⟩;rw[<-hx]at k1 k4;rw[<-hN0]at k2 k5;rw[<-hm3]at k3 k6;have j1:(j:Int)<(ol2:Int):=by omega
      have j2:j<ol2:=by omega
      have j8:(0:Int)<=(j:Int):=by omega
      have HS18:Hid ((fun X:World=>X.cell? ⟨pB,0,none⟩=some (.slice (some ⟨go,0,none⟩) ol oc)/\X.cell? ⟨qC,0,none⟩=some (.slice (some ⟨go2,0,none⟩) ol2 oc2)/\X.cell? ⟨go,j*7,none⟩=some (.int .i64 x)/\X.cell? ⟨go2,j*7,none⟩=some (.int .i64 x)/\X.cell? ⟨go,j*7+1,none⟩=some (.string N0)/\X.cell? ⟨go2,j*7+1,none⟩=some (.string N0)/\X.cell? ⟨go,j*7+6,none⟩=some (.slice s3 m3 c3)/\X.cell? ⟨go2,j*7+6,none⟩=some (.slice s4 m3 c4)) wr.drew):=hid ⟨p0,q0,k1,k4,k2,k5,k3,k6⟩;clear hx hN0 hm3 hEq
      go_wp2_with fail
      refine Zl 99 (fun X:World=>X.cell? ⟨pB,0,none⟩=some (.slice (some ⟨go,0,none⟩) ol oc)/\X.cell? ⟨qC,0,none⟩=some (.slice (some ⟨go2,0,none⟩) ol2 oc2)/\X.cell? ⟨go,j*7,none⟩=some (.int .i64 x)/\X.cell? ⟨go2,j*7,none⟩=some (.int .i64 x)/\X.cell? ⟨go,j*7+1,none⟩=some (.string N0)/\X.cell? ⟨go2,j*7+1,none⟩=some (.string N0)/\X.cell? ⟨go,j*7+6,none⟩=some (.slice s3 m3 c3)/\X.cell? ⟨go2,j*7+6,none⟩=some (.slice s4 m3 c4)) (by kernel_rfl) HS18.out (fun hHeld=> ?_);refine Qq 0 hHeld ?_;refine Qq 1 hHeld ?_;refine Qq 2 hHeld ?_;refine Qq 3 hHeld ?_;refine Qq 4 hHeld ?_;refine Qq 5 hHeld ?_;refine Qq 6 hHeld ?_;refine Qq 7 hHeld ?_;refine Qq 8 hHeld ?_;refine Qq 9 hHeld ?_;refine Qq 10 hHeld ?_;refine Qq 11 hHeld ?_;refine Qq 12 hHeld ?_;refine Qq 13 hHeld ?_;refine Qq 14 hHeld ?_;refine Qq 15 hHeld ?_;refine Qq 16 hHeld ?_;refine Qq 17 hHeld ?_;refine Qq 18 hHeld ?_;refine Qq 19 hHeld ?_;refine Qq 20 hHeld ?_;refine Qq 21 hHeld ?_;refine Qq 22 hHeld ?_;refine Qq 23 hHeld ?_;refine Qq 24 hHeld ?_;refine Qq 25 hHeld ?_;refine Qq 26 hHeld ?_;refine Qq 27 hHeld ?_;refine Qq 28 hHeld ?_;refine Qq 29 hHeld ?_;refine Qq 30 hHeld ?_;refine Qq 31 hHeld ?_;refine Qq 32 hHeld ?_;refine Qq 33 hHeld ?_;refine Qq 34 hHeld ?_;refine Qq 35 hHeld ?_;refine Qq 36 hHeld ?_;refine Qq 37 hHeld ?_;refine Qq 38 hHeld ?_;refine Qq 39 hHeld ?_;refine Qq 40 hHeld ?_;refine Qq 41 hHeld ?_;refine Qq 42 hHeld ?_;refine Qq 43 hHeld ?_;refine Qq 44 hHeld ?_;refine⟨by kernel_rfl,?_⟩;clear hHeld HS18
      go_wp2_with fail
      exact⟨⟨j+1,by go_num,by omega,hid HBr.out.drew⟩,by simp[intOf];omega⟩
     ·have a0:decide ((j:Int)<(ol:Int))=false:=by simp;omega
      go_wp2_with fail
      go_ret;exact⟨rfl,HBf.out.trans (HBr.out.mono HBf.out.size)⟩
end Go.Proofs.YtlogolpcipiceaaGreatDoor
