/- Lemmas for the last text. Conditions: those that each names. -/
import Derived.Test.YtgmcjddjdidpjaaGreatDoorVFCrToFR
import Derived.Test.YtgmcjddjdidpjaaGreatDoorVU9ToU11
import Derived.Stop.RegionWithIn
set_option linter.unusedVariables false
set_option maxRecDepth 100000
set_option maxHeartbeats 8000000
namespace Go.Proofs.YtgmcjddjdidpjaaGreatDoor
open Go.Proofs.Tryz
open Go.RowKit Go.Shelf Go.Maps
variable {W w:World} {n:Nat}
attribute [local go_sem] Oper.semAt_some
theorem Tryz.sliceMs:Tryz.prog.underlying 135=some (.slice 137):=by kernel_rfl
theorem y7l(n:Nat)(hn:n<=1048576)(W:World):(Instr.makeSlice 135 (.int .i64 0) (.int .i64 n)).run prog W=.ok (.slice (some ⟨W.heap.size,0,none⟩) 0 n) (W.alloc (.cells (madeCells #[.int .i64 0,.string ⟨#[]⟩,.int .u64 0,.int .u64 0,.int .u64 0,.int .u64 0,.slice none 0 0,.int .i64 0,.slice none 0 0,.int .i64 0] (n*10)) 137)):=by
 obtain⟨i0,hi0,hz0,hz1,hz2⟩:=info_parts Tryz.infoMs;have h:=run_make W 135 137 i0 _ Tryz.sliceMs hi0 hz0 .i64 .i64 0 n (by omega) (by omega) (by rw[hz2];omega) (by omega);rw[hz1]at h;exact h
def LaP(A:ByteArray->Ot)(rs:List Rr)(w:World)(e:Ending)(w':World):Prop:=∃M nn m,e=.returned (.map (some M))/\w.heap.size<=M/\Na w' M nn (Xw A rs m)/\Mm A (Xw A rs m) rs/\BdA (Xw A rs m)/\Below w.heap.size w w'
structure Lw (A:ByteArray->Ot) (w:World) (so:Option Addr) (n cap:Nat) (so0:Option Addr) (n0 cap0:Nat) (ts:List RT) (j:Nat) (W:World):Prop where
 be:Below w.heap.size w W
 g:W.heap[w.heap.size]? =some (.cells #[.slice so n cap] 24)
 s:W.heap[w.heap.size+1]? =some (.cells #[.slice so0 n0 cap0] 24)
 row:∃xs,W.ownsRow (w.heap.size+2) 137 10 (.slice (some ⟨w.heap.size+2,0,none⟩) j n) j xs/\Ql A W (fun g=>w.heap.size+3<=g) ts xs
theorem Lw.size{A:ByteArray->Ot}{w:World}{so:Option Addr}{n cap:Nat}{so0:Option Addr}{n0 cap0:Nat}{ts:List RT}{j:Nat}{W:World}(h:Lw A w so n cap so0 n0 cap0 ts j W):w.heap.size+3<=W.heap.size:=by
 obtain⟨xs,h1,_⟩:=h.row;have:=(h1.lt (w.heap.size+2) rfl).2;omega
theorem Lw.step{A:ByteArray->Ot}{w:World}{so:Option Addr}{n cap:Nat}{so0:Option Addr}{n0 cap0:Nat}{ts:List RT}{j:Nat}{W w2 w6:World}{t:RT}{cs xs:List Value}{X:Obj}(h:Lw A w so n cap so0 n0 cap0 ts j W)(hl:ts.length=j)(hx:W.ownsRow (w.heap.size+2) 137 10 (.slice (some ⟨w.heap.size+2,0,none⟩) j n) j xs)(hm:Ql A W (fun g=>w.heap.size+3<=g) ts xs)(hb:Below W.heap.size W w2)(hq:Zv A w2 (fun g=>W.heap.size<=g) t cs)(hown:w6.ownsRow (w.heap.size+2) 137 10 (.slice (some ⟨w.heap.size+2,0,none⟩) (j+1) n) (j+1) (xs++cs))(hgr:(w2.alloc X).grownBy w6 (some (w.heap.size+2))):Lw A w so n cap so0 n0 cap0 (ts++[t]) (j+1) w6:=by
 have h3:=h.size;have h2:=hb.size;have ea:(w2.alloc X).heap.size=w2.heap.size+1:=World.size_alloc _ _;have key:∀g,g<w2.heap.size->g≠w.heap.size+2->w6.heap[g]? =w2.heap[g]? :=fun g h1 hne=>(hgr.block g (by omega) (fun e=>hne (Option.some.inj e))).trans (Below.heap_alloc _ _ _ h1)
 have hB2:Below w.heap.size w (w2.alloc X):=(h.be.trans (hb.mono h.be.size)).alloc (Nat.le_trans h.be.size h2) _;refine⟨hB2.grown hgr hB2.size (fun g e=>by have:=Option.some.inj e;omega),(key _ (by omega) (by omega)).trans ((hb.block _ (by omega)).trans h.g),(key _ (by omega) (by omega)).trans ((hb.block _ (by omega)).trans h.s),xs++cs,hown,?_⟩;refine Ql.append _ _ _ _ (Ql.kept (fun g cur hp hq=> ?_) _ _ hm) (by rw[hl];exact hx.1) (Zv.kept (fun g cur hp hq=> ?_) _ _ hq)
 ·have:=Qz hq
  exact⟨(key g (by omega) (by omega)).trans (hb.block g this),hp⟩
 ·exact⟨key g (Qz hq) (by omega),by omega⟩
structure Kf (wb:World) (M:Nat) (W:World):Prop where
 be:Below wb.heap.size wb W
 b:W.heap[M+1]? =some (.cells #[.map (some M)] 90)
theorem Kf.lt{wb:World}{M:Nat}(h:Kf wb M W):M+1<W.heap.size:=Qz h.b
theorem Kf.below{wb W':World}{M s:Nat}(h:Kf wb M W)(hb:Below s W W')(h1:wb.heap.size<=s)(h2:M+1<s):Kf wb M W':=⟨h.be.trans (hb.mono h1),(hb.block _ h2).trans h.b⟩
theorem Kf.grown{wb W W':World}{M r:Nat}(h:Kf wb M W)(hg:W.grownBy W' (some r))(h1:wb.heap.size<=r)(h2:r≠M+1):Kf wb M W':=
 ⟨h.be.grown hg h.be.size (fun g e=>by have:=Option.some.inj e;omega),(hg.block _ (Qz h.b) (fun e=>h2 (Option.some.inj e).symm)).trans h.b⟩
theorem Dk.na{base:Nat}{w':World}{B:Nat}{F:ByteArray->Ah}(h:Dk base w w')(hp:Na w B n F):Na w' B n F:=by
 obtain⟨D,⟨es,ck,h1,h2,h3,h4⟩,h5⟩:=hp;exact⟨D,⟨es,ck,h.2 B _ h1 (fun l e=>by cases e),h2,h3,h4⟩,h5⟩
theorem Na.obj{B:Nat}{F:ByteArray->Ah}(h:Na W B n F):∃es ck,W.heap[B]? =some (.map es ck):=by
 obtain⟨D,⟨es,ck,h1,_⟩,_⟩:=h;exact⟨es,ck,h1⟩
def LfI(A:ByteArray->Ot)(rs:List Rr)(wb:World)(M k ib:Nat)(b:Bool)(ds:List Deferred)(W:World):Prop:=∃nn m,Na W M nn (Xw A rs m)/\Mp A (Xw A rs m) rs/\BdA (Xw A rs m)/\nn+Xg (Xw A rs m) rs<=257*rs.length/\Kf wb M W/\W.heap[ib]? =some (.cells #[.bool b] 4)/\M+1<ib/\(b=false->Mm A (Xw A rs m) rs)/\Mks wb.heap.size W.heap.size ds W/\k=(if b then Xg (Xw A rs m) rs+1 else 0)
def LfJ(A:ByteArray->Ot)(rs:List Rr)(wb w4:World)(M:Nat)(F0:ByteArray->Ah)(ib:Nat)(ds:List Deferred)(l:List Rr)(W:World):Prop:=∃F nn b,Na W M nn F/\RnA A rs F0 F l b nn/\W.heap[ib]? =some (.cells #[.bool b] 4)/\Kf wb M W/\Mks wb.heap.size w4.heap.size ds W/\w4.heap.size<=W.heap.size
theorem LfJ.below{A:ByteArray->Ot}{rs:List Rr}{wb w4 W W':World}{M ib:Nat}{F0:ByteArray->Ah}{ds:List Deferred}{l:List Rr}(h:LfJ A rs wb w4 M F0 ib ds l W)(hb:Below w4.heap.size W W')(hM:M+1<ib)(hwM:wb.heap.size<=M)(hib:ib<w4.heap.size):LfJ A rs wb w4 M F0 ib ds l W':=by
 obtain⟨F,nn,b,h1,h2,h3,h4,h5,h6⟩:=h;exact⟨F,nn,b,h1.below hb (by omega),h2,(hb.block _ hib).trans h3,h4.below hb (by omega) (by omega),h5.below hb,Nat.le_trans h6 hb.size⟩
theorem Lw.mrow{A:ByteArray->Ot}{so:Option Addr}{cap:Nat}{so0:Option Addr}{n0 cap0:Nat}{ts:List RT}(h:Lw A w so n cap so0 n0 cap0 ts n W)(hl:n=ts.length)(hn:n<=maxLen):Nh A W W.heap.size (w.heap.size+1+1) n ts:=by
 obtain⟨xs,h1,h2⟩:=h.row;obtain⟨_,⟨h0,_⟩|⟨g,cap',cur,e1,hg1,hg2,_,_,_,ht⟩⟩:=h1
 ·cases h0
 ·obtain⟨e2,_,_⟩:=Value.slice.inj e1
  have e3:g=w.heap.size+2:=by have:=Option.some.inj e2;injection this with this;exact this.symm
  subst e3;have h3:=Ql.more _ _ (cur.toList.drop (n*10)) (Ql.kept (w':=W) (Q:=fun g=>g<W.heap.size) (fun g cur _ hq=>⟨rfl,Qz hq⟩) _ _ h2);rw[<-ht,List.take_append_drop]at h3;exact⟨hl,hn,Qz hg2,fun j hj=>z6H hg2 h3 j hj⟩
theorem Nh.below{A:ByteArray->Ot}{W W':World}{g n B:Nat}{ts:List RT}(h:Nh A W B g n ts)(hb:Below B W W'):Nh A W' B g n ts:=
 ⟨h.len,h.le,h.lt,fun j hj=>by
   obtain⟨k1,T1,a1,b1,c1,d1,so1,n1,cap1,p1,po1,pn1,pc1,l1,h1,h2⟩:=h.at' j hj;exact⟨k1,T1,a1,b1,c1,d1,so1,n1,cap1,p1,po1,pn1,pc1,l1,h1.below hb h.lt,Zv.kept (fun g cur hp _=>⟨hb.block g hp,hp⟩) _ _ h2⟩⟩
def By.r{A:ByteArray->Ot}{w:World}{B:Nat}{ts:List RT}(rs:List Rr)(x:By A w B ts):Rr:=rs[x.i]?.getD (.empty,x.t,0)
theorem y7m{F:Fence}{m:Nat}{P:Program}{c1 c2:Code}{Q:Exit->Act->World->Prop}{a:Act}(R:Act->World->Prop)(h1:c1.wpIn F m P (fun e a w=>e=.normal/\R a w) a w)(h2:∀a w,R a w->c2.wpIn F m P Q a w):(c1.seq c2).wpIn F m P Q a w:=
 wpIn_seq (wpIn_mono h1 (fun e a w q=>by obtain⟨rfl,q⟩:=q;exact h2 a w q))
theorem Px{W0 W':World}{a0 a1 a2 a3 a4 a5 a6 a7 a8 a9 a10 a11 a12:Addr}{v0 v1 v2 v3 v4 v5 v6 v7 v8 v9 v10 v11 v12:Value}(h:Hid (Below W0.heap.size W0 W)/\W.cell? a0=some v0/\W.cell? a1=some v1/\W.cell? a2=some v2/\W.cell? a3=some v3/\W.cell? a4=some v4/\W.cell? a5=some v5/\W.cell? a6=some v6/\W.cell? a7=some v7/\W.cell? a8=some v8/\W.cell? a9=some v9/\W.cell? a10=some v10/\W.cell? a11=some v11/\W.cell? a12=some v12)(hb:Below W.heap.size W W'):Hid (Below W0.heap.size W0 W')/\W'.cell? a0=some v0/\W'.cell? a1=some v1/\W'.cell? a2=some v2/\W'.cell? a3=some v3/\W'.cell? a4=some v4/\W'.cell? a5=some v5/\W'.cell? a6=some v6/\W'.cell? a7=some v7/\W'.cell? a8=some v8/\W'.cell? a9=some v9/\W'.cell? a10=some v10/\W'.cell? a11=some v11/\W'.cell? a12=some v12:=by
 obtain⟨h0,z0,z1,z2,z3,z4,z5,z6,z7,z8,z9,z10,z11,z12⟩:=h;have e:∀{a:Addr} {u:Value},W.cell? a=some u->W'.cell? a=some u:=fun{a u} h=>(hb.cell (p:=a) (World.block_lt_of_cell? W _ h)).trans h
 exact⟨hid (h0.out.trans (hb.mono h0.out.size)),e z0,e z1,e z2,e z3,e z4,e z5,e z6,e z7,e z8,e z9,e z10,e z11,e z12⟩
theorem y7n(so:Option Addr)(n cap:Nat)(so0:Option Addr)(n0 cap0:Nat)(rs:List Rr)(A:ByteArray->Ot)(w:World)(h:Qg w w.heap.size so n rs)(HZ:Hid (RgZ rs))(HF:Hid (∀x∈rs,Fit (nmL rs) x.2.1))(HRu:Hid (RgU rs))(HU:Hid (∀x∈rs,∀y∈rs,y.1=x.1->y=x))(h64:rs.length<=64)
  (HMs:Hid (∀x∈rs,∀k T a b c d so1 n1 cap1 p,Qv w w.heap.size x.2.1 (r8 k T a b c d so1 n1 cap1 p)->∀W:World,Below w.heap.size w W->Calls prog 60 #[.agg #[.slice so0 n0 cap0],.agg #[.int .i64 k,.string T,.int .u64 a,.int .u64 b,.int .u64 c,.int .u64 d,.slice so1 n1 cap1,.int .i64 p]] W (MmA A x.2.1 W)))(m:Nat):
  CallsIn Fence.wide (m+6) prog 35 #[.agg #[.slice so n cap],.agg #[.slice so0 n0 cap0]] w (LaP A rs w):=by
 obtain⟨iT,hiT,hzT0,hzT1,hzT2⟩:=info_parts Tryz.infoMs;have hdd:=Xc;have hmm:∀(n:Int) (w:World),(Instr.makeMap 90 (some (.int .i64 n))).run prog w=.ok (.map (some w.heap.size)) (w.alloc (.map #[] 0)):=fun n w=>by kernel_rfl
 have hn6:n<=64:=by have:=h.1;omega
 have hn7:n<=9223372036854775807:=by omega
 have hmk:=y7l n (by omega);obtain⟨W0,hW0⟩:∃W0,W0=((w.alloc (.cells #[.slice so n cap] 24)).alloc (.cells #[.slice so0 n0 cap0] 24)).alloc (.cells (madeCells #[.int .i64 0,.string ⟨#[]⟩,.int .u64 0,.int .u64 0,.int .u64 0,.int .u64 0,.slice none 0 0,.int .i64 0,.slice none 0 0,.int .i64 0] (n*10)) 137):=⟨_,rfl⟩;have HL0:Hid (Lw A w so n cap so0 n0 cap0 [] 0 W0):=by
  rw[hW0];refine⟨(((Below.refl _ w).alloc L0q _).alloc (by simp) _).alloc (by simp;omega) _,?_,?_,[],?_,by rw[Ql];trivial⟩
  ·exact(Below.heap_alloc _ _ _ (by simp;omega)).trans ((Below.heap_alloc _ _ _ (by simp)).trans (Qq w _ rfl))
  ·exact(Below.heap_alloc _ _ _ (by simp)).trans (Qq _ _ (by simp))
  ·have:=World.ownsRow_made (base:=w.heap.size+2) (e:=137) (size:=10) ((w.alloc (.cells #[.slice so n cap] 24)).alloc (.cells #[.slice so0 n0 cap0] 24)) (madeCells #[.int .i64 0,.string ⟨#[]⟩,.int .u64 0,.int .u64 0,.int .u64 0,.int .u64 0,.slice none 0 0,.int .i64 0,.slice none 0 0,.int .i64 0] (n*10)) n (by simp) (by unfold maxLen;omega) (size_madeCells _ _)
   simpa using this
 have HR:=hid h;have HNl:Hid (n=rs.length):=h.1;clear h;refine callsIn_of_wp_marks func35 rfl trivial ?_ rfl;simp only[ntmps35,List.size_toArray,List.length_cons,List.length_nil,Nat.reduceAdd,Nat.reduceSub,Array.replicate_succ,Array.replicate_zero,List.push_toArray,List.append_toArray,List.nil_append,List.cons_append]
 gi_wp2
 rw[<-hW0];clear hW0 hmk
 gi_loopw [5,21] (fun v i wr=>∃j:Nat,v=.slice (some ⟨w.heap.size+1+1,0,none⟩) j n/\i=.int .i64 j/\j<=n/\Hid (Lw A w so n cap so0 n0 cap0 ((rs.take j).map (·.2.1)) j wr)) (fun _ i _=>n-(intOf i).toNat)
 case atStart=>exact⟨0,rfl,rfl,Nat.zero_le _,HL0⟩
 case round=>
  obtain⟨j,rfl,rfl,hj,HL⟩:=hrel;by_cases hjn:j<n
  ·have hjI:(j:Int)<(n:Int):=by omega
   have a0:decide ((j:Int)<(n:Int))=true:=by simp;omega
   have hjs:j<rs.length:=by rw[<-HNl.out];exact hjn
   have hx:rs[j]∈rs:=List.getElem_mem hjs;obtain⟨g,o,rfl,hg,k1,T1,a1,b1,c1,d1,so1,n1,cap1,p1,rt1,z0,z1,z2,z3,z4,z5,z6,z7,z8,z9⟩:=HR.out.2.2 j hjs;have HCl:=hid (HMs.out rs[j] hx k1 T1 a1 b1 c1 d1 so1 n1 cap1 p1 rt1);have hbe:=HL.out.be;have e:∀(o':Nat) (u:Value),w.cell? ⟨g,o',none⟩=some u->wr.cell? ⟨g,o',none⟩=some u:=fun o' u hu=>(hbe.cell (p:=⟨g,o',none⟩) hg).trans hu
   replace z0:=e _ _ z0;replace z1:=e _ _ z1;replace z2:=e _ _ z2;replace z3:=e _ _ z3;replace z4:=e _ _ z4;replace z5:=e _ _ z5;replace z6:=e _ _ z6;replace z7:=e _ _ z7;replace z8:=e _ _ z8;replace z9:=e _ _ z9;have hgl:g<wr.heap.size:=World.block_lt_of_cell? wr _ z0;obtain⟨N1,q1,t1,hr⟩:∃N1 q1 t1,rs[j]=(N1,t1,q1):=⟨_,_,_,rfl⟩;have HTk:Hid ((rs.take (j+1)).map (·.2.1)=(rs.take j).map (·.2.1)++[t1]):=hid (by rw[show rs.take (j+1)=rs.take j++[rs[j]] by simp,List.map_append,hr];rfl);rw[hr]at HCl z0 z9;dsimp only at HCl z0 z9;obtain⟨W1,hW1⟩:∃W1,W1=wr.alloc (.cells #[.string N1,.int .i64 k1,.string T1,.int .u64 a1,.int .u64 b1,.int .u64 c1,.int .u64 d1,.slice so1 n1 cap1,.int .i64 p1,.int .i64 q1] 65):=⟨_,rfl⟩;have hb1:Below wr.heap.size wr W1:=by rw[hW1];exact(Below.refl _ wr).alloc L0q _
   have hn1:W1.heap[wr.heap.size]? =some (.cells #[.string N1,.int .i64 k1,.string T1,.int .u64 a1,.int .u64 b1,.int .u64 c1,.int .u64 d1,.slice so1 n1 cap1,.int .i64 p1,.int .i64 q1] 65):=by rw[hW1];exact Qq wr _ rfl
   have sc:=(Qk HL.out.s).1;have lsc:=Qz HL.out.s;obtain⟨xs,hxo,hxm⟩:=HL.out.row;have HXo:=hid hxo;have HXm:=hid hxm;have HS:=hid (HCl.out W1 (hbe.trans (hb1.mono hbe.size)));have HB1:=hid hb1;have HW1:=hid hW1;clear e hbe hb1 hn1 hW1 HCl hr rt1 hxo hxm
   gi_wp2_with (first
    |(refine⟨trivial,?_⟩;gi_at_call 60;rw[<-HW1.out];refine(callsIn_wide.2 HS.out).mono ?_;rintro e w2 ⟨k2,T2,a2,b2,c2,d2,so2,n2,cap2,p2,po2,pn2,pc2,l2,rfl,HQ2,HB2⟩;have HB3:=hid (HB1.out.trans (HB2.out.mono HB1.out.size));have hxo2:(w2.alloc (.cells #[.int .i64 k2,.string T2,.int .u64 a2,.int .u64 b2,.int .u64 c2,.int .u64 d2,.slice so2 n2 cap2,.int .i64 p2,.slice po2 pn2 pc2,.int .i64 l2] 137)).ownsRow (w.heap.size+1+1) 137 10 (.slice (some ⟨w.heap.size+1+1,0,none⟩) j n) j xs:=(Ym HXo.out HB3.out).alloc _;clear HS HW1)
    |(gi_at_builtin;refine wpListIn_append_fits _ rfl (.tmp 25) (.tmp 30) 135 rfl (w.heap.size+1+1) 137 iT 10 Tryz.underlying135 hiT hzT1 (w.heap.size+1+1) j n xs rfl hxo2 ⟨w2.heap.size,0,none⟩ 1 1 [.int .i64 k2,.string T2,.int .u64 a2,.int .u64 b2,.int .u64 c2,.int .u64 d2,.slice so2 n2 cap2,.int .i64 p2,.slice po2 pn2 pc2,.int .i64 l2] rfl rfl (z6z _ _ _ _ _ _ _ _ _ _ _ _) (z6A _ _ _ _ _ _ _ _ _ _ _ _ _ _) (by omega) ?_;intro w6 hown6 hgr6;have HO6:=hid hown6;have HG6:=hid hgr6;clear hown6 hgr6 hxo2))
   refine⟨⟨j+1,rfl,by go_num,by omega,hid ?_⟩,by simp[intOf];omega⟩;rw[HTk.out];exact HL.out.step (by simp;omega) HXo.out HXm.out HB3.out (Zv.kept (fun g cur hp _=>⟨rfl,Nat.le_trans HB1.out.size hp⟩) _ _ HQ2.out) HO6.out HG6.out
  ·have a0:decide ((j:Int)<(n:Int))=false:=by simp;omega
   have hjn':n=j:=by omega
   subst hjn';have hL:=HL.out;rw[List.take_of_length_le (by rw[<-HNl.out];exact Nat.le_refl _)]at hL;have gc:=(Qk hL.g).1;have lgc:=Qz hL.g;have HLb:=hid hL;have hmr:=hL.mrow (by rw[List.length_map];exact HNl.out) (by unfold maxLen;omega);obtain⟨M,hM⟩:∃M,M=wr.heap.size:=⟨_,rfl⟩;rw[<-hM]at hmr;have HMr:=hid hmr;obtain⟨W0,hW0⟩:∃W0,W0=((wr.alloc (.map #[] 0)).alloc (.cells #[.map (some M)] 90)).alloc (.cells #[.bool true] 4):=⟨_,rfl⟩;have HN0:Hid (Na W0 M 0 z0A):=by
    rw[hW0,hM];exact((Na.made wr).kept (World.grownBy_alloc _ _ none) (by simp)).kept (World.grownBy_alloc _ _ none) (by simp)
   have HK0:Hid (Kf wr M W0):=by
    rw[hW0];refine⟨(((Below.refl _ wr).alloc L0q _).alloc (by simp) _).alloc (by simp;omega) _,?_⟩;rw[hM];exact(Below.heap_alloc _ _ _ (by simp)).trans (Qq _ _ (by simp))
   have HI0:Hid (W0.heap[M+1+1]? =some (.cells #[.bool true] 4)):=by
    rw[hW0,hM];exact Qq _ _ (by simp)
   have hwM:wr.heap.size<=M:=by omega
   have HM:=hid hM;have hSw:=hL.size;clear hL HL hjn hj hmr HL0 HMs
   gi_wp2
   rw[<-hM,<-hW0];clear hW0 hmm hM gc lgc;refine z5c (fun k a' w'=>∃(ib:Nat) (b:Bool) (v37 v38 v39 v59:Value) (ds:List Deferred),a'={tmps:=#[.agg #[.slice so n cap],.agg #[.slice so0 n0 cap0],.pointer (some ⟨w.heap.size,0,none⟩),.pointer (some ⟨w.heap.size+1,0,none⟩),.map none,.slice (some ⟨w.heap.size+1+1,0,none⟩) n n,undef,u7,.pointer (some ⟨M+1,0,none⟩),.pointer (some ⟨ib,0,none⟩),undef,undef,undef,undef,.pointer (some ⟨w.heap.size,0,none⟩),.slice so n cap,.int .i64 n,.slice (some ⟨w.heap.size+1+1,0,none⟩) 0 n,.pointer (some ⟨w.heap.size,0,none⟩),.slice so n cap,.int .i64 n,.int .i64 n,.bool false,u23,u24,u25,u26,u27,u28,u29,u30,u31,u32,.pointer (some ⟨w.heap.size,0,none⟩),.slice so n cap,.int .i64 n,.map (some M),v37,v38,v39,undef,undef,undef,undef,undef,undef,undef,undef,undef,undef,undef,undef,undef,undef,undef,undef,undef,undef,undef,v59,undef],defers:=ds}/\Hid (LfI A rs wr M k ib b ds w')) _ ⟨M+1+1,true,undef,undef,undef,undef,[],rfl,hid ⟨0,0,HN0.out,y6k A rs,BdA.zero,by show 0+Xg z0A rs<=_;rw[z6v];omega,HK0.out,HI0.out,by omega,(fun h=>by cases h),trivial,rfl⟩⟩ ?_;clear HN0 HK0 HI0;rintro k a' w1 ⟨ib,b,v37,v38,v39,v59,ds,rfl,HI⟩;obtain⟨nn,mm,hNm,hInv,hBd,hCnt,hKl,hIb,hib,hFx,hMk,hk⟩:=HI.out;clear HI;obtain⟨i0,f0⟩:=Qk hIb;obtain⟨b0,_⟩:=Qk hKl.b;have li:=Qz hIb;have lb:=Qz hKl.b;cases b with
   |false=>
    have HNm:=hid hNm;have HFx:=hid (hFx rfl);have HMk:=hid hMk;have HKl:=hid hKl;have HBd:=hid hBd;clear hNm hInv hCnt hKl hIb hFx hMk hk hBd
    gi_wp2
    refine Ez ds w1.heap.size _ HMk.out fun w' hk=> ?_
    exact⟨.map (some M),by simp[results,Tryz.f35,go_sem],M,nn,mm,rfl,by omega,hk.na HNm.out,HFx.out,HBd.out,(HLb.out.be.trans (HKl.out.be.mono HLb.out.be.size)).trans (hk.1.mono (by omega))⟩
   |true=>
    obtain⟨w3,hw3⟩:∃w3,w3=w1.setCell ⟨ib,0,none⟩ (.bool false):=⟨_,rfl⟩;have hg3:w1.grownBy w3 (some ib):=by rw[hw3];exact grownBy_setCell' _ _ _
    have hs3:w3.heap.size=w1.heap.size:=by rw[hw3];simp
    have hI3:w3.heap[ib]? =some (.cells #[.bool false] 4):=by rw[hw3];exact Qy hIb 0 _
    have hKl3:=hKl.grown hg3 (by omega) (by omega);have hNm3:=hNm.kept hg3 (fun e=>by have:=Option.some.inj e;omega);have hMk3:Mks wr.heap.size w1.heap.size ds w3:=hMk.kept fun D hD e=>(hg3.block D hD (fun e'=>by have:=Option.some.inj e';subst this;rw[hIb]at e;cases e)).trans e
    have HW3:=hid hw3;have HKl3:=hid hKl3;have HNm3:=hid hNm3;have HMk3:=hid hMk3;have HI3:=hid hI3;have HInv:=hid hInv;have HBd:=hid hBd;have HCnt:Hid (nn+Xg (Xw A rs mm) rs<=257*rs.length):=hCnt;have HKk:Hid (k=Xg (Xw A rs mm) rs+1):=hk;have hle3:w1.heap.size<=w3.heap.size:=Nat.le_of_eq hs3.symm;have HS3:=hid hs3;clear hw3 hg3 hKl3 hNm3 hMk3 hI3 hInv hCnt hk hFx hMk hNm hKl hIb hs3 hBd
    gi_wp2_with (first
     |(rw[<-HW3.out];refine⟨trivial,?_⟩;gi_at_call 61;refine(y7d _ (some ⟨w.heap.size+1+1,0,none⟩) n n _).mono ?_;rintro e w4 ⟨rfl,rfl⟩))
    clear HW3 i0 f0 b0;obtain⟨w4,hw4⟩:∃w4,w4=w3.alloc (.cells #[.slice (some ⟨w.heap.size+1+1,0,none⟩) n n] 135):=⟨_,rfl⟩;have hb34:Below w3.heap.size w3 w4:=by rw[hw4];exact(Below.refl _ w3).alloc L0q _
    have hs4:w4.heap.size=w3.heap.size+1:=by rw[hw4];simp
    have hBx:Boxed w4 w3.heap.size 135 (.slice (some ⟨w.heap.size+1+1,0,none⟩) n n):=by rw[hw4];exact Qq w3 _ rfl
    rw[<-hw4];clear hw4;have HNm4:=hid (HNm3.out.below hb34 (by omega));have HKl4:=hid (HKl3.out.below hb34 (by omega) (by omega));have HI4:=hid ((hb34.block _ (Qz HI3.out)).trans HI3.out);have HMk4:Hid (Mks wr.heap.size w4.heap.size ds w4):=(HMk3.out.below (hb34.mono hle3)).mono (by omega);have hMM:M=wr.heap.size:=HM.out;have hR4:Nh A w4 M (w.heap.size+1+1) n (rs.map (·.2.1)):=HMr.out.below (by rw[hMM];exact HKl4.out.be);have hib4:ib<w4.heap.size:=by omega
    clear HNm3 HKl3 HI3 HMk3 hb34 hMM;refine wpIn_rangeFunc_ownH rfl (by omega) (gf:=90) (lb:=#[.pointer (some ⟨w3.heap.size,0,none⟩)]) rfl trivial (enters_of func90 (by kernel_rfl) rfl)
     (y7c (B:=M) n n (w.heap.size+1+1) _ hR4 hBx) Kb.trans (fun W' l o o' h1 h2 h3 h4=>Kb.grown (grownBy_putObj' W' l o') (fun r e=>by have:=Option.some.inj e;omega)) B0q (fun _=>rfl)
     (fun pre W=>LfJ A rs wr w4 M (Xw A rs mm) ib ds (pre.map (By.r rs)) W)
     (fun c pre W=>False)
     ?own ?ownx ⟨Xw A rs mm,nn,false,HNm4.out,RnA.start HBd.out HInv.out HCnt.out,HI4.out,HKl4.out,HMk4.out,Nat.le_refl _⟩
     (fun x a' W=>∃b,a'={tmps:=#[.agg #[.slice so n cap],.agg #[.slice so0 n0 cap0],.pointer (some ⟨w.heap.size,0,none⟩),.pointer (some ⟨w.heap.size+1,0,none⟩),.map none,.slice (some ⟨w.heap.size+1+1,0,none⟩) n n,undef,u7,.pointer (some ⟨M+1,0,none⟩),.pointer (some ⟨ib,0,none⟩),.int .i64 (x.i:Int),.pointer (some ⟨b,0,none⟩),undef,undef,.pointer (some ⟨w.heap.size,0,none⟩),.slice so n cap,.int .i64 n,.slice (some ⟨w.heap.size+1+1,0,none⟩) 0 n,.pointer (some ⟨w.heap.size,0,none⟩),.slice so n cap,.int .i64 n,.int .i64 n,.bool false,u23,u24,u25,u26,u27,u28,u29,u30,u31,u32,.pointer (some ⟨w.heap.size,0,none⟩),.slice so n cap,.int .i64 n,.map (some M),.bool true,.slice (some ⟨w.heap.size+1+1,0,none⟩) n n,.func (.func 90) #[] #[.pointer (some ⟨w3.heap.size,0,none⟩)],.int .i64 (x.i:Int),x.v,undef,undef,undef,undef,undef,undef,undef,undef,undef,undef,undef,undef,undef,undef,undef,undef,undef,v59,undef],defers:=[]}/\W.heap[b]? =some (.cells #[.int .i64 x.k,.string x.T,.int .u64 x.a,.int .u64 x.b,.int .u64 x.c,.int .u64 x.d,.slice x.so x.n x.cap,.int .i64 x.p,.slice x.po x.pn x.pc,.int .i64 x.l] 137))
     ?ownA ?assign ?Qc ?done ?stop
    case own=>
     intro pre X Y row h hg hr;have hB:Below w4.heap.size X Y:=(Below.refl _ X).grown hg h.choose_spec.choose_spec.choose_spec.2.2.2.2.2 (fun k e=>(hr k e).1);exact h.below hB hib hwM hib4
    case ownx=>exact fun _ _ _ _ _ h=>h.elim
    case ownA=>
     rintro x a' _ X Y row ⟨b,h1,h2⟩ hg hr;exact⟨b,h1,Lh h2 hg (fun r e=>(hr r e).2)⟩
    case assign=>
     rintro l pre x W K hJ hK;have hB:Below W.heap.size W (W.alloc (.cells #[.int .i64 x.k,.string x.T,.int .u64 x.a,.int .u64 x.b,.int .u64 x.c,.int .u64 x.d,.slice x.so x.n x.cap,.int .i64 x.p,.slice x.po x.pn x.pc,.int .i64 x.l] 137)):=(Below.refl _ W).alloc L0q _;have HK:=hid (hK {tmps:=#[.agg #[.slice so n cap],.agg #[.slice so0 n0 cap0],.pointer (some ⟨w.heap.size,0,none⟩),.pointer (some ⟨w.heap.size+1,0,none⟩),.map none,.slice (some ⟨w.heap.size+1+1,0,none⟩) n n,undef,u7,.pointer (some ⟨M+1,0,none⟩),.pointer (some ⟨ib,0,none⟩),.int .i64 (x.i:Int),.pointer (some ⟨W.heap.size,0,none⟩),undef,undef,.pointer (some ⟨w.heap.size,0,none⟩),.slice so n cap,.int .i64 n,.slice (some ⟨w.heap.size+1+1,0,none⟩) 0 n,.pointer (some ⟨w.heap.size,0,none⟩),.slice so n cap,.int .i64 n,.int .i64 n,.bool false,u23,u24,u25,u26,u27,u28,u29,u30,u31,u32,.pointer (some ⟨w.heap.size,0,none⟩),.slice so n cap,.int .i64 n,.map (some M),.bool true,.slice (some ⟨w.heap.size+1+1,0,none⟩) n n,.func (.func 90) #[] #[.pointer (some ⟨w3.heap.size,0,none⟩)],.int .i64 (x.i:Int),x.v,undef,undef,undef,undef,undef,undef,undef,undef,undef,undef,undef,undef,undef,undef,undef,undef,undef,v59,undef],defers:=[]} (W.alloc (.cells #[.int .i64 x.k,.string x.T,.int .u64 x.a,.int .u64 x.b,.int .u64 x.c,.int .u64 x.d,.slice x.so x.n x.cap,.int .i64 x.p,.slice x.po x.pn x.pc,.int .i64 x.l] 137)) (KeepsFrom.of_grownBy (World.grownBy_alloc W _ none) (fun j e=>by cases e)) (Kb.alloc W _) (hJ.below (hB.mono hJ.choose_spec.choose_spec.choose_spec.2.2.2.2.2) hib hwM hib4) ⟨W.heap.size,rfl,Qq W _ rfl⟩);clear hK hJ hB
     gi_wp2
     exact HK.out
    case Qc=>
     rintro l pre x a' W hl ⟨r,hr⟩ hJ ⟨bb,rfl,hbb⟩ hlt;obtain⟨F,nk,bk,jN,jR,jI,jK,jM,jS⟩:=hJ;have hi:x.i<rs.length:=by have:=(List.getElem?_eq_some_iff.1 x.e).1;rw[List.length_map]at this;exact this
     have hiI:(x.i:Int)<(n:Int):=by have:=HNl.out;omega
     have hxt:rs[x.i].2.1=x.t:=by have:=x.e;rw[List.getElem?_map,List.getElem?_eq_getElem hi]at this;exact Option.some.inj this
     have hx:rs[x.i]∈rs:=List.getElem_mem hi;have hxr:x.r rs=rs[x.i]:=by rw[By.r,List.getElem?_eq_getElem hi];rfl
     have hbeW:Below w.heap.size w W:=HLb.out.be.trans (jK.be.mono HLb.out.be.size);obtain⟨g,o,hso,hg,k1,T1,a1,b1,c1,d1,so1,n1,cap1,p1,-,z0,-⟩:=HR.out.2.2 x.i hi;have zN:W.cell? ⟨g,o+x.i*10,none⟩=some (.string rs[x.i].1):=(hbeW.cell (p:=⟨g,o+x.i*10,none⟩) hg).trans z0;have zG:W.cell? ⟨w.heap.size,0,none⟩=some (.slice so n cap):=(jK.be.cell (p:=⟨w.heap.size,0,none⟩) (by show w.heap.size<wr.heap.size;omega)).trans (Qk HLb.out.g).1;have zM:=(Qk jK.b).1;obtain⟨⟨y0,y1,y2,y3,y4,y5,y6,y7,y8,y9⟩,-⟩:=Yy hbb;have lbb:=Qz hbb;have lk:=Qz jK.b;have lgW:g<W.heap.size:=World.block_lt_of_cell? W _ zN;have lwW:w.heap.size<W.heap.size:=World.block_lt_of_cell? W _ zG;have hMM:M=wr.heap.size:=HM.out;have hmW:Zv A W (fun g=>g<M) x.t (r10 x.k x.T x.a x.b x.c x.d x.so x.n x.cap x.p x.po x.pn x.pc x.l):=Zv.kept (fun g cur hp _=>⟨(jK.be.block g (by rw[<-hMM];exact hp)).trans (HKl4.out.be.block g (by rw[<-hMM];exact hp)).symm,hp⟩) _ _ x.rt;have hFt:Fit (nmL rs) x.t:=by rw[<-hxt];exact HF.out _ hx
     have hUt:RtU x.t:=by rw[<-hxt];exact HRu.out _ hx
     have hbd:=jR.bd;have hbt:=Oh A hbd x.t hUt;obtain⟨⟨Y,y⟩,hy⟩:∃y,y=afT A F x.t:=⟨_,rfl⟩;have HS:Hid (∀W':World,Below W.heap.size W W'->Calls prog 62 #[.map (some M),.agg #[.int .i64 x.k,.string x.T,.int .u64 x.a,.int .u64 x.b,.int .u64 x.c,.int .u64 x.d,.slice x.so x.n x.cap,.int .i64 x.p,.slice x.po x.pn x.pc,.int .i64 x.l]] W' fun e w'=>e=.returned (av (Y,y))/\Below W'.heap.size W' w'):=fun W' hW'=>by
      rw[hy];exact y7a A (nmL rs) M nk F x.t _ W' hbd (Zv.kept (fun g cur hp hq=>⟨hW'.block g (Qz hq),trivial⟩) _ _ hmW) hFt hUt (jN.below hW' (by omega))
     obtain⟨⟨C,q⟩,hq⟩:∃q,q=F rs[x.i].1:=⟨_,rfl⟩;have hNz:rs[x.i].1.size<=maxLen:=(HZ.out _ hx).1;have heq:=y7g (Y,y) (C,q) (by rw[hy];exact hbt) (by rw[hq];exact hbd _);have hcnt:nk<maxLen:=by have:=jR.cnt;unfold maxLen;omega
     obtain⟨N,hN⟩:∃N,N=rs[x.i].1:=⟨_,rfl⟩;rw[<-hN]at zN hq hNz;have HY:Hid ((Y,y)=afT A F x.t):=hy;have HQ:Hid ((C,q)=F N):=hq;have HN:=hid hN;have HX:=hid hx;have HXr:=hid hxr;have HXt:=hid hxt;have HJN:=hid jN;have HJR:=hid jR;have HJI:=hid jI;have HJK:=hid jK;have HJM:=hid jM;have HBt:Hid ((afT A F x.t).1<2^256):=hbt;have S0:(fun W':World=>Hid (Below W.heap.size W W')/\W'.cell? ⟨w.heap.size,0,none⟩=some (.slice (some ⟨g,o,none⟩) n cap)/\W'.cell? ⟨g,o+x.i*10,none⟩=some (.string N)/\W'.cell? ⟨M+1,0,none⟩=some (.map (some M))/\W'.cell? ⟨bb,0,none⟩=some (.int .i64 x.k)/\W'.cell? ⟨bb,1,none⟩=some (.string x.T)/\W'.cell? ⟨bb,2,none⟩=some (.int .u64 x.a)/\W'.cell? ⟨bb,3,none⟩=some (.int .u64 x.b)/\W'.cell? ⟨bb,4,none⟩=some (.int .u64 x.c)/\W'.cell? ⟨bb,5,none⟩=some (.int .u64 x.d)/\W'.cell? ⟨bb,6,none⟩=some (.slice x.so x.n x.cap)/\W'.cell? ⟨bb,7,none⟩=some (.int .i64 x.p)/\W'.cell? ⟨bb,8,none⟩=some (.slice x.po x.pn x.pc)/\W'.cell? ⟨bb,9,none⟩=some (.int .i64 x.l)) W.drew:=by
      subst hso;exact⟨hid (Below.refl _ W).drew,zG,zN,zM,y0,y1,y2,y3,y4,y5,y6,y7,y8,y9⟩
     subst hso;clear hbeW z0 zN zG zM y0 y1 y2 y3 y4 y5 y6 y7 y8 y9 hmW hFt hUt hbd hbt hy hq hN hx hxr hxt jN jR jI jK jM hbb hMM;refine wpIn_block ?_;refine y7m (fun a' w'=>∃ab,W.heap.size<=ab/\a'={tmps:=#[.agg #[.slice (some ⟨g,o,none⟩) n cap],.agg #[.slice so0 n0 cap0],.pointer (some ⟨w.heap.size,0,none⟩),.pointer (some ⟨w.heap.size+1,0,none⟩),.map none,.slice (some ⟨w.heap.size+1+1,0,none⟩) n n,undef,u7,.pointer (some ⟨M+1,0,none⟩),.pointer (some ⟨ib,0,none⟩),.int .i64 (x.i:Int),.pointer (some ⟨bb,0,none⟩),.string N,.pointer (some ⟨ab,0,none⟩),.pointer (some ⟨w.heap.size,0,none⟩),.slice (some ⟨g,o,none⟩) n cap,.int .i64 n,.slice (some ⟨w.heap.size+1+1,0,none⟩) 0 n,.pointer (some ⟨w.heap.size,0,none⟩),.slice (some ⟨g,o,none⟩) n cap,.int .i64 n,.int .i64 n,.bool false,u23,u24,u25,u26,u27,u28,u29,u30,u31,u32,.pointer (some ⟨w.heap.size,0,none⟩),.slice (some ⟨g,o,none⟩) n cap,.int .i64 n,.map (some M),.bool true,.slice (some ⟨w.heap.size+1+1,0,none⟩) n n,.func (.func 90) #[] #[.pointer (some ⟨w3.heap.size,0,none⟩)],.int .i64 (x.i:Int),x.v,.pointer (some ⟨w.heap.size,0,none⟩),.slice (some ⟨g,o,none⟩) n cap,.int .i64 (x.i:Int),.pointer (some ⟨g,o+x.i*10,none⟩),.pointer (some ⟨g,o+x.i*10,none⟩),.string N,.map (some M),.agg #[.int .i64 x.k,.string x.T,.int .u64 x.a,.int .u64 x.b,.int .u64 x.c,.int .u64 x.d,.slice x.so x.n x.cap,.int .i64 x.p,.slice x.po x.pn x.pc,.int .i64 x.l],av (Y,y),undef,undef,undef,undef,undef,undef,undef,undef,v59,undef],defers:=[]}/\Below W.heap.size W w'/\w'.heap[ab]? =some (.cells #[.int .u64 (wd Y 0),.int .u64 (wd Y 1),.int .u64 (wd Y 2),.int .u64 (wd Y 3),.bool y] 53)) ?_ ?_
     ·refine y7j 11 (fun W':World=>Hid (Below W.heap.size W W')/\W'.cell? ⟨w.heap.size,0,none⟩=some (.slice (some ⟨g,o,none⟩) n cap)/\W'.cell? ⟨g,o+x.i*10,none⟩=some (.string N)/\W'.cell? ⟨M+1,0,none⟩=some (.map (some M))/\W'.cell? ⟨bb,0,none⟩=some (.int .i64 x.k)/\W'.cell? ⟨bb,1,none⟩=some (.string x.T)/\W'.cell? ⟨bb,2,none⟩=some (.int .u64 x.a)/\W'.cell? ⟨bb,3,none⟩=some (.int .u64 x.b)/\W'.cell? ⟨bb,4,none⟩=some (.int .u64 x.c)/\W'.cell? ⟨bb,5,none⟩=some (.int .u64 x.d)/\W'.cell? ⟨bb,6,none⟩=some (.slice x.so x.n x.cap)/\W'.cell? ⟨bb,7,none⟩=some (.int .i64 x.p)/\W'.cell? ⟨bb,8,none⟩=some (.slice x.po x.pn x.pc)/\W'.cell? ⟨bb,9,none⟩=some (.int .i64 x.l)) (by kernel_rfl) (by kernel_rfl) S0 (fun hHeld=> ?_)
      refine Qx 0 hHeld ?_;refine Qx 1 hHeld ?_;refine Qx 2 hHeld ?_;refine Qx 3 hHeld ?_;refine Qx 4 hHeld ?_;refine Qx 5 hHeld ?_;refine Qx 6 hHeld ?_;refine Qx 7 hHeld ?_;refine y7k (i:=8) (j:=9) (o:=({dst:=some 50,op:=Op.call {callee:=Callee.value (Operand.func 62),args:=#[Operand.tmp 48,Operand.tmp 49],argTypes:=#[90,137]},type:=53,pos:="first.go:95",after:=#[{on:=6,ground:=Ground.data},{on:=7,ground:=Ground.data}],guard:=none}:Oper)) (o':=({dst:=some 13,op:=Op.alloc 53,type:=0,pos:="first.go:95",after:=#[],guard:=none}:Oper)) (by kernel_rfl) rfl rfl (fun K hK=> ?_) (fun K hK=> ?_)
      ·go_simp
       refine(HS.out W.drew (Below.refl _ W).drew).mono ?_;rintro e w5 ⟨rfl,hb5⟩;have hHeld5:=Px hHeld hb5
       go_simp
       refine hK.out _ _ hHeld5 ?_;clear hK K
       refine Zy 9 (fun K hK=> ?_);have hHeld6:=Px hHeld5 ((Below.refl _ w5).alloc L0q (.cells #[.int .u64 0,.int .u64 0,.int .u64 0,.int .u64 0,.bool false] 53))
       go_simp
       refine hK.out _ _ hHeld6 ?_;have HB5:Hid (Below W.heap.size W w5):=hHeld5.1;clear hK K hHeld hHeld5
       have hHeld:=hHeld6;refine Qx 10 hHeld ?_;refine Kq (fun K hK=> ?_)
       go_simp
       exact hK.out _ _ ⟨by first|trivial|rfl,by first|trivial|rfl,w5.heap.size,HB5.out.size,rfl,HB5.out.alloc HB5.out.size _,Qq w5 _ rfl⟩
      ·have hbA:Below W.heap.size W (W.alloc (.cells #[.int .u64 0,.int .u64 0,.int .u64 0,.int .u64 0,.bool false] 53)).drew:=((Below.refl _ W).alloc L0q _).drew
       have hHeld6:=Px hHeld (W':=(W.alloc (.cells #[.int .u64 0,.int .u64 0,.int .u64 0,.int .u64 0,.bool false] 53)).drew) ⟨hbA.os,hbA.tape,hbA.output,hbA.size,hbA.block⟩
       go_simp
       refine hK.out _ _ hHeld6 ?_;clear hK K hHeld
       refine Zy 8 (fun K hK=> ?_)
       go_simp
       refine(HS.out _ hHeld6.1.out).mono ?_;rintro e w5 ⟨rfl,hb5⟩;have hHeld:=Px hHeld6 hb5;have hA5:w5.heap[W.heap.size]? =some (.cells #[.int .u64 0,.int .u64 0,.int .u64 0,.int .u64 0,.bool false] 53):=(hb5.block W.heap.size (by show W.heap.size<(W.alloc _).heap.size;rw[World.size_alloc];omega)).trans (Qq W _ rfl);obtain⟨⟨t0,t1,t2,t3,t4⟩,f0,f1,f2,f3,f4⟩:=Qh hA5;have lA:=Qz hA5;have HA5:=hid hA5;have HB5:Hid (Below W.heap.size W w5):=hHeld.1;clear hb5 hA5 hHeld6 hbA
       go_simp
       refine hK.out _ _ hHeld ?_;clear hK K
       refine Qx 10 hHeld ?_;refine Kq (fun K hK=> ?_);clear hHeld
       go_simp
       exact hK.out _ _ ⟨by first|trivial|rfl,by first|trivial|rfl,W.heap.size,Nat.le_refl _,rfl,HB5.out.grown (Xp w5 W.heap.size _ _ _ _ _) HB5.out.size (fun g e=>by have:=Option.some.inj e;omega),Yk HA5.out⟩
     ·rintro a6 w6 ⟨ab,hab,rfl,hB6,hA6⟩
      obtain⟨⟨u0,u1',u2,u3,u4⟩,-⟩:=Qh hA6;have lab:=Qz hA6;have k6:=(Qk ((hB6.block _ lk).trans HJK.out.b)).1;have lk6:=Qz ((hB6.block _ lk).trans HJK.out.b);have hN6:=HJN.out.below hB6 (by omega);have hL:=hN6.look hNz;rw[<-HQ.out]at hL;have HN6:=hid hN6;have HB6:=hid hB6;dsimp only[av]at hL heq;clear hN6 hB6 hA6 S0 HS;by_cases hyq:(Y,y)=(C,q)
      ·rw[decide_eq_true hyq]at heq
       have HYQ:=hid hyq;clear hyq
       gi_wp2
       refine⟨KeepsFrom.of_grownBy (G.below (R:=0) HB6.out) (fun j e=>by have:=Option.some.inj e;omega),Kb.below HB6.out,?_⟩;refine LfJ.below (W:=W) ?_ (HB6.out.mono jS) hib hwM hib4;refine⟨F,nk,bk,HJN.out,?_,HJI.out,HJK.out,HJM.out,jS⟩;rw[List.map_append];refine HJR.out.same (x:=x.r rs) ?_;rw[HXr.out,HXt.out,<-HN.out,<-HY.out,<-HQ.out];exact HYQ.out
      ·rw[decide_eq_false hyq]at heq
       have HYQ:=hid hyq;obtain⟨w7,h7,hN7,hg7⟩:=HN6.out.put hNz (Y,y) hcnt;dsimp only[av]at h7;have hI7:=(hg7.block ib (by have:=HB6.out.size;omega) (fun e=>by have:=Option.some.inj e;omega)).trans ((HB6.out.block _ (by omega)).trans HJI.out);obtain⟨i7,f7⟩:=Qk hI7;have li7:=Qz hI7;have HN7:=hid hN7;have HG7:=hid hg7;have HI7:=hid hI7;clear hyq hN7 hg7 hI7
       gi_wp2
       have hb6:=HB6.out;have hg7:=HG7.out;have hg8:w7.grownBy (w7.setCell ⟨ib,0,none⟩ (.bool true)) (some ib):=grownBy_setCell' _ _ _;have hs3:=HS3.out;refine⟨((KeepsFrom.of_grownBy (G.below (R:=0) hb6) (fun j e=>by have:=Option.some.inj e;omega)).trans (KeepsFrom.of_grownBy hg7 (fun j e=>by have:=Option.some.inj e;omega))).trans (KeepsFrom.of_grownBy hg8 (fun j e=>by have:=Option.some.inj e;omega)),((Kb.below hb6).trans (Kb.grown hg7 (fun r e=>by have:=Option.some.inj e;omega))).trans (Kb.grown hg8 (fun r e=>by have:=Option.some.inj e;omega)),?_⟩;refine⟨_,_,true,HN7.out.kept hg8 (fun e=>by have:=Option.some.inj e;omega),?_,Qy HI7.out 0 _,((HJK.out.below hb6 (by omega) (by omega)).grown hg7 hwM (by omega)).grown hg8 (by omega) (by omega),?_,?_⟩
       ·rw[List.map_append,HY.out]
        have hnew:=HJR.out.new (x:=x.r rs) (by rw[HXr.out];exact HX.out) (by rw[HXr.out,HXt.out];exact HBt.out) (by rw[HXr.out];exact HU.out _ HX.out) (by rw[HXr.out,HXt.out,<-HN.out,<-HY.out,<-HQ.out];exact HYQ.out);rw[HXr.out,HXt.out,<-HN.out]at hnew;rw[List.map_cons,List.map_nil,HXr.out];exact hnew
       ·refine HJM.out.kept fun D hD e=> ?_
        obtain⟨es,ck,hmap⟩:=HN6.out.obj;have e6:=(hb6.block D (by omega)).trans e;have e7:=(hg7.block D (Qz e6) (fun e'=>by have:=Option.some.inj e';subst this;rw[hmap]at e6;cases e6)).trans e6;exact(hg8.block D (Qz e7) (fun e'=>by have:=Option.some.inj e';subst this;rw[HI7.out]at e7;cases e7)).trans e7
       ·have h1:=hb6.size
        have h2:=hg7.size;have h3:=hg8.size;omega
    case done=>
     rintro D xs W hD hxs ⟨F,nk,bk,jN,jR,jI,jK,jM,jS⟩ hK;rw[HNl.out]at hxs;rw[z5f By.i (By.r rs) rs xs hxs (fun x _=>by
      have hi:x.i<rs.length:=by have:=(List.getElem?_eq_some_iff.1 x.e).1;rw[List.length_map]at this;exact this
      rw[List.getElem?_eq_getElem hi,By.r,List.getElem?_eq_getElem hi];rfl)]at jR
     have eK:F=Xw A rs (mm+1):=jR.last;have hfx:bk=false->Mm A F rs:=fun e=>by
      subst e;rw[jR.fix.1];exact jR.fix.2
     obtain⟨i6,_⟩:=Qk jI;have li6:=Qz jI;have HJR:=hid jR;have HJN:=hid jN;have HJK:=hid jK;have HEK:Hid (F=Xw A rs (mm+1)):=eK;have HFX:=hid hfx;have HMM:Hid (Mks wr.heap.size W.heap.size ({target:=.collected D,args:=#[]}::ds) W):=⟨D,rfl,by omega,Qz hK,hK,jM.mono hD⟩;clear jN jR jI jK jM hK hxs hfx eK
     gi_wp2
     have hal:=(Below.refl _ W).alloc L0q (.cells #[.bool bk] 4);refine⟨if bk then Xg (Xw A rs (mm+1)) rs+1 else 0,?_,W.heap.size,bk,_,_,_,_,_,rfl,hid ⟨nk,mm+1,?_,?_,?_,?_,HJK.out.below hal HJK.out.be.size HJK.out.lt,Qq W _ rfl,HJK.out.lt,?_,(HMM.out.below hal).mono hal.size,rfl⟩⟩
     ·rw[<-HEK.out,HKk.out]
      cases bk with
      |true=>have:=HJR.out.yes rfl;simp;omega
      |false=>simp
     ·rw[<-HEK.out];exact HJN.out.below hal (by have:=HJN.out.lt;omega)
     ·rw[<-HEK.out];exact HJR.out.inv
     ·rw[<-HEK.out];exact HJR.out.bd
     ·rw[<-HEK.out];exact HJR.out.cnt
     ·rw[<-HEK.out];exact HFX.out
    case stop=>exact fun _ _ _ _ _ _ h=>h.elim
end Go.Proofs.YtgmcjddjdidpjaaGreatDoor
