/- Lemmas for the last text. Conditions: those that each names. -/
import Derived.Test.YtlogolpcipiceaaGreatDoorVC7ToC9a
set_option linter.unusedVariables false
set_option maxRecDepth 100000
set_option maxHeartbeats 16000000
namespace Go.Proofs.YtlogolpcipiceaaGreatDoor
open Go.Proofs.Tryz
open Go.RowKit Go.Shelf Go.Maps
variable {W W' w:World} {v0 v1 v2:Value}
theorem y3f{a0 a1:Addr}{row:Option Nat}(h:W.cell? a0=some v0/\W.cell? a1=some v1)(n0:some a0.block≠row)(n1:some a1.block≠row)(hg:W.grownBy W' row):W'.cell? a0=some v0/\W'.cell? a1=some v1:=⟨hg.cell h.1 n0,hg.cell h.2 n1⟩
theorem y3g{Q:Nat->Prop}{B mp o r:Nat}{u u' gv vn:Value}{ops:List Ox}{xs:List Value}{v3 v4 v5 v6 v7 v8:Value}(h:W.cell? ⟨o,3,none⟩=some v0/\W.cell? ⟨r,1,none⟩=some v1/\W.cell? ⟨r,2,none⟩=some v2/\W.cell? ⟨r,3,none⟩=some v3/\W.cell? ⟨r,4,none⟩=some v4/\W.cell? ⟨r,5,none⟩=some v5/\W.cell? ⟨r,6,none⟩=some v6/\W.cell? ⟨r,7,none⟩=some v7/\W.cell? ⟨r,8,none⟩=some v8)(hf:Frm o mp W u W' u')(hm:Mkr W' Q B o mp gv vn v0 ops u' xs)(hr:r≠o/\r≠mp/\u.ownBlock≠some r):W'.cell? ⟨o,3,none⟩=some v0/\W'.cell? ⟨r,1,none⟩=some v1/\W'.cell? ⟨r,2,none⟩=some v2/\W'.cell? ⟨r,3,none⟩=some v3/\W'.cell? ⟨r,4,none⟩=some v4/\W'.cell? ⟨r,5,none⟩=some v5/\W'.cell? ⟨r,6,none⟩=some v6/\W'.cell? ⟨r,7,none⟩=some v7/\W'.cell? ⟨r,8,none⟩=some v8:=by
 have er:W'.heap[r]? =W.heap[r]? :=hf.block r (World.block_lt_of_cell? W _ h.2.1) hr.1 hr.2.1 hr.2.2;exact⟨(Ub hm.hm).1.2.2.2.1,(World.cell?_of_block (a:=⟨r,1,none⟩) er).trans h.2.1,(World.cell?_of_block (a:=⟨r,2,none⟩) er).trans h.2.2.1,(World.cell?_of_block (a:=⟨r,3,none⟩) er).trans h.2.2.2.1,(World.cell?_of_block (a:=⟨r,4,none⟩) er).trans h.2.2.2.2.1,(World.cell?_of_block (a:=⟨r,5,none⟩) er).trans h.2.2.2.2.2.1,(World.cell?_of_block (a:=⟨r,6,none⟩) er).trans h.2.2.2.2.2.2.1,(World.cell?_of_block (a:=⟨r,7,none⟩) er).trans h.2.2.2.2.2.2.2.1,(World.cell?_of_block (a:=⟨r,8,none⟩) er).trans h.2.2.2.2.2.2.2.2⟩
theorem y3h{o r:Nat}{row:Option Nat}{v3 v4 v5 v6 v7 v8:Value}(h:W.cell? ⟨o,3,none⟩=some v0/\W.cell? ⟨r,1,none⟩=some v1/\W.cell? ⟨r,2,none⟩=some v2/\W.cell? ⟨r,3,none⟩=some v3/\W.cell? ⟨r,4,none⟩=some v4/\W.cell? ⟨r,5,none⟩=some v5/\W.cell? ⟨r,6,none⟩=some v6/\W.cell? ⟨r,7,none⟩=some v7/\W.cell? ⟨r,8,none⟩=some v8)(n0:some o≠row)(n1:some r≠row)(hg:W.grownBy W' row):W'.cell? ⟨o,3,none⟩=some v0/\W'.cell? ⟨r,1,none⟩=some v1/\W'.cell? ⟨r,2,none⟩=some v2/\W'.cell? ⟨r,3,none⟩=some v3/\W'.cell? ⟨r,4,none⟩=some v4/\W'.cell? ⟨r,5,none⟩=some v5/\W'.cell? ⟨r,6,none⟩=some v6/\W'.cell? ⟨r,7,none⟩=some v7/\W'.cell? ⟨r,8,none⟩=some v8:=
 ⟨hg.cell h.1 n0,hg.cell h.2.1 n1,hg.cell h.2.2.1 n1,hg.cell h.2.2.2.1 n1,hg.cell h.2.2.2.2.1 n1,hg.cell h.2.2.2.2.2.1 n1,hg.cell h.2.2.2.2.2.2.1 n1,hg.cell h.2.2.2.2.2.2.2.1 n1,hg.cell h.2.2.2.2.2.2.2.2 n1⟩
theorem Xz{g:Nat}{t:TypeId}{a0 a1 a2:Value}(h:w.heap[g]? =some (.cells #[a0,a1,a2] t)):w.cell? ⟨g,0,none⟩=some a0/\w.cell? ⟨g,1,none⟩=some a1/\w.cell? ⟨g,2,none⟩=some a2/\w.frozen? ⟨g,0,none⟩=false/\w.frozen? ⟨g,1,none⟩=false/\w.frozen? ⟨g,2,none⟩=false:=by
 refine⟨?_,?_,?_,?_,?_,?_⟩<;>simp[World.cell?,World.frozen?,h]
theorem Gx{g:Nat}{cs:Array Value}{t:TypeId}(h:w.heap[g]? =some (.cells cs t))(i:Nat)(u:Value)(hu:cs[i]? =some u):w.cell? ⟨g,i,none⟩=some u:=(Zc h i u hu).1
theorem Tb{R:Nat}{t:TypeId}{a0 a1 a2:Value}(h:W.heap[R]? =some (.cells #[a0,a1,a2] t)):(((W.setCell ⟨R,0,none⟩ v0).setCell ⟨R,1,none⟩ v1).setCell ⟨R,2,none⟩ v2).heap[R]? =some (.cells #[v0,v1,v2] t):=by
 have h0:(W.setCell ⟨R,0,none⟩ v0).heap[R]? =some (.cells #[v0,a1,a2] t):=Qb h 0 v0;have h1:((W.setCell ⟨R,0,none⟩ v0).setCell ⟨R,1,none⟩ v1).heap[R]? =some (.cells #[v0,v1,a2] t):=Qb h0 1 v1;exact Qb h1 2 v2
theorem Th{A:World}{R B:Nat}(h:Below B A W)(hR:B<=R):Below B A (((W.setCell ⟨R,0,none⟩ v0).setCell ⟨R,1,none⟩ v1).setCell ⟨R,2,none⟩ v2):=((h.setCell (p:=⟨R,0,none⟩) hR v0).setCell (p:=⟨R,1,none⟩) hR v1).setCell (p:=⟨R,2,none⟩) hR v2
theorem Tryz.infoStrC:(Tryz.prog.info? 9).map (fun i=>(i.zero,i.size,i.bytes))=some (some (.string ⟨#[]⟩),1,16):=by kernel_rfl
theorem y3i(w:World):(Instr.makeMap 81 none).run prog w=.ok (.map (some w.heap.size)) (w.alloc (.map #[] 0)):=by kernel_rfl
def MaQ(ix:ByteArray->Int)(rs:List Rr)(Er:Prop)(w:World)(e:Ending)(w':World):Prop:=
 Below w.heap.size w w'/\((Er/\∃tt uu,e=.returned (.tuple #[.agg #[.slice none 0 0,.slice none 0 0,.slice none 0 0],.iface tt uu]))∨(¬Er/\200<(mkG ix rs []).2.length/\e=.returned (.tuple #[.agg #[.slice none 0 0,.slice none 0 0,.slice none 0 0],.iface 36 (.int .i64 2)]))∨
  (¬Er/\(mkG ix rs []).2.length<=200/\∃(Q:Nat->Prop) (v vn vr:Value) (xs:List Value) (B:Nat),e=.returned (.tuple #[.agg #[v,vn,vr],.nilIface])/\w.heap.size<=B/\w'.ownsRow B 75 7 v (mkG ix rs []).2.length xs/\Aj w' Q (mkG ix rs []).2 xs/\(∀g,Q g->g<w'.heap.size)/\w'.ownsRow B 9 1 vn rs.length (nS rs)/\w'.ownsRow B 3 1 vr rs.length (nI (mkG ix rs []).1)))
theorem Gj.fin{ix:ByteArray->Int}{rs:List Rr}{gv:Value}{wc:World}{j:Nat}{Q:Nat->Prop}{xs:List Value}{vso nso rso:Option Addr}{mO vcap ncap rcap:Nat}{wr:World}{Er:Prop}(h:Gj ix rs gv wc j j Q (.slice vso mO vcap) xs (.slice nso j ncap) (.slice rso j rcap) wr)(hBc:Below w.heap.size w wc)(hE:¬Er)(hj:j=rs.length)(hm:mO=(mkG ix (rs.take j) []).2.length)(h2:¬200<mO)(lw:w.heap.size+1<wc.heap.size):
  MaQ ix rs Er w (.returned (.tuple #[.agg #[.slice vso mO vcap,.slice nso j ncap,.slice rso j rcap],.nilIface])) (((wr.setCell ⟨w.heap.size+1,0,none⟩ (.slice vso mO vcap)).setCell ⟨w.heap.size+1,1,none⟩ (.slice nso j ncap)).setCell ⟨w.heap.size+1,2,none⟩ (.slice rso j rcap)):=by
 obtain⟨Wf,hWf⟩:∃Wf,Wf=((wr.setCell ⟨w.heap.size+1,0,none⟩ (.slice vso mO vcap)).setCell ⟨w.heap.size+1,1,none⟩ (.slice nso j ncap)).setCell ⟨w.heap.size+1,2,none⟩ (.slice rso j rcap):=⟨_,rfl⟩;have hEq:∀g,g≠w.heap.size+1->Wf.heap[g]? =wr.heap[g]? :=fun g hg=>by rw[hWf];exact(Below.heap_setCell _ _ _ _ hg).trans ((Below.heap_setCell _ _ _ _ hg).trans (Below.heap_setCell _ _ _ _ hg))
 have hS:Wf.heap.size=wr.heap.size:=by rw[hWf,World.size_setCell,World.size_setCell,World.size_setCell]
 have hB:Below w.heap.size w Wf:=by rw[hWf];exact Th (hBc.trans (h.be.mono hBc.size)) (by omega)
 rw[<-hWf];clear hWf;have htk:rs.take j=rs:=List.take_of_length_le (by omega);have hMk:=h.hmk;have hOn:=h.on;have hOr:=h.or;rw[htk]at hMk hOn hOr hm;have ho:=Jz (W':=Wf) hMk.ho fun g e=>hEq g (by have:=(hMk.ho.lt g e).1;omega)
 refine⟨hB,.inr (.inr ⟨hE,by omega,Q,_,_,_,xs,wc.heap.size+2,rfl,by have:=hBc.size;omega,?_,hMk.hops.keep fun g hg=>⟨hg,hEq g (by have:=h.qb g hg;omega)⟩,fun g hg=>by rw[hS];exact(hMk.hq g hg).1,?_,?_⟩)⟩
 ·exact ho
 ·rw[<-hj]
  exact Jz hOn fun g e=>hEq g (by have:=(hOn.lt g e).1;omega)
 ·rw[<-hj]
  exact Jz hOr fun g e=>hEq g (by have:=(hOr.lt g e).1;omega)
theorem y3j(so:Option Addr)(n cap:Nat)(rs:List Rr)(Er:Prop)(w:World)(HR:Hid (Qv w w.heap.size so n rs))(HN:Hid (n=rs.length))(HP:Hid (Yj w))
  (HCk:Hid (∀W:World,Below w.heap.size w W->Calls prog 31 #[.agg #[.slice so n cap]] W fun e w'=>((Er/\∃tt uu,e=.returned (.iface tt uu))∨(¬Er/\e=.returned .nilIface))/\Below W.heap.size W w'))
  (HK:Hid (¬Er->n<=1048576/\(∀x∈rs,TrK x.2.1/\x.1.size<=1073741824)/\ndG rs<=1048576)):
  Calls prog 11 #[.agg #[.slice so n cap]] w (MaQ (fun T=>fdI T (nmL rs)) rs Er w):=by
 obtain⟨ix,hix⟩:∃ix:ByteArray->Int,ix=fun T=>fdI T (nmL rs):=⟨_,rfl⟩
 rw[<-hix];have HIx:=hid hix;clear hix;obtain⟨hB1,e0,e1⟩:=Fz w (.cells #[.slice so n cap] 24) (.cells #[.slice none 0 0,.slice none 0 0,.slice none 0 0] 31);obtain⟨W1,hW1⟩:∃W1,W1=(w.alloc (.cells #[.slice so n cap] 24)).alloc (.cells #[.slice none 0 0,.slice none 0 0,.slice none 0 0] 31):=⟨_,rfl⟩;rw[<-hW1]at hB1 e0 e1;have HCk1:=hid (HCk.out W1 hB1);have HB1:=hid hB1;have E0:=hid e0;have E1:=hid e1;have HW1:=hid hW1;have m0:=(Qk e0).1;have l0:=Qz e0;have hmkm:=y3i;clear hB1 e0 e1 hW1;go_enter func11,ntmps11
 go_wp2_with fail
 rw[<-HW1.out];clear HW1;refine HCk1.out.mono ?_;rintro e wc ⟨hE,hbc⟩;have HBc:=hid (HB1.out.trans (hbc.mono HB1.out.size));have F0:=hid ((hbc.block _ (Qz E0.out)).trans E0.out);have F1:=hid ((hbc.block _ (Qz E1.out)).trans E1.out);clear m0 l0 HCk1 HCk E0 E1 hbc;have m0:=(Qk F0.out).1;have l0:=Qz F0.out;obtain⟨z0,z1,z2,f0,f1,f2⟩:=Xz F1.out;have l1:=Qz F1.out;rcases hE with⟨hEr,tt,uu,rfl⟩|⟨hEr,rfl⟩
 ·go_wp2_with fail
  have hP:=Tb (v0:=.slice none 0 0) (v1:=.slice none 0 0) (v2:=.slice none 0 0) F1.out;obtain⟨r0,r1,r2,_⟩:=Xz hP;exact bodyPost_ret (v:=.tuple #[.agg #[.slice none 0 0,.slice none 0 0,.slice none 0 0],.iface tt uu]) (by simp[results,Tryz.results11,go_sem,r0,r1,r2]) rfl ⟨Th HBc.out (by omega),.inl ⟨hEr,tt,uu,rfl⟩⟩
 ·obtain⟨hn,hTr,hnd⟩:=HK.out hEr
  have HTr:=hid hTr;have HEr:=hid hEr;obtain⟨hB4,e2,e3⟩:=Fz wc (.map #[] 0) (.cells #[.slice so n cap,.slice none 0 0,.slice none 0 0,.slice none 0 0,.map (some wc.heap.size)] 83);obtain⟨W4,hW4⟩:∃W4,W4=(wc.alloc (.map #[] 0)).alloc (.cells #[.slice so n cap,.slice none 0 0,.slice none 0 0,.slice none 0 0,.map (some wc.heap.size)] 83):=⟨_,rfl⟩;have hs4:W4.heap.size=wc.heap.size+2:=by rw[hW4,World.size_alloc,World.size_alloc]
  have hPk:Pk W4 wc.heap.size []:=by rw[hW4];exact(Pk.made wc).same (Below.heap_alloc _ _ _ (by simp))
  rw[<-hW4]at hB4 e2 e3;have HG0:Hid (Gj ix rs (.slice so n cap) wc 0 0 (fun _=>False) (.slice none 0 0) [] (.slice none 0 0) (.slice none 0 0) W4):=hid ⟨hB4,⟨e3,by rw[List.take_zero,mkG];exact World.ownsRow_nil _ _ _ _,fun i hi=>by rw[List.take_zero,mkG]at hi;simp at hi,by rw[List.take_zero,mkG];exact hPk,fun g hg=>hg.elim,by omega,by omega,by omega⟩,by rw[List.take_zero];exact World.ownsRow_nil _ _ _ _,by rw[List.take_zero,mkG];exact World.ownsRow_nil _ _ _ _,fun g hg=>(by cases hg),fun g hg=>(by cases hg),fun g hg=>hg.elim⟩;have HW4:=hid hW4;have HRc:Hid (Qv wc wc.heap.size so n rs):=hid ((HR.out.below HBc.out).upto HBc.out.size);have HPc:Hid (Yj wc):=hid (HP.out.below HBc.out);have HNd:=hid hnd;clear hTr hEr hnd hB4 e2 e3 hW4 hs4 hPk HK HR HP z0 z1 z2 f0 f1 f2 l1
  go_wp2_with fail
  rw[<-HW4.out];clear HW4 m0 l0;obtain⟨iT,hiT,hzT0,hzT1,hzT2⟩:=info_parts Tryz.infoInt;obtain⟨iS,hiS,hzS0,hzS1,hzS2⟩:=info_parts Tryz.infoStrC
  go_loopw [21] (fun i wr=>∃(j:Nat) (Q:Nat->Prop) (v:Value) (xs:List Value) (vn vr:Value),i=.int .i64 j/\j<=n/\Hid (Gj ix rs (.slice so n cap) wc j j Q v xs vn vr wr)) (fun i _=>n-(intOf i).toNat)
  case atStart=>exact⟨0,_,_,_,_,_,rfl,Nat.zero_le _,HG0⟩
  case round=>
   obtain⟨j,Q,v,xs,vn,vr,rfl,hj,HG⟩:=hrel;clear HG0;obtain⟨nso,ncap,rfl⟩:=Yh HG.out.on;obtain⟨rso,rcap,rfl⟩:=Yh HG.out.or;by_cases hjn:j<n
   ·have hjI:(j:Int)<(n:Int):=by omega
    have a0:decide ((j:Int)<(n:Int))=true:=by simp;omega
    have hjs:j<rs.length:=by rw[<-HN.out];exact hjn
    obtain⟨g,o,rfl,hg,k1,T1,a1,b1,c1,d1,so1,n1,cap1,p1,rt,z0,z1,z2,z3,z4,z5,z6,z7,z8,z9⟩:=HRc.out.2.2 j hjs;have zm:∀{i:Nat} {u:Value},wc.cell? ⟨g,i,none⟩=some u->wr.cell? ⟨g,i,none⟩=some u:=fun{i u} h=>(HG.out.be.cell (p:=⟨g,i,none⟩) hg).trans h
    replace z0:=zm z0;replace z1:=zm z1;replace z2:=zm z2;replace z3:=zm z3;replace z4:=zm z4;replace z5:=zm z5;replace z6:=zm z6;replace z7:=zm z7;replace z8:=zm z8;replace z9:=zm z9;have hTj:=HTr.out rs[j] (List.getElem_mem hjs);obtain⟨N0,hN0⟩:∃N0,N0=rs[j].1:=⟨_,rfl⟩;obtain⟨q1,hq1⟩:∃q1,q1=rs[j].2.2:=⟨_,rfl⟩;rw[<-hN0]at z0;rw[<-hq1]at z9;have HCl:=hid (fun W:World=>If N0 W (by rw[hN0];exact Nat.le_trans hTj.2 (by decide)));have hbA:Below wr.heap.size wr (wr.alloc (.cells #[.string N0,.int .i64 k1,.string T1,.int .u64 a1,.int .u64 b1,.int .u64 c1,.int .u64 d1,.slice so1 n1 cap1,.int .i64 p1,.int .i64 q1] 73)):=(Below.refl _ wr).alloc L0q _;obtain⟨Wd,hWd⟩:∃Wd,Wd=(wr.alloc (.cells #[.string N0,.int .i64 k1,.string T1,.int .u64 a1,.int .u64 b1,.int .u64 c1,.int .u64 d1,.slice so1 n1 cap1,.int .i64 p1,.int .i64 q1] 73)).drew:=⟨_,rfl⟩;have hbD:Below wr.heap.size wr Wd:=by rw[hWd];exact hbA.drew
    have hsD:Wd.heap.size=wr.heap.size+1:=by rw[hWd];exact World.size_alloc _ _
    have hnD:Wd.heap[wr.heap.size]? =some (.cells #[.string N0,.int .i64 k1,.string T1,.int .u64 a1,.int .u64 b1,.int .u64 c1,.int .u64 d1,.slice so1 n1 cap1,.int .i64 p1,.int .i64 q1] 73):=by rw[hWd];exact Qx wr _ rfl
    have HGd:=hid (HG.out.below hbD);have hwm:wc.heap.size+1<wr.heap.size:=Qz HG.out.hmk.hm;have hvn:∀g,Value.ownBlock (.slice nso j ncap)=some g->wc.heap.size+2<=g/\g<wr.heap.size:=HG.out.on.lt;have hvr:∀g,Value.ownBlock (.slice rso j rcap)=some g->wc.heap.size+2<=g/\g<wr.heap.size:=HG.out.or.lt;have HOn:Hid (∀w3:World,Below Wd.heap.size Wd w3->w3.ownsRow (wc.heap.size+2) 9 1 (.slice nso j ncap) j (nS (rs.take j))):=hid fun w3 h3=>(HGd.out.below h3).on
    have HSz:Hid (∀w3:World,Below Wd.heap.size Wd w3->wc.heap.size+2<=(w3.alloc (.cells #[.string N0] 9)).heap.size):=hid fun w3 h3=>by have:=h3.size;rw[World.size_alloc];omega
    have HL3:Hid (∀w3:World,Below Wd.heap.size Wd w3->wc.heap.size+1<(w3.alloc (.cells #[.string N0] 9)).heap.size):=hid fun w3 h3=>by have:=h3.size;rw[World.size_alloc];omega
    have HL4:Hid (∀w3:World,Below Wd.heap.size Wd w3->wc.heap.size+1<w3.heap.size):=hid fun w3 h3=>by have:=h3.size;omega
    have HL5:Hid (wc.heap.size+1<Wd.heap.size):=hid (by omega);have HNm:Hid (some (wc.heap.size+1)≠Value.ownBlock (.slice nso j ncap)):=hid fun e=>by have:=hvn _ e.symm;omega
    have HNr:Hid (some wr.heap.size≠Value.ownBlock (.slice nso j ncap)):=hid fun e=>by have:=hvn _ e.symm;omega
    have HMd:=hid HGd.out.hmk.hm;have mm1:j+1<=maxLen:=by unfold maxLen;omega
    have mm2:(j+1)*16<=140737488355328:=by omega
    have mm3:(j+1)*8<=140737488355328:=by omega
    have HS8:Hid ((fun X:World=>X.cell? ⟨wc.heap.size+1,2,none⟩=some (.slice nso j ncap)/\X.cell? ⟨wr.heap.size,0,none⟩=some (.string N0)) (wr.alloc (.cells #[.string N0,.int .i64 k1,.string T1,.int .u64 a1,.int .u64 b1,.int .u64 c1,.int .u64 d1,.slice so1 n1 cap1,.int .i64 p1,.int .i64 q1] 73)).drew):=by
     rw[<-hWd];exact⟨(Ub HMd.out).1.2.2.1,Gx hnD 0 _ rfl⟩
    have HWd:=hid hWd;have HnD:=hid hnD;have HsD:=hid hsD;have HN0:=hid hN0;have HRt:=hid rt;have HTk:=hid hTj.1;have HVr:=hid hvr;have HVn:=hid hvn;clear zm hN0 hq1 hbA hWd hbD hnD hsD hTj rt hvn hvr
    go_wp2_with fail
    clear z0 z1 z2 z3 z4 z5 z6 z7 z8 z9;refine Zl 14 (fun X:World=>X.cell? ⟨wc.heap.size+1,2,none⟩=some (.slice nso j ncap)/\X.cell? ⟨wr.heap.size,0,none⟩=some (.string N0)) (by kernel_rfl) HS8.out (fun hHeld=> ?_);rw[<-HWd.out]at hHeld ⊢;refine Qq 0 hHeld ?_;refine Qq 1 hHeld ?_;refine Qq 2 hHeld ?_;refine Qq 3 hHeld ?_;refine Qq 4 hHeld ?_;refine Qq 5 hHeld ?_;refine Qq 6 hHeld ?_;refine Qq 7 hHeld ?_
    (refine Qd 8 (fun K hK=> ?_);go_simp;refine(HCl.out Wd).mono ?_;rintro e w3 ⟨rfl,hb3⟩;have HB3:=hid hb3;clear hb3;go_simp;replace hHeld:=Hv hHeld HB3.out;refine hK.out _ _ hHeld ?_;clear hK K)
    (try simp only[Act.put,List.setIfInBounds_toArray,List.set_cons_zero,List.set_cons_succ])
    (refine Qd 9 (fun K hK=> ?_);go_simp;replace hHeld:=Hv hHeld ((Below.refl _ w3).alloc L0q (.cells #[.string N0] 9));refine hK.out _ _ hHeld ?_;clear hK K)
    (try simp only[Act.put,List.setIfInBounds_toArray,List.set_cons_zero,List.set_cons_succ])
    (refine Qd 10 (fun K hK=> ?_);refine step_append_lies _ rfl (.tmp 30) (.tmp 34) 28 rfl (wc.heap.size+2) 9 iS (.string ⟨#[]⟩) 1 16 Tryz.underlying28 hiS hzS0 hzS1 hzS2 rfl (by decide) (.slice nso j ncap) j (nS (rs.take j)) (by rfl) ((HOn.out w3 HB3.out).alloc _) ⟨w3.heap.size,0,none⟩ 1 1 [.string N0] (by rfl) rfl (Ax _ _ _) (by simp[Value.oneCell']) (by decide) mm1 mm2 (HSz.out w3 HB3.out) (w3.heap.size+1) (World.size_alloc _ _) ?_;intro g6 cap6 w6 hown6 hgr6 hat6 hlt6;replace hHeld:=y3f hHeld HNm.out HNr.out hgr6;have HO6:=hid hown6;have HG6:=hid hgr6;have HA6:=hid hat6;clear hown6 hgr6 hat6;refine hK.out _ _ hHeld ?_;clear hK K)
    (try simp only[Act.put,List.setIfInBounds_toArray,List.set_cons_zero,List.set_cons_succ])
    (refine Qd 11 (fun K hK=> ?_);go_simp;refine hK.out _ _ hHeld ?_;clear hK K)
    (try simp only[Act.put,List.setIfInBounds_toArray,List.set_cons_zero,List.set_cons_succ])
    (refine Qd 12 (fun K hK=> ?_);go_simp;refine hK.out _ _ hHeld ?_;clear hK K)
    (try simp only[Act.put,List.setIfInBounds_toArray,List.set_cons_zero,List.set_cons_succ])
    refine Qq 13 hHeld ?_;refine Jh (fun K hK=> ?_);have HC6:=hid ((HG6.out.block _ (HL3.out w3 HB3.out) HNm.out).trans ((Below.heap_alloc _ _ _ (HL4.out w3 HB3.out)).trans ((HB3.out.block _ HL5.out).trans HMd.out)));obtain⟨⟨s0,s1,s2,s3,s4⟩,f0,f1,f2,f3,f4⟩:=Ub HC6.out;have ls:=Qz HC6.out;clear hHeld
    go_simp
    refine hK.out _ _ ?_;clear hK K s0 s1 s2 s3 s4 f0 f1 f2 f3 f4 ls
    go_wp2_with fail
    obtain⟨W7,hW7⟩:∃W7,W7=w6.setCell ⟨wc.heap.size+1,2,none⟩ (.slice (some ⟨g6,0,none⟩) (j+1) cap6):=⟨_,rfl⟩;have HGm:Hid (Gj ix rs _ wc (j+1) j Q v xs (.slice (some ⟨g6,0,none⟩) (j+1) cap6) (.slice rso j rcap) W7):=hid (by rw[hW7];exact(HGd.out.below HB3.out).names hjs (by rw[<-HN0.out];exact HO6.out) HG6.out HA6.out);have hs3:=HB3.out.size;have hs6:w3.heap.size+1<=w6.heap.size:=by have:=HG6.out.size;rw[World.size_alloc]at this;exact this
    have hn7:W7.heap[wr.heap.size]? =some (.cells #[.string N0,.int .i64 k1,.string T1,.int .u64 a1,.int .u64 b1,.int .u64 c1,.int .u64 d1,.slice so1 n1 cap1,.int .i64 p1,.int .i64 q1] 73):=by
     rw[hW7];refine(Below.heap_setCell _ _ _ _ (show wr.heap.size≠wc.heap.size+1 by omega)).trans ((HG6.out.block _ (by have:=HsD.out;rw[World.size_alloc];omega) HNr.out).trans ((Below.heap_alloc _ _ _ (by have:=HsD.out;omega)).trans ((HB3.out.block _ (by have:=HsD.out;omega)).trans HnD.out)))
    rw[<-hW7];obtain⟨We,hWe⟩:∃We,We=W7.drew:=⟨_,rfl⟩;have HGe:Hid (Gj ix rs _ wc (j+1) j Q v xs (.slice (some ⟨g6,0,none⟩) (j+1) cap6) (.slice rso j rcap) We):=hid (by rw[hWe];exact HGm.out.below (Below.refl _ W7).drew);have hsE:wr.heap.size+2<=We.heap.size:=by rw[hWe];show _<=W7.heap.size;rw[hW7,World.size_setCell];have:=HsD.out;omega
    have hnT:=z4K rs j hjs;have hlT:=(Km ix (rs.take j) []).1;have HPl:Hid (Calls prog 33 #[.pointer (some ⟨wc.heap.size+1,0,none⟩),.agg #[.int .i64 k1,.string T1,.int .u64 a1,.int .u64 b1,.int .u64 c1,.int .u64 d1,.slice so1 n1 cap1,.int .i64 p1]] We (PlP ix rs[j].2.1 Q (wc.heap.size+2) (wc.heap.size+1) wc.heap.size _ (.slice (some ⟨g6,0,none⟩) (j+1) cap6) (.slice rso j rcap) (mkG ix (rs.take j) []).2 v We)):=hid (by
     have h9:=z4J (B:=wc.heap.size+2) (mB:=wc.heap.size+1) (mp:=wc.heap.size) (gcap:=cap) (vn:=.slice (some ⟨g6,0,none⟩) (j+1) cap6) (vr:=.slice rso j rcap) HRc.out (by have:=HN.out;omega) HPc.out (Nat.le_succ _) L0q _ rs[j].2.1 _ (Nat.lt_succ_self _) HRt.out HTk.out We Q (mkG ix (rs.take j) []).2 v xs HGe.out.be (by omega) HGe.out.hmk (by have:=HNd.out;simp only[List.length_nil]at hlT;omega);rw[<-HIx.out]at h9;exact h9)
    have HNw:Hid (wr.heap.size≠wc.heap.size+1/\wr.heap.size≠wc.heap.size/\v.ownBlock≠some wr.heap.size):=hid ⟨by omega,by omega,fun e=>by have:=(HG.out.hmk.ho.lt _ e).2;omega⟩;have HOr:Hid (∀(w8:World) (v2:Value),Frm (wc.heap.size+1) wc.heap.size We v w8 v2->w8.ownsRow (wc.heap.size+2) 3 1 (.slice rso j rcap) j (nI (mkG ix (rs.take j) []).1)):=hid fun w8 v2 h=>Jz HGe.out.or fun g e=>by
     have h1:=HVr.out g e;exact h.block g (by omega) (by omega) (by omega) (HGe.out.d2 g e).2
    have HSy:Hid (∀(w8:World) (v2:Value),Frm (wc.heap.size+1) wc.heap.size We v w8 v2->wc.heap.size+2<=(w8.alloc (.cells #[(.int .i64 ((mkT ix rs[j].2.1 (mkG ix (rs.take j) []).2).1:Nat))] 3)).heap.size):=hid fun w8 v2 h=>by have:=h.size;rw[World.size_alloc];omega
    have HL6:Hid (∀(w8:World) (v2:Value),Frm (wc.heap.size+1) wc.heap.size We v w8 v2->wc.heap.size+1<(w8.alloc (.cells #[(.int .i64 ((mkT ix rs[j].2.1 (mkG ix (rs.take j) []).2).1:Nat))] 3)).heap.size):=hid fun w8 v2 h=>by have:=h.size;rw[World.size_alloc];omega
    have HL7:Hid (∀(w8:World) (v2:Value),Frm (wc.heap.size+1) wc.heap.size We v w8 v2->wc.heap.size+1<w8.heap.size):=hid fun w8 v2 h=>by have:=h.size;omega
    have HNo:Hid (some (wc.heap.size+1)≠Value.ownBlock (.slice rso j rcap)):=hid fun e=>by have:=HVr.out _ e.symm;omega
    have HNq:Hid (some wr.heap.size≠Value.ownBlock (.slice rso j rcap)):=hid fun e=>by have:=HVr.out _ e.symm;omega
    have HS9:Hid ((fun X:World=>X.cell? ⟨wc.heap.size+1,3,none⟩=some (.slice rso j rcap)/\X.cell? ⟨wr.heap.size,1,none⟩=some (.int .i64 k1)/\X.cell? ⟨wr.heap.size,2,none⟩=some (.string T1)/\X.cell? ⟨wr.heap.size,3,none⟩=some (.int .u64 a1)/\X.cell? ⟨wr.heap.size,4,none⟩=some (.int .u64 b1)/\X.cell? ⟨wr.heap.size,5,none⟩=some (.int .u64 c1)/\X.cell? ⟨wr.heap.size,6,none⟩=some (.int .u64 d1)/\X.cell? ⟨wr.heap.size,7,none⟩=some (.slice so1 n1 cap1)/\X.cell? ⟨wr.heap.size,8,none⟩=some (.int .i64 p1)) W7.drew):=by
     rw[<-hWe];have hnE:We.heap[wr.heap.size]? =some (.cells #[.string N0,.int .i64 k1,.string T1,.int .u64 a1,.int .u64 b1,.int .u64 c1,.int .u64 d1,.slice so1 n1 cap1,.int .i64 p1,.int .i64 q1] 73):=by rw[hWe];exact hn7
     exact⟨(Ub HGe.out.hmk.hm).1.2.2.2.1,Gx hnE 1 _ rfl,Gx hnE 2 _ rfl,Gx hnE 3 _ rfl,Gx hnE 4 _ rfl,Gx hnE 5 _ rfl,Gx hnE 6 _ rfl,Gx hnE 7 _ rfl,Gx hnE 8 _ rfl⟩
    have HWe:=hid hWe;clear hn7 hW7 hWe hs3 hs6 HO6 HG6 HA6 HB3 HC6 HS8 HWd HnD HGd hnT hlT;refine Zl 15 (fun X:World=>X.cell? ⟨wc.heap.size+1,3,none⟩=some (.slice rso j rcap)/\X.cell? ⟨wr.heap.size,1,none⟩=some (.int .i64 k1)/\X.cell? ⟨wr.heap.size,2,none⟩=some (.string T1)/\X.cell? ⟨wr.heap.size,3,none⟩=some (.int .u64 a1)/\X.cell? ⟨wr.heap.size,4,none⟩=some (.int .u64 b1)/\X.cell? ⟨wr.heap.size,5,none⟩=some (.int .u64 c1)/\X.cell? ⟨wr.heap.size,6,none⟩=some (.int .u64 d1)/\X.cell? ⟨wr.heap.size,7,none⟩=some (.slice so1 n1 cap1)/\X.cell? ⟨wr.heap.size,8,none⟩=some (.int .i64 p1)) (by kernel_rfl) HS9.out (fun hHeld=> ?_);rw[<-HWe.out]at hHeld ⊢;refine Qq 0 hHeld ?_;refine Qq 1 hHeld ?_;refine Qq 2 hHeld ?_;refine Qq 3 hHeld ?_;refine Qq 4 hHeld ?_;refine Qq 5 hHeld ?_;refine Qq 6 hHeld ?_;refine Qq 7 hHeld ?_;refine Qq 8 hHeld ?_
    (refine Qd 9 (fun K hK=> ?_);go_simp;refine HPl.out.mono ?_;rintro e w8 ⟨Q2,v2,xs2,rfl,hM2,hQ2,hF2⟩;have HM2:=hid hM2;have HQ2:=hid hQ2;have HF2:=hid hF2;clear hM2 hQ2 hF2;go_simp;replace hHeld:=y3g hHeld HF2.out HM2.out HNw.out;refine hK.out _ _ hHeld ?_;clear hK K)
    (try simp only[Act.put,List.setIfInBounds_toArray,List.set_cons_zero,List.set_cons_succ])
    (refine Qd 10 (fun K hK=> ?_);go_simp;replace hHeld:=z4F hHeld ((Below.refl _ w8).alloc L0q (.cells #[(.int .i64 ((mkT ix rs[j].2.1 (mkG ix (rs.take j) []).2).1:Nat))] 3));refine hK.out _ _ hHeld ?_;clear hK K)
    (try simp only[Act.put,List.setIfInBounds_toArray,List.set_cons_zero,List.set_cons_succ])
    (refine Qd 11 (fun K hK=> ?_);refine step_append_lies _ rfl (.tmp 44) (.tmp 49) 29 rfl (wc.heap.size+2) 3 iT (.int .i64 0) 1 8 Tryz.underlying29 hiT hzT0 hzT1 hzT2 rfl (by decide) (.slice rso j rcap) j (nI (mkG ix (rs.take j) []).1) (by rfl) ((HOr.out w8 v2 HF2.out).alloc _) ⟨w8.heap.size,0,none⟩ 1 1 [(.int .i64 ((mkT ix rs[j].2.1 (mkG ix (rs.take j) []).2).1:Nat))] (by rfl) rfl (Ax _ _ _) (by simp[Value.oneCell']) (by decide) mm1 mm3 (HSy.out w8 v2 HF2.out) (w8.heap.size+1) (World.size_alloc _ _) ?_;intro g9 cap9 w9 hown9 hgr9 hat9 hlt9;replace hHeld:=y3h hHeld HNo.out HNq.out hgr9;have HO9:=hid hown9;have HG9:=hid hgr9;have HA9:=hid hat9;clear hown9 hgr9 hat9;refine hK.out _ _ hHeld ?_;clear hK K)
    (try simp only[Act.put,List.setIfInBounds_toArray,List.set_cons_zero,List.set_cons_succ])
    (refine Qd 12 (fun K hK=> ?_);go_simp;refine hK.out _ _ hHeld ?_;clear hK K)
    (try simp only[Act.put,List.setIfInBounds_toArray,List.set_cons_zero,List.set_cons_succ])
    (refine Qd 13 (fun K hK=> ?_);go_simp;refine hK.out _ _ hHeld ?_;clear hK K)
    (try simp only[Act.put,List.setIfInBounds_toArray,List.set_cons_zero,List.set_cons_succ])
    refine Qq 14 hHeld ?_;refine Jh (fun K hK=> ?_);have HC9:=hid ((HG9.out.block _ (HL6.out w8 v2 HF2.out) HNo.out).trans ((Below.heap_alloc _ _ _ (HL7.out w8 v2 HF2.out)).trans HM2.out.hm));obtain⟨⟨s0,s1,s2,s3,s4⟩,f0,f1,f2,f3,f4⟩:=Ub HC9.out;have ls:=Qz HC9.out;clear hHeld
    go_simp
    refine hK.out _ _ ?_;clear hK K s0 s1 s2 s3 s4 f0 f1 f2 f3 f4 ls
    go_wp2_with fail
    refine⟨⟨j+1,_,_,_,_,_,by go_num,by omega,hid (HGe.out.roots hjs HM2.out HQ2.out HF2.out HO9.out HG9.out HA9.out)⟩,by simp[intOf];omega⟩
   ·have a0:decide ((j:Int)<(n:Int))=false:=by simp;omega
    have HJn:Hid (j=n):=hid (by omega);obtain⟨vso,vcap,rfl⟩:=Yh HG.out.hmk.ho;obtain⟨mO,hmO⟩:∃mO,mO=(mkG ix (rs.take j) []).2.length:=⟨_,rfl⟩;have hlT:=(Km ix (rs.take j) []).1;have hnT:ndG (rs.take j)<=ndG rs:=by
     have h:ndG rs=ndG (rs.take j)+ndG (rs.drop j):=by rw[<-Hw,List.take_append_drop]
     omega
    have hmb:mO<=1048576:=by have:=HNd.out;simp only[List.length_nil]at hlT;omega
    have HG':=hid HG.out;rw[<-hmO]at HG';obtain⟨⟨x0,x1,x2,x3,x4⟩,_⟩:=Ub HG'.out.hmk.hm;have lm:=Qz HG'.out.hmk.hm;have F2:=hid ((HG.out.be.block _ (Qz F1.out)).trans F1.out);obtain⟨z0,z1,z2,f0,f1,f2⟩:=Xz F2.out;have lz:=Qz F2.out;have HmO:=hid hmO;have lw:w.heap.size+1<wc.heap.size:=Qz F1.out;clear hmO hlT hnT HG;by_cases h2:200<mO
    ·have b0:decide ((200:Int)<(mO:Int))=true:=by simp;omega
     have b1:(200:Int)<(mO:Int):=by omega
     go_wp2_with fail
     have hP:=Tb (v0:=.slice none 0 0) (v1:=.slice none 0 0) (v2:=.slice none 0 0) F2.out;obtain⟨r0,r1,r2,_⟩:=Xz hP;have htk:rs.take j=rs:=List.take_of_length_le (by have:=HN.out;have:=HJn.out;omega);have hBw:Below w.heap.size w wr:=HBc.out.trans (HG'.out.be.mono HBc.out.size);refine bodyPost_ret (v:=.tuple #[.agg #[.slice none 0 0,.slice none 0 0,.slice none 0 0],.iface 36 (.int .i64 2)]) (by simp[results,Tryz.results11,go_sem,r0,r1,r2]) rfl ⟨Th hBw (by omega),.inr (.inl ⟨HEr.out,?_,rfl⟩)⟩;have:=HmO.out;rw[htk]at this;omega
    ·have b0:decide ((200:Int)<(mO:Int))=false:=by simp;omega
     have b1:¬(200:Int)<(mO:Int):=by omega
     go_wp2_with fail
     have hP:=Tb (v0:=.slice vso mO vcap) (v1:=.slice nso j ncap) (v2:=.slice rso j rcap) F2.out;obtain⟨r0,r1,r2,_⟩:=Xz hP;refine bodyPost_ret (v:=.tuple #[.agg #[.slice vso mO vcap,.slice nso j ncap,.slice rso j rcap],.nilIface]) (by simp[results,Tryz.results11,go_sem,r0,r1,r2]) rfl ?_;exact HG'.out.fin HBc.out HEr.out (by have:=HN.out;have:=HJn.out;omega) HmO.out h2 lw
end Go.Proofs.YtlogolpcipiceaaGreatDoor
