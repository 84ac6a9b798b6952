/- Lemmas for the last text. Conditions: those that each names. -/
import Derived.Test.YtikfnaffiehpaaaGreatDoorVN1
import Derived.Test.YtikfnaffiehpaaaGreatDoorVY5ToY7
set_option linter.unusedVariables false
set_option maxRecDepth 100000
set_option maxHeartbeats 8000000
namespace Go.Proofs.YtikfnaffiehpaaaGreatDoor
open Go.Proofs.Tryz
open Go.RowKit Go.Shelf
theorem z3T(so:Option Addr)(n cap:Nat)(rs:List Rr)(B:Nat)(w:World)(hz:RgZ rs)(h:Xh w B so n rs)(hB:B<=w.heap.size):
  Calls prog 23 #[.agg #[.slice so n cap]] w fun e w'=>e=.returned (.bool (okG rs))/\Below w.heap.size w w':=by
 obtain⟨R,hR⟩:∃R,R=okG rs:=⟨_,rfl⟩;have HR:=hid hR;rw[<-hR];clear hR;have HN:Hid (n=rs.length):=h.1;have hm:n<=9223372036854775807:=by have:=h.2.1;unfold maxLen at this;omega
 have HG:=hid h;have HZ:=hid hz;clear h hz;by_cases h0:n=0
 ·have q0:decide ((n:Int)<1)=true:=by simp;omega
  have q0':(n:Int)<1:=by omega
  clear HG;go_enter func23,ntmps23
  go_wp2_with fail
  go_ret;refine⟨?_,B0q.alloc L0q _⟩;rw[HR.out];unfold okG;rw[decide_eq_false (by have:=HN.out;omega)];rfl
 have q0:decide ((n:Int)<1)=false:=by simp;omega
 have q0':¬(n:Int)<1:=by omega
 by_cases h1:64<n
 ·have q1:(64:Int)<(n:Int):=by omega
  have q2:decide ((64:Int)<(n:Int))=true:=by simp;omega
  clear HG;go_enter func23,ntmps23
  go_wp2_with fail
  go_ret;refine⟨?_,B0q.alloc L0q _⟩;rw[HR.out];unfold okG;rw[decide_eq_false (p:=rs.length<=64) (by have:=HN.out;omega),Bool.false_and,Bool.and_false];rfl
 have q1:¬(64:Int)<(n:Int):=by omega
 have q2:decide ((64:Int)<(n:Int))=false:=by simp;omega
 have HR2:Hid (R=rs.all okR):=by
  refine HR.out.trans ?_;unfold okG;rw[decide_eq_true (by have:=HN.out;omega),decide_eq_true (p:=rs.length<=64) (by have:=HN.out;omega)];rfl
 clear HR;have HB0:Hid (Below w.heap.size w (w.alloc (.cells #[.slice so n cap] 24))):=(Below.refl _ w).alloc L0q _;have HC0:Hid ((w.alloc (.cells #[.slice so n cap] 24)).heap[w.heap.size]? =some (.cells #[.slice so n cap] 24)):=Qq w _ rfl;go_enter func23,ntmps23
 go_wp2_with fail
 go_loopw [3] (fun i wr=>∃j:Nat,i=.int .i64 j/\j<=n/\Hid (Below w.heap.size w wr)/\Hid (wr.heap[w.heap.size]? =some (.cells #[.slice so n cap] 24))/\Hid (∀i (hi:i<rs.length),i<j->okR rs[i]=true)) (fun i _=>n-(intOf i).toNat)
 case atStart=>exact⟨0,rfl,Nat.zero_le _,HB0,HC0,fun i _ h=>absurd h (by omega)⟩
 case round=>
  obtain⟨j,rfl,hj,HB,HCb,HO⟩:=hrel;clear HB0 HC0;obtain⟨m0,_⟩:=Zl HCb.out;have hwl:w.heap.size<wr.heap.size:=Qz HCb.out;by_cases hjn:j<n
  ·have hjI:(j:Int)<(n:Int):=by omega
   have a0:decide ((j:Int)<(n:Int))=true:=by simp;omega
   have hjs:j<rs.length:=by rw[<-HN.out];exact hjn
   have HGr:=hid (HG.out.below (HB.out.mono hB));obtain⟨g,o,rfl,hg,k1,T1,a1,b1,c1,d1,so1,n1,cap1,p1,rt,z0,z1,z2,z3,z4,z5,z6,z7,z8,z9⟩:=HGr.out.2.2 j hjs;obtain⟨zn,zt⟩:=HZ.out rs[j] (List.getElem_mem hjs);have HE:=hid (fun W (hb:Below wr.heap.size wr W)=>z3S _ rs[j].2.1 _ B W (Nat.lt_succ_self _) zt (rt.below (hb.mono (Nat.le_trans hB HB.out.size))) (Nat.le_trans (Nat.le_trans hB HB.out.size) hb.size));have HM:=hid (fun W=>Uv rs[j].1 W zn);obtain⟨Q,hQ⟩:∃Q,Q=okT rs[j].2.1:=⟨_,rfl⟩;obtain⟨M,hM⟩:∃M,M=nmS rs[j].1:=⟨_,rfl⟩;have HQ:Hid (okR rs[j]=(M&&Q)):=by show(nmS rs[j].1&&okT rs[j].2.1)=_;rw[hQ,hM]
   obtain⟨N0,hN0⟩:∃N0,N0=rs[j].1:=⟨_,rfl⟩;obtain⟨p0,hp0⟩:∃p0,p0=rs[j].2.2:=⟨_,rfl⟩;rw[<-hQ]at HE;rw[<-hM,<-hN0]at HM;rw[<-hN0]at z0;rw[<-hp0]at z9;have hgl:g<wr.heap.size:=Nat.lt_of_lt_of_le hg (Nat.le_trans hB HB.out.size);clear rt hQ hM hN0 hp0 HG HGr HZ zn zt;dsimp only[r8]at HE;have HBr:=hid (Below.refl wr.heap.size wr)
   go_wp2_with(first|(go_at_call 34;refine(HM.out _).mono ?_;rintro e wz ⟨rfl,rfl⟩)|(go_at_call 35;refine(HE.out _ HBr.out).mono ?_;rintro e wy ⟨rfl,hby⟩))
   ·rename_i hM1 hq
    have hb2:=HB.out.trans (hby.mono HB.out.size);have hQ0:Q=false:=by simpa using hq
    go_ret;refine⟨?_,hb2⟩;rw[HR2.out,Oy j hjs (by rw[HQ.out,hQ0,Bool.and_false])];rfl
   ·rename_i hM1 hq
    have hb2:=HB.out.trans (hby.mono HB.out.size);have hQ1:Q=true:=by simpa using hq
    refine⟨⟨j+1,by go_num,by omega,hb2,(hby.block _ hwl).trans HCb.out,fun i hi hij=> ?_⟩,?_⟩
    ·rcases Nat.lt_or_ge i j with h1|h1
     ·exact HO.out i hi h1
     ·obtain rfl:i=j:=by omega
      rw[HQ.out,hQ1]
      first|rfl|(simp_all)
    ·simp[intOf];omega
   ·rename_i hq
    have hM0:M=false:=by simpa using hq
    have hb2:=HB.out.trans (hby.mono HB.out.size);go_ret;refine⟨?_,hb2⟩;rw[HR2.out,Oy j hjs (by rw[HQ.out,hM0,Bool.false_and])];rfl
  ·have a0:decide ((j:Int)<(n:Int))=false:=by simp;omega
   clear HG HZ
   go_wp2_with fail
   go_ret;refine⟨?_,HB.out⟩;rw[HR2.out,z3A fun i hi=>HO.out i hi (by have:=HN.out;omega)];rfl
section
def RdZ(w:World)(R b:Nat)(v:Value)(L:List Tok)(k dp:Nat)(c q:Int):Prop:=
 w.heap[R]? =some (.cells #[v,.int .i64 k,.int .i64 dp,.int .i64 c,.int .i64 q] 81)/\w.ownsRow b 83 7 v L.length (tvs L)
section
variable {w w':World} {R b:Nat} {v:Value} {L:List Tok} {k dp:Nat} {c q:Int}
theorem RdZ.lt(h:RdZ w R b v L k dp c q):R<w.heap.size:=by
 rcases Nat.lt_or_ge R w.heap.size with h1|h1
 ·exact h1
 ·have:=h.1;rw[Array.getElem?_eq_none h1]at this;cases this
theorem RdZ.below(h:RdZ w R b v L k dp c q)(hb:Below w.heap.size w w'):RdZ w' R b v L k dp c q:=
 ⟨(hb.block R h.lt).trans h.1,Vz h.2 hb⟩
theorem RdZ.cells(h:RdZ w R b v L k dp c q):
  w.cell? ⟨R,0,none⟩=some v/\w.cell? ⟨R,1,none⟩=some (.int .i64 k)/\w.cell? ⟨R,2,none⟩=some (.int .i64 dp)/\w.cell? ⟨R,3,none⟩=some (.int .i64 c)/\w.cell? ⟨R,4,none⟩=some (.int .i64 q)/\
  w.frozen? ⟨R,0,none⟩=false/\w.frozen? ⟨R,1,none⟩=false/\w.frozen? ⟨R,2,none⟩=false/\w.frozen? ⟨R,3,none⟩=false/\w.frozen? ⟨R,4,none⟩=false:=by
 have h1:=h.1;refine⟨?_,?_,?_,?_,?_,?_,?_,?_,?_,?_⟩<;>simp[World.cell?,World.frozen?,h1]
theorem RdZ.apart(h:RdZ w R b v L k dp c q):v.ownBlock≠some R:=by
 obtain⟨h1,_,⟨h2,_⟩|⟨g,cap,cur,rfl,_,hh,_⟩⟩:=h
 ·rw[h2];simp[Value.ownBlock]
 ·intro e
  simp[Value.ownBlock]at e;subst e;rw[h1]at hh;simp at hh
theorem RdZ.keeps(h:RdZ w R b v L k dp c q)(j:Nat)(u:Value):(w.setCell ⟨R,j,none⟩ u).ownsRow b 83 7 v L.length (tvs L):=
 h.2.kept (row:=some R) ⟨rfl,rfl,rfl,by simp,fun i hi hne=>Below.heap_setCell _ _ _ _ (fun e=>hne (by rw[e]))⟩ (.inr h.apart)
theorem RdZ.next1(h:RdZ w R b v L k dp c q):RdZ (w.setCell ⟨R,1,none⟩ (.int .i64 ((k:Int)+1))) R b v L (k+1) dp c q:=by
 refine⟨?_,h.keeps _ _⟩;simp only[World.setCell,Array.getElem?_modify,if_true];rw[h.1];simp
theorem RdZ.up(h:RdZ w R b v L k dp c q):RdZ (w.setCell ⟨R,2,none⟩ (.int .i64 ((dp:Int)+1))) R b v L k (dp+1) c q:=by
 refine⟨?_,h.keeps _ _⟩;simp only[World.setCell,Array.getElem?_modify,if_true];rw[h.1];simp
theorem RdZ.down(h:RdZ w R b v L k (dp+1) c q):RdZ (w.setCell ⟨R,2,none⟩ (.int .i64 dp)) R b v L k dp c q:=by
 refine⟨?_,h.keeps _ _⟩;simp only[World.setCell,Array.getElem?_modify,if_true];rw[h.1];simp
theorem RdZ.err(h:RdZ w R b v L k dp c q)(c':Int):RdZ (w.setCell ⟨R,3,none⟩ (.int .i64 c')) R b v L k dp c' q:=by
 refine⟨?_,h.keeps _ _⟩;simp only[World.setCell,Array.getElem?_modify,if_true];rw[h.1];simp
theorem RdZ.bad(h:RdZ w R b v L k dp c q)(q':Int):RdZ (w.setCell ⟨R,4,none⟩ (.int .i64 q')) R b v L k dp c q':=by
 refine⟨?_,h.keeps _ _⟩;simp only[World.setCell,Array.getElem?_modify,if_true];rw[h.1];simp
theorem RdZ.other{g j:Nat}{u:Value}(h:RdZ w R b v L k dp c q)(hg:g≠R)(hv:v.ownBlock≠some g):RdZ (w.setCell ⟨g,j,none⟩ u) R b v L k dp c q:=
 ⟨(Below.heap_setCell _ _ _ _ (fun e=>hg e.symm)).trans h.1,h.2.kept (row:=some g) ⟨rfl,rfl,rfl,by simp,fun i hi hne=>Below.heap_setCell _ _ _ _ (fun e=>hne (by rw[e]))⟩ (.inr hv)⟩
theorem RdZ.alloc(h:RdZ w R b v L k dp c q)(o:Obj):RdZ (w.alloc o) R b v L k dp c q:=h.below (B0q.alloc L0q _)
end
def nT(L:List Tok)(k:Nat)(c:Int):Tok:=if c=0 then gL L k else(6,{data:=#[]},0,0)
theorem Dl(R b:Nat)(v:Value)(L:List Tok)(k dp:Nat)(c q:Int)(w:World)(h:RdZ w R b v L k dp c q)(hk:k<L.length)(hl:L.length<=10000):
  Calls prog 64 #[.pointer (some ⟨R,0,none⟩)] w fun e w'=>e=.returned (tkv (nT L k c))/\Below w.heap.size w w':=by
 by_cases hc:c=0
 ·subst hc
  unfold nT;rw[if_pos rfl,Xw hk];obtain⟨g,cap,rfl⟩:=Xl h.2 (by omega);have hcap:=Fb h.2;have z:=Db h.2 k hk rfl;obtain⟨t,ht⟩:∃t,t=L[k]:=⟨_,rfl⟩;rw[<-ht]at z ⊢;obtain⟨n,hn⟩:∃n,n=L.length:=⟨_,rfl⟩;rw[<-hn]at h hk hl;have hg:g<w.heap.size:=(h.2.lt g rfl).2;obtain⟨r0,r1,r2,r3,r4,q0,q1,q2,q3,q4⟩:=h.cells;have hR:=h.lt;clear h ht;obtain⟨kd,T,C,p⟩:=t;obtain⟨p0,p1,p2,p3,p4,p5,p6⟩:=z;have hkI:(k:Int)<(n:Int):=by omega
  clear hn;go_enter func64,ntmps64
  go_wp2
  go_region
  go_wp2
  (try simp only[Exit.inBlock,Exit.then])
  refine bodyPost_ret (v:=tkv (kd,T,C,p)) (by simp[results,Tryz.results64,go_sem]) rfl ?_;exact⟨rfl,by first|exact(B0q.alloc L0q _).drew|exact B0q.drew.alloc L0q _|exact(B0q.alloc L0q _)⟩
 ·unfold nT
  rw[if_neg hc];have t0:(c != 0)=true:=by simpa using hc
  obtain⟨r0,r1,r2,r3,r4,q0,q1,q2,q3,q4⟩:=h.cells;have hR:=h.lt;clear h hc;go_enter func64,ntmps64
  go_wp2
  (try simp only[Exit.inBlock,Exit.then])
  refine bodyPost_ret (v:=tkv (6,{data:=#[]},0,0)) (by simp[results,Tryz.results64,go_sem];refine⟨?_,?_,?_,?_⟩<;>decide) rfl ?_;exact⟨rfl,by first|exact(B0q.alloc L0q _).drew|exact B0q.drew.alloc L0q _|exact(B0q.alloc L0q _)⟩
theorem z0b(R b:Nat)(v:Value)(L:List Tok)(k dp:Nat)(c':Int)(w:World)(h:RdZ w R b v L k dp 0 0)(hk:k<L.length)(hl:L.length<=10000):
  Calls prog 42 #[.pointer (some ⟨R,0,none⟩),.int .i64 c'] w fun e w'=>e=.returned (.tuple #[])/\Hid (∃q',RdZ w' R b v L k dp c' q')/\Hid (w.grownBy w' (some R)):=by
 have HR:Hid (RdZ w R b v L k dp 0 0):=h;have HR1:Hid (RdZ (w.setCell ⟨R,3,none⟩ (.int .i64 c')) R b v L k dp c' 0):=h.err c';obtain⟨g,cap,rfl⟩:=Xl h.2 (by omega);have hcap:=Fb h.2;have z:=Db HR.out.2 k hk rfl;obtain⟨t,ht⟩:∃t,t=L[k]:=⟨_,rfl⟩;rw[<-ht]at z;obtain⟨r0,r1,r2,r3,r4,q0,q1,q2,q3,q4⟩:=h.cells;obtain⟨n,hn⟩:∃n,n=L.length:=⟨_,rfl⟩;rw[<-hn]at hk hl r0;have hR:=h.lt;have hg:g<w.heap.size:=(h.2.lt g rfl).2;have hgR:g≠R:=fun e=>h.apart (by simp[Value.ownBlock,e])
 clear h ht;obtain⟨kd,T,C,p⟩:=t;obtain⟨p0,p1,p2,p3,p4,p5,p6⟩:=z;have hkI:(k:Int)<(n:Int):=by omega
 clear hn p0 p1 p2 p3 p4 p5;go_enter func42,ntmps42
 go_wp2
 go_region
 go_wp2
 (try simp only[Exit.inBlock,Exit.then])
 first|refine bodyPost_end (results_none rfl _ _ _) rfl ?_ |refine bodyPost_ret (results_none rfl _ _ _) rfl ?_
 have h2:=HR1.out.bad (p:Int);exact⟨rfl,⟨p,by first|exact h2|exact h2.below B0q.drew⟩,by first|exact G.setR (G.setR (G.refl w R))|exact G.to (G.setR (G.setR (G.refl w R))) B0q.drew⟩
theorem y0v(R b:Nat)(v:Value)(L:List Tok)(k dp:Nat)(c q c':Int)(w:World)(h:RdZ w R b v L k dp c q)(hc:c≠0):
  Calls prog 42 #[.pointer (some ⟨R,0,none⟩),.int .i64 c'] w fun e w'=>e=.returned (.tuple #[])/\w'=w:=by
 have t0:(c == 0)=false:=by simpa using hc
 obtain⟨r0,r1,r2,r3,r4,q0,q1,q2,q3,q4⟩:=h.cells;have hR:=h.lt;clear h hc;go_enter func42,ntmps42
 go_wp2
 (try simp only[Exit.inBlock,Exit.then])
 first|refine bodyPost_end (results_none rfl _ _ _) rfl ?_ |refine bodyPost_ret (results_none rfl _ _ _) rfl ?_
 exact⟨rfl,rfl⟩
theorem Oh(R b:Nat)(v:Value)(L:List Tok)(k dp:Nat)(w:World)(h:RdZ w R b v L k dp 0 0)(hk:k<L.length)(hl:L.length<=10000):
  Calls prog 65 #[.pointer (some ⟨R,0,none⟩)] w fun e w'=>e=.returned (.tuple #[])/\Hid (∃c' q',c'≠0/\RdZ w' R b v L k dp c' q')/\Hid (w.grownBy w' (some R)):=by
 have HT:=hid (Dl R b v L k dp 0 0 w h hk hl);have HS:=hid (fun(W:World) (c':Int) (h:RdZ W R b v L k dp 0 0)=>z0b R b v L k dp c' W h hk hl);have HR:=hid h;obtain⟨t,ht⟩:∃t,t=nT L k 0:=⟨_,rfl⟩;rw[<-ht]at HT;clear ht h;obtain⟨kd,T,C,p⟩:=t;have fd0:=Tryz.fld0;go_enter func65,ntmps65
 go_wp2_with fail
 refine HT.out.mono ?_;rintro e w1 ⟨rfl,hb1⟩;have HR1:=hid (HR.out.below hb1);have HG1:Hid (w.grownBy w1 (some R)):=G.below hb1;clear hb1 HT HR;dsimp only[tkv];by_cases h6:kd=6
 ·have t6:((kd:Int) == 6)=true:=by simp;omega
  clear h6
  go_wp2_with fail
  refine(HS.out _ _ (HR1.out.alloc _)).mono ?_;rintro e w2 ⟨rfl,hq2,hg2⟩;have HG2:Hid (w.grownBy w2 (some R)):=G.trans (G.trans HG1.out (G.alloc (G.refl _ R))) hg2.out;clear hg2 HR1 HG1 HS
  go_wp2_with fail
  (try simp only[Exit.inBlock,Exit.then])
  first|refine bodyPost_end (results_none rfl _ _ _) rfl ?_ |refine bodyPost_ret (results_none rfl _ _ _) rfl ?_
  obtain⟨q',hq'⟩:=hq2.out;exact⟨rfl,⟨_,q',by decide,hq'⟩,HG2⟩
 ·have t6:((kd:Int) == 6)=false:=by simp;omega
  clear h6
  go_wp2_with fail
  refine(HS.out _ _ (HR1.out.alloc _)).mono ?_;rintro e w2 ⟨rfl,hq2,hg2⟩;have HG2:Hid (w.grownBy w2 (some R)):=G.trans (G.trans HG1.out (G.alloc (G.refl _ R))) hg2.out;clear hg2 HR1 HG1 HS
  go_wp2_with fail
  (try simp only[Exit.inBlock,Exit.then])
  first|refine bodyPost_end (results_none rfl _ _ _) rfl ?_ |refine bodyPost_ret (results_none rfl _ _ _) rfl ?_
  obtain⟨q',hq'⟩:=hq2.out;exact⟨rfl,⟨_,q',by decide,hq'⟩,HG2⟩
theorem z0c(R b:Nat)(v:Value)(L:List Tok)(k dp:Nat)(c q:Int)(w:World)(h:RdZ w R b v L k dp c q)(hc:c≠0)(hk:k<L.length)(hl:L.length<=10000):
  Calls prog 65 #[.pointer (some ⟨R,0,none⟩)] w fun e w'=>e=.returned (.tuple #[])/\Below w.heap.size w w':=by
 have HT:=hid (Dl R b v L k dp c q w h hk hl);have HS:=hid (fun(W:World) (c':Int) (h:RdZ W R b v L k dp c q)=>y0v R b v L k dp c q c' W h hc);have HR:=hid h;unfold nT at HT;rw[if_neg hc]at HT;clear h hc;have fd0:=Tryz.fld0;go_enter func65,ntmps65
 go_wp2_with fail
 refine HT.out.mono ?_;rintro e w1 ⟨rfl,hb1⟩;have HR1:=hid (HR.out.below hb1);have HB1:=hid hb1;clear hb1 HT HR;dsimp only[tkv]
 go_wp2_with fail
 refine(HS.out _ _ (HR1.out.alloc _)).mono ?_;rintro e w2 ⟨rfl,rfl⟩;clear HR1 HS
 go_wp2_with fail
 (try simp only[Exit.inBlock,Exit.then])
 first|refine bodyPost_end (results_none rfl _ _ _) rfl ?_ |refine bodyPost_ret (results_none rfl _ _ _) rfl ?_
 exact⟨rfl,HB1.out.alloc HB1.out.size _⟩
theorem Yd(R b:Nat)(v:Value)(L:List Tok)(k dp:Nat)(w:World)(h:RdZ w R b v L k dp 0 0)(hk:k<L.length)(hl:L.length<=10000)(h6:(gL L k).1≠6):
  Calls prog 66 #[.pointer (some ⟨R,0,none⟩)] w fun e w'=>e=.returned (.tuple #[])/\RdZ w' R b v L (k+1) dp 0 0/\w.grownBy w' (some R):=by
 have HR:=hid h;have HN:=hid h.next1;rw[Xw hk]at h6;obtain⟨g,cap,rfl⟩:=Xl h.2 (by omega);have hcap:=Fb h.2;have z:=Db h.2 k hk rfl;obtain⟨t,ht⟩:∃t,t=L[k]:=⟨_,rfl⟩;rw[<-ht]at z h6;obtain⟨r0,r1,r2,r3,r4,q0,q1,q2,q3,q4⟩:=h.cells;obtain⟨n,hn⟩:∃n,n=L.length:=⟨_,rfl⟩;rw[<-hn]at hk hl r0;have hR:=h.lt;have hg:g<w.heap.size:=(h.2.lt g rfl).2;have hgR:g≠R:=fun e=>h.apart (by simp[Value.ownBlock,e])
 clear h ht;obtain⟨kd,T,C,p⟩:=t;obtain⟨p0,p1,p2,p3,p4,p5,p6⟩:=z;have hkI:(k:Int)<(n:Int):=by omega
 have t6:((kd:Int) != 6)=true:=by simp only at h6;rw[bne_iff_ne];omega
 clear hn p1 p2 p3 p4 p5 p6 h6;go_enter func66,ntmps66
 go_wp2
 go_region
 go_wp2
 (try simp only[Exit.inBlock,Exit.then])
 first|refine bodyPost_end (results_none rfl _ _ _) rfl ?_ |refine bodyPost_ret (results_none rfl _ _ _) rfl ?_
 exact⟨rfl,by first|exact HN.out|exact HN.out.below B0q.drew,by first|exact G.setR (G.refl w R)|exact G.setR (G.to (G.refl w R) B0q.drew)⟩
theorem Bz(R b:Nat)(v:Value)(L:List Tok)(k dp:Nat)(c q:Int)(w:World)(h:RdZ w R b v L k dp c q)(hc:c≠0):
  Calls prog 66 #[.pointer (some ⟨R,0,none⟩)] w fun e w'=>e=.returned (.tuple #[])/\Below w.heap.size w w':=by
 have t0:(c == 0)=false:=by simpa using hc
 obtain⟨r0,r1,r2,r3,r4,q0,q1,q2,q3,q4⟩:=h.cells;have hR:=h.lt;clear h hc;go_enter func66,ntmps66
 go_wp2
 (try go_region)
 (try go_wp2)
 (try simp only[Exit.inBlock,Exit.then])
 first|refine bodyPost_end (results_none rfl _ _ _) rfl ?_ |refine bodyPost_ret (results_none rfl _ _ _) rfl ?_
 exact⟨rfl,by first|exact Below.refl _ _|exact B0q.drew⟩
def sgB(t:Tok)(x:UInt8):Bool:=decide (sgT t={data:=#[x]})
theorem z3U(p:Nat)(x:UInt8):sgB (6,{data:=#[]},0,p) x=false:=by
 unfold sgB sgT;rw[if_neg (by show ¬(6:Nat)=5;decide)];exact decide_eq_false (fun e=>absurd (congrArg (fun a:ByteArray=>a.data.size) e) (by simp))
theorem Mh(R b:Nat)(v:Value)(L:List Tok)(k dp:Nat)(c q:Int)(w:World)(x:UInt8)(h:RdZ w R b v L k dp c q)(hk:k<L.length)(hl:L.length<=10000):
  Calls prog 94 #[.pointer (some ⟨R,0,none⟩),.string {data:=#[x]}] w fun e w'=>e=.returned (.bool (sgB (nT L k c) x))/\Below w.heap.size w w':=by
 have HT:=hid (Dl R b v L k dp c q w h hk hl);obtain⟨t,ht⟩:∃t,t=nT L k c:=⟨_,rfl⟩;rw[<-ht]at HT ⊢;clear ht h;obtain⟨kd,T,C,p⟩:=t;have fd0:=Tryz.fld0;have fd1:=Tryz.fld1;unfold sgB sgT;simp only;by_cases h5:kd=5
 ·have t5:((kd:Int) == 5)=true:=by simp;omega
  rw[if_pos h5];clear h5;by_cases hT:T={data:=#[x]}
  ·have e1:(T.toList == [x])=true:=by rw[hT,ByteArray.toList_eq];simp
   rw[decide_eq_true hT];clear hT;go_enter func94,ntmps94
   go_wp2_with fail
   refine HT.out.mono ?_;rintro e w1 ⟨rfl,hb1⟩;have HB1:=hid hb1;clear hb1 HT;dsimp only[tkv]
   go_wp2_with fail
   go_ret;exact⟨rfl,by first|exact HB1.out.alloc HB1.out.size _|exact(HB1.out.alloc HB1.out.size _).drew⟩
  ·have e1:(T.toList == [x])=false:=Jw hT
   rw[decide_eq_false hT];clear hT;go_enter func94,ntmps94
   go_wp2_with fail
   refine HT.out.mono ?_;rintro e w1 ⟨rfl,hb1⟩;have HB1:=hid hb1;clear hb1 HT;dsimp only[tkv]
   go_wp2_with fail
   go_ret;exact⟨rfl,by first|exact HB1.out.alloc HB1.out.size _|exact(HB1.out.alloc HB1.out.size _).drew⟩
 ·have t5:((kd:Int) == 5)=false:=by simp;omega
  rw[if_neg h5,decide_eq_false (fun e=>absurd (congrArg (fun a:ByteArray=>a.data.size) e) (by simp))];clear h5;go_enter func94,ntmps94
  go_wp2_with fail
  refine HT.out.mono ?_;rintro e w1 ⟨rfl,hb1⟩;have HB1:=hid hb1;clear hb1 HT;dsimp only[tkv]
  go_wp2_with fail
  go_ret;exact⟨rfl,by first|exact HB1.out.alloc HB1.out.size _|exact(HB1.out.alloc HB1.out.size _).drew⟩
theorem z0d{L:List Tok}{k:Nat}(hk:k<L.length)(hK:k+1<L.length)(h1:(gL L k).1=1):hdB L k=((gL L (k+1)).1 == 2):=by
 rw[Xw hk]at h1;rw[Xw hK];unfold hdB;rw[List.getElem?_eq_getElem hk,List.getElem?_eq_getElem hK];simp[h1]
theorem y0w(R b:Nat)(v:Value)(L:List Tok)(k dp:Nat)(w:World)(h:RdZ w R b v L k dp 0 0)(hk:k<L.length)(hK:k+1<L.length)(hl:L.length<=10000)(h1:(gL L k).1=1):
  Calls prog 111 #[.pointer (some ⟨R,0,none⟩)] w fun e w'=>e=.returned (.bool (!hdB L k))/\Below w.heap.size w w':=by
 have HT:=hid (Dl R b v L k dp 0 0 w h hk hl);have HF:=hid (z0d hk hK h1);have HR:=hid h;obtain⟨g,cap,rfl⟩:=Xl h.2 (by omega);have hcap:=Fb h.2;have HC2:Hid (∀w':World,RdZ w' R b (.slice (some ⟨g,0,none⟩) L.length cap) L k dp 0 0->w'.cell? ⟨g,(k+1)*7,none⟩=some (.int .i64 ((gL L (k+1)).1:Int))):=fun w' h'=>by rw[Xw hK];exact(Db h'.2 (k+1) hK rfl).1
 obtain⟨kd2,hkd2⟩:∃q,q=(gL L (k+1)).1:=⟨_,rfl⟩;rw[<-hkd2]at HC2 HF;obtain⟨K,hKd⟩:∃K,K=k+1:=⟨_,rfl⟩;rw[<-hKd]at HC2;have e0:nT L k 0=gL L k:=if_pos rfl;rw[e0]at HT;obtain⟨t,ht⟩:∃t,t=gL L k:=⟨_,rfl⟩;rw[<-ht]at HT h1;have hKI:(k:Int)+1=(K:Int):=by omega
 have hwK:IntKind.i64.wrap (K:Int)=(K:Int):=by rw[IntKind.wrap_i64];omega
 have hKl:(K:Int)<(L.length:Int):=by omega
 obtain⟨n,hn⟩:∃n,n=L.length:=⟨_,rfl⟩;rw[<-hn]at HR HC2 hKl hl;clear h hk hK hkd2 ht hn hKd e0;obtain⟨kd,T,C,p⟩:=t;have h1':kd=1:=h1;subst h1';clear h1;have fd0:=Tryz.fld0;cases h2:(kd2 == 2)
 ·have t2:((kd2:Int) != 2)=true:=by rw[bne_iff_ne];simp at h2;omega
  rw[h2]at HF;clear h2;go_enter func111,ntmps111
  go_wp2_with fail
  refine HT.out.mono ?_;rintro e w1 ⟨rfl,hb1⟩;have HR1:=hid ((HR.out.below hb1).alloc (.cells #[.int .i64 1,.string T,.int .u64 (wd C 0),.int .u64 (wd C 1),.int .u64 (wd C 2),.int .u64 (wd C 3),.int .i64 p] 83));have HB1:=hid (hb1.alloc hb1.size (.cells #[.int .i64 1,.string T,.int .u64 (wd C 0),.int .u64 (wd C 1),.int .u64 (wd C 2),.int .u64 (wd C 3),.int .i64 p] 83));clear hb1 HT HR;dsimp only[tkv];obtain⟨W1,hW1⟩:∃W1,W1=w1.alloc (.cells #[.int .i64 1,.string T,.int .u64 (wd C 0),.int .u64 (wd C 1),.int .u64 (wd C 2),.int .u64 (wd C 3),.int .i64 p] 83):=⟨_,rfl⟩;rw[<-hW1]at HR1 HB1;obtain⟨r0,r1,r2,r3,r4,q0,q1,q2,q3,q4⟩:=HR1.out.cells;have p0:=HC2.out _ HR1.out;have hR:=HR1.out.lt;have HW1:=hid hW1;clear hW1 HC2 HR1
  go_wp2_with fail
  rw[<-HW1.out]
  go_region
  go_wp2
  go_ret;rw[HF.out];exact⟨rfl,by first|exact HB1.out|exact HB1.out.drew⟩
 ·have t2:((kd2:Int) != 2)=false:=by simp at h2 ⊢;omega
  rw[h2]at HF;clear h2;go_enter func111,ntmps111
  go_wp2_with fail
  refine HT.out.mono ?_;rintro e w1 ⟨rfl,hb1⟩;have HR1:=hid ((HR.out.below hb1).alloc (.cells #[.int .i64 1,.string T,.int .u64 (wd C 0),.int .u64 (wd C 1),.int .u64 (wd C 2),.int .u64 (wd C 3),.int .i64 p] 83));have HB1:=hid (hb1.alloc hb1.size (.cells #[.int .i64 1,.string T,.int .u64 (wd C 0),.int .u64 (wd C 1),.int .u64 (wd C 2),.int .u64 (wd C 3),.int .i64 p] 83));clear hb1 HT HR;dsimp only[tkv];obtain⟨W1,hW1⟩:∃W1,W1=w1.alloc (.cells #[.int .i64 1,.string T,.int .u64 (wd C 0),.int .u64 (wd C 1),.int .u64 (wd C 2),.int .u64 (wd C 3),.int .i64 p] 83):=⟨_,rfl⟩;rw[<-hW1]at HR1 HB1;obtain⟨r0,r1,r2,r3,r4,q0,q1,q2,q3,q4⟩:=HR1.out.cells;have p0:=HC2.out _ HR1.out;have hR:=HR1.out.lt;have HW1:=hid hW1;clear hW1 HC2 HR1
  go_wp2_with fail
  rw[<-HW1.out]
  go_region
  go_wp2
  go_ret;rw[HF.out];exact⟨rfl,by first|exact HB1.out|exact HB1.out.drew⟩
theorem Od(T:ByteArray)(x:UInt8):(T.toList == [x])=decide (T={data:=#[x]}):=by
 by_cases h:T={data:=#[x]}
 ·rw[decide_eq_true h,h,ByteArray.toList_eq];simp
 ·rw[decide_eq_false h];exact Jw h
def ptC(t:Tok):Bool:=if t.1=3∨t.1=4 then true else if t.1=5 then(decide (t.2.1={data:=#[38]})||decide (t.2.1={data:=#[33]})||decide (t.2.1={data:=#[40]})||decide (t.2.1={data:=#[46]}))else false
theorem z3V(R b:Nat)(v:Value)(L:List Tok)(k dp:Nat)(c q:Int)(w:World)(h:RdZ w R b v L k dp c q)(hk:k<L.length)(hl:L.length<=10000)(h1:(nT L k c).1≠1):
  Calls prog 111 #[.pointer (some ⟨R,0,none⟩)] w fun e w'=>e=.returned (.bool (ptC (nT L k c)))/\Below w.heap.size w w':=by
 have HT:=hid (Dl R b v L k dp c q w h hk hl);obtain⟨t,ht⟩:∃t,t=nT L k c:=⟨_,rfl⟩;rw[<-ht]at HT h1 ⊢;clear ht h;obtain⟨kd,T,C,p⟩:=t;have h1':kd≠1:=h1;have fd0:=Tryz.fld0;have fd1:=Tryz.fld1;have t1:((kd:Int) == 1)=false:=by simp;omega
 clear h1;unfold ptC;simp only;by_cases h3:kd=3
 ·have t3:((kd:Int) == 3)=true:=by simp;omega
  rw[if_pos (.inl h3)];clear h3 h1';go_enter func111,ntmps111
  go_wp2_with fail
  refine HT.out.mono ?_;rintro e w1 ⟨rfl,hb1⟩;have HB1:=hid hb1;clear hb1 HT;dsimp only[tkv]
  go_wp2_with fail
  go_ret;exact⟨rfl,by first|exact HB1.out.alloc HB1.out.size _|exact(HB1.out.alloc HB1.out.size _).drew⟩
 have t3:((kd:Int) == 3)=false:=by simp;omega
 by_cases h4:kd=4
 ·have t4:((kd:Int) == 4)=true:=by simp;omega
  rw[if_pos (.inr h4)];clear h3 h4 h1';go_enter func111,ntmps111
  go_wp2_with fail
  refine HT.out.mono ?_;rintro e w1 ⟨rfl,hb1⟩;have HB1:=hid hb1;clear hb1 HT;dsimp only[tkv]
  go_wp2_with fail
  go_ret;exact⟨rfl,by first|exact HB1.out.alloc HB1.out.size _|exact(HB1.out.alloc HB1.out.size _).drew⟩
 have t4:((kd:Int) == 4)=false:=by simp;omega
 rw[if_neg (by omega)];by_cases h5:kd=5
 ·have t5:((kd:Int) == 5)=true:=by simp;omega
  rw[if_pos h5];clear h3 h4 h5 h1';obtain⟨b1,hb1⟩:∃x,x=decide (T={data:=#[38]}):=⟨_,rfl⟩;obtain⟨b2,hb2⟩:∃x,x=decide (T={data:=#[33]}):=⟨_,rfl⟩;obtain⟨b3,hb3⟩:∃x,x=decide (T={data:=#[40]}):=⟨_,rfl⟩;obtain⟨b4,hb4⟩:∃x,x=decide (T={data:=#[46]}):=⟨_,rfl⟩;rw[<-hb1,<-hb2,<-hb3,<-hb4];have e1:(T.toList == [38])=b1:=by rw[hb1];exact Od T 38
  have e2:(T.toList == [33])=b2:=by rw[hb2];exact Od T 33
  have e3:(T.toList == [40])=b3:=by rw[hb3];exact Od T 40
  have e4:(T.toList == [46])=b4:=by rw[hb4];exact Od T 46
  clear hb1 hb2 hb3 hb4;cases b1
  ·cases b2
   ·cases b3
    ·cases b4
     ·go_enter func111,ntmps111
      go_wp2_with fail
      refine HT.out.mono ?_;rintro e w1 ⟨rfl,hb1⟩;have HB1:=hid hb1;clear hb1 HT;dsimp only[tkv]
      go_wp2_with fail
      go_ret;exact⟨rfl,by first|exact HB1.out.alloc HB1.out.size _|exact(HB1.out.alloc HB1.out.size _).drew⟩
     ·go_enter func111,ntmps111
      go_wp2_with fail
      refine HT.out.mono ?_;rintro e w1 ⟨rfl,hb1⟩;have HB1:=hid hb1;clear hb1 HT;dsimp only[tkv]
      go_wp2_with fail
      go_ret;exact⟨rfl,by first|exact HB1.out.alloc HB1.out.size _|exact(HB1.out.alloc HB1.out.size _).drew⟩
    ·go_enter func111,ntmps111
     go_wp2_with fail
     refine HT.out.mono ?_;rintro e w1 ⟨rfl,hb1⟩;have HB1:=hid hb1;clear hb1 HT;dsimp only[tkv]
     go_wp2_with fail
     go_ret;exact⟨rfl,by first|exact HB1.out.alloc HB1.out.size _|exact(HB1.out.alloc HB1.out.size _).drew⟩
   ·go_enter func111,ntmps111
    go_wp2_with fail
    refine HT.out.mono ?_;rintro e w1 ⟨rfl,hb1⟩;have HB1:=hid hb1;clear hb1 HT;dsimp only[tkv]
    go_wp2_with fail
    go_ret;exact⟨rfl,by first|exact HB1.out.alloc HB1.out.size _|exact(HB1.out.alloc HB1.out.size _).drew⟩
  ·go_enter func111,ntmps111
   go_wp2_with fail
   refine HT.out.mono ?_;rintro e w1 ⟨rfl,hb1⟩;have HB1:=hid hb1;clear hb1 HT;dsimp only[tkv]
   go_wp2_with fail
   go_ret;exact⟨rfl,by first|exact HB1.out.alloc HB1.out.size _|exact(HB1.out.alloc HB1.out.size _).drew⟩
 ·have t5:((kd:Int) == 5)=false:=by simp;omega
  rw[if_neg h5];clear h3 h4 h5 h1';go_enter func111,ntmps111
  go_wp2_with fail
  refine HT.out.mono ?_;rintro e w1 ⟨rfl,hb1⟩;have HB1:=hid hb1;clear hb1 HT;dsimp only[tkv]
  go_wp2_with fail
  go_ret;exact⟨rfl,by first|exact HB1.out.alloc HB1.out.size _|exact(HB1.out.alloc HB1.out.size _).drew⟩
theorem y0x{L:List Tok}(hg:Qv L){k:Nat}(h1:(gL L k).1≠1):ptB L k (gL L k)=ptC (gL L k):=by
 unfold ptB ptC;rw[if_neg h1];split
 ·rfl
 ·split
  ·rename_i h5
   obtain⟨x,hx,e⟩:=hg.sgn k h5;rw[e,z1z x hx];show bgB x=_;have hh:∀y:UInt8,decide (nb [x]={data:=#[y]})=(x == y.toNat):=fun y=>by
    have e1:nb [x]={data:=#[UInt8.ofNat x]}:=rfl;rw[e1];by_cases hxy:x=y.toNat
    ·rw[decide_eq_true (by rw[hxy];simp),hxy];simp
    ·rw[decide_eq_false (fun e2=>hxy ?_)]
     ·simp[hxy]
     ·have:=congrArg (fun a:ByteArray=>a.data[0]?) e2
      simp at this;rw[<-this];simp;omega
   rw[hh,hh,hh,hh];unfold bgB;show _=(x == 38||x == 33||x == 40||x == 46);cases(x == 38)<;>cases(x == 33)<;>cases(x == 40)<;>cases(x == 46)<;>rfl
  ·rfl
theorem y0y(R b:Nat)(v:Value)(L:List Tok)(k dp:Nat)(w:World)(h:RdZ w R b v L k dp 0 0)(hk:k<L.length)(hg:Qv L):
  Calls prog 111 #[.pointer (some ⟨R,0,none⟩)] w fun e w'=>e=.returned (.bool (ptB L k (gL L k)))/\Below w.heap.size w w':=by
 by_cases h1:(gL L k).1=1
 ·have e:ptB L k (gL L k)= !hdB L k:=by unfold ptB;rw[if_pos h1]
  rw[e];exact y0w R b v L k dp w h hk (hg.nxt k hk (by rw[h1];decide)) hg.len h1
 ·have e0:nT L k 0=gL L k:=if_pos rfl
  have:=z3V R b v L k dp 0 0 w h hk hg.len (by rw[e0];exact h1);rw[e0]at this;rw[y0x hg h1];exact this
theorem y0z(R b:Nat)(v:Value)(L:List Tok)(k dp:Nat)(c q:Int)(w:World)(h:RdZ w R b v L k dp c q)(hc:c≠0)(hk:k<L.length)(hg:Qv L):
  Calls prog 111 #[.pointer (some ⟨R,0,none⟩)] w fun e w'=>e=.returned (.bool false)/\Below w.heap.size w w':=by
 have e0:nT L k c=(6,{data:=#[]},0,0):=if_neg hc;have:=z3V R b v L k dp c q w h hk hg.len (by rw[e0];show(6:Nat)≠1;decide);rw[e0]at this;exact this
theorem Uw(R b:Nat)(v:Value)(L:List Tok)(k dp:Nat)(w:World)(x:UInt8)(h:RdZ w R b v L k dp 0 0)(hk:k<L.length)(hg:Qv L):
  Calls prog 94 #[.pointer (some ⟨R,0,none⟩),.string {data:=#[x]}] w fun e w'=>e=.returned (.bool (sgB (gL L k) x))/\Below w.heap.size w w':=by
 have:=Mh R b v L k dp 0 0 w x h hk hg.len;rw[show nT L k 0=gL L k from if_pos rfl]at this;exact this
theorem y0A(R b:Nat)(v:Value)(L:List Tok)(k dp:Nat)(c q:Int)(w:World)(x:UInt8)(h:RdZ w R b v L k dp c q)(hc:c≠0)(hk:k<L.length)(hg:Qv L):
  Calls prog 94 #[.pointer (some ⟨R,0,none⟩),.string {data:=#[x]}] w fun e w'=>e=.returned (.bool false)/\Below w.heap.size w w':=by
 have:=Mh R b v L k dp c q w x h hk hg.len;rw[show nT L k c=(6,{data:=#[]},0,0)from if_neg hc,z3U]at this;exact this
end
end Go.Proofs.YtikfnaffiehpaaaGreatDoor
