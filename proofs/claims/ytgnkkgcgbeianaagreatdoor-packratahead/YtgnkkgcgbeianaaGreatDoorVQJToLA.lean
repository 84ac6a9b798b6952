/- Lemmas for the last text. Conditions: those that each names. -/
import Derived.Test.YtgnkkgcgbeianaaGreatDoorVQI
import Derived.Test.YtgnkkgcgbeianaaGreatDoorVPR1ToT11
import Derived.Test.YtgnkkgcgbeianaaGreatDoorVPEToPF
set_option linter.unusedVariables false
set_option maxRecDepth 100000
set_option maxHeartbeats 32000000
namespace Go.Proofs.YtgnkkgcgbeianaaGreatDoor
open Go.Proofs.Tryz
open Go.RowKit Go.Shelf Go.Maps
variable {q:Nat}
theorem y7C{a b c d:Int}(h:zc a b c d=true):a=0/\b=0/\c=0/\d=0:=by
 unfold zc at h;simp only[Bool.and_eq_true,beq_iff_eq]at h;exact h
theorem z7W{ix:ByteArray->Int}{ops:List Ox}:∀{s:List RT} {l:List Int},DnL ix ops s l->l.length=s.length/\∀j (o:j<l.length) (y:j<s.length),Dn ix ops s[j] l[j]
 |[],l,h=>by rw[DnL]at h;subst h;exact⟨rfl,fun j o=>by simp at o⟩
 |t::r,l,h=>by
  rw[DnL]at h;obtain⟨n,l',rfl,A,D⟩:=h;obtain⟨E,G⟩:=z7W D;refine⟨by rw[List.length_cons,List.length_cons,E],fun j o y=> ?_⟩;cases j with
  |zero=>exact A
  |succ j=>exact G j (by simpa using o) (by simpa using y)
theorem z7X(rs:List Rr)(hl:rs.length<=64)(aa:∀x∈nmL rs,x.size<=32)(ops:List Ox)(ro:List Int)(oso nso rso:Option Addr)(y oc A nc D rc:Nat)(w0:World)(G:y=ops.length)(ab:A=rs.length)(h:PgM ops (nmL rs) ro oso nso rso w0):∀(Q:Nat) (t:RT) (k:Int) (w:World),SizeOf.sizeOf t<Q->Ptt rs t->Dn (fun T=>fdI T (nmL rs)) ops t k->Below w0.heap.size w0 w->
  Calls prog 65 #[.agg #[.slice oso y oc,.slice nso A nc,.slice rso D rc],.int .i64 k] w (CnA (stT t) w)
 |0,t,k,w,h',_,_,_=>by omega
 |Q+1,.mk kd T a b c d s p,k,w,hQ,ht,hd,hb=>by
  have hw:=h.below hb;rw[Dn]at hd;obtain⟨k',rfl⟩:∃k':Nat,k=(k':Int):=⟨k.toNat,by omega⟩;rw[Int.toNat_natCast]at hd;rcases hd.2 with⟨rfl,I⟩|⟨h5,l,I,h2⟩
  ·obtain⟨E,U⟩:=List.getElem?_eq_some_iff.1 I
   have V:=ht.2.2.1 (T,p) (by rw[rfT,if_pos rfl];exact List.mem_singleton.2 rfl);have ac:=Fm T (nmL rs) V;have Y:=z5s (nmL rs) V;have hs:=ok5 ht.1;have r:=ht.1;rw[okT,Bool.and_eq_true]at r;have r:=r.1;unfold okN at r;simp only[show ¬((5:Int)=1∨(5:Int)=4) by decide,show ¬((5:Int)=2) by decide,show ¬((5:Int)=3) by decide,if_false,if_true,Bool.and_eq_true]at r;obtain⟨rfl,rfl,rfl,rfl⟩:=y7C r.2.1;subst hs;have hN:(nmL rs)[ixN T (nmL rs)]=T:=(List.getElem?_eq_some_iff.1 Y).2;have ah:ops[k']=(5,{data:=#[]},(0,0,0,0),[((ixN T (nmL rs):Nat):Int)]):=by
    rw[U];unfold fdI;rw[if_pos V]
   have:=y7y ops (nmL rs) ro oso nso rso y oc A nc D rc w G (by rw[ab,Um]) hw k' E {data:=#[]} 0 0 0 0 (ixN T (nmL rs)) ah ac (aa _ (List.getElem_mem ac));rw[hN]at this;exact this
  ·obtain⟨E,U⟩:=List.getElem?_eq_some_iff.1 I
   obtain⟨g,rfl,Y,so,ai,⟨c0,c1,c2,c3,c4,c5,c6⟩,ad,ae⟩:=hw.o k' E;rw[U]at c0 c1 c2 c3 c4 c5 c6 ad ae;obtain⟨af,aj⟩:=z7W h2;have ag:=ht.2.2.2;rw[TrK]at ag;rw[stT];refine y7B g nso rso y oc A nc D rc w k' kd T a b c d l so l.length ai (stL s) h5 (by rw[G];exact E) ag.1.2.1 Y c0 c1 c2 c3 c4 c5 c6 (hid rfl) ad (hid ae) (hid (by rw[z0R,af])) (hid fun j hj ak W hW=> ?_);have Z:j<s.length:=by rw[<-af];exact hj
   have e:(stL s)[j]=stT s[j]:=by
    have:=z7f s;simp only[this,List.getElem_map]
   rw[e];refine z7X rs hl aa ops ro (some ⟨g,0,none⟩) nso rso y oc A nc D rc w0 G ab h Q s[j] l[j] W ?_ (Lc _ _ _ _ _ _ _ _ ht _ (List.getElem_mem Z)) (aj j hj Z) (hb.trans (hW.mono hb.size));have:=List.sizeOf_lt_of_mem (List.getElem_mem Z);simp at hQ;omega
theorem z1e{W W':World}{p i:Nat}{y0 y1 y2 y3:Value}(h:W.cell? ⟨p,0,none⟩=some y0/\W.cell? ⟨p,1,none⟩=some y1/\W.cell? ⟨p,2,none⟩=some y2/\W.cell? ⟨q,i,none⟩=some y3)(r:Below W.heap.size W W'):W'.cell? ⟨p,0,none⟩=some y0/\W'.cell? ⟨p,1,none⟩=some y1/\W'.cell? ⟨p,2,none⟩=some y2/\W'.cell? ⟨q,i,none⟩=some y3:=by
 have k:∀{p:Addr} {u:Value},W.cell? p=some u->W'.cell? p=some u:=fun{p u} o=>(r.cell (p:=p) (World.block_lt_of_cell? W _ o)).trans o
 exact⟨k h.1,k h.2.1,k h.2.2.1,k h.2.2.2⟩
theorem y7D{W W':World}{p i:Nat}{row:Option Nat}{y0 y1 y2 y3:Value}(h:W.cell? ⟨p,0,none⟩=some y0/\W.cell? ⟨p,1,none⟩=some y1/\W.cell? ⟨p,2,none⟩=some y2/\W.cell? ⟨q,i,none⟩=some y3)(r:some p≠row)(t:some q≠row)(o:W.grownBy W' row):W'.cell? ⟨p,0,none⟩=some y0/\W'.cell? ⟨p,1,none⟩=some y1/\W'.cell? ⟨p,2,none⟩=some y2/\W'.cell? ⟨q,i,none⟩=some y3:=
 ⟨o.cell h.1 r,o.cell h.2.1 r,o.cell h.2.2.1 r,o.cell h.2.2.2 t⟩
theorem z7Y(rs:List Rr)(ops:List Ox)(ro:List Int)(oso nso rso:Option Addr)(ol oc o nc Y rc:Nat)(w:World)(ad:o=rs.length)(aj:Y=ro.length)(h:PgM ops (nmL rs) ro oso nso rso w)(hz:∀x∈nmL rs,x.size<=32)
  (HC:Hid (∀j (hj:j<ro.length) (bm:j<rs.length) (W:World),Below w.heap.size w W->Calls prog 65 #[.agg #[.slice oso ol oc,.slice nso o nc,.slice rso Y rc],.int .i64 ro[j]] W (CnA (stT rs[j].2.1) W))):
  Calls prog 37 #[.agg #[.slice oso ol oc,.slice nso o nc,.slice rso Y rc]] w fun e w'=>∃ak az,e=.returned (.agg #[.slice ak o az])/\Hid (Qf w' w'.heap.size ak o (stG rs))/\Hid (Below w.heap.size w w'):=by
 obtain⟨iT,aT,aU,aV,aW⟩:=info_parts Tryz.infoRl;obtain⟨pc,aA⟩:∃pc,pc=Obj.cells #[.slice oso ol oc,.slice nso o nc,.slice rso Y rc] 26:=⟨_,rfl⟩;obtain⟨A,aa⟩:∃A,A=(w.alloc pc).alloc (.cells #[.slice none 0 0] 43):=⟨_,rfl⟩;have aB:Below w.heap.size w A:=by rw[aa];exact((Below.refl _ w).alloc L0q _).alloc (by simp) _
 obtain⟨p,Z⟩:∃p,p=w.heap.size:=⟨_,rfl⟩;have ae:Hid (A.heap[p+1]? =some (.cells #[.slice none 0 0] 43)):=by rw[aa,Z];exact Qx _ _ (by simp)
 have af:Hid (A.heap[p]? =some pc):=by rw[aa,Z];exact(Below.heap_alloc _ _ _ (by simp)).trans (Qx w _ rfl)
 have al:(nmL rs).length=rs.length:=Um rs;have bn:o<=64:=by rw[ad,<-al];exact h.l6
 have aC:Y=o:=by rw[aj,h.lr,al,ad]
 have aX:=y4h o (by omega);have HM:=hid h;have aD:Hid (o=rs.length):=ad;have aY:Hid (Y=ro.length):=aj;have HZ:=hid hz;have am:=hid aB;have aE:=hid aa;have Hp:=hid Z;have ao:=hid aA;have aF:=hid aC;have U:=af.out;rw[ao.out]at U;have g1:A.cell? ⟨p,1,none⟩=some (.slice nso o nc):=(Qj U 1 _ rfl).1;have lp:=Qq U;obtain⟨W3,ap⟩:∃W3,W3=A.alloc (.cells (madeCells #[.string ⟨#[]⟩,.int .i64 0,.string ⟨#[]⟩,.int .u64 0,.int .u64 0,.int .u64 0,.int .u64 0,.slice none 0 0,.int .i64 0,.int .i64 0] (o*10)) 83):=⟨_,rfl⟩;have aG:A.heap.size=p+1+1:=by rw[aa,Z];simp
 have aH:Hid (PqR A 0 (stG rs) [] (.slice (some ⟨p+1+1,0,none⟩) 0 o) W3):=by
  rw[ap,<-aG];exact⟨B0q.alloc L0q _,World.ownsRow_made A _ o L0q (by unfold maxLen;omega) (size_madeCells _ _),by rw[List.take_zero,Zk];trivial⟩
 have aI:=hid ap;clear aa aB Z aA U h ad aj aC hz al ap aG;go_enter func37,ntmps37
 go_wp2_with fail
 rw[<-ao.out,<-aE.out,<-Hp.out,<-aI.out];clear aX g1 lp aE aI
 go_loopw [3,13] (fun a i wr=>∃(j:Nat) (xs:List Value),i=.int .i64 j/\j<=o/\Hid (PqR A j (stG rs) xs a wr)) (fun a i _=>o-(intOf i).toNat)
 case atStart=>exact⟨0,[],rfl,Nat.zero_le _,aH⟩
 case round=>
  obtain⟨j,xs,rfl,hj,E⟩:=hrel;clear aH;have ag:=hid (am.out.trans (E.out.be.mono am.out.size));obtain⟨D,G,rfl⟩:=Mw E.out.ow;by_cases hjn:j<o
  rotate_left
  ·have a0:decide ((j:Int)<(o:Int))=false:=by simp;omega
   have a1:decide (j<o)=false:=by simp;omega
   obtain rfl:j=o:=by omega
   have aq:(stG rs).length=j:=by rw[By];exact aD.out.symm
   have hq:=E.out.rq;rw[List.take_of_length_le (by rw[aq];exact Nat.le_refl _)]at hq;have ah:=(E.out.be.block _ (Qq ae.out)).trans ae.out;obtain⟨u0,f0⟩:=Qw ah;have lr:=Qq ah;have aZ:=hid ah;have aJ:wr.grownBy (wr.setCell ⟨p+1,0,none⟩ (.slice D j G)) (some (p+1)):=grownBy_setCell' _ _ _;have a2:Hid (Qf (wr.setCell ⟨p+1,0,none⟩ (.slice D j G)) (wr.setCell ⟨p+1,0,none⟩ (.slice D j G)).heap.size D j (stG rs)):=by
    have a4:=E.out.ow.kept aJ (.inr (fun e=>by have:=(E.out.ow.lt _ e).1;have:=Qq ae.out;omega));have a5:Zk (wr.setCell ⟨p+1,0,none⟩ (.slice D j G)) (fun g=>A.heap.size<=g) (stG rs) xs:=Zk.kept (fun g cur Z _=>⟨Below.heap_setCell _ _ _ _ (fun e=>by have e2:g=p+1:=e;have:=Qq ae.out;omega),Z⟩) _ _ hq;obtain⟨ak,az,ea,a6⟩:=Zk.is a4 aq.symm a5;simp only[Value.slice.injEq]at ea;obtain⟨rfl,-,rfl⟩:=ea;exact a6
   have a7:Hid (Below w.heap.size w (wr.setCell ⟨p+1,0,none⟩ (.slice D j G))):=ag.out.setCell (p:=⟨p+1,0,none⟩) (by show w.heap.size<=p+1;have:=Hp.out;omega) _;clear hq aJ ah aq
   go_wp2_with fail
   (try simp only[Exit.inBlock,Exit.then])
   have r0:=(Qw (Qk aZ.out 0 (.slice D j G))).1;refine bodyPost_ret (v:=.agg #[.slice D j G]) (by simp[results,Tryz.results37,go_sem,r0]) rfl ?_;exact⟨D,G,rfl,a2,a7⟩
  have ar:j<rs.length:=by rw[<-aD.out];exact hjn
  have au:j<ro.length:=by rw[<-aY.out,aF.out];exact hjn
  have a8:j<(stG rs).length:=by rw[By];exact ar
  have aK:j<(nmL rs).length:=by rw[Um];exact ar
  have av:=HM.out.below ag.out;obtain⟨gn,rfl,bo,aL⟩:=av.n j aK;obtain⟨gr,rfl,bp,aw⟩:=av.r j au;obtain⟨N,hN⟩:∃N,N=(nmL rs)[j]:=⟨_,rfl⟩;obtain⟨e,he⟩:∃e,e=ro[j]:=⟨_,rfl⟩;obtain⟨t,ht⟩:∃t,t=stT rs[j].2.1:=⟨_,rfl⟩;have a9:=HZ.out _ (List.getElem_mem aK);rw[<-hN]at aL a9;rw[<-he]at aw;have HG:=hid (fun(W:World) (hW:Below w.heap.size w W)=>HC.out j au ar W hW);rw[<-he,<-ht]at HG;have ba:Hid ((N,t,(0:Int))=(stG rs)[j]):=by
   show _=_;have e1:(stG rs)[j]=stR rs[j]:=List.getElem_map ..;have e2:(nmL rs)[j]=rs[j].1:=List.getElem_map ..;rw[e1,hN,e2,ht];rfl
  have bb:=hid (fun w':World=>Kh N w' (by omega));have U:=(E.out.be.block _ (Qq af.out)).trans af.out;rw[ao.out]at U;have q1:wr.cell? ⟨p,1,none⟩=some (.slice (some ⟨gn,0,none⟩) o nc):=(Qj U 1 _ rfl).1;have lq:=Qq U;have aM:Hid (wr.drew.cell? ⟨p,0,none⟩=some (.slice oso ol oc)/\wr.drew.cell? ⟨p,1,none⟩=some (.slice (some ⟨gn,0,none⟩) o nc)/\wr.drew.cell? ⟨p,2,none⟩=some (.slice (some ⟨gr,0,none⟩) Y rc)/\wr.drew.cell? ⟨gr,j,none⟩=some (.int .i64 e)):=⟨(Qj U 0 _ rfl).1,q1,(Qj U 2 _ rfl).1,aw⟩;have bc:Hid (some p≠(Value.slice D j G).ownBlock):=fun e=>by have:=(E.out.ow.lt _ e.symm).1;have:=Qq af.out;omega
  have bd:gr<w.heap.size:=by
   obtain⟨bq,e',br,_⟩:=HM.out.r j au;injection e' with e'
   injection e' with e' _ _
   omega
  have bf:Hid (some gr≠(Value.slice D j G).ownBlock):=fun e=>by have:=(E.out.ow.lt _ e.symm).1;have:=am.out.size;omega
  have bg:Hid (∀I,Below wr.heap.size wr I->I.ownsRow A.heap.size 83 10 (.slice D j G) j xs/\A.heap.size<=I.heap.size):=fun I h=>⟨Yf E.out.ow h,Nat.le_trans E.out.be.size h.size⟩
  have a0:decide ((j:Int)<(o:Int))=true:=by simp;omega
  have a1:decide (j<o)=true:=by simp;omega
  have bs:(j:Int)<(o:Int):=by omega
  have bt:(j:Int)<(Y:Int):=by have:=aF.out;omega
  have bu:IntKind.i64.wrap ((j:Int)+1)=(j:Int)+1:=by rw[IntKind.wrap_i64];omega
  have m1:j+1<=maxLen:=by unfold maxLen;omega
  have m2:(j+1)*112<=140737488355328:=by omega
  clear hN he ht av aw U bd
  go_wp2_with fail
  clear q1 aL;refine Zj 99 (fun X:World=>X.cell? ⟨p,0,none⟩=some (.slice oso ol oc)/\X.cell? ⟨p,1,none⟩=some (.slice (some ⟨gn,0,none⟩) o nc)/\X.cell? ⟨p,2,none⟩=some (.slice (some ⟨gr,0,none⟩) Y rc)/\X.cell? ⟨gr,j,none⟩=some (.int .i64 e)) (by kernel_rfl) aM.out (fun y=> ?_);refine Qz 0 y ?_;refine Qz 1 y ?_;refine Qz 3 y ?_;refine Qz 4 y ?_;refine Qz 5 y ?_;refine Qz 6 y ?_;refine Qz 7 y ?_;refine Qz 8 y ?_
  (refine Qg 2 (fun K V=> ?_);go_simp;refine(bb.out _).mono ?_;rintro e' w2 ⟨rfl,ax⟩;have aN:Below wr.heap.size wr w2:=(Below.refl _ wr).drew.trans ax;have ai:=hid aN;go_simp;replace y:=z1e y ax;clear ax aN;refine V.out _ _ y ?_;clear V K)
  (try simp only[Act.put,List.setIfInBounds_toArray,List.set_cons_zero,List.set_cons_succ])
  (refine Qg 9 (fun K V=> ?_);go_simp;refine(HG.out w2 (ag.out.trans (ai.out.mono ag.out.size))).mono ?_;rintro e' I ⟨k3,T3,a3,b3,c3,d3,ab,n3,ac,p3,rfl,bh,aO⟩;have aP:=hid (ai.out.trans (aO.out.mono ai.out.size));have aQ:=hid (bg.out I aP.out);go_simp;replace y:=z1e y aO.out;refine V.out _ _ y ?_;clear V K)
  (try simp only[Act.put,List.setIfInBounds_toArray,List.set_cons_zero,List.set_cons_succ])
  refine Qz 10 y ?_
  (refine Qg 11 (fun K V=> ?_);go_simp;replace y:=z1e y ((Below.refl _ I).alloc L0q (.cells #[.string N,.int .i64 k3,.string T3,.int .u64 a3,.int .u64 b3,.int .u64 c3,.int .u64 d3,.slice ab n3 ac,.int .i64 p3,.int .i64 0] 83));refine V.out _ _ y ?_;clear V K)
  (try simp only[Act.put,List.setIfInBounds_toArray,List.set_cons_zero,List.set_cons_succ])
  (refine Qg 12 (fun K V=> ?_);refine step_append_lies _ rfl (.tmp 18) (.tmp 29) 41 rfl A.heap.size 83 iT (.agg #[.string ⟨#[]⟩,.int .i64 0,.string ⟨#[]⟩,.int .u64 0,.int .u64 0,.int .u64 0,.int .u64 0,.slice none 0 0,.int .i64 0,.int .i64 0]) 10 112 Tryz.underlying41 aT aU aV aW rfl (by decide) (.slice D j G) j xs (by rfl) (aQ.out.1.alloc _) ⟨I.heap.size,0,none⟩ 1 1 [.string N,.int .i64 k3,.string T3,.int .u64 a3,.int .u64 b3,.int .u64 c3,.int .u64 d3,.slice ab n3 ac,.int .i64 p3,.int .i64 0] (by rfl) rfl (Rw I (.string N) (.int .i64 k3) (.string T3) (.int .u64 a3) (.int .u64 b3) (.int .u64 c3) (.int .u64 d3) (.slice ab n3 ac) (.int .i64 p3) (.int .i64 0) 83) (z4H _ _ _ _ _ _ _ _ _ _ _ _) (by decide) m1 m2 (z4G aQ.out.2) (I.heap.size+1) (World.size_alloc _ _) ?_;intro g6 bv w6 aR ay bi bw;replace y:=y7D y bc.out bf.out ay;have bj:=hid aR;have bk:=hid ay;clear aR ay bi;refine V.out _ _ y ?_;clear V K)
  (try simp only[Act.put,List.setIfInBounds_toArray,List.set_cons_zero,List.set_cons_succ])
  refine Qz 13 y ?_;refine⟨by kernel_rfl,?_⟩;clear y aM;have aS:=PqR.step E.out a8 ba.out aP.out ⟨r8 k3 T3 a3 b3 c3 d3 ab n3 ac p3,rfl,Zf.kept (w':=I) (Q:=fun g=>wr.heap.size<=g) (fun g cur Z _=>⟨rfl,Nat.le_trans ai.out.size Z⟩) _ _ bh.out⟩ ((Below.refl _ I).alloc L0q _) bj.out bk.out;have bl:=hid aS;clear aS
  go_wp2_with fail
  go_roundw
  case rel=>exact⟨j+1,xs++[.string N,.int .i64 k3,.string T3,.int .u64 a3,.int .u64 b3,.int .u64 c3,.int .u64 d3,.slice ab n3 ac,.int .i64 p3,.int .i64 0],by simp,by omega,bl⟩
  case measure=>simp[intOf];omega
theorem y7E(oso nso rso:Option Addr)(y oc h nc A rc:Nat)(w:World)
  (HU:Hid (∀W:World,Below w.heap.size w W->Calls prog 36 #[.agg #[.slice oso y oc,.slice nso h nc,.slice rso A rc]] W fun e w'=>e=.returned (.bool true)/\Below W.heap.size W w'))
  (HF:Hid (∀W:World,Below w.heap.size w W->Calls prog 37 #[.agg #[.slice oso y oc,.slice nso h nc,.slice rso A rc]] W fun e w'=>∃o r,e=.returned (.agg #[.slice o h r])/\Hid (Below W.heap.size W w')/\
    Hid (∀t:World,Below w'.heap.size w' t->Calls prog 15 #[.agg #[.slice o h r]] t fun e D=>∃Z aa ab ac ad ae,e=.returned (.tuple #[.agg #[.slice Z y aa,.slice ab h ac,.slice ad A ae],.nilIface])/\Hid (Below t.heap.size t D)/\
     Hid (∀E:World,Below D.heap.size D E->Calls prog 39 #[.agg #[.slice Z y aa,.slice ab h ac,.slice ad A ae],.agg #[.slice oso y oc,.slice nso h nc,.slice rso A rc]] E fun e w'=>e=.returned (.bool true)/\Below E.heap.size E w')))):
  Calls prog 18 #[.agg #[.slice oso y oc,.slice nso h nc,.slice rso A rc]] w fun e w'=>∃o r,e=.returned (.tuple #[.agg #[.slice o h r],.nilIface])/\Hid (Below w.heap.size w w'):=by
 obtain⟨pc,ax⟩:∃pc,pc=Obj.cells #[.slice oso y oc,.slice nso h nc,.slice rso A rc] 26:=⟨_,rfl⟩;obtain⟨G,V⟩:∃G,G=(w.alloc pc).alloc (.cells #[.slice none 0 0] 43):=⟨_,rfl⟩;have al:Below w.heap.size w G:=by rw[V];exact((Below.refl _ w).alloc L0q _).alloc (by simp) _
 obtain⟨p,hp⟩:∃p,p=w.heap.size:=⟨_,rfl⟩;have ay:Hid (G.heap[p+1]? =some (.cells #[.slice none 0 0] 43)):=by rw[V,hp];exact Qx _ _ (by simp)
 have az:Hid (G.heap[p]? =some pc):=by rw[V,hp];exact(Below.heap_alloc _ _ _ (by simp)).trans (Qx w _ rfl)
 have af:=hid al;have aA:=hid V;have Hp:=hid hp;have aB:=hid ax;have aC:=hid (HU.out G al);have HK:=hid (fun(W:World) (U:Below G.heap.size G W)=>show(W.cell? ⟨p,0,none⟩=some (.slice oso y oc)/\W.cell? ⟨p,1,none⟩=some (.slice nso h nc)/\W.cell? ⟨p,2,none⟩=some (.slice rso A rc)/\p<W.heap.size/\W.heap[p+1]? =some (.cells #[.slice none 0 0] 43))from by
  have Y:=(U.block _ (Qq az.out)).trans az.out;rw[aB.out]at Y;exact⟨(Qj Y 0 _ rfl).1,(Qj Y 1 _ rfl).1,(Qj Y 2 _ rfl).1,Qq Y,(U.block _ (Qq ay.out)).trans ay.out⟩)
 clear ax V al hp HU;go_enter func18,ntmps18
 go_wp2_with fail
 rw[<-aB.out,<-aA.out,<-Hp.out];refine aC.out.mono ?_;rintro e w1 ⟨rfl,ag⟩;obtain⟨q0,q1,q2,lq,_⟩:=HK.out w1 ag;have aD:=hid ag;have aE:=hid (HF.out w1 (af.out.trans (ag.mono af.out.size)));clear ag aC HF aA
 go_wp2_with fail
 refine aE.out.mono ?_;rintro e I ⟨o,r,rfl,aF,HM⟩;have aG:=hid (aD.out.trans (aF.out.mono aD.out.size));obtain⟨t,ah⟩:∃t,t=I.alloc (.cells #[.slice o h r] 43):=⟨_,rfl⟩;have am:Below I.heap.size I t:=by rw[ah];exact(Below.refl _ I).alloc L0q _
 have ai:Hid (t.heap[I.heap.size]? =some (.cells #[.slice o h r] 43)):=by rw[ah];exact Qx I _ rfl
 have aH:=hid (HM.out t am);have aI:=hid (aG.out.trans (am.mono aG.out.size));have aJ:=hid ah;obtain⟨b,U⟩:∃b,b=I.heap.size:=⟨_,rfl⟩;rw[<-U]at ai;have aO:=hid U;clear am ah q0 q1 q2 lq aE HM U aF
 go_wp2_with fail
 rw[<-aJ.out,<-aO.out];clear aJ;refine aH.out.mono ?_;rintro e D ⟨Z,aa,ab,ac,ad,ae,rfl,ao,HS⟩;have ap:=hid (aI.out.trans (ao.out.mono aI.out.size));obtain⟨E,aq⟩:∃E,E=D.alloc (.cells #[.slice Z y aa,.slice ab h ac,.slice ad A ae] 26):=⟨_,rfl⟩;have aj:Below D.heap.size D E:=by rw[aq];exact(Below.refl _ D).alloc L0q _
 have aK:=hid (HS.out E aj);have ar:=hid ((ao.out.block _ (Qq ai.out)).trans ai.out);obtain⟨q0,q1,q2,lq,_⟩:=HK.out D ap.out;have aL:=hid aq;have aM:=hid (ap.out.trans (aj.mono ap.out.size));have au:=hid ((aj.block _ (Qq ar.out)).trans ar.out);clear aq aj aH ao ai
 go_wp2_with fail
 rw[<-aL.out];clear aL q0 q1 q2 lq;refine aK.out.mono ?_;rintro e w4 ⟨rfl,av⟩;have aN:=hid (aM.out.trans (av.mono aM.out.size));obtain⟨_,_,_,lq,ak⟩:=HK.out w4 aN.out;have aw:=(av.block _ (Qq au.out)).trans au.out;have g5:=(Qw aw).1;have aR:=Qq aw;obtain⟨u0,f0⟩:=Qw ak;have lr:=Qq ak;have aP:=hid ak;have aQ:Hid (Below w.heap.size w (w4.setCell ⟨p+1,0,none⟩ (.slice o h r))):=by
  have h1:=af.out.trans (aN.out.mono af.out.size);exact h1.setCell (p:=⟨p+1,0,none⟩) (by show w.heap.size<=p+1;have:=Hp.out;omega) _
 clear av aw ak aK HS ar au
 go_wp2_with fail
 have r0:=(Qw (Qk aP.out 0 (.slice o h r))).1;refine bodyPost_ret (v:=.tuple #[.agg #[.slice o h r],.nilIface]) (by simp[results,Tryz.results18,go_sem,r0]) rfl ?_;exact⟨o,r,rfl,aQ⟩
theorem y7F(rs:List Rr)(oso nso rso:Option Addr)(t oc o nc r rc:Nat)(fp:Addr)(w:World)(V:t=(pgG rs).2.length)(Y:o=rs.length)(ad:r=rs.length)(y:Snd rs)(hp:PrG rs)(Z:PgM (pgG rs).2 (nmL rs) (pgG rs).1 oso nso rso w)(hz:RgZ rs)(hu:RgU rs)(hT:TabIs w)(hF:w.cell? ⟨1,0,none⟩=some (.iface 363 (.pointer (some fp))))(aw:Xp w):
  Calls prog 18 #[.agg #[.slice oso t oc,.slice nso o nc,.slice rso r rc]] w fun e w'=>∃D E,e=.returned (.tuple #[.agg #[.slice D o E],.nilIface])/\Hid (Below w.heap.size w w'):=by
 have aa:=y.unf hp;obtain⟨aD,ax⟩:=y.src;have ay:(pgG rs).1.length=rs.length:=(Uv (fun T=>fdI T (nmL rs)) rs []).2.1.1;have az:=Um rs;have ae:o=(nmL rs).length:=by rw[Y,az]
 have ab:r=(pgG rs).1.length:=by rw[ad,ay]
 refine y7E oso nso rso t oc o nc r rc w (hid fun W G=>z7N _ _ _ oso nso rso t oc o nc r rc W V ae ab (Z.below G) aa) (hid fun W G=> ?_);have af:=Z.below G;refine(z7Y rs (pgG rs).2 (pgG rs).1 oso nso rso t oc o nc r rc W Y ab af aa.nm (hid fun j hj ag W2 I=> ?_)).mono ?_
 ·obtain⟨q,hq,hd⟩:=ax j ag
  have e:(pgG rs).1[j]=q:=(List.getElem?_eq_some_iff.1 hq).2;rw[e];exact z7X rs y.len aa.nm (pgG rs).2 (pgG rs).1 oso nso rso t oc o nc r rc W V Y af (SizeOf.sizeOf rs[j].2.1+1) _ q W2 (Nat.lt_succ_self _) (y.pt (List.getElem_mem ag)) hd I
 ·rintro e A ⟨D,E,rfl,hR,ah⟩
  refine⟨D,E,rfl,ah,hid fun W2 I=> ?_⟩;have U:Below w.heap.size w A:=G.trans (ah.out.mono G.size);have ai:=hT.below U hT.lt;have aA:A.cell? ⟨1,0,none⟩=some (.iface 363 (.pointer (some fp))):=(U.cell (World.block_lt_of_cell? w _ hF)).trans hF;have aB:=aw.below U;obtain⟨hX,hC⟩:=z5v D o E (stG rs) A.heap.size A (z7D hz) hR.out L0q ai (z7C hp) (y6Z y.ck);refine(z0W D o E (stG rs) none A.heap.size fp A hX (fun _=>z7C hp) hC (z7D hz) (y7e hu) hR.out L0q ai aA aB W2 I).mono ?_;rintro e w3 ⟨aj,ak,al,am,ao,ap,aq,ar,au,ev,rfl,ac,⟨tt,uu,rfl,_,_,_,_,_,_,_,_,_,h|h⟩|⟨rfl,h⟩⟩
  ·exact absurd (y7d y.so) h
  ·rw[z0T]at h
   exact absurd Z.l2 (by omega)
  ·obtain⟨h1,h2,h3,_,_,_,h4⟩:=h.out
   rw[z0T,Bf]at h4;rw[z0T]at h1;rw[By]at h2 h3;obtain rfl:ak=t:=h1.trans V.symm;obtain rfl:ao=o:=h2.trans Y.symm;obtain rfl:ar=r:=h3.trans ad.symm;refine⟨aj,al,am,ap,aq,au,rfl,ac,hid fun W3 av=> ?_⟩;have aC:Below w.heap.size w W3:=U.trans ((I.trans ((ac.out.trans (av.mono ac.out.size)).mono I.size)).mono U.size);exact y7v (pgG rs).2 (nmL rs) (pgG rs).1 aj am aq oso nso rso ak al ao ap ar au oc nc rc W3 V ae ab (h4.below av) (Z.below aC)
def shE(a:Nat)(e:Option Nat):Option Nat:=e.map (a+ ·)
def shN(a:Nat)(N:Nt):Nt:=fun k i=>if a<=i then(N k (i-a)).map (shE a)else none
def shW(a:Nat)(w:Wq):Wq:=(w.1,a+w.2.1,w.2.2.1,a+w.2.2.2)
def shM(a:Nat):Mde->Mde
 | .beg k i=>.beg k (a+i)
 | .ret e=>.ret (shE a e)
theorem Ok(a:Nat)(N:Nt)(k:Int)(i:Nat):shN a N k (a+i)=(N k i).map (shE a):=by
 unfold shN;rw[if_pos (by omega),show a+i-a=i by omega]
theorem z7Z(a:Nat)(N:Nt)(k:Int)(i:Nat)(e:Option Nat):shN a (Zv N k i e)=Zv (shN a N) k (a+i) (shE a e):=by
 funext k' i';unfold shN Zv;dsimp only;by_cases h:a<=i'
 ·rw[if_pos h,if_pos h]
  by_cases h1:k'=k/\i'-a=i
  ·rw[if_pos h1,if_pos ⟨h1.1,by omega⟩];rfl
  ·rw[if_neg h1,if_neg (fun o=>h1 ⟨o.1,by omega⟩)]
 ·rw[if_neg h,if_neg h,if_neg (fun o=>h (by omega))]
theorem y7G(a:Nat):shN a N0=N0:=by
 funext k i;unfold shN N0;split<;>rfl
theorem z1f(a:Nat)(b:Bool)(x:Nat):Zp b (a+x)=shE a (Zp b x):=y6A b x a
theorem y7H(A T:ByteArray)(o:Ox)(i:Nat):aln (A++T) o (A.size+i)=shE A.size (aln T o i):=by
 unfold aln;by_cases h2:o.1=2
 ·rw[if_pos h2,if_pos h2,y6z,Nat.add_assoc,z1f]
 rw[if_neg h2,if_neg h2];by_cases h3:o.1=3
 ·rw[if_pos h3,if_pos h3,z6G,Nat.add_assoc,z1f]
 rw[if_neg h3,if_neg h3];by_cases h4:o.1=4
 ·rw[if_pos h4,if_pos h4,z6G,Nat.add_assoc,z1f]
 rw[if_neg h4,if_neg h4];by_cases h1:o.1=1
 ·rw[if_pos h1,if_pos h1];rfl
 ·rw[if_neg h1,if_neg h1];rfl
theorem z8a(a:Nat)(o:Ox)(w:Wq)(e:Option Nat):nxt o (shW a w) (shE a e)=(nxt o w e).map (shW a):=by
 unfold nxt;by_cases h6:o.1=6
 ·rw[if_pos h6,if_pos h6]
  cases e with
  |none=>rfl
  |some x=>
   show(if w.2.2.1+1=o.2.2.2.length then none else some (w.1,a+w.2.1,w.2.2.1+1,a+x))=_;by_cases h:w.2.2.1+1=o.2.2.2.length
   ·simp[h]
   ·simp[h,shW]
 rw[if_neg h6,if_neg h6];by_cases h7:o.1=7
 ·rw[if_pos h7,if_pos h7]
  cases e with
  |some x=>rfl
  |none=>
   show(if w.2.2.1+1=o.2.2.2.length then none else some (w.1,a+w.2.1,w.2.2.1+1,a+w.2.1))=_;by_cases h:w.2.2.1+1=o.2.2.2.length
   ·simp[h]
   ·simp[h,shW]
 rw[if_neg h7,if_neg h7];by_cases h9:o.1=9∨o.1=10
 ·rw[if_pos h9,if_pos h9]
  cases e<;>rfl
 ·rw[if_neg h9,if_neg h9];rfl
theorem y7I(a:Nat)(o:Ox)(w:Wq)(e:Option Nat):otc o (shW a w) (shE a e)=shE a (otc o w e):=by
 unfold otc;by_cases h8:o.1=8
 ·rw[if_pos h8,if_pos h8];cases e<;>rfl
 rw[if_neg h8,if_neg h8];by_cases h9:o.1=9
 ·rw[if_pos h9,if_pos h9];rfl
 rw[if_neg h9,if_neg h9];by_cases h10:o.1=10
 ·rw[if_pos h10,if_pos h10]
  show(if a+w.2.1<a+w.2.2.2 then some (a+w.2.2.2)else shE a e)=_;by_cases h:w.2.1<w.2.2.2
  ·rw[if_pos h,if_pos (by omega)];rfl
  ·rw[if_neg h,if_neg (by omega)]
 rw[if_neg h10,if_neg h10];by_cases h11:o.1=11
 ·rw[if_pos h11,if_pos h11];cases e<;>rfl
 rw[if_neg h11,if_neg h11];by_cases h12:o.1=12
 ·rw[if_pos h12,if_pos h12];cases e<;>rfl
 ·rw[if_neg h12,if_neg h12]
theorem y7J(A:ByteArray){ops:List Ox}{ro:List Int}{T:ByteArray}{mo:Nat}{N:Nt}{c:Nat}{S:List Wq}{m:Mde}{r:Option (Option Nat×Nat×Nt)}(h:Mch ops ro T mo N c S m r q):Mch ops ro (A++T) mo (shN A.size N) c (S.map (shW A.size)) (shM A.size m) (r.map fun x=>(shE A.size x.1,x.2.1,shN A.size x.2.2)) q:=by
 induction h with
 |done=>exact .done
 |bud h1=>exact .bud (by rw[Ok,h1];rfl)
 |noted h1 _ ih=>exact .noted (by rw[Ok,h1];rfl) ih
 |leaf h1 h2 h3 h4 _ ih=>
  rw[z7Z]at ih;refine .leaf (by rw[Ok,h1];rfl) h2 h3 h4 ?_;rw[y7H];exact ih
 |push h1 h2 h3 h4 _ ih=>exact .push (by rw[Ok,h1];rfl) h2 h3 h4 ih
 |next h1 h2 _ ih=>exact .next (w':=shW A.size _) h1 (by rw[z8a,h2];rfl) ih
 |pop h1 h2 _ ih=>
  rw[z7Z]at ih;refine .pop h1 (by rw[z8a,h2];rfl) ?_;rw[y7I];exact ih
theorem z8b(ops:List Ox)(ns:List ByteArray)(ro:List Int)(oso nso rso:Option Addr)(G oc nl nc I rc:Nat)(M:Nat)(w:World)(Z:G=ops.length)(aa:I=ro.length)(h:PgM ops ns ro oso nso rso w)
  (m0:w.cell? ⟨M,0,none⟩=some (.slice oso G oc))(m2:w.cell? ⟨M,2,none⟩=some (.slice rso I rc))(k:Nat)(U:k<ops.length)(j:Nat)(D:j<ops[k].2.2.2.length)(A:ops[k].1=5->0<=ops[k].2.2.2[j]/\ops[k].2.2.2[j]<(ro.length:Int)):
  Calls prog 70 #[.pointer (some ⟨M,0,none⟩),.int .i64 k,.int .i64 j] w fun e w'=>e=.returned (.int .i64 (prt ro ops[k] j))/\Below w.heap.size w w':=by
 obtain⟨g,rfl,hg,so,ah,⟨c0,c1,c2,c3,c4,c5,c6⟩,ae,ab⟩:=h.o k U;obtain⟨b,ai,rfl,hb,hx⟩:=ab j D;have ac:=h.l2;have aj:(k:Int)<(G:Int):=by omega
 have af:(j:Int)<(ops[k].2.2.2.length:Int):=by omega
 have hm:=World.block_lt_of_cell? w _ m0;obtain⟨x,V⟩:∃x,x=ops[k].2.2.2[j]:=⟨_,rfl⟩;have ad:ops[k].2.2.2.getD j 0=x:=by rw[V,List.getD_eq_getElem?_getD,List.getElem?_eq_getElem D];rfl
 rw[<-V]at hx A;obtain⟨kd,E⟩:∃kd,kd=ops[k].1:=⟨_,rfl⟩;obtain⟨r,t⟩:∃r,r=prt ro ops[k] j:=⟨_,rfl⟩;have HP:Hid (r=prt ro ops[k] j):=t;rw[<-t];unfold prt at t;rw[ad,<-E]at t;rw[<-E]at A c0;obtain⟨L,hL⟩:∃L,L=ops[k].2.2.2.length:=⟨_,rfl⟩;rw[<-hL]at c6 af;clear ad HP hL ae c1 c2 c3 c4 c5 V ab;by_cases h5:kd=5
 ·subst h5
  obtain⟨x1,x2⟩:=A rfl;obtain⟨y,rfl⟩:∃y:Nat,x=(y:Int):=⟨x.toNat,by omega⟩;have Y:y<ro.length:=by omega
  obtain⟨gr,rfl,ak,ag⟩:=h.r y Y;rw[if_pos rfl,Int.toNat_natCast,List.getD_eq_getElem?_getD,List.getElem?_eq_getElem Y]at t;have al:(y:Int)<(I:Int):=by omega
  have e:r=ro[y]:=t;rw[<-e]at ag;clear e t A x1 x2 Y E h D U hb hg ac Z aa;go_enter func70,ntmps70
  go_wp2_with fail
  (try simp only[Exit.inBlock,Exit.then])
  refine bodyPost_ret (v:=.int .i64 r) (by simp[results,Tryz.results70,go_sem]) rfl ?_;exact⟨rfl,Below.refl _ w⟩
 ·rw[if_neg h5]at t
  subst t;have a0:(kd == 5)=false:=by simpa using h5
  clear A E h D U hb hg ac Z aa m2;go_enter func70,ntmps70
  go_wp2_with fail
  (try simp only[Exit.inBlock,Exit.then])
  refine bodyPost_ret (v:=.int .i64 r) (by simp[results,Tryz.results70,go_sem]) rfl ?_;exact⟨rfl,Below.refl _ w⟩
theorem y7K(M NB h nc:Nat)(k at':Nat)(w:World)(t:w.cell? ⟨M,4,none⟩=some (.slice (some ⟨NB,0,none⟩) h nc))(ha:at'<h)(y:w.cell? ⟨NB,at',none⟩=some (.slice none 0 0)):
  Calls prog 41 #[.pointer (some ⟨M,0,none⟩),.int .i64 k,.int .i64 at'] w fun e w'=>e=.returned (.tuple #[.int .i64 0,.bool false])/\Below w.heap.size w w':=by
 have A:=World.block_lt_of_cell? w _ t;have D:(at':Int)<(h:Int):=by omega
 have q:∀(w:World) (a:Option Addr) (n c o r:Nat),(binOp .eql 158 (.slice a n c) (.slice none o r)).run prog w=.ok (.bool a.isNone) w:=fun w a n c o r=>Lib.run_eql_slice_nil w _ _ a n c o r Tryz.underlying158
 go_enter func41,ntmps41
 go_wp2_with fail
 (try simp only[Exit.inBlock,Exit.then])
 refine bodyPost_ret (v:=.tuple #[.int .i64 0,.bool false]) (by simp[results,Tryz.results41,go_sem]) rfl ?_;exact⟨rfl,Below.refl _ w⟩
theorem y7L(M NB r nc:Nat)(g t I:Nat)(k at':Nat)(b:Bool)(x:Int)(hx:x<2147483648/\ -2147483648<=x)(w:World)(E:w.cell? ⟨M,4,none⟩=some (.slice (some ⟨NB,0,none⟩) r nc))(ha:at'<r)(U:w.cell? ⟨NB,at',none⟩=some (.slice (some ⟨g,0,none⟩) t I))(V:k<t)(Y:w.cell? ⟨g,k*2,none⟩=some (.bool b))(Z:w.cell? ⟨g,k*2+1,none⟩=some (.int .i32 x)):
  Calls prog 41 #[.pointer (some ⟨M,0,none⟩),.int .i64 k,.int .i64 at'] w fun e w'=>e=.returned (.tuple #[.int .i64 x,.bool b])/\Below w.heap.size w w':=by
 have hm:=World.block_lt_of_cell? w _ E;have aa:(at':Int)<(r:Int):=by omega
 have ab:(k:Int)<(t:Int):=by omega
 have q:∀(w:World) (a:Option Addr) (n c y A:Nat),(binOp .eql 158 (.slice a n c) (.slice none y A)).run prog w=.ok (.bool a.isNone) w:=fun w a n c y A=>Lib.run_eql_slice_nil w _ _ a n c y A Tryz.underlying158
 go_enter func41,ntmps41
 go_wp2_with fail
 have hw:IntKind.i64.wrap x=x:=by rw[IntKind.wrap_i64];omega
 obtain⟨W,o⟩:∃W,W=w.alloc (.cells #[.bool b,.int .i32 x] 160):=⟨_,rfl⟩;have D:W.heap[w.heap.size]? =some (.cells #[.bool b,.int .i32 x] 160):=by rw[o];exact Qx w _ rfl
 have G:Below w.heap.size w W:=by rw[o];exact(Below.refl _ w).alloc L0q _
 have HS:Hid (W.drew.cell? ⟨w.heap.size,0,none⟩=some (.bool b)/\W.drew.cell? ⟨w.heap.size,1,none⟩=some (.int .i32 x)):=⟨(Qj D 0 _ rfl).1,(Qj D 1 _ rfl).1⟩;rw[<-o];have HB:=hid G;clear o D G E U Y Z q V ha;refine Zj 99 (fun X:World=>X.cell? ⟨w.heap.size,0,none⟩=some (.bool b)/\X.cell? ⟨w.heap.size,1,none⟩=some (.int .i32 x)) (by kernel_rfl) HS.out (fun h=> ?_);refine Qz 0 h ?_;refine Qz 1 h ?_;refine Qz 2 h ?_;refine Qz 3 h ?_;refine Qz 4 h ?_;refine Qz 5 h ?_;refine Qz 6 h ?_;refine⟨by kernel_rfl,?_⟩;clear h
 go_wp2_with fail
 (try simp only[Exit.inBlock,Exit.then])
 refine bodyPost_ret (v:=.tuple #[.int .i64 x,.bool b]) (by simp[results,Tryz.results41,go_sem]) rfl ?_;exact⟨rfl,HB.out.drew⟩
end Go.Proofs.YtgnkkgcgbeianaaGreatDoor
