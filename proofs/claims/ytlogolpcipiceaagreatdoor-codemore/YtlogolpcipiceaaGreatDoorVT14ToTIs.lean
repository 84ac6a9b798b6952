/- Lemmas for the last text. Conditions: those that each names. -/
import Derived.Test.YtlogolpcipiceaaGreatDoorVT13ToT15
import Derived.Test.YtlogolpcipiceaaGreatDoorVU3ToU5
import Derived.Test.YtlogolpcipiceaaGreatDoorVO6ToS4
import Derived.LaidEql
import Derived.Stop.Asserts
import Derived.RowKitTokens
set_option linter.unusedVariables false
set_option maxRecDepth 100000
set_option maxHeartbeats 8000000
namespace Go.Proofs.YtlogolpcipiceaaGreatDoor
open Go.Proofs.Tryz
open Go.RowKit Go.Shelf Go.Maps
variable {W:World} {sB:Nat}
theorem z4L{W':World}{rB ub o0 o1 o2:Nat}{v0 v1 v2 v3 v4:Value}(h:W.cell? ⟨sB,0,none⟩=some v0/\W.cell? ⟨rB,0,none⟩=some v1/\W.cell? ⟨ub,o0,none⟩=some v2/\W.cell? ⟨ub,o1,none⟩=some v3/\W.cell? ⟨ub,o2,none⟩=some v4)(hb:Below W.heap.size W W'):W'.cell? ⟨sB,0,none⟩=some v0/\W'.cell? ⟨rB,0,none⟩=some v1/\W'.cell? ⟨ub,o0,none⟩=some v2/\W'.cell? ⟨ub,o1,none⟩=some v3/\W'.cell? ⟨ub,o2,none⟩=some v4:=by
 obtain⟨h0,h1,h2,h3,h4⟩:=h;have e:∀{a:Addr} {u:Value},W.cell? a=some u->W'.cell? a=some u:=fun{a u} h=>(hb.cell (p:=a) (World.block_lt_of_cell? W _ h)).trans h
 exact⟨e h0,e h1,e h2,e h3,e h4⟩
theorem y2H{W':World}{rB ub o0 o1 o2:Nat}{v0 v1 v2 v3 v4:Value}{row:Option Nat}(h:W.cell? ⟨sB,0,none⟩=some v0/\W.cell? ⟨rB,0,none⟩=some v1/\W.cell? ⟨ub,o0,none⟩=some v2/\W.cell? ⟨ub,o1,none⟩=some v3/\W.cell? ⟨ub,o2,none⟩=some v4)(n0:some sB≠row)(n1:some rB≠row)(n2:some ub≠row)(hg:W.grownBy W' row):W'.cell? ⟨sB,0,none⟩=some v0/\W'.cell? ⟨rB,0,none⟩=some v1/\W'.cell? ⟨ub,o0,none⟩=some v2/\W'.cell? ⟨ub,o1,none⟩=some v3/\W'.cell? ⟨ub,o2,none⟩=some v4:=by
 obtain⟨h0,h1,h2,h3,h4⟩:=h;have e:∀{a:Addr} {u:Value},some a.block≠row->W.cell? a=some u->W'.cell? a=some u:=fun{a u} hne h=>(hg.cell_far a (World.block_lt_of_cell? W _ h) hne).trans h
 exact⟨e n0 h0,e n1 h1,e n2 h2,e n2 h3,e n2 h4⟩
theorem y2I(nm:ByteArray)(y1 y2 y3:Bool)(w:World):Calls prog 134 #[.string nm,.agg #[.bool y1,.bool y2,.bool y3]] w (CnA (sI nm (y1,y2,y3)) w):=by
 cases y1<;>cases y2<;>cases y3
 ·exact y2v nm w
 ·exact y2t nm w
 ·exact y2y nm w
 ·exact y2u nm w
 ·exact y2s nm w
 ·exact y2x nm w
 ·exact y2w nm w
 ·exact y2z nm w
def BfP(rs:List Rr)(X:Option (Int ⊕ (Int×Int)))(W:World)(e:Ending)(w':World):Prop:=Below W.heap.size W w'/\
 ((X≠none/\∃v,e=.returned (.tuple #[.agg #[.slice none 0 0],v])/\Zk X W.heap.size w' v)∨
  (X=none/\∃so' cap' m,e=.returned (.tuple #[.agg #[.slice so' rs.length cap'],.nilIface])/\Yk (itr rs m) rs/\Qy w' w'.heap.size so' rs.length (bG rs (itr rs m))))
theorem y2J(so:Option Addr)(n cap:Nat)(X:Option (Int ⊕ (Int×Int)))(w:World)
  (HC:Hid (∀W:World,Below w.heap.size w W->Calls prog 133 #[.agg #[.slice so n cap]] W fun e w'=>∃tt uu,e=.returned (.tuple #[.slice none 0 0,.iface tt uu])/\Zk X W.heap.size w' (.iface tt uu)/\Below W.heap.size W w')):
  Calls prog 100 #[.agg #[.slice so n cap]] w fun e w'=>∃v,e=.returned (.tuple #[.agg #[.slice none 0 0],v])/\Zk X w.heap.size w' v/\Below w.heap.size w w':=by
 obtain⟨W1,hW1⟩:∃W1,W1=(w.alloc (.cells #[.slice so n cap] 24)).alloc (.cells #[.slice none 0 0] 24):=⟨_,rfl⟩;have hB1:Below w.heap.size w W1:=by rw[hW1];exact((Below.refl _ w).alloc L0q _).alloc (by simp) _
 have HR1:Hid (W1.heap[w.heap.size+1]? =some (.cells #[.slice none 0 0] 24)):=by rw[hW1];exact Qx _ _ (by simp)
 have HS:=hid (HC.out W1 hB1);have HB1:=hid hB1;have hs1:=Qq HR1.out;have HW1:=hid hW1;clear hW1 hB1 HC;go_enter func100,ntmps100
 go_wp2_with fail
 rw[<-HW1.out];refine HS.out.mono ?_;rintro e w2 ⟨tt,uu,rfl,hv,hb2⟩;have hr2:=(hb2.block _ (Qq HR1.out)).trans HR1.out;obtain⟨u0,f0⟩:=Qk hr2;have lr:=Qq hr2;have HR2:=hid hr2;have HV:=hid hv;have HB2:=hid (HB1.out.trans (hb2.mono HB1.out.size));have HSz:=hid HB1.out.size;clear hv hb2 hr2 HS HW1 HR1 HB1
 go_wp2_with fail
 have r0:=(Qk (Qh HR2.out 0 (.slice none 0 0))).1;refine bodyPost_ret (v:=.tuple #[.agg #[.slice none 0 0],.iface tt uu]) (by simp[results,Tryz.results100,go_sem,r0]) rfl ?_;exact⟨_,rfl,(HV.out.kept (grownBy_setCell' _ _ _) hs1).lo HSz.out,HB2.out.setCell (p:=⟨w.heap.size+1,0,none⟩) (by show w.heap.size<=_+1;omega) _⟩
theorem z4M(rs:List Rr)(K:ByteArray->Ot):(bG rs K).length=rs.length:=List.length_map _
theorem y2K(rs:List Rr)(K:ByteArray->Ot)(j:Nat)(hj:j<rs.length){hj':j<(bG rs K).length}:(bG rs K)[j]=(rs[j].1,sI rs[j].1 (K rs[j].1),0):=by simp[bG]
theorem PqR.put{w2:World}{j:Nat}{ps:List Rr}{xs:List Value}{a v u:Value}(h:PqR w2 j ps xs a W)(hs:W.heap[sB]? =some (.cells #[u] 24))(hB:w2.heap.size<=sB):PqR w2 j ps xs a (W.setCell ⟨sB,0,none⟩ v):=by
 refine⟨h.be.setCell (p:=⟨sB,0,none⟩) hB _,h.ow.kept (grownBy_setCell' _ _ _) (.inr (Fw h.ow hs (fun cur e=>by cases e))),Zb.kept (fun g cur hp hq=>⟨Below.heap_setCell _ _ _ _ (fun e=> ?_),hp⟩) _ _ h.rq⟩;have e2:g=sB:=e;subst e2;rw[hs]at hq;cases hq
theorem y2L(so:Option Addr)(n cap:Nat)(rs:List Rr)(w:World)(h:Qy w w.heap.size so n rs)(hn:n<=1048576)
  (HC:Hid (∀W:World,Below w.heap.size w W->Calls prog 133 #[.agg #[.slice so n cap]] W (RuP rs none W))):
  Calls prog 100 #[.agg #[.slice so n cap]] w (BfP rs none w):=by
 obtain⟨iT,hiT,hzT0,hzT1,hzT2⟩:=info_parts Tryz.infoRl;obtain⟨W1,hW1⟩:∃W1,W1=(w.alloc (.cells #[.slice so n cap] 24)).alloc (.cells #[.slice none 0 0] 24):=⟨_,rfl⟩;have hB1:Below w.heap.size w W1:=by rw[hW1];exact((Below.refl _ w).alloc L0q _).alloc (by simp) _
 have HR1:Hid (W1.heap[w.heap.size+1]? =some (.cells #[.slice none 0 0] 24)):=by rw[hW1];exact Qx _ _ (by simp)
 have HG1:Hid (W1.heap[w.heap.size]? =some (.cells #[.slice so n cap] 24)):=by rw[hW1];exact(Below.heap_alloc _ _ _ (by simp)).trans (Qx w _ rfl)
 have HS:=hid (HC.out W1 hB1);have HB1:=hid hB1;have HW1:=hid hW1;have HG:=hid h;have HNl:Hid (n=rs.length):=h.1;clear hW1 hB1 HC h;go_enter func100,ntmps100
 go_wp2_with fail
 rw[<-HW1.out];refine HS.out.mono ?_;rintro e w2 ⟨hb2,hre⟩;rcases hre with⟨hx,_⟩|⟨_,ub,m,cs,rfl,hub,hfx,hcs,hou⟩
 ·exact absurd rfl hx
 rw[<-HNl.out];obtain⟨KK,hKK⟩:∃KK,KK=itr rs m:=⟨_,rfl⟩;have HFx:=hid hfx;have HKK:Hid (KK=itr rs m):=hKK;rw[<-hKK]at hou;have HOu:=hid hou;have HCs:=hid hcs;have HB2:=hid (HB1.out.trans (hb2.mono HB1.out.size));have HR2:=hid ((hb2.block _ (Qq HR1.out)).trans HR1.out);have HG2:=hid ((hb2.block _ (Qq HG1.out)).trans HG1.out);obtain⟨g2,_⟩:=Qk HG2.out;have lg2:=Qq HG2.out;obtain⟨W3,hW3⟩:∃W3,W3=w2.alloc (.cells #[.slice none 0 0] 24):=⟨_,rfl⟩;have HC0:Hid (PqR w2 0 (bG rs KK) [] (.slice none 0 0) W3):=by
  rw[hW3];exact⟨B0q.alloc L0q _,World.ownsRow_nil _ _ _ _,by rw[List.take_zero,Zb];trivial⟩
 have HSb0:Hid (W3.heap[w2.heap.size]? =some (.cells #[.slice none 0 0] 24)):=by rw[hW3];exact Qx _ _ rfl
 clear HS HW1 HR1 HG1 HB1 hb2 hcs hou hfx hKK hub
 go_wp2_with fail
 rw[<-hW3];clear hW3 g2 lg2;obtain⟨sB,hsB⟩:∃sB,sB=w2.heap.size:=⟨_,rfl⟩;rw[<-hsB]at HSb0 ⊢;have HsB:Hid (sB=w2.heap.size):=hsB;clear hsB
 go_loopw [21] (fun i wr=>∃(j:Nat) (xs:List Value) (v:Value),i=.int .i64 j/\j<=n/\Hid (PqR w2 j (bG rs KK) xs v wr)/\Hid (wr.heap[sB]? =some (.cells #[v] 24))) (fun i _=>n-(intOf i).toNat)
 case atStart=>exact⟨0,[],_,rfl,Nat.zero_le _,HC0,HSb0⟩
 case round=>
  obtain⟨j,xs,v,rfl,hj,HP,HSb⟩:=hrel;clear HC0 HSb0;have HBw:=hid (HB2.out.trans (HP.out.be.mono HB2.out.size));obtain⟨sa,sca,rfl⟩:=z0T HP.out.ow;by_cases hjn:j<n
  ·have hjI:(j:Int)<(n:Int):=by omega
   have a0:decide ((j:Int)<(n:Int))=true:=by simp;omega
   have hjs:j<rs.length:=by rw[<-HNl.out];exact hjn
   have hjp:j<(bG rs KK).length:=by rw[z4M];exact hjs
   obtain⟨g,o,rfl,hg,k1,T1,a1,b1,c1,d1,so1,n1,cap1,p1,hrt,r0⟩:=HG.out.2.2 j hjs;have hce:∀q,wr.cell? ⟨g,q,none⟩=w.cell? ⟨g,q,none⟩:=fun q=>HBw.out.cell (p:=⟨g,q,none⟩) hg
   simp only[<-hce]at r0;obtain⟨z0,z1,z2,z3,z4,z5,z6,z7,z8,z9⟩:=r0;have hgl:g<wr.heap.size:=World.block_lt_of_cell? wr _ z0;obtain⟨N0,hN0⟩:∃N0,N0=rs[j].1:=⟨_,rfl⟩;obtain⟨q1,hq1⟩:∃q1,q1=rs[j].2.2:=⟨_,rfl⟩;rw[<-hN0]at z0;rw[<-hq1]at z9;obtain⟨⟨y1,y2,y3⟩,hy⟩:∃y,y=KK N0:=⟨_,rfl⟩;have hXx:(N0,sI N0 (y1,y2,y3),(0:Int))=(bG rs KK)[j]:=by
    rw[y2K rs KK j hjs,hy,hN0]
   have HXx:=hid hXx;obtain⟨e0,e1,e2⟩:=HOu.out.2 j hjs hjs;rw[<-hN0,<-hy]at e0 e1 e2;have hcu:=(HP.out.be.block _ (Qq HCs.out)).trans HCs.out;have x0:=(Xv hcu _ _ e0).1;have x1:=(Xv hcu _ _ e1).1;have x2:=(Xv hcu _ _ e2).1;have lu:=Qq hcu;have hul:ub<w2.heap.size:=Qq HCs.out;obtain⟨t0,t1⟩:=Qk HSb.out;have lsb:=Qq HSb.out;have hbe:=HP.out.be.size;have HSt:=hid (y2I N0 y1 y2 y3);clear hrt hce hN0 hq1 hy hXx e0 e1 e2 hcu
   go_wp2_with fail
   obtain⟨W4,hW4⟩:∃W4,W4=wr.alloc (.cells #[.string N0,.int .i64 k1,.string T1,.int .u64 a1,.int .u64 b1,.int .u64 c1,.int .u64 d1,.slice so1 n1 cap1,.int .i64 p1,.int .i64 q1] 73):=⟨_,rfl⟩;have HB4:Hid (Below wr.heap.size wr W4.drew):=by rw[hW4];exact((Below.refl _ wr).alloc L0q _).drew
   have hs4:W4.drew.heap.size=wr.heap.size+1:=by rw[hW4];exact World.size_alloc _ _
   obtain⟨rB,hrB⟩:∃rB,rB=wr.heap.size:=⟨_,rfl⟩;have HS0:Hid (W4.drew.cell? ⟨sB,0,none⟩=some (.slice sa j sca)/\W4.drew.cell? ⟨rB,0,none⟩=some (.string N0)/\W4.drew.cell? ⟨ub,j*3,none⟩=some (.bool y1)/\W4.drew.cell? ⟨ub,j*3+1,none⟩=some (.bool y2)/\W4.drew.cell? ⟨ub,j*3+2,none⟩=some (.bool y3)):=by
    have e:∀{a:Addr} {u:Value},wr.cell? a=some u->W4.drew.cell? a=some u:=fun{a u} h=>(HB4.out.cell (p:=a) (World.block_lt_of_cell? wr _ h)).trans h
    refine⟨e t0,?_,e x0,e x1,e x2⟩;rw[hW4,hrB];exact(Xv (Qx wr _ rfl) 0 _ rfl).1
   rw[<-hW4,<-hrB];have HSz:Hid (∀w3,Hid (Below W4.drew.heap.size W4.drew w3)->w2.heap.size<=w3.heap.size/\sB<w3.heap.size):=fun w3 h=>by
    have:=h.out.size;constructor<;>omega
   have HSb3:Hid (∀w3,Hid (Below W4.drew.heap.size W4.drew w3)->w3.heap[sB]? =some (.cells #[.slice sa j sca] 24)):=fun w3 h=>(h.out.block _ (by omega)).trans ((HB4.out.block _ lsb).trans HSb.out)
   have HOw:Hid (∀w3,Hid (Below W4.drew.heap.size W4.drew w3)->w3.ownsRow w2.heap.size 73 10 (.slice sa j sca) j xs):=fun w3 h=>Uk (Uk HP.out.ow HB4.out) h.out
   have HNe:Hid (some sB≠(Value.slice sa j sca).ownBlock):=fun e=>Fw HP.out.ow HSb.out (fun cur e=>by cases e) e.symm
   have HNr:Hid (some rB≠(Value.slice sa j sca).ownBlock):=fun e=>by have:=(HP.out.ow.lt _ e.symm).2;omega
   have HNu:Hid (some ub≠(Value.slice sa j sca).ownBlock):=fun e=>by have:=(HP.out.ow.lt _ e.symm).1;omega
   have HrB:Hid (rB=wr.heap.size):=hrB;have m1:j+1<=maxLen:=by unfold maxLen;omega
   have m2:(j+1)*112<=140737488355328:=by omega
   clear hW4 hrB z0 z1 z2 z3 z4 z5 z6 z7 z8 z9 t0 t1 x0 x1 x2;refine Xd 15 (fun W:World=>W.cell? ⟨sB,0,none⟩=some (.slice sa j sca)/\W.cell? ⟨rB,0,none⟩=some (.string N0)/\W.cell? ⟨ub,j*3,none⟩=some (.bool y1)/\W.cell? ⟨ub,j*3+1,none⟩=some (.bool y2)/\W.cell? ⟨ub,j*3+2,none⟩=some (.bool y3)) (by kernel_rfl) HS0.out (fun hHeld=> ?_)
   (refine Qz (i:=0) (oi:=({dst:=some 26,op:=Op.fieldAddr 24 (Operand.tmp 6) 0,type:=0,pos:="brief.go:18",after:=#[],guard:=none}:Oper)) (v:= ?_) rfl (by kernel_rfl) (by kernel_rfl) (by kernel_rfl) (fun _ _ _ h=>h) (Or.inl ⟨by rfl,?_⟩) hHeld ?_;rotate_left;(intro w hSw;(try dsimp only at hSw);go_simp;(try with_reducible rfl));skip)
   (try simp only[Act.put,List.setIfInBounds_toArray,List.set_cons_zero,List.set_cons_succ])
   (refine Qz (i:=1) (oi:=({dst:=some 27,op:=Op.load 22 (Operand.tmp 26),type:=22,pos:="brief.go:18",after:=#[{on:=0,ground:=Ground.data}],guard:=none}:Oper)) (v:= ?_) rfl (by kernel_rfl) (by kernel_rfl) (by kernel_rfl) (fun _ _ _ h=>h) (Or.inl ⟨by rfl,?_⟩) hHeld ?_;rotate_left;(intro w hSw;(try dsimp only at hSw);go_simp;(try with_reducible rfl));skip)
   (try simp only[Act.put,List.setIfInBounds_toArray,List.set_cons_zero,List.set_cons_succ])
   (refine Qz (i:=2) (oi:=({dst:=some 28,op:=Op.fieldAddr 73 (Operand.tmp 8) 0,type:=0,pos:="brief.go:18",after:=#[],guard:=none}:Oper)) (v:= ?_) rfl (by kernel_rfl) (by kernel_rfl) (by kernel_rfl) (fun _ _ _ h=>h) (Or.inl ⟨by rfl,?_⟩) hHeld ?_;rotate_left;(intro w hSw;(try dsimp only at hSw);go_simp;(try with_reducible rfl));skip)
   (try simp only[Act.put,List.setIfInBounds_toArray,List.set_cons_zero,List.set_cons_succ])
   (refine Qz (i:=3) (oi:=({dst:=some 29,op:=Op.load 9 (Operand.tmp 28),type:=9,pos:="brief.go:18",after:=#[{on:=2,ground:=Ground.data}],guard:=none}:Oper)) (v:= ?_) rfl (by kernel_rfl) (by kernel_rfl) (by kernel_rfl) (fun _ _ _ h=>h) (Or.inl ⟨by rfl,?_⟩) hHeld ?_;rotate_left;(intro w hSw;(try dsimp only at hSw);go_simp;(try with_reducible rfl));skip)
   (try simp only[Act.put,List.setIfInBounds_toArray,List.set_cons_zero,List.set_cons_succ])
   (refine Qz (i:=4) (oi:=({dst:=some 30,op:=Op.fieldAddr 73 (Operand.tmp 8) 0,type:=0,pos:="brief.go:18",after:=#[],guard:=none}:Oper)) (v:= ?_) rfl (by kernel_rfl) (by kernel_rfl) (by kernel_rfl) (fun _ _ _ h=>h) (Or.inl ⟨by rfl,?_⟩) hHeld ?_;rotate_left;(intro w hSw;(try dsimp only at hSw);go_simp;(try with_reducible rfl));skip)
   (try simp only[Act.put,List.setIfInBounds_toArray,List.set_cons_zero,List.set_cons_succ])
   (refine Qz (i:=5) (oi:=({dst:=some 31,op:=Op.load 9 (Operand.tmp 30),type:=9,pos:="brief.go:18",after:=#[{on:=4,ground:=Ground.data}],guard:=none}:Oper)) (v:= ?_) rfl (by kernel_rfl) (by kernel_rfl) (by kernel_rfl) (fun _ _ _ h=>h) (Or.inl ⟨by rfl,?_⟩) hHeld ?_;rotate_left;(intro w hSw;(try dsimp only at hSw);go_simp;(try with_reducible rfl));skip)
   (try simp only[Act.put,List.setIfInBounds_toArray,List.set_cons_zero,List.set_cons_succ])
   (refine Qz (i:=6) (oi:=({dst:=some 32,op:=Op.move (Operand.tmp 4),type:=132,pos:="brief.go:18",after:=#[],guard:=none}:Oper)) (v:= ?_) rfl (by kernel_rfl) (by kernel_rfl) (by kernel_rfl) (fun _ _ _ h=>h) (Or.inl ⟨by rfl,?_⟩) hHeld ?_;rotate_left;(intro w hSw;(try dsimp only at hSw);go_simp;(try with_reducible rfl));skip)
   (try simp only[Act.put,List.setIfInBounds_toArray,List.set_cons_zero,List.set_cons_succ])
   (refine Qz (i:=7) (oi:=({dst:=some 33,op:=Op.move (Operand.tmp 7),type:=3,pos:="brief.go:18",after:=#[],guard:=none}:Oper)) (v:= ?_) rfl (by kernel_rfl) (by kernel_rfl) (by kernel_rfl) (fun _ _ _ h=>h) (Or.inl ⟨by rfl,?_⟩) hHeld ?_;rotate_left;(intro w hSw;(try dsimp only at hSw);go_simp;(try with_reducible rfl));skip)
   (try simp only[Act.put,List.setIfInBounds_toArray,List.set_cons_zero,List.set_cons_succ])
   (refine Qz (i:=8) (oi:=({dst:=some 34,op:=Op.indexAddr 132 (Operand.tmp 32) (Operand.tmp 33),type:=0,pos:="brief.go:18",after:=#[{on:=6,ground:=Ground.data},{on:=7,ground:=Ground.data}],guard:=none}:Oper)) (v:= ?_) rfl (by kernel_rfl) (by kernel_rfl) (by kernel_rfl) (fun _ _ _ h=>h) (Or.inl ⟨by rfl,?_⟩) hHeld ?_;rotate_left;(intro w hSw;(try dsimp only at hSw);go_simp;(try with_reducible rfl));skip)
   (try simp only[Act.put,List.setIfInBounds_toArray,List.set_cons_zero,List.set_cons_succ])
   (refine Qz (i:=9) (oi:=({dst:=some 35,op:=Op.load 199 (Operand.tmp 34),type:=199,pos:="brief.go:18",after:=#[{on:=8,ground:=Ground.data}],guard:=none}:Oper)) (v:= ?_) rfl (by kernel_rfl) (by kernel_rfl) (by kernel_rfl) (fun _ _ _ h=>h) (Or.inl ⟨by rfl,?_⟩) hHeld ?_;rotate_left;(intro w hSw;(try dsimp only at hSw);go_simp;(try with_reducible rfl));skip)
   (try simp only[Act.put,List.setIfInBounds_toArray,List.set_cons_zero,List.set_cons_succ])
   (refine Zz (i:=10) (o:=({dst:=some 36,op:=Op.call {callee:=Callee.value (Operand.func 134),args:=#[Operand.tmp 31,Operand.tmp 35],argTypes:=#[9,199]},type:=71,pos:="brief.go:18",after:=#[{on:=5,ground:=Ground.data},{on:=9,ground:=Ground.data}],guard:=none}:Oper)) (by kernel_rfl) rfl (fun K hK=> ?_);go_simp;refine(HSt.out _).mono ?_;rintro e w3 ⟨k3,T3,a3,b3,c3,d3,so3,n3,cap3,p3,rfl,HQ3,HB3⟩;go_simp;replace hHeld:=z4L hHeld HB3.out;refine hK.out _ _ hHeld ?_;clear hK K)
   (try simp only[Act.put,List.setIfInBounds_toArray,List.set_cons_zero,List.set_cons_succ])
   (refine Qz (i:=11) (oi:=({dst:=some 37,op:=Op.build 73 #[(0,Operand.tmp 29),(1,Operand.tmp 36)],type:=73,pos:="brief.go:18",after:=#[{on:=3,ground:=Ground.data},{on:=10,ground:=Ground.data}],guard:=none}:Oper)) (v:= ?_) rfl (by kernel_rfl) (by kernel_rfl) (by kernel_rfl) (fun _ _ _ h=>h) (Or.inl ⟨by rfl,?_⟩) hHeld ?_;rotate_left;(intro w hSw;(try dsimp only at hSw);go_simp;(try with_reducible rfl));skip)
   (try simp only[Act.put,List.setIfInBounds_toArray,List.set_cons_zero,List.set_cons_succ])
   (refine Zz (i:=12) (o:=({dst:=some 38,op:=Op.buildSlice 22 1 #[(0,Operand.tmp 37)],type:=22,pos:="brief.go:18",after:=#[{on:=11,ground:=Ground.data}],guard:=none}:Oper)) (by kernel_rfl) rfl (fun K hK=> ?_);go_simp;replace hHeld:=z4L hHeld ((Below.refl _ w3).alloc L0q (.cells #[.string N0,.int .i64 k3,.string T3,.int .u64 a3,.int .u64 b3,.int .u64 c3,.int .u64 d3,.slice so3 n3 cap3,.int .i64 p3,.int .i64 0] 73));refine hK.out _ _ hHeld ?_;clear hK K)
   (try simp only[Act.put,List.setIfInBounds_toArray,List.set_cons_zero,List.set_cons_succ])
   (refine Zz (i:=13) (o:=({dst:=some 39,op:=Op.call {callee:=Callee.builtin Builtin.append,args:=#[Operand.tmp 27,Operand.tmp 38],argTypes:=#[22,22]},type:=22,pos:="brief.go:18",after:=#[{on:=1,ground:=Ground.data},{on:=12,ground:=Ground.data},{on:=10,ground:=Ground.chain}],guard:=none}:Oper)) (by kernel_rfl) rfl (fun K hK=> ?_);refine step_append_lies _ rfl (.tmp 27) (.tmp 38) 22 rfl w2.heap.size 73 iT (.agg #[.string ⟨#[]⟩,.int .i64 0,.string ⟨#[]⟩,.int .u64 0,.int .u64 0,.int .u64 0,.int .u64 0,.slice none 0 0,.int .i64 0,.int .i64 0]) 10 112 Tryz.underlying22 hiT hzT0 hzT1 hzT2 rfl (by decide) (.slice sa j sca) j xs (by rfl) ((HOw.out w3 HB3).alloc _) ⟨w3.heap.size,0,none⟩ 1 1 [.string N0,.int .i64 k3,.string T3,.int .u64 a3,.int .u64 b3,.int .u64 c3,.int .u64 d3,.slice so3 n3 cap3,.int .i64 p3,.int .i64 0] (by rfl) rfl (Cd w3 _ _ _ _ _ _ _ _ _ _ _) (y0M _ _ _ _ _ _ _ _ _ _ _ _) (by decide) m1 m2 (by rw[World.size_alloc];have:=HSz.out w3 HB3;omega) _ rfl ?_;intro g6 cap6 w6 hown6 hgr6 hat6 hlt6;have hS6:=((hgr6.block sB (by rw[World.size_alloc];have:=HSz.out w3 HB3;omega) HNe.out).trans (Below.heap_alloc _ _ _ (HSz.out w3 HB3).2)).trans (HSb3.out w3 HB3);replace hHeld:=y2H hHeld HNe.out HNr.out HNu.out hgr6;refine hK.out _ _ hHeld ?_;clear hK K)
   (try simp only[Act.put,List.setIfInBounds_toArray,List.set_cons_zero,List.set_cons_succ])
   (refine Qz (i:=14) (oi:=({dst:=some 40,op:=Op.fieldAddr 24 (Operand.tmp 6) 0,type:=0,pos:="brief.go:18",after:=#[{on:=0,ground:=Ground.phase},{on:=1,ground:=Ground.phase},{on:=2,ground:=Ground.phase},{on:=3,ground:=Ground.phase},{on:=4,ground:=Ground.phase},{on:=5,ground:=Ground.phase},{on:=6,ground:=Ground.phase},{on:=7,ground:=Ground.phase},{on:=8,ground:=Ground.phase},{on:=9,ground:=Ground.phase},{on:=10,ground:=Ground.phase},{on:=11,ground:=Ground.phase},{on:=12,ground:=Ground.phase},{on:=13,ground:=Ground.phase}],guard:=none}:Oper)) (v:= ?_) rfl (by kernel_rfl) (by kernel_rfl) (by kernel_rfl) (fun _ _ _ h=>h) (Or.inl ⟨by rfl,?_⟩) hHeld ?_;rotate_left;(intro w hSw;(try dsimp only at hSw);go_simp;(try with_reducible rfl));skip)
   (try simp only[Act.put,List.setIfInBounds_toArray,List.set_cons_zero,List.set_cons_succ])
   refine Gz (o:=({dst:=none,op:=Op.store 22 (Operand.tmp 40) (Operand.tmp 39),type:=0,pos:="brief.go:18",after:=#[{on:=14,ground:=Ground.data},{on:=13,ground:=Ground.data},{on:=13,ground:=Ground.chain},{on:=0,ground:=Ground.phase},{on:=1,ground:=Ground.phase},{on:=2,ground:=Ground.phase},{on:=3,ground:=Ground.phase},{on:=4,ground:=Ground.phase},{on:=5,ground:=Ground.phase},{on:=6,ground:=Ground.phase},{on:=7,ground:=Ground.phase},{on:=8,ground:=Ground.phase},{on:=9,ground:=Ground.phase},{on:=10,ground:=Ground.phase},{on:=11,ground:=Ground.phase},{on:=12,ground:=Ground.phase},{on:=13,ground:=Ground.phase}],guard:=none}:Oper)) (by kernel_rfl) (by kernel_rfl) rfl (fun K hK=> ?_);obtain⟨s0,s1⟩:=Qk hS6;have ls:=Qq hS6;clear hHeld
   go_simp
   refine hK.out _ _ ?_;clear hK K;have hst:=PqR.step HP.out hjp HXx.out (HB4.out.trans (HB3.out.mono (by rw[hs4];omega))) ⟨r8 k3 T3 a3 b3 c3 d3 so3 n3 cap3 p3,rfl,Zm.kept (fun g cur hp _=>⟨rfl,Nat.le_trans (by rw[hs4];omega) hp⟩) _ _ HQ3.out⟩ ((Below.refl _ w3).alloc L0q _) hown6 hgr6;have HSt2:=hid (hst.put (v:=.slice (some ⟨g6,0,none⟩) (j+1) cap6) hS6 (by rw[HsB.out];exact Nat.le_refl _));have HSb6:=hid (Qh hS6 0 (.slice (some ⟨g6,0,none⟩) (j+1) cap6));clear hst hown6 hgr6 hat6 hlt6 hS6 HQ3 HB3 s0 s1 HSt HS0
   go_wp2_with fail
   exact⟨⟨j+1,_,_,by go_num,by omega,HSt2,HSb6⟩,by simp[intOf];omega⟩
  ·have a0:decide ((j:Int)<(n:Int))=false:=by simp;omega
   obtain rfl:j=n:=by omega
   have hpl:(bG rs KK).length=j:=by rw[z4M];exact HNl.out.symm
   have hq:=HP.out.rq;rw[List.take_of_length_le (by rw[hpl];exact Nat.le_refl _)]at hq;have hR3:=(HP.out.be.block _ (Qq HR2.out)).trans HR2.out;obtain⟨u0,f0⟩:=Qk hR3;have lr:=Qq hR3;have HR3:=hid hR3;obtain⟨t0,t1⟩:=Qk HSb.out;have lsb:=Qq HSb.out;have hset:wr.grownBy (wr.setCell ⟨w.heap.size+1,0,none⟩ (.slice sa j sca)) (some (w.heap.size+1)):=grownBy_setCell' _ _ _;have HFin:Hid (Qy (wr.setCell ⟨w.heap.size+1,0,none⟩ (.slice sa j sca)) (wr.setCell ⟨w.heap.size+1,0,none⟩ (.slice sa j sca)).heap.size sa j (bG rs KK)):=by
    have ho':=HP.out.ow.kept hset (.inr (fun e=>by have:=(HP.out.ow.lt _ e).1;have:=Qq HR2.out;omega));have hq':Zb (wr.setCell ⟨w.heap.size+1,0,none⟩ (.slice sa j sca)) (fun g=>w2.heap.size<=g) (bG rs KK) xs:=Zb.kept (fun g cur hp _=>⟨Below.heap_setCell _ _ _ _ (fun e=>by have e2:g=w.heap.size+1:=e;have:=Qq HR2.out;omega),hp⟩) _ _ hq;obtain⟨so',cap',ea,hrg⟩:=Zb.is ho' hpl.symm hq';simp only[Value.slice.injEq]at ea;obtain⟨rfl,-,rfl⟩:=ea;exact hrg
   have HBf:Hid (Below w.heap.size w (wr.setCell ⟨w.heap.size+1,0,none⟩ (.slice sa j sca))):=HBw.out.setCell (p:=⟨w.heap.size+1,0,none⟩) (by show w.heap.size<=_+1;omega) _;clear hq hset hR3 hpl
   go_wp2_with fail
   have r0:=(Qk (Qh HR3.out 0 (.slice sa j sca))).1;refine bodyPost_ret (v:=.tuple #[.agg #[.slice sa j sca],.nilIface]) (by simp[results,Tryz.results100,go_sem,r0]) rfl ?_;refine⟨HBf.out,.inr ⟨rfl,sa,sca,m,by rw[<-HNl.out],HFx.out,?_⟩⟩;rw[<-HNl.out,<-HKK.out];exact HFin.out
theorem y2M(so:Option Addr)(n cap:Nat)(rs:List Rr)(X:Option (Int ⊕ (Int×Int)))(B:Nat)(w:World)(hX:CkX rs X)(hC:CkC so n cap rs X w)(hz:RgZ rs)(h:Qy w B so n rs)(hB:B<=w.heap.size):∀W:World,Below w.heap.size w W->Calls prog 100 #[.agg #[.slice so n cap]] W (BfP rs X W):=fun W hW=>by
 have hup:∀{W'},Below W.heap.size W W'->Below w.heap.size w W':=fun hW'=>hW.trans (hW'.mono hW.size)
 have hRu:=fun(W':World) (hW':Below W.heap.size W W')=>y1Z so n cap rs X B w hX hC hz h hB W' (hup hW')
 cases X with
 |some x=>
  refine(y2J so n cap (some x) W (hid fun W' hW'=>(hRu W' hW').mono fun e w' he=> ?_)).mono fun e w' he=> ?_
  ·obtain⟨hb,⟨_,v,h1,h2⟩|⟨h0,_⟩⟩:=he
   ·obtain⟨tt,uu,rfl⟩:=h2.shape (by simp)
    exact⟨tt,uu,h1,h2,hb⟩
   ·cases h0
  ·obtain⟨v,h1,h2,h3⟩:=he
   exact⟨h3,.inl ⟨by simp,v,h1,h2⟩⟩
 |none=>
  have hlen:=(Gb hX.1).2;exact y2L so n cap rs W ((h.below (hW.mono hB)).upto (Nat.le_trans hB hW.size)) (by have:=h.1;omega) (hid hRu)
open Go.Extern.Stop Go.Stop Go.Extern
theorem Tryz.isTypeOf(v:Value)(w:World):(Extern.ReflectliteType.typeOf #[.iface 379 v]).run prog w=.ok (.iface 206 (.agg #[.pointer (some ⟨6,379,none⟩)])) w:=by kernel_rfl
theorem Tryz.isComparable(w:World):((Extern.ReflectliteType.method fun t=>do Go.Extern.Rtype.noPackHeld "Comparable" t;pure (Value.bool (<-typeInfo t).comparable)) #[.agg #[.pointer (some ⟨6,379,none⟩)]]).run prog w=.ok (.bool true) w:=by kernel_rfl
theorem Tryz.callComparable(w:World):(callFunc 337 #[.agg #[.pointer (some ⟨6,379,none⟩)]]).run prog w=.ok (.value (.bool true)) w:=by
 rw[@run_callFunc_extern prog 337 _ (Extern.ReflectliteType.method fun t=>do Go.Extern.Rtype.noPackHeld "Comparable" t;pure (Value.bool (<-typeInfo t).comparable)) func337 (by kernel_rfl) (by kernel_rfl) (by kernel_rfl) (by kernel_rfl),Tryz.isComparable];rfl
theorem Tryz.isMethodComparable(v:Value)(w:World):(Go.method 510 206 v "Comparable").run prog w=.ok (337,v) w:=by kernel_rfl
theorem Tryz.isComp:(Tryz.prog.info? 379).map (·.comparable)=some true:=by kernel_rfl
theorem Tryz.isSize:(Tryz.prog.info? 398).map (·.size)=some 1:=by kernel_rfl
theorem y2N(a:Addr)(w:World):
  Calls prog 138 #[.iface 379 (.pointer (some a)),.iface 379 (.pointer (some a))] w fun e w'=>e=.returned (.bool true)/\w'=w:=by
 obtain⟨i,hi,hcmp⟩:=Option.map_eq_some_iff.1 Tryz.isComp;obtain⟨j,hj,hjs⟩:=Option.map_eq_some_iff.1 Tryz.isSize;have h8:= @run_callFunc_extern prog 112 _ Extern.ReflectliteType.typeOf func112 (by kernel_rfl) (by kernel_rfl) (by kernel_rfl) (by kernel_rfl);have h32:=Tryz.callComparable;have tT:=Tryz.isTypeOf;have mR:=Tryz.isMethodComparable;have heq:=run_eql_iface_ptr_same (P:=prog) w a Tryz.underlying33 Tryz.underlying379 hi hcmp hj;go_enter func138,ntmps138
 go_wp2
 refine wp_loop_rounds 1 ?_;rw[rounds_succ]
 go_wp2
 go_ret;exact⟨rfl,rfl⟩
theorem y2O(b:Addr)(w:World):
  Calls prog 138 #[.nilIface,.iface 379 (.pointer (some b))] w fun e w'=>e=.returned (.bool false)/\w'=w:=by
 have hn:=run_eql_iface_nil_left (P:=prog) w 379 (.pointer (some b)) Tryz.underlying33;go_enter func138,ntmps138
 go_wp2
 go_ret;exact⟨rfl,rfl⟩
end Go.Proofs.YtlogolpcipiceaaGreatDoor
