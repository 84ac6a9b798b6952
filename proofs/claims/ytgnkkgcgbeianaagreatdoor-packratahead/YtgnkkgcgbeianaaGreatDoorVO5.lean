/- Lemmas for the last text. Conditions: those that each names. -/
import Derived.Test.YtgnkkgcgbeianaaGreatDoorVS1ToO4
set_option linter.unusedVariables false
set_option maxRecDepth 100000
set_option maxHeartbeats 8000000
namespace Go.Proofs.YtgnkkgcgbeianaaGreatDoor
open Go.Proofs.Tryz
open Go.RowKit Go.Shelf Go.Maps
attribute [local go_sem] Oper.semAt_some
theorem Wy{X Y:World}{row:Option Nat}{b:Nat}{cur:Array Value}{t:TypeId}(h:X.heap[b]? =some (.cells cur t))(A:X.grownBy Y row)(D:∀r,row=some r->∃o:Obj,X.heap[r]? =some o/\o.isCells=false):Y.heap[b]? =some (.cells cur t):=
 (A.block b (Array.getElem?_eq_some_iff.1 h).1 (fun e=>by obtain⟨o,y,E⟩:=D b e.symm;rw[h]at y;cases y;cases E)).trans h
theorem y2s(so:Option Addr)(n E:Nat)(rs:List Rr)(w:World)(h:Qf w w.heap.size so n rs)
  (bu:5<w.heap.size)(HZ:Hid (RgZ rs))(HP:Hid (∀W:World,Below w.heap.size w W->Calls prog 225 #[.agg #[.slice so n E]] W fun e w'=>e=.returned .nilIface/\Below W.heap.size W w'))(m:Nat):
  CallsIn Fence.wide (m+5) prog 189 #[.agg #[.slice so n E]] w (CkP w rs):=by
 have bv:=Xm;have a6:=y2r;obtain⟨W0,ag⟩:∃W0,W0=((w.alloc (.cells #[.slice so n E] 43)).alloc (.cells #[.map none] 127)).alloc (.cells #[.nilIface] 30):=⟨_,rfl⟩;have ax:Below w.heap.size w W0:=by rw[ag];exact(((Below.refl _ w).alloc L0q _).alloc (by simp) _).alloc (by simp;omega) _
 have c1:W0.heap[w.heap.size]? =some (.cells #[.slice so n E] 43):=by
  rw[ag];exact(Below.heap_alloc _ _ _ (by simp;omega)).trans ((Below.heap_alloc _ _ _ (by simp)).trans (Qx w _ rfl))
 have c2:W0.heap[w.heap.size+1]? =some (.cells #[.map none] 127):=by
  rw[ag];exact(Below.heap_alloc _ _ _ (by simp)).trans (Qx _ _ (by simp))
 have c3:W0.heap[w.heap.size+1+1]? =some (.cells #[.nilIface] 30):=by
  rw[ag];exact Qx _ _ (by simp)
 have a7:W0.heap.size=w.heap.size+1+1+1:=by rw[ag];simp
 have aO:=hid (HP.out W0 ax);refine callsIn_of_wp_marks func189 rfl trivial ?_ rfl;simp only[ntmps189,List.size_toArray,List.length_cons,List.length_nil,Nat.reduceAdd,Nat.reduceSub,Array.replicate_succ,Array.replicate_zero,List.push_toArray,List.append_toArray,List.nil_append,List.cons_append]
 gi_wp2
 rw[<-ag];clear ag;refine⟨trivial,?_⟩;refine(callsIn_wide.2 aO.out).mono ?_;rintro e W1 ⟨rfl,ak⟩;have y:=(ak.block _ (by omega)).trans c1;have d2:=(ak.block _ (by omega)).trans c2;have d3:=(ak.block _ (by omega)).trans c3;have a8:=ak.size;clear aO;obtain⟨e1,_⟩:=Qw y;have a9:w.heap.size<W1.heap.size:=by omega
 have aP:Hid (Below w.heap.size w W1):=ax.trans (ak.mono ax.size);obtain⟨M,hM⟩:∃M,M=W1.heap.size:=⟨_,rfl⟩;obtain⟨V,ae⟩:∃V,V=(W1.alloc (.map #[] 0)).alloc (.cells #[.map (some W1.heap.size)] 127):=⟨_,rfl⟩;have ba:Hid (Pm V M []):=by
  rw[ae,hM];exact(Pm.made W1).kept (World.grownBy_alloc _ _ none) (by simp)
 have bb:Hid (Below w.heap.size w V):=by
  rw[ae];exact((aP.out.alloc aP.out.size _).alloc (by simp;omega) _)
 have HV:Hid (V.heap[M+1]? =some (.cells #[.map (some M)] 127)):=by
  rw[ae,hM];exact Qx _ _ (by simp)
 have H1:Hid (V.heap[w.heap.size]? =some (.cells #[.slice so n E] 43)):=by
  rw[ae];exact(Below.heap_alloc _ _ _ (by simp;omega)).trans ((Below.heap_alloc _ _ _ (by omega)).trans y)
 have H2:Hid (V.heap[w.heap.size+1]? =some (.cells #[.map none] 127)):=by
  rw[ae];exact(Below.heap_alloc _ _ _ (by simp;omega)).trans ((Below.heap_alloc _ _ _ (by omega)).trans d2)
 have H3:Hid (V.heap[w.heap.size+1+1]? =some (.cells #[.nilIface] 30)):=by
  rw[ae];exact(Below.heap_alloc _ _ _ (by simp;omega)).trans ((Below.heap_alloc _ _ _ (by omega)).trans d3)
 have HM:Hid (w.heap.size+1+1+1<=M):=by show _<=_;omega
 have bc:Hid (V.heap.size=M+1+1):=by show _=_;rw[ae,hM];simp
 have bw:n<=9223372036854775807:=by have:=h.2.1;unfold maxLen at this;omega
 have HR:=hid h;have ar:Hid (n=rs.length):=h.1
 gi_wp2
 rw[<-ae,<-hM];clear ae hM y d2 d3 e1 h a7 a8 ax c1 c2 c3 ak a9 a6
 gi_loopw [27] (fun i wr=>∃j:Nat,i=.int .i64 j/\j<=n/\Hid (Pm wr M (nmL (rs.take j)))/\Hid (Kx rs=Vv (nmL (rs.take j)) (rs.drop j))/\Hid (Kp3 w V M wr)) (fun i _=>n-(intOf i).toNat)
 case atStart=>exact⟨0,rfl,Nat.zero_le _,ba,rfl,⟨bb.out,Nat.le_of_eq bc.out.symm,fun _ _=>rfl,rfl⟩⟩
 case round=>
  obtain⟨j,rfl,hj,aH,au,ad⟩:=hrel;by_cases hjn:j<n
  ·have bx:(j:Int)<(n:Int):=by omega
   have a0:decide ((j:Int)<(n:Int))=true:=by simp;omega
   have al:j<rs.length:=by rw[<-ar.out];exact hjn
   obtain⟨g,o,rfl,hg,k1,T1,a1,b1,c1,y,aa,n1,ab,p1,aI,r0⟩:=HR.out.2.2 j al;have av:∀q,wr.cell? ⟨g,q,none⟩=w.cell? ⟨g,q,none⟩:=fun q=>ad.out.1.cell (p:=⟨g,q,none⟩) hg
   simp only[<-av]at r0;obtain⟨z0,z1,z2,z3,z4,z5,z6,z7,z8,z9⟩:=r0;have bd:g<wr.heap.size:=World.block_lt_of_cell? wr _ z0;obtain⟨N0,ah⟩:∃N0,N0=rs[j].1:=⟨_,rfl⟩;obtain⟨q1,am⟩:∃q1,q1=rs[j].2.2:=⟨_,rfl⟩;rw[<-ah]at z0;rw[<-am]at z9;have be:Hid (wr.heap[M+1]? =some (.cells #[.map (some M)] 127)):=ad.out.2.2.2.trans HV.out;obtain⟨v1,_⟩:=Qw be.out;have bz:M+1<wr.heap.size:=ad.out.2.1;obtain⟨D,ai,hD⟩:=aH.out;have ay:=ai.alloc (.cells #[.string N0,.int .i64 k1,.string T1,.int .u64 a1,.int .u64 b1,.int .u64 c1,.int .u64 y,.slice aa n1 ab,.int .i64 p1,.int .i64 q1] 83);have ao:N0.size<=maxLen:=by rw[ah];exact(HZ.out _ (List.getElem_mem al)).1
   have az:=hid ah;have bf:=hid am;clear av ah am;have hm:=HM.out;have y2:wr.heap[w.heap.size+1]? =some (.cells #[.map none] 127):=(ad.out.2.2.1 _ (by omega)).trans H2.out;have y3:wr.heap[w.heap.size+1+1]? =some (.cells #[.nilIface] 30):=(ad.out.2.2.1 _ (by omega)).trans H3.out;have l2:w.heap.size+1<wr.heap.size:=Qq y2;have l3:w.heap.size+1+1<wr.heap.size:=Qq y3;cases hin:inN N0 (nmL (rs.take j))with
   |true=>
    have hh:Maps.has D (kls N0)=true:=by rw[(hD N0).1,hin]
    gi_wp2_with (first
     |(gi_at_lookup;refine wpListIn_lookup_own_ok_int _ rfl _ _ 127 rfl 9 3 .i64 Kz Tryz.underlying127 Tryz.underlying3 (Ak _) M _ D rfl ay _ _ rfl (Kq ao) ?_;intro cc aA aB;rw[hh]))
    obtain⟨wa,ap⟩:∃wa,wa=wr.alloc (.cells #[.string N0,.int .i64 k1,.string T1,.int .u64 a1,.int .u64 b1,.int .u64 c1,.int .u64 y,.slice aa n1 ab,.int .i64 p1,.int .i64 q1] 83):=⟨_,rfl⟩;rw[<-ap];have ya:wa.heap[wr.heap.size]? =some (.cells #[.string N0,.int .i64 k1,.string T1,.int .u64 a1,.int .u64 b1,.int .u64 c1,.int .u64 y,.slice aa n1 ab,.int .i64 p1,.int .i64 q1] 83):=by rw[ap];exact Qx _ _ rfl
    have aJ:wa.heap[w.heap.size+1]? =some (.cells #[.map none] 127):=by rw[ap];exact(Below.heap_alloc _ _ _ l2).trans y2
    have aK:wa.heap[w.heap.size+1+1]? =some (.cells #[.nilIface] 30):=by rw[ap];exact(Below.heap_alloc _ _ _ l3).trans y3
    have aL:Hid (Below w.heap.size w wa):=by rw[ap];exact ad.out.1.alloc ad.out.1.size _
    have la:=Qq ya;have bA:=Qq aJ;have bC:=Qq aK;obtain⟨⟨r0,r1,r2,r3,r4,r5,r6,r7,bg,r9⟩,_⟩:=Ff ya;obtain⟨x2,f2⟩:=Qw aJ;obtain⟨x3,f3⟩:=Qw aK;clear ap ai ay z0 z1 z2 z3 z4 z5 z6 z7 z8 z9 v1 r0 r1 r2 r3 r4 r5 r6 r7 bg aA aB hh
    gi_region
    gi_wp2
    have b2:Boxed wa (w.heap.size+1) 127 (.map none):=aJ;have b3:Boxed wa (w.heap.size+1+1) 30 .nilIface:=aK;have y:=(((b2.set (.map none)).other (B':=w.heap.size+1+1) (by omega) (.iface 134 (.pointer (some ⟨wa.heap.size,0,none⟩)))).alloc (.cells #[.int .i64 30,.int .i64 q1] 136)).cell;have d2:=(((b3.other (B':=w.heap.size+1) (by omega) (.map none)).set (.iface 134 (.pointer (some ⟨wa.heap.size,0,none⟩)))).alloc (.cells #[.int .i64 30,.int .i64 q1] 136)).cell;refine⟨.tuple #[.map none,.iface 134 (.pointer (some ⟨wa.heap.size,0,none⟩))],by simp[results,Tryz.f189,go_sem,y,d2],?_,.inl ⟨30,q1,wa.heap.size,?_,rfl,aL.out.size,?_⟩⟩
    ·exact(((aL.out.setCell (p:=⟨w.heap.size+1,0,none⟩) (by show w.heap.size<=_+1;omega) _).setCell (p:=⟨w.heap.size+1+1,0,none⟩) (by show w.heap.size<=_+1+1;omega) _).alloc (by simp;exact aL.out.size) _).drew
    ·unfold ckR
     rw[au.out,z3O _ _ j al,<-az.out,<-bf.out,hin];rfl
    ·exact Qx _ _ (by simp)
   |false=>
    have hh:Maps.has D (kls N0)=false:=by rw[(hD N0).1,hin]
    gi_wp2_with (first
     |(gi_at_lookup;refine wpListIn_lookup_own_ok_int _ rfl _ _ 127 rfl 9 3 .i64 Kz Tryz.underlying127 Tryz.underlying3 (Ak _) M _ D rfl ay _ _ rfl (Kq ao) ?_;intro cc aA aB;rw[hh])
     |(gi_at_mapUpdate;refine wpListIn_mapUpdate_own _ rfl _ _ _ 127 rfl 9 3 Kz Tryz.underlying127 _ M _ D rfl ay (by rw[nmL,List.length_map,List.length_take];unfold maxLen;omega) _ _ _ rfl rfl (Kq ao) _ [] (plainElem_int Tryz.underlying3 (WalkArith.wf_i64 (by omega))) ?_;intro w1 aQ bh))
    have aR:(nmL (rs.take j)).length=j:=by rw[nmL,List.length_map,List.length_take];omega
    refine⟨⟨j+1,by go_num,by omega,hid ?_,hid ?_,hid (ad.out.step bh (by omega))⟩,by simp[intOf];omega⟩
    ·show Pm _ _ _
     rw[z3P rs j al,<-az.out];exact Pm.put hD ai.isMap hin (by rw[aR];rw[aR]at aQ;exact aQ)
    ·show _=_
     rw[au.out,z3O _ _ j al,<-az.out,hin,z3P rs j al,<-az.out];rfl
  ·have a0:decide ((j:Int)<(n:Int))=false:=by simp;omega
   have aq:rs.take j=rs:=List.take_of_length_le (by rw[<-ar.out];omega);have aS:rs.drop j=[]:=List.drop_eq_nil_of_le (by rw[<-ar.out];omega);rw[aq,aS]at au;rw[aq]at aH;have hm:=HM.out;have y1:wr.heap[w.heap.size]? =some (.cells #[.slice so n E] 43):=(ad.out.2.2.1 _ (by omega)).trans H1.out;obtain⟨x1,f1⟩:=Qw y1;clear aq aS
   gi_wp2
   clear x1 f1 y1 a0 hjn hj;refine wpIn_loop (fun a' w'=>∃(i:Nat) (aT aU aV aW aX aY aZ aC:Value) (ds:List Deferred),a'={tmps:=#[.agg #[.slice so n E],.pointer (some ⟨w.heap.size,0,none⟩),.pointer (some ⟨w.heap.size+1,0,none⟩),.pointer (some ⟨w.heap.size+1+1,0,none⟩),.nilIface,.pointer (some ⟨M+1,0,none⟩),u6,u7,u8,u9,undef,aT,undef,undef,undef,.agg #[.slice so n E],.nilIface,.nilIface,.bool false,undef,.pointer (some ⟨w.heap.size,0,none⟩),.slice so n E,.int .i64 n,.map (some M),.pointer (some ⟨w.heap.size,0,none⟩),.slice so n E,.int .i64 n,.int .i64 j,.bool false,u29,u30,u31,u32,u33,u34,u35,u36,u37,u38,u39,u40,u41,u42,u43,u44,u45,u46,u47,u48,u49,.pointer (some ⟨w.heap.size,0,none⟩),.slice so n E,.int .i64 n,.int .i64 i,aU,aV,aW,aX,aY,aZ,undef,undef,undef,undef,undef,undef,undef,undef,undef,undef,undef,undef,undef,undef,undef,aC,undef],defers:=ds}/\i<=n/\Hid (Pm w' M (nmL rs))/\Hid (Xj (nmL rs) (rfG (rs.take i))=none)/\Hid (Kp3 w V M w')/\Hid (Mks w.heap.size w'.heap.size ds w')) (fun a' _=>n-(intOf (a'.tmps.getD 53 undef)).toNat) ?_ ?_
   ·exact⟨0,undef,undef,undef,undef,undef,undef,undef,undef,[],rfl,Nat.zero_le _,aH,by show _=_;rw[List.take_zero,rfG,Xj],ad,trivial⟩
   ·rintro a' t ⟨i,aT,aU,aV,aW,aX,aY,aZ,aC,ds,rfl,hi,a2,aD,af,a3⟩
    have bD:M+1<t.heap.size:=af.out.2.1;have y2:t.heap[w.heap.size+1]? =some (.cells #[.map none] 127):=(af.out.2.2.1 _ (by omega)).trans H2.out;have y3:t.heap[w.heap.size+1+1]? =some (.cells #[.nilIface] 30):=(af.out.2.2.1 _ (by omega)).trans H3.out;have yM:t.heap[M+1]? =some (.cells #[.map (some M)] 127):=af.out.2.2.2.trans HV.out;by_cases hin:i<n
    ·have bE:(i:Int)<(n:Int):=by omega
     have a0:decide ((i:Int)<(n:Int))=true:=by simp;omega
     have aE:i<rs.length:=by rw[<-ar.out];exact hin
     obtain⟨g,o,rfl,hg,k1,T1,a1,b1,c1,y,aa,n1,ab,p1,aI,r0⟩:=HR.out.2.2 i aE;have av:∀q,t.cell? ⟨g,q,none⟩=w.cell? ⟨g,q,none⟩:=fun q=>af.out.1.cell (p:=⟨g,q,none⟩) hg
     simp only[<-av]at r0;obtain⟨z0,z1,z2,z3,z4,z5,z6,z7,z8,z9⟩:=r0;have bd:g<t.heap.size:=World.block_lt_of_cell? t _ z0;obtain⟨N0,ah⟩:∃N0,N0=rs[i].1:=⟨_,rfl⟩;obtain⟨q1,am⟩:∃q1,q1=rs[i].2.2:=⟨_,rfl⟩;rw[<-ah]at z0;rw[<-am]at z9;have bi:Hid (Qv w w.heap.size rs[i].2.1 (r8 k1 T1 a1 b1 c1 y aa n1 ab p1)):=aI;clear ah am av aI
     gi_wp2_with (first
      |(refine⟨trivial,?_⟩;gi_at_call 226;refine(y2l _ k1 T1 a1 b1 c1 y aa n1 ab p1 _).mono ?_;rintro e w4 ⟨rfl,rfl⟩))
     obtain⟨G,aw⟩:∃G,G=(t.alloc (.cells #[.string N0,.int .i64 k1,.string T1,.int .u64 a1,.int .u64 b1,.int .u64 c1,.int .u64 y,.slice aa n1 ab,.int .i64 p1,.int .i64 q1] 83)).alloc (.cells #[.int .i64 k1,.string T1,.int .u64 a1,.int .u64 b1,.int .u64 c1,.int .u64 y,.slice aa n1 ab,.int .i64 p1] 81):=⟨_,rfl⟩;rw[<-aw];have aF:Below t.heap.size t G:=by rw[aw];exact((Below.refl _ t).alloc L0q _).alloc (by simp) _
     have bF:G.heap.size=t.heap.size+1+1:=by rw[aw];simp
     have bj:G.heap[t.heap.size+1]? =some (.cells #[.int .i64 k1,.string T1,.int .u64 a1,.int .u64 b1,.int .u64 c1,.int .u64 y,.slice aa n1 ab,.int .i64 p1] 81):=by rw[aw];exact Qx _ _ (by simp)
     have a4:Hid (Kp3 w V M G):=af.out.below aF (by have:=af.out.1.size;omega) (by omega);have bk:Hid (Pm G M (nmL rs)):=a2.out.below aF (by omega);have bl:Hid (Mks w.heap.size t.heap.size ds G):=a3.out.below aF;have bm:=bi.out.below a4.out.1;have bG:w.heap.size<=t.heap.size:=af.out.1.size;have bn:Hid (∀W:World,Kp3 w V M W->Boxed W (w.heap.size+1) 127 (.map none)):=fun W hW=>(hW.2.2.1 _ (by omega)).trans H2.out
     have bo:Hid (∀W:World,Kp3 w V M W->Boxed W (w.heap.size+1+1) 30 .nilIface):=fun W hW=>(hW.2.2.1 _ (by omega)).trans H3.out
     have bp:Hid (∀W:World,Kp3 w V M W->Boxed W (M+1) 127 (.map (some M))):=fun W hW=>hW.2.2.2.trans HV.out
     clear aw aF z0 z1 z2 z3 z4 z5 z6 z7 z8 z9 y2 y3 yM;refine wpIn_rangeFunc_ownH rfl (by omega) (gf:=260) (lb:=#[.pointer (some ⟨t.heap.size+1,0,none⟩)]) rfl trivial (enters_of func260 (by kernel_rfl) rfl)
      (y2k (s0:=w.heap.size) rs[i].2.1 k1 T1 a1 b1 c1 y aa n1 ab p1 _ _ G bj bm (HZ.out _ (List.getElem_mem aE)).2) Kt.trans (fun W' l o o' Z A I U=>Kt.book W' l o o' (by omega) A I) B0q (fun _=>rfl)
      (fun ac W=>Pm W M (nmL rs)/\Kp3 w V M W/\Mks w.heap.size t.heap.size ds W/\G.heap.size<=W.heap.size/\Xj (nmL rs) (tps ac)=none)
      (fun c ac W=>c=.ret/\Below w.heap.size w W/\Mks w.heap.size t.heap.size ds W/\G.heap.size<=W.heap.size/\∃gf pf,Xj (nmL rs) (tps ac)=some pf/\Boxed W (w.heap.size+1) 127 (.map none)/\Boxed W (w.heap.size+1+1) 30 (.iface 134 (.pointer (some ⟨gf,0,none⟩)))/\w.heap.size<=gf/\W.heap[gf]? =some (.cells #[.int .i64 31,.int .i64 pf] 136))
      ?own ?ownx ⟨bk.out,a4.out,bl.out,Nat.le_refl _,rfl⟩
      (fun x a' W=>∃b,a'={tmps:=#[.agg #[.slice (some ⟨g,o,none⟩) n E],.pointer (some ⟨w.heap.size,0,none⟩),.pointer (some ⟨w.heap.size+1,0,none⟩),.pointer (some ⟨w.heap.size+1+1,0,none⟩),.nilIface,.pointer (some ⟨M+1,0,none⟩),u6,u7,u8,u9,undef,.pointer (some ⟨t.heap.size,0,none⟩),.pointer (some ⟨b,0,none⟩),undef,undef,.agg #[.slice (some ⟨g,o,none⟩) n E],.nilIface,.nilIface,.bool false,undef,.pointer (some ⟨w.heap.size,0,none⟩),.slice (some ⟨g,o,none⟩) n E,.int .i64 n,.map (some M),.pointer (some ⟨w.heap.size,0,none⟩),.slice (some ⟨g,o,none⟩) n E,.int .i64 n,.int .i64 j,.bool false,u29,u30,u31,u32,u33,u34,u35,u36,u37,u38,u39,u40,u41,u42,u43,u44,u45,u46,u47,u48,u49,.pointer (some ⟨w.heap.size,0,none⟩),.slice (some ⟨g,o,none⟩) n E,.int .i64 n,.int .i64 i,.bool true,.pointer (some ⟨g,o+i*10,none⟩),.agg #[.string N0,.int .i64 k1,.string T1,.int .u64 a1,.int .u64 b1,.int .u64 c1,.int .u64 y,.slice aa n1 ab,.int .i64 p1,.int .i64 q1],.pointer (some ⟨t.heap.size,1,none⟩),.agg #[.int .i64 k1,.string T1,.int .u64 a1,.int .u64 b1,.int .u64 c1,.int .u64 y,.slice aa n1 ab,.int .i64 p1],.func (.func 260) #[] #[.pointer (some ⟨t.heap.size+1,0,none⟩)],x.v,undef,undef,undef,undef,undef,undef,undef,undef,undef,undef,undef,undef,undef,undef,aC,undef],defers:=[]}/\W.heap[b]? =some (.cells #[.int .i64 x.k,.string x.T,.int .u64 x.a,.int .u64 x.b,.int .u64 x.c,.int .u64 x.d,.slice x.so x.n x.cap,.int .i64 x.p] 81))
      ?ownA ?assign ?Qm ?done ?stop
     case own=>
      rintro ac X Y row ⟨Z,A,I,U,h5⟩ hg hr;have hB:Below G.heap.size X Y:=(Below.refl _ X).grown hg U (fun k e=>(hr k e).1);exact⟨Z.below hB (by omega),A.below hB (by omega) (by omega),I.below (hB.mono (by omega)),Nat.le_trans U hB.size,h5⟩
     case ownx=>
      rintro c ac X Y row ⟨h0,Z,A,I,gf,pf,U,h5,h6,h7,h8⟩ hg hr;have hB:Below G.heap.size X Y:=(Below.refl _ X).grown hg I (fun k e=>(hr k e).1);have aM:=fun r e=>(hr r e).2
      exact⟨h0,Z.trans (hB.mono (by omega)),A.below (hB.mono (by omega)),Nat.le_trans I hB.size,gf,pf,U,Uk h5 hg aM,Uk h6 hg aM,h7,Wy h8 hg aM⟩
     case ownA=>
      rintro x a' _ X Y row ⟨b,Z,A⟩ hg hr;exact⟨b,Z,Wy A hg (fun r e=>(hr r e).2)⟩
     case assign=>
      rintro l ac x W K ⟨Z,A,I,U,h5⟩ hK;have hB:Below G.heap.size W (W.alloc (.cells #[.int .i64 x.k,.string x.T,.int .u64 x.a,.int .u64 x.b,.int .u64 x.c,.int .u64 x.d,.slice x.so x.n x.cap,.int .i64 x.p] 81)):=(Below.refl _ W).alloc U _;have HK:=hid (hK {tmps:=#[.agg #[.slice (some ⟨g,o,none⟩) n E],.pointer (some ⟨w.heap.size,0,none⟩),.pointer (some ⟨w.heap.size+1,0,none⟩),.pointer (some ⟨w.heap.size+1+1,0,none⟩),.nilIface,.pointer (some ⟨M+1,0,none⟩),u6,u7,u8,u9,undef,.pointer (some ⟨t.heap.size,0,none⟩),.pointer (some ⟨W.heap.size,0,none⟩),undef,undef,.agg #[.slice (some ⟨g,o,none⟩) n E],.nilIface,.nilIface,.bool false,undef,.pointer (some ⟨w.heap.size,0,none⟩),.slice (some ⟨g,o,none⟩) n E,.int .i64 n,.map (some M),.pointer (some ⟨w.heap.size,0,none⟩),.slice (some ⟨g,o,none⟩) n E,.int .i64 n,.int .i64 j,.bool false,u29,u30,u31,u32,u33,u34,u35,u36,u37,u38,u39,u40,u41,u42,u43,u44,u45,u46,u47,u48,u49,.pointer (some ⟨w.heap.size,0,none⟩),.slice (some ⟨g,o,none⟩) n E,.int .i64 n,.int .i64 i,.bool true,.pointer (some ⟨g,o+i*10,none⟩),.agg #[.string N0,.int .i64 k1,.string T1,.int .u64 a1,.int .u64 b1,.int .u64 c1,.int .u64 y,.slice aa n1 ab,.int .i64 p1,.int .i64 q1],.pointer (some ⟨t.heap.size,1,none⟩),.agg #[.int .i64 k1,.string T1,.int .u64 a1,.int .u64 b1,.int .u64 c1,.int .u64 y,.slice aa n1 ab,.int .i64 p1],.func (.func 260) #[] #[.pointer (some ⟨t.heap.size+1,0,none⟩)],x.v,undef,undef,undef,undef,undef,undef,undef,undef,undef,undef,undef,undef,undef,undef,aC,undef],defers:=[]} (W.alloc (.cells #[.int .i64 x.k,.string x.T,.int .u64 x.a,.int .u64 x.b,.int .u64 x.c,.int .u64 x.d,.slice x.so x.n x.cap,.int .i64 x.p] 81)) (KeepsFrom.of_grownBy (World.grownBy_alloc W _ none) (fun j e=>by cases e)) (Kt.alloc W _) ⟨Z.below hB (by omega),A.below hB (by omega) (by omega),I.below (hB.mono (by omega)),Nat.le_trans U hB.size,h5⟩ ⟨W.heap.size,rfl,Qx W _ rfl⟩);clear hK Z A I U h5 hB
      gi_wp2
      exact HK.out
     case Qm=>
      rintro l ac x a' W hl ⟨r,hr⟩ ⟨Z,A,I,U,h5⟩ ⟨b,rfl,hb⟩ bH;have ao:x.T.size<=maxLen:=x.z;have bM:=bp.out W A;have cM:=bM.cell;have b2:=bn.out W A;have b3:=bo.out W A;have x2:=b2.cell;have x3:=b3.cell;have e2:=b2.frozen;have e3:=b3.frozen;have l2:=b2.lt;have l3:=b3.lt;obtain⟨⟨c0,bI,c2,c3,c4,c5,c6,c7⟩,_⟩:=Qy hb;have lb:=Qq hb;obtain⟨D,ai,hD⟩:=Z;have et:tps (ac++[x])=tps ac++[(x.T,x.p)]:=by rw[Wj];rfl
      cases hk:inN x.T (nmL rs)with
      |true=>
       have hh:Maps.has D (kls x.T)=true:=by rw[(hD x.T).1,hk]
       have aG:Xj (nmL rs) (tps (ac++[x]))=none:=by
        rw[et,Nx,h5];simp only[Xj];rw[if_pos hk]
       gi_wp2_with (first
        |(gi_at_lookup;refine wpListIn_lookup_own_ok_int _ rfl _ _ 127 rfl 9 3 .i64 Kz Tryz.underlying127 Tryz.underlying3 (Ak _) M _ D rfl ai _ _ rfl (Kq ao) ?_;intro cc aA aB;rw[hh]))
       exact⟨KeepsFrom.refl _ _,Kt.refl _,⟨D,ai,hD⟩,A,I,U,aG⟩
      |false=>
       have hh:Maps.has D (kls x.T)=false:=by rw[(hD x.T).1,hk]
       have aG:Xj (nmL rs) (tps (ac++[x]))=some x.p:=by
        rw[et,Nx,h5];simp only[Xj];rw[if_neg (by rw[hk];decide)]
       have aj:KeepsOthers W (((W.setCell ⟨w.heap.size+1,0,none⟩ (.map none)).setCell ⟨w.heap.size+1+1,0,none⟩ (.iface 134 (.pointer (some ⟨W.heap.size,0,none⟩)))).alloc (.cells #[.int .i64 31,.int .i64 x.p] 136)):=((KeepsOthers.setCell _ _ _).trans (KeepsOthers.setCell _ _ _)).trans (KeepsOthers.of_grownBy (World.grownBy_alloc _ _ none) (fun j o e=>by cases e));have HF:Hid (KeepsFrom G.heap.size W (((W.setCell ⟨w.heap.size+1,0,none⟩ (.map none)).setCell ⟨w.heap.size+1+1,0,none⟩ (.iface 134 (.pointer (some ⟨W.heap.size,0,none⟩)))).alloc (.cells #[.int .i64 31,.int .i64 x.p] 136)).drew/\(Below w.heap.size w (((W.setCell ⟨w.heap.size+1,0,none⟩ (.map none)).setCell ⟨w.heap.size+1+1,0,none⟩ (.iface 134 (.pointer (some ⟨W.heap.size,0,none⟩)))).alloc (.cells #[.int .i64 31,.int .i64 x.p] 136)).drew/\Mks w.heap.size t.heap.size ds (((W.setCell ⟨w.heap.size+1,0,none⟩ (.map none)).setCell ⟨w.heap.size+1+1,0,none⟩ (.iface 134 (.pointer (some ⟨W.heap.size,0,none⟩)))).alloc (.cells #[.int .i64 31,.int .i64 x.p] 136)).drew/\G.heap.size<=(((W.setCell ⟨w.heap.size+1,0,none⟩ (.map none)).setCell ⟨w.heap.size+1+1,0,none⟩ (.iface 134 (.pointer (some ⟨W.heap.size,0,none⟩)))).alloc (.cells #[.int .i64 31,.int .i64 x.p] 136)).drew.heap.size/\∃gf pf,Xj (nmL rs) (tps (ac++[x]))=some pf/\Boxed (((W.setCell ⟨w.heap.size+1,0,none⟩ (.map none)).setCell ⟨w.heap.size+1+1,0,none⟩ (.iface 134 (.pointer (some ⟨W.heap.size,0,none⟩)))).alloc (.cells #[.int .i64 31,.int .i64 x.p] 136)).drew (w.heap.size+1) 127 (.map none)/\Boxed (((W.setCell ⟨w.heap.size+1,0,none⟩ (.map none)).setCell ⟨w.heap.size+1+1,0,none⟩ (.iface 134 (.pointer (some ⟨W.heap.size,0,none⟩)))).alloc (.cells #[.int .i64 31,.int .i64 x.p] 136)).drew (w.heap.size+1+1) 30 (.iface 134 (.pointer (some ⟨gf,0,none⟩)))/\w.heap.size<=gf/\(((W.setCell ⟨w.heap.size+1,0,none⟩ (.map none)).setCell ⟨w.heap.size+1+1,0,none⟩ (.iface 134 (.pointer (some ⟨W.heap.size,0,none⟩)))).alloc (.cells #[.int .i64 31,.int .i64 x.p] 136)).drew.heap[gf]? =some (.cells #[.int .i64 31,.int .i64 pf] 136))):=by
        refine⟨⟨(aj.from G.heap.size).size,(aj.from G.heap.size).same⟩,?_,?_,Nat.le_trans U aj.size,W.heap.size,x.p,aG,?_,?_,A.1.size,?_⟩
        ·exact(((A.1.setCell (p:=⟨w.heap.size+1,0,none⟩) (by show w.heap.size<=_+1;omega) _).setCell (p:=⟨w.heap.size+1+1,0,none⟩) (by show w.heap.size<=_+1+1;omega) _).alloc (by simp;exact A.1.size) _).drew
        ·exact I.kept fun D hD e=>aj.same D _ e rfl
        ·exact((b2.set (.map none)).other (B':=w.heap.size+1+1) (by omega) _).alloc _
        ·exact((b3.other (B':=w.heap.size+1) (by omega) (.map none)).set _).alloc _
        ·exact Qx _ _ (by simp)
       clear A I U h5 aj aG hD
       gi_wp2_with (first
        |(gi_at_lookup;refine wpListIn_lookup_own_ok_int _ rfl _ _ 127 rfl 9 3 .i64 Kz Tryz.underlying127 Tryz.underlying3 (Ak _) M _ D rfl ai _ _ rfl (Kq ao) ?_;intro cc aA aB;rw[hh]))
       gi_region
       all_goals gi_wp2
       all_goals exact⟨HF.out.1,rfl,HF.out.2⟩
     case done=>
      rintro D ys W hD a5 ⟨Z,A,I,U,h5⟩ hK;have bq:Hid (Xj (nmL rs) (rfG (rs.take (i+1)))=none):=by
       show _=_;rw[y2q rs i aE,Nx,aD.out,<-a5,h5]
      have aN:Hid (Mks w.heap.size W.heap.size ({target:=.collected D,args:=#[]}::ds) W):=⟨D,rfl,by omega,Qq hK,hK,I.mono (by omega)⟩;have br:=hid Z;have bs:=hid A;clear Z A I U h5 hK a5 hD
      gi_wp2
      refine⟨⟨i+1,_,_,_,_,_,_,_,_,_,rfl,by omega,br,bq,bs,aN⟩,?_⟩;simp[intOf];omega
     case stop=>
      rintro D c ac W hD bt ⟨rfl,Z,A,I,gf,pf,U,h5,h6,h7,h8⟩ hK;have hc:ckR rs=some (31,pf):=by
       unfold ckR;rw[au.out,Vv];dsimp only;obtain⟨r,hr⟩:=bt;have e:rfG rs=rfG (rs.take i)++(tps ac++(r++rfG (rs.drop (i+1)))):=by
        conv=>lhs;rw[<-List.take_append_drop i rs,Ww,List.drop_eq_getElem_cons aE,rfG,<-hr]
        simp
       rw[e,Nx,aD.out];simp only;rw[Nx,U]
      have aN:Mks w.heap.size W.heap.size ({target:=.collected D,args:=#[]}::ds) W:=⟨D,rfl,by omega,Qq hK,hK,A.mono (by omega)⟩
      gi_wp2
      refine Hg _ _ _ aN fun w' hk=> ?_
      have y:=(hk.box h5).cell;have d2:=(hk.box h6).cell;exact⟨.tuple #[.map none,.iface 134 (.pointer (some ⟨gf,0,none⟩))],by simp[results,Tryz.f189,go_sem,y,d2],Z.trans hk.1,.inl ⟨31,pf,gf,hc,rfl,h7,hk.2 _ _ h8 (fun l e=>by cases e)⟩⟩
    ·have a0:decide ((i:Int)<(n:Int))=false:=by simp;omega
     have aq:rs.take i=rs:=List.take_of_length_le (by rw[<-ar.out];omega);rw[aq]at aD;obtain⟨x2,e2⟩:=Qw y2;obtain⟨x3,e3⟩:=Qw y3;obtain⟨xM,eM⟩:=Qw yM;have l2:=Qq y2;have l3:=Qq y3;clear aq
     gi_wp2
     have b2:Boxed t (w.heap.size+1) 127 (.map none):=y2;have b3:Boxed t (w.heap.size+1+1) 30 .nilIface:=y3;have aj:KeepsOthers t ((t.setCell ⟨w.heap.size+1,0,none⟩ (.map (some M))).setCell ⟨w.heap.size+1+1,0,none⟩ .nilIface):=(KeepsOthers.setCell _ _ _).trans (KeepsOthers.setCell _ _ _);refine Hg ds t.heap.size _ (a3.out.kept fun D hD e=>aj.same D _ e rfl) fun w' hk=> ?_
     have y:=(hk.box ((b2.set (.map (some M))).other (B':=w.heap.size+1+1) (by omega) .nilIface)).cell;have d2:=(hk.box ((b3.other (B':=w.heap.size+1) (by omega) (.map (some M))).set .nilIface)).cell;refine⟨.tuple #[.map (some M),.nilIface],by simp[results,Tryz.f189,go_sem,y,d2],?_,.inr ⟨M,?_,rfl,by have:=HM.out;omega,hk.pm ?_⟩⟩
     ·exact((af.out.1.setCell (p:=⟨w.heap.size+1,0,none⟩) (by show w.heap.size<=_+1;omega) _).setCell (p:=⟨w.heap.size+1+1,0,none⟩) (by show w.heap.size<=_+1+1;omega) _).trans hk.1
     ·unfold ckR
      rw[au.out,Vv];dsimp only;rw[aD.out]
     ·exact(a2.out.kept (grownBy_setCell' _ _ _) (by simp;omega)).kept (grownBy_setCell' _ _ _) (by simp;omega)
end Go.Proofs.YtgnkkgcgbeianaaGreatDoor
