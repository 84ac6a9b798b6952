/- Lemmas for the last text. Conditions: those that each names. -/
import Derived.Test.YtgnkkgcgbeianaaGreatDoorVR8ToO4
import Derived.Shelf.Lay
import Derived.Shelf.Sort.Plain
import Derived.Shelf.Slices.CompactI
import Derived.Shelf.Slices.In.SortNone
import Derived.Sort.OwnSortedInts
import Derived.Ground.NamesProg
import Derived.Ground.Names2Prog
import Derived.Laws.EntriesVeiled
import Derived.Test.YtgnkkgcgbeianaaGreatDoorVY15ToX17
set_option linter.unusedVariables false
set_option maxRecDepth 100000
set_option maxHeartbeats 8000000
namespace Go.Proofs.YtgnkkgcgbeianaaGreatDoor
open Go.Proofs.Tryz
open Go.RowKit Go.Shelf Go.Maps
attribute [local go_sem] Oper.semAt_some
theorem Rx{X Y:World}{row:Option Nat}{b:Nat}{y:Array Value}{t:TypeId}(h:X.heap[b]? =some (.cells y t))(D:X.grownBy Y row)(E:∀r,row=some r->∃o:Obj,X.heap[r]? =some o/\o.isCells=false):Y.heap[b]? =some (.cells y t):=
 (D.block b (Array.getElem?_eq_some_iff.1 h).1 (fun e=>by obtain⟨o,A,G⟩:=E b e.symm;rw[h]at A;cases A;cases G)).trans h
theorem z9Y(so:Option Addr)(n E:Nat)(rs:List Rr)(w:World)(h:Qb w w.heap.size so n rs)
  (bu:5<w.heap.size)(HZ:Hid (RgZ rs))(HP:Hid (∀W:World,zB w W->Calls prog 225 #[.agg #[.slice so n E]] W fun e w'=>e=.returned .nilIface/\zB W w'))(m:Nat):
  CallsIn Fence.wide (m+5) prog 189 #[.agg #[.slice so n E]] w (CkP w rs):=by
 have bv:=Xf;have a6:=z9X;obtain⟨W0,ag⟩:∃W0,W0=((w.alloc (.cells #[.slice so n E] 43)).alloc (.cells #[.map none] 127)).alloc (.cells #[.nilIface] 30):=⟨_,rfl⟩;have ax:zB w W0:=by rw[ag];exact(((Below.refl _ w).alloc L0q _).alloc (by simp) _).alloc (by simp;omega) _
 have c1:W0.heap[w.heap.size]? =some (.cells #[.slice so n E] 43):=by
  rw[ag];exact(Below.heap_alloc _ _ _ (by simp;omega)).trans ((Below.heap_alloc _ _ _ (by simp)).trans (Qx w _ rfl))
 have c2:W0.heap[w.heap.size+1]? =some (.cells #[.map none] 127):=by
  rw[ag];exact(Below.heap_alloc _ _ _ (by simp)).trans (Qx _ _ (by simp))
 have c3:W0.heap[w.heap.size+1+1]? =some (.cells #[.nilIface] 30):=by
  rw[ag];exact Qx _ _ (by simp)
 have a7:W0.heap.size=w.heap.size+1+1+1:=by rw[ag];simp
 have aO:=hid (HP.out W0 ax);refine callsIn_of_wp_marks func189 rfl trivial ?_ rfl;simp only[ntmps189,List.size_toArray,List.length_cons,List.length_nil,Nat.reduceAdd,Nat.reduceSub,Array.replicate_succ,Array.replicate_zero,List.push_toArray,List.append_toArray,List.nil_append,List.cons_append]
 gi_wp2
 rw[<-ag];clear ag;refine⟨trivial,?_⟩;refine(callsIn_wide.2 aO.out).mono ?_;rintro e W1 ⟨rfl,ak⟩;have y:=(ak.block _ (by omega)).trans c1;have d2:=(ak.block _ (by omega)).trans c2;have d3:=(ak.block _ (by omega)).trans c3;have a8:=ak.size;clear aO;obtain⟨e1,_⟩:=Qk y;have a9:w.heap.size<W1.heap.size:=by omega
 have aP:Hid (zB w W1):=ax.trans (ak.mono ax.size);obtain⟨M,hM⟩:∃M,M=W1.heap.size:=⟨_,rfl⟩;obtain⟨V,ae⟩:∃V,V=(W1.alloc (.map #[] 0)).alloc (.cells #[.map (some W1.heap.size)] 127):=⟨_,rfl⟩;have ba:Hid (Pm V M []):=by
  rw[ae,hM];exact(Pm.made W1).kept (World.grownBy_alloc _ _ none) (by simp)
 have bb:Hid (zB w V):=by
  rw[ae];exact((aP.out.alloc aP.out.size _).alloc (by simp;omega) _)
 have HV:Hid (V.heap[M+1]? =some (.cells #[.map (some M)] 127)):=by
  rw[ae,hM];exact Qx _ _ (by simp)
 have H1:Hid (V.heap[w.heap.size]? =some (.cells #[.slice so n E] 43)):=by
  rw[ae];exact(Below.heap_alloc _ _ _ (by simp;omega)).trans ((Below.heap_alloc _ _ _ (by omega)).trans y)
 have H2:Hid (V.heap[w.heap.size+1]? =some (.cells #[.map none] 127)):=by
  rw[ae];exact(Below.heap_alloc _ _ _ (by simp;omega)).trans ((Below.heap_alloc _ _ _ (by omega)).trans d2)
 have H3:Hid (V.heap[w.heap.size+1+1]? =some (.cells #[.nilIface] 30)):=by
  rw[ae];exact(Below.heap_alloc _ _ _ (by simp;omega)).trans ((Below.heap_alloc _ _ _ (by omega)).trans d3)
 have HM:Hid (w.heap.size+1+1+1<=M):=by show _<=_;omega
 have bc:Hid (V.heap.size=M+1+1):=by show _=_;rw[ae,hM];simp
 have bw:n<=9223372036854775807:=by have:=h.2.1;unfold maxLen at this;omega
 have HR:=hid h;have ar:Hid (n=rs.length):=h.1
 gi_wp2
 rw[<-ae,<-hM];clear ae hM y d2 d3 e1 h a7 a8 ax c1 c2 c3 ak a9 a6
 gi_loopw [27] (fun i wr=>∃j:Nat,i=zI (j:Int)/\j<=n/\Hid (Pm wr M (nmL (rs.take j)))/\Hid (Dq rs=Yf (nmL (rs.take j)) (rs.drop j))/\Hid (Kp3 w V M wr)) (fun i _=>n-(intOf i).toNat)
 case atStart=>exact⟨0,rfl,Nat.zero_le _,ba,rfl,⟨bb.out,Nat.le_of_eq bc.out.symm,fun _ _=>rfl,rfl⟩⟩
 case round=>
  obtain⟨j,rfl,hj,aH,au,ad⟩:=hrel;by_cases hjn:j<n
  ·have bx:(j:Int)<(n:Int):=by omega
   have a0:decide ((j:Int)<(n:Int))=true:=by simp;omega
   have al:j<rs.length:=by rw[<-ar.out];exact hjn
   obtain⟨g,o,rfl,hg,k1,T1,a1,b1,c1,y,aa,n1,ab,p1,aI,r0⟩:=HR.out.2.2 j al;have av:∀q,wr.cell? ⟨g,q,none⟩=w.cell? ⟨g,q,none⟩:=fun q=>ad.out.1.cell (p:=⟨g,q,none⟩) hg
   simp only[<-av]at r0;obtain⟨z0,z1,z2,z3,z4,z5,z6,z7,z8,z9⟩:=r0;have bd:g<wr.heap.size:=World.block_lt_of_cell? wr _ z0;obtain⟨N0,ah⟩:∃N0,N0=rs[j].1:=⟨_,rfl⟩;obtain⟨q1,am⟩:∃q1,q1=rs[j].2.2:=⟨_,rfl⟩;rw[<-ah]at z0;rw[<-am]at z9;have be:Hid (wr.heap[M+1]? =some (.cells #[.map (some M)] 127)):=ad.out.2.2.2.trans HV.out;obtain⟨v1,_⟩:=Qk be.out;have bz:M+1<wr.heap.size:=ad.out.2.1;obtain⟨D,ai,hD⟩:=aH.out;have ay:=ai.alloc (.cells #[zT N0,zI k1,zT T1,zU a1,zU b1,zU c1,zU y,.slice aa n1 ab,zI p1,zI q1] 83);have ao:N0.size<=maxLen:=by rw[ah];exact(HZ.out _ (List.getElem_mem al)).1
   have az:=hid ah;have bf:=hid am;clear av ah am;have hm:=HM.out;have y2:wr.heap[w.heap.size+1]? =some (.cells #[.map none] 127):=(ad.out.2.2.1 _ (by omega)).trans H2.out;have y3:wr.heap[w.heap.size+1+1]? =some (.cells #[.nilIface] 30):=(ad.out.2.2.1 _ (by omega)).trans H3.out;have l2:w.heap.size+1<wr.heap.size:=Qq y2;have l3:w.heap.size+1+1<wr.heap.size:=Qq y3;cases hin:inN N0 (nmL (rs.take j))with
   |true=>
    have hh:Maps.has D (kls N0)=true:=by rw[(hD N0).1,hin]
    gi_wp2_with (first
     |(gi_at_lookup;refine wpListIn_lookup_own_ok_int _ rfl _ _ 127 rfl 9 3 .i64 Gq Tryz.underlying127 Tryz.underlying3 (Kq _) M _ D rfl ay _ _ rfl (Gx ao) ?_;intro cc aA aB;rw[hh]))
    obtain⟨wa,ap⟩:∃wa,wa=wr.alloc (.cells #[zT N0,zI k1,zT T1,zU a1,zU b1,zU c1,zU y,.slice aa n1 ab,zI p1,zI q1] 83):=⟨_,rfl⟩;rw[<-ap];have ya:wa.heap[wr.heap.size]? =some (.cells #[zT N0,zI k1,zT T1,zU a1,zU b1,zU c1,zU y,.slice aa n1 ab,zI p1,zI q1] 83):=by rw[ap];exact Qx _ _ rfl
    have aJ:wa.heap[w.heap.size+1]? =some (.cells #[.map none] 127):=by rw[ap];exact(Below.heap_alloc _ _ _ l2).trans y2
    have aK:wa.heap[w.heap.size+1+1]? =some (.cells #[.nilIface] 30):=by rw[ap];exact(Below.heap_alloc _ _ _ l3).trans y3
    have aL:Hid (zB w wa):=by rw[ap];exact ad.out.1.alloc ad.out.1.size _
    have la:=Qq ya;have bA:=Qq aJ;have bC:=Qq aK;obtain⟨⟨r0,r1,r2,r3,r4,r5,r6,r7,bg,r9⟩,_⟩:=Gp ya;obtain⟨x2,f2⟩:=Qk aJ;obtain⟨x3,f3⟩:=Qk aK;clear ap ai ay z0 z1 z2 z3 z4 z5 z6 z7 z8 z9 v1 r0 r1 r2 r3 r4 r5 r6 r7 bg aA aB hh
    gi_region
    gi_wp2
    have b2:Boxed wa (w.heap.size+1) 127 (.map none):=aJ;have b3:Boxed wa (w.heap.size+1+1) 30 .nilIface:=aK;have y:=(((b2.set (.map none)).other (B':=w.heap.size+1+1) (by omega) (.iface 134 (zP wa.heap.size 0))).alloc (.cells #[zI 30,zI q1] 136)).cell;have d2:=(((b3.other (B':=w.heap.size+1) (by omega) (.map none)).set (.iface 134 (zP wa.heap.size 0))).alloc (.cells #[zI 30,zI q1] 136)).cell;refine⟨.tuple #[.map none,.iface 134 (zP wa.heap.size 0)],by simp[results,Tryz.f189,go_sem,y,d2],?_,.inl ⟨30,q1,wa.heap.size,?_,rfl,aL.out.size,?_⟩⟩
    ·exact(((aL.out.setCell (p:=⟨w.heap.size+1,0,none⟩) (by show w.heap.size<=_+1;omega) _).setCell (p:=⟨w.heap.size+1+1,0,none⟩) (by show w.heap.size<=_+1+1;omega) _).alloc (by simp;exact aL.out.size) _).drew
    ·unfold ckR
     rw[au.out,z2f _ _ j al,<-az.out,<-bf.out,hin];rfl
    ·exact Qx _ _ (by simp)
   |false=>
    have hh:Maps.has D (kls N0)=false:=by rw[(hD N0).1,hin]
    gi_wp2_with (first
     |(gi_at_lookup;refine wpListIn_lookup_own_ok_int _ rfl _ _ 127 rfl 9 3 .i64 Gq Tryz.underlying127 Tryz.underlying3 (Kq _) M _ D rfl ay _ _ rfl (Gx ao) ?_;intro cc aA aB;rw[hh])
     |(gi_at_mapUpdate;refine wpListIn_mapUpdate_own _ rfl _ _ _ 127 rfl 9 3 Gq Tryz.underlying127 _ M _ D rfl ay (by rw[nmL,List.length_map,List.length_take];unfold maxLen;omega) _ _ _ rfl rfl (Gx ao) _ [] (plainElem_int Tryz.underlying3 (WalkArith.wf_i64 (by omega))) ?_;intro w1 aQ bh))
    have aR:(nmL (rs.take j)).length=j:=by rw[nmL,List.length_map,List.length_take];omega
    refine⟨⟨j+1,by go_num,by omega,hid ?_,hid ?_,hid (ad.out.step bh (by omega))⟩,by simp[intOf];omega⟩
    ·show Pm _ _ _
     rw[Pl rs j al,<-az.out];exact Pm.put hD ai.isMap hin (by rw[aR];rw[aR]at aQ;exact aQ)
    ·show _=_
     rw[au.out,z2f _ _ j al,<-az.out,hin,Pl rs j al,<-az.out];rfl
  ·have a0:decide ((j:Int)<(n:Int))=false:=by simp;omega
   have aq:rs.take j=rs:=List.take_of_length_le (by rw[<-ar.out];omega);have aS:rs.drop j=[]:=List.drop_eq_nil_of_le (by rw[<-ar.out];omega);rw[aq,aS]at au;rw[aq]at aH;have hm:=HM.out;have y1:wr.heap[w.heap.size]? =some (.cells #[.slice so n E] 43):=(ad.out.2.2.1 _ (by omega)).trans H1.out;obtain⟨x1,f1⟩:=Qk y1;clear aq aS
   gi_wp2
   clear x1 f1 y1 a0 hjn hj;refine wpIn_loop (fun a' w'=>∃(i:Nat) (aT aU aV aW aX aY aZ aC:Value) (ds:List Deferred),a'={tmps:=#[.agg #[.slice so n E],zP w.heap.size 0,zP (w.heap.size+1) 0,zP (w.heap.size+1+1) 0,.nilIface,zP (M+1) 0,u6,u7,u8,u9,undef,aT,undef,undef,undef,.agg #[.slice so n E],.nilIface,.nilIface,.bool false,undef,zP w.heap.size 0,.slice so n E,zI (n:Int),.map (some M),zP w.heap.size 0,.slice so n E,zI (n:Int),zI (j:Int),.bool false,u29,u30,u31,u32,u33,u34,u35,u36,u37,u38,u39,u40,u41,u42,u43,u44,u45,u46,u47,u48,u49,zP w.heap.size 0,.slice so n E,zI (n:Int),zI (i:Int),aU,aV,aW,aX,aY,aZ,undef,undef,undef,undef,undef,undef,undef,undef,undef,undef,undef,undef,undef,undef,undef,aC,undef],defers:=ds}/\i<=n/\Hid (Pm w' M (nmL rs))/\Hid (Xz (nmL rs) (rfG (rs.take i))=none)/\Hid (Kp3 w V M w')/\Hid (Mks w.heap.size w'.heap.size ds w')) (fun a' _=>n-(intOf (a'.tmps.getD 53 undef)).toNat) ?_ ?_
   ·exact⟨0,undef,undef,undef,undef,undef,undef,undef,undef,[],rfl,Nat.zero_le _,aH,by show _=_;rw[List.take_zero,rfG,Xz],ad,trivial⟩
   ·rintro a' t ⟨i,aT,aU,aV,aW,aX,aY,aZ,aC,ds,rfl,hi,a2,aD,af,a3⟩
    have bD:M+1<t.heap.size:=af.out.2.1;have y2:t.heap[w.heap.size+1]? =some (.cells #[.map none] 127):=(af.out.2.2.1 _ (by omega)).trans H2.out;have y3:t.heap[w.heap.size+1+1]? =some (.cells #[.nilIface] 30):=(af.out.2.2.1 _ (by omega)).trans H3.out;have yM:t.heap[M+1]? =some (.cells #[.map (some M)] 127):=af.out.2.2.2.trans HV.out;by_cases hin:i<n
    ·have bE:(i:Int)<(n:Int):=by omega
     have a0:decide ((i:Int)<(n:Int))=true:=by simp;omega
     have aE:i<rs.length:=by rw[<-ar.out];exact hin
     obtain⟨g,o,rfl,hg,k1,T1,a1,b1,c1,y,aa,n1,ab,p1,aI,r0⟩:=HR.out.2.2 i aE;have av:∀q,t.cell? ⟨g,q,none⟩=w.cell? ⟨g,q,none⟩:=fun q=>af.out.1.cell (p:=⟨g,q,none⟩) hg
     simp only[<-av]at r0;obtain⟨z0,z1,z2,z3,z4,z5,z6,z7,z8,z9⟩:=r0;have bd:g<t.heap.size:=World.block_lt_of_cell? t _ z0;obtain⟨N0,ah⟩:∃N0,N0=rs[i].1:=⟨_,rfl⟩;obtain⟨q1,am⟩:∃q1,q1=rs[i].2.2:=⟨_,rfl⟩;rw[<-ah]at z0;rw[<-am]at z9;have bi:Hid (Qy w w.heap.size rs[i].2.1 (r8 k1 T1 a1 b1 c1 y aa n1 ab p1)):=aI;clear ah am av aI
     gi_wp2_with (first
      |(refine⟨trivial,?_⟩;gi_at_call 226;refine(z9R _ k1 T1 a1 b1 c1 y aa n1 ab p1 _).mono ?_;rintro e w4 ⟨rfl,rfl⟩))
     obtain⟨G,aw⟩:∃G,G=(t.alloc (.cells #[zT N0,zI k1,zT T1,zU a1,zU b1,zU c1,zU y,.slice aa n1 ab,zI p1,zI q1] 83)).alloc (.cells #[zI k1,zT T1,zU a1,zU b1,zU c1,zU y,.slice aa n1 ab,zI p1] 81):=⟨_,rfl⟩;rw[<-aw];have aF:zB t G:=by rw[aw];exact((Below.refl _ t).alloc L0q _).alloc (by simp) _
     have bF:G.heap.size=t.heap.size+1+1:=by rw[aw];simp
     have bj:G.heap[t.heap.size+1]? =some (.cells #[zI k1,zT T1,zU a1,zU b1,zU c1,zU y,.slice aa n1 ab,zI p1] 81):=by rw[aw];exact Qx _ _ (by simp)
     have a4:Hid (Kp3 w V M G):=af.out.below aF (by have:=af.out.1.size;omega) (by omega);have bk:Hid (Pm G M (nmL rs)):=a2.out.below aF (by omega);have bl:Hid (Mks w.heap.size t.heap.size ds G):=a3.out.below aF;have bm:=bi.out.below a4.out.1;have bG:w.heap.size<=t.heap.size:=af.out.1.size;have bn:Hid (∀W:World,Kp3 w V M W->Boxed W (w.heap.size+1) 127 (.map none)):=fun W hW=>(hW.2.2.1 _ (by omega)).trans H2.out
     have bo:Hid (∀W:World,Kp3 w V M W->Boxed W (w.heap.size+1+1) 30 .nilIface):=fun W hW=>(hW.2.2.1 _ (by omega)).trans H3.out
     have bp:Hid (∀W:World,Kp3 w V M W->Boxed W (M+1) 127 (.map (some M))):=fun W hW=>hW.2.2.2.trans HV.out
     clear aw aF z0 z1 z2 z3 z4 z5 z6 z7 z8 z9 y2 y3 yM;refine wpIn_rangeFunc_ownH rfl (by omega) (gf:=260) (lb:=#[zP (t.heap.size+1) 0]) rfl trivial (enters_of func260 (by kernel_rfl) rfl)
      (z9Q (s0:=w.heap.size) rs[i].2.1 k1 T1 a1 b1 c1 y aa n1 ab p1 _ _ G bj bm (HZ.out _ (List.getElem_mem aE)).2) Kt.trans (fun W' l o o' Z A I U=>Kt.book W' l o o' (by omega) A I) B0q (fun _=>rfl)
      (fun ac W=>Pm W M (nmL rs)/\Kp3 w V M W/\Mks w.heap.size t.heap.size ds W/\G.heap.size<=W.heap.size/\Xz (nmL rs) (tps ac)=none)
      (fun c ac W=>c=.ret/\zB w W/\Mks w.heap.size t.heap.size ds W/\G.heap.size<=W.heap.size/\∃gf pf,Xz (nmL rs) (tps ac)=some pf/\Boxed W (w.heap.size+1) 127 (.map none)/\Boxed W (w.heap.size+1+1) 30 (.iface 134 (zP gf 0))/\w.heap.size<=gf/\zH W gf (.cells #[zI 31,zI pf] 136))
      ?own ?ownx ⟨bk.out,a4.out,bl.out,Nat.le_refl _,rfl⟩
      (fun x a' W=>∃b,a'={tmps:=#[.agg #[.slice (some ⟨g,o,none⟩) n E],zP w.heap.size 0,zP (w.heap.size+1) 0,zP (w.heap.size+1+1) 0,.nilIface,zP (M+1) 0,u6,u7,u8,u9,undef,zP t.heap.size 0,zP b 0,undef,undef,.agg #[.slice (some ⟨g,o,none⟩) n E],.nilIface,.nilIface,.bool false,undef,zP w.heap.size 0,.slice (some ⟨g,o,none⟩) n E,zI (n:Int),.map (some M),zP w.heap.size 0,.slice (some ⟨g,o,none⟩) n E,zI (n:Int),zI (j:Int),.bool false,u29,u30,u31,u32,u33,u34,u35,u36,u37,u38,u39,u40,u41,u42,u43,u44,u45,u46,u47,u48,u49,zP w.heap.size 0,.slice (some ⟨g,o,none⟩) n E,zI (n:Int),zI (i:Int),.bool true,zP g (o+i*10),.agg #[zT N0,zI k1,zT T1,zU a1,zU b1,zU c1,zU y,.slice aa n1 ab,zI p1,zI q1],zP t.heap.size 1,.agg #[zI k1,zT T1,zU a1,zU b1,zU c1,zU y,.slice aa n1 ab,zI p1],.func (.func 260) #[] #[zP (t.heap.size+1) 0],x.v,undef,undef,undef,undef,undef,undef,undef,undef,undef,undef,undef,undef,undef,undef,aC,undef],defers:=[]}/\zH W b (.cells #[zI x.k,zT x.T,zU x.a,zU x.b,zU x.c,zU x.d,.slice x.so x.n x.cap,zI x.p] 81))
      ?ownA ?assign ?Qm ?done ?stop
     case own=>
      rintro ac X Y row ⟨Z,A,I,U,h5⟩ hg hr;have hB:Below G.heap.size X Y:=(Below.refl _ X).grown hg U (fun k e=>(hr k e).1);exact⟨Z.below hB (by omega),A.below hB (by omega) (by omega),I.below (hB.mono (by omega)),Nat.le_trans U hB.size,h5⟩
     case ownx=>
      rintro c ac X Y row ⟨h0,Z,A,I,gf,pf,U,h5,h6,h7,h8⟩ hg hr;have hB:Below G.heap.size X Y:=(Below.refl _ X).grown hg I (fun k e=>(hr k e).1);have aM:=fun r e=>(hr r e).2
      exact⟨h0,Z.trans (hB.mono (by omega)),A.below (hB.mono (by omega)),Nat.le_trans I hB.size,gf,pf,U,Vf h5 hg aM,Vf h6 hg aM,h7,Rx h8 hg aM⟩
     case ownA=>
      rintro x a' _ X Y row ⟨b,Z,A⟩ hg hr;exact⟨b,Z,Rx A hg (fun r e=>(hr r e).2)⟩
     case assign=>
      rintro l ac x W K ⟨Z,A,I,U,h5⟩ hK;have hB:Below G.heap.size W (W.alloc (.cells #[zI x.k,zT x.T,zU x.a,zU x.b,zU x.c,zU x.d,.slice x.so x.n x.cap,zI x.p] 81)):=(Below.refl _ W).alloc U _;have HK:=hid (hK {tmps:=#[.agg #[.slice (some ⟨g,o,none⟩) n E],zP w.heap.size 0,zP (w.heap.size+1) 0,zP (w.heap.size+1+1) 0,.nilIface,zP (M+1) 0,u6,u7,u8,u9,undef,zP t.heap.size 0,zP W.heap.size 0,undef,undef,.agg #[.slice (some ⟨g,o,none⟩) n E],.nilIface,.nilIface,.bool false,undef,zP w.heap.size 0,.slice (some ⟨g,o,none⟩) n E,zI (n:Int),.map (some M),zP w.heap.size 0,.slice (some ⟨g,o,none⟩) n E,zI (n:Int),zI (j:Int),.bool false,u29,u30,u31,u32,u33,u34,u35,u36,u37,u38,u39,u40,u41,u42,u43,u44,u45,u46,u47,u48,u49,zP w.heap.size 0,.slice (some ⟨g,o,none⟩) n E,zI (n:Int),zI (i:Int),.bool true,zP g (o+i*10),.agg #[zT N0,zI k1,zT T1,zU a1,zU b1,zU c1,zU y,.slice aa n1 ab,zI p1,zI q1],zP t.heap.size 1,.agg #[zI k1,zT T1,zU a1,zU b1,zU c1,zU y,.slice aa n1 ab,zI p1],.func (.func 260) #[] #[zP (t.heap.size+1) 0],x.v,undef,undef,undef,undef,undef,undef,undef,undef,undef,undef,undef,undef,undef,undef,aC,undef],defers:=[]} (W.alloc (.cells #[zI x.k,zT x.T,zU x.a,zU x.b,zU x.c,zU x.d,.slice x.so x.n x.cap,zI x.p] 81)) (KeepsFrom.of_grownBy (World.grownBy_alloc W _ none) (fun j e=>by cases e)) (Kt.alloc W _) ⟨Z.below hB (by omega),A.below hB (by omega) (by omega),I.below (hB.mono (by omega)),Nat.le_trans U hB.size,h5⟩ ⟨W.heap.size,rfl,Qx W _ rfl⟩);clear hK Z A I U h5 hB
      gi_wp2
      exact HK.out
     case Qm=>
      rintro l ac x a' W hl ⟨r,hr⟩ ⟨Z,A,I,U,h5⟩ ⟨b,rfl,hb⟩ bH;have ao:x.T.size<=maxLen:=x.z;have bM:=bp.out W A;have cM:=bM.cell;have b2:=bn.out W A;have b3:=bo.out W A;have x2:=b2.cell;have x3:=b3.cell;have e2:=b2.frozen;have e3:=b3.frozen;have l2:=b2.lt;have l3:=b3.lt;obtain⟨⟨c0,bI,c2,c3,c4,c5,c6,c7⟩,_⟩:=Qg hb;have lb:=Qq hb;obtain⟨D,ai,hD⟩:=Z;have et:tps (ac++[x])=tps ac++[(x.T,x.p)]:=by rw[Pd];rfl
      cases hk:inN x.T (nmL rs)with
      |true=>
       have hh:Maps.has D (kls x.T)=true:=by rw[(hD x.T).1,hk]
       have aG:Xz (nmL rs) (tps (ac++[x]))=none:=by
        rw[et,Kx,h5];simp only[Xz];rw[if_pos hk]
       gi_wp2_with (first
        |(gi_at_lookup;refine wpListIn_lookup_own_ok_int _ rfl _ _ 127 rfl 9 3 .i64 Gq Tryz.underlying127 Tryz.underlying3 (Kq _) M _ D rfl ai _ _ rfl (Gx ao) ?_;intro cc aA aB;rw[hh]))
       exact⟨KeepsFrom.refl _ _,Kt.refl _,⟨D,ai,hD⟩,A,I,U,aG⟩
      |false=>
       have hh:Maps.has D (kls x.T)=false:=by rw[(hD x.T).1,hk]
       have aG:Xz (nmL rs) (tps (ac++[x]))=some x.p:=by
        rw[et,Kx,h5];simp only[Xz];rw[if_neg (by rw[hk];decide)]
       have aj:KeepsOthers W (((W.setCell ⟨w.heap.size+1,0,none⟩ (.map none)).setCell ⟨w.heap.size+1+1,0,none⟩ (.iface 134 (zP W.heap.size 0))).alloc (.cells #[zI 31,zI x.p] 136)):=((KeepsOthers.setCell _ _ _).trans (KeepsOthers.setCell _ _ _)).trans (KeepsOthers.of_grownBy (World.grownBy_alloc _ _ none) (fun j o e=>by cases e));have HF:Hid (KeepsFrom G.heap.size W (((W.setCell ⟨w.heap.size+1,0,none⟩ (.map none)).setCell ⟨w.heap.size+1+1,0,none⟩ (.iface 134 (zP W.heap.size 0))).alloc (.cells #[zI 31,zI x.p] 136)).drew/\(zB w (((W.setCell ⟨w.heap.size+1,0,none⟩ (.map none)).setCell ⟨w.heap.size+1+1,0,none⟩ (.iface 134 (zP W.heap.size 0))).alloc (.cells #[zI 31,zI x.p] 136)).drew/\Mks w.heap.size t.heap.size ds (((W.setCell ⟨w.heap.size+1,0,none⟩ (.map none)).setCell ⟨w.heap.size+1+1,0,none⟩ (.iface 134 (zP W.heap.size 0))).alloc (.cells #[zI 31,zI x.p] 136)).drew/\G.heap.size<=(((W.setCell ⟨w.heap.size+1,0,none⟩ (.map none)).setCell ⟨w.heap.size+1+1,0,none⟩ (.iface 134 (zP W.heap.size 0))).alloc (.cells #[zI 31,zI x.p] 136)).drew.heap.size/\∃gf pf,Xz (nmL rs) (tps (ac++[x]))=some pf/\Boxed (((W.setCell ⟨w.heap.size+1,0,none⟩ (.map none)).setCell ⟨w.heap.size+1+1,0,none⟩ (.iface 134 (zP W.heap.size 0))).alloc (.cells #[zI 31,zI x.p] 136)).drew (w.heap.size+1) 127 (.map none)/\Boxed (((W.setCell ⟨w.heap.size+1,0,none⟩ (.map none)).setCell ⟨w.heap.size+1+1,0,none⟩ (.iface 134 (zP W.heap.size 0))).alloc (.cells #[zI 31,zI x.p] 136)).drew (w.heap.size+1+1) 30 (.iface 134 (zP gf 0))/\w.heap.size<=gf/\(((W.setCell ⟨w.heap.size+1,0,none⟩ (.map none)).setCell ⟨w.heap.size+1+1,0,none⟩ (.iface 134 (zP W.heap.size 0))).alloc (.cells #[zI 31,zI x.p] 136)).drew.heap[gf]? =some (.cells #[zI 31,zI pf] 136))):=by
        refine⟨⟨(aj.from G.heap.size).size,(aj.from G.heap.size).same⟩,?_,?_,Nat.le_trans U aj.size,W.heap.size,x.p,aG,?_,?_,A.1.size,?_⟩
        ·exact(((A.1.setCell (p:=⟨w.heap.size+1,0,none⟩) (by show w.heap.size<=_+1;omega) _).setCell (p:=⟨w.heap.size+1+1,0,none⟩) (by show w.heap.size<=_+1+1;omega) _).alloc (by simp;exact A.1.size) _).drew
        ·exact I.kept fun D hD e=>aj.same D _ e rfl
        ·exact((b2.set (.map none)).other (B':=w.heap.size+1+1) (by omega) _).alloc _
        ·exact((b3.other (B':=w.heap.size+1) (by omega) (.map none)).set _).alloc _
        ·exact Qx _ _ (by simp)
       clear A I U h5 aj aG hD
       gi_wp2_with (first
        |(gi_at_lookup;refine wpListIn_lookup_own_ok_int _ rfl _ _ 127 rfl 9 3 .i64 Gq Tryz.underlying127 Tryz.underlying3 (Kq _) M _ D rfl ai _ _ rfl (Gx ao) ?_;intro cc aA aB;rw[hh]))
       gi_region
       all_goals gi_wp2
       all_goals exact⟨HF.out.1,rfl,HF.out.2⟩
     case done=>
      rintro D ys W hD a5 ⟨Z,A,I,U,h5⟩ hK;have bq:Hid (Xz (nmL rs) (rfG (rs.take (i+1)))=none):=by
       show _=_;rw[z9W rs i aE,Kx,aD.out,<-a5,h5]
      have aN:Hid (Mks w.heap.size W.heap.size ({target:=.collected D,args:=#[]}::ds) W):=⟨D,rfl,by omega,Qq hK,hK,I.mono (by omega)⟩;have br:=hid Z;have bs:=hid A;clear Z A I U h5 hK a5 hD
      gi_wp2
      refine⟨⟨i+1,_,_,_,_,_,_,_,_,_,rfl,by omega,br,bq,bs,aN⟩,?_⟩;simp[intOf];omega
     case stop=>
      rintro D c ac W hD bt ⟨rfl,Z,A,I,gf,pf,U,h5,h6,h7,h8⟩ hK;have hc:ckR rs=some (31,pf):=by
       unfold ckR;rw[au.out,Yf];dsimp only;obtain⟨r,hr⟩:=bt;have e:rfG rs=rfG (rs.take i)++(tps ac++(r++rfG (rs.drop (i+1)))):=by
        conv=>lhs;rw[<-List.take_append_drop i rs,Rz,List.drop_eq_getElem_cons aE,rfG,<-hr]
        simp
       rw[e,Kx,aD.out];simp only;rw[Kx,U]
      have aN:Mks w.heap.size W.heap.size ({target:=.collected D,args:=#[]}::ds) W:=⟨D,rfl,by omega,Qq hK,hK,A.mono (by omega)⟩
      gi_wp2
      refine Ef _ _ _ aN fun w' hk=> ?_
      have y:=(hk.box h5).cell;have d2:=(hk.box h6).cell;exact⟨.tuple #[.map none,.iface 134 (zP gf 0)],by simp[results,Tryz.f189,go_sem,y,d2],Z.trans hk.1,.inl ⟨31,pf,gf,hc,rfl,h7,hk.2 _ _ h8 (fun l e=>by cases e)⟩⟩
    ·have a0:decide ((i:Int)<(n:Int))=false:=by simp;omega
     have aq:rs.take i=rs:=List.take_of_length_le (by rw[<-ar.out];omega);rw[aq]at aD;obtain⟨x2,e2⟩:=Qk y2;obtain⟨x3,e3⟩:=Qk y3;obtain⟨xM,eM⟩:=Qk yM;have l2:=Qq y2;have l3:=Qq y3;clear aq
     gi_wp2
     have b2:Boxed t (w.heap.size+1) 127 (.map none):=y2;have b3:Boxed t (w.heap.size+1+1) 30 .nilIface:=y3;have aj:KeepsOthers t ((t.setCell ⟨w.heap.size+1,0,none⟩ (.map (some M))).setCell ⟨w.heap.size+1+1,0,none⟩ .nilIface):=(KeepsOthers.setCell _ _ _).trans (KeepsOthers.setCell _ _ _);refine Ef ds t.heap.size _ (a3.out.kept fun D hD e=>aj.same D _ e rfl) fun w' hk=> ?_
     have y:=(hk.box ((b2.set (.map (some M))).other (B':=w.heap.size+1+1) (by omega) .nilIface)).cell;have d2:=(hk.box ((b3.other (B':=w.heap.size+1) (by omega) (.map (some M))).set .nilIface)).cell;refine⟨.tuple #[.map (some M),.nilIface],by simp[results,Tryz.f189,go_sem,y,d2],?_,.inr ⟨M,?_,rfl,by have:=HM.out;omega,hk.pm ?_⟩⟩
     ·exact((af.out.1.setCell (p:=⟨w.heap.size+1,0,none⟩) (by show w.heap.size<=_+1;omega) _).setCell (p:=⟨w.heap.size+1+1,0,none⟩) (by show w.heap.size<=_+1+1;omega) _).trans hk.1
     ·unfold ckR
      rw[au.out,Yf];dsimp only;rw[aD.out]
     ·exact(a2.out.kept (grownBy_setCell' _ _ _) (by simp;omega)).kept (grownBy_setCell' _ _ _) (by simp;omega)
end Go.Proofs.YtgnkkgcgbeianaaGreatDoor
namespace Go.Proofs
open Go.Shelf
shelf_lay Lays.n189 Nm 189 at Tryz as Tryz.lays189
shelf_lay Lays2.n20 Nm2 20 at Tryz as Tryz.lays2_20
end Go.Proofs
namespace Go.Proofs.YtgnkkgcgbeianaaGreatDoor
open Go.Proofs.Tryz
open Go.RowKit Go.Shelf Go.Sort
theorem z9Z(blk h o:Nat)(zs:List Int)(w:World)(r:Holds (Value.int .i64) w blk h zs.toArray)(t:blk<w.heap.size)(A:zs.length<4611686018427387904):
 Calls prog 117 #[.slice (some ⟨blk,h,none⟩) zs.length o] w fun e w'=>
  e=.returned (.tuple #[])/\∃n os,w'=grow (putRow (Value.int .i64) (Sort.ahead w n) blk h (zs.mergeSort fun x y=>decide (x<=y)).toArray) os:=Any.slices_Sort_int Tryz.lays189 blk h o zs w r t A
theorem y0a(p:Option Addr)(h:Nat)(w:World):
 Calls prog 117 #[.slice p 0 h] w fun e w'=>e=.returned (.tuple #[])/\w'=w:=Any.slices_Sort_int_none Tryz.lays189 p h w
theorem y0b(blk h o:Nat)(zs:List Int)(w:World)(r:Holds (Value.int .i64) w blk h zs.toArray)(t:zs.length<=9223372036854775807)(y:zs.length<=o):
 Calls prog 118 #[.slice (some ⟨blk,h,none⟩) zs.length o] w fun e w'=>e=.returned (.slice (some ⟨blk,h,none⟩) (Lib.compact zs).length o)/\∃q,w'=putRow (Value.int .i64) (Sort.ahead w q) blk h (Lib.compact zs++List.replicate (zs.length-(Lib.compact zs).length) 0).toArray:=Any.slices_Compact_int Tryz.lays2_20 blk h o zs w r t y
theorem y0c(a:Option Addr)(h:Nat)(w:World):
 Calls prog 118 #[.slice a 0 h] w fun e w'=>e=.returned (.slice a 0 h)/\w'=w:=Any.slices_Compact_int_empty Tryz.lays2_20 a h w
theorem z2g(zs:List Int):(Lib.compact zs).length<=zs.length:=by
 unfold Lib.compact Lib.compactUpTo;rw[List.length_map];exact Nat.le_trans (List.length_filter_le _ _) (by simp)
def srt(zs:List Int):List Int:=zs.mergeSort fun x y=>decide (x<=y)
theorem My(zs:List Int):(srt zs).length=zs.length:=List.length_mergeSort zs
theorem y0d{W:World}{s:Nat}{v:Value}{zs:List Int}(h:W.ownsRow s 3 1 v zs.length (zs.map (Value.int .i64)))(V:zs.length<=1048576):
  Calls prog 117 #[v] W fun e w'=>e=.returned (.tuple #[])/\w'.ownsRow s 3 1 v zs.length ((srt zs).map (Value.int .i64))/\W.grownBy w' v.ownBlock:=by
 rcases h.2 with⟨rfl,y⟩|⟨g,A,Y,rfl,D,r,E,G,I,U⟩
 ·refine(y0a none 0 W).mono fun e w' o=>⟨o.1,?_,?_⟩
  ·rw[o.2]
   cases zs with
   |nil=>rw[show srt []=[]from List.length_eq_zero_iff.1 (My [])];exact h
   |cons _ _=>simp at y
  ·rw[o.2]
   exact⟨rfl,rfl,rfl,Nat.le_refl _,fun _ _ _=>rfl⟩
 ·refine(z9Z g 0 A zs W (holds_of_blockI r (by rw[<-U,Nat.mul_one])) (Array.getElem?_eq_some_iff.1 r).1 (by omega)).mono fun e w' o=> ?_
  obtain⟨o,n,os,t⟩:=o;refine⟨o,?_,?_⟩
  ·rw[t]
   exact ownsRow_sortedI (My zs) D r E G I
  ·rw[t]
   exact grownBy_sortedI _
theorem y0e{W:World}{s:Nat}{v:Value}{zs:List Int}(h:W.ownsRow s 3 1 v zs.length (zs.map (Value.int .i64)))(hz:zs.length<=1048576):
  Calls prog 118 #[v] W fun e w'=>∃t,e=.returned t/\w'.ownsRow s 3 1 t (Lib.compact zs).length ((Lib.compact zs).map (Value.int .i64))/\W.grownBy w' v.ownBlock:=by
 rcases h.2 with⟨rfl,I⟩|⟨g,y,A,rfl,U,D,V,Y,E,Z⟩
 ·refine(y0c none 0 W).mono fun e w' o=>⟨_,o.1,?_,?_⟩
  ·rw[o.2]
   cases zs with
   |nil=>exact h
   |cons _ _=>simp at I
  ·rw[o.2]
   exact⟨rfl,rfl,rfl,Nat.le_refl _,fun _ _ _=>rfl⟩
 ·refine(y0b g 0 y zs W (holds_of_blockI D (by rw[<-Z,Nat.mul_one])) (by omega) V).mono fun e w' o=> ?_
  obtain⟨o,q,hw⟩:=o;have hc:=z2g zs;have hl:(Lib.compact zs++List.replicate (zs.length-(Lib.compact zs).length) 0).length=zs.length:=by
   rw[List.length_append,List.length_replicate];omega
  have G:w'=grow (putRow (Value.int .i64) (Sort.ahead W q) g 0 (Lib.compact zs++List.replicate (zs.length-(Lib.compact zs).length) 0).toArray) #[]:=by rw[grow_empty];exact hw
  refine⟨_,o,⟨by simp,.inr ⟨g,y,_,rfl,U,by rw[G];exact heap_sortedI _ D,by omega,Y,by simp[putCells,E],?_⟩⟩,by rw[G];exact grownBy_sortedI _⟩;have r:=take_putCellsI A (Lib.compact zs++List.replicate (zs.length-(Lib.compact zs).length) 0) (by rw[hl,E];omega);rw[hl]at r;obtain⟨X,hX⟩:∃X,X=(putCells (Value.int .i64) 0 (Lib.compact zs++List.replicate (zs.length-(Lib.compact zs).length) 0).toArray A).toList:=⟨_,rfl⟩;rw[<-hX]at r ⊢;have e:X.take (Lib.compact zs).length=(X.take zs.length).take (Lib.compact zs).length:=by rw[List.take_take,Nat.min_eq_left hc]
  rw[Nat.mul_one,e,r,List.map_append,List.take_append_of_le_length (by simp),List.take_of_length_le (by simp)]
open Go.Maps
attribute [local go_sem] Oper.semAt_some
theorem Tryz.infoInt:(Tryz.prog.info? 3).map (fun i=>(i.zero,i.size,i.bytes))=some (some (zI 0),1,8):=by kernel_rfl
def ixV(l:List ByteArray)(s:zA):Nat:=if inN s l then ixN s l else 0
def ixL(l:List ByteArray)(q:List (ByteArray×Int)):List Int:=q.map fun x=>(ixV l x.1:Int)
theorem Qj{w:World}{g:Nat}{o:Array Value}{t:TypeId}(h:w.heap[g]? =some (.cells o t))(j:Nat)(v:Value)(r:o[j]? =some v):w.cell? ⟨g,j,none⟩=some v/\w.frozen? ⟨g,j,none⟩=false:=by
 constructor
 ·simp[World.cell?,h,r]
 ·simp[World.frozen?,h]
theorem Qw{w:World}{g:Nat}{o:Array Value}{t:TypeId}(h:zH w g (.cells o t))(j:Nat)(v:Value):(w.setCell ⟨g,j,none⟩ v).heap[g]? =some (.cells (o.setIfInBounds j v) t):=by
 obtain⟨r,y⟩:=Array.getElem?_eq_some_iff.1 h;show(w.heap.modify g _)[g]? =_;rw[Array.getElem?_eq_getElem (by rw[Array.size_modify];exact r),Array.getElem_modify_self,y];rfl
def usR(l:List ByteArray)(x:Rr):List Int:=Lib.compact (srt (ixL l (rfT x.2.1)))
structure Uw (w:World) (ub n:Nat) (vs:List Value) (us:List (List Int)) (W:World):Prop where
 blk:W.heap[ub]? =some (.cells (vs++List.replicate (n-vs.length) (Value.slice none 0 0)).toArray 24)
 len:vs.length=us.length
 row:∀i (h1:i<vs.length) (h2:i<us.length),W.ownsRow w.heap.size 3 1 vs[i] us[i].length (us[i].map (Value.int .i64))
 be:zB w W
 lo:w.heap.size<=ub
theorem y0f{α:Type}(vs:List α)(n:Nat)(z:α)(h:vs.length<n):(vs++List.replicate (n-vs.length) z).toArray[vs.length]? =some z:=by
 rw[List.getElem?_toArray,List.getElem?_append_right L0q,Nat.sub_self,List.getElem?_replicate,if_pos (by omega)]
theorem y0g{α:Type}(vs:List α)(n:Nat)(z v:α)(h:vs.length<n):(vs++List.replicate (n-vs.length) z).toArray.setIfInBounds vs.length v=((vs++[v])++List.replicate (n-(vs++[v]).length) z).toArray:=by
 have e:n-vs.length=(n-(vs++[v]).length)+1:=by simp;omega
 rw[e,List.replicate_succ];simp
theorem y0h{W W':World}{s S:Nat}{v:Value}{k:Nat}{xs:List Value}(h:W.ownsRow s 3 1 v k xs)(t:Below S W W')(y:S=W.heap.size):W'.ownsRow s 3 1 v k xs:=by
 refine⟨h.1,?_⟩;rcases h.2 with o|⟨g,A,D,o,E,r,G⟩
 ·exact .inl o
 ·exact .inr ⟨g,A,D,o,E,(t.block g (by rw[y];exact(Array.getElem?_eq_some_iff.1 r).1)).trans r,G⟩
theorem z2h{W:World}{s o j:Nat}{v u:Value}{k:Nat}{xs:List Value}{y:Array Value}(h:W.ownsRow s 3 1 v k xs)(A:zH W o (.cells y 24)):(W.setCell ⟨o,j,none⟩ u).ownsRow s 3 1 v k xs:=by
 refine⟨h.1,?_⟩;rcases h.2 with r|⟨g,D,E,r,G,t,I⟩
 ·exact .inl r
 ·refine .inr ⟨g,D,E,r,G,(Below.heap_setCell _ _ _ g (fun e=> ?_)).trans t,I⟩
  have e:g=o:=e;rw[e,A]at t;cases t
theorem z2i{W:World}{s r:Nat}{v:Value}{k:Nat}{xs:List Value}(h:W.ownsRow s 3 1 v k xs)(D:r<=s):W.ownsRow r 3 1 v k xs:=by
 refine⟨h.1,?_⟩;rcases h.2 with o|⟨g,t,y,o,E,A⟩
 ·exact .inl o
 ·exact .inr ⟨g,t,y,o,by omega,A⟩
theorem Uw.below{w:World}{o n:Nat}{vs:List Value}{us:List (List Int)}{W W':World}(h:Uw w o n vs us W)(r:zB W W'):Uw w o n vs us W':=
 ⟨(r.block o (Array.getElem?_eq_some_iff.1 h.blk).1).trans h.blk,h.len,fun i t y=>y0h (h.row i t y) r rfl,h.be.trans (r.mono h.be.size),h.lo⟩
theorem Uw.step{w:World}{o n:Nat}{vs:List Value}{us:List (List Int)}{W:World}{v:Value}{u:List Int}(h:Uw w o n vs us W)(t:vs.length<n)(y:W.ownsRow w.heap.size 3 1 v u.length (u.map (Value.int .i64))):Uw w o n (vs++[v]) (us++[u]) (W.setCell ⟨o,vs.length,none⟩ v):=by
 refine⟨by rw[Qw h.blk,y0g vs n _ v t],by simp[h.len],fun i A G=> ?_,h.be.setCell (p:=⟨o,vs.length,none⟩) h.lo v,h.lo⟩;by_cases hi:i<vs.length
 ·have r:i<us.length:=by rw[<-h.len];exact hi
  rw[List.getElem_append_left hi,List.getElem_append_left r];exact z2h (h.row i hi r) h.blk
 ·have D:i=vs.length:=by simp at A;omega
  subst D;have E:vs.length=us.length:=h.len;rw[List.getElem_append_right (by omega)];have:(us++[u])[vs.length]=u:=by rw[List.getElem_append_right (by omega)];simp[E]
  rw[this];simp only[Nat.sub_self,List.getElem_cons_zero];exact z2h y h.blk
theorem Tryz.infoInts:(Tryz.prog.info? 24).map (fun i=>(i.zero,i.size,i.bytes))=some (some (.slice none 0 0),1,24):=by kernel_rfl
theorem z2j(z:Value)(h:z.cells=#[z])(k:Nat):madeCells z.cells k=(List.replicate k z).toArray:=by
 rw[h];unfold madeCells;apply Array.ext
 ·simp
 ·intro i o r
  simp[Nat.mod_one]
theorem y0i(n:Nat)(y:n<=1048576)(W:World):(Instr.makeSlice 69 (zI (n:Int)) (zI (n:Int))).run prog W=.ok (zS W.heap.size n n) (W.alloc (.cells (List.replicate n (Value.slice none 0 0)).toArray 24)):=by
 obtain⟨i0,h,o,r,t⟩:=info_parts Tryz.infoInts;rw[run_make W 69 24 i0 (.slice none 0 0) Tryz.underlying69 h o .i64 .i64 n n (by omega) (by omega) (by rw[t];omega) (by omega),r,z2j _ rfl];simp
inductive Rch (us:List (List Int)) (a:Nat):Nat->Prop where
 |refl:Rch us a a
 |step {b c:Nat}:Rch us a b->(c:Int)∈us.getD b []->Rch us a c
theorem Rch.trans{us:List (List Int)}{a b c:Nat}(h:Rch us a b)(k:Rch us b c):Rch us a c:=by
 induction k with
 |refl=>exact h
 |step _ hm ih=>exact ih.step hm
def unm(sn:List Bool):Nat:=(sn.filter (· == false)).length
theorem z2k:∀(o:List Bool) (p:Nat),o[p]? =some false->unm (o.set p true)<unm o
 |[],p,h=>by simp at h
 |b::r,0,h=>by
  obtain rfl:b=false:=by simpa using h
  simp[unm]
 |b::r,p+1,h=>by
  have t:=z2k r p (by simpa using h);unfold unm at t ⊢;rw[List.set_cons_succ,List.filter_cons,List.filter_cons];split
  ·simp only[List.length_cons];omega
  ·exact t
theorem z2l:∀(a b:List Bool),b.length=a.length->(∀i:Nat,a[i]? =some true->b[i]? =some true)->unm b<=unm a
 |[],[],_,_=>Nat.le_refl _
 |[],_::_,h,_=>by simp at h
 |_::_,[],h,_=>by simp at h
 |x::r,y::q,h,hm=>by
  have o:=z2l r q (by simpa using h) (fun i t=>by have:=hm (i+1) (by simpa using t);simpa using this);have A:=hm 0;unfold unm at o ⊢;rw[List.filter_cons,List.filter_cons];cases x<;>cases y<;>simp_all;omega
def Eg(W:World)(B:Nat)(rv:Value)(u:List Int):Prop:=∃so cap,rv=.slice so u.length cap/\u.length<=1048576/\∀j (hj:j<u.length),∃g o,so=some ⟨g,o,none⟩/\g<B/\W.cell? ⟨g,o+j,none⟩=some (zI u[j])
def UsM(W:World)(B:Nat)(uv:Value)(us:List (List Int)):Prop:=∃so cap,uv=.slice so us.length cap/\us.length<=1048576/\∀i (hi:i<us.length),∃g o rv,so=some ⟨g,o,none⟩/\g<B/\W.cell? ⟨g,o+i,none⟩=some rv/\Eg W B rv us[i]
theorem y0j{W:World}{a b:Nat}{x y:Array Value}{t u:TypeId}(h:W.heap[a]? =some (.cells x t))(k:W.heap[b]? =some (.cells y u))(o:t≠u):a≠b:=fun e=>by
 subst e;rw[h]at k;cases k;exact o rfl
theorem z2m{W:World}{sb:Nat}{o:List Bool}(h:zH W sb (.cells (o.map Value.bool).toArray 4)){p:Nat}{b:Bool}(r:o[p]? =some b):zC W sb p (.bool b)/\W.frozen? ⟨sb,p,none⟩=false:=Qj h p _ (by simp[r])
theorem Mf(L:List Int):(srt L).Perm L:=List.mergeSort_perm L _
theorem Tryz.infoBool:(Tryz.prog.info? 4).map (fun i=>(i.zero,i.size,i.bytes))=some (some (.bool false),1,1):=by kernel_rfl
theorem y0k(n:Nat)(y:n<=1048576)(W:World):(Instr.makeSlice 220 (zI (n:Int)) (zI (n:Int))).run prog W=.ok (zS W.heap.size n n) (W.alloc (.cells (Array.replicate n (Value.bool false)) 4)):=by
 obtain⟨i0,h,o,r,t⟩:=info_parts Tryz.infoBool;rw[run_make W 220 4 i0 (.bool false) Tryz.underlying220 h o .i64 .i64 n n (by omega) (by omega) (by rw[t];omega) (by omega),r,z2j _ rfl];simp
mutual
def Tq:RT->Nd->Prop
 | .mk k T a b c d s _,.mk kd T' C s' _=>k=(kd:Int)/\T'=T/\a=(wd C 0:Nat)/\b=(wd C 1:Nat)/\c=(wd C 2:Nat)/\d=(wd C 3:Nat)/\TqL s s'
def TqL:List RT->List Nd->Prop
 |[],[]=>True
 |t::r,n::q=>Tq t n/\TqL r q
 |_,_=>False
end
theorem TqL.len:∀{s:List RT} {q:List Nd},TqL s q->Jw q=Qv s/\q.isEmpty=s.isEmpty
 |[],[],_=>⟨rfl,rfl⟩
 |[],_::_,h=>by simp[TqL]at h
 |_::_,[],h=>by simp[TqL]at h
 |t::r,n::q,h=>by
  rw[TqL]at h;exact⟨by rw[Jw,Qv,h.2.len.1],rfl⟩
mutual
theorem z2n{w:World}{B s0:Nat}(E:B<=s0):∀(t:RT) (n:Nd) (A:List Value),Tq t n->Qy w B t A->NdV s0 w n A
 | .mk k T a b c d s p,.mk kd T' C s' pn,A,h,y=>by
   rw[Tq]at h;obtain⟨rfl,rfl,rfl,rfl,rfl,rfl,r⟩:=h;rw[Qy]at y;obtain⟨G,I,rfl,y⟩:=y;rw[NdV];refine⟨G,I,p,by rw[r.len.1],?_⟩;rcases y with D|⟨D,g,o,rfl,Y,U,V⟩
   ·exact .inl (by rw[r.len.2];exact D)
   ·exact .inr ⟨by rw[r.len.2];exact D,g,o,rfl,by omega,by rw[r.len.1];exact U,z2o E s s' g o r V⟩
theorem z2o{w:World}{B s0:Nat}(y:B<=s0):∀(s:List RT) (q:List Nd) (g o:Nat),TqL s q->Zq w B g o s->Xc s0 w g o q
 |[],[],g,o,_,_=>by rw[Xc];trivial
 |[],_::_,_,_,h,_=>by simp[TqL]at h
 |_::_,[],_,_,h,_=>by simp[TqL]at h
 |t::r,n::q,g,o,h,ht=>by
  rw[TqL]at h;rw[Zq]at ht;obtain⟨⟨A,D,E⟩,G⟩:=ht;rw[Xc];exact⟨⟨A,z2n y t n A h.1 D,E⟩,z2o y r q g _ h.2 G⟩
end
def TqR:List Rr->List Rl->Prop
 |[],[]=>True
 |x::r,y::q=>y.1=x.1/\Tq x.2.1 y.2.1/\TqR r q
 |_,_=>False
theorem TqR.len:∀{rs:List Rr} {ns:List Rl},TqR rs ns->ns.length=rs.length
 |[],[],_=>rfl
 |[],_::_,h=>by simp[TqR]at h
 |_::_,[],h=>by simp[TqR]at h
 |x::r,y::q,h=>by
  rw[TqR]at h;simp[h.2.2.len]
theorem TqR.get:∀{rs:List Rr} {ns:List Rl},TqR rs ns->∀(j:Nat) (o:j<rs.length) (t:j<ns.length),ns[j].1=rs[j].1/\Tq rs[j].2.1 ns[j].2.1
 |[],[],_,j,o,_=>by simp at o
 |[],_::_,h,_,_,_=>by simp[TqR]at h
 |_::_,[],h,_,_,_=>by simp[TqR]at h
 |x::r,y::q,h,0,_,_=>by
  rw[TqR]at h;exact⟨h.1,h.2.1⟩
 |x::r,y::q,h,j+1,o,t=>by
  rw[TqR]at h;exact h.2.2.get j (by simpa using o) (by simpa using t)
theorem y0l{w:World}{B s0 n:Nat}{t:Option Addr}{rs:List Rr}{ns:List Rl}(G:B<=s0)(r:TqR rs ns)(h:Qb w B t n rs):RgV s0 w t n ns:=by
 refine⟨by rw[r.len];exact h.1,h.2.1,fun j y=> ?_⟩;have A:j<rs.length:=by rw[<-r.len];exact y
 obtain⟨g,o,I,hg,k,T,a,b,c,d,U,V,Y,p,rt,Z,z1,z2,z3,z4,z5,z6,z7,z8,z9⟩:=h.2.2 j A;obtain⟨e1,e2⟩:=r.get j A y;have D:=z2n G _ _ _ e2 rt;obtain⟨kd,T1,C,aa,sl,sc,p1,E⟩:=D.shape;dsimp only[r8,v8]at E;cases E;exact⟨g,o,I,by omega,kd,T,C,U,V,Y,p,_,D,by rw[e1];exact Z,z1,z2,z3,z4,z5,z6,z7,z8,z9⟩
theorem y0m(o:Option Addr)(n r:Nat)(rs:List Rr)(B:Nat)(w:World)(t:RgZ rs)(h:Qb w B o n rs)(y:B<=w.heap.size)(E:okG rs=false):
  Calls prog 231 #[.agg #[.slice o n r]] w fun e w'=>e=.returned (.tuple #[zT {data:=#[]},.iface 36 (zI 20)])/\zB w w':=by
 have A:=hid (fun(W:World) (D:zB w W)=>z1T o n r rs B W t (h.below (D.mono y)) (Nat.le_trans y D.size));rw[E]at A;clear h t;go_enter func231,ntmps231
 go_wp2_with(first|(go_at_call 263;refine(A.out _ ?hh).mono ?_;(case hh=>exact B0q.alloc L0q _);rintro e I ⟨rfl,G⟩))
 go_ret2
 exact⟨rfl,((Below.refl _ w).alloc L0q _).trans (G.mono (by simp))⟩
theorem Rj(o:Option Addr)(n t:Nat)(rs:List Rr)(ns:List Rl)(B:Nat)(w:World)(Y:RgZ rs)(h:Qb w B o n rs)(G:B<=w.heap.size)(hk:okG rs=true)(Z:TqR rs ns)(hx:∀x∈ns,Ruk Nmq x)(I:TabIs w):
  Calls prog 231 #[.agg #[.slice o n t]] w fun e w'=>e=.returned (Fz ns)/\zB w w':=by
 have HI:=hid (fun(W:World) (r:zB w W)=>z1T o n t rs B W Y (h.below (r.mono G)) (Nat.le_trans G r.size));have HT:=hid (fun(W:World) (r:zB w W)=>z9r hx n t o W (y0l (Nat.le_trans G r.size) Z (h.below (r.mono G))) (I.below r I.lt));rw[hk]at HI;obtain⟨A,E,hA⟩:∃A E,Fz ns=.tuple #[A,E]:=by
  unfold Fz;split
  ·exact⟨_,_,rfl⟩
  ·split
   ·exact⟨_,_,rfl⟩
   ·exact⟨_,_,rfl⟩
 rw[hA]at HT ⊢;obtain⟨y,D⟩:∃y,y=w.alloc (.cells #[.slice o n t] 43):=⟨_,rfl⟩;have U:Hid (zB w y):=by rw[D];exact(Below.refl _ w).alloc L0q _
 have ab:Hid (y.heap[w.heap.size]? =some (.cells #[.slice o n t] 43)):=by rw[D];exact Qx w _ rfl
 have ac:Hid (y.heap.size=w.heap.size+1):=by rw[D];exact World.size_alloc _ _
 have ad:=hid D;clear D h Y I hx Z hA;go_enter func231,ntmps231
 go_wp2_with(first|(go_at_call 263;rw[<-ad.out];refine(HI.out _ U.out).mono ?_;rintro e wq ⟨rfl,aa⟩;have c0:=(Qk ((aa.block _ (by rw[ac.out];exact Nat.lt_succ_self _)).trans ab.out)).1;have V:Hid (zB w wq):=U.out.trans (aa.mono U.out.size))|(go_at_call 264;refine(HT.out _ V.out).mono ?_;rintro e wz ⟨rfl,ae⟩))
 go_ret2
 exact⟨rfl,V.out.trans (ae.mono V.out.size)⟩
mutual
def toR:Nd->RT
 | .mk kd T C s p=>.mk (kd:Int) T (wd C 0:Nat) (wd C 1:Nat) (wd C 2:Nat) (wd C 3:Nat) (Yd s) (p:Int)
def Yd:List Nd->List RT
 |[]=>[]
 |n::r=>toR n::Yd r
end
mutual
theorem z2p:∀n:Nd,Tq (toR n) n
 | .mk kd T C s p=>by
   rw[toR,Tq];exact⟨rfl,rfl,rfl,rfl,rfl,rfl,z2q s⟩
theorem z2q:∀s:List Nd,TqL (Yd s) s
 |[]=>by rw[Yd,TqL];trivial
 |n::r=>by
  rw[Yd,TqL];exact⟨z2p n,z2q r⟩
end
theorem Eb:∀s:List Nd,Qv (Yd s)=Jw s/\(Yd s).isEmpty=s.isEmpty
 |[]=>⟨rfl,rfl⟩
 |n::r=>⟨by rw[Yd,Qv,Jw,(Eb r).1],by rw[Yd];rfl⟩
mutual
theorem z2r{w:World}{P:Nat->Prop}:∀(n:Nd) (o:List Value),Sm n n->Qh w P n o->Qy w w.heap.size (toR n) o
 | .mk kd T C s p,o,hs,h=>by
   rw[Sm]at hs;rw[Qh]at h;obtain⟨_,_,_,hl,I⟩:=hs;obtain⟨sv,rfl,h⟩:=h;rw[toR,Qy];rcases h with⟨r,rfl⟩|⟨r,g,A,D,rfl,_,t,_,E⟩
   ·have G:s=[]:=by simpa using r
    subst G;exact⟨none,0,rfl,.inl rfl⟩
   ·refine⟨some ⟨g,0,none⟩,A,by rw[(Eb s).1],.inr ⟨by rw[(Eb s).2];exact r,g,0,rfl,Qq t,by rw[(Eb s).1,Dm];unfold maxLen;omega,z2s s D.toList g 0 hl E fun j u y=> ?_⟩⟩
    rw[Array.getElem?_toList]at y;simp[World.cell?,t,y]
theorem z2s{w:World}{P:Nat->Prop}:∀(s:List Nd) (vs:List Value) (g o:Nat),SmL s s->Qp w P s vs->(∀j u,vs[j]? =some u->w.cell? ⟨g,o+j,none⟩=some u)->Zq w w.heap.size g o (Yd s)
 |[],vs,g,o,_,_,_=>by rw[Yd,Zq];trivial
 |n::r,vs,g,o,hs,h,hc=>by
  rw[SmL]at hs;rw[Qp]at h;obtain⟨c,rest,rfl,y,A⟩:=h;have hl:=y.len;rw[Yd,Zq];refine⟨⟨c,z2r n c hs.1 y,fun j u t=>hc j u ?_⟩,z2s r rest g (o+8) hs.2 A fun j u t=> ?_⟩
  ·have:j<c.length:=(List.getElem?_eq_some_iff.1 t).1
   rw[List.getElem?_append_left this];exact t
  ·rw[Nat.add_assoc]
   refine hc (8+j) u ?_;rw[List.getElem?_append_right (by omega),hl,Nat.add_sub_cancel_left];exact t
end
theorem Mg{T:ByteArray}(h:T={data:=#[]}):T.toList.isEmpty=true:=by
 subst h;rw[ByteArray.toList_eq];rfl
theorem Mb{T:ByteArray}(h:T.toList.isEmpty=true):T={data:=#[]}:=by
 rw[ByteArray.toList_eq]at h;apply ByteArray.ext;simpa using h
theorem TqL.length{s:List RT}{q:List Nd}(h:TqL s q):q.length=Qv s:=by rw[<-Dm];exact h.len.1
theorem Kj:zc ((wd 0 0:Nat):Int) ((wd 0 1:Nat):Int) ((wd 0 2:Nat):Int) ((wd 0 3:Nat):Int)=true:=by decide
theorem y0n{kd:Nat}{T:ByteArray}{C n:Nat}{s:List Nd}(o:s.length=n)(r:(kd=1/\T={data:=#[]}/\C=0/\s=[])∨(kd=2/\C=0/\s=[])∨(kd=3/\T={data:=#[]}/\s=[])∨(kd=4/\T={data:=#[]}/\C=0/\s=[])∨(kd=5/\C=0/\s=[])∨
   ((kd=6∨kd=7)/\T={data:=#[]}/\C=0/\2<=s.length)∨(8<=kd/\kd<=12/\T={data:=#[]}/\C=0/\s.length=1))(t:kd=2->T.size<=255)(y:kd=5->nmS T=true):
  okN (kd:Int) T (wd C 0:Nat) (wd C 1:Nat) (wd C 2:Nat) (wd C 3:Nat) n=true:=by
 unfold okN;subst o;rcases r with⟨rfl,h,rfl,rfl⟩|⟨rfl,rfl,rfl⟩|⟨rfl,h,rfl⟩|⟨rfl,h,rfl,rfl⟩|⟨rfl,rfl,rfl⟩|⟨A,h,rfl,hl⟩|⟨D,E,h,rfl,hl⟩
 ·rw[if_pos (by decide),Mg h,Kj];rfl
 ·rw[if_neg (by decide),if_pos (by decide),Kj,decide_eq_true (by have:=t rfl;omega)];rfl
 ·rw[if_neg (by decide),if_neg (by decide),if_pos (by decide),Mg h];rfl
 ·rw[if_pos (by decide),Mg h,Kj];rfl
 ·rw[if_neg (by decide),if_neg (by decide),if_neg (by decide),if_pos (by decide),Kj,y rfl];rfl
 ·rw[if_neg (by omega),if_neg (by omega),if_neg (by omega),if_neg (by omega),if_pos (by omega),Mg h,Kj,decide_eq_true (by omega)];rfl
 ·rw[if_neg (by omega),if_neg (by omega),if_neg (by omega),if_neg (by omega),if_neg (by omega),if_pos (by omega),Mg h,Kj,hl];rfl
mutual
theorem Rw:∀(t:RT) (n:Nd),Tq t n->Vk n->Wf Nmq n->okT t=true/\RtZ t
 | .mk k T a b c d s p,.mk kd T' C s' pn,h,hv,hw=>by
   rw[Tq]at h;obtain⟨rfl,rfl,rfl,rfl,rfl,rfl,r⟩:=h;have V:=hv.kd;rw[Vk]at hv;rw[Wf]at hw;obtain⟨y,E⟩:=hv;obtain⟨A,D,Y,G⟩:=hw;obtain⟨I,U⟩:=z2t s s' r E G;rw[okT,RtZ,I,Bool.and_true];refine⟨y0n r.length y A D,?_,U⟩;have o:∀T:ByteArray,T={data:=#[]}->T.size<=9223372036854775807:=fun T h=>by rw[h];decide
   rcases y with q|q|q|q|q|q|q
   ·exact o _ q.2.1
   ·have:=A q.1;omega
   ·exact o _ q.2.1
   ·exact o _ q.2.1
   ·have:=Ez (D q.1);omega
   ·exact o _ q.2.1
   ·exact o _ q.2.2.1
theorem z2t:∀(s:List RT) (q:List Nd),TqL s q->VkL q->WfL Nmq q->okL s=true/\Xg s
 |[],[],_,_,_=>by rw[okL,Xg];exact⟨rfl,trivial⟩
 |[],_::_,h,_,_=>by simp[TqL]at h
 |_::_,[],h,_,_=>by simp[TqL]at h
 |t::r,n::q,h,hv,hw=>by
  rw[TqL]at h;rw[VkL]at hv;rw[WfL]at hw;obtain⟨a1,a2⟩:=Rw t n h.1 hv.1 hw.1;obtain⟨o,y⟩:=z2t r q h.2 hv.2 hw.2;rw[okL,Xg,a1,o];exact⟨rfl,a2,y⟩
end
section
def Rq(r1 r2:Pr):Prop:=match r1,r2 with
 | .inr (n,k),.inr (n',k')=>k'=k/\Sm n n'
 | .inl c,.inl c'=>c'.1=c.1
 |_,_=>False
section
variable {L1 L2:List Tok}
end
end
def toG(rs:List Rl):List Rr:=rs.map fun x=>(x.1,toR x.2.1,(x.2.2:Int))
theorem Eh:∀rs:List Rl,TqR (toG rs) rs
 |[]=>by unfold toG;rw[List.map_nil,TqR];trivial
 |x::r=>by
  have:=Eh r;unfold toG at this ⊢;rw[List.map_cons,TqR];exact⟨rfl,z2p _,this⟩
theorem y0o{W:World}{B g n t:Nat}{rs:List Rl}(h:RoR B (zS g n t) rs W)(y:∀x∈rs,Sm x.2.1 x.2.1)(I:rs.length<=64):Qb W W.heap.size (some ⟨g,0,none⟩) n (toG rs):=by
 have hl:n=rs.length:=h.len;have U:(toG rs).length=rs.length:=by unfold toG;rw[List.length_map]
 refine⟨by omega,by unfold maxLen;omega,fun j V=> ?_⟩;have r:j<rs.length:=by omega
 obtain⟨c,⟨Y,rfl,A⟩,o⟩:=h.get j r;have e:(toG rs)[j]=(rs[j].1,toR rs[j].2.1,(rs[j].2.2:Int)):=List.getElem_map _;have rt:=z2r _ _ (y _ (List.getElem_mem r)) A;obtain⟨k,T,a,b,c,d,D,E,G,p,rfl⟩:=rt.shape;refine⟨g,0,rfl,h.lt,?_⟩;rw[e,Nat.zero_add];exact⟨k,T,a,b,c,d,D,E,G,p,rt,o 0 _ rfl,o 1 _ rfl,o 2 _ rfl,o 3 _ rfl,o 4 _ rfl,o 5 _ rfl,o 6 _ rfl,o 7 _ rfl,o 8 _ rfl,o 9 _ rfl⟩
theorem Ry:∀{rs:List Rr} {ns:List Rl},TqR rs ns->(∀x∈ns,Ruk Nmq x)->rs.all okR=true/\RgZ rs
 |[],[],_,_=>⟨rfl,fun x hx=>by simp at hx⟩
 |[],_::_,h,_=>by simp[TqR]at h
 |_::_,[],h,_=>by simp[TqR]at h
 |x::r,y::q,h,hx=>by
  rw[TqR]at h;obtain⟨A,D⟩:=Ry h.2.2 (fun z o=>hx z (by simp[o]));obtain⟨E,G,I⟩:=hx y (by simp);obtain⟨U,V⟩:=Rw _ _ h.2.1 G I;have t:nmS x.1=true:=by rw[<-h.1];exact E
  refine⟨by rw[List.all_cons,A];unfold okR;rw[t,U];rfl,fun z o=> ?_⟩;rcases List.mem_cons.1 o with rfl|o
  ·exact⟨by have:=Ez t;omega,V⟩
  ·exact D z o
theorem y0p{rs:List Rr}{ns:List Rl}(h:TqR rs ns)(hx:∀x∈ns,Ruk Nmq x)(o:1<=ns.length)(r:ns.length<=64):okG rs=true:=by
 unfold okG;rw[(Ry h hx).1,decide_eq_true (by have:=h.len;omega),decide_eq_true (p:=rs.length<=64) (by have:=h.len;omega)];rfl
end Go.Proofs.YtgnkkgcgbeianaaGreatDoor
