/- Lemmas for the last text. Conditions: those that each names. -/
import Derived.Test.YtmelafeingcgnaaGreatDoorVF1ToO4
import Derived.Shelf.Lay
import Derived.Shelf.Sort.Plain
import Derived.Shelf.Slices.CompactI
import Derived.Shelf.Slices.In.SortNone
import Derived.Sort.OwnSortedInts
import Derived.Ground.NamesProg
import Derived.Ground.Names2Prog
import Derived.Test.YtmelafeingcgnaaGreatDoorVR8ToU1
import Derived.Laws.EntriesVeiled
import Derived.Test.YtmelafeingcgnaaGreatDoorVY15ToX17
set_option linter.unusedVariables false
set_option maxRecDepth 100000
set_option maxHeartbeats 8000000
namespace Go.Proofs.YtmelafeingcgnaaGreatDoor
open Go.Proofs.Tryz
open Go.RowKit Go.Shelf Go.Maps
attribute [local go_sem] Oper.semAt_some
theorem Pl{X Y:World}{row:Option Nat}{b:Nat}{y:Array Value}{t:TypeId}(h:X.heap[b]? =some (.cells y t))(D:X.grownBy Y row)(E:∀r,row=some r->∃o:Obj,X.heap[r]? =some o/\o.isCells=false):Y.heap[b]? =some (.cells y t):=
 (D.block b (Array.getElem?_eq_some_iff.1 h).1 (fun e=>by obtain⟨o,A,G⟩:=E b e.symm;rw[h]at A;cases A;cases G)).trans h
theorem y0q(so:Option Addr)(n G:Nat)(rs:List Rr)(w:World)(h:Qg w w.heap.size so n rs)
  (bu:5<w.heap.size)(HZ:Hid (RgZ rs))(HP:Hid (∀W:World,zB w W->Calls prog 236 #[.agg #[.slice so n G]] W fun e w'=>e=.returned .nilIface/\zB W w'))(m:Nat):
  CallsIn Fence.wide (m+5) prog 201 #[.agg #[.slice so n G]] w (CkP w rs):=by
 have bv:=Xw;have a6:=y0p;obtain⟨W0,ag⟩:∃W0,W0=((w.alloc (.cells #[.slice so n G] 51)).alloc (.cells #[.map none] 317)).alloc (.cells #[.nilIface] 31):=⟨_,rfl⟩;have ax:zB w W0:=by rw[ag];exact(((Below.refl _ w).alloc L0q _).alloc (by simp) _).alloc (by simp;omega) _
 have c1:W0.heap[w.heap.size]? =some (.cells #[.slice so n G] 51):=by
  rw[ag];exact(Below.heap_alloc _ _ _ (by simp;omega)).trans ((Below.heap_alloc _ _ _ (by simp)).trans (Qx w _ rfl))
 have c2:W0.heap[w.heap.size+1]? =some (.cells #[.map none] 317):=by
  rw[ag];exact(Below.heap_alloc _ _ _ (by simp)).trans (Qx _ _ (by simp))
 have c3:W0.heap[w.heap.size+1+1]? =some (.cells #[.nilIface] 31):=by
  rw[ag];exact Qx _ _ (by simp)
 have a7:W0.heap.size=w.heap.size+1+1+1:=by rw[ag];simp
 have aO:=hid (HP.out W0 ax);refine callsIn_of_wp_marks func201 rfl trivial ?_ rfl;simp only[ntmps201,List.size_toArray,List.length_cons,List.length_nil,Nat.reduceAdd,Nat.reduceSub,Array.replicate_succ,Array.replicate_zero,List.push_toArray,List.append_toArray,List.nil_append,List.cons_append]
 gi_wp2
 rw[<-ag];clear ag;refine⟨trivial,?_⟩;refine(callsIn_wide.2 aO.out).mono ?_;rintro e W1 ⟨rfl,ak⟩;have A:=(ak.block _ (by omega)).trans c1;have d2:=(ak.block _ (by omega)).trans c2;have d3:=(ak.block _ (by omega)).trans c3;have a8:=ak.size;clear aO;obtain⟨e1,_⟩:=Qy A;have a9:w.heap.size<W1.heap.size:=by omega
 have aP:Hid (zB w W1):=ax.trans (ak.mono ax.size);obtain⟨M,hM⟩:∃M,M=W1.heap.size:=⟨_,rfl⟩;obtain⟨W2,ae⟩:∃W2,W2=(W1.alloc (.map #[] 0)).alloc (.cells #[.map (some W1.heap.size)] 317):=⟨_,rfl⟩;have ba:Hid (Pm W2 M []):=by
  rw[ae,hM];exact(Pm.made W1).kept (World.grownBy_alloc _ _ none) (by simp)
 have bb:Hid (zB w W2):=by
  rw[ae];exact((aP.out.alloc aP.out.size _).alloc (by simp;omega) _)
 have HV:Hid (W2.heap[M+1]? =some (.cells #[.map (some M)] 317)):=by
  rw[ae,hM];exact Qx _ _ (by simp)
 have H1:Hid (W2.heap[w.heap.size]? =some (.cells #[.slice so n G] 51)):=by
  rw[ae];exact(Below.heap_alloc _ _ _ (by simp;omega)).trans ((Below.heap_alloc _ _ _ (by omega)).trans A)
 have H2:Hid (W2.heap[w.heap.size+1]? =some (.cells #[.map none] 317)):=by
  rw[ae];exact(Below.heap_alloc _ _ _ (by simp;omega)).trans ((Below.heap_alloc _ _ _ (by omega)).trans d2)
 have H3:Hid (W2.heap[w.heap.size+1+1]? =some (.cells #[.nilIface] 31)):=by
  rw[ae];exact(Below.heap_alloc _ _ _ (by simp;omega)).trans ((Below.heap_alloc _ _ _ (by omega)).trans d3)
 have HM:Hid (w.heap.size+1+1+1<=M):=by show _<=_;omega
 have bc:Hid (W2.heap.size=M+1+1):=by show _=_;rw[ae,hM];simp
 have bw:n<=9223372036854775807:=by have:=h.2.1;unfold maxLen at this;omega
 have HR:=hid h;have ar:Hid (n=rs.length):=h.1
 gi_wp2
 rw[<-ae,<-hM];clear ae hM A d2 d3 e1 h a7 a8 ax c1 c2 c3 ak a9 a6
 gi_loopw [27] (fun i wr=>∃j:Nat,i=zI (j:Int)/\j<=n/\Hid (Pm wr M (nmL (rs.take j)))/\Hid (Dz rs=Yh (nmL (rs.take j)) (rs.drop j))/\Hid (Kp3 w W2 M wr)) (fun i _=>n-(intOf i).toNat)
 case atStart=>exact⟨0,rfl,Nat.zero_le _,ba,rfl,⟨bb.out,Nat.le_of_eq bc.out.symm,fun _ _=>rfl,rfl⟩⟩
 case round=>
  obtain⟨j,rfl,hj,aH,au,ad⟩:=hrel;by_cases hjn:j<n
  ·have bx:(j:Int)<(n:Int):=by omega
   have a0:decide ((j:Int)<(n:Int))=true:=by simp;omega
   have al:j<rs.length:=by rw[<-ar.out];exact hjn
   obtain⟨g,o,rfl,hg,k1,T1,a1,b1,c1,A,aa,n1,ab,p1,aI,r0⟩:=HR.out.2.2 j al;have av:∀q,wr.cell? ⟨g,q,none⟩=w.cell? ⟨g,q,none⟩:=fun q=>ad.out.1.cell (p:=⟨g,q,none⟩) hg
   simp only[<-av]at r0;obtain⟨z0,z1,z2,z3,z4,z5,z6,z7,z8,z9⟩:=r0;have bd:g<wr.heap.size:=World.block_lt_of_cell? wr _ z0;obtain⟨N0,ah⟩:∃N0,N0=rs[j].1:=⟨_,rfl⟩;obtain⟨q1,am⟩:∃q1,q1=rs[j].2.2:=⟨_,rfl⟩;rw[<-ah]at z0;rw[<-am]at z9;have be:Hid (wr.heap[M+1]? =some (.cells #[.map (some M)] 317)):=ad.out.2.2.2.trans HV.out;obtain⟨v1,_⟩:=Qy be.out;have bz:M+1<wr.heap.size:=ad.out.2.1;obtain⟨D,ai,hD⟩:=aH.out;have ay:=ai.alloc (.cells #[zT N0,zI k1,zT T1,zU a1,zU b1,zU c1,zU A,.slice aa n1 ab,zI p1,zI q1] 121);have ao:N0.size<=maxLen:=by rw[ah];exact(HZ.out _ (List.getElem_mem al)).1
   have az:=hid ah;have bf:=hid am;clear av ah am;have hm:=HM.out;have y2:wr.heap[w.heap.size+1]? =some (.cells #[.map none] 317):=(ad.out.2.2.1 _ (by omega)).trans H2.out;have y3:wr.heap[w.heap.size+1+1]? =some (.cells #[.nilIface] 31):=(ad.out.2.2.1 _ (by omega)).trans H3.out;have l2:w.heap.size+1<wr.heap.size:=Qq y2;have l3:w.heap.size+1+1<wr.heap.size:=Qq y3;cases hin:inN N0 (nmL (rs.take j))with
   |true=>
    have hh:Maps.has D (kls N0)=true:=by rw[(hD N0).1,hin]
    gi_wp2_with (first
     |(gi_at_lookup;refine wpListIn_lookup_own_ok_int _ rfl _ _ 317 rfl 9 3 .i64 Fc Tryz.underlying317 Tryz.underlying3 (Mw _) M _ D rfl ay _ _ rfl (Fl ao) ?_;intro cc aA aB;rw[hh]))
    obtain⟨wa,ap⟩:∃wa,wa=wr.alloc (.cells #[zT N0,zI k1,zT T1,zU a1,zU b1,zU c1,zU A,.slice aa n1 ab,zI p1,zI q1] 121):=⟨_,rfl⟩;rw[<-ap];have ya:wa.heap[wr.heap.size]? =some (.cells #[zT N0,zI k1,zT T1,zU a1,zU b1,zU c1,zU A,.slice aa n1 ab,zI p1,zI q1] 121):=by rw[ap];exact Qx _ _ rfl
    have aJ:wa.heap[w.heap.size+1]? =some (.cells #[.map none] 317):=by rw[ap];exact(Below.heap_alloc _ _ _ l2).trans y2
    have aK:wa.heap[w.heap.size+1+1]? =some (.cells #[.nilIface] 31):=by rw[ap];exact(Below.heap_alloc _ _ _ l3).trans y3
    have aL:Hid (zB w wa):=by rw[ap];exact ad.out.1.alloc ad.out.1.size _
    have la:=Qq ya;have bA:=Qq aJ;have bC:=Qq aK;obtain⟨⟨r0,r1,r2,r3,r4,r5,r6,r7,bg,r9⟩,_⟩:=Gy ya;obtain⟨x2,f2⟩:=Qy aJ;obtain⟨x3,f3⟩:=Qy aK;clear ap ai ay z0 z1 z2 z3 z4 z5 z6 z7 z8 z9 v1 r0 r1 r2 r3 r4 r5 r6 r7 bg aA aB hh
    gi_region
    gi_wp2
    have b2:Boxed wa (w.heap.size+1) 317 (.map none):=aJ;have b3:Boxed wa (w.heap.size+1+1) 31 .nilIface:=aK;have A:=(((b2.set (.map none)).other (B':=w.heap.size+1+1) (by omega) (.iface 181 (zP wa.heap.size 0))).alloc (.cells #[zI 30,zI q1] 183)).cell;have d2:=(((b3.other (B':=w.heap.size+1) (by omega) (.map none)).set (.iface 181 (zP wa.heap.size 0))).alloc (.cells #[zI 30,zI q1] 183)).cell;refine⟨.tuple #[.map none,.iface 181 (zP wa.heap.size 0)],by simp[results,Tryz.f201,go_sem,A,d2],?_,.inl ⟨30,q1,wa.heap.size,?_,rfl,aL.out.size,?_⟩⟩
    ·exact(((aL.out.setCell (p:=⟨w.heap.size+1,0,none⟩) (by show w.heap.size<=_+1;omega) _).setCell (p:=⟨w.heap.size+1+1,0,none⟩) (by show w.heap.size<=_+1+1;omega) _).alloc (by simp;exact aL.out.size) _).drew
    ·unfold ckR
     rw[au.out,z2q _ _ j al,<-az.out,<-bf.out,hin];rfl
    ·exact Qx _ _ (by simp)
   |false=>
    have hh:Maps.has D (kls N0)=false:=by rw[(hD N0).1,hin]
    gi_wp2_with (first
     |(gi_at_lookup;refine wpListIn_lookup_own_ok_int _ rfl _ _ 317 rfl 9 3 .i64 Fc Tryz.underlying317 Tryz.underlying3 (Mw _) M _ D rfl ay _ _ rfl (Fl ao) ?_;intro cc aA aB;rw[hh])
     |(gi_at_mapUpdate;refine wpListIn_mapUpdate_own _ rfl _ _ _ 317 rfl 9 3 Fc Tryz.underlying317 _ M _ D rfl ay (by rw[nmL,List.length_map,List.length_take];unfold maxLen;omega) _ _ _ rfl rfl (Fl ao) _ [] (plainElem_int Tryz.underlying3 (WalkArith.wf_i64 (by omega))) ?_;intro w1 aQ bh))
    have aR:(nmL (rs.take j)).length=j:=by rw[nmL,List.length_map,List.length_take];omega
    refine⟨⟨j+1,by go_num,by omega,hid ?_,hid ?_,hid (ad.out.step bh (by omega))⟩,by simp[intOf];omega⟩
    ·show Pm _ _ _
     rw[z2r rs j al,<-az.out];exact Pm.put hD ai.isMap hin (by rw[aR];rw[aR]at aQ;exact aQ)
    ·show _=_
     rw[au.out,z2q _ _ j al,<-az.out,hin,z2r rs j al,<-az.out];rfl
  ·have a0:decide ((j:Int)<(n:Int))=false:=by simp;omega
   have aq:rs.take j=rs:=List.take_of_length_le (by rw[<-ar.out];omega);have aS:rs.drop j=[]:=List.drop_eq_nil_of_le (by rw[<-ar.out];omega);rw[aq,aS]at au;rw[aq]at aH;have hm:=HM.out;have y1:wr.heap[w.heap.size]? =some (.cells #[.slice so n G] 51):=(ad.out.2.2.1 _ (by omega)).trans H1.out;obtain⟨x1,f1⟩:=Qy y1;clear aq aS
   gi_wp2
   clear x1 f1 y1 a0 hjn hj;refine wpIn_loop (fun a' w'=>∃(i:Nat) (aT aU aV aW aX aY aZ aC:Value) (ds:List Deferred),a'={tmps:=#[.agg #[.slice so n G],zP w.heap.size 0,zP (w.heap.size+1) 0,zP (w.heap.size+1+1) 0,.nilIface,zP (M+1) 0,u6,u7,u8,u9,undef,aT,undef,undef,undef,.agg #[.slice so n G],.nilIface,.nilIface,.bool false,undef,zP w.heap.size 0,.slice so n G,zI (n:Int),.map (some M),zP w.heap.size 0,.slice so n G,zI (n:Int),zI (j:Int),.bool false,u29,u30,u31,u32,u33,u34,u35,u36,u37,u38,u39,u40,u41,u42,u43,u44,u45,u46,u47,u48,u49,zP w.heap.size 0,.slice so n G,zI (n:Int),zI (i:Int),aU,aV,aW,aX,aY,aZ,undef,undef,undef,undef,undef,undef,undef,undef,undef,undef,undef,undef,undef,undef,undef,aC,undef],defers:=ds}/\i<=n/\Hid (Pm w' M (nmL rs))/\Hid (Xz (nmL rs) (rfG (rs.take i))=none)/\Hid (Kp3 w W2 M w')/\Hid (Mks w.heap.size w'.heap.size ds w')) (fun a' _=>n-(intOf (a'.tmps.getD 53 undef)).toNat) ?_ ?_
   ·exact⟨0,undef,undef,undef,undef,undef,undef,undef,undef,[],rfl,Nat.zero_le _,aH,by show _=_;rw[List.take_zero,rfG,Xz],ad,trivial⟩
   ·rintro a' y ⟨i,aT,aU,aV,aW,aX,aY,aZ,aC,ds,rfl,hi,a2,aD,af,a3⟩
    have bD:M+1<y.heap.size:=af.out.2.1;have y2:y.heap[w.heap.size+1]? =some (.cells #[.map none] 317):=(af.out.2.2.1 _ (by omega)).trans H2.out;have y3:y.heap[w.heap.size+1+1]? =some (.cells #[.nilIface] 31):=(af.out.2.2.1 _ (by omega)).trans H3.out;have yM:y.heap[M+1]? =some (.cells #[.map (some M)] 317):=af.out.2.2.2.trans HV.out;by_cases hin:i<n
    ·have bE:(i:Int)<(n:Int):=by omega
     have a0:decide ((i:Int)<(n:Int))=true:=by simp;omega
     have aE:i<rs.length:=by rw[<-ar.out];exact hin
     obtain⟨g,o,rfl,hg,k1,T1,a1,b1,c1,A,aa,n1,ab,p1,aI,r0⟩:=HR.out.2.2 i aE;have av:∀q,y.cell? ⟨g,q,none⟩=w.cell? ⟨g,q,none⟩:=fun q=>af.out.1.cell (p:=⟨g,q,none⟩) hg
     simp only[<-av]at r0;obtain⟨z0,z1,z2,z3,z4,z5,z6,z7,z8,z9⟩:=r0;have bd:g<y.heap.size:=World.block_lt_of_cell? y _ z0;obtain⟨N0,ah⟩:∃N0,N0=rs[i].1:=⟨_,rfl⟩;obtain⟨q1,am⟩:∃q1,q1=rs[i].2.2:=⟨_,rfl⟩;rw[<-ah]at z0;rw[<-am]at z9;have bi:Hid (Qw w w.heap.size rs[i].2.1 (r8 k1 T1 a1 b1 c1 A aa n1 ab p1)):=aI;clear ah am av aI
     gi_wp2_with (first
      |(refine⟨trivial,?_⟩;gi_at_call 237;refine(y0n _ k1 T1 a1 b1 c1 A aa n1 ab p1 _).mono ?_;rintro e w4 ⟨rfl,rfl⟩))
     obtain⟨U,aw⟩:∃U,U=(y.alloc (.cells #[zT N0,zI k1,zT T1,zU a1,zU b1,zU c1,zU A,.slice aa n1 ab,zI p1,zI q1] 121)).alloc (.cells #[zI k1,zT T1,zU a1,zU b1,zU c1,zU A,.slice aa n1 ab,zI p1] 119):=⟨_,rfl⟩;rw[<-aw];have aF:zB y U:=by rw[aw];exact((Below.refl _ y).alloc L0q _).alloc (by simp) _
     have bF:U.heap.size=y.heap.size+1+1:=by rw[aw];simp
     have bj:U.heap[y.heap.size+1]? =some (.cells #[zI k1,zT T1,zU a1,zU b1,zU c1,zU A,.slice aa n1 ab,zI p1] 119):=by rw[aw];exact Qx _ _ (by simp)
     have a4:Hid (Kp3 w W2 M U):=af.out.below aF (by have:=af.out.1.size;omega) (by omega);have bk:Hid (Pm U M (nmL rs)):=a2.out.below aF (by omega);have bl:Hid (Mks w.heap.size y.heap.size ds U):=a3.out.below aF;have bm:=bi.out.below a4.out.1;have bG:w.heap.size<=y.heap.size:=af.out.1.size;have bn:Hid (∀W:World,Kp3 w W2 M W->Boxed W (w.heap.size+1) 317 (.map none)):=fun W hW=>(hW.2.2.1 _ (by omega)).trans H2.out
     have bo:Hid (∀W:World,Kp3 w W2 M W->Boxed W (w.heap.size+1+1) 31 .nilIface):=fun W hW=>(hW.2.2.1 _ (by omega)).trans H3.out
     have bp:Hid (∀W:World,Kp3 w W2 M W->Boxed W (M+1) 317 (.map (some M))):=fun W hW=>hW.2.2.2.trans HV.out
     clear aw aF z0 z1 z2 z3 z4 z5 z6 z7 z8 z9 y2 y3 yM;refine wpIn_rangeFunc_ownH rfl (by omega) (gf:=270) (lb:=#[zP (y.heap.size+1) 0]) rfl trivial (enters_of func270 (by kernel_rfl) rfl)
      (y0m (s0:=w.heap.size) rs[i].2.1 k1 T1 a1 b1 c1 A aa n1 ab p1 _ _ U bj bm (HZ.out _ (List.getElem_mem aE)).2) Kt.trans (fun W' l o o' h1 E V Z=>Kt.book W' l o o' (by omega) E V) B0q (fun _=>rfl)
      (fun ac W=>Pm W M (nmL rs)/\Kp3 w W2 M W/\Mks w.heap.size y.heap.size ds W/\U.heap.size<=W.heap.size/\Xz (nmL rs) (tps ac)=none)
      (fun c ac W=>c=.ret/\zB w W/\Mks w.heap.size y.heap.size ds W/\U.heap.size<=W.heap.size/\∃gf pf,Xz (nmL rs) (tps ac)=some pf/\Boxed W (w.heap.size+1) 317 (.map none)/\Boxed W (w.heap.size+1+1) 31 (.iface 181 (zP gf 0))/\w.heap.size<=gf/\zH W gf (.cells #[zI 31,zI pf] 183))
      ?own ?ownx ⟨bk.out,a4.out,bl.out,Nat.le_refl _,rfl⟩
      (fun x a' W=>∃b,a'={tmps:=#[.agg #[.slice (some ⟨g,o,none⟩) n G],zP w.heap.size 0,zP (w.heap.size+1) 0,zP (w.heap.size+1+1) 0,.nilIface,zP (M+1) 0,u6,u7,u8,u9,undef,zP y.heap.size 0,zP b 0,undef,undef,.agg #[.slice (some ⟨g,o,none⟩) n G],.nilIface,.nilIface,.bool false,undef,zP w.heap.size 0,.slice (some ⟨g,o,none⟩) n G,zI (n:Int),.map (some M),zP w.heap.size 0,.slice (some ⟨g,o,none⟩) n G,zI (n:Int),zI (j:Int),.bool false,u29,u30,u31,u32,u33,u34,u35,u36,u37,u38,u39,u40,u41,u42,u43,u44,u45,u46,u47,u48,u49,zP w.heap.size 0,.slice (some ⟨g,o,none⟩) n G,zI (n:Int),zI (i:Int),.bool true,zP g (o+i*10),.agg #[zT N0,zI k1,zT T1,zU a1,zU b1,zU c1,zU A,.slice aa n1 ab,zI p1,zI q1],zP y.heap.size 1,.agg #[zI k1,zT T1,zU a1,zU b1,zU c1,zU A,.slice aa n1 ab,zI p1],.func (.func 270) #[] #[zP (y.heap.size+1) 0],x.v,undef,undef,undef,undef,undef,undef,undef,undef,undef,undef,undef,undef,undef,undef,aC,undef],defers:=[]}/\zH W b (.cells #[zI x.k,zT x.T,zU x.a,zU x.b,zU x.c,zU x.d,.slice x.so x.n x.cap,zI x.p] 119))
      ?ownA ?assign ?Qm ?done ?stop
     case own=>
      rintro ac X Y row ⟨h1,E,V,Z,h5⟩ hg hr;have hB:Below U.heap.size X Y:=(Below.refl _ X).grown hg Z (fun k e=>(hr k e).1);exact⟨h1.below hB (by omega),E.below hB (by omega) (by omega),V.below (hB.mono (by omega)),Nat.le_trans Z hB.size,h5⟩
     case ownx=>
      rintro c ac X Y row ⟨h0,h1,E,V,gf,pf,Z,h5,h6,h7,h8⟩ hg hr;have hB:Below U.heap.size X Y:=(Below.refl _ X).grown hg V (fun k e=>(hr k e).1);have aM:=fun r e=>(hr r e).2
      exact⟨h0,h1.trans (hB.mono (by omega)),E.below (hB.mono (by omega)),Nat.le_trans V hB.size,gf,pf,Z,Vd h5 hg aM,Vd h6 hg aM,h7,Pl h8 hg aM⟩
     case ownA=>
      rintro x a' _ X Y row ⟨b,h1,E⟩ hg hr;exact⟨b,h1,Pl E hg (fun r e=>(hr r e).2)⟩
     case assign=>
      rintro l ac x W K ⟨h1,E,V,Z,h5⟩ hK;have hB:Below U.heap.size W (W.alloc (.cells #[zI x.k,zT x.T,zU x.a,zU x.b,zU x.c,zU x.d,.slice x.so x.n x.cap,zI x.p] 119)):=(Below.refl _ W).alloc Z _;have HK:=hid (hK {tmps:=#[.agg #[.slice (some ⟨g,o,none⟩) n G],zP w.heap.size 0,zP (w.heap.size+1) 0,zP (w.heap.size+1+1) 0,.nilIface,zP (M+1) 0,u6,u7,u8,u9,undef,zP y.heap.size 0,zP W.heap.size 0,undef,undef,.agg #[.slice (some ⟨g,o,none⟩) n G],.nilIface,.nilIface,.bool false,undef,zP w.heap.size 0,.slice (some ⟨g,o,none⟩) n G,zI (n:Int),.map (some M),zP w.heap.size 0,.slice (some ⟨g,o,none⟩) n G,zI (n:Int),zI (j:Int),.bool false,u29,u30,u31,u32,u33,u34,u35,u36,u37,u38,u39,u40,u41,u42,u43,u44,u45,u46,u47,u48,u49,zP w.heap.size 0,.slice (some ⟨g,o,none⟩) n G,zI (n:Int),zI (i:Int),.bool true,zP g (o+i*10),.agg #[zT N0,zI k1,zT T1,zU a1,zU b1,zU c1,zU A,.slice aa n1 ab,zI p1,zI q1],zP y.heap.size 1,.agg #[zI k1,zT T1,zU a1,zU b1,zU c1,zU A,.slice aa n1 ab,zI p1],.func (.func 270) #[] #[zP (y.heap.size+1) 0],x.v,undef,undef,undef,undef,undef,undef,undef,undef,undef,undef,undef,undef,undef,undef,aC,undef],defers:=[]} (W.alloc (.cells #[zI x.k,zT x.T,zU x.a,zU x.b,zU x.c,zU x.d,.slice x.so x.n x.cap,zI x.p] 119)) (KeepsFrom.of_grownBy (World.grownBy_alloc W _ none) (fun j e=>by cases e)) (Kt.alloc W _) ⟨h1.below hB (by omega),E.below hB (by omega) (by omega),V.below (hB.mono (by omega)),Nat.le_trans Z hB.size,h5⟩ ⟨W.heap.size,rfl,Qx W _ rfl⟩);clear hK h1 E V Z h5 hB
      gi_wp2
      exact HK.out
     case Qm=>
      rintro l ac x a' W hl ⟨r,hr⟩ ⟨h1,E,V,Z,h5⟩ ⟨b,rfl,hb⟩ bH;have ao:x.T.size<=maxLen:=x.z;have bM:=bp.out W E;have cM:=bM.cell;have b2:=bn.out W E;have b3:=bo.out W E;have x2:=b2.cell;have x3:=b3.cell;have e2:=b2.frozen;have e3:=b3.frozen;have l2:=b2.lt;have l3:=b3.lt;obtain⟨⟨c0,bI,c2,c3,c4,c5,c6,c7⟩,_⟩:=Qf hb;have lb:=Qq hb;obtain⟨D,ai,hD⟩:=h1;have et:tps (ac++[x])=tps ac++[(x.T,x.p)]:=by rw[Ph];rfl
      cases hk:inN x.T (nmL rs)with
      |true=>
       have hh:Maps.has D (kls x.T)=true:=by rw[(hD x.T).1,hk]
       have aG:Xz (nmL rs) (tps (ac++[x]))=none:=by
        rw[et,Kj,h5];simp only[Xz];rw[if_pos hk]
       gi_wp2_with (first
        |(gi_at_lookup;refine wpListIn_lookup_own_ok_int _ rfl _ _ 317 rfl 9 3 .i64 Fc Tryz.underlying317 Tryz.underlying3 (Mw _) M _ D rfl ai _ _ rfl (Fl ao) ?_;intro cc aA aB;rw[hh]))
       exact⟨KeepsFrom.refl _ _,Kt.refl _,⟨D,ai,hD⟩,E,V,Z,aG⟩
      |false=>
       have hh:Maps.has D (kls x.T)=false:=by rw[(hD x.T).1,hk]
       have aG:Xz (nmL rs) (tps (ac++[x]))=some x.p:=by
        rw[et,Kj,h5];simp only[Xz];rw[if_neg (by rw[hk];decide)]
       have aj:KeepsOthers W (((W.setCell ⟨w.heap.size+1,0,none⟩ (.map none)).setCell ⟨w.heap.size+1+1,0,none⟩ (.iface 181 (zP W.heap.size 0))).alloc (.cells #[zI 31,zI x.p] 183)):=((KeepsOthers.setCell _ _ _).trans (KeepsOthers.setCell _ _ _)).trans (KeepsOthers.of_grownBy (World.grownBy_alloc _ _ none) (fun j o e=>by cases e));have HF:Hid (KeepsFrom U.heap.size W (((W.setCell ⟨w.heap.size+1,0,none⟩ (.map none)).setCell ⟨w.heap.size+1+1,0,none⟩ (.iface 181 (zP W.heap.size 0))).alloc (.cells #[zI 31,zI x.p] 183)).drew/\(zB w (((W.setCell ⟨w.heap.size+1,0,none⟩ (.map none)).setCell ⟨w.heap.size+1+1,0,none⟩ (.iface 181 (zP W.heap.size 0))).alloc (.cells #[zI 31,zI x.p] 183)).drew/\Mks w.heap.size y.heap.size ds (((W.setCell ⟨w.heap.size+1,0,none⟩ (.map none)).setCell ⟨w.heap.size+1+1,0,none⟩ (.iface 181 (zP W.heap.size 0))).alloc (.cells #[zI 31,zI x.p] 183)).drew/\U.heap.size<=(((W.setCell ⟨w.heap.size+1,0,none⟩ (.map none)).setCell ⟨w.heap.size+1+1,0,none⟩ (.iface 181 (zP W.heap.size 0))).alloc (.cells #[zI 31,zI x.p] 183)).drew.heap.size/\∃gf pf,Xz (nmL rs) (tps (ac++[x]))=some pf/\Boxed (((W.setCell ⟨w.heap.size+1,0,none⟩ (.map none)).setCell ⟨w.heap.size+1+1,0,none⟩ (.iface 181 (zP W.heap.size 0))).alloc (.cells #[zI 31,zI x.p] 183)).drew (w.heap.size+1) 317 (.map none)/\Boxed (((W.setCell ⟨w.heap.size+1,0,none⟩ (.map none)).setCell ⟨w.heap.size+1+1,0,none⟩ (.iface 181 (zP W.heap.size 0))).alloc (.cells #[zI 31,zI x.p] 183)).drew (w.heap.size+1+1) 31 (.iface 181 (zP gf 0))/\w.heap.size<=gf/\(((W.setCell ⟨w.heap.size+1,0,none⟩ (.map none)).setCell ⟨w.heap.size+1+1,0,none⟩ (.iface 181 (zP W.heap.size 0))).alloc (.cells #[zI 31,zI x.p] 183)).drew.heap[gf]? =some (.cells #[zI 31,zI pf] 183))):=by
        refine⟨⟨(aj.from U.heap.size).size,(aj.from U.heap.size).same⟩,?_,?_,Nat.le_trans Z aj.size,W.heap.size,x.p,aG,?_,?_,E.1.size,?_⟩
        ·exact(((E.1.setCell (p:=⟨w.heap.size+1,0,none⟩) (by show w.heap.size<=_+1;omega) _).setCell (p:=⟨w.heap.size+1+1,0,none⟩) (by show w.heap.size<=_+1+1;omega) _).alloc (by simp;exact E.1.size) _).drew
        ·exact V.kept fun D hD e=>aj.same D _ e rfl
        ·exact((b2.set (.map none)).other (B':=w.heap.size+1+1) (by omega) _).alloc _
        ·exact((b3.other (B':=w.heap.size+1) (by omega) (.map none)).set _).alloc _
        ·exact Qx _ _ (by simp)
       clear E V Z h5 aj aG hD
       gi_wp2_with (first
        |(gi_at_lookup;refine wpListIn_lookup_own_ok_int _ rfl _ _ 317 rfl 9 3 .i64 Fc Tryz.underlying317 Tryz.underlying3 (Mw _) M _ D rfl ai _ _ rfl (Fl ao) ?_;intro cc aA aB;rw[hh]))
       gi_region
       all_goals gi_wp2
       all_goals exact⟨HF.out.1,rfl,HF.out.2⟩
     case done=>
      rintro D ys W hD a5 ⟨h1,E,V,Z,h5⟩ hK;have bq:Hid (Xz (nmL rs) (rfG (rs.take (i+1)))=none):=by
       show _=_;rw[y0o rs i aE,Kj,aD.out,<-a5,h5]
      have aN:Hid (Mks w.heap.size W.heap.size ({target:=.collected D,args:=#[]}::ds) W):=⟨D,rfl,by omega,Qq hK,hK,V.mono (by omega)⟩;have br:=hid h1;have bs:=hid E;clear h1 E V Z h5 hK a5 hD
      gi_wp2
      refine⟨⟨i+1,_,_,_,_,_,_,_,_,_,rfl,by omega,br,bq,bs,aN⟩,?_⟩;simp[intOf];omega
     case stop=>
      rintro D c ac W hD bt ⟨rfl,h1,E,V,gf,pf,Z,h5,h6,h7,h8⟩ hK;have hc:ckR rs=some (31,pf):=by
       unfold ckR;rw[au.out,Yh];dsimp only;obtain⟨r,hr⟩:=bt;have e:rfG rs=rfG (rs.take i)++(tps ac++(r++rfG (rs.drop (i+1)))):=by
        conv=>lhs;rw[<-List.take_append_drop i rs,Pc,List.drop_eq_getElem_cons aE,rfG,<-hr]
        simp
       rw[e,Kj,aD.out];simp only;rw[Kj,Z]
      have aN:Mks w.heap.size W.heap.size ({target:=.collected D,args:=#[]}::ds) W:=⟨D,rfl,by omega,Qq hK,hK,E.mono (by omega)⟩
      gi_wp2
      refine Eb _ _ _ aN fun w' hk=> ?_
      have A:=(hk.box h5).cell;have d2:=(hk.box h6).cell;exact⟨.tuple #[.map none,.iface 181 (zP gf 0)],by simp[results,Tryz.f201,go_sem,A,d2],h1.trans hk.1,.inl ⟨31,pf,gf,hc,rfl,h7,hk.2 _ _ h8 (fun l e=>by cases e)⟩⟩
    ·have a0:decide ((i:Int)<(n:Int))=false:=by simp;omega
     have aq:rs.take i=rs:=List.take_of_length_le (by rw[<-ar.out];omega);rw[aq]at aD;obtain⟨x2,e2⟩:=Qy y2;obtain⟨x3,e3⟩:=Qy y3;obtain⟨xM,eM⟩:=Qy yM;have l2:=Qq y2;have l3:=Qq y3;clear aq
     gi_wp2
     have b2:Boxed y (w.heap.size+1) 317 (.map none):=y2;have b3:Boxed y (w.heap.size+1+1) 31 .nilIface:=y3;have aj:KeepsOthers y ((y.setCell ⟨w.heap.size+1,0,none⟩ (.map (some M))).setCell ⟨w.heap.size+1+1,0,none⟩ .nilIface):=(KeepsOthers.setCell _ _ _).trans (KeepsOthers.setCell _ _ _);refine Eb ds y.heap.size _ (a3.out.kept fun D hD e=>aj.same D _ e rfl) fun w' hk=> ?_
     have A:=(hk.box ((b2.set (.map (some M))).other (B':=w.heap.size+1+1) (by omega) .nilIface)).cell;have d2:=(hk.box ((b3.other (B':=w.heap.size+1) (by omega) (.map (some M))).set .nilIface)).cell;refine⟨.tuple #[.map (some M),.nilIface],by simp[results,Tryz.f201,go_sem,A,d2],?_,.inr ⟨M,?_,rfl,by have:=HM.out;omega,hk.pm ?_⟩⟩
     ·exact((af.out.1.setCell (p:=⟨w.heap.size+1,0,none⟩) (by show w.heap.size<=_+1;omega) _).setCell (p:=⟨w.heap.size+1+1,0,none⟩) (by show w.heap.size<=_+1+1;omega) _).trans hk.1
     ·unfold ckR
      rw[au.out,Yh];dsimp only;rw[aD.out]
     ·exact(a2.out.kept (grownBy_setCell' _ _ _) (by simp;omega)).kept (grownBy_setCell' _ _ _) (by simp;omega)
end Go.Proofs.YtmelafeingcgnaaGreatDoor
namespace Go.Proofs
open Go.Shelf
shelf_lay Lays.n189 Nm 189 at Tryz as Tryz.lays189
shelf_lay Lays2.n20 Nm2 20 at Tryz as Tryz.lays2_20
end Go.Proofs
namespace Go.Proofs.YtmelafeingcgnaaGreatDoor
open Go.Proofs.Tryz
open Go.RowKit Go.Shelf Go.Sort
theorem y0r(blk h o:Nat)(zs:List Int)(w:World)(r:Holds (Value.int .i64) w blk h zs.toArray)(A:blk<w.heap.size)(D:zs.length<4611686018427387904):
 Calls prog 153 #[.slice (some ⟨blk,h,none⟩) zs.length o] w fun e w'=>
  e=.returned (.tuple #[])/\∃n os,w'=grow (putRow (Value.int .i64) (Sort.ahead w n) blk h (zs.mergeSort fun x y=>decide (x<=y)).toArray) os:=Any.slices_Sort_int Tryz.lays189 blk h o zs w r A D
theorem y0s(p:Option Addr)(h:Nat)(w:World):
 Calls prog 153 #[.slice p 0 h] w fun e w'=>e=.returned (.tuple #[])/\w'=w:=Any.slices_Sort_int_none Tryz.lays189 p h w
theorem y0t(blk h o:Nat)(zs:List Int)(w:World)(r:Holds (Value.int .i64) w blk h zs.toArray)(y:zs.length<=9223372036854775807)(A:zs.length<=o):
 Calls prog 154 #[.slice (some ⟨blk,h,none⟩) zs.length o] w fun e w'=>e=.returned (.slice (some ⟨blk,h,none⟩) (Lib.compact zs).length o)/\∃q,w'=putRow (Value.int .i64) (Sort.ahead w q) blk h (Lib.compact zs++List.replicate (zs.length-(Lib.compact zs).length) 0).toArray:=Any.slices_Compact_int Tryz.lays2_20 blk h o zs w r y A
theorem y0u(a:Option Addr)(h:Nat)(w:World):
 Calls prog 154 #[.slice a 0 h] w fun e w'=>e=.returned (.slice a 0 h)/\w'=w:=Any.slices_Compact_int_empty Tryz.lays2_20 a h w
theorem z2s(zs:List Int):(Lib.compact zs).length<=zs.length:=by
 unfold Lib.compact Lib.compactUpTo;rw[List.length_map];exact Nat.le_trans (List.length_filter_le _ _) (by simp)
def srt(zs:List Int):List Int:=zs.mergeSort fun x y=>decide (x<=y)
theorem My(zs:List Int):(srt zs).length=zs.length:=List.length_mergeSort zs
theorem y0v{W:World}{s:Nat}{v:Value}{zs:List Int}(h:W.ownsRow s 3 1 v zs.length (zs.map (Value.int .i64)))(Z:zs.length<=1048576):
  Calls prog 153 #[v] W fun e w'=>e=.returned (.tuple #[])/\w'.ownsRow s 3 1 v zs.length ((srt zs).map (Value.int .i64))/\W.grownBy w' v.ownBlock:=by
 rcases h.2 with⟨rfl,A⟩|⟨g,D,aa,rfl,E,r,G,U,V,Y⟩
 ·refine(y0s none 0 W).mono fun e w' o=>⟨o.1,?_,?_⟩
  ·rw[o.2]
   cases zs with
   |nil=>rw[show srt []=[]from List.length_eq_zero_iff.1 (My [])];exact h
   |cons _ _=>simp at A
  ·rw[o.2]
   exact⟨rfl,rfl,rfl,Nat.le_refl _,fun _ _ _=>rfl⟩
 ·refine(y0r g 0 D zs W (holds_of_blockI r (by rw[<-Y,Nat.mul_one])) (Array.getElem?_eq_some_iff.1 r).1 (by omega)).mono fun e w' o=> ?_
  obtain⟨o,n,os,y⟩:=o;refine⟨o,?_,?_⟩
  ·rw[y]
   exact ownsRow_sortedI (My zs) E r G U V
  ·rw[y]
   exact grownBy_sortedI _
theorem y0w{W:World}{s:Nat}{v:Value}{zs:List Int}(h:W.ownsRow s 3 1 v zs.length (zs.map (Value.int .i64)))(hz:zs.length<=1048576):
  Calls prog 154 #[v] W fun e w'=>∃y,e=.returned y/\w'.ownsRow s 3 1 y (Lib.compact zs).length ((Lib.compact zs).map (Value.int .i64))/\W.grownBy w' v.ownBlock:=by
 rcases h.2 with⟨rfl,V⟩|⟨g,A,D,rfl,Y,E,Z,h2,G,h4⟩
 ·refine(y0u none 0 W).mono fun e w' o=>⟨_,o.1,?_,?_⟩
  ·rw[o.2]
   cases zs with
   |nil=>exact h
   |cons _ _=>simp at V
  ·rw[o.2]
   exact⟨rfl,rfl,rfl,Nat.le_refl _,fun _ _ _=>rfl⟩
 ·refine(y0t g 0 A zs W (holds_of_blockI E (by rw[<-h4,Nat.mul_one])) (by omega) Z).mono fun e w' o=> ?_
  obtain⟨o,q,hw⟩:=o;have hc:=z2s zs;have hl:(Lib.compact zs++List.replicate (zs.length-(Lib.compact zs).length) 0).length=zs.length:=by
   rw[List.length_append,List.length_replicate];omega
  have U:w'=grow (putRow (Value.int .i64) (Sort.ahead W q) g 0 (Lib.compact zs++List.replicate (zs.length-(Lib.compact zs).length) 0).toArray) #[]:=by rw[grow_empty];exact hw
  refine⟨_,o,⟨by simp,.inr ⟨g,A,_,rfl,Y,by rw[U];exact heap_sortedI _ E,by omega,h2,by simp[putCells,G],?_⟩⟩,by rw[U];exact grownBy_sortedI _⟩;have r:=take_putCellsI D (Lib.compact zs++List.replicate (zs.length-(Lib.compact zs).length) 0) (by rw[hl,G];omega);rw[hl]at r;obtain⟨X,hX⟩:∃X,X=(putCells (Value.int .i64) 0 (Lib.compact zs++List.replicate (zs.length-(Lib.compact zs).length) 0).toArray D).toList:=⟨_,rfl⟩;rw[<-hX]at r ⊢;have e:X.take (Lib.compact zs).length=(X.take zs.length).take (Lib.compact zs).length:=by rw[List.take_take,Nat.min_eq_left hc]
  rw[Nat.mul_one,e,r,List.map_append,List.take_append_of_le_length (by simp),List.take_of_length_le (by simp)]
open Go.Maps
attribute [local go_sem] Oper.semAt_some
theorem Tryz.infoInt:(Tryz.prog.info? 3).map (fun i=>(i.zero,i.size,i.bytes))=some (some (zI 0),1,8):=by kernel_rfl
def ixV(l:List ByteArray)(s:zA):Nat:=if inN s l then ixN s l else 0
def ixL(l:List ByteArray)(q:List (ByteArray×Int)):List Int:=q.map fun x=>(ixV l x.1:Int)
theorem Qj{w:World}{g:Nat}{o:Array Value}{t:TypeId}(h:w.heap[g]? =some (.cells o t))(j:Nat)(v:Value)(r:o[j]? =some v):w.cell? ⟨g,j,none⟩=some v/\w.frozen? ⟨g,j,none⟩=false:=by
 constructor
 ·simp[World.cell?,h,r]
 ·simp[World.frozen?,h]
theorem Qk{w:World}{g:Nat}{o:Array Value}{t:TypeId}(h:zH w g (.cells o t))(j:Nat)(v:Value):(w.setCell ⟨g,j,none⟩ v).heap[g]? =some (.cells (o.setIfInBounds j v) t):=by
 obtain⟨r,y⟩:=Array.getElem?_eq_some_iff.1 h;show(w.heap.modify g _)[g]? =_;rw[Array.getElem?_eq_getElem (by rw[Array.size_modify];exact r),Array.getElem_modify_self,y];rfl
def usR(l:List ByteArray)(x:Rr):List Int:=Lib.compact (srt (ixL l (rfT x.2.1)))
structure Uw (w:World) (ub n:Nat) (vs:List Value) (us:List (List Int)) (W:World):Prop where
 blk:W.heap[ub]? =some (.cells (vs++List.replicate (n-vs.length) (Value.slice none 0 0)).toArray 24)
 len:vs.length=us.length
 row:∀i (h1:i<vs.length) (h2:i<us.length),W.ownsRow w.heap.size 3 1 vs[i] us[i].length (us[i].map (Value.int .i64))
 be:zB w W
 lo:w.heap.size<=ub
theorem y0x{α:Type}(vs:List α)(n:Nat)(z:α)(h:vs.length<n):(vs++List.replicate (n-vs.length) z).toArray[vs.length]? =some z:=by
 rw[List.getElem?_toArray,List.getElem?_append_right L0q,Nat.sub_self,List.getElem?_replicate,if_pos (by omega)]
theorem y0y{α:Type}(vs:List α)(n:Nat)(z v:α)(h:vs.length<n):(vs++List.replicate (n-vs.length) z).toArray.setIfInBounds vs.length v=((vs++[v])++List.replicate (n-(vs++[v]).length) z).toArray:=by
 have e:n-vs.length=(n-(vs++[v]).length)+1:=by simp;omega
 rw[e,List.replicate_succ];simp
theorem y0z{W W':World}{s S:Nat}{v:Value}{k:Nat}{xs:List Value}(h:W.ownsRow s 3 1 v k xs)(y:Below S W W')(A:S=W.heap.size):W'.ownsRow s 3 1 v k xs:=by
 refine⟨h.1,?_⟩;rcases h.2 with o|⟨g,D,E,o,G,r,U⟩
 ·exact .inl o
 ·exact .inr ⟨g,D,E,o,G,(y.block g (by rw[A];exact(Array.getElem?_eq_some_iff.1 r).1)).trans r,U⟩
theorem z2t{W:World}{s o j:Nat}{v u:Value}{k:Nat}{xs:List Value}{A:Array Value}(h:W.ownsRow s 3 1 v k xs)(D:zH W o (.cells A 24)):(W.setCell ⟨o,j,none⟩ u).ownsRow s 3 1 v k xs:=by
 refine⟨h.1,?_⟩;rcases h.2 with r|⟨g,E,G,r,U,y,V⟩
 ·exact .inl r
 ·refine .inr ⟨g,E,G,r,U,(Below.heap_setCell _ _ _ g (fun e=> ?_)).trans y,V⟩
  have e:g=o:=e;rw[e,D]at y;cases y
theorem z2u{W:World}{s r:Nat}{v:Value}{k:Nat}{xs:List Value}(h:W.ownsRow s 3 1 v k xs)(E:r<=s):W.ownsRow r 3 1 v k xs:=by
 refine⟨h.1,?_⟩;rcases h.2 with o|⟨g,y,A,o,G,D⟩
 ·exact .inl o
 ·exact .inr ⟨g,y,A,o,by omega,D⟩
theorem Uw.below{w:World}{o n:Nat}{vs:List Value}{us:List (List Int)}{W W':World}(h:Uw w o n vs us W)(r:zB W W'):Uw w o n vs us W':=
 ⟨(r.block o (Array.getElem?_eq_some_iff.1 h.blk).1).trans h.blk,h.len,fun i y A=>y0z (h.row i y A) r rfl,h.be.trans (r.mono h.be.size),h.lo⟩
theorem Uw.step{w:World}{o n:Nat}{vs:List Value}{us:List (List Int)}{W:World}{v:Value}{u:List Int}(h:Uw w o n vs us W)(y:vs.length<n)(A:W.ownsRow w.heap.size 3 1 v u.length (u.map (Value.int .i64))):Uw w o n (vs++[v]) (us++[u]) (W.setCell ⟨o,vs.length,none⟩ v):=by
 refine⟨by rw[Qk h.blk,y0y vs n _ v y],by simp[h.len],fun i D U=> ?_,h.be.setCell (p:=⟨o,vs.length,none⟩) h.lo v,h.lo⟩;by_cases hi:i<vs.length
 ·have r:i<us.length:=by rw[<-h.len];exact hi
  rw[List.getElem_append_left hi,List.getElem_append_left r];exact z2t (h.row i hi r) h.blk
 ·have E:i=vs.length:=by simp at D;omega
  subst E;have G:vs.length=us.length:=h.len;rw[List.getElem_append_right (by omega)];have:(us++[u])[vs.length]=u:=by rw[List.getElem_append_right (by omega)];simp[G]
  rw[this];simp only[Nat.sub_self,List.getElem_cons_zero];exact z2t A h.blk
theorem Tryz.infoInts:(Tryz.prog.info? 24).map (fun i=>(i.zero,i.size,i.bytes))=some (some (.slice none 0 0),1,24):=by kernel_rfl
theorem z2v(z:Value)(h:z.cells=#[z])(k:Nat):madeCells z.cells k=(List.replicate k z).toArray:=by
 rw[h];unfold madeCells;apply Array.ext
 ·simp
 ·intro i o r
  simp[Nat.mod_one]
theorem y0A(n:Nat)(D:n<=1048576)(W:World):(Instr.makeSlice 141 (zI (n:Int)) (zI (n:Int))).run prog W=.ok (zS W.heap.size n n) (W.alloc (.cells (List.replicate n (Value.slice none 0 0)).toArray 24)):=by
 obtain⟨h,o,r,y,A⟩:=info_parts Tryz.infoInts;rw[run_make W 141 24 h (.slice none 0 0) Tryz.underlying141 o r .i64 .i64 n n (by omega) (by omega) (by rw[A];omega) (by omega),y,z2v _ rfl];simp
inductive Rch (us:List (List Int)) (a:Nat):Nat->Prop where
 |refl:Rch us a a
 |step {b c:Nat}:Rch us a b->(c:Int)∈us.getD b []->Rch us a c
theorem Rch.trans{us:List (List Int)}{a b c:Nat}(h:Rch us a b)(k:Rch us b c):Rch us a c:=by
 induction k with
 |refl=>exact h
 |step _ hm ih=>exact ih.step hm
def unm(sn:List Bool):Nat:=(sn.filter (· == false)).length
theorem z2w:∀(o:List Bool) (p:Nat),o[p]? =some false->unm (o.set p true)<unm o
 |[],p,h=>by simp at h
 |b::r,0,h=>by
  obtain rfl:b=false:=by simpa using h
  simp[unm]
 |b::r,p+1,h=>by
  have y:=z2w r p (by simpa using h);unfold unm at y ⊢;rw[List.set_cons_succ,List.filter_cons,List.filter_cons];split
  ·simp only[List.length_cons];omega
  ·exact y
theorem z2x:∀(a b:List Bool),b.length=a.length->(∀i:Nat,a[i]? =some true->b[i]? =some true)->unm b<=unm a
 |[],[],_,_=>Nat.le_refl _
 |[],_::_,h,_=>by simp at h
 |_::_,[],h,_=>by simp at h
 |x::r,y::q,h,hm=>by
  have o:=z2x r q (by simpa using h) (fun i A=>by have:=hm (i+1) (by simpa using A);simpa using this);have D:=hm 0;unfold unm at o ⊢;rw[List.filter_cons,List.filter_cons];cases x<;>cases y<;>simp_all;omega
def Eh(W:World)(B:Nat)(rv:Value)(u:List Int):Prop:=∃so cap,rv=.slice so u.length cap/\u.length<=1048576/\∀j (hj:j<u.length),∃g o,so=some ⟨g,o,none⟩/\g<B/\W.cell? ⟨g,o+j,none⟩=some (zI u[j])
def UsM(W:World)(B:Nat)(uv:Value)(us:List (List Int)):Prop:=∃so cap,uv=.slice so us.length cap/\us.length<=1048576/\∀i (hi:i<us.length),∃g o rv,so=some ⟨g,o,none⟩/\g<B/\W.cell? ⟨g,o+i,none⟩=some rv/\Eh W B rv us[i]
theorem y0B{W:World}{a b:Nat}{x y:Array Value}{t u:TypeId}(h:W.heap[a]? =some (.cells x t))(k:W.heap[b]? =some (.cells y u))(o:t≠u):a≠b:=fun e=>by
 subst e;rw[h]at k;cases k;exact o rfl
theorem z2y{W:World}{sb:Nat}{o:List Bool}(h:zH W sb (.cells (o.map Value.bool).toArray 4)){p:Nat}{b:Bool}(r:o[p]? =some b):zC W sb p (.bool b)/\W.frozen? ⟨sb,p,none⟩=false:=Qj h p _ (by simp[r])
theorem Mf(L:List Int):(srt L).Perm L:=List.mergeSort_perm L _
theorem Tryz.infoBool:(Tryz.prog.info? 4).map (fun i=>(i.zero,i.size,i.bytes))=some (some (.bool false),1,1):=by kernel_rfl
theorem y0C(n:Nat)(D:n<=1048576)(W:World):(Instr.makeSlice 274 (zI (n:Int)) (zI (n:Int))).run prog W=.ok (zS W.heap.size n n) (W.alloc (.cells (Array.replicate n (Value.bool false)) 4)):=by
 obtain⟨h,o,r,y,A⟩:=info_parts Tryz.infoBool;rw[run_make W 274 4 h (.bool false) Tryz.underlying274 o r .i64 .i64 n n (by omega) (by omega) (by rw[A];omega) (by omega),y,z2v _ rfl];simp
mutual
def Tq:RT->Nd->Prop
 | .mk k T a b c d s _,.mk kd T' C s' _=>k=(kd:Int)/\T'=T/\a=(wd C 0:Nat)/\b=(wd C 1:Nat)/\c=(wd C 2:Nat)/\d=(wd C 3:Nat)/\TqL s s'
def TqL:List RT->List Nd->Prop
 |[],[]=>True
 |t::r,n::q=>Tq t n/\TqL r q
 |_,_=>False
end
theorem TqL.len:∀{s:List RT} {q:List Nd},TqL s q->Jf q=Qb s/\q.isEmpty=s.isEmpty
 |[],[],_=>⟨rfl,rfl⟩
 |[],_::_,h=>by simp[TqL]at h
 |_::_,[],h=>by simp[TqL]at h
 |t::r,n::q,h=>by
  rw[TqL]at h;exact⟨by rw[Jf,Qb,h.2.len.1],rfl⟩
mutual
theorem z2z{w:World}{B s0:Nat}(E:B<=s0):∀(t:RT) (n:Nd) (A:List Value),Tq t n->Qw w B t A->NdV s0 w n A
 | .mk k T a b c d s p,.mk kd T' C s' pn,A,h,y=>by
   rw[Tq]at h;obtain⟨rfl,rfl,rfl,rfl,rfl,rfl,r⟩:=h;rw[Qw]at y;obtain⟨G,U,rfl,y⟩:=y;rw[NdV];refine⟨G,U,p,by rw[r.len.1],?_⟩;rcases y with D|⟨D,g,o,rfl,Z,V,Y⟩
   ·exact .inl (by rw[r.len.2];exact D)
   ·exact .inr ⟨by rw[r.len.2];exact D,g,o,rfl,by omega,by rw[r.len.1];exact V,z2A E s s' g o r Y⟩
theorem z2A{w:World}{B s0:Nat}(y:B<=s0):∀(s:List RT) (q:List Nd) (g o:Nat),TqL s q->Zj w B g o s->Xl s0 w g o q
 |[],[],g,o,_,_=>by rw[Xl];trivial
 |[],_::_,_,_,h,_=>by simp[TqL]at h
 |_::_,[],_,_,h,_=>by simp[TqL]at h
 |t::r,n::q,g,o,h,ht=>by
  rw[TqL]at h;rw[Zj]at ht;obtain⟨⟨A,D,E⟩,G⟩:=ht;rw[Xl];exact⟨⟨A,z2z y t n A h.1 D,E⟩,z2A y r q g _ h.2 G⟩
end
def TqR:List Rr->List Rl->Prop
 |[],[]=>True
 |x::r,y::q=>y.1=x.1/\Tq x.2.1 y.2.1/\TqR r q
 |_,_=>False
theorem TqR.len:∀{rs:List Rr} {ns:List Rl},TqR rs ns->ns.length=rs.length
 |[],[],_=>rfl
 |[],_::_,h=>by simp[TqR]at h
 |_::_,[],h=>by simp[TqR]at h
 |x::r,y::q,h=>by
  rw[TqR]at h;simp[h.2.2.len]
theorem TqR.get:∀{rs:List Rr} {ns:List Rl},TqR rs ns->∀(j:Nat) (o:j<rs.length) (A:j<ns.length),ns[j].1=rs[j].1/\Tq rs[j].2.1 ns[j].2.1
 |[],[],_,j,o,_=>by simp at o
 |[],_::_,h,_,_,_=>by simp[TqR]at h
 |_::_,[],h,_,_,_=>by simp[TqR]at h
 |x::r,y::q,h,0,_,_=>by
  rw[TqR]at h;exact⟨h.1,h.2.1⟩
 |x::r,y::q,h,j+1,o,A=>by
  rw[TqR]at h;exact h.2.2.get j (by simpa using o) (by simpa using A)
theorem y0D{w:World}{B s0 n:Nat}{y:Option Addr}{rs:List Rr}{ns:List Rl}(U:B<=s0)(r:TqR rs ns)(h:Qg w B y n rs):RgV s0 w y n ns:=by
 refine⟨by rw[r.len];exact h.1,h.2.1,fun j A=> ?_⟩;have D:j<rs.length:=by rw[<-r.len];exact A
 obtain⟨g,o,V,hg,k,T,a,b,c,d,Y,Z,aa,p,rt,z0,z1,z2,z3,z4,z5,z6,z7,z8,z9⟩:=h.2.2 j D;obtain⟨e1,e2⟩:=r.get j D A;have E:=z2z U _ _ _ e2 rt;obtain⟨kd,T1,C,ab,sl,sc,p1,G⟩:=E.shape;dsimp only[r8,v8]at G;cases G;exact⟨g,o,V,by omega,kd,T,C,Y,Z,aa,p,_,E,by rw[e1];exact z0,z1,z2,z3,z4,z5,z6,z7,z8,z9⟩
theorem y0E(o:Option Addr)(n r:Nat)(rs:List Rr)(B:Nat)(w:World)(y:RgZ rs)(h:Qg w B o n rs)(A:B<=w.heap.size)(G:okG rs=false):
  Calls prog 242 #[.agg #[.slice o n r]] w fun e w'=>e=.returned (.tuple #[zT {data:=#[]},.iface 34 (zI 20)])/\zB w w':=by
 have D:=hid (fun(W:World) (E:zB w W)=>z1Y o n r rs B W y (h.below (E.mono A)) (Nat.le_trans A E.size));rw[G]at D;clear h y;go_enter func242,ntmps242
 go_wp2_with(first|(go_at_call 273;refine(D.out _ ?hh).mono ?_;(case hh=>exact B0q.alloc L0q _);rintro e V ⟨rfl,U⟩))
 go_ret2
 exact⟨rfl,((Below.refl _ w).alloc L0q _).trans (U.mono (by simp))⟩
theorem Rz(o:Option Addr)(n y:Nat)(rs:List Rr)(ns:List Rl)(B:Nat)(w:World)(hz:RgZ rs)(h:Qg w B o n rs)(U:B<=w.heap.size)(hk:okG rs=true)(hq:TqR rs ns)(hx:∀x∈ns,Ruk Nmq x)(V:TabIs w):
  Calls prog 242 #[.agg #[.slice o n y]] w fun e w'=>e=.returned (Gb ns)/\zB w w':=by
 have HI:=hid (fun(W:World) (r:zB w W)=>z1Y o n y rs B W hz (h.below (r.mono U)) (Nat.le_trans U r.size));have HT:=hid (fun(W:World) (r:zB w W)=>z9C hx n y o W (y0D (Nat.le_trans U r.size) hq (h.below (r.mono U))) (V.below r V.lt));rw[hk]at HI;obtain⟨A,E,hA⟩:∃A E,Gb ns=.tuple #[A,E]:=by
  unfold Gb;split
  ·exact⟨_,_,rfl⟩
  ·split
   ·exact⟨_,_,rfl⟩
   ·exact⟨_,_,rfl⟩
 rw[hA]at HT ⊢;obtain⟨D,G⟩:∃D,D=w.alloc (.cells #[.slice o n y] 51):=⟨_,rfl⟩;have Y:Hid (zB w D):=by rw[G];exact(Below.refl _ w).alloc L0q _
 have ab:Hid (D.heap[w.heap.size]? =some (.cells #[.slice o n y] 51)):=by rw[G];exact Qx w _ rfl
 have ac:Hid (D.heap.size=w.heap.size+1):=by rw[G];exact World.size_alloc _ _
 have ad:=hid G;clear G h hz V hx hq hA;go_enter func242,ntmps242
 go_wp2_with(first|(go_at_call 273;rw[<-ad.out];refine(HI.out _ Y.out).mono ?_;rintro e wq ⟨rfl,aa⟩;have c0:=(Qy ((aa.block _ (by rw[ac.out];exact Nat.lt_succ_self _)).trans ab.out)).1;have Z:Hid (zB w wq):=Y.out.trans (aa.mono Y.out.size))|(go_at_call 274;refine(HT.out _ Z.out).mono ?_;rintro e wz ⟨rfl,ae⟩))
 go_ret2
 exact⟨rfl,Z.out.trans (ae.mono Z.out.size)⟩
mutual
def toR:Nd->RT
 | .mk kd T C s p=>.mk (kd:Int) T (wd C 0:Nat) (wd C 1:Nat) (wd C 2:Nat) (wd C 3:Nat) (Vq s) (p:Int)
def Vq:List Nd->List RT
 |[]=>[]
 |n::r=>toR n::Vq r
end
mutual
theorem z2B:∀n:Nd,Tq (toR n) n
 | .mk kd T C s p=>by
   rw[toR,Tq];exact⟨rfl,rfl,rfl,rfl,rfl,rfl,z2C s⟩
theorem z2C:∀s:List Nd,TqL (Vq s) s
 |[]=>by rw[Vq,TqL];trivial
 |n::r=>by
  rw[Vq,TqL];exact⟨z2B n,z2C r⟩
end
theorem Ed:∀s:List Nd,Qb (Vq s)=Jf s/\(Vq s).isEmpty=s.isEmpty
 |[]=>⟨rfl,rfl⟩
 |n::r=>⟨by rw[Vq,Qb,Jf,(Ed r).1],by rw[Vq];rfl⟩
mutual
theorem z2D{w:World}{P:Nat->Prop}:∀(n:Nd) (o:List Value),Sm n n->Qh w P n o->Qw w w.heap.size (toR n) o
 | .mk kd T C s p,o,hs,h=>by
   rw[Sm]at hs;rw[Qh]at h;obtain⟨_,_,_,hl,V⟩:=hs;obtain⟨sv,rfl,h⟩:=h;rw[toR,Qw];rcases h with⟨r,rfl⟩|⟨r,g,D,E,rfl,_,y,_,G⟩
   ·have U:s=[]:=by simpa using r
    subst U;exact⟨none,0,rfl,.inl rfl⟩
   ·refine⟨some ⟨g,0,none⟩,D,by rw[(Ed s).1],.inr ⟨by rw[(Ed s).2];exact r,g,0,rfl,Qq y,by rw[(Ed s).1,Dm];unfold maxLen;omega,z2E s E.toList g 0 hl G fun j u A=> ?_⟩⟩
    rw[Array.getElem?_toList]at A;simp[World.cell?,y,A]
theorem z2E{w:World}{P:Nat->Prop}:∀(s:List Nd) (vs:List Value) (g o:Nat),SmL s s->Qp w P s vs->(∀j u,vs[j]? =some u->w.cell? ⟨g,o+j,none⟩=some u)->Zj w w.heap.size g o (Vq s)
 |[],vs,g,o,_,_,_=>by rw[Vq,Zj];trivial
 |n::r,vs,g,o,hs,h,hc=>by
  rw[SmL]at hs;rw[Qp]at h;obtain⟨c,rest,rfl,A,D⟩:=h;have hl:=A.len;rw[Vq,Zj];refine⟨⟨c,z2D n c hs.1 A,fun j u y=>hc j u ?_⟩,z2E r rest g (o+8) hs.2 D fun j u y=> ?_⟩
  ·have:j<c.length:=(List.getElem?_eq_some_iff.1 y).1
   rw[List.getElem?_append_left this];exact y
  ·rw[Nat.add_assoc]
   refine hc (8+j) u ?_;rw[List.getElem?_append_right (by omega),hl,Nat.add_sub_cancel_left];exact y
end
theorem Mg{T:ByteArray}(h:T={data:=#[]}):T.toList.isEmpty=true:=by
 subst h;rw[ByteArray.toList_eq];rfl
theorem Mb{T:ByteArray}(h:T.toList.isEmpty=true):T={data:=#[]}:=by
 rw[ByteArray.toList_eq]at h;apply ByteArray.ext;simpa using h
theorem TqL.length{s:List RT}{q:List Nd}(h:TqL s q):q.length=Qb s:=by rw[<-Dm];exact h.len.1
theorem Kk:zc ((wd 0 0:Nat):Int) ((wd 0 1:Nat):Int) ((wd 0 2:Nat):Int) ((wd 0 3:Nat):Int)=true:=by decide
theorem y0F{kd:Nat}{T:ByteArray}{C n:Nat}{s:List Nd}(o:s.length=n)(r:(kd=1/\T={data:=#[]}/\C=0/\s=[])∨(kd=2/\C=0/\s=[])∨(kd=3/\T={data:=#[]}/\s=[])∨(kd=4/\T={data:=#[]}/\C=0/\s=[])∨(kd=5/\C=0/\s=[])∨
   ((kd=6∨kd=7)/\T={data:=#[]}/\C=0/\2<=s.length)∨(8<=kd/\kd<=12/\T={data:=#[]}/\C=0/\s.length=1))(y:kd=2->T.size<=255)(A:kd=5->nmS T=true):
  okN (kd:Int) T (wd C 0:Nat) (wd C 1:Nat) (wd C 2:Nat) (wd C 3:Nat) n=true:=by
 unfold okN;subst o;rcases r with⟨rfl,h,rfl,rfl⟩|⟨rfl,rfl,rfl⟩|⟨rfl,h,rfl⟩|⟨rfl,h,rfl,rfl⟩|⟨rfl,rfl,rfl⟩|⟨D,h,rfl,hl⟩|⟨E,G,h,rfl,hl⟩
 ·rw[if_pos (by decide),Mg h,Kk];rfl
 ·rw[if_neg (by decide),if_pos (by decide),Kk,decide_eq_true (by have:=y rfl;omega)];rfl
 ·rw[if_neg (by decide),if_neg (by decide),if_pos (by decide),Mg h];rfl
 ·rw[if_pos (by decide),Mg h,Kk];rfl
 ·rw[if_neg (by decide),if_neg (by decide),if_neg (by decide),if_pos (by decide),Kk,A rfl];rfl
 ·rw[if_neg (by omega),if_neg (by omega),if_neg (by omega),if_neg (by omega),if_pos (by omega),Mg h,Kk,decide_eq_true (by omega)];rfl
 ·rw[if_neg (by omega),if_neg (by omega),if_neg (by omega),if_neg (by omega),if_neg (by omega),if_pos (by omega),Mg h,Kk,hl];rfl
mutual
theorem Rx:∀(t:RT) (n:Nd),Tq t n->Vk n->Wf Nmq n->okT t=true/\RtZ t
 | .mk k T a b c d s p,.mk kd T' C s' pn,h,hv,hw=>by
   rw[Tq]at h;obtain⟨rfl,rfl,rfl,rfl,rfl,rfl,r⟩:=h;have Y:=hv.kd;rw[Vk]at hv;rw[Wf]at hw;obtain⟨y,E⟩:=hv;obtain⟨A,D,Z,G⟩:=hw;obtain⟨U,V⟩:=z2F s s' r E G;rw[okT,RtZ,U,Bool.and_true];refine⟨y0F r.length y A D,?_,V⟩;have o:∀T:ByteArray,T={data:=#[]}->T.size<=9223372036854775807:=fun T h=>by rw[h];decide
   rcases y with q|q|q|q|q|q|q
   ·exact o _ q.2.1
   ·have:=A q.1;omega
   ·exact o _ q.2.1
   ·exact o _ q.2.1
   ·have:=Ej (D q.1);omega
   ·exact o _ q.2.1
   ·exact o _ q.2.2.1
theorem z2F:∀(s:List RT) (q:List Nd),TqL s q->VkL q->WfL Nmq q->okL s=true/\Xb s
 |[],[],_,_,_=>by rw[okL,Xb];exact⟨rfl,trivial⟩
 |[],_::_,h,_,_=>by simp[TqL]at h
 |_::_,[],h,_,_=>by simp[TqL]at h
 |t::r,n::q,h,hv,hw=>by
  rw[TqL]at h;rw[VkL]at hv;rw[WfL]at hw;obtain⟨a1,a2⟩:=Rx t n h.1 hv.1 hw.1;obtain⟨o,y⟩:=z2F r q h.2 hv.2 hw.2;rw[okL,Xb,a1,o];exact⟨rfl,a2,y⟩
end
section
def Rq(r1 r2:Pr):Prop:=match r1,r2 with
 | .inr (n,k),.inr (n',k')=>k'=k/\Sm n n'
 | .inl c,.inl c'=>c'.1=c.1
 |_,_=>False
section
variable {L1 L2:List Tok}
end
end
def toG(rs:List Rl):List Rr:=rs.map fun x=>(x.1,toR x.2.1,(x.2.2:Int))
theorem Em:∀rs:List Rl,TqR (toG rs) rs
 |[]=>by unfold toG;rw[List.map_nil,TqR];trivial
 |x::r=>by
  have:=Em r;unfold toG at this ⊢;rw[List.map_cons,TqR];exact⟨rfl,z2B _,this⟩
theorem y0G{W:World}{B g n y:Nat}{rs:List Rl}(h:RoR B (zS g n y) rs W)(A:∀x∈rs,Sm x.2.1 x.2.1)(V:rs.length<=64):Qg W W.heap.size (some ⟨g,0,none⟩) n (toG rs):=by
 have hl:n=rs.length:=h.len;have Y:(toG rs).length=rs.length:=by unfold toG;rw[List.length_map]
 refine⟨by omega,by unfold maxLen;omega,fun j Z=> ?_⟩;have r:j<rs.length:=by omega
 obtain⟨c,⟨cs,rfl,D⟩,o⟩:=h.get j r;have e:(toG rs)[j]=(rs[j].1,toR rs[j].2.1,(rs[j].2.2:Int)):=List.getElem_map _;have rt:=z2D _ _ (A _ (List.getElem_mem r)) D;obtain⟨k,T,a,b,c,d,E,G,U,p,rfl⟩:=rt.shape;refine⟨g,0,rfl,h.lt,?_⟩;rw[e,Nat.zero_add];exact⟨k,T,a,b,c,d,E,G,U,p,rt,o 0 _ rfl,o 1 _ rfl,o 2 _ rfl,o 3 _ rfl,o 4 _ rfl,o 5 _ rfl,o 6 _ rfl,o 7 _ rfl,o 8 _ rfl,o 9 _ rfl⟩
theorem Rj:∀{rs:List Rr} {ns:List Rl},TqR rs ns->(∀x∈ns,Ruk Nmq x)->rs.all okR=true/\RgZ rs
 |[],[],_,_=>⟨rfl,fun x hx=>by simp at hx⟩
 |[],_::_,h,_=>by simp[TqR]at h
 |_::_,[],h,_=>by simp[TqR]at h
 |x::r,y::q,h,hx=>by
  rw[TqR]at h;obtain⟨D,E⟩:=Rj h.2.2 (fun z o=>hx z (by simp[o]));obtain⟨G,U,V⟩:=hx y (by simp);obtain⟨Y,Z⟩:=Rx _ _ h.2.1 U V;have A:nmS x.1=true:=by rw[<-h.1];exact G
  refine⟨by rw[List.all_cons,D];unfold okR;rw[A,Y];rfl,fun z o=> ?_⟩;rcases List.mem_cons.1 o with rfl|o
  ·exact⟨by have:=Ej A;omega,Z⟩
  ·exact E z o
theorem y0H{rs:List Rr}{ns:List Rl}(h:TqR rs ns)(hx:∀x∈ns,Ruk Nmq x)(o:1<=ns.length)(r:ns.length<=64):okG rs=true:=by
 unfold okG;rw[(Rj h hx).1,decide_eq_true (by have:=h.len;omega),decide_eq_true (p:=rs.length<=64) (by have:=h.len;omega)];rfl
end Go.Proofs.YtmelafeingcgnaaGreatDoor
