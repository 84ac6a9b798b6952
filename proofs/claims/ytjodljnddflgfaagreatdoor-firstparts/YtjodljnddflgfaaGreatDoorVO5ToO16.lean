/- Lemmas for the last text. Conditions: those that each names. -/
import Derived.Test.YtjodljnddflgfaaGreatDoorVU3ToO4
import Derived.Shelf.Lay
import Derived.Shelf.Sort.Plain
import Derived.Shelf.Slices.CompactI
import Derived.Shelf.Slices.In.SortNone
import Derived.Sort.OwnSortedInts
import Derived.Ground.NamesProg
import Derived.Ground.Names2Prog
import Derived.Test.YtjodljnddflgfaaGreatDoorVU9ToU2
import Derived.Laws.EntriesVeiled
import Derived.Test.YtjodljnddflgfaaGreatDoorVW4ToS9
import Derived.Test.YtjodljnddflgfaaGreatDoorVX9ToX11
set_option linter.unusedVariables false
set_option maxRecDepth 100000
set_option maxHeartbeats 8000000
namespace Go.Proofs.YtjodljnddflgfaaGreatDoor
open Go.Proofs.Tryz
open Go.RowKit Go.Shelf Go.Maps
attribute [local go_sem] Oper.semAt_some
theorem Hg{X Y:World}{row:Option Nat}{b:Nat}{cur:Array Value}{t:TypeId}(h:X.heap[b]? =some (.cells cur t))(hg:X.grownBy Y row)(hr:∀r,row=some r->∃o:Obj,X.heap[r]? =some o/\o.isCells=false):Y.heap[b]? =some (.cells cur t):=
 (hg.block b (Array.getElem?_eq_some_iff.1 h).1 (fun e=>by obtain⟨o,ho,hc⟩:=hr b e.symm;rw[h]at ho;cases ho;cases hc)).trans h
theorem y0D(so:Option Addr)(n cap:Nat)(rs:List Rr)(w:World)(h:Qh w w.heap.size so n rs)
  (hTg:1<w.heap.size)(HZ:Hid (RgZ rs))(HP:Hid (∀W:World,Below w.heap.size w W->Calls prog 135 #[.agg #[.slice so n cap]] W fun e w'=>e=.returned .nilIface/\Below W.heap.size W w'))(m:Nat):
  CallsIn Fence.wide (m+5) prog 97 #[.agg #[.slice so n cap]] w (CkP w rs):=by
 have hdd:=Xp;have hmm:=y0C;obtain⟨W0,hW0⟩:∃W0,W0=((w.alloc (.cells #[.slice so n cap] 24)).alloc (.cells #[.map none] 174)).alloc (.cells #[.nilIface] 35):=⟨_,rfl⟩;have hB0:Below w.heap.size w W0:=by rw[hW0];exact(((Below.refl _ w).alloc L0q _).alloc (by simp) _).alloc (by simp;omega) _
 have c1:W0.heap[w.heap.size]? =some (.cells #[.slice so n cap] 24):=by
  rw[hW0];exact(Below.heap_alloc _ _ _ (by simp;omega)).trans ((Below.heap_alloc _ _ _ (by simp)).trans (Qx w _ rfl))
 have c2:W0.heap[w.heap.size+1]? =some (.cells #[.map none] 174):=by
  rw[hW0];exact(Below.heap_alloc _ _ _ (by simp)).trans (Qx _ _ (by simp))
 have c3:W0.heap[w.heap.size+1+1]? =some (.cells #[.nilIface] 35):=by
  rw[hW0];exact Qx _ _ (by simp)
 have hs0:W0.heap.size=w.heap.size+1+1+1:=by rw[hW0];simp
 have HP0:=hid (HP.out W0 hB0);refine callsIn_of_wp_marks func97 rfl trivial ?_ rfl;simp only[ntmps97,List.size_toArray,List.length_cons,List.length_nil,Nat.reduceAdd,Nat.reduceSub,Array.replicate_succ,Array.replicate_zero,List.push_toArray,List.append_toArray,List.nil_append,List.cons_append]
 gi_wp2
 rw[<-hW0];clear hW0;refine⟨trivial,?_⟩;refine(callsIn_wide.2 HP0.out).mono ?_;rintro e W1 ⟨rfl,hb1⟩;have d1:=(hb1.block _ (by omega)).trans c1;have d2:=(hb1.block _ (by omega)).trans c2;have d3:=(hb1.block _ (by omega)).trans c3;have hs1:=hb1.size;clear HP0;obtain⟨e1,_⟩:=Qw d1;have hl1:w.heap.size<W1.heap.size:=by omega
 have HBw:Hid (Below w.heap.size w W1):=hB0.trans (hb1.mono hB0.size);obtain⟨M,hM⟩:∃M,M=W1.heap.size:=⟨_,rfl⟩;obtain⟨W2,hW2⟩:∃W2,W2=(W1.alloc (.map #[] 0)).alloc (.cells #[.map (some W1.heap.size)] 174):=⟨_,rfl⟩;have HPm:Hid (Pm W2 M []):=by
  rw[hW2,hM];exact(Pm.made W1).kept (World.grownBy_alloc _ _ none) (by simp)
 have HB2:Hid (Below w.heap.size w W2):=by
  rw[hW2];exact((HBw.out.alloc HBw.out.size _).alloc (by simp;omega) _)
 have HV:Hid (W2.heap[M+1]? =some (.cells #[.map (some M)] 174)):=by
  rw[hW2,hM];exact Qx _ _ (by simp)
 have H1:Hid (W2.heap[w.heap.size]? =some (.cells #[.slice so n cap] 24)):=by
  rw[hW2];exact(Below.heap_alloc _ _ _ (by simp;omega)).trans ((Below.heap_alloc _ _ _ (by omega)).trans d1)
 have H2:Hid (W2.heap[w.heap.size+1]? =some (.cells #[.map none] 174)):=by
  rw[hW2];exact(Below.heap_alloc _ _ _ (by simp;omega)).trans ((Below.heap_alloc _ _ _ (by omega)).trans d2)
 have H3:Hid (W2.heap[w.heap.size+1+1]? =some (.cells #[.nilIface] 35)):=by
  rw[hW2];exact(Below.heap_alloc _ _ _ (by simp;omega)).trans ((Below.heap_alloc _ _ _ (by omega)).trans d3)
 have HM:Hid (w.heap.size+1+1+1<=M):=by show _<=_;omega
 have HS2:Hid (W2.heap.size=M+1+1):=by show _=_;rw[hW2,hM];simp
 have hn6:n<=9223372036854775807:=by have:=h.2.1;unfold maxLen at this;omega
 have HR:=hid h;have HNl:Hid (n=rs.length):=h.1
 gi_wp2
 rw[<-hW2,<-hM];clear hW2 hM d1 d2 d3 e1 h hs0 hs1 hB0 c1 c2 c3 hb1 hl1 hmm
 gi_loopw [27] (fun i wr=>∃j:Nat,i=.int .i64 j/\j<=n/\Hid (Pm wr M (nmL (rs.take j)))/\Hid (Kj rs=Vc (nmL (rs.take j)) (rs.drop j))/\Hid (Kp3 w W2 M wr)) (fun i _=>n-(intOf i).toNat)
 case atStart=>exact⟨0,rfl,Nat.zero_le _,HPm,rfl,⟨HB2.out,Nat.le_of_eq HS2.out.symm,fun _ _=>rfl,rfl⟩⟩
 case round=>
  obtain⟨j,rfl,hj,HPj,HDj,HKj⟩:=hrel;by_cases hjn:j<n
  ·have hjI:(j:Int)<(n:Int):=by omega
   have a0:decide ((j:Int)<(n:Int))=true:=by simp;omega
   have hjs:j<rs.length:=by rw[<-HNl.out];exact hjn
   obtain⟨g,o,rfl,hg,k1,T1,a1,b1,c1,d1,so1,n1,cap1,p1,hrt,r0⟩:=HR.out.2.2 j hjs;have hce:∀q,wr.cell? ⟨g,q,none⟩=w.cell? ⟨g,q,none⟩:=fun q=>HKj.out.1.cell (p:=⟨g,q,none⟩) hg
   simp only[<-hce]at r0;obtain⟨z0,z1,z2,z3,z4,z5,z6,z7,z8,z9⟩:=r0;have hgl:g<wr.heap.size:=World.block_lt_of_cell? wr _ z0;obtain⟨N0,hN0⟩:∃N0,N0=rs[j].1:=⟨_,rfl⟩;obtain⟨q1,hq1⟩:∃q1,q1=rs[j].2.2:=⟨_,rfl⟩;rw[<-hN0]at z0;rw[<-hq1]at z9;have HV1:Hid (wr.heap[M+1]? =some (.cells #[.map (some M)] 174)):=HKj.out.2.2.2.trans HV.out;obtain⟨v1,_⟩:=Qw HV1.out;have hMl:M+1<wr.heap.size:=HKj.out.2.1;obtain⟨D,hown,hD⟩:=HPj.out;have hown1:=hown.alloc (.cells #[.string N0,.int .i64 k1,.string T1,.int .u64 a1,.int .u64 b1,.int .u64 c1,.int .u64 d1,.slice so1 n1 cap1,.int .i64 p1,.int .i64 q1] 57);have hsz:N0.size<=maxLen:=by rw[hN0];exact(HZ.out _ (List.getElem_mem hjs)).1
   have HN0:=hid hN0;have HQ1:=hid hq1;clear hce hN0 hq1;have hm:=HM.out;have y2:wr.heap[w.heap.size+1]? =some (.cells #[.map none] 174):=(HKj.out.2.2.1 _ (by omega)).trans H2.out;have y3:wr.heap[w.heap.size+1+1]? =some (.cells #[.nilIface] 35):=(HKj.out.2.2.1 _ (by omega)).trans H3.out;have l2:w.heap.size+1<wr.heap.size:=Qz y2;have l3:w.heap.size+1+1<wr.heap.size:=Qz y3;cases hin:inN N0 (nmL (rs.take j))with
   |true=>
    have hh:Maps.has D (kls N0)=true:=by rw[(hD N0).1,hin]
    gi_wp2_with (first
     |(gi_at_lookup;refine wpListIn_lookup_own_ok_int _ rfl _ _ 174 rfl 9 3 .i64 Fk Tryz.underlying174 Tryz.underlying3 (Hy _) M _ D rfl hown1 _ _ rfl (Fv hsz) ?_;intro cc hat hwc;rw[hh]))
    obtain⟨wa,hwa⟩:∃wa,wa=wr.alloc (.cells #[.string N0,.int .i64 k1,.string T1,.int .u64 a1,.int .u64 b1,.int .u64 c1,.int .u64 d1,.slice so1 n1 cap1,.int .i64 p1,.int .i64 q1] 57):=⟨_,rfl⟩;rw[<-hwa];have ya:wa.heap[wr.heap.size]? =some (.cells #[.string N0,.int .i64 k1,.string T1,.int .u64 a1,.int .u64 b1,.int .u64 c1,.int .u64 d1,.slice so1 n1 cap1,.int .i64 p1,.int .i64 q1] 57):=by rw[hwa];exact Qx _ _ rfl
    have y2':wa.heap[w.heap.size+1]? =some (.cells #[.map none] 174):=by rw[hwa];exact(Below.heap_alloc _ _ _ l2).trans y2
    have y3':wa.heap[w.heap.size+1+1]? =some (.cells #[.nilIface] 35):=by rw[hwa];exact(Below.heap_alloc _ _ _ l3).trans y3
    have HBa:Hid (Below w.heap.size w wa):=by rw[hwa];exact HKj.out.1.alloc HKj.out.1.size _
    have la:=Qz ya;have l2':=Qz y2';have l3':=Qz y3';obtain⟨⟨r0,r1,r2,r3,r4,r5,r6,r7,r8',r9⟩,_⟩:=Fh ya;obtain⟨x2,f2⟩:=Qw y2';obtain⟨x3,f3⟩:=Qw y3';clear hwa hown hown1 z0 z1 z2 z3 z4 z5 z6 z7 z8 z9 v1 r0 r1 r2 r3 r4 r5 r6 r7 r8' hat hwc hh
    gi_region
    gi_wp2
    have b2:Boxed wa (w.heap.size+1) 174 (.map none):=y2';have b3:Boxed wa (w.heap.size+1+1) 35 .nilIface:=y3';have d1:=(((b2.set (.map none)).other (B':=w.heap.size+1+1) (by omega) (.iface 86 (.pointer (some ⟨wa.heap.size,0,none⟩)))).alloc (.cells #[.int .i64 30,.int .i64 q1] 89)).cell;have d2:=(((b3.other (B':=w.heap.size+1) (by omega) (.map none)).set (.iface 86 (.pointer (some ⟨wa.heap.size,0,none⟩)))).alloc (.cells #[.int .i64 30,.int .i64 q1] 89)).cell;refine⟨.tuple #[.map none,.iface 86 (.pointer (some ⟨wa.heap.size,0,none⟩))],by simp[results,Tryz.f97,go_sem,d1,d2],?_,.inl ⟨30,q1,wa.heap.size,?_,rfl,HBa.out.size,?_⟩⟩
    ·exact(((HBa.out.setCell (p:=⟨w.heap.size+1,0,none⟩) (by show w.heap.size<=_+1;omega) _).setCell (p:=⟨w.heap.size+1+1,0,none⟩) (by show w.heap.size<=_+1+1;omega) _).alloc (by simp;exact HBa.out.size) _).drew
    ·unfold ckR
     rw[HDj.out,z3Y _ _ j hjs,<-HN0.out,<-HQ1.out,hin];rfl
    ·exact Qx _ _ (by simp)
   |false=>
    have hh:Maps.has D (kls N0)=false:=by rw[(hD N0).1,hin]
    gi_wp2_with (first
     |(gi_at_lookup;refine wpListIn_lookup_own_ok_int _ rfl _ _ 174 rfl 9 3 .i64 Fk Tryz.underlying174 Tryz.underlying3 (Hy _) M _ D rfl hown1 _ _ rfl (Fv hsz) ?_;intro cc hat hwc;rw[hh])
     |(gi_at_mapUpdate;refine wpListIn_mapUpdate_own _ rfl _ _ _ 174 rfl 9 3 Fk Tryz.underlying174 _ M _ D rfl hown1 (by rw[nmL,List.length_map,List.length_take];unfold maxLen;omega) _ _ _ rfl rfl (Fv hsz) _ [] (plainElem_int Tryz.underlying3 (WalkArith.wf_i64 (by omega))) ?_;intro w1 hown2 hgr))
    have hlen:(nmL (rs.take j)).length=j:=by rw[nmL,List.length_map,List.length_take];omega
    refine⟨⟨j+1,by go_num,by omega,hid ?_,hid ?_,hid (HKj.out.step hgr (by omega))⟩,by simp[intOf];omega⟩
    ·show Pm _ _ _
     rw[z3Z rs j hjs,<-HN0.out];exact Pm.put hD hown.isMap hin (by rw[hlen];rw[hlen]at hown2;exact hown2)
    ·show _=_
     rw[HDj.out,z3Y _ _ j hjs,<-HN0.out,hin,z3Z rs j hjs,<-HN0.out];rfl
  ·have a0:decide ((j:Int)<(n:Int))=false:=by simp;omega
   have hjn':rs.take j=rs:=List.take_of_length_le (by rw[<-HNl.out];omega);have hjd:rs.drop j=[]:=List.drop_eq_nil_of_le (by rw[<-HNl.out];omega);rw[hjn',hjd]at HDj;rw[hjn']at HPj;have hm:=HM.out;have y1:wr.heap[w.heap.size]? =some (.cells #[.slice so n cap] 24):=(HKj.out.2.2.1 _ (by omega)).trans H1.out;obtain⟨x1,f1⟩:=Qw y1;clear hjn' hjd
   gi_wp2
   clear x1 f1 y1 a0 hjn hj;refine wpIn_loop (fun a' w'=>∃(i:Nat) (v11 v54 v55 v56 v57 v58 v59 v75:Value) (ds:List Deferred),a'={tmps:=#[.agg #[.slice so n cap],.pointer (some ⟨w.heap.size,0,none⟩),.pointer (some ⟨w.heap.size+1,0,none⟩),.pointer (some ⟨w.heap.size+1+1,0,none⟩),.nilIface,.pointer (some ⟨M+1,0,none⟩),u6,u7,u8,u9,undef,v11,undef,undef,undef,.agg #[.slice so n cap],.nilIface,.nilIface,.bool false,undef,.pointer (some ⟨w.heap.size,0,none⟩),.slice so n cap,.int .i64 n,.map (some M),.pointer (some ⟨w.heap.size,0,none⟩),.slice so n cap,.int .i64 n,.int .i64 j,.bool false,u29,u30,u31,u32,u33,u34,u35,u36,u37,u38,u39,u40,u41,u42,u43,u44,u45,u46,u47,u48,u49,.pointer (some ⟨w.heap.size,0,none⟩),.slice so n cap,.int .i64 n,.int .i64 i,v54,v55,v56,v57,v58,v59,undef,undef,undef,undef,undef,undef,undef,undef,undef,undef,undef,undef,undef,undef,undef,v75,undef],defers:=ds}/\i<=n/\Hid (Pm w' M (nmL rs))/\Hid (Xm (nmL rs) (rfG (rs.take i))=none)/\Hid (Kp3 w W2 M w')/\Hid (Mks w.heap.size w'.heap.size ds w')) (fun a' _=>n-(intOf (a'.tmps.getD 53 undef)).toNat) ?_ ?_
   ·exact⟨0,undef,undef,undef,undef,undef,undef,undef,undef,[],rfl,Nat.zero_le _,HPj,by show _=_;rw[List.take_zero,rfG,Xm],HKj,trivial⟩
   ·rintro a' w3 ⟨i,v11,v54,v55,v56,v57,v58,v59,v75,ds,rfl,hi,HPi,HLi,HKi,HMi⟩
    have hm3:M+1<w3.heap.size:=HKi.out.2.1;have y2:w3.heap[w.heap.size+1]? =some (.cells #[.map none] 174):=(HKi.out.2.2.1 _ (by omega)).trans H2.out;have y3:w3.heap[w.heap.size+1+1]? =some (.cells #[.nilIface] 35):=(HKi.out.2.2.1 _ (by omega)).trans H3.out;have yM:w3.heap[M+1]? =some (.cells #[.map (some M)] 174):=HKi.out.2.2.2.trans HV.out;by_cases hin:i<n
    ·have hiI:(i:Int)<(n:Int):=by omega
     have a0:decide ((i:Int)<(n:Int))=true:=by simp;omega
     have his:i<rs.length:=by rw[<-HNl.out];exact hin
     obtain⟨g,o,rfl,hg,k1,T1,a1,b1,c1,d1,so1,n1,cap1,p1,hrt,r0⟩:=HR.out.2.2 i his;have hce:∀q,w3.cell? ⟨g,q,none⟩=w.cell? ⟨g,q,none⟩:=fun q=>HKi.out.1.cell (p:=⟨g,q,none⟩) hg
     simp only[<-hce]at r0;obtain⟨z0,z1,z2,z3,z4,z5,z6,z7,z8,z9⟩:=r0;have hgl:g<w3.heap.size:=World.block_lt_of_cell? w3 _ z0;obtain⟨N0,hN0⟩:∃N0,N0=rs[i].1:=⟨_,rfl⟩;obtain⟨q1,hq1⟩:∃q1,q1=rs[i].2.2:=⟨_,rfl⟩;rw[<-hN0]at z0;rw[<-hq1]at z9;have HRT:Hid (Qk w w.heap.size rs[i].2.1 (r8 k1 T1 a1 b1 c1 d1 so1 n1 cap1 p1)):=hrt;clear hN0 hq1 hce hrt
     gi_wp2_with (first
      |(refine⟨trivial,?_⟩;gi_at_call 136;refine(y0y _ k1 T1 a1 b1 c1 d1 so1 n1 cap1 p1 _).mono ?_;rintro e w4 ⟨rfl,rfl⟩))
     obtain⟨w5,hw5⟩:∃w5,w5=(w3.alloc (.cells #[.string N0,.int .i64 k1,.string T1,.int .u64 a1,.int .u64 b1,.int .u64 c1,.int .u64 d1,.slice so1 n1 cap1,.int .i64 p1,.int .i64 q1] 57)).alloc (.cells #[.int .i64 k1,.string T1,.int .u64 a1,.int .u64 b1,.int .u64 c1,.int .u64 d1,.slice so1 n1 cap1,.int .i64 p1] 30):=⟨_,rfl⟩;rw[<-hw5];have hb35:Below w3.heap.size w3 w5:=by rw[hw5];exact((Below.refl _ w3).alloc L0q _).alloc (by simp) _
     have hs5:w5.heap.size=w3.heap.size+1+1:=by rw[hw5];simp
     have hbn:w5.heap[w3.heap.size+1]? =some (.cells #[.int .i64 k1,.string T1,.int .u64 a1,.int .u64 b1,.int .u64 c1,.int .u64 d1,.slice so1 n1 cap1,.int .i64 p1] 30):=by rw[hw5];exact Qx _ _ (by simp)
     have HK5:Hid (Kp3 w W2 M w5):=HKi.out.below hb35 (by have:=HKi.out.1.size;omega) (by omega);have HP5:Hid (Pm w5 M (nmL rs)):=HPi.out.below hb35 (by omega);have HM5:Hid (Mks w.heap.size w3.heap.size ds w5):=HMi.out.below hb35;have hrt5:=HRT.out.below HK5.out.1;have hsw:w.heap.size<=w3.heap.size:=HKi.out.1.size;have HB2':Hid (∀W:World,Kp3 w W2 M W->Boxed W (w.heap.size+1) 174 (.map none)):=fun W hW=>(hW.2.2.1 _ (by omega)).trans H2.out
     have HB3':Hid (∀W:World,Kp3 w W2 M W->Boxed W (w.heap.size+1+1) 35 .nilIface):=fun W hW=>(hW.2.2.1 _ (by omega)).trans H3.out
     have HBM:Hid (∀W:World,Kp3 w W2 M W->Boxed W (M+1) 174 (.map (some M))):=fun W hW=>hW.2.2.2.trans HV.out
     clear hw5 hb35 z0 z1 z2 z3 z4 z5 z6 z7 z8 z9 y2 y3 yM;refine wpIn_rangeFunc_ownH rfl (by omega) (gf:=162) (lb:=#[.pointer (some ⟨w3.heap.size+1,0,none⟩)]) rfl trivial (enters_of func162 (by kernel_rfl) rfl)
      (y0x (s0:=w.heap.size) rs[i].2.1 k1 T1 a1 b1 c1 d1 so1 n1 cap1 p1 _ _ w5 hbn hrt5 (HZ.out _ (List.getElem_mem his)).2) Kt.trans (fun W' l o o' h1 h2 h3 h4=>Kt.book W' l o o' (by omega) h2 h3) B0q (fun _=>rfl)
      (fun pre W=>Pm W M (nmL rs)/\Kp3 w W2 M W/\Mks w.heap.size w3.heap.size ds W/\w5.heap.size<=W.heap.size/\Xm (nmL rs) (tps pre)=none)
      (fun c pre W=>c=.ret/\Below w.heap.size w W/\Mks w.heap.size w3.heap.size ds W/\w5.heap.size<=W.heap.size/\∃gf pf,Xm (nmL rs) (tps pre)=some pf/\Boxed W (w.heap.size+1) 174 (.map none)/\Boxed W (w.heap.size+1+1) 35 (.iface 86 (.pointer (some ⟨gf,0,none⟩)))/\w.heap.size<=gf/\W.heap[gf]? =some (.cells #[.int .i64 31,.int .i64 pf] 89))
      ?own ?ownx ⟨HP5.out,HK5.out,HM5.out,Nat.le_refl _,rfl⟩
      (fun x a' W=>∃b,a'={tmps:=#[.agg #[.slice (some ⟨g,o,none⟩) n cap],.pointer (some ⟨w.heap.size,0,none⟩),.pointer (some ⟨w.heap.size+1,0,none⟩),.pointer (some ⟨w.heap.size+1+1,0,none⟩),.nilIface,.pointer (some ⟨M+1,0,none⟩),u6,u7,u8,u9,undef,.pointer (some ⟨w3.heap.size,0,none⟩),.pointer (some ⟨b,0,none⟩),undef,undef,.agg #[.slice (some ⟨g,o,none⟩) n cap],.nilIface,.nilIface,.bool false,undef,.pointer (some ⟨w.heap.size,0,none⟩),.slice (some ⟨g,o,none⟩) n cap,.int .i64 n,.map (some M),.pointer (some ⟨w.heap.size,0,none⟩),.slice (some ⟨g,o,none⟩) n cap,.int .i64 n,.int .i64 j,.bool false,u29,u30,u31,u32,u33,u34,u35,u36,u37,u38,u39,u40,u41,u42,u43,u44,u45,u46,u47,u48,u49,.pointer (some ⟨w.heap.size,0,none⟩),.slice (some ⟨g,o,none⟩) n cap,.int .i64 n,.int .i64 i,.bool true,.pointer (some ⟨g,o+i*10,none⟩),.agg #[.string N0,.int .i64 k1,.string T1,.int .u64 a1,.int .u64 b1,.int .u64 c1,.int .u64 d1,.slice so1 n1 cap1,.int .i64 p1,.int .i64 q1],.pointer (some ⟨w3.heap.size,1,none⟩),.agg #[.int .i64 k1,.string T1,.int .u64 a1,.int .u64 b1,.int .u64 c1,.int .u64 d1,.slice so1 n1 cap1,.int .i64 p1],.func (.func 162) #[] #[.pointer (some ⟨w3.heap.size+1,0,none⟩)],x.v,undef,undef,undef,undef,undef,undef,undef,undef,undef,undef,undef,undef,undef,undef,v75,undef],defers:=[]}/\W.heap[b]? =some (.cells #[.int .i64 x.k,.string x.T,.int .u64 x.a,.int .u64 x.b,.int .u64 x.c,.int .u64 x.d,.slice x.so x.n x.cap,.int .i64 x.p] 30))
      ?ownA ?assign ?Qp ?done ?stop
     case own=>
      rintro pre X Y row ⟨h1,h2,h3,h4,h5⟩ hg hr;have hB:Below w5.heap.size X Y:=(Below.refl _ X).grown hg h4 (fun k e=>(hr k e).1);exact⟨h1.below hB (by omega),h2.below hB (by omega) (by omega),h3.below (hB.mono (by omega)),Nat.le_trans h4 hB.size,h5⟩
     case ownx=>
      rintro c pre X Y row ⟨h0,h1,h2,h3,gf,pf,h4,h5,h6,h7,h8⟩ hg hr;have hB:Below w5.heap.size X Y:=(Below.refl _ X).grown hg h3 (fun k e=>(hr k e).1);have hr':=fun r e=>(hr r e).2
      exact⟨h0,h1.trans (hB.mono (by omega)),h2.below (hB.mono (by omega)),Nat.le_trans h3 hB.size,gf,pf,h4,Uh h5 hg hr',Uh h6 hg hr',h7,Hg h8 hg hr'⟩
     case ownA=>
      rintro x a' _ X Y row ⟨b,h1,h2⟩ hg hr;exact⟨b,h1,Hg h2 hg (fun r e=>(hr r e).2)⟩
     case assign=>
      rintro l pre x W K ⟨h1,h2,h3,h4,h5⟩ hK;have hB:Below w5.heap.size W (W.alloc (.cells #[.int .i64 x.k,.string x.T,.int .u64 x.a,.int .u64 x.b,.int .u64 x.c,.int .u64 x.d,.slice x.so x.n x.cap,.int .i64 x.p] 30)):=(Below.refl _ W).alloc h4 _;have HK:=hid (hK {tmps:=#[.agg #[.slice (some ⟨g,o,none⟩) n cap],.pointer (some ⟨w.heap.size,0,none⟩),.pointer (some ⟨w.heap.size+1,0,none⟩),.pointer (some ⟨w.heap.size+1+1,0,none⟩),.nilIface,.pointer (some ⟨M+1,0,none⟩),u6,u7,u8,u9,undef,.pointer (some ⟨w3.heap.size,0,none⟩),.pointer (some ⟨W.heap.size,0,none⟩),undef,undef,.agg #[.slice (some ⟨g,o,none⟩) n cap],.nilIface,.nilIface,.bool false,undef,.pointer (some ⟨w.heap.size,0,none⟩),.slice (some ⟨g,o,none⟩) n cap,.int .i64 n,.map (some M),.pointer (some ⟨w.heap.size,0,none⟩),.slice (some ⟨g,o,none⟩) n cap,.int .i64 n,.int .i64 j,.bool false,u29,u30,u31,u32,u33,u34,u35,u36,u37,u38,u39,u40,u41,u42,u43,u44,u45,u46,u47,u48,u49,.pointer (some ⟨w.heap.size,0,none⟩),.slice (some ⟨g,o,none⟩) n cap,.int .i64 n,.int .i64 i,.bool true,.pointer (some ⟨g,o+i*10,none⟩),.agg #[.string N0,.int .i64 k1,.string T1,.int .u64 a1,.int .u64 b1,.int .u64 c1,.int .u64 d1,.slice so1 n1 cap1,.int .i64 p1,.int .i64 q1],.pointer (some ⟨w3.heap.size,1,none⟩),.agg #[.int .i64 k1,.string T1,.int .u64 a1,.int .u64 b1,.int .u64 c1,.int .u64 d1,.slice so1 n1 cap1,.int .i64 p1],.func (.func 162) #[] #[.pointer (some ⟨w3.heap.size+1,0,none⟩)],x.v,undef,undef,undef,undef,undef,undef,undef,undef,undef,undef,undef,undef,undef,undef,v75,undef],defers:=[]} (W.alloc (.cells #[.int .i64 x.k,.string x.T,.int .u64 x.a,.int .u64 x.b,.int .u64 x.c,.int .u64 x.d,.slice x.so x.n x.cap,.int .i64 x.p] 30)) (KeepsFrom.of_grownBy (World.grownBy_alloc W _ none) (fun j e=>by cases e)) (Kt.alloc W _) ⟨h1.below hB (by omega),h2.below hB (by omega) (by omega),h3.below (hB.mono (by omega)),Nat.le_trans h4 hB.size,h5⟩ ⟨W.heap.size,rfl,Qx W _ rfl⟩);clear hK h1 h2 h3 h4 h5 hB
      gi_wp2
      exact HK.out
     case Qp=>
      rintro l pre x a' W hl ⟨r,hr⟩ ⟨h1,h2,h3,h4,h5⟩ ⟨b,rfl,hb⟩ hlt;have hsz:x.T.size<=maxLen:=x.z;have bM:=HBM.out W h2;have cM:=bM.cell;have b2:=HB2'.out W h2;have b3:=HB3'.out W h2;have x2:=b2.cell;have x3:=b3.cell;have e2:=b2.frozen;have e3:=b3.frozen;have l2:=b2.lt;have l3:=b3.lt;obtain⟨⟨c0,c1',c2,c3,c4,c5,c6,c7⟩,_⟩:=Qg hb;have lb:=Qz hb;obtain⟨D,hown,hD⟩:=h1;have et:tps (pre++[x])=tps pre++[(x.T,x.p)]:=by rw[Td];rfl
      cases hk:inN x.T (nmL rs)with
      |true=>
       have hh:Maps.has D (kls x.T)=true:=by rw[(hD x.T).1,hk]
       have hl5:Xm (nmL rs) (tps (pre++[x]))=none:=by
        rw[et,Mz,h5];simp only[Xm];rw[if_pos hk]
       gi_wp2_with (first
        |(gi_at_lookup;refine wpListIn_lookup_own_ok_int _ rfl _ _ 174 rfl 9 3 .i64 Fk Tryz.underlying174 Tryz.underlying3 (Hy _) M _ D rfl hown _ _ rfl (Fv hsz) ?_;intro cc hat hwc;rw[hh]))
       exact⟨KeepsFrom.refl _ _,Kt.refl _,⟨D,hown,hD⟩,h2,h3,h4,hl5⟩
      |false=>
       have hh:Maps.has D (kls x.T)=false:=by rw[(hD x.T).1,hk]
       have hl5:Xm (nmL rs) (tps (pre++[x]))=some x.p:=by
        rw[et,Mz,h5];simp only[Xm];rw[if_neg (by rw[hk];decide)]
       have hKO:KeepsOthers W (((W.setCell ⟨w.heap.size+1,0,none⟩ (.map none)).setCell ⟨w.heap.size+1+1,0,none⟩ (.iface 86 (.pointer (some ⟨W.heap.size,0,none⟩)))).alloc (.cells #[.int .i64 31,.int .i64 x.p] 89)):=((KeepsOthers.setCell _ _ _).trans (KeepsOthers.setCell _ _ _)).trans (KeepsOthers.of_grownBy (World.grownBy_alloc _ _ none) (fun j o e=>by cases e));have HF:Hid (KeepsFrom w5.heap.size W (((W.setCell ⟨w.heap.size+1,0,none⟩ (.map none)).setCell ⟨w.heap.size+1+1,0,none⟩ (.iface 86 (.pointer (some ⟨W.heap.size,0,none⟩)))).alloc (.cells #[.int .i64 31,.int .i64 x.p] 89)).drew/\(Below w.heap.size w (((W.setCell ⟨w.heap.size+1,0,none⟩ (.map none)).setCell ⟨w.heap.size+1+1,0,none⟩ (.iface 86 (.pointer (some ⟨W.heap.size,0,none⟩)))).alloc (.cells #[.int .i64 31,.int .i64 x.p] 89)).drew/\Mks w.heap.size w3.heap.size ds (((W.setCell ⟨w.heap.size+1,0,none⟩ (.map none)).setCell ⟨w.heap.size+1+1,0,none⟩ (.iface 86 (.pointer (some ⟨W.heap.size,0,none⟩)))).alloc (.cells #[.int .i64 31,.int .i64 x.p] 89)).drew/\w5.heap.size<=(((W.setCell ⟨w.heap.size+1,0,none⟩ (.map none)).setCell ⟨w.heap.size+1+1,0,none⟩ (.iface 86 (.pointer (some ⟨W.heap.size,0,none⟩)))).alloc (.cells #[.int .i64 31,.int .i64 x.p] 89)).drew.heap.size/\∃gf pf,Xm (nmL rs) (tps (pre++[x]))=some pf/\Boxed (((W.setCell ⟨w.heap.size+1,0,none⟩ (.map none)).setCell ⟨w.heap.size+1+1,0,none⟩ (.iface 86 (.pointer (some ⟨W.heap.size,0,none⟩)))).alloc (.cells #[.int .i64 31,.int .i64 x.p] 89)).drew (w.heap.size+1) 174 (.map none)/\Boxed (((W.setCell ⟨w.heap.size+1,0,none⟩ (.map none)).setCell ⟨w.heap.size+1+1,0,none⟩ (.iface 86 (.pointer (some ⟨W.heap.size,0,none⟩)))).alloc (.cells #[.int .i64 31,.int .i64 x.p] 89)).drew (w.heap.size+1+1) 35 (.iface 86 (.pointer (some ⟨gf,0,none⟩)))/\w.heap.size<=gf/\(((W.setCell ⟨w.heap.size+1,0,none⟩ (.map none)).setCell ⟨w.heap.size+1+1,0,none⟩ (.iface 86 (.pointer (some ⟨W.heap.size,0,none⟩)))).alloc (.cells #[.int .i64 31,.int .i64 x.p] 89)).drew.heap[gf]? =some (.cells #[.int .i64 31,.int .i64 pf] 89))):=by
        refine⟨⟨(hKO.from w5.heap.size).size,(hKO.from w5.heap.size).same⟩,?_,?_,Nat.le_trans h4 hKO.size,W.heap.size,x.p,hl5,?_,?_,h2.1.size,?_⟩
        ·exact(((h2.1.setCell (p:=⟨w.heap.size+1,0,none⟩) (by show w.heap.size<=_+1;omega) _).setCell (p:=⟨w.heap.size+1+1,0,none⟩) (by show w.heap.size<=_+1+1;omega) _).alloc (by simp;exact h2.1.size) _).drew
        ·exact h3.kept fun D hD e=>hKO.same D _ e rfl
        ·exact((b2.set (.map none)).other (B':=w.heap.size+1+1) (by omega) _).alloc _
        ·exact((b3.other (B':=w.heap.size+1) (by omega) (.map none)).set _).alloc _
        ·exact Qx _ _ (by simp)
       clear h2 h3 h4 h5 hKO hl5 hD
       gi_wp2_with (first
        |(gi_at_lookup;refine wpListIn_lookup_own_ok_int _ rfl _ _ 174 rfl 9 3 .i64 Fk Tryz.underlying174 Tryz.underlying3 (Hy _) M _ D rfl hown _ _ rfl (Fv hsz) ?_;intro cc hat hwc;rw[hh]))
       gi_region
       all_goals gi_wp2
       all_goals exact⟨HF.out.1,rfl,HF.out.2⟩
     case done=>
      rintro D ys W hD hys ⟨h1,h2,h3,h4,h5⟩ hK;have HI2:Hid (Xm (nmL rs) (rfG (rs.take (i+1)))=none):=by
       show _=_;rw[y0B rs i his,Mz,HLi.out,<-hys,h5]
      have HM2:Hid (Mks w.heap.size W.heap.size ({target:=.collected D,args:=#[]}::ds) W):=⟨D,rfl,by omega,Qz hK,hK,h3.mono (by omega)⟩;have HP2:=hid h1;have HK2:=hid h2;clear h1 h2 h3 h4 h5 hK hys hD
      gi_wp2
      refine⟨⟨i+1,_,_,_,_,_,_,_,_,_,rfl,by omega,HP2,HI2,HK2,HM2⟩,?_⟩;simp[intOf];omega
     case stop=>
      rintro D c pre W hD hpre ⟨rfl,h1,h2,h3,gf,pf,h4,h5,h6,h7,h8⟩ hK;have hc:ckR rs=some (31,pf):=by
       unfold ckR;rw[HDj.out,Vc];dsimp only;obtain⟨r,hr⟩:=hpre;have e:rfG rs=rfG (rs.take i)++(tps pre++(r++rfG (rs.drop (i+1)))):=by
        conv=>lhs;rw[<-List.take_append_drop i rs,Tl,List.drop_eq_getElem_cons his,rfG,<-hr]
        simp
       rw[e,Mz,HLi.out];simp only;rw[Mz,h4]
      have HM2:Mks w.heap.size W.heap.size ({target:=.collected D,args:=#[]}::ds) W:=⟨D,rfl,by omega,Qz hK,hK,h2.mono (by omega)⟩
      gi_wp2
      refine Bz _ _ _ HM2 fun w' hk=> ?_
      have d1:=(hk.box h5).cell;have d2:=(hk.box h6).cell;exact⟨.tuple #[.map none,.iface 86 (.pointer (some ⟨gf,0,none⟩))],by simp[results,Tryz.f97,go_sem,d1,d2],h1.trans hk.1,.inl ⟨31,pf,gf,hc,rfl,h7,hk.2 _ _ h8 (fun l e=>by cases e)⟩⟩
    ·have a0:decide ((i:Int)<(n:Int))=false:=by simp;omega
     have hjn':rs.take i=rs:=List.take_of_length_le (by rw[<-HNl.out];omega);rw[hjn']at HLi;obtain⟨x2,e2⟩:=Qw y2;obtain⟨x3,e3⟩:=Qw y3;obtain⟨xM,eM⟩:=Qw yM;have l2:=Qz y2;have l3:=Qz y3;clear hjn'
     gi_wp2
     have b2:Boxed w3 (w.heap.size+1) 174 (.map none):=y2;have b3:Boxed w3 (w.heap.size+1+1) 35 .nilIface:=y3;have hKO:KeepsOthers w3 ((w3.setCell ⟨w.heap.size+1,0,none⟩ (.map (some M))).setCell ⟨w.heap.size+1+1,0,none⟩ .nilIface):=(KeepsOthers.setCell _ _ _).trans (KeepsOthers.setCell _ _ _);refine Bz ds w3.heap.size _ (HMi.out.kept fun D hD e=>hKO.same D _ e rfl) fun w' hk=> ?_
     have d1:=(hk.box ((b2.set (.map (some M))).other (B':=w.heap.size+1+1) (by omega) .nilIface)).cell;have d2:=(hk.box ((b3.other (B':=w.heap.size+1) (by omega) (.map (some M))).set .nilIface)).cell;refine⟨.tuple #[.map (some M),.nilIface],by simp[results,Tryz.f97,go_sem,d1,d2],?_,.inr ⟨M,?_,rfl,by have:=HM.out;omega,hk.pm ?_⟩⟩
     ·exact((HKi.out.1.setCell (p:=⟨w.heap.size+1,0,none⟩) (by show w.heap.size<=_+1;omega) _).setCell (p:=⟨w.heap.size+1+1,0,none⟩) (by show w.heap.size<=_+1+1;omega) _).trans hk.1
     ·unfold ckR
      rw[HDj.out,Vc];dsimp only;rw[HLi.out]
     ·exact(HPi.out.kept (grownBy_setCell' _ _ _) (by simp;omega)).kept (grownBy_setCell' _ _ _) (by simp;omega)
end Go.Proofs.YtjodljnddflgfaaGreatDoor
namespace Go.Proofs
open Go.Shelf
shelf_lay Lays.n189 Nm 189 at Tryz as Tryz.lays189
shelf_lay Lays2.n20 Nm2 20 at Tryz as Tryz.lays2_20
end Go.Proofs
namespace Go.Proofs.YtjodljnddflgfaaGreatDoor
open Go.Proofs.Tryz
open Go.RowKit Go.Shelf Go.Sort
open Go.Maps
attribute [local go_sem] Oper.semAt_some
theorem Hb{M:ByteArray}(h:nmS M=true):1<=M.size:=by
 rcases Nat.lt_or_ge 0 M.size with h1|h1
 ·exact h1
 ·have e:M={data:=#[]}:=by
   apply ByteArray.ext;apply Array.ext';exact List.eq_nil_of_length_eq_zero (by have:M.data.size=M.size:=rfl;rw[Array.length_toList];omega)
  subst e
  revert h
  decide+kernel
theorem Hh(over:Nat)(n:Nd):sz (pN qT cT n)<=sz (pP qT cT over n):=by
 unfold pP;split
 ·rw[sz,Vp];omega
 ·exact Nat.le_refl _
mutual
theorem Wz:∀(t:RT) (n:Nd),Tq t n->Vk n->Wf Nmq n->(rfT t).length<=sz (pN qT cT n)
 | .mk k T a b c d s p,.mk kd T' C s' p',hq,hv,hw=>by
   rw[Tq]at hq;obtain⟨hk,hT,_,_,_,_,hs⟩:=hq;rw[Wf]at hw;rw[Vk]at hv;rw[rfT];by_cases h5:kd=5
   ·rw[if_pos (by omega)]
    have h1:1<=T'.size:=Hb (hw.2.1 h5);rw[h5,pN];simp[sz];exact h1
   ·rw[if_neg (by omega)]
    have hB:∀over sep,(rfL s).length<=sz (pS qT cT over sep s'):=fun over sep=>by
     cases s with
     |nil=>rw[rfL];exact Nat.zero_le _
     |cons t r=>
      cases s' with
      |nil=>simp[TqL]at hs
      |cons n q=>
       rw[TqL]at hs;have hvl:=hv.2;rw[VkL]at hvl;have hwl:=hw.2.2.2;rw[WfL]at hwl;have i1:=Wz t n hs.1 hvl.1 hwl.1;have i2:=z4a r q over sep hs.2 hvl.2 hwl.2;have i3:=Hh over n;rw[rfL,List.length_append,Dp,Vp];omega
    have h0:kd<=4->(rfL s).length=0:=fun h=>by
     have e:s'=[]:=by
      rcases hv.1 with h1|h1|h1|h1|h1|h1|h1
      ·exact h1.2.2.2
      ·exact h1.2.2
      ·exact h1.2.2
      ·exact h1.2.2.2
      ·omega
      ·omega
      ·omega
     have:=hB 0 bE;rw[e,pS,sz]at this;omega
    rw[pN]
    repeat' split
    all_goals first
     |(rw[h0 (by omega)];exact Nat.zero_le _)
     |exact hB _ _
     |(rw[sz];exact Nat.le_trans (hB _ _) (Nat.le_add_left _ _))
     |(rw[Vp];exact Nat.le_trans (hB _ _) (Nat.le_add_right _ _))
     |omega
theorem z4a:∀(s:List RT) (q:List Nd) (over:Nat) (sep:ByteArray),TqL s q->VkL q->WfL Nmq q->(rfL s).length<=sz (pB qT cT over sep q)
 |[],_,_,_,_,_,_=>by rw[rfL];exact Nat.zero_le _
 |t::r,[],_,_,h,_,_=>by simp[TqL]at h
 |t::r,n::q,over,sep,h,hv,hw=>by
  rw[TqL]at h;rw[VkL]at hv;rw[WfL]at hw;have i1:=Wz t n h.1 hv.1 hw.1;have i2:=z4a r q over sep h.2 hv.2 hw.2;have i3:=Hh over n;rw[rfL,List.length_append,Dc,sz,Vp];omega
end
theorem Hd:∀{rs:List Rr} {ns:List Rl},TqR rs ns->(∀x∈ns,Ruk Nmq x)->∀x∈rs,(rfT x.2.1).length<=sz (pR qT cT ns)
 |[],_,_,_,x,hx=>by simp at hx
 |a::r,[],h,_,_,_=>by simp[TqR]at h
 |a::r,b::q,h,hk,x,hx=>by
  rw[TqR]at h;rw[pR,sz,sz,Vp,sz];rcases List.mem_cons.1 hx with rfl|hx
  ·have hb:=hk b (by simp)
   have:=Wz _ _ h.2.1 hb.2.1 hb.2.2;omega
  ·have:=Hd h.2.2 (fun y hy=>hk y (List.mem_cons_of_mem _ hy)) x hx
   omega
theorem Hm(so:Option Addr)(n cap:Nat)(A E:Value)(w:World)
  (HP:Hid (∀W:World,Below w.heap.size w W->Calls prog 98 #[.agg #[.slice so n cap]] W fun e w'=>e=.returned (.tuple #[A,E])/\Below W.heap.size W w')):
  Calls prog 135 #[.agg #[.slice so n cap]] w fun e w'=>e=.returned E/\Below w.heap.size w w':=by
 have HB1:Hid (Below w.heap.size w (w.alloc (.cells #[.slice so n cap] 24))):=(Below.refl _ w).alloc L0q _;go_enter func135,ntmps135
 go_wp2_with(first|(go_at_call 98;refine(HP.out _ HB1.out).mono ?_;rintro e wq ⟨rfl,hbq⟩;have HBq:Hid (Below w.heap.size w wq):=HB1.out.trans (hbq.mono HB1.out.size)))
 go_ret;exact⟨rfl,HBq.out⟩
def RtA(rs:List Rr)(E:Value):Prop:=(∃c:Int,(c=2∨c=20)/\E=.iface 43 (.int .i64 c))∨(E=.nilIface/\okG rs=true/\∀x∈rs,(rfT x.2.1).length<=8192)
attribute [local go_sem] Oper.semAt_some
theorem y0E(so:Option Addr)(n cap:Nat)(c:Int)(w:World)
  (HP:Hid (∀W:World,Below w.heap.size w W->Calls prog 135 #[.agg #[.slice so n cap]] W fun e w'=>e=.returned (.iface 43 (.int .i64 c))/\Below W.heap.size W w'))(m:Nat):
  CallsIn Fence.wide (m+5) prog 97 #[.agg #[.slice so n cap]] w fun e w'=>e=.returned (.tuple #[.map none,.iface 43 (.int .i64 c)])/\Below w.heap.size w w':=by
 obtain⟨W0,hW0⟩:∃W0,W0=((w.alloc (.cells #[.slice so n cap] 24)).alloc (.cells #[.map none] 174)).alloc (.cells #[.nilIface] 35):=⟨_,rfl⟩;have hB0:Below w.heap.size w W0:=by rw[hW0];exact(((Below.refl _ w).alloc L0q _).alloc (by simp) _).alloc (by simp;omega) _
 have c2:W0.heap[w.heap.size+1]? =some (.cells #[.map none] 174):=by
  rw[hW0];exact(Below.heap_alloc _ _ _ (by simp)).trans (Qx _ _ (by simp))
 have c3:W0.heap[w.heap.size+1+1]? =some (.cells #[.nilIface] 35):=by
  rw[hW0];exact Qx _ _ (by simp)
 have hs0:W0.heap.size=w.heap.size+1+1+1:=by rw[hW0];simp
 have HP0:=hid (HP.out W0 hB0);refine callsIn_of_wp_marks func97 rfl trivial ?_ rfl;simp only[ntmps97,List.size_toArray,List.length_cons,List.length_nil,Nat.reduceAdd,Nat.reduceSub,Array.replicate_succ,Array.replicate_zero,List.push_toArray,List.append_toArray,List.nil_append,List.cons_append]
 gi_wp2
 rw[<-hW0];clear hW0;refine⟨trivial,?_⟩;refine(callsIn_wide.2 HP0.out).mono ?_;rintro e W1 ⟨rfl,hb1⟩;have d2:=(hb1.block _ (by omega)).trans c2;have d3:=(hb1.block _ (by omega)).trans c3;have hs1:=hb1.size;have HBw:Hid (Below w.heap.size w W1):=hB0.trans (hb1.mono hB0.size);obtain⟨x2,e2⟩:=Qw d2;obtain⟨x3,e3⟩:=Qw d3;have l2:=Qz d2;have l3:=Qz d3;clear HP0 HP c2 c3
 gi_wp2
 have b2:Boxed W1 (w.heap.size+1) 174 (.map none):=d2;have b3:Boxed W1 (w.heap.size+1+1) 35 .nilIface:=d3;have y1:=((b2.set (.map none)).other (B':=w.heap.size+1+1) (by omega) (.iface 43 (.int .i64 c))).cell;have y2:=((b3.other (B':=w.heap.size+1) (by omega) (.map none)).set (.iface 43 (.int .i64 c))).cell;refine⟨.tuple #[.map none,.iface 43 (.int .i64 c)],by simp[results,Tryz.f97,go_sem,y1,y2],rfl,?_⟩;exact(HBw.out.setCell (p:=⟨w.heap.size+1,0,none⟩) (by show w.heap.size<=_+1;omega) _).setCell (p:=⟨w.heap.size+1+1,0,none⟩) (by show w.heap.size<=_+1+1;omega) _
def Zd(X:Option (Int ⊕ (Int×Int)))(S:Nat)(w':World)(v:Value):Prop:=match X with
 |none=>v=.nilIface
 |some (.inl c)=>v=.iface 43 (.int .i64 c)
 |some (.inr q)=>∃g,v=.iface 86 (.pointer (some ⟨g,0,none⟩))/\S<=g/\w'.heap[g]? =some (.cells #[.int .i64 q.1,.int .i64 q.2] 89)
def CkX(rs:List Rr)(X:Option (Int ⊕ (Int×Int))):Prop:=match X with
 |none=>okG rs=true/\ckR rs=none/\∀x∈rs,(rfT x.2.1).length<=8192
 |some (.inl c)=>c=2∨c=20
 |some (.inr q)=>okG rs=true/\ckR rs=some q
theorem Zd.shape{X:Option (Int ⊕ (Int×Int))}{S:Nat}{w':World}{v:Value}(h:Zd X S w' v)(hX:X≠none):∃t u,v=.iface t u:=by
 match X,hX with
 |some (.inl c),_=>exact⟨_,_,h⟩
 |some (.inr q),_=>
  obtain⟨g,h1,_⟩:=h;exact⟨_,_,h1⟩
mutual
theorem Qk.upto{w:World}{B B':Nat}(hB:B<=B'):∀(t:RT) (cs:List Value),Qk w B t cs->Qk w B' t cs
 | .mk k T a b c d s p,cs,ht=>by
   rw[Qk]at ht ⊢;obtain⟨so,cap,rfl,ht⟩:=ht;refine⟨so,cap,rfl,?_⟩;rcases ht with h1|⟨h1,g,o,h2,h3,h4,h5⟩
   ·exact .inl h1
   ·exact .inr ⟨h1,g,o,h2,by omega,h4,Qc.upto hB s g o h5⟩
theorem Qc.upto{w:World}{B B':Nat}(hB:B<=B'):∀(s:List RT) (g o:Nat),Qc w B g o s->Qc w B' g o s
 |[],g,o,_=>by rw[Qc];trivial
 |t::r,g,o,ht=>by
  rw[Qc]at ht ⊢;obtain⟨⟨cs,h1,h2⟩,h3⟩:=ht;exact⟨⟨cs,Qk.upto hB t cs h1,h2⟩,Qc.upto hB r g _ h3⟩
end
theorem Qh.upto{w:World}{B B' n:Nat}{so:Option Addr}{rs:List Rr}(h:Qh w B so n rs)(hB:B<=B'):Qh w B' so n rs:=
 ⟨h.1,h.2.1,fun j hj=>by
   obtain⟨g,o,h1,h2,k,T,a,b,c,d,s',n',cap,p,h3,h4⟩:=h.2.2 j hj;exact⟨g,o,h1,by omega,k,T,a,b,c,d,s',n',cap,p,Qk.upto hB _ _ h3,h4⟩⟩
theorem Zd.lo{X:Option (Int ⊕ (Int×Int))}{S S':Nat}{w':World}{v:Value}(h:Zd X S w' v)(hS:S'<=S):Zd X S' w' v:=by
 match X with
 |none=>exact h
 |some (.inl c)=>exact h
 |some (.inr q)=>
  obtain⟨g,h1,h2,h3⟩:=h;exact⟨g,h1,by omega,h3⟩
theorem Wq(so:Option Addr)(n cap:Nat)(rs:List Rr)(X:Option (Int ⊕ (Int×Int)))(W:World)
  (HC:Hid (∀W':World,Below W.heap.size W W'->Calls prog 97 #[.agg #[.slice so n cap]] W' fun e w'=>∃m v,e=.returned (.tuple #[m,v])/\Zd X W'.heap.size w' v/\(X=none->∃M,m=.map (some M)/\W'.heap.size<=M/\Pm w' M (nmL rs))/\(X≠none->m=.map none)/\Below W'.heap.size W' w')):
  Calls prog 58 #[.agg #[.slice so n cap]] W fun e w'=>∃v,e=.returned v/\Zd X W.heap.size w' v/\Below W.heap.size W w':=by
 have HB1:Hid (Below W.heap.size W (W.alloc (.cells #[.slice so n cap] 24))):=(Below.refl _ W).alloc L0q _;have HB0:Hid (Below W.heap.size W W):=Below.refl _ W;go_enter func58,ntmps58
 go_wp2_with fail
 first
  |(refine(HC.out _ HB1.out).mono ?_;rintro e w1 ⟨m,v,rfl,h1,-,-,h2⟩;have h3:=HB1.out.trans (h2.mono HB1.out.size);have h4:=h1.lo (S':=W.heap.size) HB1.out.size)
  |(refine(HC.out _ HB0.out).mono ?_;rintro e w1 ⟨m,v,rfl,h1,-,-,h2⟩;have h3:=h2;have h4:=h1)
 clear HC HB1 HB0 h1 h2;have H3:=hid h3;have H4:=hid h4;clear h3 h4
 go_wp2_with fail
 go_ret;exact⟨_,rfl,H4.out,H3.out⟩
theorem Dx{rs:List Rr}(h:okG rs=true):1<=rs.length/\rs.length<=64:=by
 unfold okG at h;simp only[Bool.and_eq_true,decide_eq_true_eq]at h;exact⟨h.1,h.2.1⟩
@[reducible] def CkC (so:Option Addr) (n cap:Nat) (rs:List Rr) (X:Option (Int ⊕ (Int×Int))) (W:World):Prop:=∀W':World,Below W.heap.size W W'->Calls prog 97 #[.agg #[.slice so n cap]] W' fun e w'=>∃m v,e=.returned (.tuple #[m,v])/\Zd X W'.heap.size w' v/\(X=none->∃M,m=.map (some M)/\W'.heap.size<=M/\Pm w' M (nmL rs))/\(X≠none->m=.map none)/\Below W'.heap.size W' w'
theorem CkC.from{so:Option Addr}{n cap:Nat}{rs:List Rr}{X:Option (Int ⊕ (Int×Int))}{W W':World}(h:CkC so n cap rs X W)(hW:Below W.heap.size W W'):CkC so n cap rs X W':=fun W2 h2=>h W2 (hW.trans (h2.mono hW.size))
open Go.Extern.Stop Go.Stop Go.Extern
def xOf(rs:List Rr):Option (Int ⊕ (Int×Int)):=(ckR rs).map .inr
theorem Wx(so:Option Addr)(n cap:Nat)(rs:List Rr)(B:Nat)(w:World)(hz:RgZ rs)(h:Qh w B so n rs)(hB:B<=w.heap.size)(hTg:1<w.heap.size)(hok:okG rs=true)(hl:∀x∈rs,(rfT x.2.1).length<=8192)
  (hR:∀W:World,Below w.heap.size w W->Calls prog 135 #[.agg #[.slice so n cap]] W fun e w'=>e=.returned .nilIface/\Below W.heap.size W w'):CkX rs (xOf rs)/\CkC so n cap rs (xOf rs) w:=by
 have hC:∀W:World,Below w.heap.size w W->Calls prog 97 #[.agg #[.slice so n cap]] W (CkP W rs):=fun W hW=>callsIn_wide.1 (y0D so n cap rs W ((h.below (hW.mono hB)).upto (Nat.le_trans hB hW.size)) (by have:=hW.size;omega) (hid hz) (hid fun W' hW'=>hR W' (hW.trans (hW'.mono hW.size))) 0)
 unfold xOf;cases hk:ckR rs with
 |none=>
  refine⟨⟨hok,hk,hl⟩,fun W hW=>(hC W hW).mono fun e w' he=> ?_⟩;obtain⟨hb,⟨c,p,g,h1,_⟩|⟨M,_,h2,h3,h4⟩⟩:=he
  ·rw[hk]at h1;cases h1
  ·exact⟨_,_,h2,rfl,fun _=>⟨M,rfl,h3,h4⟩,fun h=>absurd rfl h,hb⟩
 |some q=>
  refine⟨⟨hok,hk⟩,fun W hW=>(hC W hW).mono fun e w' he=> ?_⟩;obtain⟨hb,⟨c,p,g,h1,h2,h3,h4⟩|⟨M,h1,_⟩⟩:=he
  ·rw[hk]at h1
   cases h1;exact⟨_,_,h2,⟨g,rfl,h3,h4⟩,(fun h=>by cases h),fun _=>rfl,hb⟩
  ·rw[hk]at h1;cases h1
theorem y0F{S:ByteArray}{rs:List Rl}(hS:S.size<=8192)(hp:Ux S=.inr rs)(h1:sz (pR qT cT rs)<=8192)(h2:dR rs<=24)(B g n cap:Nat)(W:World)(hr:RoR B (.slice (some ⟨g,0,none⟩) n cap) rs W)(hT:TabIs W):
  Qh W W.heap.size (some ⟨g,0,none⟩) n (toG rs)/\RgZ (toG rs)/\CkX (toG rs) (xOf (toG rs))/\CkC (some ⟨g,0,none⟩) n cap (toG rs) (xOf (toG rs)) W:=by
 have hx:∀x∈rs,Ruk Nmq x:=fun x hx=>(Sx hp x hx).1
 have hl:=Tv hp;have hi:=z3A hr (Tw (z3z hS hp)) hl.1;have hz:=(Hk (Fx rs) hx).2;have hT':=hT.lt;refine⟨hi,hz,Wx _ n cap (toG rs) W.heap.size W hz hi L0q hT' (Tf (Fx rs) hx hl.2 hl.1) (fun x hx'=>Nat.le_trans (Hd (Fx rs) hx x hx') h1) fun W' hW'=>Hm _ n cap (.string (cat (pR qT cT rs))) _ W' (hid fun W2 hW2=> ?_)⟩;have hb:Below W.heap.size W W2:=hW'.trans (hW2.mono hW'.size);have:=z9W hS hp B g n cap W2 (hr.below hb) (hT.below hb hT.lt);rw[Af h1 h2]at this;exact this
end Go.Proofs.YtjodljnddflgfaaGreatDoor
