/- Lemmas for the last text. Conditions: those that each names. -/
import Derived.Test.YtlogolpcipiceaaGreatDoorVC1ToO4
set_option linter.unusedVariables false
set_option maxRecDepth 100000
set_option maxHeartbeats 8000000
namespace Go.Proofs.YtlogolpcipiceaaGreatDoor
open Go.Proofs.Tryz
open Go.RowKit Go.Shelf Go.Maps
attribute [local go_sem] Oper.semAt_some
theorem Rj{X Y:World}{row:Option Nat}{b:Nat}{cur:Array Value}{t:TypeId}(h:X.heap[b]? =some (.cells cur t))(hg:X.grownBy Y row)(hr:∀r,row=some r->∃o:Obj,X.heap[r]? =some o/\o.isCells=false):Y.heap[b]? =some (.cells cur t):=
 (hg.block b (Array.getElem?_eq_some_iff.1 h).1 (fun e=>by obtain⟨o,ho,hc⟩:=hr b e.symm;rw[h]at ho;cases ho;cases hc)).trans h
theorem z9q(so:Option Addr)(n cap:Nat)(rs:List Rr)(w:World)(h:Qv w w.heap.size so n rs)
  (hTg:5<w.heap.size)(HZ:Hid (RgZ rs))(HP:Hid (∀W:World,Below w.heap.size w W->Calls prog 233 #[.agg #[.slice so n cap]] W fun e w'=>e=.returned .nilIface/\Below W.heap.size W w'))(m:Nat):
  CallsIn Fence.wide (m+5) prog 199 #[.agg #[.slice so n cap]] w (CkP w rs):=by
 have hdd:=Xy;have hmm:=z9p;obtain⟨W0,hW0⟩:∃W0,W0=((w.alloc (.cells #[.slice so n cap] 24)).alloc (.cells #[.map none] 300)).alloc (.cells #[.nilIface] 33):=⟨_,rfl⟩;have hB0:Below w.heap.size w W0:=by rw[hW0];exact(((Below.refl _ w).alloc L0q _).alloc (by simp) _).alloc (by simp;omega) _
 have c1:W0.heap[w.heap.size]? =some (.cells #[.slice so n cap] 24):=by
  rw[hW0];exact(Below.heap_alloc _ _ _ (by simp;omega)).trans ((Below.heap_alloc _ _ _ (by simp)).trans (Qx w _ rfl))
 have c2:W0.heap[w.heap.size+1]? =some (.cells #[.map none] 300):=by
  rw[hW0];exact(Below.heap_alloc _ _ _ (by simp)).trans (Qx _ _ (by simp))
 have c3:W0.heap[w.heap.size+1+1]? =some (.cells #[.nilIface] 33):=by
  rw[hW0];exact Qx _ _ (by simp)
 have hs0:W0.heap.size=w.heap.size+1+1+1:=by rw[hW0];simp
 have HP0:=hid (HP.out W0 hB0);refine callsIn_of_wp_marks func199 rfl trivial ?_ rfl;simp only[ntmps199,List.size_toArray,List.length_cons,List.length_nil,Nat.reduceAdd,Nat.reduceSub,Array.replicate_succ,Array.replicate_zero,List.push_toArray,List.append_toArray,List.nil_append,List.cons_append]
 gi_wp2
 rw[<-hW0];clear hW0;refine⟨trivial,?_⟩;refine(callsIn_wide.2 HP0.out).mono ?_;rintro e W1 ⟨rfl,hb1⟩;have d1:=(hb1.block _ (by omega)).trans c1;have d2:=(hb1.block _ (by omega)).trans c2;have d3:=(hb1.block _ (by omega)).trans c3;have hs1:=hb1.size;clear HP0;obtain⟨e1,_⟩:=Qk d1;have hl1:w.heap.size<W1.heap.size:=by omega
 have HBw:Hid (Below w.heap.size w W1):=hB0.trans (hb1.mono hB0.size);obtain⟨M,hM⟩:∃M,M=W1.heap.size:=⟨_,rfl⟩;obtain⟨W2,hW2⟩:∃W2,W2=(W1.alloc (.map #[] 0)).alloc (.cells #[.map (some W1.heap.size)] 300):=⟨_,rfl⟩;have HPm:Hid (Pm W2 M []):=by
  rw[hW2,hM];exact(Pm.made W1).kept (World.grownBy_alloc _ _ none) (by simp)
 have HB2:Hid (Below w.heap.size w W2):=by
  rw[hW2];exact((HBw.out.alloc HBw.out.size _).alloc (by simp;omega) _)
 have HV:Hid (W2.heap[M+1]? =some (.cells #[.map (some M)] 300)):=by
  rw[hW2,hM];exact Qx _ _ (by simp)
 have H1:Hid (W2.heap[w.heap.size]? =some (.cells #[.slice so n cap] 24)):=by
  rw[hW2];exact(Below.heap_alloc _ _ _ (by simp;omega)).trans ((Below.heap_alloc _ _ _ (by omega)).trans d1)
 have H2:Hid (W2.heap[w.heap.size+1]? =some (.cells #[.map none] 300)):=by
  rw[hW2];exact(Below.heap_alloc _ _ _ (by simp;omega)).trans ((Below.heap_alloc _ _ _ (by omega)).trans d2)
 have H3:Hid (W2.heap[w.heap.size+1+1]? =some (.cells #[.nilIface] 33)):=by
  rw[hW2];exact(Below.heap_alloc _ _ _ (by simp;omega)).trans ((Below.heap_alloc _ _ _ (by omega)).trans d3)
 have HM:Hid (w.heap.size+1+1+1<=M):=by show _<=_;omega
 have HS2:Hid (W2.heap.size=M+1+1):=by show _=_;rw[hW2,hM];simp
 have hn6:n<=9223372036854775807:=by have:=h.2.1;unfold maxLen at this;omega
 have HR:=hid h;have HNl:Hid (n=rs.length):=h.1
 gi_wp2
 rw[<-hW2,<-hM];clear hW2 hM d1 d2 d3 e1 h hs0 hs1 hB0 c1 c2 c3 hb1 hl1 hmm
 gi_loopw [27] (fun i wr=>∃j:Nat,i=.int .i64 j/\j<=n/\Hid (Pm wr M (nmL (rs.take j)))/\Hid (Dx rs=Ym (nmL (rs.take j)) (rs.drop j))/\Hid (Kp3 w W2 M wr)) (fun i _=>n-(intOf i).toNat)
 case atStart=>exact⟨0,rfl,Nat.zero_le _,HPm,rfl,⟨HB2.out,Nat.le_of_eq HS2.out.symm,fun _ _=>rfl,rfl⟩⟩
 case round=>
  obtain⟨j,rfl,hj,HPj,HDj,HKj⟩:=hrel;by_cases hjn:j<n
  ·have hjI:(j:Int)<(n:Int):=by omega
   have a0:decide ((j:Int)<(n:Int))=true:=by simp;omega
   have hjs:j<rs.length:=by rw[<-HNl.out];exact hjn
   obtain⟨g,o,rfl,hg,k1,T1,a1,b1,c1,d1,so1,n1,cap1,p1,hrt,r0⟩:=HR.out.2.2 j hjs;have hce:∀q,wr.cell? ⟨g,q,none⟩=w.cell? ⟨g,q,none⟩:=fun q=>HKj.out.1.cell (p:=⟨g,q,none⟩) hg
   simp only[<-hce]at r0;obtain⟨z0,z1,z2,z3,z4,z5,z6,z7,z8,z9⟩:=r0;have hgl:g<wr.heap.size:=World.block_lt_of_cell? wr _ z0;obtain⟨N0,hN0⟩:∃N0,N0=rs[j].1:=⟨_,rfl⟩;obtain⟨q1,hq1⟩:∃q1,q1=rs[j].2.2:=⟨_,rfl⟩;rw[<-hN0]at z0;rw[<-hq1]at z9;have HV1:Hid (wr.heap[M+1]? =some (.cells #[.map (some M)] 300)):=HKj.out.2.2.2.trans HV.out;obtain⟨v1,_⟩:=Qk HV1.out;have hMl:M+1<wr.heap.size:=HKj.out.2.1;obtain⟨D,hown,hD⟩:=HPj.out;have hown1:=hown.alloc (.cells #[.string N0,.int .i64 k1,.string T1,.int .u64 a1,.int .u64 b1,.int .u64 c1,.int .u64 d1,.slice so1 n1 cap1,.int .i64 p1,.int .i64 q1] 73);have hsz:N0.size<=maxLen:=by rw[hN0];exact(HZ.out _ (List.getElem_mem hjs)).1
   have HN0:=hid hN0;have HQ1:=hid hq1;clear hce hN0 hq1;have hm:=HM.out;have y2:wr.heap[w.heap.size+1]? =some (.cells #[.map none] 300):=(HKj.out.2.2.1 _ (by omega)).trans H2.out;have y3:wr.heap[w.heap.size+1+1]? =some (.cells #[.nilIface] 33):=(HKj.out.2.2.1 _ (by omega)).trans H3.out;have l2:w.heap.size+1<wr.heap.size:=Qz y2;have l3:w.heap.size+1+1<wr.heap.size:=Qz y3;cases hin:inN N0 (nmL (rs.take j))with
   |true=>
    have hh:Maps.has D (kls N0)=true:=by rw[(hD N0).1,hin]
    gi_wp2_with (first
     |(gi_at_lookup;refine wpListIn_lookup_own_ok_int _ rfl _ _ 300 rfl 9 3 .i64 Fl Tryz.underlying300 Tryz.underlying3 (Mw _) M _ D rfl hown1 _ _ rfl (Dz hsz) ?_;intro cc hat hwc;rw[hh]))
    obtain⟨wa,hwa⟩:∃wa,wa=wr.alloc (.cells #[.string N0,.int .i64 k1,.string T1,.int .u64 a1,.int .u64 b1,.int .u64 c1,.int .u64 d1,.slice so1 n1 cap1,.int .i64 p1,.int .i64 q1] 73):=⟨_,rfl⟩;rw[<-hwa];have ya:wa.heap[wr.heap.size]? =some (.cells #[.string N0,.int .i64 k1,.string T1,.int .u64 a1,.int .u64 b1,.int .u64 c1,.int .u64 d1,.slice so1 n1 cap1,.int .i64 p1,.int .i64 q1] 73):=by rw[hwa];exact Qx _ _ rfl
    have y2':wa.heap[w.heap.size+1]? =some (.cells #[.map none] 300):=by rw[hwa];exact(Below.heap_alloc _ _ _ l2).trans y2
    have y3':wa.heap[w.heap.size+1+1]? =some (.cells #[.nilIface] 33):=by rw[hwa];exact(Below.heap_alloc _ _ _ l3).trans y3
    have HBa:Hid (Below w.heap.size w wa):=by rw[hwa];exact HKj.out.1.alloc HKj.out.1.size _
    have la:=Qz ya;have l2':=Qz y2';have l3':=Qz y3';obtain⟨⟨r0,r1,r2,r3,r4,r5,r6,r7,r8',r9⟩,_⟩:=Gg ya;obtain⟨x2,f2⟩:=Qk y2';obtain⟨x3,f3⟩:=Qk y3';clear hwa hown hown1 z0 z1 z2 z3 z4 z5 z6 z7 z8 z9 v1 r0 r1 r2 r3 r4 r5 r6 r7 r8' hat hwc hh
    gi_region
    gi_wp2
    have b2:Boxed wa (w.heap.size+1) 300 (.map none):=y2';have b3:Boxed wa (w.heap.size+1+1) 33 .nilIface:=y3';have d1:=(((b2.set (.map none)).other (B':=w.heap.size+1+1) (by omega) (.iface 95 (.pointer (some ⟨wa.heap.size,0,none⟩)))).alloc (.cells #[.int .i64 30,.int .i64 q1] 98)).cell;have d2:=(((b3.other (B':=w.heap.size+1) (by omega) (.map none)).set (.iface 95 (.pointer (some ⟨wa.heap.size,0,none⟩)))).alloc (.cells #[.int .i64 30,.int .i64 q1] 98)).cell;refine⟨.tuple #[.map none,.iface 95 (.pointer (some ⟨wa.heap.size,0,none⟩))],by simp[results,Tryz.f199,go_sem,d1,d2],?_,.inl ⟨30,q1,wa.heap.size,?_,rfl,HBa.out.size,?_⟩⟩
    ·exact(((HBa.out.setCell (p:=⟨w.heap.size+1,0,none⟩) (by show w.heap.size<=_+1;omega) _).setCell (p:=⟨w.heap.size+1+1,0,none⟩) (by show w.heap.size<=_+1+1;omega) _).alloc (by simp;exact HBa.out.size) _).drew
    ·unfold ckR
     rw[HDj.out,z2o _ _ j hjs,<-HN0.out,<-HQ1.out,hin];rfl
    ·exact Qx _ _ (by simp)
   |false=>
    have hh:Maps.has D (kls N0)=false:=by rw[(hD N0).1,hin]
    gi_wp2_with (first
     |(gi_at_lookup;refine wpListIn_lookup_own_ok_int _ rfl _ _ 300 rfl 9 3 .i64 Fl Tryz.underlying300 Tryz.underlying3 (Mw _) M _ D rfl hown1 _ _ rfl (Dz hsz) ?_;intro cc hat hwc;rw[hh])
     |(gi_at_mapUpdate;refine wpListIn_mapUpdate_own _ rfl _ _ _ 300 rfl 9 3 Fl Tryz.underlying300 _ M _ D rfl hown1 (by rw[nmL,List.length_map,List.length_take];unfold maxLen;omega) _ _ _ rfl rfl (Dz hsz) _ [] (plainElem_int Tryz.underlying3 (WalkArith.wf_i64 (by omega))) ?_;intro w1 hown2 hgr))
    have hlen:(nmL (rs.take j)).length=j:=by rw[nmL,List.length_map,List.length_take];omega
    refine⟨⟨j+1,by go_num,by omega,hid ?_,hid ?_,hid (HKj.out.step hgr (by omega))⟩,by simp[intOf];omega⟩
    ·show Pm _ _ _
     rw[z2p rs j hjs,<-HN0.out];exact Pm.put hD hown.isMap hin (by rw[hlen];rw[hlen]at hown2;exact hown2)
    ·show _=_
     rw[HDj.out,z2o _ _ j hjs,<-HN0.out,hin,z2p rs j hjs,<-HN0.out];rfl
  ·have a0:decide ((j:Int)<(n:Int))=false:=by simp;omega
   have hjn':rs.take j=rs:=List.take_of_length_le (by rw[<-HNl.out];omega);have hjd:rs.drop j=[]:=List.drop_eq_nil_of_le (by rw[<-HNl.out];omega);rw[hjn',hjd]at HDj;rw[hjn']at HPj;have hm:=HM.out;have y1:wr.heap[w.heap.size]? =some (.cells #[.slice so n cap] 24):=(HKj.out.2.2.1 _ (by omega)).trans H1.out;obtain⟨x1,f1⟩:=Qk y1;clear hjn' hjd
   gi_wp2
   clear x1 f1 y1 a0 hjn hj;refine wpIn_loop (fun a' w'=>∃(i:Nat) (v11 v54 v55 v56 v57 v58 v59 v75:Value) (ds:List Deferred),a'={tmps:=#[.agg #[.slice so n cap],.pointer (some ⟨w.heap.size,0,none⟩),.pointer (some ⟨w.heap.size+1,0,none⟩),.pointer (some ⟨w.heap.size+1+1,0,none⟩),.nilIface,.pointer (some ⟨M+1,0,none⟩),u6,u7,u8,u9,undef,v11,undef,undef,undef,.agg #[.slice so n cap],.nilIface,.nilIface,.bool false,undef,.pointer (some ⟨w.heap.size,0,none⟩),.slice so n cap,.int .i64 n,.map (some M),.pointer (some ⟨w.heap.size,0,none⟩),.slice so n cap,.int .i64 n,.int .i64 j,.bool false,u29,u30,u31,u32,u33,u34,u35,u36,u37,u38,u39,u40,u41,u42,u43,u44,u45,u46,u47,u48,u49,.pointer (some ⟨w.heap.size,0,none⟩),.slice so n cap,.int .i64 n,.int .i64 i,v54,v55,v56,v57,v58,v59,undef,undef,undef,undef,undef,undef,undef,undef,undef,undef,undef,undef,undef,undef,undef,v75,undef],defers:=ds}/\i<=n/\Hid (Pm w' M (nmL rs))/\Hid (Zp (nmL rs) (rfG (rs.take i))=none)/\Hid (Kp3 w W2 M w')/\Hid (Mks w.heap.size w'.heap.size ds w')) (fun a' _=>n-(intOf (a'.tmps.getD 53 undef)).toNat) ?_ ?_
   ·exact⟨0,undef,undef,undef,undef,undef,undef,undef,undef,[],rfl,Nat.zero_le _,HPj,by show _=_;rw[List.take_zero,rfG,Zp],HKj,trivial⟩
   ·rintro a' w3 ⟨i,v11,v54,v55,v56,v57,v58,v59,v75,ds,rfl,hi,HPi,HLi,HKi,HMi⟩
    have hm3:M+1<w3.heap.size:=HKi.out.2.1;have y2:w3.heap[w.heap.size+1]? =some (.cells #[.map none] 300):=(HKi.out.2.2.1 _ (by omega)).trans H2.out;have y3:w3.heap[w.heap.size+1+1]? =some (.cells #[.nilIface] 33):=(HKi.out.2.2.1 _ (by omega)).trans H3.out;have yM:w3.heap[M+1]? =some (.cells #[.map (some M)] 300):=HKi.out.2.2.2.trans HV.out;by_cases hin:i<n
    ·have hiI:(i:Int)<(n:Int):=by omega
     have a0:decide ((i:Int)<(n:Int))=true:=by simp;omega
     have his:i<rs.length:=by rw[<-HNl.out];exact hin
     obtain⟨g,o,rfl,hg,k1,T1,a1,b1,c1,d1,so1,n1,cap1,p1,hrt,r0⟩:=HR.out.2.2 i his;have hce:∀q,w3.cell? ⟨g,q,none⟩=w.cell? ⟨g,q,none⟩:=fun q=>HKi.out.1.cell (p:=⟨g,q,none⟩) hg
     simp only[<-hce]at r0;obtain⟨z0,z1,z2,z3,z4,z5,z6,z7,z8,z9⟩:=r0;have hgl:g<w3.heap.size:=World.block_lt_of_cell? w3 _ z0;obtain⟨N0,hN0⟩:∃N0,N0=rs[i].1:=⟨_,rfl⟩;obtain⟨q1,hq1⟩:∃q1,q1=rs[i].2.2:=⟨_,rfl⟩;rw[<-hN0]at z0;rw[<-hq1]at z9;have HRT:Hid (Qj w w.heap.size rs[i].2.1 (r8 k1 T1 a1 b1 c1 d1 so1 n1 cap1 p1)):=hrt;clear hN0 hq1 hce hrt
     gi_wp2_with (first
      |(refine⟨trivial,?_⟩;gi_at_call 234;refine(z9j _ k1 T1 a1 b1 c1 d1 so1 n1 cap1 p1 _).mono ?_;rintro e w4 ⟨rfl,rfl⟩))
     obtain⟨w5,hw5⟩:∃w5,w5=(w3.alloc (.cells #[.string N0,.int .i64 k1,.string T1,.int .u64 a1,.int .u64 b1,.int .u64 c1,.int .u64 d1,.slice so1 n1 cap1,.int .i64 p1,.int .i64 q1] 73)).alloc (.cells #[.int .i64 k1,.string T1,.int .u64 a1,.int .u64 b1,.int .u64 c1,.int .u64 d1,.slice so1 n1 cap1,.int .i64 p1] 71):=⟨_,rfl⟩;rw[<-hw5];have hb35:Below w3.heap.size w3 w5:=by rw[hw5];exact((Below.refl _ w3).alloc L0q _).alloc (by simp) _
     have hs5:w5.heap.size=w3.heap.size+1+1:=by rw[hw5];simp
     have hbn:w5.heap[w3.heap.size+1]? =some (.cells #[.int .i64 k1,.string T1,.int .u64 a1,.int .u64 b1,.int .u64 c1,.int .u64 d1,.slice so1 n1 cap1,.int .i64 p1] 71):=by rw[hw5];exact Qx _ _ (by simp)
     have HK5:Hid (Kp3 w W2 M w5):=HKi.out.below hb35 (by have:=HKi.out.1.size;omega) (by omega);have HP5:Hid (Pm w5 M (nmL rs)):=HPi.out.below hb35 (by omega);have HM5:Hid (Mks w.heap.size w3.heap.size ds w5):=HMi.out.below hb35;have hrt5:=HRT.out.below HK5.out.1;have hsw:w.heap.size<=w3.heap.size:=HKi.out.1.size;have HB2':Hid (∀W:World,Kp3 w W2 M W->Boxed W (w.heap.size+1) 300 (.map none)):=fun W hW=>(hW.2.2.1 _ (by omega)).trans H2.out
     have HB3':Hid (∀W:World,Kp3 w W2 M W->Boxed W (w.heap.size+1+1) 33 .nilIface):=fun W hW=>(hW.2.2.1 _ (by omega)).trans H3.out
     have HBM:Hid (∀W:World,Kp3 w W2 M W->Boxed W (M+1) 300 (.map (some M))):=fun W hW=>hW.2.2.2.trans HV.out
     clear hw5 hb35 z0 z1 z2 z3 z4 z5 z6 z7 z8 z9 y2 y3 yM;refine wpIn_rangeFunc_ownH rfl (by omega) (gf:=267) (lb:=#[.pointer (some ⟨w3.heap.size+1,0,none⟩)]) rfl trivial (enters_of func267 (by kernel_rfl) rfl)
      (z9i (s0:=w.heap.size) rs[i].2.1 k1 T1 a1 b1 c1 d1 so1 n1 cap1 p1 _ _ w5 hbn hrt5 (HZ.out _ (List.getElem_mem his)).2) Kt.trans (fun W' l o o' h1 h2 h3 h4=>Kt.book W' l o o' (by omega) h2 h3) B0q (fun _=>rfl)
      (fun pre W=>Pm W M (nmL rs)/\Kp3 w W2 M W/\Mks w.heap.size w3.heap.size ds W/\w5.heap.size<=W.heap.size/\Zp (nmL rs) (tps pre)=none)
      (fun c pre W=>c=.ret/\Below w.heap.size w W/\Mks w.heap.size w3.heap.size ds W/\w5.heap.size<=W.heap.size/\∃gf pf,Zp (nmL rs) (tps pre)=some pf/\Boxed W (w.heap.size+1) 300 (.map none)/\Boxed W (w.heap.size+1+1) 33 (.iface 95 (.pointer (some ⟨gf,0,none⟩)))/\w.heap.size<=gf/\W.heap[gf]? =some (.cells #[.int .i64 31,.int .i64 pf] 98))
      ?own ?ownx ⟨HP5.out,HK5.out,HM5.out,Nat.le_refl _,rfl⟩
      (fun x a' W=>∃b,a'={tmps:=#[.agg #[.slice (some ⟨g,o,none⟩) n cap],.pointer (some ⟨w.heap.size,0,none⟩),.pointer (some ⟨w.heap.size+1,0,none⟩),.pointer (some ⟨w.heap.size+1+1,0,none⟩),.nilIface,.pointer (some ⟨M+1,0,none⟩),u6,u7,u8,u9,undef,.pointer (some ⟨w3.heap.size,0,none⟩),.pointer (some ⟨b,0,none⟩),undef,undef,.agg #[.slice (some ⟨g,o,none⟩) n cap],.nilIface,.nilIface,.bool false,undef,.pointer (some ⟨w.heap.size,0,none⟩),.slice (some ⟨g,o,none⟩) n cap,.int .i64 n,.map (some M),.pointer (some ⟨w.heap.size,0,none⟩),.slice (some ⟨g,o,none⟩) n cap,.int .i64 n,.int .i64 j,.bool false,u29,u30,u31,u32,u33,u34,u35,u36,u37,u38,u39,u40,u41,u42,u43,u44,u45,u46,u47,u48,u49,.pointer (some ⟨w.heap.size,0,none⟩),.slice (some ⟨g,o,none⟩) n cap,.int .i64 n,.int .i64 i,.bool true,.pointer (some ⟨g,o+i*10,none⟩),.agg #[.string N0,.int .i64 k1,.string T1,.int .u64 a1,.int .u64 b1,.int .u64 c1,.int .u64 d1,.slice so1 n1 cap1,.int .i64 p1,.int .i64 q1],.pointer (some ⟨w3.heap.size,1,none⟩),.agg #[.int .i64 k1,.string T1,.int .u64 a1,.int .u64 b1,.int .u64 c1,.int .u64 d1,.slice so1 n1 cap1,.int .i64 p1],.func (.func 267) #[] #[.pointer (some ⟨w3.heap.size+1,0,none⟩)],x.v,undef,undef,undef,undef,undef,undef,undef,undef,undef,undef,undef,undef,undef,undef,v75,undef],defers:=[]}/\W.heap[b]? =some (.cells #[.int .i64 x.k,.string x.T,.int .u64 x.a,.int .u64 x.b,.int .u64 x.c,.int .u64 x.d,.slice x.so x.n x.cap,.int .i64 x.p] 71))
      ?ownA ?assign ?Qg ?done ?stop
     case own=>
      rintro pre X Y row ⟨h1,h2,h3,h4,h5⟩ hg hr;have hB:Below w5.heap.size X Y:=(Below.refl _ X).grown hg h4 (fun k e=>(hr k e).1);exact⟨h1.below hB (by omega),h2.below hB (by omega) (by omega),h3.below (hB.mono (by omega)),Nat.le_trans h4 hB.size,h5⟩
     case ownx=>
      rintro c pre X Y row ⟨h0,h1,h2,h3,gf,pf,h4,h5,h6,h7,h8⟩ hg hr;have hB:Below w5.heap.size X Y:=(Below.refl _ X).grown hg h3 (fun k e=>(hr k e).1);have hr':=fun r e=>(hr r e).2
      exact⟨h0,h1.trans (hB.mono (by omega)),h2.below (hB.mono (by omega)),Nat.le_trans h3 hB.size,gf,pf,h4,Vd h5 hg hr',Vd h6 hg hr',h7,Rj h8 hg hr'⟩
     case ownA=>
      rintro x a' _ X Y row ⟨b,h1,h2⟩ hg hr;exact⟨b,h1,Rj h2 hg (fun r e=>(hr r e).2)⟩
     case assign=>
      rintro l pre x W K ⟨h1,h2,h3,h4,h5⟩ hK;have hB:Below w5.heap.size W (W.alloc (.cells #[.int .i64 x.k,.string x.T,.int .u64 x.a,.int .u64 x.b,.int .u64 x.c,.int .u64 x.d,.slice x.so x.n x.cap,.int .i64 x.p] 71)):=(Below.refl _ W).alloc h4 _;have HK:=hid (hK {tmps:=#[.agg #[.slice (some ⟨g,o,none⟩) n cap],.pointer (some ⟨w.heap.size,0,none⟩),.pointer (some ⟨w.heap.size+1,0,none⟩),.pointer (some ⟨w.heap.size+1+1,0,none⟩),.nilIface,.pointer (some ⟨M+1,0,none⟩),u6,u7,u8,u9,undef,.pointer (some ⟨w3.heap.size,0,none⟩),.pointer (some ⟨W.heap.size,0,none⟩),undef,undef,.agg #[.slice (some ⟨g,o,none⟩) n cap],.nilIface,.nilIface,.bool false,undef,.pointer (some ⟨w.heap.size,0,none⟩),.slice (some ⟨g,o,none⟩) n cap,.int .i64 n,.map (some M),.pointer (some ⟨w.heap.size,0,none⟩),.slice (some ⟨g,o,none⟩) n cap,.int .i64 n,.int .i64 j,.bool false,u29,u30,u31,u32,u33,u34,u35,u36,u37,u38,u39,u40,u41,u42,u43,u44,u45,u46,u47,u48,u49,.pointer (some ⟨w.heap.size,0,none⟩),.slice (some ⟨g,o,none⟩) n cap,.int .i64 n,.int .i64 i,.bool true,.pointer (some ⟨g,o+i*10,none⟩),.agg #[.string N0,.int .i64 k1,.string T1,.int .u64 a1,.int .u64 b1,.int .u64 c1,.int .u64 d1,.slice so1 n1 cap1,.int .i64 p1,.int .i64 q1],.pointer (some ⟨w3.heap.size,1,none⟩),.agg #[.int .i64 k1,.string T1,.int .u64 a1,.int .u64 b1,.int .u64 c1,.int .u64 d1,.slice so1 n1 cap1,.int .i64 p1],.func (.func 267) #[] #[.pointer (some ⟨w3.heap.size+1,0,none⟩)],x.v,undef,undef,undef,undef,undef,undef,undef,undef,undef,undef,undef,undef,undef,undef,v75,undef],defers:=[]} (W.alloc (.cells #[.int .i64 x.k,.string x.T,.int .u64 x.a,.int .u64 x.b,.int .u64 x.c,.int .u64 x.d,.slice x.so x.n x.cap,.int .i64 x.p] 71)) (KeepsFrom.of_grownBy (World.grownBy_alloc W _ none) (fun j e=>by cases e)) (Kt.alloc W _) ⟨h1.below hB (by omega),h2.below hB (by omega) (by omega),h3.below (hB.mono (by omega)),Nat.le_trans h4 hB.size,h5⟩ ⟨W.heap.size,rfl,Qx W _ rfl⟩);clear hK h1 h2 h3 h4 h5 hB
      gi_wp2
      exact HK.out
     case Qg=>
      rintro l pre x a' W hl ⟨r,hr⟩ ⟨h1,h2,h3,h4,h5⟩ ⟨b,rfl,hb⟩ hlt;have hsz:x.T.size<=maxLen:=x.z;have bM:=HBM.out W h2;have cM:=bM.cell;have b2:=HB2'.out W h2;have b3:=HB3'.out W h2;have x2:=b2.cell;have x3:=b3.cell;have e2:=b2.frozen;have e3:=b3.frozen;have l2:=b2.lt;have l3:=b3.lt;obtain⟨⟨c0,c1',c2,c3,c4,c5,c6,c7⟩,_⟩:=Qw hb;have lb:=Qz hb;obtain⟨D,hown,hD⟩:=h1;have et:tps (pre++[x])=tps pre++[(x.T,x.p)]:=by rw[Ph];rfl
      cases hk:inN x.T (nmL rs)with
      |true=>
       have hh:Maps.has D (kls x.T)=true:=by rw[(hD x.T).1,hk]
       have hl5:Zp (nmL rs) (tps (pre++[x]))=none:=by
        rw[et,Kz,h5];simp only[Zp];rw[if_pos hk]
       gi_wp2_with (first
        |(gi_at_lookup;refine wpListIn_lookup_own_ok_int _ rfl _ _ 300 rfl 9 3 .i64 Fl Tryz.underlying300 Tryz.underlying3 (Mw _) M _ D rfl hown _ _ rfl (Dz hsz) ?_;intro cc hat hwc;rw[hh]))
       exact⟨KeepsFrom.refl _ _,Kt.refl _,⟨D,hown,hD⟩,h2,h3,h4,hl5⟩
      |false=>
       have hh:Maps.has D (kls x.T)=false:=by rw[(hD x.T).1,hk]
       have hl5:Zp (nmL rs) (tps (pre++[x]))=some x.p:=by
        rw[et,Kz,h5];simp only[Zp];rw[if_neg (by rw[hk];decide)]
       have hKO:KeepsOthers W (((W.setCell ⟨w.heap.size+1,0,none⟩ (.map none)).setCell ⟨w.heap.size+1+1,0,none⟩ (.iface 95 (.pointer (some ⟨W.heap.size,0,none⟩)))).alloc (.cells #[.int .i64 31,.int .i64 x.p] 98)):=((KeepsOthers.setCell _ _ _).trans (KeepsOthers.setCell _ _ _)).trans (KeepsOthers.of_grownBy (World.grownBy_alloc _ _ none) (fun j o e=>by cases e));have HF:Hid (KeepsFrom w5.heap.size W (((W.setCell ⟨w.heap.size+1,0,none⟩ (.map none)).setCell ⟨w.heap.size+1+1,0,none⟩ (.iface 95 (.pointer (some ⟨W.heap.size,0,none⟩)))).alloc (.cells #[.int .i64 31,.int .i64 x.p] 98)).drew/\(Below w.heap.size w (((W.setCell ⟨w.heap.size+1,0,none⟩ (.map none)).setCell ⟨w.heap.size+1+1,0,none⟩ (.iface 95 (.pointer (some ⟨W.heap.size,0,none⟩)))).alloc (.cells #[.int .i64 31,.int .i64 x.p] 98)).drew/\Mks w.heap.size w3.heap.size ds (((W.setCell ⟨w.heap.size+1,0,none⟩ (.map none)).setCell ⟨w.heap.size+1+1,0,none⟩ (.iface 95 (.pointer (some ⟨W.heap.size,0,none⟩)))).alloc (.cells #[.int .i64 31,.int .i64 x.p] 98)).drew/\w5.heap.size<=(((W.setCell ⟨w.heap.size+1,0,none⟩ (.map none)).setCell ⟨w.heap.size+1+1,0,none⟩ (.iface 95 (.pointer (some ⟨W.heap.size,0,none⟩)))).alloc (.cells #[.int .i64 31,.int .i64 x.p] 98)).drew.heap.size/\∃gf pf,Zp (nmL rs) (tps (pre++[x]))=some pf/\Boxed (((W.setCell ⟨w.heap.size+1,0,none⟩ (.map none)).setCell ⟨w.heap.size+1+1,0,none⟩ (.iface 95 (.pointer (some ⟨W.heap.size,0,none⟩)))).alloc (.cells #[.int .i64 31,.int .i64 x.p] 98)).drew (w.heap.size+1) 300 (.map none)/\Boxed (((W.setCell ⟨w.heap.size+1,0,none⟩ (.map none)).setCell ⟨w.heap.size+1+1,0,none⟩ (.iface 95 (.pointer (some ⟨W.heap.size,0,none⟩)))).alloc (.cells #[.int .i64 31,.int .i64 x.p] 98)).drew (w.heap.size+1+1) 33 (.iface 95 (.pointer (some ⟨gf,0,none⟩)))/\w.heap.size<=gf/\(((W.setCell ⟨w.heap.size+1,0,none⟩ (.map none)).setCell ⟨w.heap.size+1+1,0,none⟩ (.iface 95 (.pointer (some ⟨W.heap.size,0,none⟩)))).alloc (.cells #[.int .i64 31,.int .i64 x.p] 98)).drew.heap[gf]? =some (.cells #[.int .i64 31,.int .i64 pf] 98))):=by
        refine⟨⟨(hKO.from w5.heap.size).size,(hKO.from w5.heap.size).same⟩,?_,?_,Nat.le_trans h4 hKO.size,W.heap.size,x.p,hl5,?_,?_,h2.1.size,?_⟩
        ·exact(((h2.1.setCell (p:=⟨w.heap.size+1,0,none⟩) (by show w.heap.size<=_+1;omega) _).setCell (p:=⟨w.heap.size+1+1,0,none⟩) (by show w.heap.size<=_+1+1;omega) _).alloc (by simp;exact h2.1.size) _).drew
        ·exact h3.kept fun D hD e=>hKO.same D _ e rfl
        ·exact((b2.set (.map none)).other (B':=w.heap.size+1+1) (by omega) _).alloc _
        ·exact((b3.other (B':=w.heap.size+1) (by omega) (.map none)).set _).alloc _
        ·exact Qx _ _ (by simp)
       clear h2 h3 h4 h5 hKO hl5 hD
       gi_wp2_with (first
        |(gi_at_lookup;refine wpListIn_lookup_own_ok_int _ rfl _ _ 300 rfl 9 3 .i64 Fl Tryz.underlying300 Tryz.underlying3 (Mw _) M _ D rfl hown _ _ rfl (Dz hsz) ?_;intro cc hat hwc;rw[hh]))
       gi_region
       all_goals gi_wp2
       all_goals exact⟨HF.out.1,rfl,HF.out.2⟩
     case done=>
      rintro D ys W hD hys ⟨h1,h2,h3,h4,h5⟩ hK;have HI2:Hid (Zp (nmL rs) (rfG (rs.take (i+1)))=none):=by
       show _=_;rw[z9o rs i his,Kz,HLi.out,<-hys,h5]
      have HM2:Hid (Mks w.heap.size W.heap.size ({target:=.collected D,args:=#[]}::ds) W):=⟨D,rfl,by omega,Qz hK,hK,h3.mono (by omega)⟩;have HP2:=hid h1;have HK2:=hid h2;clear h1 h2 h3 h4 h5 hK hys hD
      gi_wp2
      refine⟨⟨i+1,_,_,_,_,_,_,_,_,_,rfl,by omega,HP2,HI2,HK2,HM2⟩,?_⟩;simp[intOf];omega
     case stop=>
      rintro D c pre W hD hpre ⟨rfl,h1,h2,h3,gf,pf,h4,h5,h6,h7,h8⟩ hK;have hc:ckR rs=some (31,pf):=by
       unfold ckR;rw[HDj.out,Ym];dsimp only;obtain⟨r,hr⟩:=hpre;have e:rfG rs=rfG (rs.take i)++(tps pre++(r++rfG (rs.drop (i+1)))):=by
        conv=>lhs;rw[<-List.take_append_drop i rs,Rx,List.drop_eq_getElem_cons his,rfG,<-hr]
        simp
       rw[e,Kz,HLi.out];simp only;rw[Kz,h4]
      have HM2:Mks w.heap.size W.heap.size ({target:=.collected D,args:=#[]}::ds) W:=⟨D,rfl,by omega,Qz hK,hK,h2.mono (by omega)⟩
      gi_wp2
      refine Ez _ _ _ HM2 fun w' hk=> ?_
      have d1:=(hk.box h5).cell;have d2:=(hk.box h6).cell;exact⟨.tuple #[.map none,.iface 95 (.pointer (some ⟨gf,0,none⟩))],by simp[results,Tryz.f199,go_sem,d1,d2],h1.trans hk.1,.inl ⟨31,pf,gf,hc,rfl,h7,hk.2 _ _ h8 (fun l e=>by cases e)⟩⟩
    ·have a0:decide ((i:Int)<(n:Int))=false:=by simp;omega
     have hjn':rs.take i=rs:=List.take_of_length_le (by rw[<-HNl.out];omega);rw[hjn']at HLi;obtain⟨x2,e2⟩:=Qk y2;obtain⟨x3,e3⟩:=Qk y3;obtain⟨xM,eM⟩:=Qk yM;have l2:=Qz y2;have l3:=Qz y3;clear hjn'
     gi_wp2
     have b2:Boxed w3 (w.heap.size+1) 300 (.map none):=y2;have b3:Boxed w3 (w.heap.size+1+1) 33 .nilIface:=y3;have hKO:KeepsOthers w3 ((w3.setCell ⟨w.heap.size+1,0,none⟩ (.map (some M))).setCell ⟨w.heap.size+1+1,0,none⟩ .nilIface):=(KeepsOthers.setCell _ _ _).trans (KeepsOthers.setCell _ _ _);refine Ez ds w3.heap.size _ (HMi.out.kept fun D hD e=>hKO.same D _ e rfl) fun w' hk=> ?_
     have d1:=(hk.box ((b2.set (.map (some M))).other (B':=w.heap.size+1+1) (by omega) .nilIface)).cell;have d2:=(hk.box ((b3.other (B':=w.heap.size+1) (by omega) (.map (some M))).set .nilIface)).cell;refine⟨.tuple #[.map (some M),.nilIface],by simp[results,Tryz.f199,go_sem,d1,d2],?_,.inr ⟨M,?_,rfl,by have:=HM.out;omega,hk.pm ?_⟩⟩
     ·exact((HKi.out.1.setCell (p:=⟨w.heap.size+1,0,none⟩) (by show w.heap.size<=_+1;omega) _).setCell (p:=⟨w.heap.size+1+1,0,none⟩) (by show w.heap.size<=_+1+1;omega) _).trans hk.1
     ·unfold ckR
      rw[HDj.out,Ym];dsimp only;rw[HLi.out]
     ·exact(HPi.out.kept (grownBy_setCell' _ _ _) (by simp;omega)).kept (grownBy_setCell' _ _ _) (by simp;omega)
end Go.Proofs.YtlogolpcipiceaaGreatDoor
