/- Lemmas for the last text. Conditions: those that each names. -/
import Derived.Test.YtikfnaffiehpaaaGreatDoorVXR2ToXR4
set_option linter.unusedVariables false
set_option maxRecDepth 100000
set_option maxHeartbeats 8000000
namespace Go.Proofs.YtikfnaffiehpaaaGreatDoor
open Go.Proofs.Tryz
open Go.RowKit
theorem y1G(S:ByteArray)(w:World)(h0:bt S 0=some 91)(h1:bt S 1=some 94)(hS:S.size<=9007199254740992):
  Calls prog 92 #[.string S] w fun e w'=>e=.returned (rA (ng (mm S 2 0)))/\Below w.heap.size w w':=by
 obtain⟨hk0',hx0⟩:=Qj h0;have hz0:((S.size:Int) == 0)=false:=by rw[beq_eq_false_iff_ne];omega
 have hz0':¬S.size=0:=by omega
 have hkI0:(0:Int)<(S.size:Int):=by omega
 have hk0:2<=S.size:=(Qx h1).1;obtain⟨R,hR⟩:∃R,R=mm S 2 0:=⟨_,rfl⟩;rw[<-hR];have HR:Hid (mm S 2 0=R):=hR.symm;clear hR;obtain⟨hk1,hx1⟩:=Qj h1;have hk1I:(1:Int)<(S.size:Int):=by omega
 have d1:decide ((1:Int)<(S.size:Int))=true:=by simp;omega
 clear h0 h1;go_enter func92,ntmps92
 go_wp2_with fail
 go_loopw [6] (fun a wr=>∃(k acc:Nat),a=.int .i64 k/\k<=S.size/\Hid (mm S k acc=R)/\Hid (acc<2^256)/\Hid (Below w.heap.size w wr)/\Hid (Blk wr w.heap.size 0)/\Hid (Blk wr (w.heap.size+1) acc)) (fun a _=>S.size-(intOf a).toNat)
 case atStart=>
  refine⟨2,0,rfl,hk0,HR,hid (by decide+kernel),hid ((B0q.alloc L0q _).alloc (by simp) _),hid ((Blk.new0 w).alloc _),?_⟩;have h2:=Blk.new0 (w.alloc (.cells #[.int .u64 0,.int .u64 0,.int .u64 0,.int .u64 0] 27));rw[World.size_alloc]at h2;exact hid h2
 case round=>
  obtain⟨k,acc,rfl,hks,HM,HA,HB,HRb,HO⟩:=hrel;clear hx0;by_cases h93:bt S k=some 93
  ·obtain⟨hkk,hxk⟩:=Qj h93
   have hkI:(k:Int)<(S.size:Int):=by omega
   have a0:decide ((S.size:Int)<=(k:Int))=false:=by simp;omega
   have HRe:Hid (R=.inr (acc,k+1)):=by show _=_;rw[<-HM.out,Bd h93]
   have HN:Hid (((k+1:Nat):Int)=(k:Int)+1):=by show _=_;omega
   clear h93 HM;obtain⟨c0,c1,c2,c3⟩:=HO.out.cells
   go_wp2_with fail
   refine(y1E acc acc _ HA.out HA.out).mono ?_;rintro e w4 ⟨rfl,hb4⟩;have HB4:Hid (Below w.heap.size w w4):=HB.out.trans (hb4.mono HB.out.size);have HR4:Hid (Blk w4 w.heap.size 0):=HRb.out.below hb4 HRb.out.lt;have HO4:Hid (Blk w4 (w.heap.size+1) acc):=HO.out.below hb4 HO.out.lt;clear hb4 HB HRb HO c0 c1 c2 c3;obtain⟨c0,c1,c2,c3⟩:=HO4.out.cells;obtain⟨f0,f1,f2,f3⟩:=HO4.out.thaw;have HR5:Hid (Blk (st4 w4 (w.heap.size+1) (Zz acc)) w.heap.size 0):=HR4.out.other (by omega);obtain⟨d0,d1,d2,d3⟩:=HR5.out.cells;obtain⟨g0,g1,g2,g3⟩:=HR5.out.thaw;obtain⟨x0,x1,x2,x3⟩:=(HO4.out.st4 (Zz acc)).cells;obtain⟨r0,r1,r2,r3'⟩:=(HR5.out.st4 (Zz acc)).cells;have HBe:Hid (Below w.heap.size w (st4 (st4 w4 (w.heap.size+1) (Zz acc)) w.heap.size (Zz acc))):=Below.st4 (Below.st4 HB4.out (by omega) _) L0q _;unfold st4 at d0 d1 d2 d3 g0 g1 g2 g3 x0 x1 x2 x3 r0 r1 r2 r3';clear HR4 HR5 HO4;dsimp only[cv]
   go_wp2_with fail
   refine bodyPost_ret (v:=.tuple #[cv (Zz acc),.int .i64 ((k:Int)+1),.int .i64 0]) (by simp[results,Tryz.results92,go_sem,r0,r1,r2,r3']) rfl ?_;rw[HRe.out];exact⟨by unfold ng rA;simp only;rw[HN.out],HBe.out⟩
  ·cases hb0:bt S k with
   |none=>
    have hge:=Qm hb0;have a0:decide ((S.size:Int)<=(k:Int))=true:=by simp;omega
    obtain⟨c,hs⟩:∃c,sg S k=.inl c:=⟨flt S k,by unfold sg;rw[hb0]⟩;have hc0:(((c.1:Nat):Int) != 0)=true:=by have:=Bk hs;rw[bne_iff_ne];omega
    have HRe:Hid (R=.inl c):=by show _=_;rw[<-HM.out,Gj h93 (by unfold mbr;rw[hs])]
    have HS1:Hid (∀w:World,Calls prog 108 #[.string S,.int .i64 k] w fun e w'=>e=.returned (.tuple #[.int .i64 0,.int .i64 (c.2:Int),.int .i64 (c.1:Int)])/\w'=w):=fun w=>by have h:=Fz S k w hS;rw[hs]at h;exact h
    clear h93 HM hs hb0
    go_wp2_with fail
    refine(HS1.out _).mono ?_;rintro e w3 ⟨rfl,rfl⟩;obtain⟨c0,c1,c2,c3⟩:=HRb.out.cells;obtain⟨f0,f1,f2,f3⟩:=HRb.out.thaw;obtain⟨r0,r1,r2,r3'⟩:=HRb.out.zero;unfold z4 at r0 r1 r2 r3'
    go_wp2_with fail
    (try simp only[Exit.inBlock,Exit.then])
    refine bodyPost_ret (v:=.tuple #[.agg #[.int .u64 0,.int .u64 0,.int .u64 0,.int .u64 0],.int .i64 (c.2:Int),.int .i64 (c.1:Int)]) (by simp[results,Tryz.results92,go_sem,r0,r1,r2,r3']) rfl ?_;rw[HRe.out];refine⟨by unfold ng rA;simp only;rw[cv0];try rfl,?_⟩;have hbe:=Below.st4 HB.out L0q 0;rw[<-Gk]at hbe;exact hbe
   |some x=>
    have hxl:=(Qx hb0).2;obtain⟨hkk,hxk⟩:=Qj hb0;have hkI:(k:Int)<(S.size:Int):=by omega
    have a0:decide ((S.size:Int)<=(k:Int))=false:=by simp;omega
    have hx93:x≠93:=fun e=>h93 (by rw[hb0,e])
    have n93:((x:Int) != 93)=true:=by rw[bne_iff_ne];omega
    cases hs:sg S k with
    |inl c=>
     have hc0:(((c.1:Nat):Int) != 0)=true:=by have:=Bk hs;rw[bne_iff_ne];omega
     have HRe:Hid (R=.inl c):=by show _=_;rw[<-HM.out,Gj h93 (by unfold mbr;rw[hs])]
     have HS1:Hid (∀w:World,Calls prog 108 #[.string S,.int .i64 k] w fun e w'=>e=.returned (.tuple #[.int .i64 0,.int .i64 (c.2:Int),.int .i64 (c.1:Int)])/\w'=w):=fun w=>by have h:=Fz S k w hS;rw[hs]at h;exact h
     clear h93 HM hs hb0
     go_wp2_with fail
     refine(HS1.out _).mono ?_;rintro e w3 ⟨rfl,rfl⟩;obtain⟨c0,c1,c2,c3⟩:=HRb.out.cells;obtain⟨f0,f1,f2,f3⟩:=HRb.out.thaw;obtain⟨r0,r1,r2,r3'⟩:=HRb.out.zero;unfold z4 at r0 r1 r2 r3'
     go_wp2_with fail
     (try simp only[Exit.inBlock,Exit.then])
     refine bodyPost_ret (v:=.tuple #[.agg #[.int .u64 0,.int .u64 0,.int .u64 0,.int .u64 0],.int .i64 (c.2:Int),.int .i64 (c.1:Int)]) (by simp[results,Tryz.results92,go_sem,r0,r1,r2,r3']) rfl ?_;rw[HRe.out];refine⟨by unfold ng rA;simp only;rw[cv0];try rfl,?_⟩;have hbe:=Below.st4 HB.out L0q 0;rw[<-Gk]at hbe;exact hbe
    |inr q=>
     obtain⟨lo,n⟩:=q;have hok:=Ug hs;have HS1:Hid (∀w:World,Calls prog 108 #[.string S,.int .i64 k] w fun e w'=>e=.returned (.tuple #[.int .i64 lo,.int .i64 n,.int .i64 0])/\w'=w):=fun w=>by have h:=Fz S k w hS;rw[hs]at h;exact h
     cases hbn:bt S n with
     |none=>
      have hgn:=Qm hbn;have g0:decide ((n:Int)<(S.size:Int))=false:=by simp;omega
      have hmb:mbr S k=.inr (seg lo (lo+1),n):=by unfold mbr;rw[hs];simp only;rw[hbn,if_neg (by simp)]
      have hkn:k<n:=hok.2.1;have hNs:n<=S.size:=hok.2.2;have hlo:lo<256:=hok.1;have HM2:Hid (mm S n (acc|||seg lo (lo+1))=R):=by show _=_;rw[<-HM.out,Dw h93 hmb]
      have HA2:Hid (acc|||seg lo (lo+1)<2^256):=Nat.or_lt_two_pow HA.out (Ub hmb).1;clear h93 HM hs hb0 hbn hx93 hok hmb HA
      go_wp2_with fail
      refine(HS1.out _).mono ?_;rintro e w3 ⟨rfl,rfl⟩
      go_wp2_with fail
      go_loopw [12] (fun bv wq=>∃(b:Nat),bv=.int .i64 b/\lo<=b/\b<=lo+1/\Hid (Below w.heap.size w wq)/\Hid (Blk wq w.heap.size 0)/\Hid (Blk wq (w.heap.size+1) (acc|||seg lo b))) (fun bv _=>lo+1-(intOf bv).toNat)
      case atStart=>exact⟨lo,rfl,Nat.le_refl _,by omega,HB,HRb,by rw[Dk,Nat.or_zero];exact HO⟩
      case round=>
       obtain⟨b,rfl,hb1,hb2,HBq,HRq,HOq⟩:=hrel;by_cases hbh:b<=lo
       ·have lb:decide ((b:Int)<=(lo:Int))=true:=by simp;omega
        have HW:Hid (∀w:World,Calls prog 109 #[cv (acc|||seg lo b),.int .i64 b] w fun e w'=>e=.returned (cv (acc|||seg lo (b+1)))/\Below w.heap.size w w'):=fun w=>by have h:=Nz (acc|||seg lo b) b w (by omega);rw[Bx acc lo b hb1]at h;exact h
        obtain⟨c0,c1,c2,c3⟩:=HOq.out.cells
        go_wp2_with fail
        refine(HW.out _).mono ?_;rintro e w5 ⟨rfl,hb5⟩;have HB5:Hid (Below w.heap.size w w5):=HBq.out.trans (hb5.mono HBq.out.size);have HR5:Hid (Blk w5 w.heap.size 0):=HRq.out.below hb5 HRq.out.lt;have HO5:Hid (Blk w5 (w.heap.size+1) (acc|||seg lo b)):=HOq.out.below hb5 HOq.out.lt;clear hb5 HBq HRq HOq c0 c1 c2 c3;obtain⟨c0,c1,c2,c3⟩:=HO5.out.cells;obtain⟨f0,f1,f2,f3⟩:=HO5.out.thaw;dsimp only[cv]
        go_wp2_with fail
        go_roundw
        case rel=>exact⟨b+1,by go_num,by omega,by omega,hid (Below.st4 HB5.out (by omega) (acc|||seg lo (b+1))),hid (HR5.out.other (by omega)),hid (HO5.out.st4 _)⟩
        case measure=>simp[intOf];omega
       ·have lb:decide ((b:Int)<=(lo:Int))=false:=by simp;omega
        have HO6:=Bj HOq (show b=lo+1 by omega);clear HOq
        go_wp2_with fail
        go_roundw
        case rel=>exact⟨n,acc|||seg lo (lo+1),rfl,hNs,HM2,HA2,HBq,HRq,HO6⟩
        case measure=>simp[intOf];omega
     |some z=>
      have hzl:=(Qx hbn).2;obtain⟨hnk,hzk⟩:=Qj hbn;have hnI:(n:Int)<(S.size:Int):=by omega
      have g0:decide ((n:Int)<(S.size:Int))=true:=by simp;omega
      by_cases h45:z=45
      ·subst h45
       cases hs2:sg S (n+1)with
       |inl c=>
        have hc0:(((c.1:Nat):Int) != 0)=true:=by have:=Bk hs2;rw[bne_iff_ne];omega
        have HRe:Hid (R=.inl c):=by show _=_;rw[<-HM.out,Gj h93 (by unfold mbr;rw[hs];simp only;rw[hbn,if_pos rfl,hs2])]
        have HS2:Hid (∀w:World,Calls prog 108 #[.string S,.int .i64 ((n:Int)+1)] w fun e w'=>e=.returned (.tuple #[.int .i64 0,.int .i64 (c.2:Int),.int .i64 (c.1:Int)])/\w'=w):=fun w=>by have h:=Fz S (n+1) w hS;rw[hs2,show((n+1:Nat):Int)=(n:Int)+1 by omega]at h;exact h
        clear h93 HM hs hs2 hb0 hbn hx93
        go_wp2_with fail
        refine(HS1.out _).mono ?_;rintro e w3 ⟨rfl,rfl⟩
        go_wp2_with fail
        refine(HS2.out _).mono ?_;rintro e w3 ⟨rfl,rfl⟩;obtain⟨c0,c1,c2,c3⟩:=HRb.out.cells;obtain⟨f0,f1,f2,f3⟩:=HRb.out.thaw;obtain⟨r0,r1,r2,r3'⟩:=HRb.out.zero;unfold z4 at r0 r1 r2 r3'
        go_wp2_with fail
        (try simp only[Exit.inBlock,Exit.then])
        refine bodyPost_ret (v:=.tuple #[.agg #[.int .u64 0,.int .u64 0,.int .u64 0,.int .u64 0],.int .i64 (c.2:Int),.int .i64 (c.1:Int)]) (by simp[results,Tryz.results92,go_sem,r0,r1,r2,r3']) rfl ?_;rw[HRe.out];refine⟨by unfold ng rA;simp only;rw[cv0];try rfl,?_⟩;have hbe:=Below.st4 HB.out L0q 0;rw[<-Gk]at hbe;exact hbe
       |inr q2=>
        obtain⟨hi,n2⟩:=q2;have hok2:=Ug hs2;have HS2:Hid (∀w:World,Calls prog 108 #[.string S,.int .i64 ((n:Int)+1)] w fun e w'=>e=.returned (.tuple #[.int .i64 hi,.int .i64 n2,.int .i64 0])/\w'=w):=fun w=>by have h:=Fz S (n+1) w hS;rw[hs2,show((n+1:Nat):Int)=(n:Int)+1 by omega]at h;exact h
        by_cases hlt:hi<lo
        ·have HRe:Hid (R=.inl (4,k)):=by show _=_;rw[<-HM.out,Gj h93 (by unfold mbr;rw[hs];simp only;rw[hbn,if_pos rfl,hs2];simp only;rw[if_pos hlt])];rw[Gl hkk]
         have e1:decide ((hi:Int)<(lo:Int))=true:=by simp;omega
         clear h93 HM hs hs2 hb0 hbn hx93 hok hok2
         go_wp2_with fail
         refine(HS1.out _).mono ?_;rintro e w3 ⟨rfl,rfl⟩
         go_wp2_with fail
         refine(HS2.out _).mono ?_;rintro e w3 ⟨rfl,rfl⟩;obtain⟨c0,c1,c2,c3⟩:=HRb.out.cells;obtain⟨f0,f1,f2,f3⟩:=HRb.out.thaw;obtain⟨r0,r1,r2,r3'⟩:=HRb.out.zero;unfold z4 at r0 r1 r2 r3'
         go_wp2_with fail
         (try simp only[Exit.inBlock,Exit.then])
         refine bodyPost_ret (v:=.tuple #[.agg #[.int .u64 0,.int .u64 0,.int .u64 0,.int .u64 0],.int .i64 k,.int .i64 (4:Int)]) (by simp[results,Tryz.results92,go_sem,r0,r1,r2,r3']) rfl ?_;rw[HRe.out];refine⟨by unfold ng rA;simp only;rw[cv0];try rfl,?_⟩;have hbe:=Below.st4 HB.out L0q 0;rw[<-Gk]at hbe;exact hbe
        ·have e1:decide ((hi:Int)<(lo:Int))=false:=by simp;omega
         have e2:lo<=hi:=by omega
         have hhi:hi<256:=hok2.1;have hmb:mbr S k=.inr (seg lo (hi+1),n2):=by unfold mbr;rw[hs];simp only;rw[hbn,if_pos rfl,hs2];simp only;rw[if_neg hlt]
         have hkn:k<n2:=by omega
         have hNs:n2<=S.size:=hok2.2.2;have HM2:Hid (mm S n2 (acc|||seg lo (hi+1))=R):=by show _=_;rw[<-HM.out,Dw h93 hmb]
         have HA2:Hid (acc|||seg lo (hi+1)<2^256):=Nat.or_lt_two_pow HA.out (Ub hmb).1;clear h93 HM hs hs2 hb0 hbn hx93 hok hok2 hmb hlt HA
         go_wp2_with fail
         refine(HS1.out _).mono ?_;rintro e w3 ⟨rfl,rfl⟩
         go_wp2_with fail
         refine(HS2.out _).mono ?_;rintro e w3 ⟨rfl,rfl⟩
         go_wp2_with fail
         go_loopw [12] (fun bv wq=>∃(b:Nat),bv=.int .i64 b/\lo<=b/\b<=hi+1/\Hid (Below w.heap.size w wq)/\Hid (Blk wq w.heap.size 0)/\Hid (Blk wq (w.heap.size+1) (acc|||seg lo b))) (fun bv _=>hi+1-(intOf bv).toNat)
         case atStart=>exact⟨lo,rfl,Nat.le_refl _,by omega,HB,HRb,by rw[Dk,Nat.or_zero];exact HO⟩
         case round=>
          obtain⟨b,rfl,hb1,hb2,HBq,HRq,HOq⟩:=hrel;by_cases hbh:b<=hi
          ·have lb:decide ((b:Int)<=(hi:Int))=true:=by simp;omega
           have HW:Hid (∀w:World,Calls prog 109 #[cv (acc|||seg lo b),.int .i64 b] w fun e w'=>e=.returned (cv (acc|||seg lo (b+1)))/\Below w.heap.size w w'):=fun w=>by have h:=Nz (acc|||seg lo b) b w (by omega);rw[Bx acc lo b hb1]at h;exact h
           obtain⟨c0,c1,c2,c3⟩:=HOq.out.cells
           go_wp2_with fail
           refine(HW.out _).mono ?_;rintro e w5 ⟨rfl,hb5⟩;have HB5:Hid (Below w.heap.size w w5):=HBq.out.trans (hb5.mono HBq.out.size);have HR5:Hid (Blk w5 w.heap.size 0):=HRq.out.below hb5 HRq.out.lt;have HO5:Hid (Blk w5 (w.heap.size+1) (acc|||seg lo b)):=HOq.out.below hb5 HOq.out.lt;clear hb5 HBq HRq HOq c0 c1 c2 c3;obtain⟨c0,c1,c2,c3⟩:=HO5.out.cells;obtain⟨f0,f1,f2,f3⟩:=HO5.out.thaw;dsimp only[cv]
           go_wp2_with fail
           go_roundw
           case rel=>exact⟨b+1,by go_num,by omega,by omega,hid (Below.st4 HB5.out (by omega) (acc|||seg lo (b+1))),hid (HR5.out.other (by omega)),hid (HO5.out.st4 _)⟩
           case measure=>simp[intOf];omega
          ·have lb:decide ((b:Int)<=(hi:Int))=false:=by simp;omega
           have HO6:=Bj HOq (show b=hi+1 by omega);clear HOq
           go_wp2_with fail
           go_roundw
           case rel=>exact⟨n2,acc|||seg lo (hi+1),rfl,hNs,HM2,HA2,HBq,HRq,HO6⟩
           case measure=>simp[intOf];omega
      ·have n45:((z:Int) == 45)=false:=by rw[beq_eq_false_iff_ne];omega
       have hmb:mbr S k=.inr (seg lo (lo+1),n):=by unfold mbr;rw[hs];simp only;rw[hbn,if_neg (by simpa using h45)]
       have hkn:k<n:=hok.2.1;have hNs:n<=S.size:=hok.2.2;have hlo:lo<256:=hok.1;have HM2:Hid (mm S n (acc|||seg lo (lo+1))=R):=by show _=_;rw[<-HM.out,Dw h93 hmb]
       have HA2:Hid (acc|||seg lo (lo+1)<2^256):=Nat.or_lt_two_pow HA.out (Ub hmb).1;clear h93 HM hs hb0 hbn hx93 hok hmb HA
       go_wp2_with fail
       refine(HS1.out _).mono ?_;rintro e w3 ⟨rfl,rfl⟩
       go_wp2_with fail
       go_loopw [12] (fun bv wq=>∃(b:Nat),bv=.int .i64 b/\lo<=b/\b<=lo+1/\Hid (Below w.heap.size w wq)/\Hid (Blk wq w.heap.size 0)/\Hid (Blk wq (w.heap.size+1) (acc|||seg lo b))) (fun bv _=>lo+1-(intOf bv).toNat)
       case atStart=>exact⟨lo,rfl,Nat.le_refl _,by omega,HB,HRb,by rw[Dk,Nat.or_zero];exact HO⟩
       case round=>
        obtain⟨b,rfl,hb1,hb2,HBq,HRq,HOq⟩:=hrel;by_cases hbh:b<=lo
        ·have lb:decide ((b:Int)<=(lo:Int))=true:=by simp;omega
         have HW:Hid (∀w:World,Calls prog 109 #[cv (acc|||seg lo b),.int .i64 b] w fun e w'=>e=.returned (cv (acc|||seg lo (b+1)))/\Below w.heap.size w w'):=fun w=>by have h:=Nz (acc|||seg lo b) b w (by omega);rw[Bx acc lo b hb1]at h;exact h
         obtain⟨c0,c1,c2,c3⟩:=HOq.out.cells
         go_wp2_with fail
         refine(HW.out _).mono ?_;rintro e w5 ⟨rfl,hb5⟩;have HB5:Hid (Below w.heap.size w w5):=HBq.out.trans (hb5.mono HBq.out.size);have HR5:Hid (Blk w5 w.heap.size 0):=HRq.out.below hb5 HRq.out.lt;have HO5:Hid (Blk w5 (w.heap.size+1) (acc|||seg lo b)):=HOq.out.below hb5 HOq.out.lt;clear hb5 HBq HRq HOq c0 c1 c2 c3;obtain⟨c0,c1,c2,c3⟩:=HO5.out.cells;obtain⟨f0,f1,f2,f3⟩:=HO5.out.thaw;dsimp only[cv]
         go_wp2_with fail
         go_roundw
         case rel=>exact⟨b+1,by go_num,by omega,by omega,hid (Below.st4 HB5.out (by omega) (acc|||seg lo (b+1))),hid (HR5.out.other (by omega)),hid (HO5.out.st4 _)⟩
         case measure=>simp[intOf];omega
        ·have lb:decide ((b:Int)<=(lo:Int))=false:=by simp;omega
         have HO6:=Bj HOq (show b=lo+1 by omega);clear HOq
         go_wp2_with fail
         go_roundw
         case rel=>exact⟨n,acc|||seg lo (lo+1),rfl,hNs,HM2,HA2,HBq,HRq,HO6⟩
         case measure=>simp[intOf];omega
theorem y1H(S:ByteArray)(w:World)(h0:¬bt S 0=some 91)(hS:S.size<=9007199254740992):
  Calls prog 92 #[.string S] w fun e w'=>e=.returned (rA (.inl (flt S 0)))/\Below w.heap.size w w':=by
 unfold rA;simp only;rw[cv0];cases hb:bt S 0 with
 |none=>
  have hge:=Qm hb;have hz:((S.size:Int) == 0)=true:=by rw[beq_iff_eq];omega
  have hz':S.size=0:=by omega
  rw[Gc hge,hz'];clear h0 hb hge hz';go_enter func92,ntmps92
  go_wp2_with fail
  exact bodyPost_ret (v:=.tuple #[.agg #[.int .u64 0,.int .u64 0,.int .u64 0,.int .u64 0],.int .i64 0,.int .i64 3]) (by simp[results,Tryz.results92,go_sem]) rfl ⟨rfl,(B0q.alloc L0q _).alloc (by simp) _⟩
 |some x=>
  obtain⟨hk0,hx0⟩:=Qj hb;have hxl:=(Qx hb).2;have hz0:((S.size:Int) == 0)=false:=by rw[beq_eq_false_iff_ne];omega
  have hz0':¬S.size=0:=by omega
  have hkI0:(0:Int)<(S.size:Int):=by omega
  have n91:((x:Int) != 91)=true:=by rw[bne_iff_ne];intro e;exact h0 (by rw[hb];congr 1;omega)
  rw[Gl hk0];clear h0 hb;go_enter func92,ntmps92
  go_wp2_with fail
  exact bodyPost_ret (v:=.tuple #[.agg #[.int .u64 0,.int .u64 0,.int .u64 0,.int .u64 0],.int .i64 0,.int .i64 4]) (by simp[results,Tryz.results92,go_sem]) rfl ⟨rfl,(B0q.alloc L0q _).alloc (by simp) _⟩
theorem z4h(S:ByteArray)(w:World)(hS:S.size<=9007199254740992):
  Calls prog 92 #[.string S] w fun e w'=>e=.returned (rA (Xm S))/\Below w.heap.size w w':=by
 rw[Bp];by_cases h0:bt S 0=some 91
 ·rw[if_pos h0]
  by_cases h1:bt S 1=some 94
  ·rw[if_pos h1];exact y1G S w h0 h1 hS
  ·rw[if_neg h1];exact y1F S w h0 h1 hS
 ·rw[if_neg h0];exact y1H S w h0 hS
end Go.Proofs.YtikfnaffiehpaaaGreatDoor
