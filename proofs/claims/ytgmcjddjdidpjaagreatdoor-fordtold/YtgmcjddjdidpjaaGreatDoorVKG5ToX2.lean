/- Lemmas for the last text. Conditions: those that each names. -/
import Derived.Test.YtgmcjddjdidpjaaGreatDoorVKG3ToKG4
import Derived.Lib.Bytealg
import Derived.LaidEql
import Derived.Stop.Asserts
import Derived.RowKitTokens
set_option linter.unusedVariables false
set_option maxRecDepth 100000
set_option maxHeartbeats 4000000
namespace Go.Proofs.YtgmcjddjdidpjaaGreatDoor
open Go.Proofs.Tryz
open Go.RowKit
variable {S:ByteArray} {b k n x:Nat}
def Ans(r:Rs)(w:World)(e:Ending)(w':World):Prop:=
 match r with
 | .inr (C,n)=>e=.returned (.tuple #[cv C,.int .i64 n,.nilIface])/\Below w.heap.size w w'
 | .inl c=>Bad (cv 0) c w e w'
def ng(r:Rs):Rs:=
 match r with
 | .inl e=>.inl e
 | .inr (C,n)=>.inr (Zj C,n)
theorem z7b(S:ByteArray)(w:World)(h0:bt S 0=some 91)(h1:¬bt S 1=some 94)(hS:S.size<=9007199254740992):
  Calls prog 149 #[.string S] w fun e w'=>Ans (mm S 1 0) w e w':=by
 have H1:Hid (∀w:World,Calls prog 189 #[.string S,.int .i64 0,.int .u8 91] w fun e w'=>e=.returned (.bool true)/\Below w.heap.size w w'):=fun w=>Fd S 0 91 w h0 hS
 have H2:Hid (∀w:World,Calls prog 189 #[.string S,.int .i64 1,.int .u8 94] w fun e w'=>e=.returned (.bool false)/\Below w.heap.size w w'):=fun w=>Kg S 1 94 w (by omega) h1 hS
 have hk0:1<=S.size:=(Qb h0).1;obtain⟨R,hR⟩:∃R,R=mm S 1 0:=⟨_,rfl⟩;rw[<-hR];have HR:Hid (mm S 1 0=R):=hR.symm;clear h0 h1 hR;go_enter func149,ntmps149
 go_wp2_with fail
 refine(H1.out _).mono ?_;rintro e w1 ⟨rfl,hb1⟩;have HB1:Hid (Below w.heap.size w w1):=(B0q.alloc L0q _).trans (hb1.mono (by simp));have HK1:Hid (Blk w1 w.heap.size 0):=(Blk.new0 w).below hb1 (by simp);clear hb1
 go_wp2_with fail
 refine(H2.out _).mono ?_;rintro e w2 ⟨rfl,hb2⟩;have HB2:Hid (Below w.heap.size w w2):=HB1.out.trans (hb2.mono HB1.out.size);have HK2:Hid (Blk w2 w.heap.size 0):=HK1.out.below hb2 HK1.out.lt;have hlt2:w.heap.size<w2.heap.size:=HK2.out.lt;clear hb2 HK1 HB1
 go_wp2_with fail
 go_loopw [5] (fun a wr=>∃(k acc:Nat),a=.int .i64 k/\k<=S.size/\Hid (mm S k acc=R)/\Hid (acc<2^256)/\Hid (Below w.heap.size w wr)/\Hid (Blk wr w.heap.size 0)/\Hid (Blk wr w2.heap.size acc)) (fun a _=>S.size-(intOf a).toNat)
 case atStart=>exact⟨1,0,rfl,hk0,HR,hid (by decide+kernel),hid (HB2.out.alloc HB2.out.size _),hid (HK2.out.alloc _),hid (Blk.new0 w2)⟩
 case round=>
  obtain⟨k,acc,rfl,hks,HM,HA,HB,HRb,HO⟩:=hrel;by_cases h93:bt S k=some 93
  ·have hkk:k<S.size:=(Qb h93).1
   have HE:Hid (∀w:World,Calls prog 189 #[.string S,.int .i64 k,.int .u8 93] w fun e w'=>e=.returned (.bool true)/\Below w.heap.size w w'):=fun w=>Fd S k 93 w h93 hS
   have HRe:Hid (R=.inr (acc,k+1)):=by show _=_;rw[<-HM.out,Pp h93]
   have hn:((k+1:Nat):Int)=(k:Int)+1:=by omega
   have HN:Hid (((k+1:Nat):Int)=(k:Int)+1):=hn;clear h93 HM hn
   go_wp2_with fail
   refine(HE.out _).mono ?_;rintro e w3 ⟨rfl,hb3⟩;have HB3:Hid (Below w.heap.size w w3):=HB.out.trans (hb3.mono HB.out.size);have HR3:Hid (Blk w3 w.heap.size 0):=HRb.out.below hb3 HRb.out.lt;have HO3:Hid (Blk w3 w2.heap.size acc):=HO.out.below hb3 HO.out.lt;clear hb3 HB HRb HO;obtain⟨c0,c1,c2,c3⟩:=HO3.out.cells;obtain⟨d0,d1,d2,d3⟩:=HR3.out.cells;obtain⟨f0,f1,f2,f3⟩:=HR3.out.thaw;obtain⟨r0,r1,r2,r3⟩:=(HR3.out.st4 acc).cells;have HBe:Hid (Below w.heap.size w (st4 w3 w.heap.size acc)):=Below.st4 HB3.out L0q _;unfold st4 at r0 r1 r2 r3;clear HR3 HO3
   go_wp2_with fail
   refine bodyPost_ret (v:=.tuple #[cv acc,.int .i64 ((k:Int)+1),.nilIface]) (by simp[results,Tryz.results149,go_sem,r0,r1,r2,r3]) rfl ?_;rw[HRe.out];exact⟨by rw[HN.out],HBe.out⟩
  ·have HE:Hid (∀w:World,Calls prog 189 #[.string S,.int .i64 k,.int .u8 93] w fun e w'=>e=.returned (.bool false)/\Below w.heap.size w w'):=fun w=>Kg S k 93 w (by omega) h93 hS
   cases hm:mbr S k with
   |inl c=>
    have HRe:Hid (R=.inl c):=by show _=_;rw[<-HM.out,z0T h93 hm]
    have HTm:Hid (∀w:World,Calls prog 191 #[.string S,.int .i64 k] w fun e w'=>Bad (cv 0) c w e w'):=fun w=>z1d S k c w hm hS (by omega)
    rw[cv0]at HTm;clear h93 HM hm
    go_wp2_with fail
    refine(HE.out _).mono ?_;rintro e w3 ⟨rfl,hb3⟩;have HB3:Hid (Below w.heap.size w w3):=HB.out.trans (hb3.mono HB.out.size);have HR3:Hid (Blk w3 w.heap.size 0):=HRb.out.below hb3 HRb.out.lt;clear hb3 HB HRb HO
    go_wp2_with fail
    refine(HTm.out _).mono ?_;rintro e w4 ⟨p,rfl,HP⟩;have HB4:Hid (Below w.heap.size w w4):=HB3.out.trans (HP.out.2.2.mono HB3.out.size);have HR4:Hid (Blk w4 w.heap.size 0):=HR3.out.below HP.out.2.2 HR3.out.lt;have HQ:Hid (Up w w4 p c):=⟨Nat.le_trans HB3.out.size HP.out.1,fun e=>by have h1:=HR3.out.lt;have h2:=HP.out.1;omega,HP.out.2.1⟩;clear HP HB3 HR3;obtain⟨c0,c1,c2,c3⟩:=HR4.out.cells;obtain⟨f0,f1,f2,f3⟩:=HR4.out.thaw;have hl4:w.heap.size<w4.heap.size:=HR4.out.lt;obtain⟨r0,r1,r2,r3⟩:=HR4.out.zeroA (.cells #[.int .u64 0,.int .u64 0,.int .u64 0,.int .u64 0] 51);unfold z4 at r0 r1 r2 r3;unfold flv
    go_wp2_with fail
    (try simp only[Exit.inBlock,Exit.then])
    refine bodyPost_ret (v:=.tuple #[.agg #[.int .u64 0,.int .u64 0,.int .u64 0,.int .u64 0],.int .i64 0,.iface 81 (.pointer (some ⟨p,0,none⟩))]) (by simp[results,Tryz.results149,go_sem,r0,r1,r2,r3]) rfl ?_;rw[HRe.out];exact⟨p,by rw[cv0];rfl,z1c HB4.out L0q HQ.out.2.2 HQ.out.1 HQ.out.2.1 _⟩
   |inr q=>
    obtain⟨X,M⟩:=q;have hok:=Ky hm;have hkM:k<M:=hok.2.1;have hMs:M<=S.size:=hok.2.2;have HM2:Hid (mm S M (acc|||X)=R):=by show _=_;rw[<-HM.out,Pc h93 hm]
    have HA2:Hid (acc|||X<2^256):=Nat.or_lt_two_pow HA.out hok.1;have HTm:Hid (∀w:World,Calls prog 191 #[.string S,.int .i64 k] w fun e w'=>e=.returned (.tuple #[cv X,.int .i64 M,.nilIface])/\Below w.heap.size w w'):=fun w=>z1b S k X M w hm hS
    clear h93 HM hm hok HA
    go_wp2_with fail
    refine(HE.out _).mono ?_;rintro e w3 ⟨rfl,hb3⟩;have HB3:Hid (Below w.heap.size w w3):=HB.out.trans (hb3.mono HB.out.size);have HR3:Hid (Blk w3 w.heap.size 0):=HRb.out.below hb3 HRb.out.lt;have HO3:Hid (Blk w3 w2.heap.size acc):=HO.out.below hb3 HO.out.lt;clear hb3 HB HRb HO
    go_wp2_with fail
    refine(HTm.out _).mono ?_;rintro e w4 ⟨rfl,hb4⟩;have HB4:Hid (Below w.heap.size w w4):=HB3.out.trans (hb4.mono HB3.out.size);have HR4:Hid (Blk w4 w.heap.size 0):=HR3.out.below hb4 HR3.out.lt;have HO4:Hid (Blk w4 w2.heap.size acc):=HO3.out.below hb4 HO3.out.lt;clear hb4 HB3 HR3 HO3;obtain⟨c0,c1,c2,c3⟩:=HO4.out.cells;have hl4:w2.heap.size<w4.heap.size:=HO4.out.lt;dsimp only[cv]
    go_wp2_with fail
    refine(Py _ _ _).mono ?_;rintro e w5 ⟨rfl,hb5⟩;have hb5':Below w4.heap.size w4 w5:=(B0q.alloc L0q _).trans (hb5.mono (by simp));have HB5:Hid (Below w.heap.size w w5):=HB4.out.trans (hb5'.mono HB4.out.size);have HR5:Hid (Blk w5 w.heap.size 0):=HR4.out.below hb5' HR4.out.lt;have HO5:Hid (Blk w5 w2.heap.size acc):=HO4.out.below hb5' HO4.out.lt;clear hb5 hb5' HB4 HR4 HO4 c0 c1 c2 c3;obtain⟨c0,c1,c2,c3⟩:=HO5.out.cells;obtain⟨f0,f1,f2,f3⟩:=HO5.out.thaw;dsimp only[cv]
    go_wp2_with fail
    go_roundw
    case rel=>exact⟨M,acc|||X,rfl,hMs,HM2,HA2,hid (Below.st4 HB5.out (by omega) (acc|||X)),hid (HR5.out.other (by omega)),hid (HO5.out.st4 _)⟩
    case measure=>simp[intOf];omega
theorem z7c(S:ByteArray)(w:World)(h0:bt S 0=some 91)(h1:bt S 1=some 94)(hS:S.size<=9007199254740992):
  Calls prog 149 #[.string S] w fun e w'=>Ans (ng (mm S 2 0)) w e w':=by
 have H1:Hid (∀w:World,Calls prog 189 #[.string S,.int .i64 0,.int .u8 91] w fun e w'=>e=.returned (.bool true)/\Below w.heap.size w w'):=fun w=>Fd S 0 91 w h0 hS
 have H2:Hid (∀w:World,Calls prog 189 #[.string S,.int .i64 1,.int .u8 94] w fun e w'=>e=.returned (.bool true)/\Below w.heap.size w w'):=fun w=>Fd S 1 94 w h1 hS
 have hk0:2<=S.size:=(Qb h1).1;obtain⟨R,hR⟩:∃R,R=mm S 2 0:=⟨_,rfl⟩;rw[<-hR];have HR:Hid (mm S 2 0=R):=hR.symm;clear h0 h1 hR;go_enter func149,ntmps149
 go_wp2_with fail
 refine(H1.out _).mono ?_;rintro e w1 ⟨rfl,hb1⟩;have HB1:Hid (Below w.heap.size w w1):=(B0q.alloc L0q _).trans (hb1.mono (by simp));have HK1:Hid (Blk w1 w.heap.size 0):=(Blk.new0 w).below hb1 (by simp);clear hb1
 go_wp2_with fail
 refine(H2.out _).mono ?_;rintro e w2 ⟨rfl,hb2⟩;have HB2:Hid (Below w.heap.size w w2):=HB1.out.trans (hb2.mono HB1.out.size);have HK2:Hid (Blk w2 w.heap.size 0):=HK1.out.below hb2 HK1.out.lt;have hlt2:w.heap.size<w2.heap.size:=HK2.out.lt;clear hb2 HK1 HB1
 go_wp2_with fail
 go_loopw [5] (fun a wr=>∃(k acc:Nat),a=.int .i64 k/\k<=S.size/\Hid (mm S k acc=R)/\Hid (acc<2^256)/\Hid (Below w.heap.size w wr)/\Hid (Blk wr w.heap.size 0)/\Hid (Blk wr w2.heap.size acc)) (fun a _=>S.size-(intOf a).toNat)
 case atStart=>exact⟨2,0,rfl,hk0,HR,hid (by decide+kernel),hid (HB2.out.alloc HB2.out.size _),hid (HK2.out.alloc _),hid (Blk.new0 w2)⟩
 case round=>
  obtain⟨k,acc,rfl,hks,HM,HA,HB,HRb,HO⟩:=hrel;by_cases h93:bt S k=some 93
  ·have hkk:k<S.size:=(Qb h93).1
   have HE:Hid (∀w:World,Calls prog 189 #[.string S,.int .i64 k,.int .u8 93] w fun e w'=>e=.returned (.bool true)/\Below w.heap.size w w'):=fun w=>Fd S k 93 w h93 hS
   have HRe:Hid (R=.inr (acc,k+1)):=by show _=_;rw[<-HM.out,Pp h93]
   have hn:((k+1:Nat):Int)=(k:Int)+1:=by omega
   have HN:Hid (((k+1:Nat):Int)=(k:Int)+1):=hn;clear h93 HM hn
   go_wp2_with fail
   refine(HE.out _).mono ?_;rintro e w3 ⟨rfl,hb3⟩;have HB3:Hid (Below w.heap.size w w3):=HB.out.trans (hb3.mono HB.out.size);have HR3:Hid (Blk w3 w.heap.size 0):=HRb.out.below hb3 HRb.out.lt;have HO3:Hid (Blk w3 w2.heap.size acc):=HO.out.below hb3 HO.out.lt;clear hb3 HB HRb HO;obtain⟨c0,c1,c2,c3⟩:=HO3.out.cells
   go_wp2_with fail
   refine(Df _ HA.out _).mono ?_;rintro e w4 ⟨rfl,hb4⟩;have HB4:Hid (Below w.heap.size w w4):=HB3.out.trans (hb4.mono HB3.out.size);have HR4:Hid (Blk w4 w.heap.size 0):=HR3.out.below hb4 HR3.out.lt;have HO4:Hid (Blk w4 w2.heap.size acc):=HO3.out.below hb4 HO3.out.lt;clear hb4 HB3 HR3 HO3 c0 c1 c2 c3;obtain⟨c0,c1,c2,c3⟩:=HO4.out.cells;obtain⟨f0,f1,f2,f3⟩:=HO4.out.thaw;have HR5:Hid (Blk (st4 w4 w2.heap.size (Zj acc)) w.heap.size 0):=HR4.out.other (by omega);obtain⟨d0,d1,d2,d3⟩:=HR5.out.cells;obtain⟨g0,g1,g2,g3⟩:=HR5.out.thaw;obtain⟨x0,x1,x2,x3⟩:=(HO4.out.st4 (Zj acc)).cells;obtain⟨r0,r1,r2,r3⟩:=(HR5.out.st4 (Zj acc)).cells;have HBe:Hid (Below w.heap.size w (st4 (st4 w4 w2.heap.size (Zj acc)) w.heap.size (Zj acc))):=Below.st4 (Below.st4 HB4.out (by omega) _) L0q _;unfold st4 at d0 d1 d2 d3 g0 g1 g2 g3 x0 x1 x2 x3 r0 r1 r2 r3;clear HR4 HR5 HO4;dsimp only[cv]
   go_wp2_with fail
   refine bodyPost_ret (v:=.tuple #[cv (Zj acc),.int .i64 ((k:Int)+1),.nilIface]) (by simp[results,Tryz.results149,go_sem,r0,r1,r2,r3]) rfl ?_;rw[HRe.out];exact⟨by rw[HN.out],HBe.out⟩
  ·have HE:Hid (∀w:World,Calls prog 189 #[.string S,.int .i64 k,.int .u8 93] w fun e w'=>e=.returned (.bool false)/\Below w.heap.size w w'):=fun w=>Kg S k 93 w (by omega) h93 hS
   cases hm:mbr S k with
   |inl c=>
    have HRe:Hid (R=.inl c):=by show _=_;rw[<-HM.out,z0T h93 hm]
    have HTm:Hid (∀w:World,Calls prog 191 #[.string S,.int .i64 k] w fun e w'=>Bad (cv 0) c w e w'):=fun w=>z1d S k c w hm hS (by omega)
    rw[cv0]at HTm;clear h93 HM hm
    go_wp2_with fail
    refine(HE.out _).mono ?_;rintro e w3 ⟨rfl,hb3⟩;have HB3:Hid (Below w.heap.size w w3):=HB.out.trans (hb3.mono HB.out.size);have HR3:Hid (Blk w3 w.heap.size 0):=HRb.out.below hb3 HRb.out.lt;clear hb3 HB HRb HO
    go_wp2_with fail
    refine(HTm.out _).mono ?_;rintro e w4 ⟨p,rfl,HP⟩;have HB4:Hid (Below w.heap.size w w4):=HB3.out.trans (HP.out.2.2.mono HB3.out.size);have HR4:Hid (Blk w4 w.heap.size 0):=HR3.out.below HP.out.2.2 HR3.out.lt;have HQ:Hid (Up w w4 p c):=⟨Nat.le_trans HB3.out.size HP.out.1,fun e=>by have h1:=HR3.out.lt;have h2:=HP.out.1;omega,HP.out.2.1⟩;clear HP HB3 HR3;obtain⟨c0,c1,c2,c3⟩:=HR4.out.cells;obtain⟨f0,f1,f2,f3⟩:=HR4.out.thaw;have hl4:w.heap.size<w4.heap.size:=HR4.out.lt;obtain⟨r0,r1,r2,r3⟩:=HR4.out.zeroA (.cells #[.int .u64 0,.int .u64 0,.int .u64 0,.int .u64 0] 51);unfold z4 at r0 r1 r2 r3;unfold flv
    go_wp2_with fail
    (try simp only[Exit.inBlock,Exit.then])
    refine bodyPost_ret (v:=.tuple #[.agg #[.int .u64 0,.int .u64 0,.int .u64 0,.int .u64 0],.int .i64 0,.iface 81 (.pointer (some ⟨p,0,none⟩))]) (by simp[results,Tryz.results149,go_sem,r0,r1,r2,r3]) rfl ?_;rw[HRe.out];exact⟨p,by rw[cv0];rfl,z1c HB4.out L0q HQ.out.2.2 HQ.out.1 HQ.out.2.1 _⟩
   |inr q=>
    obtain⟨X,M⟩:=q;have hok:=Ky hm;have hkM:k<M:=hok.2.1;have hMs:M<=S.size:=hok.2.2;have HM2:Hid (mm S M (acc|||X)=R):=by show _=_;rw[<-HM.out,Pc h93 hm]
    have HA2:Hid (acc|||X<2^256):=Nat.or_lt_two_pow HA.out hok.1;have HTm:Hid (∀w:World,Calls prog 191 #[.string S,.int .i64 k] w fun e w'=>e=.returned (.tuple #[cv X,.int .i64 M,.nilIface])/\Below w.heap.size w w'):=fun w=>z1b S k X M w hm hS
    clear h93 HM hm hok HA
    go_wp2_with fail
    refine(HE.out _).mono ?_;rintro e w3 ⟨rfl,hb3⟩;have HB3:Hid (Below w.heap.size w w3):=HB.out.trans (hb3.mono HB.out.size);have HR3:Hid (Blk w3 w.heap.size 0):=HRb.out.below hb3 HRb.out.lt;have HO3:Hid (Blk w3 w2.heap.size acc):=HO.out.below hb3 HO.out.lt;clear hb3 HB HRb HO
    go_wp2_with fail
    refine(HTm.out _).mono ?_;rintro e w4 ⟨rfl,hb4⟩;have HB4:Hid (Below w.heap.size w w4):=HB3.out.trans (hb4.mono HB3.out.size);have HR4:Hid (Blk w4 w.heap.size 0):=HR3.out.below hb4 HR3.out.lt;have HO4:Hid (Blk w4 w2.heap.size acc):=HO3.out.below hb4 HO3.out.lt;clear hb4 HB3 HR3 HO3;obtain⟨c0,c1,c2,c3⟩:=HO4.out.cells;have hl4:w2.heap.size<w4.heap.size:=HO4.out.lt;dsimp only[cv]
    go_wp2_with fail
    refine(Py _ _ _).mono ?_;rintro e w5 ⟨rfl,hb5⟩;have hb5':Below w4.heap.size w4 w5:=(B0q.alloc L0q _).trans (hb5.mono (by simp));have HB5:Hid (Below w.heap.size w w5):=HB4.out.trans (hb5'.mono HB4.out.size);have HR5:Hid (Blk w5 w.heap.size 0):=HR4.out.below hb5' HR4.out.lt;have HO5:Hid (Blk w5 w2.heap.size acc):=HO4.out.below hb5' HO4.out.lt;clear hb5 hb5' HB4 HR4 HO4 c0 c1 c2 c3;obtain⟨c0,c1,c2,c3⟩:=HO5.out.cells;obtain⟨f0,f1,f2,f3⟩:=HO5.out.thaw;dsimp only[cv]
    go_wp2_with fail
    go_roundw
    case rel=>exact⟨M,acc|||X,rfl,hMs,HM2,HA2,hid (Below.st4 HB5.out (by omega) (acc|||X)),hid (HR5.out.other (by omega)),hid (HO5.out.st4 _)⟩
    case measure=>simp[intOf];omega
theorem z7d(S:ByteArray)(w:World)(h0:¬bt S 0=some 91)(hS:S.size<=9007199254740992):
  Calls prog 149 #[.string S] w fun e w'=>Bad (cv 0) (flt S 0) w e w':=by
 have H1:Hid (∀w:World,Calls prog 189 #[.string S,.int .i64 0,.int .u8 91] w fun e w'=>e=.returned (.bool false)/\Below w.heap.size w w'):=fun w=>Kg S 0 91 w (by omega) h0 hS
 obtain⟨c,hc⟩:∃c,c=flt S 0:=⟨_,rfl⟩;rw[<-hc];have HF:Hid (flt S 0=c):=hc.symm;clear h0 hc;rw[cv0];go_enter func149,ntmps149
 go_wp2_with fail
 refine(H1.out _).mono ?_;rintro e w1 ⟨rfl,hb1⟩;have HB1:Hid (Below w.heap.size w w1):=(B0q.alloc L0q _).trans (hb1.mono (by simp));have HK1:Hid (Blk w1 w.heap.size 0):=(Blk.new0 w).below hb1 (by simp);clear hb1
 go_wp2_with fail
 refine(Fm S 0 c w1 _ HF.out hS (by omega) B0q).mono ?_;rintro e w3 ⟨p,rfl,HP⟩;have HB3:Hid (Below w.heap.size w w3):=HB1.out.trans (HP.out.2.2.mono HB1.out.size);have HK3:Hid (Blk w3 w.heap.size 0):=HK1.out.below HP.out.2.2 HK1.out.lt;have HQ:Hid (Up w w3 p c):=⟨Nat.le_trans HB1.out.size HP.out.1,fun e=>by have h1:=HK1.out.lt;have h2:=HP.out.1;omega,HP.out.2.1⟩;clear HP HK1;obtain⟨c0,c1,c2,c3⟩:=HK3.out.cells;obtain⟨f0,f1,f2,f3⟩:=HK3.out.thaw;obtain⟨r0,r1,r2,r3⟩:=HK3.out.zero;unfold z4 at r0 r1 r2 r3;unfold flv
 go_wp2_with fail
 refine bodyPost_ret (v:=.tuple #[.agg #[.int .u64 0,.int .u64 0,.int .u64 0,.int .u64 0],.int .i64 0,.iface 81 (.pointer (some ⟨p,0,none⟩))]) (by simp[results,Tryz.results149,go_sem,r0,r1,r2,r3]) rfl ⟨p,rfl,Ac HB3.out L0q HQ.out.2.2 HQ.out.1 HQ.out.2.1⟩
theorem Rx(S:ByteArray):Vy S=if bt S 0=some 91 then(if bt S 1=some 94 then ng (mm S 2 0)else mm S 1 0)else .inl (flt S 0):=rfl
theorem z7e(S:ByteArray)(w:World)(hS:S.size<=9007199254740992):
  Calls prog 149 #[.string S] w fun e w'=>Ans (Vy S) w e w':=by
 rw[Rx];by_cases h0:bt S 0=some 91
 ·rw[if_pos h0]
  by_cases h1:bt S 1=some 94
  ·rw[if_pos h1];exact z7c S w h0 h1 hS
  ·rw[if_neg h1];exact z7b S w h0 h1 hS
 ·rw[if_neg h0];exact z7d S w h0 hS
theorem z1e{C:Nat}(h:Vy S=.inr (C,n)):C<2^256/\0<n/\n<=S.size:=by
 rw[Rx]at h;split at h
 ·split at h
  ·cases hm:mm S 2 0 with
   |inl e=>rw[hm]at h;cases h
   |inr q=>
    obtain⟨D,m⟩:=q;rw[hm]at h;have h1:=z0V (by decide+kernel) hm;simp only[ng,Sum.inr.injEq,Prod.mk.injEq]at h;refine⟨?_,by omega,by omega⟩;rw[<-h.1];unfold Zj Qj;omega
  ·have h1:=z0V (by decide+kernel) h
   exact⟨h1.1,by omega,h1.2.2⟩
 ·cases h
open Go.Extern.Stop Go.Stop Go.Extern
def Zf(x:Nat):Bool:=(decide (65<=x)&&decide (x<=90))||((decide (97<=x)&&decide (x<=122))||x == 95)
def Gl(x:Nat):Bool:=decide (48<=x)&&decide (x<=57)
def plB(x:Nat):Bool:=decide (32<=x)&&decide (x<=126)
theorem Fp(x:Nat)(v:Bool)(hv:Zf x=v)(w:World)(hx:x<256):
  Calls prog 98 #[.int .u8 x] w fun e w'=>e=.returned (.bool v)/\w'=w:=by
 subst hv;have hc:x<65∨(65<=x/\x<=90)∨(90<x/\x<95)∨x=95∨x=96∨(97<=x/\x<=122)∨122<x:=by omega
 rcases hc with h|h|h|h|h|h|h
 ·have hv:Zf x=false:=by unfold Zf;simp;omega
  have a1:decide (65<=(x:Int))=false:=by simp;omega
  have a3:decide (97<=(x:Int))=false:=by simp;omega
  have a5:((x:Int) == 95)=false:=by simp;omega
  rw[hv];clear h hv;go_enter func98,ntmps98
  go_wp2_with fail
  go_ret;exact⟨rfl,rfl⟩
 ·have hv:Zf x=true:=by unfold Zf;simp;omega
  have a1:decide (65<=(x:Int))=true:=by simp;omega
  have a2:decide ((x:Int)<=90)=true:=by simp;omega
  rw[hv];clear h hv;go_enter func98,ntmps98
  go_wp2_with fail
  go_ret;exact⟨rfl,rfl⟩
 ·have hv:Zf x=false:=by unfold Zf;simp;omega
  have a1:decide (65<=(x:Int))=true:=by simp;omega
  have a2:decide ((x:Int)<=90)=false:=by simp;omega
  have a3:decide (97<=(x:Int))=false:=by simp;omega
  have a5:((x:Int) == 95)=false:=by simp;omega
  rw[hv];clear h hv;go_enter func98,ntmps98
  go_wp2_with fail
  go_ret;exact⟨rfl,rfl⟩
 ·have hv:Zf x=true:=by unfold Zf;simp;omega
  have a1:decide (65<=(x:Int))=true:=by simp;omega
  have a2:decide ((x:Int)<=90)=false:=by simp;omega
  have a3:decide (97<=(x:Int))=false:=by simp;omega
  have a5:((x:Int) == 95)=true:=by simp;omega
  rw[hv];clear h hv;go_enter func98,ntmps98
  go_wp2_with fail
  go_ret;exact⟨rfl,rfl⟩
 ·have hv:Zf x=false:=by unfold Zf;simp;omega
  have a1:decide (65<=(x:Int))=true:=by simp;omega
  have a2:decide ((x:Int)<=90)=false:=by simp;omega
  have a3:decide (97<=(x:Int))=false:=by simp;omega
  have a5:((x:Int) == 95)=false:=by simp;omega
  rw[hv];clear h hv;go_enter func98,ntmps98
  go_wp2_with fail
  go_ret;exact⟨rfl,rfl⟩
 ·have hv:Zf x=true:=by unfold Zf;simp;omega
  have a1:decide (65<=(x:Int))=true:=by simp;omega
  have a2:decide ((x:Int)<=90)=false:=by simp;omega
  have a3:decide (97<=(x:Int))=true:=by simp;omega
  have a4:decide ((x:Int)<=122)=true:=by simp;omega
  rw[hv];clear h hv;go_enter func98,ntmps98
  go_wp2_with fail
  go_ret;exact⟨rfl,rfl⟩
 ·have hv:Zf x=false:=by unfold Zf;simp;omega
  have a1:decide (65<=(x:Int))=true:=by simp;omega
  have a2:decide ((x:Int)<=90)=false:=by simp;omega
  have a3:decide (97<=(x:Int))=true:=by simp;omega
  have a4:decide ((x:Int)<=122)=false:=by simp;omega
  have a5:((x:Int) == 95)=false:=by simp;omega
  rw[hv];clear h hv;go_enter func98,ntmps98
  go_wp2_with fail
  go_ret;exact⟨rfl,rfl⟩
theorem z1f(x:Nat)(v:Bool)(hv:Gl x=v)(w:World)(hx:x<256):
  Calls prog 185 #[.int .u8 x] w fun e w'=>e=.returned (.bool v)/\w'=w:=by
 subst hv;unfold Gl;by_cases h1:48<=x
 ·have a1:decide (48<=(x:Int))=true:=by simp;omega
  by_cases h2:x<=57
  ·have a2:decide ((x:Int)<=57)=true:=by simp;omega
   rw[decide_eq_true h1,decide_eq_true h2];clear h1 h2;go_enter func185,ntmps185
   go_wp2_with fail
   go_ret;exact⟨rfl,rfl⟩
  ·have a2:decide ((x:Int)<=57)=false:=by simp;omega
   rw[decide_eq_true h1,decide_eq_false h2];clear h1 h2;go_enter func185,ntmps185
   go_wp2_with fail
   go_ret;exact⟨rfl,rfl⟩
 ·have a1:decide (48<=(x:Int))=false:=by simp;omega
  rw[decide_eq_false h1];clear h1;go_enter func185,ntmps185
  go_wp2_with fail
  go_ret;exact⟨rfl,rfl⟩
theorem Hx(x:Nat)(v:Bool)(hv:plB x=v)(w:World)(hx:x<256):
  Calls prog 187 #[.int .u8 x] w fun e w'=>e=.returned (.bool v)/\w'=w:=by
 subst hv;unfold plB;by_cases h1:32<=x
 ·have a1:decide (32<=(x:Int))=true:=by simp;omega
  by_cases h2:x<=126
  ·have a2:decide ((x:Int)<=126)=true:=by simp;omega
   rw[decide_eq_true h1,decide_eq_true h2];clear h1 h2;go_enter func187,ntmps187
   go_wp2_with fail
   go_ret;exact⟨rfl,rfl⟩
  ·have a2:decide ((x:Int)<=126)=false:=by simp;omega
   rw[decide_eq_true h1,decide_eq_false h2];clear h1 h2;go_enter func187,ntmps187
   go_wp2_with fail
   go_ret;exact⟨rfl,rfl⟩
 ·have a1:decide (32<=(x:Int))=false:=by simp;omega
  rw[decide_eq_false h1];clear h1;go_enter func187,ntmps187
  go_wp2_with fail
  go_ret;exact⟨rfl,rfl⟩
theorem z7f(S:ByteArray)(k:Nat)(w:World)(hS:S.size<=9007199254740992)(hk:k<=9007199254740999):
  Calls prog 104 #[.string S,.int .i64 k] w fun e w'=>e=.returned (flv w.heap.size)/\Flt w' w.heap.size (flt S k)/\Below w.heap.size w w':=by
 by_cases h:S.size<=k
 ·have a0:decide ((S.size:Int)<=(k:Int))=true:=by simp;omega
  have HF:Hid (flt S k=(3,S.size)):=by show _=_;unfold flt;rw[if_pos h]
  go_enter func104,ntmps104
  go_wp2_with fail
  go_ret;rw[HF.out];exact⟨rfl,Flt.new w (3,S.size),B0q.alloc L0q _⟩
 ·have a0:decide ((S.size:Int)<=(k:Int))=false:=by simp;omega
  have HF:Hid (flt S k=(4,k)):=by show _=_;unfold flt;rw[if_neg h]
  go_enter func104,ntmps104
  go_wp2_with fail
  go_ret;rw[HF.out];exact⟨rfl,Flt.new w (4,k),B0q.alloc L0q _⟩
theorem Nl(S:ByteArray)(k:Nat)(c:Nat×Nat)(w0 w:World)(h:flt S k=c)(hS:S.size<=9007199254740992)(hk:k<=9007199254740999)(hb:Below w0.heap.size w0 w):
  Calls prog 104 #[.string S,.int .i64 k] w fun e w'=>∃p,e=.returned (flv p)/\Hid (w0.heap.size<=p/\Flt w' p c/\Below w0.heap.size w0 w'):=
 (z7f S k w hS hk).mono fun e w' ⟨h1,h2,h3⟩=>⟨_,h1,hb.size,h▸h2,hb.trans (h3.mono hb.size)⟩
theorem Rj(T:ByteArray)(x:Nat)(w:World):
  Calls prog 103 #[.string T,.int .u8 x] w fun e w'=>e=.returned (.int .i64 (Lib.indexByte T.data.toList x.toUInt8))/\w'=w:=by
 have hIB:= @run_callFunc_extern prog 192 _ Extern.BytealgIndexByte.indexByte func192 (by kernel_rfl) (by kernel_rfl) (by kernel_rfl) (by kernel_rfl);have hR:=Lib.run_indexByteString (P:=prog) T (x:Int);simp only[Int.toNat_natCast]at hR;go_enter func103,ntmps103
 go_wp2
 go_ret;exact⟨rfl,rfl⟩
def dgi(x:Nat):Int:=match dgv x with|some d=>(d:Int)|none=> -1
theorem z7g{d:Nat}(h:dgv x=some d):dgi x=(d:Int):=by unfold dgi;rw[h]
theorem z7h(h:dgv x=none):dgi x= -1:=by unfold dgi;rw[h]
theorem z7i:∀x:Nat,x<256->Lib.indexByte [48,49,50,51,52,53,54,55,56,57,97,98,99,100,101,102] x.toUInt8=dgi x:=by decide+kernel
def mkB(x:Nat):Bool:=x == 47||x == 38||x == 33||x == 63||x == 42||x == 43||x == 40||x == 41||x == 46
theorem z7j:∀x:Nat,x<256->decide (0<=Lib.indexByte [47,38,33,63,42,43,40,41,46] x.toUInt8)=mkB x:=by decide+kernel
def dgk(S:ByteArray)(k:Nat):Int:=match bt S k with|none=> -1|some x=>dgi x
theorem Al(S:ByteArray)(k:Nat)(w:World)(hS:S.size<=9007199254740992):
  Calls prog 244 #[.string S,.int .i64 k] w fun e w'=>e=.returned (.int .i64 (dgk S k))/\w'=w:=by
 unfold dgk;cases hx:bt S k with
 |none=>
  have hge:=Xj hx;have a0:decide ((S.size:Int)<=(k:Int))=true:=by simp;omega
  simp only;clear hx;go_enter func244,ntmps244
  go_wp2_with fail
  go_ret;exact⟨rfl,rfl⟩
 |some x=>
  have hxl:=(Qb hx).2;obtain⟨hk,hxx⟩:=Zd hx;have hkI:(k:Int)<(S.size:Int):=by omega
  have a0:decide ((S.size:Int)<=(k:Int))=false:=by simp;omega
  have HI:Hid (∀w:World,Calls prog 103 #[.string {data:=#[48,49,50,51,52,53,54,55,56,57,97,98,99,100,101,102]},.int .u8 x] w fun e w'=>e=.returned (.int .i64 (dgi x))/\w'=w):=fun w=>by
   have h:=Rj {data:=#[48,49,50,51,52,53,54,55,56,57,97,98,99,100,101,102]} x w;rw[show({data:=#[48,49,50,51,52,53,54,55,56,57,97,98,99,100,101,102]}:ByteArray).data.toList=[48,49,50,51,52,53,54,55,56,57,97,98,99,100,101,102]from rfl,z7i x hxl]at h;exact h
  simp only;clear hx;go_enter func244,ntmps244
  go_wp2_with fail
  refine(HI.out _).mono ?_;rintro e w1 ⟨rfl,rfl⟩
  go_wp2_with fail
  go_ret;exact⟨rfl,rfl⟩
theorem z1g(h:dg S k=none):dgk S k= -1:=by
 unfold dgk;unfold dg at h;cases hx:bt S k with
 |none=>rfl
 |some x=>rw[hx]at h;exact z7h h
theorem Rw{d:Nat}(h:dg S k=some d):dgk S k=(d:Int):=by
 unfold dgk;unfold dg at h;cases hx:bt S k with
 |none=>rw[hx]at h;cases h
 |some x=>rw[hx]at h;exact z7g h
def Vf(x:Nat):Option Nat:=if x=110 then some 10 else if x=114 then some 13 else if x=116 then some 9 else if x=92∨x=39∨x=34 then some x else none
def Jv(S:ByteArray)(k:Nat):Rs:=
 match bt S k with
 |none=>.inl (flt S k)
 |some x=>match Vf x with
  |some b=>.inr (b,k+1)
  |none=>if x=120 then digs S (k+1)else .inl (flt S k)
def lsg(S:ByteArray)(k:Nat):Rs:=
 match bt S k with
 |none=>.inl (flt S k)
 |some x=>if plB x=false then .inl (flt S k)else if x=92 then Jv S (k+1)else .inr (x,k+1)
theorem z7k(h:Vf x=some b)(hx:x<256):b<256:=by
 unfold Vf at h
 repeat(split at h;(simp at h;omega))
 cases h
theorem z1h(h:Jv S k=.inr (b,n)):b<256/\k<n/\n<=S.size:=by
 unfold Jv at h;split at h
 ·cases h
 ·rename_i x hx
  have h1:=Qb hx;split at h
  ·rename_i b' hb'
   simp at h;have:=z7k hb' h1.2;omega
  ·split at h
   ·obtain⟨q,r,hq,hr,rfl,rfl⟩:=Am h
    have a1:=Jk hq;have a2:=Jk hr;have:=a2.2.lt;omega
   ·cases h
theorem Mz(h:lsg S k=.inr (b,n)):b<256/\k<n/\n<=S.size:=by
 unfold lsg at h;split at h
 ·cases h
 ·rename_i x hx
  have h1:=Qb hx;split at h
  ·cases h
  ·split at h
   ·have:=z1h h;omega
   ·simp at h;omega
theorem z7l(S:ByteArray)(k b n:Nat)(w:World)(h:digs S k=.inr (b,n))(hS:S.size<=9007199254740992):
  Calls prog 222 #[.string S,.int .i64 k] w fun e w'=>e=.returned (.tuple #[.int .u8 b,.int .i64 n,.nilIface])/\Below w.heap.size w w':=by
 obtain⟨q,r,hq,hr,hb,hn⟩:=Am h;have hq1:=(Jk hq).1;have hr1:=(Jk hr).1;have hkl:=(Jk hq).2.lt;obtain⟨m,hm⟩:∃m,m=k+1:=⟨_,rfl⟩;have HD1:Hid (∀w:World,Calls prog 244 #[.string S,.int .i64 k] w fun e w'=>e=.returned (.int .i64 q)/\w'=w):=fun w=>by have h:=Al S k w hS;rw[Rw hq]at h;exact h
 have HD2:Hid (∀w:World,Calls prog 244 #[.string S,.int .i64 m] w fun e w'=>e=.returned (.int .i64 r)/\w'=w):=fun w=>by have h:=Al S m w hS;rw[Rw (by rw[hm];exact hr)]at h;exact h
 have i1:(k:Int)+1=(m:Int):=by omega
 have i2:(m:Int)+1=(n:Int):=by omega
 have i3:(k:Int)+2=(n:Int):=by omega
 have l1:decide ((k:Int)<(n:Int))=true:=by simp;omega
 have l2:decide ((m:Int)<(n:Int))=true:=by simp;omega
 have l1':k<n:=by omega
 have l2':m<n:=by omega
 have hq0:decide ((q:Int)<0)=false:=by simp
 have hr0:decide ((r:Int)<0)=false:=by simp
 have hqI:(q:Int)<=15:=by omega
 have hrI:(r:Int)<=15:=by omega
 have hbI:(b:Int)=(q:Int)*16+(r:Int):=by omega
 rw[hbI];have hn2:(n:Int)<=9007199254740994:=by omega
 clear h hq hr hb hn hm hbI;go_enter func222,ntmps222
 go_wp2_with fail
 refine wp_loop_rounds 3 ?_;rw[rounds_succ]
 go_wp2_with fail
 refine(HD1.out _).mono ?_;rintro e w1 ⟨rfl,rfl⟩
 go_wp2_with fail
 rw[rounds_succ]
 go_wp2_with fail
 refine(HD2.out _).mono ?_;rintro e w1 ⟨rfl,rfl⟩
 go_wp2_with fail
 rw[rounds_succ]
 go_wp2_with fail
 go_ret3
 exact⟨rfl,Below.refl _ _⟩
theorem z7m(S:ByteArray)(k:Nat)(c:Nat×Nat)(w:World)(h:digs S k=.inl c)(hS:S.size<=9007199254740992)(hk:k<=9007199254740995):
  Calls prog 222 #[.string S,.int .i64 k] w fun e w'=>Bad (.int .u8 0) c w e w':=by
 unfold digs at h;cases hq:dg S k with
 |none=>
  rw[hq]at h;simp at h;have HF:Hid (flt S k=c):=h;have HD1:Hid (∀w:World,Calls prog 244 #[.string S,.int .i64 k] w fun e w'=>e=.returned (.int .i64 (-1))/\w'=w):=fun w=>by have h:=Al S k w hS;rw[z1g hq]at h;exact h
  have hkI:(k:Int)<=9007199254740995:=by omega
  clear h hq;go_enter func222,ntmps222
  go_wp2_with fail
  refine wp_loop_rounds 1 ?_;rw[rounds_succ]
  go_wp2_with fail
  refine(HD1.out _).mono ?_;rintro e w1 ⟨rfl,rfl⟩
  go_wp2_with fail
  refine(Nl S k c w1 _ HF.out hS (by omega) B0q).mono ?_;rintro e w2 ⟨p,rfl,HP⟩;unfold flv
  go_wp2_with fail
  go_ret3
  exact⟨p,rfl,HP⟩
 |some q=>
  rw[hq]at h;simp only at h;have hq1:=(Jk hq).1;cases hr:dg S (k+1)with
  |some r=>rw[hr]at h;cases h
  |none=>
   rw[hr]at h;simp at h;obtain⟨m,hm⟩:∃m,m=k+1:=⟨_,rfl⟩;rw[<-hm]at h hr;have HF:Hid (flt S m=c):=h;have HD1:Hid (∀w:World,Calls prog 244 #[.string S,.int .i64 k] w fun e w'=>e=.returned (.int .i64 q)/\w'=w):=fun w=>by have h:=Al S k w hS;rw[Rw hq]at h;exact h
   have HD2:Hid (∀w:World,Calls prog 244 #[.string S,.int .i64 m] w fun e w'=>e=.returned (.int .i64 (-1))/\w'=w):=fun w=>by have h:=Al S m w hS;rw[z1g hr]at h;exact h
   have i1:(k:Int)+1=(m:Int):=by omega
   have i3:(k:Int)+2=(m:Int)+1:=by omega
   have l1:decide ((k:Int)<(m:Int)+1)=true:=by simp;omega
   have l2:decide ((m:Int)<(m:Int)+1)=true:=by simp;omega
   have hq0:decide ((q:Int)<0)=false:=by simp
   have hqI:(q:Int)<=15:=by omega
   have hmI:(m:Int)<=9007199254740996:=by omega
   have hmN:m<=9007199254740996:=by omega
   clear h hq hr hm;go_enter func222,ntmps222
   go_wp2_with fail
   refine wp_loop_rounds 2 ?_;rw[rounds_succ]
   go_wp2_with fail
   refine(HD1.out _).mono ?_;rintro e w1 ⟨rfl,rfl⟩
   go_wp2_with fail
   rw[rounds_succ]
   go_wp2_with fail
   refine(HD2.out _).mono ?_;rintro e w1 ⟨rfl,rfl⟩
   go_wp2_with fail
   refine(Nl S m c w1 _ HF.out hS (by omega) B0q).mono ?_;rintro e w2 ⟨p,rfl,HP⟩;unfold flv
   go_wp2_with fail
   go_ret3
   exact⟨p,rfl,HP⟩
theorem z7n(S:ByteArray)(m x b:Nat)(w:World)(hx0:bt S m=some x)(hv:Vf x=some b)(hS:S.size<=9007199254740992):
  Calls prog 188 #[.string S,.int .i64 m] w fun e w'=>e=.returned (.tuple #[.int .u8 b,.int .i64 ((m:Int)+1),.nilIface])/\Below w.heap.size w w':=by
 have hxl:=(Qb hx0).2;obtain⟨hk,hx⟩:=Zd hx0;have hkI:(m:Int)<(S.size:Int):=by omega
 have a0:decide ((S.size:Int)<=(m:Int))=false:=by simp;omega
 clear hx0;unfold Vf at hv;by_cases h110:x=110
 ·rw[if_pos h110]at hv
  obtain rfl:b=10:=by simpa using hv.symm
  have t110:((x:Int) == 110)=true:=by simp;omega
  clear hv h110;go_enter func188,ntmps188
  go_wp2_with fail
  go_ret3
  exact⟨rfl,Below.refl _ _⟩
 rw[if_neg h110]at hv;by_cases h114:x=114
 ·rw[if_pos h114]at hv
  obtain rfl:b=13:=by simpa using hv.symm
  have t110:((x:Int) == 110)=false:=by simp;omega
  have t114:((x:Int) == 114)=true:=by simp;omega
  clear hv h114;go_enter func188,ntmps188
  go_wp2_with fail
  go_ret3
  exact⟨rfl,Below.refl _ _⟩
 rw[if_neg h114]at hv;by_cases h116:x=116
 ·rw[if_pos h116]at hv
  obtain rfl:b=9:=by simpa using hv.symm
  have t110:((x:Int) == 110)=false:=by simp;omega
  have t114:((x:Int) == 114)=false:=by simp;omega
  have t116:((x:Int) == 116)=true:=by simp;omega
  clear hv h116;go_enter func188,ntmps188
  go_wp2_with fail
  go_ret3
  exact⟨rfl,Below.refl _ _⟩
 rw[if_neg h116]at hv;by_cases hq:x=92∨x=39∨x=34
 ·rw[if_pos hq]at hv
  obtain rfl:x=b:=by simpa using hv
  have t110:((x:Int) == 110)=false:=by simp;omega
  have t114:((x:Int) == 114)=false:=by simp;omega
  have t116:((x:Int) == 116)=false:=by simp;omega
  have hq2:((x:Int) == 92)=true∨(((x:Int) == 92)=false/\((x:Int) == 39)=true)∨(((x:Int) == 92)=false/\((x:Int) == 39)=false/\((x:Int) == 34)=true):=by simp;omega
  clear hv hq h110 h114 h116;rcases hq2 with q1|⟨q1,q2⟩|⟨q1,q2,q3⟩
  all_goals
   go_enter func188,ntmps188
   go_wp2_with fail
   go_ret3
   exact⟨rfl,Below.refl _ _⟩
 ·rw[if_neg hq]at hv;cases hv
theorem z1i(h:Vf x=none):x≠110/\x≠114/\x≠116/\x≠92/\x≠39/\x≠34:=by
 unfold Vf at h;refine⟨fun e=> ?_,fun e=> ?_,fun e=> ?_,fun e=> ?_,fun e=> ?_,fun e=> ?_⟩<;>(subst e;simp at h)
theorem z7o(S:ByteArray)(m b n:Nat)(w:World)(h:Jv S m=.inr (b,n))(hS:S.size<=9007199254740992):
  Calls prog 188 #[.string S,.int .i64 m] w fun e w'=>e=.returned (.tuple #[.int .u8 b,.int .i64 n,.nilIface])/\Below w.heap.size w w':=by
 unfold Jv at h;cases hx0:bt S m with
 |none=>rw[hx0]at h;cases h
 |some x=>
  rw[hx0]at h;simp only at h;cases hv:Vf x with
  |some b'=>
   rw[hv]at h;simp only[Sum.inr.injEq,Prod.mk.injEq]at h;obtain⟨rfl,rfl⟩:=h;have h2:=z7n S m x b' w hx0 hv hS;rw[show(m:Int)+1=((m+1:Nat):Int) by omega]at h2;exact h2
  |none=>
   rw[hv]at h;simp only at h;have hne:=z1i hv;by_cases h4:x=120
   ·rw[if_pos h4]at h
    have hxl:=(Qb hx0).2;obtain⟨hk,hx⟩:=Zd hx0;have hkI:(m:Int)<(S.size:Int):=by omega
    have a0:decide ((S.size:Int)<=(m:Int))=false:=by simp;omega
    have t110:((x:Int) == 110)=false:=by simp;omega
    have t114:((x:Int) == 114)=false:=by simp;omega
    have t116:((x:Int) == 116)=false:=by simp;omega
    have t92:((x:Int) == 92)=false:=by simp;omega
    have t39:((x:Int) == 39)=false:=by simp;omega
    have t34:((x:Int) == 34)=false:=by simp;omega
    have t120:((x:Int) == 120)=true:=by simp;omega
    have HD:Hid (∀w:World,Calls prog 222 #[.string S,.int .i64 ((m:Int)+1)] w fun e w'=>e=.returned (.tuple #[.int .u8 b,.int .i64 n,.nilIface])/\Below w.heap.size w w'):=fun w=>by
     have h:=z7l S (m+1) b n w h hS;rw[show((m+1:Nat):Int)=(m:Int)+1 by omega]at h;exact h
    clear h h4 hv hne hx0;go_enter func188,ntmps188
    go_wp2_with fail
    refine(HD.out _).mono ?_;rintro e w2 ⟨rfl,hb2⟩;have HB2:Hid (Below w.heap.size w w2):=hb2;clear hb2
    go_wp2_with fail
    go_ret3
    exact⟨rfl,HB2.out⟩
   ·rw[if_neg h4]at h
    cases h
theorem z7p(S:ByteArray)(m:Nat)(c:Nat×Nat)(w:World)(h:Jv S m=.inl c)(hS:S.size<=9007199254740992)(hm:m<=9007199254740994):
  Calls prog 188 #[.string S,.int .i64 m] w fun e w'=>Bad (.int .u8 0) c w e w':=by
 unfold Jv at h;cases hx0:bt S m with
 |none=>
  rw[hx0]at h;simp only[Sum.inl.injEq]at h;have hge:=Xj hx0;have a0:decide ((S.size:Int)<=(m:Int))=true:=by simp;omega
  have HF:Hid (flt S m=c):=h;clear h hx0;go_enter func188,ntmps188
  go_wp2_with fail
  refine(Nl S m c w _ HF.out hS (by omega) B0q).mono ?_;rintro e w2 ⟨p,rfl,HP⟩;unfold flv
  go_wp2_with fail
  go_ret3
  exact⟨p,rfl,HP⟩
 |some x=>
  rw[hx0]at h;simp only at h;have hxl:=(Qb hx0).2;obtain⟨hk,hx⟩:=Zd hx0;have hkI:(m:Int)<(S.size:Int):=by omega
  have a0:decide ((S.size:Int)<=(m:Int))=false:=by simp;omega
  clear hx0;cases hv:Vf x with
  |some b'=>rw[hv]at h;cases h
  |none=>
   rw[hv]at h;simp only at h;have hne:=z1i hv;have t110:((x:Int) == 110)=false:=by simp;omega
   have t114:((x:Int) == 114)=false:=by simp;omega
   have t116:((x:Int) == 116)=false:=by simp;omega
   have t92:((x:Int) == 92)=false:=by simp;omega
   have t39:((x:Int) == 39)=false:=by simp;omega
   have t34:((x:Int) == 34)=false:=by simp;omega
   by_cases h4:x=120
   ·rw[if_pos h4]at h
    have t120:((x:Int) == 120)=true:=by simp;omega
    have HD:Hid (∀w:World,Calls prog 222 #[.string S,.int .i64 ((m:Int)+1)] w fun e w'=>Bad (.int .u8 0) c w e w'):=fun w=>by
     have h:=z7m S (m+1) c w h hS (by omega);rw[show((m+1:Nat):Int)=(m:Int)+1 by omega]at h;exact h
    clear h h4 hv hne;go_enter func188,ntmps188
    go_wp2_with fail
    refine(HD.out _).mono ?_;rintro e w2 ⟨p,rfl,HP⟩;unfold flv
    go_wp2_with fail
    go_ret3
    exact⟨p,rfl,HP⟩
   ·rw[if_neg h4]at h
    simp only[Sum.inl.injEq]at h;have t120:((x:Int) == 120)=false:=by simp;omega
    have HF:Hid (flt S m=c):=h;clear h h4 hv hne;go_enter func188,ntmps188
    go_wp2_with fail
    refine(Nl S m c w _ HF.out hS (by omega) B0q).mono ?_;rintro e w2 ⟨p,rfl,HP⟩;unfold flv
    go_wp2_with fail
    go_ret3
    exact⟨p,rfl,HP⟩
theorem z7q(S:ByteArray)(k b n:Nat)(w:World)(h:lsg S k=.inr (b,n))(hS:S.size<=9007199254740992):
  Calls prog 148 #[.string S,.int .i64 k] w fun e w'=>e=.returned (.tuple #[.int .u8 b,.int .i64 n,.nilIface])/\Below w.heap.size w w':=by
 unfold lsg at h;cases hx0:bt S k with
 |none=>rw[hx0]at h;cases h
 |some x=>
  rw[hx0]at h;simp only at h;have hxl:=(Qb hx0).2;obtain⟨hk,hx⟩:=Zd hx0;have hkI:(k:Int)<(S.size:Int):=by omega
  have a0:decide ((S.size:Int)<=(k:Int))=false:=by simp;omega
  cases hp:plB x with
  |false=>rw[hp,if_pos rfl]at h;cases h
  |true=>
   rw[hp]at h;simp only[Bool.true_eq_false,if_false]at h;have HP:Hid (∀w:World,Calls prog 187 #[.int .u8 x] w fun e w'=>e=.returned (.bool true)/\w'=w):=fun w=>Hx x true hp w hxl
   by_cases h1:x=92
   ·rw[if_pos h1]at h
    have t92:((x:Int) == 92)=true:=by simp;omega
    have HE:Hid (∀w:World,Calls prog 188 #[.string S,.int .i64 ((k:Int)+1)] w fun e w'=>e=.returned (.tuple #[.int .u8 b,.int .i64 n,.nilIface])/\Below w.heap.size w w'):=fun w=>by
     have he:=z7o S (k+1) b n w h hS;rw[show((k+1:Nat):Int)=(k:Int)+1 by omega]at he;exact he
    clear h hx0 h1 hp;go_enter func148,ntmps148
    go_wp2_with fail
    refine(HP.out _).mono ?_;rintro e w1 ⟨rfl,rfl⟩
    go_wp2_with fail
    refine(HE.out _).mono ?_;rintro e w2 ⟨rfl,hb2⟩;have HB2:Hid (Below w1.heap.size w1 w2):=hb2;clear hb2
    go_wp2_with fail
    go_ret3
    exact⟨rfl,HB2.out⟩
   ·rw[if_neg h1]at h
    simp only[Sum.inr.injEq,Prod.mk.injEq]at h;obtain⟨rfl,rfl⟩:=h;have t92:((x:Int) == 92)=false:=by simp;omega
    have hNI:((k+1:Nat):Int)=(k:Int)+1:=by omega
    rw[hNI];clear hx0 h1 hp hNI;go_enter func148,ntmps148
    go_wp2_with fail
    refine(HP.out _).mono ?_;rintro e w1 ⟨rfl,rfl⟩
    go_wp2_with fail
    go_ret3
    exact⟨rfl,Below.refl _ _⟩
theorem z7r(S:ByteArray)(k:Nat)(c:Nat×Nat)(w:World)(h:lsg S k=.inl c)(hS:S.size<=9007199254740992)(hk9:k<=9007199254740993):
  Calls prog 148 #[.string S,.int .i64 k] w fun e w'=>Bad (.int .u8 0) c w e w':=by
 unfold lsg at h;cases hx0:bt S k with
 |none=>
  rw[hx0]at h;simp only[Sum.inl.injEq]at h;have hge:=Xj hx0;have a0:decide ((S.size:Int)<=(k:Int))=true:=by simp;omega
  have HF:Hid (flt S k=c):=h;clear h hx0;go_enter func148,ntmps148
  go_wp2_with fail
  refine(Nl S k c w _ HF.out hS (by omega) B0q).mono ?_;rintro e w2 ⟨p,rfl,HP⟩;unfold flv
  go_wp2_with fail
  go_ret3
  exact⟨p,rfl,HP⟩
 |some x=>
  rw[hx0]at h;simp only at h;have hxl:=(Qb hx0).2;obtain⟨hk,hx⟩:=Zd hx0;have hkI:(k:Int)<(S.size:Int):=by omega
  have a0:decide ((S.size:Int)<=(k:Int))=false:=by simp;omega
  cases hp:plB x with
  |false=>
   rw[hp,if_pos rfl]at h;simp only[Sum.inl.injEq]at h;have HF:Hid (flt S k=c):=h;have HP:Hid (∀w:World,Calls prog 187 #[.int .u8 x] w fun e w'=>e=.returned (.bool false)/\w'=w):=fun w=>Hx x false hp w hxl
   clear h hx0 hp;go_enter func148,ntmps148
   go_wp2_with fail
   refine(HP.out _).mono ?_;rintro e w1 ⟨rfl,rfl⟩
   go_wp2_with fail
   refine(Nl S k c w1 _ HF.out hS (by omega) B0q).mono ?_;rintro e w2 ⟨p,rfl,HQ⟩;unfold flv
   go_wp2_with fail
   go_ret3
   exact⟨p,rfl,HQ⟩
  |true=>
   rw[hp]at h;simp only[Bool.true_eq_false,if_false]at h;have HP:Hid (∀w:World,Calls prog 187 #[.int .u8 x] w fun e w'=>e=.returned (.bool true)/\w'=w):=fun w=>Hx x true hp w hxl
   by_cases h1:x=92
   ·rw[if_pos h1]at h
    have t92:((x:Int) == 92)=true:=by simp;omega
    have HE:Hid (∀w:World,Calls prog 188 #[.string S,.int .i64 ((k:Int)+1)] w fun e w'=>Bad (.int .u8 0) c w e w'):=fun w=>by
     have he:=z7p S (k+1) c w h hS (by omega);rw[show((k+1:Nat):Int)=(k:Int)+1 by omega]at he;exact he
    clear h hx0 h1 hp;go_enter func148,ntmps148
    go_wp2_with fail
    refine(HP.out _).mono ?_;rintro e w1 ⟨rfl,rfl⟩
    go_wp2_with fail
    refine(HE.out _).mono ?_;rintro e w2 ⟨p,rfl,HQ⟩;unfold flv
    go_wp2_with fail
    go_ret3
    exact⟨p,rfl,HQ⟩
   ·rw[if_neg h1]at h;cases h
end Go.Proofs.YtgmcjddjdidpjaaGreatDoor
