/- Lemmas for the last text. Conditions: those that each names. -/
import Derived.Test.YtikfnaffiehpaaaGreatDoorVXR1ToQ6
import Derived.Test.YtikfnaffiehpaaaGreatDoorVQ1ToQ2
import Derived.Test.YtikfnaffiehpaaaGreatDoorVXK2
set_option linter.unusedVariables false
set_option maxRecDepth 100000
set_option maxHeartbeats 8000000
namespace Go.Proofs.YtikfnaffiehpaaaGreatDoor
open Go.Proofs.Tryz
open Go.RowKit
def low(f:Nat->Bool):Nat->Nat
 |0=>0
 |b+1=>if f b then low f b|||2^b else low f b
theorem z0j(f:Nat->Bool)(j:Nat):∀b,(low f b).testBit j=(decide (j<b)&&f j)
 |0=>by simp[low]
 |b+1=>by
  rw[low];by_cases hf:f b=true
  ·rw[if_pos hf,Nat.testBit_or,z0j f j b,Nat.testBit_two_pow]
   by_cases h1:b=j
   ·subst h1;simp[hf]
   ·by_cases h2:j<b
    ·simp[h1,h2,show j<b+1 by omega]
    ·simp[h1,h2,show ¬j<b+1 by omega]
  ·rw[if_neg hf,z0j f j b]
   by_cases h1:b=j
   ·subst h1;simp[hf]
   ·by_cases h2:j<b
    ·simp[h2,show j<b+1 by omega]
    ·simp[h2,show ¬j<b+1 by omega]
theorem y1D(f:Nat->Bool)(C:Nat)(hC:C<2^256)(h:∀j,j<256->f j=C.testBit j):low f 256=C:=by
 apply Nat.eq_of_testBit_eq;intro j;rw[z0j];by_cases hj:j<256
 ·simp[hj,h j hj]
 ·rw[Nat.testBit_lt_two_pow (Nat.lt_of_lt_of_le hC (Nat.pow_le_pow_right (by decide) (by omega)))]
  simp[hj]
theorem y1E(C D:Nat)(w:World)(hC:C<2^256)(hD:D<2^256):
  Calls prog 110 #[.int .i64 2,cv C,cv D] w fun e w'=>e=.returned (cv (Zz C))/\Below w.heap.size w w':=by
 obtain⟨f,hf⟩:∃f:Nat->Bool,f=fun b=>(!C.testBit b):=⟨_,rfl⟩
 have hfin:low f 256=Zz C:=y1D f _ (z5d C) (fun j hj=>by rw[hf];simp[Hw C hC,hj]);have HF:Hid (low f 256=Zz C):=hfin;have HF':Hid (f=fun b=>(!C.testBit b)):=hf;clear hf hfin;unfold cv;go_enter func110,ntmps110
 go_wp2_with fail
 go_loopw [8] (fun i wr=>∃b:Nat,b<=256/\i=.int .i64 b/\Hid (Below w.heap.size w wr)/\Hid (Cl wr w.heap.size C)/\Hid (Cl wr (w.heap.size+1) D)/\Hid (Blk wr (w.heap.size+1+1) 0)/\Hid (Blk wr (w.heap.size+1+1+1) (low f b))) (fun i _=>256-(intOf i).toNat)
 case atStart=>
  refine⟨0,by omega,rfl,hid ((((B0q.alloc L0q _).alloc (by simp) _).alloc (by simp<;>omega) _).alloc (by simp<;>omega) _),hid ((((Cl.new w C rfl).alloc _).alloc _).alloc _),hid (((Cl.new _ D (by simp)).alloc _).alloc _),hid ?_,hid ?_⟩
  ·refine Blk.alloc ?_ _
   simpa using Blk.new0 ((w.alloc (.cells #[.int .u64 (wd C 0),.int .u64 (wd C 1),.int .u64 (wd C 2),.int .u64 (wd C 3)] 27)).alloc (.cells #[.int .u64 (wd D 0),.int .u64 (wd D 1),.int .u64 (wd D 2),.int .u64 (wd D 3)] 27))
  ·rw[show low f 0=0 from rfl]
   simpa using Blk.new0 (((w.alloc (.cells #[.int .u64 (wd C 0),.int .u64 (wd C 1),.int .u64 (wd C 2),.int .u64 (wd C 3)] 27)).alloc (.cells #[.int .u64 (wd D 0),.int .u64 (wd D 1),.int .u64 (wd D 2),.int .u64 (wd D 3)] 27)).alloc (.cells #[.int .u64 0,.int .u64 0,.int .u64 0,.int .u64 0] 27))
 case round=>
  obtain⟨b,hb1,rfl,HB,HC,HD,HR,HG⟩:=hrel;by_cases hbh:b<256
  ·obtain⟨c0,c1,c2,c3⟩:=HC.out
   cases hx:C.testBit b
   ·cases hy:D.testBit b
    ·have hl:low f (b+1)=low f b|||2^b:=by rw[low,HF'.out];simp[hx]
     have HL:Hid (low f (b+1)=low f b|||2^b):=hl;clear hl
     go_wp2_with fail
     refine(Fl _ _ _ _ hx hbh).mono ?_;rintro e w1 ⟨rfl,hb3⟩;have HC1:Hid (Cl w1 w.heap.size C):=HC.out.below hb3;have HD1:Hid (Cl w1 (w.heap.size+1) D):=HD.out.below hb3;have HR1:Hid (Blk w1 (w.heap.size+1+1) 0):=HR.out.below hb3 HR.out.lt;have HG1:Hid (Blk w1 (w.heap.size+1+1+1) (low f b)):=HG.out.below hb3 HG.out.lt;have HB1:Hid (Below w.heap.size w w1):=HB.out.trans (hb3.mono HB.out.size);clear hb3 c0 c1 c2 c3 HC HD HR HG HB;obtain⟨d0,d1,d2,d3⟩:=HD1.out
     go_wp2_with fail
     refine(Fl _ _ _ _ hy hbh).mono ?_;rintro e w2 ⟨rfl,hb3⟩;have HC2:Hid (Cl w2 w.heap.size C):=HC1.out.below hb3;have HD2:Hid (Cl w2 (w.heap.size+1) D):=HD1.out.below hb3;have HR2:Hid (Blk w2 (w.heap.size+1+1) 0):=HR1.out.below hb3 HR1.out.lt;have HG2:Hid (Blk w2 (w.heap.size+1+1+1) (low f b)):=HG1.out.below hb3 HG1.out.lt;have HB2:Hid (Below w.heap.size w w2):=HB1.out.trans (hb3.mono HB1.out.size);clear hb3 d0 d1 d2 d3 HC1 HD1 HR1 HG1 HB1;obtain⟨c0,c1,c2,c3⟩:=HG2.out.cells
     go_wp2_with fail
     refine(Nz _ _ _ hbh).mono ?_;rintro e w3 ⟨rfl,hb3⟩;have HC3:Hid (Cl w3 w.heap.size C):=HC2.out.below hb3;have HD3:Hid (Cl w3 (w.heap.size+1) D):=HD2.out.below hb3;have HR3:Hid (Blk w3 (w.heap.size+1+1) 0):=HR2.out.below hb3 HR2.out.lt;have HG3:Hid (Blk w3 (w.heap.size+1+1+1) (low f b)):=HG2.out.below hb3 HG2.out.lt;have HB3:Hid (Below w.heap.size w w3):=HB2.out.trans (hb3.mono HB2.out.size);clear hb3 c0 c1 c2 c3 HC2 HD2 HR2 HG2 HB2;obtain⟨c0,c1,c2,c3⟩:=HG3.out.cells;obtain⟨f0,f1,f2,f3⟩:=HG3.out.thaw;rw[<-HL.out];dsimp only[cv]
     go_wp2_with fail
     go_roundw
     case rel=>exact⟨b+1,by omega,by go_num,hid (Below.st4 HB3.out (by omega) (low f (b+1))),hid (HC3.out.st4 (by omega) _),hid (HD3.out.st4 (by omega) _),hid (HR3.out.other (by omega)),hid (HG3.out.st4 _)⟩
     case measure=>simp[intOf];omega
    ·have hl:low f (b+1)=low f b|||2^b:=by rw[low,HF'.out];simp[hx]
     have HL:Hid (low f (b+1)=low f b|||2^b):=hl;clear hl
     go_wp2_with fail
     refine(Fl _ _ _ _ hx hbh).mono ?_;rintro e w1 ⟨rfl,hb3⟩;have HC1:Hid (Cl w1 w.heap.size C):=HC.out.below hb3;have HD1:Hid (Cl w1 (w.heap.size+1) D):=HD.out.below hb3;have HR1:Hid (Blk w1 (w.heap.size+1+1) 0):=HR.out.below hb3 HR.out.lt;have HG1:Hid (Blk w1 (w.heap.size+1+1+1) (low f b)):=HG.out.below hb3 HG.out.lt;have HB1:Hid (Below w.heap.size w w1):=HB.out.trans (hb3.mono HB.out.size);clear hb3 c0 c1 c2 c3 HC HD HR HG HB;obtain⟨d0,d1,d2,d3⟩:=HD1.out
     go_wp2_with fail
     refine(Fl _ _ _ _ hy hbh).mono ?_;rintro e w2 ⟨rfl,hb3⟩;have HC2:Hid (Cl w2 w.heap.size C):=HC1.out.below hb3;have HD2:Hid (Cl w2 (w.heap.size+1) D):=HD1.out.below hb3;have HR2:Hid (Blk w2 (w.heap.size+1+1) 0):=HR1.out.below hb3 HR1.out.lt;have HG2:Hid (Blk w2 (w.heap.size+1+1+1) (low f b)):=HG1.out.below hb3 HG1.out.lt;have HB2:Hid (Below w.heap.size w w2):=HB1.out.trans (hb3.mono HB1.out.size);clear hb3 d0 d1 d2 d3 HC1 HD1 HR1 HG1 HB1;obtain⟨c0,c1,c2,c3⟩:=HG2.out.cells
     go_wp2_with fail
     refine(Nz _ _ _ hbh).mono ?_;rintro e w3 ⟨rfl,hb3⟩;have HC3:Hid (Cl w3 w.heap.size C):=HC2.out.below hb3;have HD3:Hid (Cl w3 (w.heap.size+1) D):=HD2.out.below hb3;have HR3:Hid (Blk w3 (w.heap.size+1+1) 0):=HR2.out.below hb3 HR2.out.lt;have HG3:Hid (Blk w3 (w.heap.size+1+1+1) (low f b)):=HG2.out.below hb3 HG2.out.lt;have HB3:Hid (Below w.heap.size w w3):=HB2.out.trans (hb3.mono HB2.out.size);clear hb3 c0 c1 c2 c3 HC2 HD2 HR2 HG2 HB2;obtain⟨c0,c1,c2,c3⟩:=HG3.out.cells;obtain⟨f0,f1,f2,f3⟩:=HG3.out.thaw;rw[<-HL.out];dsimp only[cv]
     go_wp2_with fail
     go_roundw
     case rel=>exact⟨b+1,by omega,by go_num,hid (Below.st4 HB3.out (by omega) (low f (b+1))),hid (HC3.out.st4 (by omega) _),hid (HD3.out.st4 (by omega) _),hid (HR3.out.other (by omega)),hid (HG3.out.st4 _)⟩
     case measure=>simp[intOf];omega
   ·cases hy:D.testBit b
    ·have hl:low f (b+1)=low f b:=by rw[low,HF'.out];simp[hx]
     have HL:Hid (low f (b+1)=low f b):=hl;clear hl
     go_wp2_with fail
     refine(Fl _ _ _ _ hx hbh).mono ?_;rintro e w1 ⟨rfl,hb3⟩;have HC1:Hid (Cl w1 w.heap.size C):=HC.out.below hb3;have HD1:Hid (Cl w1 (w.heap.size+1) D):=HD.out.below hb3;have HR1:Hid (Blk w1 (w.heap.size+1+1) 0):=HR.out.below hb3 HR.out.lt;have HG1:Hid (Blk w1 (w.heap.size+1+1+1) (low f b)):=HG.out.below hb3 HG.out.lt;have HB1:Hid (Below w.heap.size w w1):=HB.out.trans (hb3.mono HB.out.size);clear hb3 c0 c1 c2 c3 HC HD HR HG HB;obtain⟨d0,d1,d2,d3⟩:=HD1.out
     go_wp2_with fail
     refine(Fl _ _ _ _ hy hbh).mono ?_;rintro e w2 ⟨rfl,hb3⟩;have HC2:Hid (Cl w2 w.heap.size C):=HC1.out.below hb3;have HD2:Hid (Cl w2 (w.heap.size+1) D):=HD1.out.below hb3;have HR2:Hid (Blk w2 (w.heap.size+1+1) 0):=HR1.out.below hb3 HR1.out.lt;have HG2:Hid (Blk w2 (w.heap.size+1+1+1) (low f b)):=HG1.out.below hb3 HG1.out.lt;have HB2:Hid (Below w.heap.size w w2):=HB1.out.trans (hb3.mono HB1.out.size);clear hb3 d0 d1 d2 d3 HC1 HD1 HR1 HG1 HB1
     go_wp2_with fail
     go_roundw
     case rel=>exact⟨b+1,by omega,by go_num,HB2,HC2,HD2,HR2,hid (by rw[HL.out];exact HG2.out)⟩
     case measure=>simp[intOf];omega
    ·have hl:low f (b+1)=low f b:=by rw[low,HF'.out];simp[hx]
     have HL:Hid (low f (b+1)=low f b):=hl;clear hl
     go_wp2_with fail
     refine(Fl _ _ _ _ hx hbh).mono ?_;rintro e w1 ⟨rfl,hb3⟩;have HC1:Hid (Cl w1 w.heap.size C):=HC.out.below hb3;have HD1:Hid (Cl w1 (w.heap.size+1) D):=HD.out.below hb3;have HR1:Hid (Blk w1 (w.heap.size+1+1) 0):=HR.out.below hb3 HR.out.lt;have HG1:Hid (Blk w1 (w.heap.size+1+1+1) (low f b)):=HG.out.below hb3 HG.out.lt;have HB1:Hid (Below w.heap.size w w1):=HB.out.trans (hb3.mono HB.out.size);clear hb3 c0 c1 c2 c3 HC HD HR HG HB;obtain⟨d0,d1,d2,d3⟩:=HD1.out
     go_wp2_with fail
     refine(Fl _ _ _ _ hy hbh).mono ?_;rintro e w2 ⟨rfl,hb3⟩;have HC2:Hid (Cl w2 w.heap.size C):=HC1.out.below hb3;have HD2:Hid (Cl w2 (w.heap.size+1) D):=HD1.out.below hb3;have HR2:Hid (Blk w2 (w.heap.size+1+1) 0):=HR1.out.below hb3 HR1.out.lt;have HG2:Hid (Blk w2 (w.heap.size+1+1+1) (low f b)):=HG1.out.below hb3 HG1.out.lt;have HB2:Hid (Below w.heap.size w w2):=HB1.out.trans (hb3.mono HB1.out.size);clear hb3 d0 d1 d2 d3 HC1 HD1 HR1 HG1 HB1
     go_wp2_with fail
     go_roundw
     case rel=>exact⟨b+1,by omega,by go_num,HB2,HC2,HD2,HR2,hid (by rw[HL.out];exact HG2.out)⟩
     case measure=>simp[intOf];omega
  ·obtain rfl:b=256:=by omega
   have HG1:Hid (Blk wr (w.heap.size+1+1+1) (Zz C)):=by rw[<-HF.out];exact HG
   obtain⟨c0,c1,c2,c3⟩:=HG1.out.cells;obtain⟨f0,f1,f2,f3⟩:=HR.out.thaw;obtain⟨d0,d1,d2,d3⟩:=HR.out.cells;obtain⟨r0,r1,r2,r3⟩:=(HR.out.st4 (Zz C)).cells;unfold st4 at r0 r1 r2 r3;have HB2:Hid (Below w.heap.size w (st4 wr (w.heap.size+1+1) (Zz C))):=Below.st4 HB.out (by omega) _;clear HB HR HG HG1
   go_wp2_with fail
   refine bodyPost_ret (v:=cv (Zz C)) (by simp[results,Tryz.results110,go_sem,r0,r1,r2,r3]) rfl ⟨rfl,HB2.out⟩
def rA(r:Rs):Value:=
 match r with
 | .inr (C,n)=>.tuple #[cv C,.int .i64 n,.int .i64 0]
 | .inl c=>.tuple #[cv 0,.int .i64 (c.2:Int),.int .i64 (c.1:Int)]
theorem Bx(acc lo b:Nat)(h:lo<=b):(acc|||seg lo b)|||2^b=acc|||seg lo (b+1):=by rw[Ky lo b h,Nat.or_assoc]
theorem Bj{w:World}{g acc lo b c:Nat}(h:Hid (Blk w g (acc|||seg lo b)))(e:b=c):Hid (Blk w g (acc|||seg lo c)):=e▸h
theorem Bk{S:ByteArray}{k:Nat}{c:Nat×Nat}(h:sg S k=.inl c):c.1=3∨c.1=4:=by
 have hf:∀j,(flt S j).1=3∨(flt S j).1=4:=fun j=>by unfold flt;split<;>simp
 have hd:∀j e,digs S j=.inl e->e.1=3∨e.1=4:=fun j e he=>by
  unfold digs at he;split at he
  ·simp at he;rw[<-he];exact hf _
  ·split at he
   ·simp at he;rw[<-he];exact hf _
   ·cases he
 unfold sg at h;split at h
 ·simp at h;rw[<-h];exact hf _
 ·split at h
  ·unfold esc at h
   split at h
   ·simp at h;rw[<-h];exact hf _
   ·split at h
    ·cases h
    ·split at h
     ·exact hd _ _ h
     ·simp at h;rw[<-h];exact hf _
  ·split at h
   ·cases h
   ·simp at h;rw[<-h];exact hf _
theorem y1F(S:ByteArray)(w:World)(h0:bt S 0=some 91)(h1:¬bt S 1=some 94)(hS:S.size<=9007199254740992):
  Calls prog 92 #[.string S] w fun e w'=>e=.returned (rA (mm S 1 0))/\Below w.heap.size w w':=by
 obtain⟨hk0',hx0⟩:=Qj h0;have hz0:((S.size:Int) == 0)=false:=by rw[beq_eq_false_iff_ne];omega
 have hz0':¬S.size=0:=by omega
 have hkI0:(0:Int)<(S.size:Int):=by omega
 have hk0:1<=S.size:=(Qx h0).1;obtain⟨R,hR⟩:∃R,R=mm S 1 0:=⟨_,rfl⟩;rw[<-hR];have HR:Hid (mm S 1 0=R):=hR.symm;clear hR;cases hb1:bt S 1 with
 |none=>
  have hge1:=Qm hb1;have d1:decide ((1:Int)<(S.size:Int))=false:=by simp;omega
  have d1':¬1<S.size:=by omega
  have hz1:S.size=1:=by omega
  have HRe:Hid (R=.inl (3,1)):=by show _=_;rw[<-HR.out,Gj (by rw[hb1];simp) (by unfold mbr sg;rw[hb1])];rw[Gc hge1,hz1]
  have HS1:Hid (∀w:World,Calls prog 108 #[.string S,.int .i64 1] w fun e w'=>e=.returned (.tuple #[.int .i64 0,.int .i64 1,.int .i64 3])/\w'=w):=fun w=>by
   have h:=Fz S 1 w hS;rw[show sg S 1=.inl (3,1) by unfold sg;rw[hb1];simp only;rw[Gc hge1,hz1]]at h;exact h
  clear h0 h1 hb1 hz1;go_enter func92,ntmps92
  go_wp2_with fail
  refine wp_loop_rounds 1 ?_;rw[rounds_succ]
  go_wp2_with fail
  refine(HS1.out _).mono ?_;rintro e w3 ⟨rfl,rfl⟩
  go_wp2_with fail
  (try simp only[Exit.inBlock,Exit.then])
  refine bodyPost_ret (v:=.tuple #[.agg #[.int .u64 0,.int .u64 0,.int .u64 0,.int .u64 0],.int .i64 1,.int .i64 3]) (by simp[results,Tryz.results92,go_sem]) rfl ?_;rw[HRe.out];exact⟨by unfold rA;simp only;rw[cv0];try rfl,(B0q.alloc L0q _).alloc (by simp) _⟩
 |some y1=>
  have hyl1:=(Qx hb1).2;obtain⟨hk1,hx1⟩:=Qj hb1;have hk1I:(1:Int)<(S.size:Int):=by omega
  have d1:decide ((1:Int)<(S.size:Int))=true:=by simp;omega
  have d2:((y1:Int) == 94)=false:=by rw[beq_eq_false_iff_ne];intro e;exact h1 (by rw[hb1];congr 1;omega)
  clear h0 h1 hb1;go_enter func92,ntmps92
  go_wp2_with fail
  go_loopw [6] (fun a wr=>∃(k acc:Nat),a=.int .i64 k/\k<=S.size/\Hid (mm S k acc=R)/\Hid (acc<2^256)/\Hid (Below w.heap.size w wr)/\Hid (Blk wr w.heap.size 0)/\Hid (Blk wr (w.heap.size+1) acc)) (fun a _=>S.size-(intOf a).toNat)
  case atStart=>
   refine⟨1,0,rfl,hk0,HR,hid (by decide+kernel),hid ((B0q.alloc L0q _).alloc (by simp) _),hid ((Blk.new0 w).alloc _),?_⟩;have h2:=Blk.new0 (w.alloc (.cells #[.int .u64 0,.int .u64 0,.int .u64 0,.int .u64 0] 27));rw[World.size_alloc]at h2;exact hid h2
  case round=>
   obtain⟨k,acc,rfl,hks,HM,HA,HB,HRb,HO⟩:=hrel;clear hx0;by_cases h93:bt S k=some 93
   ·obtain⟨hkk,hxk⟩:=Qj h93
    have hkI:(k:Int)<(S.size:Int):=by omega
    have a0:decide ((S.size:Int)<=(k:Int))=false:=by simp;omega
    have HRe:Hid (R=.inr (acc,k+1)):=by show _=_;rw[<-HM.out,Bd h93]
    have HN:Hid (((k+1:Nat):Int)=(k:Int)+1):=by show _=_;omega
    clear h93 HM;obtain⟨c0,c1,c2,c3⟩:=HO.out.cells;obtain⟨d0,d1,d2,d3⟩:=HRb.out.cells;obtain⟨f0,f1,f2,f3⟩:=HRb.out.thaw;obtain⟨r0,r1,r2,r3'⟩:=(HRb.out.st4 acc).cells;have HBe:Hid (Below w.heap.size w (st4 wr w.heap.size acc)):=Below.st4 HB.out L0q _;unfold st4 at r0 r1 r2 r3';clear HRb HO
    go_wp2_with fail
    refine bodyPost_ret (v:=.tuple #[cv acc,.int .i64 ((k:Int)+1),.int .i64 0]) (by simp[results,Tryz.results92,go_sem,r0,r1,r2,r3']) rfl ?_;rw[HRe.out];exact⟨by unfold rA;simp only;rw[HN.out],HBe.out⟩
   ·cases hb0:bt S k with
    |none=>
     have hge:=Qm hb0;have a0:decide ((S.size:Int)<=(k:Int))=true:=by simp;omega
     obtain⟨c,hs⟩:∃c,sg S k=.inl c:=⟨flt S k,by unfold sg;rw[hb0]⟩;have hc0:(((c.1:Nat):Int) != 0)=true:=by have:=Bk hs;rw[bne_iff_ne];omega
     have HRe:Hid (R=.inl c):=by show _=_;rw[<-HM.out,Gj h93 (by unfold mbr;rw[hs])]
     have HS1:Hid (∀w:World,Calls prog 108 #[.string S,.int .i64 k] w fun e w'=>e=.returned (.tuple #[.int .i64 0,.int .i64 (c.2:Int),.int .i64 (c.1:Int)])/\w'=w):=fun w=>by have h:=Fz S k w hS;rw[hs]at h;exact h
     clear h93 HM hs hb0
     go_wp2_with fail
     refine(HS1.out _).mono ?_;rintro e w3 ⟨rfl,rfl⟩;obtain⟨c0,c1,c2,c3⟩:=HRb.out.cells;obtain⟨f0,f1,f2,f3⟩:=HRb.out.thaw;obtain⟨r0,r1,r2,r3'⟩:=HRb.out.zero;unfold z4 at r0 r1 r2 r3'
     go_wp2_with fail
     (try simp only[Exit.inBlock,Exit.then])
     refine bodyPost_ret (v:=.tuple #[.agg #[.int .u64 0,.int .u64 0,.int .u64 0,.int .u64 0],.int .i64 (c.2:Int),.int .i64 (c.1:Int)]) (by simp[results,Tryz.results92,go_sem,r0,r1,r2,r3']) rfl ?_;rw[HRe.out];refine⟨by unfold rA;simp only;rw[cv0];try rfl,?_⟩;have hbe:=Below.st4 HB.out L0q 0;rw[<-Gk]at hbe;exact hbe
    |some x=>
     have hxl:=(Qx hb0).2;obtain⟨hkk,hxk⟩:=Qj hb0;have hkI:(k:Int)<(S.size:Int):=by omega
     have a0:decide ((S.size:Int)<=(k:Int))=false:=by simp;omega
     have hx93:x≠93:=fun e=>h93 (by rw[hb0,e])
     have n93:((x:Int) != 93)=true:=by rw[bne_iff_ne];omega
     cases hs:sg S k with
     |inl c=>
      have hc0:(((c.1:Nat):Int) != 0)=true:=by have:=Bk hs;rw[bne_iff_ne];omega
      have HRe:Hid (R=.inl c):=by show _=_;rw[<-HM.out,Gj h93 (by unfold mbr;rw[hs])]
      have HS1:Hid (∀w:World,Calls prog 108 #[.string S,.int .i64 k] w fun e w'=>e=.returned (.tuple #[.int .i64 0,.int .i64 (c.2:Int),.int .i64 (c.1:Int)])/\w'=w):=fun w=>by have h:=Fz S k w hS;rw[hs]at h;exact h
      clear h93 HM hs hb0
      go_wp2_with fail
      refine(HS1.out _).mono ?_;rintro e w3 ⟨rfl,rfl⟩;obtain⟨c0,c1,c2,c3⟩:=HRb.out.cells;obtain⟨f0,f1,f2,f3⟩:=HRb.out.thaw;obtain⟨r0,r1,r2,r3'⟩:=HRb.out.zero;unfold z4 at r0 r1 r2 r3'
      go_wp2_with fail
      (try simp only[Exit.inBlock,Exit.then])
      refine bodyPost_ret (v:=.tuple #[.agg #[.int .u64 0,.int .u64 0,.int .u64 0,.int .u64 0],.int .i64 (c.2:Int),.int .i64 (c.1:Int)]) (by simp[results,Tryz.results92,go_sem,r0,r1,r2,r3']) rfl ?_;rw[HRe.out];refine⟨by unfold rA;simp only;rw[cv0];try rfl,?_⟩;have hbe:=Below.st4 HB.out L0q 0;rw[<-Gk]at hbe;exact hbe
     |inr q=>
      obtain⟨lo,n⟩:=q;have hok:=Ug hs;have HS1:Hid (∀w:World,Calls prog 108 #[.string S,.int .i64 k] w fun e w'=>e=.returned (.tuple #[.int .i64 lo,.int .i64 n,.int .i64 0])/\w'=w):=fun w=>by have h:=Fz S k w hS;rw[hs]at h;exact h
      cases hbn:bt S n with
      |none=>
       have hgn:=Qm hbn;have g0:decide ((n:Int)<(S.size:Int))=false:=by simp;omega
       have hmb:mbr S k=.inr (seg lo (lo+1),n):=by unfold mbr;rw[hs];simp only;rw[hbn,if_neg (by simp)]
       have hkn:k<n:=hok.2.1;have hNs:n<=S.size:=hok.2.2;have hlo:lo<256:=hok.1;have HM2:Hid (mm S n (acc|||seg lo (lo+1))=R):=by show _=_;rw[<-HM.out,Dw h93 hmb]
       have HA2:Hid (acc|||seg lo (lo+1)<2^256):=Nat.or_lt_two_pow HA.out (Ub hmb).1;clear h93 HM hs hb0 hbn hx93 hok hmb HA
       go_wp2_with fail
       refine(HS1.out _).mono ?_;rintro e w3 ⟨rfl,rfl⟩
       go_wp2_with fail
       go_loopw [12] (fun bv wq=>∃(b:Nat),bv=.int .i64 b/\lo<=b/\b<=lo+1/\Hid (Below w.heap.size w wq)/\Hid (Blk wq w.heap.size 0)/\Hid (Blk wq (w.heap.size+1) (acc|||seg lo b))) (fun bv _=>lo+1-(intOf bv).toNat)
       case atStart=>exact⟨lo,rfl,Nat.le_refl _,by omega,HB,HRb,by rw[Dk,Nat.or_zero];exact HO⟩
       case round=>
        obtain⟨b,rfl,hb1,hb2,HBq,HRq,HOq⟩:=hrel;by_cases hbh:b<=lo
        ·have lb:decide ((b:Int)<=(lo:Int))=true:=by simp;omega
         have HW:Hid (∀w:World,Calls prog 109 #[cv (acc|||seg lo b),.int .i64 b] w fun e w'=>e=.returned (cv (acc|||seg lo (b+1)))/\Below w.heap.size w w'):=fun w=>by have h:=Nz (acc|||seg lo b) b w (by omega);rw[Bx acc lo b hb1]at h;exact h
         obtain⟨c0,c1,c2,c3⟩:=HOq.out.cells
         go_wp2_with fail
         refine(HW.out _).mono ?_;rintro e w5 ⟨rfl,hb5⟩;have HB5:Hid (Below w.heap.size w w5):=HBq.out.trans (hb5.mono HBq.out.size);have HR5:Hid (Blk w5 w.heap.size 0):=HRq.out.below hb5 HRq.out.lt;have HO5:Hid (Blk w5 (w.heap.size+1) (acc|||seg lo b)):=HOq.out.below hb5 HOq.out.lt;clear hb5 HBq HRq HOq c0 c1 c2 c3;obtain⟨c0,c1,c2,c3⟩:=HO5.out.cells;obtain⟨f0,f1,f2,f3⟩:=HO5.out.thaw;dsimp only[cv]
         go_wp2_with fail
         go_roundw
         case rel=>exact⟨b+1,by go_num,by omega,by omega,hid (Below.st4 HB5.out (by omega) (acc|||seg lo (b+1))),hid (HR5.out.other (by omega)),hid (HO5.out.st4 _)⟩
         case measure=>simp[intOf];omega
        ·have lb:decide ((b:Int)<=(lo:Int))=false:=by simp;omega
         have HO6:=Bj HOq (show b=lo+1 by omega);clear HOq
         go_wp2_with fail
         go_roundw
         case rel=>exact⟨n,acc|||seg lo (lo+1),rfl,hNs,HM2,HA2,HBq,HRq,HO6⟩
         case measure=>simp[intOf];omega
      |some z=>
       have hzl:=(Qx hbn).2;obtain⟨hnk,hzk⟩:=Qj hbn;have hnI:(n:Int)<(S.size:Int):=by omega
       have g0:decide ((n:Int)<(S.size:Int))=true:=by simp;omega
       by_cases h45:z=45
       ·subst h45
        cases hs2:sg S (n+1)with
        |inl c=>
         have hc0:(((c.1:Nat):Int) != 0)=true:=by have:=Bk hs2;rw[bne_iff_ne];omega
         have HRe:Hid (R=.inl c):=by show _=_;rw[<-HM.out,Gj h93 (by unfold mbr;rw[hs];simp only;rw[hbn,if_pos rfl,hs2])]
         have HS2:Hid (∀w:World,Calls prog 108 #[.string S,.int .i64 ((n:Int)+1)] w fun e w'=>e=.returned (.tuple #[.int .i64 0,.int .i64 (c.2:Int),.int .i64 (c.1:Int)])/\w'=w):=fun w=>by have h:=Fz S (n+1) w hS;rw[hs2,show((n+1:Nat):Int)=(n:Int)+1 by omega]at h;exact h
         clear h93 HM hs hs2 hb0 hbn hx93
         go_wp2_with fail
         refine(HS1.out _).mono ?_;rintro e w3 ⟨rfl,rfl⟩
         go_wp2_with fail
         refine(HS2.out _).mono ?_;rintro e w3 ⟨rfl,rfl⟩;obtain⟨c0,c1,c2,c3⟩:=HRb.out.cells;obtain⟨f0,f1,f2,f3⟩:=HRb.out.thaw;obtain⟨r0,r1,r2,r3'⟩:=HRb.out.zero;unfold z4 at r0 r1 r2 r3'
         go_wp2_with fail
         (try simp only[Exit.inBlock,Exit.then])
         refine bodyPost_ret (v:=.tuple #[.agg #[.int .u64 0,.int .u64 0,.int .u64 0,.int .u64 0],.int .i64 (c.2:Int),.int .i64 (c.1:Int)]) (by simp[results,Tryz.results92,go_sem,r0,r1,r2,r3']) rfl ?_;rw[HRe.out];refine⟨by unfold rA;simp only;rw[cv0];try rfl,?_⟩;have hbe:=Below.st4 HB.out L0q 0;rw[<-Gk]at hbe;exact hbe
        |inr q2=>
         obtain⟨hi,n2⟩:=q2;have hok2:=Ug hs2;have HS2:Hid (∀w:World,Calls prog 108 #[.string S,.int .i64 ((n:Int)+1)] w fun e w'=>e=.returned (.tuple #[.int .i64 hi,.int .i64 n2,.int .i64 0])/\w'=w):=fun w=>by have h:=Fz S (n+1) w hS;rw[hs2,show((n+1:Nat):Int)=(n:Int)+1 by omega]at h;exact h
         by_cases hlt:hi<lo
         ·have HRe:Hid (R=.inl (4,k)):=by show _=_;rw[<-HM.out,Gj h93 (by unfold mbr;rw[hs];simp only;rw[hbn,if_pos rfl,hs2];simp only;rw[if_pos hlt])];rw[Gl hkk]
          have e1:decide ((hi:Int)<(lo:Int))=true:=by simp;omega
          clear h93 HM hs hs2 hb0 hbn hx93 hok hok2
          go_wp2_with fail
          refine(HS1.out _).mono ?_;rintro e w3 ⟨rfl,rfl⟩
          go_wp2_with fail
          refine(HS2.out _).mono ?_;rintro e w3 ⟨rfl,rfl⟩;obtain⟨c0,c1,c2,c3⟩:=HRb.out.cells;obtain⟨f0,f1,f2,f3⟩:=HRb.out.thaw;obtain⟨r0,r1,r2,r3'⟩:=HRb.out.zero;unfold z4 at r0 r1 r2 r3'
          go_wp2_with fail
          (try simp only[Exit.inBlock,Exit.then])
          refine bodyPost_ret (v:=.tuple #[.agg #[.int .u64 0,.int .u64 0,.int .u64 0,.int .u64 0],.int .i64 k,.int .i64 (4:Int)]) (by simp[results,Tryz.results92,go_sem,r0,r1,r2,r3']) rfl ?_;rw[HRe.out];refine⟨by unfold rA;simp only;rw[cv0];try rfl,?_⟩;have hbe:=Below.st4 HB.out L0q 0;rw[<-Gk]at hbe;exact hbe
         ·have e1:decide ((hi:Int)<(lo:Int))=false:=by simp;omega
          have e2:lo<=hi:=by omega
          have hhi:hi<256:=hok2.1;have hmb:mbr S k=.inr (seg lo (hi+1),n2):=by unfold mbr;rw[hs];simp only;rw[hbn,if_pos rfl,hs2];simp only;rw[if_neg hlt]
          have hkn:k<n2:=by omega
          have hNs:n2<=S.size:=hok2.2.2;have HM2:Hid (mm S n2 (acc|||seg lo (hi+1))=R):=by show _=_;rw[<-HM.out,Dw h93 hmb]
          have HA2:Hid (acc|||seg lo (hi+1)<2^256):=Nat.or_lt_two_pow HA.out (Ub hmb).1;clear h93 HM hs hs2 hb0 hbn hx93 hok hok2 hmb hlt HA
          go_wp2_with fail
          refine(HS1.out _).mono ?_;rintro e w3 ⟨rfl,rfl⟩
          go_wp2_with fail
          refine(HS2.out _).mono ?_;rintro e w3 ⟨rfl,rfl⟩
          go_wp2_with fail
          go_loopw [12] (fun bv wq=>∃(b:Nat),bv=.int .i64 b/\lo<=b/\b<=hi+1/\Hid (Below w.heap.size w wq)/\Hid (Blk wq w.heap.size 0)/\Hid (Blk wq (w.heap.size+1) (acc|||seg lo b))) (fun bv _=>hi+1-(intOf bv).toNat)
          case atStart=>exact⟨lo,rfl,Nat.le_refl _,by omega,HB,HRb,by rw[Dk,Nat.or_zero];exact HO⟩
          case round=>
           obtain⟨b,rfl,hb1,hb2,HBq,HRq,HOq⟩:=hrel;by_cases hbh:b<=hi
           ·have lb:decide ((b:Int)<=(hi:Int))=true:=by simp;omega
            have HW:Hid (∀w:World,Calls prog 109 #[cv (acc|||seg lo b),.int .i64 b] w fun e w'=>e=.returned (cv (acc|||seg lo (b+1)))/\Below w.heap.size w w'):=fun w=>by have h:=Nz (acc|||seg lo b) b w (by omega);rw[Bx acc lo b hb1]at h;exact h
            obtain⟨c0,c1,c2,c3⟩:=HOq.out.cells
            go_wp2_with fail
            refine(HW.out _).mono ?_;rintro e w5 ⟨rfl,hb5⟩;have HB5:Hid (Below w.heap.size w w5):=HBq.out.trans (hb5.mono HBq.out.size);have HR5:Hid (Blk w5 w.heap.size 0):=HRq.out.below hb5 HRq.out.lt;have HO5:Hid (Blk w5 (w.heap.size+1) (acc|||seg lo b)):=HOq.out.below hb5 HOq.out.lt;clear hb5 HBq HRq HOq c0 c1 c2 c3;obtain⟨c0,c1,c2,c3⟩:=HO5.out.cells;obtain⟨f0,f1,f2,f3⟩:=HO5.out.thaw;dsimp only[cv]
            go_wp2_with fail
            go_roundw
            case rel=>exact⟨b+1,by go_num,by omega,by omega,hid (Below.st4 HB5.out (by omega) (acc|||seg lo (b+1))),hid (HR5.out.other (by omega)),hid (HO5.out.st4 _)⟩
            case measure=>simp[intOf];omega
           ·have lb:decide ((b:Int)<=(hi:Int))=false:=by simp;omega
            have HO6:=Bj HOq (show b=hi+1 by omega);clear HOq
            go_wp2_with fail
            go_roundw
            case rel=>exact⟨n2,acc|||seg lo (hi+1),rfl,hNs,HM2,HA2,HBq,HRq,HO6⟩
            case measure=>simp[intOf];omega
       ·have n45:((z:Int) == 45)=false:=by rw[beq_eq_false_iff_ne];omega
        have hmb:mbr S k=.inr (seg lo (lo+1),n):=by unfold mbr;rw[hs];simp only;rw[hbn,if_neg (by simpa using h45)]
        have hkn:k<n:=hok.2.1;have hNs:n<=S.size:=hok.2.2;have hlo:lo<256:=hok.1;have HM2:Hid (mm S n (acc|||seg lo (lo+1))=R):=by show _=_;rw[<-HM.out,Dw h93 hmb]
        have HA2:Hid (acc|||seg lo (lo+1)<2^256):=Nat.or_lt_two_pow HA.out (Ub hmb).1;clear h93 HM hs hb0 hbn hx93 hok hmb HA
        go_wp2_with fail
        refine(HS1.out _).mono ?_;rintro e w3 ⟨rfl,rfl⟩
        go_wp2_with fail
        go_loopw [12] (fun bv wq=>∃(b:Nat),bv=.int .i64 b/\lo<=b/\b<=lo+1/\Hid (Below w.heap.size w wq)/\Hid (Blk wq w.heap.size 0)/\Hid (Blk wq (w.heap.size+1) (acc|||seg lo b))) (fun bv _=>lo+1-(intOf bv).toNat)
        case atStart=>exact⟨lo,rfl,Nat.le_refl _,by omega,HB,HRb,by rw[Dk,Nat.or_zero];exact HO⟩
        case round=>
         obtain⟨b,rfl,hb1,hb2,HBq,HRq,HOq⟩:=hrel;by_cases hbh:b<=lo
         ·have lb:decide ((b:Int)<=(lo:Int))=true:=by simp;omega
          have HW:Hid (∀w:World,Calls prog 109 #[cv (acc|||seg lo b),.int .i64 b] w fun e w'=>e=.returned (cv (acc|||seg lo (b+1)))/\Below w.heap.size w w'):=fun w=>by have h:=Nz (acc|||seg lo b) b w (by omega);rw[Bx acc lo b hb1]at h;exact h
          obtain⟨c0,c1,c2,c3⟩:=HOq.out.cells
          go_wp2_with fail
          refine(HW.out _).mono ?_;rintro e w5 ⟨rfl,hb5⟩;have HB5:Hid (Below w.heap.size w w5):=HBq.out.trans (hb5.mono HBq.out.size);have HR5:Hid (Blk w5 w.heap.size 0):=HRq.out.below hb5 HRq.out.lt;have HO5:Hid (Blk w5 (w.heap.size+1) (acc|||seg lo b)):=HOq.out.below hb5 HOq.out.lt;clear hb5 HBq HRq HOq c0 c1 c2 c3;obtain⟨c0,c1,c2,c3⟩:=HO5.out.cells;obtain⟨f0,f1,f2,f3⟩:=HO5.out.thaw;dsimp only[cv]
          go_wp2_with fail
          go_roundw
          case rel=>exact⟨b+1,by go_num,by omega,by omega,hid (Below.st4 HB5.out (by omega) (acc|||seg lo (b+1))),hid (HR5.out.other (by omega)),hid (HO5.out.st4 _)⟩
          case measure=>simp[intOf];omega
         ·have lb:decide ((b:Int)<=(lo:Int))=false:=by simp;omega
          have HO6:=Bj HOq (show b=lo+1 by omega);clear HOq
          go_wp2_with fail
          go_roundw
          case rel=>exact⟨n,acc|||seg lo (lo+1),rfl,hNs,HM2,HA2,HBq,HRq,HO6⟩
          case measure=>simp[intOf];omega
end Go.Proofs.YtikfnaffiehpaaaGreatDoor
