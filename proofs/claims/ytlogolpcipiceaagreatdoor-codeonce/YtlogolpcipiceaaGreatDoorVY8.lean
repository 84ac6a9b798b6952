/- Lemmas for the last text. Conditions: those that each names. -/
import Derived.Test.YtlogolpcipiceaaGreatDoorVY5ToY7
import Derived.WalkLawsBesides
set_option linter.unusedVariables false
set_option maxRecDepth 100000
set_option maxHeartbeats 8000000
namespace Go.Proofs.YtlogolpcipiceaaGreatDoor
open Go.Proofs.Tryz
open Go.RowKit
theorem z6B(B R b:Nat)(v:Value)(L:List Tok)(k ru ne:Nat)(w:World)(h:Rd w R b v L k ru ne)(hk:k<L.length)(h1:(gL L k).1=1)(hh:hdB L k=false)(hg:Qc L)(hB:B<=w.heap.size):
  Calls prog 282 #[.pointer (some ⟨R,0,none⟩)] w fun e w'=>Qf (.inr (.mk 5 (gL L k).2.1 (gL L k).2.2.1 [] (gL L k).2.2.2,k+1)) B R b v L ru ne w e w':=by
 have fd0:=Tryz.fld0;have HT:=Jf R b v L k ru ne hk hg;have HH:=z0y R b v L k ru ne hk h1 hg;rw[hh]at HH;obtain⟨t,ht⟩:∃t,t=gL L k:=⟨_,rfl⟩;rw[<-ht]at HT h1 ⊢;clear ht;obtain⟨kd,T,C,p⟩:=t;have h1':kd=1:=h1;subst h1';clear h1;have HE:Hid (En w R b v L k ru ne (w.alloc Zo)):=En.start h;clear h;have hkl:(k:Int)+1<9223372036854775807:=by have:=hg.len;omega
 go_enter func282,ntmps282
 go_wp2_with fail
 refine(HT.out _ HE.out.1).mono ?_;rintro e w1 ⟨rfl,hb1⟩;have HE1:=hid (HE.out.below hb1);clear hb1 HE;dsimp only[tkv];have HE2:=hid ((HE1.out.alloc (.cells #[.int .i64 1,.string T,.int .u64 (wd C 0),.int .u64 (wd C 1),.int .u64 (wd C 2),.int .u64 (wd C 3),.int .i64 p] 183)).alloc (.cells #[.int .i64 0,.string T,.int .u64 (wd C 0),.int .u64 (wd C 1),.int .u64 (wd C 2),.int .u64 (wd C 3),.slice none 0 0,.int .i64 p] 71));have HN2:Hid (((w1.alloc (.cells #[.int .i64 1,.string T,.int .u64 (wd C 0),.int .u64 (wd C 1),.int .u64 (wd C 2),.int .u64 (wd C 3),.int .i64 p] 183)).alloc (.cells #[.int .i64 0,.string T,.int .u64 (wd C 0),.int .u64 (wd C 1),.int .u64 (wd C 2),.int .u64 (wd C 3),.slice none 0 0,.int .i64 p] 71)).heap[w1.heap.size+1]? =some (.cells #[.int .i64 0,.string T,.int .u64 (wd C 0),.int .u64 (wd C 1),.int .u64 (wd C 2),.int .u64 (wd C 3),.slice none 0 0,.int .i64 p] 71)):=Qx _ _ (by simp);have HS2:Hid (w.heap.size<w1.heap.size):=HE1.out.size;clear HE1
 go_wp2_with fail
 refine(HH.out _ HE2.out.1).mono ?_;rintro e w3 ⟨rfl,hb3⟩;have HE3:=hid (HE2.out.below hb3);have HN3:=hid ((hb3.block _ (by first|(simp;done)|exact HL2.out)).trans HN2.out);have HL3:Hid (w1.heap.size+1<w3.heap.size):=Nat.lt_of_lt_of_le (by first|(simp;done)|exact HL2.out) hb3.size;clear hb3 HE2 HN2;clear HH HT;obtain⟨⟨m0,m1,m2,m3,m4,m5,m6,m7⟩,⟨y0,y1,y2,y3,y4,y5,y6,y7⟩⟩:=Qw HN3.out;obtain⟨⟨k0,k1,k2,k3,k4,k5,k6,k7⟩,⟨f0,f1,f2,f3,f4,f5,f6,f7⟩⟩:=HE3.out.cells;obtain⟨r0,r1,r2,r3,q0,q1,q2,q3⟩:=HE3.out.1.cells;have hRl:=HE3.out.lt;have hQl:=HE3.out.size;have hS2:=HS2.out;have hL2:=HL3.out;have hRN:R≠w1.heap.size+1:=by omega
 have hRQ:R≠w.heap.size:=by omega
 have hQN:w.heap.size≠w1.heap.size+1:=by omega
 go_wp2_with fail
 (try simp only[Exit.inBlock,Exit.then])
 have HE9:En w R b v L (k+1) ru ne ((w3.setCell ⟨w1.heap.size+1,0,none⟩ (.int .i64 5)).setCell ⟨R,1,none⟩ (.int .i64 ((k:Int)+1))):=(HE3.out.other (by omega)).next
 obtain⟨⟨c0,c1,c2,c3,c4,c5,c6,c7⟩,_⟩:=Qw (Vg HE9.2.2.1 5 T (wd C 0:Nat) (wd C 1:Nat) (wd C 2:Nat) (wd C 3:Nat) (.slice none 0 0) (p:Int));refine bodyPost_ret (v:=.agg (n8 5 T C (.slice none 0 0) p).toArray) (by simp[results,Tryz.results282,go_sem,c0,c1,c2,c3,c4,c5,c6,c7]) rfl ?_;exact HE9.fin (by rw[Qy];exact⟨_,rfl,.inl ⟨rfl,rfl⟩⟩) hB
theorem z6C(B R b:Nat)(v:Value)(L:List Tok)(k ru ne:Nat)(w:World)(h:Rd w R b v L k ru ne)(hk:k<L.length)(h5:sgT (gL L k)={data:=#[46]})(hg:Qc L)(hB:B<=w.heap.size):
  Calls prog 282 #[.pointer (some ⟨R,0,none⟩)] w fun e w'=>Qf (.inr (.mk 4 {data:=#[]} (gL L k).2.2.1 [] (gL L k).2.2.2,k+1)) B R b v L ru ne w e w':=by
 have fd0:=Tryz.fld0;have HT:=Jf R b v L k ru ne hk hg;have HS:=Gf R b v L k ru ne hk hg;have h1:(gL L k).1=5:=Gy h5;rw[h5]at HS;clear h5;obtain⟨t,ht⟩:∃t,t=gL L k:=⟨_,rfl⟩;rw[<-ht]at HT h1 ⊢;clear ht;obtain⟨kd,T,C,p⟩:=t;have h1':kd=5:=h1;subst h1';clear h1;have HE:Hid (En w R b v L k ru ne (w.alloc Zo)):=En.start h;clear h;have hkl:(k:Int)+1<9223372036854775807:=by have:=hg.len;omega
 go_enter func282,ntmps282
 go_wp2_with fail
 refine(HT.out _ HE.out.1).mono ?_;rintro e w1 ⟨rfl,hb1⟩;have HE1:=hid (HE.out.below hb1);clear hb1 HE;dsimp only[tkv];have HE2:=hid ((HE1.out.alloc (.cells #[.int .i64 5,.string T,.int .u64 (wd C 0),.int .u64 (wd C 1),.int .u64 (wd C 2),.int .u64 (wd C 3),.int .i64 p] 183)).alloc (.cells #[.int .i64 0,.string T,.int .u64 (wd C 0),.int .u64 (wd C 1),.int .u64 (wd C 2),.int .u64 (wd C 3),.slice none 0 0,.int .i64 p] 71));have HN2:Hid (((w1.alloc (.cells #[.int .i64 5,.string T,.int .u64 (wd C 0),.int .u64 (wd C 1),.int .u64 (wd C 2),.int .u64 (wd C 3),.int .i64 p] 183)).alloc (.cells #[.int .i64 0,.string T,.int .u64 (wd C 0),.int .u64 (wd C 1),.int .u64 (wd C 2),.int .u64 (wd C 3),.slice none 0 0,.int .i64 p] 71)).heap[w1.heap.size+1]? =some (.cells #[.int .i64 0,.string T,.int .u64 (wd C 0),.int .u64 (wd C 1),.int .u64 (wd C 2),.int .u64 (wd C 3),.slice none 0 0,.int .i64 p] 71)):=Qx _ _ (by simp);have HS2:Hid (w.heap.size<w1.heap.size):=HE1.out.size;clear HE1
 go_wp2_with fail
 refine(HS.out _ HE2.out.1).mono ?_;rintro e w3 ⟨rfl,hb3⟩;have HE3:=hid (HE2.out.below hb3);have HN3:=hid ((hb3.block _ (by first|(simp;done)|exact HL2.out)).trans HN2.out);have HL3:Hid (w1.heap.size+1<w3.heap.size):=Nat.lt_of_lt_of_le (by first|(simp;done)|exact HL2.out) hb3.size;clear hb3 HE2 HN2;clear HS HT;obtain⟨⟨m0,m1,m2,m3,m4,m5,m6,m7⟩,⟨y0,y1,y2,y3,y4,y5,y6,y7⟩⟩:=Qw HN3.out;obtain⟨⟨k0,k1,k2,k3,k4,k5,k6,k7⟩,⟨f0,f1,f2,f3,f4,f5,f6,f7⟩⟩:=HE3.out.cells;obtain⟨r0,r1,r2,r3,q0,q1,q2,q3⟩:=HE3.out.1.cells;have hRl:=HE3.out.lt;have hQl:=HE3.out.size;have hS2:=HS2.out;have hL2:=HL3.out;have hRN:R≠w1.heap.size+1:=by omega
 have hRQ:R≠w.heap.size:=by omega
 have hQN:w.heap.size≠w1.heap.size+1:=by omega
 go_wp2_with fail
 (try simp only[Exit.inBlock,Exit.then])
 have HE9:En w R b v L (k+1) ru ne (((w3.setCell ⟨w1.heap.size+1,0,none⟩ (.int .i64 4)).setCell ⟨w1.heap.size+1,1,none⟩ (.string ⟨#[]⟩)).setCell ⟨R,1,none⟩ (.int .i64 ((k:Int)+1))):=((HE3.out.other (by omega)).other (by omega)).next
 obtain⟨⟨c0,c1,c2,c3,c4,c5,c6,c7⟩,_⟩:=Qw (Vg HE9.2.2.1 4 {data:=#[]} (wd C 0:Nat) (wd C 1:Nat) (wd C 2:Nat) (wd C 3:Nat) (.slice none 0 0) (p:Int));refine bodyPost_ret (v:=.agg (n8 4 {data:=#[]} C (.slice none 0 0) p).toArray) (by simp[results,Tryz.results282,go_sem,c0,c1,c2,c3,c4,c5,c6,c7]) rfl ?_;exact HE9.fin (by rw[Qy];exact⟨_,rfl,.inl ⟨rfl,rfl⟩⟩) hB
theorem z6D(B R b:Nat)(v:Value)(L:List Tok)(k ru ne:Nat)(w:World)(h:Rd w R b v L k ru ne)(hk:k<L.length)(h5:sgT (gL L k)={data:=#[40]})(c:Nat×Nat)(HI:Hid (∀W:World,Rd W R b v L k ru ne->w.heap.size+1<=W.heap.size->Calls prog 292 #[.pointer (some ⟨R,0,none⟩)] W fun e w'=>Qf (.inl c) (w.heap.size+1) R b v L ru ne W e w'))(hg:Qc L)(hB:B<=w.heap.size):
  Calls prog 282 #[.pointer (some ⟨R,0,none⟩)] w fun e w'=>Qf (.inl c) B R b v L ru ne w e w':=by
 have fd0:=Tryz.fld0;have HT:=Jf R b v L k ru ne hk hg;have HS:=Gf R b v L k ru ne hk hg;have h1:(gL L k).1=5:=Gy h5;rw[h5]at HS;clear h5;obtain⟨t,ht⟩:∃t,t=gL L k:=⟨_,rfl⟩;rw[<-ht]at HT h1;clear ht;obtain⟨kd,T,C,p⟩:=t;have h1':kd=5:=h1;subst h1';clear h1;have HE:Hid (En w R b v L k ru ne (w.alloc Zo)):=En.start h;clear h;have hkl:(k:Int)+1<9223372036854775807:=by have:=hg.len;omega
 go_enter func282,ntmps282
 go_wp2_with fail
 refine(HT.out _ HE.out.1).mono ?_;rintro e w1 ⟨rfl,hb1⟩;have HE1:=hid (HE.out.below hb1);clear hb1 HE;dsimp only[tkv];have HE2:=hid ((HE1.out.alloc (.cells #[.int .i64 5,.string T,.int .u64 (wd C 0),.int .u64 (wd C 1),.int .u64 (wd C 2),.int .u64 (wd C 3),.int .i64 p] 183)).alloc (.cells #[.int .i64 0,.string T,.int .u64 (wd C 0),.int .u64 (wd C 1),.int .u64 (wd C 2),.int .u64 (wd C 3),.slice none 0 0,.int .i64 p] 71));clear HT;have HN2:Hid (((w1.alloc (.cells #[.int .i64 5,.string T,.int .u64 (wd C 0),.int .u64 (wd C 1),.int .u64 (wd C 2),.int .u64 (wd C 3),.int .i64 p] 183)).alloc (.cells #[.int .i64 0,.string T,.int .u64 (wd C 0),.int .u64 (wd C 1),.int .u64 (wd C 2),.int .u64 (wd C 3),.slice none 0 0,.int .i64 p] 71)).heap[w1.heap.size+1]? =some (.cells #[.int .i64 0,.string T,.int .u64 (wd C 0),.int .u64 (wd C 1),.int .u64 (wd C 2),.int .u64 (wd C 3),.slice none 0 0,.int .i64 p] 71)):=Qx _ _ (by simp);have HS2:Hid (w.heap.size<w1.heap.size):=HE1.out.size;clear HE1
 go_wp2_with fail
 refine(HS.out _ HE2.out.1).mono ?_;rintro e w3 ⟨rfl,hb3⟩;have HE3:=hid (HE2.out.below hb3);have HN3:=hid ((hb3.block _ (by first|(simp;done)|exact HL2.out)).trans HN2.out);have HL3:Hid (w1.heap.size+1<w3.heap.size):=Nat.lt_of_lt_of_le (by first|(simp;done)|exact HL2.out) hb3.size;clear hb3 HE2 HN2
 go_wp2_with fail
 refine(HS.out _ HE3.out.1).mono ?_;rintro e w4 ⟨rfl,hb4⟩;have HE4:=hid (HE3.out.below hb4);have HN4:=hid ((hb4.block _ (by first|(simp;done)|exact HL3.out)).trans HN3.out);have HL4:Hid (w1.heap.size+1<w4.heap.size):=Nat.lt_of_lt_of_le (by first|(simp;done)|exact HL3.out) hb4.size;clear hb4 HE3 HN3;clear HS HN4
 go_wp2_with fail
 refine(HI.out _ HE4.out.1 HE4.out.size).mono ?_;rintro e w5 hA;have HA:Hid (Qf (.inl c) B R b v L ru ne w e w5):=Qf.up HE4.out hA;obtain⟨f,rfl,_,_⟩:=hA;clear HE4 HI
 go_wp2_with fail
 exact⟨rfl,HA.out⟩
theorem z6E(B R b:Nat)(v:Value)(L:List Tok)(k ru ne:Nat)(w:World)(h:Rd w R b v L k ru ne)(hk:k<L.length)(h5:sgT (gL L k)={data:=#[40]})(n:Nd)(k2:Nat)(HI:Hid (∀W:World,Rd W R b v L k ru ne->w.heap.size+1<=W.heap.size->Calls prog 292 #[.pointer (some ⟨R,0,none⟩)] W fun e w'=>Qf (.inr (n,k2)) (w.heap.size+1) R b v L ru ne W e w'))(hg:Qc L)(hB:B<=w.heap.size):
  Calls prog 282 #[.pointer (some ⟨R,0,none⟩)] w fun e w'=>Qf (.inr (n,k2)) B R b v L ru ne w e w':=by
 have fd0:=Tryz.fld0;have HT:=Jf R b v L k ru ne hk hg;have HS:=Gf R b v L k ru ne hk hg;have h1:(gL L k).1=5:=Gy h5;rw[h5]at HS;clear h5;obtain⟨t,ht⟩:∃t,t=gL L k:=⟨_,rfl⟩;rw[<-ht]at HT h1;clear ht;obtain⟨kd,T,C,p⟩:=t;have h1':kd=5:=h1;subst h1';clear h1;have HE:Hid (En w R b v L k ru ne (w.alloc Zo)):=En.start h;clear h;have hkl:(k:Int)+1<9223372036854775807:=by have:=hg.len;omega
 go_enter func282,ntmps282
 go_wp2_with fail
 refine(HT.out _ HE.out.1).mono ?_;rintro e w1 ⟨rfl,hb1⟩;have HE1:=hid (HE.out.below hb1);clear hb1 HE;dsimp only[tkv];have HE2:=hid ((HE1.out.alloc (.cells #[.int .i64 5,.string T,.int .u64 (wd C 0),.int .u64 (wd C 1),.int .u64 (wd C 2),.int .u64 (wd C 3),.int .i64 p] 183)).alloc (.cells #[.int .i64 0,.string T,.int .u64 (wd C 0),.int .u64 (wd C 1),.int .u64 (wd C 2),.int .u64 (wd C 3),.slice none 0 0,.int .i64 p] 71));clear HT;have HN2:Hid (((w1.alloc (.cells #[.int .i64 5,.string T,.int .u64 (wd C 0),.int .u64 (wd C 1),.int .u64 (wd C 2),.int .u64 (wd C 3),.int .i64 p] 183)).alloc (.cells #[.int .i64 0,.string T,.int .u64 (wd C 0),.int .u64 (wd C 1),.int .u64 (wd C 2),.int .u64 (wd C 3),.slice none 0 0,.int .i64 p] 71)).heap[w1.heap.size+1]? =some (.cells #[.int .i64 0,.string T,.int .u64 (wd C 0),.int .u64 (wd C 1),.int .u64 (wd C 2),.int .u64 (wd C 3),.slice none 0 0,.int .i64 p] 71)):=Qx _ _ (by simp);have HS2:Hid (w.heap.size<w1.heap.size):=HE1.out.size;clear HE1
 go_wp2_with fail
 refine(HS.out _ HE2.out.1).mono ?_;rintro e w3 ⟨rfl,hb3⟩;have HE3:=hid (HE2.out.below hb3);have HN3:=hid ((hb3.block _ (by first|(simp;done)|exact HL2.out)).trans HN2.out);have HL3:Hid (w1.heap.size+1<w3.heap.size):=Nat.lt_of_lt_of_le (by first|(simp;done)|exact HL2.out) hb3.size;clear hb3 HE2 HN2
 go_wp2_with fail
 refine(HS.out _ HE3.out.1).mono ?_;rintro e w4 ⟨rfl,hb4⟩;have HE4:=hid (HE3.out.below hb4);have HN4:=hid ((hb4.block _ (by first|(simp;done)|exact HL3.out)).trans HN3.out);have HL4:Hid (w1.heap.size+1<w4.heap.size):=Nat.lt_of_lt_of_le (by first|(simp;done)|exact HL3.out) hb4.size;clear hb4 HE3 HN3;clear HS HN4
 go_wp2_with fail
 refine(HI.out _ HE4.out.1 HE4.out.size).mono ?_;rintro e w5 ⟨cs,rfl,HN,HRr,HG⟩;have HE5:=hid (HE4.out.grown HRr.out HG.out);clear HE4 HI HRr HG;obtain⟨kd,T',C',so,sl,sc,hcs⟩:=HN.out.shape;obtain⟨p',hp⟩:∃p',p'=n.at':=⟨_,rfl⟩;rw[<-hp]at hcs;subst hcs;clear hp;dsimp only[n8];obtain⟨⟨k0,k1,k2,k3,k4,k5,k6,k7⟩,⟨f0,f1,f2,f3,f4,f5,f6,f7⟩⟩:=HE5.out.cells
 go_wp2_with fail
 (try simp only[Exit.inBlock,Exit.then])
 obtain⟨⟨c0,c1,c2,c3,c4,c5,c6,c7⟩,_⟩:=Qw (Vg HE5.out.2.2.1 (kd:Int) T' (wd C' 0:Nat) (wd C' 1:Nat) (wd C' 2:Nat) (wd C' 3:Nat) (.slice so sl sc) (p':Int));refine bodyPost_ret (v:=.agg (n8 kd T' C' (.slice so sl sc) p').toArray) (by simp[results,Tryz.results282,go_sem,c0,c1,c2,c3,c4,c5,c6,c7]) rfl ?_;exact HE5.out.fin HN.out hB
theorem z6F(B R b:Nat)(v:Value)(L:List Tok)(k ru ne:Nat)(w:World)(h:Rd w R b v L k ru ne)(hk:k<L.length)(h1:(gL L k).1=1)(hh:hdB L k=true)(hg:Qc L)(hB:B<=w.heap.size):
  Calls prog 282 #[.pointer (some ⟨R,0,none⟩)] w fun e w'=>Qf (.inl (wrC (gL L k),(gL L k).2.2.2)) B R b v L ru ne w e w':=by
 have fd0:=Tryz.fld0;have HT:=Jf R b v L k ru ne hk hg;have HH:=z0y R b v L k ru ne hk h1 hg;rw[hh]at HH;have HS:=Gf R b v L k ru ne hk hg;have HW:=By R b v L k ru ne hk hg;rw[show sgT (gL L k)={data:=#[]} by unfold sgT;rw[h1];rfl]at HS;obtain⟨t,ht⟩:∃t,t=gL L k:=⟨_,rfl⟩;rw[<-ht]at HT HW h1 ⊢;clear ht;obtain⟨kd,T,C,p⟩:=t;have h1':kd=1:=h1;subst h1';clear h1;have HE:Hid (En w R b v L k ru ne (w.alloc Zo)):=En.start h;clear h;have hkl:(k:Int)+1<9223372036854775807:=by have:=hg.len;omega
 go_enter func282,ntmps282
 go_wp2_with fail
 refine(HT.out _ HE.out.1).mono ?_;rintro e w1 ⟨rfl,hb1⟩;have HE1:=hid (HE.out.below hb1);clear hb1 HE;dsimp only[tkv];have HE2:=hid ((HE1.out.alloc (.cells #[.int .i64 1,.string T,.int .u64 (wd C 0),.int .u64 (wd C 1),.int .u64 (wd C 2),.int .u64 (wd C 3),.int .i64 p] 183)).alloc (.cells #[.int .i64 0,.string T,.int .u64 (wd C 0),.int .u64 (wd C 1),.int .u64 (wd C 2),.int .u64 (wd C 3),.slice none 0 0,.int .i64 p] 71));clear HT;have HN2:Hid (((w1.alloc (.cells #[.int .i64 1,.string T,.int .u64 (wd C 0),.int .u64 (wd C 1),.int .u64 (wd C 2),.int .u64 (wd C 3),.int .i64 p] 183)).alloc (.cells #[.int .i64 0,.string T,.int .u64 (wd C 0),.int .u64 (wd C 1),.int .u64 (wd C 2),.int .u64 (wd C 3),.slice none 0 0,.int .i64 p] 71)).heap[w1.heap.size+1]? =some (.cells #[.int .i64 0,.string T,.int .u64 (wd C 0),.int .u64 (wd C 1),.int .u64 (wd C 2),.int .u64 (wd C 3),.slice none 0 0,.int .i64 p] 71)):=Qx _ _ (by simp);have HS2:Hid (w.heap.size<w1.heap.size):=HE1.out.size;clear HE1
 go_wp2_with fail
 refine(HH.out _ HE2.out.1).mono ?_;rintro e w3 ⟨rfl,hb3⟩;have HE3:=hid (HE2.out.below hb3);have HN3:=hid ((hb3.block _ (by first|(simp;done)|exact HL2.out)).trans HN2.out);have HL3:Hid (w1.heap.size+1<w3.heap.size):=Nat.lt_of_lt_of_le (by first|(simp;done)|exact HL2.out) hb3.size;have z0:w3.cell? ⟨w1.heap.size,0,none⟩=some (.int .i64 1):=by
  rw[World.cell?_of_block (w:=(w1.alloc (.cells #[.int .i64 1,.string T,.int .u64 (wd C 0),.int .u64 (wd C 1),.int .u64 (wd C 2),.int .u64 (wd C 3),.int .i64 p] 183)).alloc (.cells #[.int .i64 0,.string T,.int .u64 (wd C 0),.int .u64 (wd C 1),.int .u64 (wd C 2),.int .u64 (wd C 3),.slice none 0 0,.int .i64 p] 71)) (hb3.block _ (by simp;omega))];simp
 clear hb3 HE2 HN2;clear HH
 go_wp2_with fail
 refine(HS.out _ HE3.out.1).mono ?_;rintro e w4 ⟨rfl,hb4⟩;have HE4:=hid (HE3.out.below hb4);have HN4:=hid ((hb4.block _ (by first|(simp;done)|exact HL3.out)).trans HN3.out);have HL4:Hid (w1.heap.size+1<w4.heap.size):=Nat.lt_of_lt_of_le (by first|(simp;done)|exact HL3.out) hb4.size;clear hb4 HE3 HN3
 go_wp2_with fail
 refine(HS.out _ HE4.out.1).mono ?_;rintro e w5 ⟨rfl,hb5⟩;have HE5:=hid (HE4.out.below hb5);have HN5:=hid ((hb5.block _ (by first|(simp;done)|exact HL4.out)).trans HN4.out);have HL5:Hid (w1.heap.size+1<w5.heap.size):=Nat.lt_of_lt_of_le (by first|(simp;done)|exact HL4.out) hb5.size;clear hb5 HE4 HN4;clear HS HN5
 go_wp2_with fail
 refine(HW.out _ HE5.out.1).mono ?_;rintro e w6 ⟨f,rfl,HP⟩;have HA:Hid (Qf (.inl (wrC (1,T,C,p),p)) B R b v L ru ne w (.panicked [{v:=.iface 95 (.pointer (some ⟨f,0,none⟩)),recovered:=false}]) w6):=Qf.up (B':=0) (ne':=ne) HE5.out ⟨f,rfl,hid ⟨HP.out.1,HP.out.2.1⟩,hid (G.below HP.out.2.2)⟩;clear HP HE5 HW
 go_wp2_with fail
 exact⟨rfl,HA.out⟩
theorem z6G(R b:Nat)(v:Value)(L:List Tok)(ru ne:Nat)(inn:Nat->Pr)(hg:Qc L)(hi:MC 292 inn (fun k=>sgT (gL L k)={data:=#[40]}) R b v L ru ne):
  MC 282 (Vb L inn) (fun _=>True) R b v L ru ne:=by
 intro k B w h hk _ hB;unfold Vb;by_cases h1:(gL L k).1=1
 ·cases hh:hdB L k with
  |false=>
   rw[if_pos ⟨h1,rfl⟩];exact z6B B R b v L k ru ne w h hk h1 hh hg hB
  |true=>
   rw[if_neg (by simp),if_neg (by omega),if_neg (by omega),if_neg (by unfold sgT;rw[h1];simp),if_neg (by unfold sgT;rw[h1];simp)];exact z6F B R b v L k ru ne w h hk h1 hh hg hB
 rw[if_neg (by omega)];by_cases h3:(gL L k).1=3
 ·rw[if_pos h3]
  exact z6z B R b v L k ru ne w h hk h3 hg hB
 rw[if_neg h3];by_cases h4:(gL L k).1=4
 ·rw[if_pos h4]
  exact z6A B R b v L k ru ne w h hk h4 hg hB
 rw[if_neg h4];by_cases h5:sgT (gL L k)={data:=#[46]}
 ·rw[if_pos h5]
  exact z6C B R b v L k ru ne w h hk h5 hg hB
 rw[if_neg h5];by_cases h6:sgT (gL L k)={data:=#[40]}
 ·rw[if_pos h6]
  have hI:Hid (∀W:World,Rd W R b v L k ru ne->w.heap.size+1<=W.heap.size->Calls prog 292 #[.pointer (some ⟨R,0,none⟩)] W fun e w'=>Qf (inn k) (w.heap.size+1) R b v L ru ne W e w'):=fun W hW hB=>hi k _ W hW hk h6 hB
  cases hs:inn k with
  |inl c=>rw[hs]at hI;exact z6D B R b v L k ru ne w h hk h6 c hI hg hB
  |inr q=>obtain⟨n,k2⟩:=q;rw[hs]at hI;exact z6E B R b v L k ru ne w h hk h6 n k2 hI hg hB
 rw[if_neg h6,Vz hk];rw[Vz hk]at h1 h3 h4 h5 h6;exact z6v B R b v L k ru ne _ w h hk rfl h1 h3 h4 h5 h6 hg.len hB
end Go.Proofs.YtlogolpcipiceaaGreatDoor
