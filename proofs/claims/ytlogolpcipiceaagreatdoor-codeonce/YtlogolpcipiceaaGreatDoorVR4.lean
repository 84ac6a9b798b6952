/- Lemmas for the last text. Conditions: those that each names. -/
import Derived.Test.YtlogolpcipiceaaGreatDoorVQ5ToR3
set_option linter.unusedVariables false
set_option maxRecDepth 100000
set_option maxHeartbeats 4000000
namespace Go.Proofs.YtlogolpcipiceaaGreatDoor
open Go.Proofs.Tryz
section
open Go.RowKit Go.Shelf
attribute [local go_sem] Oper.semAt_some
theorem Mj(kd:Nat)(w:World)(h1:8<=kd)(h2:kd<=12):Calls prog 303 #[.int .i64 kd] w fun e w'=>e=.returned (.string (bsg kd))/\w'=w:=by
 have hk:kd=8∨kd=9∨kd=10∨kd=11∨kd=12:=by omega
 clear h1 h2;rcases hk with rfl|rfl|rfl|rfl|rfl<;>
  (go_enter func303,ntmps303
   go_wp2_with fail
   go_ret;exact⟨rfl,rfl⟩)
theorem z1P{W W':World}(h:Below W.heap.size W W'):W.grownBy W' none:=⟨h.os,h.tape,h.output,h.size,fun j hj _=>h.block j hj⟩
section
variable {s0 l N:Nat} {J Jx:List ByteArray->World->Prop} {QT:ByteArray->ByteArray} {CT:Nat->ByteArray}
theorem z8i(hY:Yl s0 l N J Jx)(m:Nat)(T:ByteArray)(C:Nat)(p:Int)(so:Option Addr)(sl sc:Nat)(pre:List ByteArray)(W:World)(hJ:J pre W)(hl:pre.length+2<=N):
  CallsIn Fence.wide m prog 295 #[(.agg #[.int .i64 (1:Int),.string T,.int .u64 (wd C 0),.int .u64 (wd C 1),.int .u64 (wd C 2),.int .u64 (wd C 3),.slice so sl sc,.int .i64 p]),.func (.yield l) #[] #[]] W (Yp s0 J Jx pre [bO,bC] W):=by
 have hdd:=Xy;have HB:Hid ((W.alloc (.cells #[.int .i64 (1:Int),.string T,.int .u64 (wd C 0),.int .u64 (wd C 1),.int .u64 (wd C 2),.int .u64 (wd C 3),.slice so sl sc,.int .i64 p] 71)).heap[W.heap.size]? =some (.cells #[.int .i64 (1:Int),.string T,.int .u64 (wd C 0),.int .u64 (wd C 1),.int .u64 (wd C 2),.int .u64 (wd C 3),.slice so sl sc,.int .i64 p] 71)):=Qx W _ rfl;have HY1:=hid (hY.call (m-1) pre bO (W.alloc (.cells #[.int .i64 (1:Int),.string T,.int .u64 (wd C 0),.int .u64 (wd C 1),.int .u64 (wd C 2),.int .u64 (wd C 3),.slice so sl sc,.int .i64 p] 71)) (hY.alloc hJ (.cells #[.int .i64 (1:Int),.string T,.int .u64 (wd C 0),.int .u64 (wd C 1),.int .u64 (wd C 2),.int .u64 (wd C 3),.slice so sl sc,.int .i64 p] 71)) (by omega) (by decide));have HY2:=hid (fun(W2:World) (hJ2:J (pre++[bO]) W2)=>hY.call (m-1) _ bC W2 hJ2 (by simp;omega) (by decide));clear hY hJ hl;obtain⟨fn,tmps,assign,Qg,hy,hR⟩:=HY1.out;have HR:=hid hR;clear hR HY1;unfold bO at hy;refine callsIn_of_wp func295 rfl trivial ?_ rfl;simp only[ntmps295,List.size_toArray,List.length_cons,List.length_nil,Nat.reduceAdd,Nat.reduceSub,Array.replicate_succ,Array.replicate_zero,List.push_toArray,List.append_toArray,List.nil_append,List.cons_append]
 gi_wp2
 refine⟨hdd _,HR.out.mono ?_⟩;clear HR hy;rintro e W2 (⟨rfl,hJ2,hk2⟩|⟨rfl,hx2⟩)
 ·obtain⟨fn,tmps,assign,Qg,hy,hR⟩:=HY2.out W2 hJ2
  have HR:=hid hR;have HK2:=hid hk2;clear hR HY2 hJ2 hk2;unfold bC at hy
  gi_wp2
  refine⟨hdd _,HR.out.mono ?_⟩;clear HR hy;rintro e W3 (⟨rfl,hJ3,hk3⟩|⟨rfl,hx3⟩)
  ·gi_wp2
   go_ret;exact .inl ⟨rfl,by simpa [List.append_assoc,bC]using hJ3,((Kt.alloc W _).trans HK2.out).trans hk3⟩
  ·gi_wp2
   go_ret;exact .inr ⟨rfl,[bO,bC],List.prefix_refl _,by simpa [List.append_assoc,bC]using hx3⟩
 ·clear HY2
  gi_wp2
  refine⟨fun _ h=>(by cases h),?_⟩
  gi_wp2
  go_ret;exact .inr ⟨rfl,[bO],⟨[bC],rfl⟩,hx2⟩
theorem z8j(hY:Yl s0 l N J Jx)(m:Nat)(T:ByteArray)(C:Nat)(p:Int)(so:Option Addr)(sl sc:Nat)(pre:List ByteArray)(W:World)(hJ:J pre W)(hl:pre.length+1<=N):
  CallsIn Fence.wide m prog 295 #[(.agg #[.int .i64 (4:Int),.string T,.int .u64 (wd C 0),.int .u64 (wd C 1),.int .u64 (wd C 2),.int .u64 (wd C 3),.slice so sl sc,.int .i64 p]),.func (.yield l) #[] #[]] W (Yp s0 J Jx pre [Mx] W):=by
 have hdd:=Xy;have HY1:=hid (hY.call (m-1) pre Mx (W.alloc (.cells #[.int .i64 (4:Int),.string T,.int .u64 (wd C 0),.int .u64 (wd C 1),.int .u64 (wd C 2),.int .u64 (wd C 3),.slice so sl sc,.int .i64 p] 71)) (hY.alloc hJ (.cells #[.int .i64 (4:Int),.string T,.int .u64 (wd C 0),.int .u64 (wd C 1),.int .u64 (wd C 2),.int .u64 (wd C 3),.slice so sl sc,.int .i64 p] 71)) (by omega) (by decide));clear hY hJ hl;obtain⟨fn,tmps,assign,Qg,hy,hR⟩:=HY1.out;have HR:=hid hR;clear hR HY1;unfold Mx at hy;refine callsIn_of_wp func295 rfl trivial ?_ rfl;simp only[ntmps295,List.size_toArray,List.length_cons,List.length_nil,Nat.reduceAdd,Nat.reduceSub,Array.replicate_succ,Array.replicate_zero,List.push_toArray,List.append_toArray,List.nil_append,List.cons_append]
 gi_wp2
 refine⟨hdd _,HR.out.mono ?_⟩;clear HR hy;rintro e W2 (⟨rfl,hJ2,hk2⟩|⟨rfl,hx2⟩)
 ·gi_wp2
  go_ret;exact .inl ⟨rfl,hJ2,(Kt.alloc W _).trans hk2⟩
 ·gi_wp2
  go_ret;exact .inr ⟨rfl,[Mx],List.prefix_refl _,hx2⟩
theorem z8k(hY:Yl s0 l N J Jx)(m:Nat)(T:ByteArray)(C:Nat)(p:Int)(so:Option Addr)(sl sc:Nat)(pre:List ByteArray)(W:World)(hT:T.size<=4096)(hJ:J pre W)(hl:pre.length+1<=N):
  CallsIn Fence.wide m prog 295 #[(.agg #[.int .i64 (5:Int),.string T,.int .u64 (wd C 0),.int .u64 (wd C 1),.int .u64 (wd C 2),.int .u64 (wd C 3),.slice so sl sc,.int .i64 p]),.func (.yield l) #[] #[]] W (Yp s0 J Jx pre [T] W):=by
 have hdd:=Xy;have HY1:=hid (hY.call (m-1) pre T (W.alloc (.cells #[.int .i64 (5:Int),.string T,.int .u64 (wd C 0),.int .u64 (wd C 1),.int .u64 (wd C 2),.int .u64 (wd C 3),.slice so sl sc,.int .i64 p] 71)) (hY.alloc hJ (.cells #[.int .i64 (5:Int),.string T,.int .u64 (wd C 0),.int .u64 (wd C 1),.int .u64 (wd C 2),.int .u64 (wd C 3),.slice so sl sc,.int .i64 p] 71)) (by omega) hT);clear hY hJ hl;obtain⟨fn,tmps,assign,Qg,hy,hR⟩:=HY1.out;have HR:=hid hR;clear hR HY1;refine callsIn_of_wp func295 rfl trivial ?_ rfl;simp only[ntmps295,List.size_toArray,List.length_cons,List.length_nil,Nat.reduceAdd,Nat.reduceSub,Array.replicate_succ,Array.replicate_zero,List.push_toArray,List.append_toArray,List.nil_append,List.cons_append]
 gi_wp2
 refine⟨hdd _,HR.out.mono ?_⟩;clear HR hy;rintro e W2 (⟨rfl,hJ2,hk2⟩|⟨rfl,hx2⟩)
 ·gi_wp2
  go_ret;exact .inl ⟨rfl,hJ2,(Kt.alloc W _).trans hk2⟩
 ·gi_wp2
  go_ret;exact .inr ⟨rfl,[T],List.prefix_refl _,hx2⟩
theorem z8l(hY:Yl s0 l N J Jx)(m:Nat)(T:ByteArray)(C:Nat)(p:Int)(so:Option Addr)(sl sc:Nat)(pre:List ByteArray)(W:World)(hT:T.size<=255)(hz:(nb (qt T)).size<=4096)(hJ:J pre W)(hl:pre.length+1<=N):
  CallsIn Fence.wide m prog 295 #[(.agg #[.int .i64 (2:Int),.string T,.int .u64 (wd C 0),.int .u64 (wd C 1),.int .u64 (wd C 2),.int .u64 (wd C 3),.slice so sl sc,.int .i64 p]),.func (.yield l) #[] #[]] W (Yp s0 J Jx pre [(nb (qt T))] W):=by
 have hdd:=Xy;obtain⟨W1,hW1⟩:∃W1,W1=W.alloc (.cells #[.int .i64 (2:Int),.string T,.int .u64 (wd C 0),.int .u64 (wd C 1),.int .u64 (wd C 2),.int .u64 (wd C 3),.slice so sl sc,.int .i64 p] 71):=⟨_,rfl⟩;have HW1:=hid hW1;have HK1:Hid (Kt s0 W W1):=by rw[hW1];exact Kt.alloc W _
 have HJ1:Hid (J pre W1):=by rw[hW1];exact hY.alloc hJ _
 have HC:=hid (z7k T W1 (by omega));have HY2:=hid (fun(W2:World) (hb:Below W1.heap.size W1 W2)=>hY.call (m-1) pre (nb (qt T)) W2 (hY.grow _ _ _ HJ1.out (z1P hb)) (by omega) hz);clear hY hJ hl hW1;obtain⟨X,hX⟩:∃X,X=(nb (qt T)):=⟨_,rfl⟩;rw[<-hX]at HC HY2 ⊢;clear hX hz;refine callsIn_of_wp func295 rfl trivial ?_ rfl;simp only[ntmps295,List.size_toArray,List.length_cons,List.length_nil,Nat.reduceAdd,Nat.reduceSub,Array.replicate_succ,Array.replicate_zero,List.push_toArray,List.append_toArray,List.nil_append,List.cons_append]
 gi_wp2
 rw[<-HW1.out];refine⟨trivial,hdd _,?_⟩;refine(callsIn_wide.2 HC.out).mono ?_;clear HC;rintro e W2 ⟨rfl,hb2⟩;obtain⟨fn,tmps,assign,Qg,hy,hR⟩:=HY2.out W2 hb2;have HR:=hid hR;have HK2:=hid (Kt.below (s0:=s0) hb2);clear hR HY2 hb2
 gi_wp2
 refine⟨hdd _,HR.out.mono ?_⟩;clear HR hy;rintro e W3 (⟨rfl,hJ2,hk2⟩|⟨rfl,hx2⟩)
 ·gi_wp2
  go_ret;exact .inl ⟨rfl,hJ2,(HK1.out.trans HK2.out).trans hk2⟩
 ·gi_wp2
  go_ret;exact .inr ⟨rfl,[X],List.prefix_refl _,hx2⟩
theorem z8m(hY:Yl s0 l N J Jx)(m:Nat)(T:ByteArray)(C:Nat)(p:Int)(so:Option Addr)(sl sc:Nat)(pre:List ByteArray)(W:World)(hC:C<2^256)(hz:(nb (txt C)).size<=4096)(hTab:TabIs W)(hJ:J pre W)(hl:pre.length+1<=N):
  CallsIn Fence.wide m prog 295 #[(.agg #[.int .i64 (3:Int),.string T,.int .u64 (wd C 0),.int .u64 (wd C 1),.int .u64 (wd C 2),.int .u64 (wd C 3),.slice so sl sc,.int .i64 p]),.func (.yield l) #[] #[]] W (Yp s0 J Jx pre [(nb (txt C))] W):=by
 have hdd:=Xy;obtain⟨W1,hW1⟩:∃W1,W1=W.alloc (.cells #[.int .i64 (3:Int),.string T,.int .u64 (wd C 0),.int .u64 (wd C 1),.int .u64 (wd C 2),.int .u64 (wd C 3),.slice so sl sc,.int .i64 p] 71):=⟨_,rfl⟩;have HW1:=hid hW1;have HK1:Hid (Kt s0 W W1):=by rw[hW1];exact Kt.alloc W _
 have HJ1:Hid (J pre W1):=by rw[hW1];exact hY.alloc hJ _
 have HC:=hid (z7B C W1 hC (HK1.out.tab hTab));have HY2:=hid (fun(W2:World) (hb:Below W1.heap.size W1 W2)=>hY.call (m-1) pre (nb (txt C)) W2 (hY.grow _ _ _ HJ1.out (z1P hb)) (by omega) hz);clear hY hJ hl hW1;obtain⟨X,hX⟩:∃X,X=(nb (txt C)):=⟨_,rfl⟩;rw[<-hX]at HC HY2 ⊢;clear hX hz;unfold cv at HC;refine callsIn_of_wp func295 rfl trivial ?_ rfl;simp only[ntmps295,List.size_toArray,List.length_cons,List.length_nil,Nat.reduceAdd,Nat.reduceSub,Array.replicate_succ,Array.replicate_zero,List.push_toArray,List.append_toArray,List.nil_append,List.cons_append]
 gi_wp2
 rw[<-HW1.out];refine⟨trivial,hdd _,?_⟩;refine(callsIn_wide.2 HC.out).mono ?_;clear HC;rintro e W2 ⟨rfl,hb2⟩;obtain⟨fn,tmps,assign,Qg,hy,hR⟩:=HY2.out W2 hb2;have HR:=hid hR;have HK2:=hid (Kt.below (s0:=s0) hb2);clear hR HY2 hb2
 gi_wp2
 refine⟨hdd _,HR.out.mono ?_⟩;clear HR hy;rintro e W3 (⟨rfl,hJ2,hk2⟩|⟨rfl,hx2⟩)
 ·gi_wp2
  go_ret;exact .inl ⟨rfl,hJ2,(HK1.out.trans HK2.out).trans hk2⟩
 ·gi_wp2
  go_ret;exact .inr ⟨rfl,[X],List.prefix_refl _,hx2⟩
theorem z8n(hY:Yl s0 l N J Jx)(m:Nat)(T:ByteArray)(C:Nat)(p:Int)(so:Option Addr)(sl sc:Nat)(pre:List ByteArray)(W:World)(ps:List ByteArray)(hP:∀W1,Kt s0 W W1->J pre W1->CallsIn Fence.wide (m-1) prog 302 #[(.agg #[.int .i64 (6:Int),.string T,.int .u64 (wd C 0),.int .u64 (wd C 1),.int .u64 (wd C 2),.int .u64 (wd C 3),.slice so sl sc,.int .i64 p]),.string {data:=#[32]},.func (.yield l) #[] #[]] W1 (Yp s0 J Jx pre ps W1))(hJ:J pre W):
  CallsIn Fence.wide m prog 295 #[(.agg #[.int .i64 (6:Int),.string T,.int .u64 (wd C 0),.int .u64 (wd C 1),.int .u64 (wd C 2),.int .u64 (wd C 3),.slice so sl sc,.int .i64 p]),.func (.yield l) #[] #[]] W (Yp s0 J Jx pre ps W):=by
 have hdd:=Xy;have HP:=hid (hP (W.alloc (.cells #[.int .i64 (6:Int),.string T,.int .u64 (wd C 0),.int .u64 (wd C 1),.int .u64 (wd C 2),.int .u64 (wd C 3),.slice so sl sc,.int .i64 p] 71)) (Kt.alloc W _) (hY.alloc hJ _));clear hP hY hJ;refine callsIn_of_wp func295 rfl trivial ?_ rfl;simp only[ntmps295,List.size_toArray,List.length_cons,List.length_nil,Nat.reduceAdd,Nat.reduceSub,Array.replicate_succ,Array.replicate_zero,List.push_toArray,List.append_toArray,List.nil_append,List.cons_append]
 gi_wp2
 refine⟨trivial,hdd _,HP.out.mono ?_⟩;clear HP;rintro e W2 (⟨rfl,hJ2,hk2⟩|⟨rfl,q,hq,hx2⟩)
 ·gi_wp2
  go_ret;exact .inl ⟨rfl,hJ2,(Kt.alloc W _).trans hk2⟩
 ·gi_wp2
  go_ret;exact .inr ⟨rfl,q,hq,hx2⟩
theorem z8o(hY:Yl s0 l N J Jx)(m:Nat)(T:ByteArray)(C:Nat)(p:Int)(so:Option Addr)(sl sc:Nat)(pre:List ByteArray)(W:World)(ps:List ByteArray)(hP:∀W1,Kt s0 W W1->J pre W1->CallsIn Fence.wide (m-1) prog 302 #[(.agg #[.int .i64 (7:Int),.string T,.int .u64 (wd C 0),.int .u64 (wd C 1),.int .u64 (wd C 2),.int .u64 (wd C 3),.slice so sl sc,.int .i64 p]),.string {data:=#[32,47,32]},.func (.yield l) #[] #[]] W1 (Yp s0 J Jx pre ps W1))(hJ:J pre W):
  CallsIn Fence.wide m prog 295 #[(.agg #[.int .i64 (7:Int),.string T,.int .u64 (wd C 0),.int .u64 (wd C 1),.int .u64 (wd C 2),.int .u64 (wd C 3),.slice so sl sc,.int .i64 p]),.func (.yield l) #[] #[]] W (Yp s0 J Jx pre ps W):=by
 have hdd:=Xy;have HP:=hid (hP (W.alloc (.cells #[.int .i64 (7:Int),.string T,.int .u64 (wd C 0),.int .u64 (wd C 1),.int .u64 (wd C 2),.int .u64 (wd C 3),.slice so sl sc,.int .i64 p] 71)) (Kt.alloc W _) (hY.alloc hJ _));clear hP hY hJ;refine callsIn_of_wp func295 rfl trivial ?_ rfl;simp only[ntmps295,List.size_toArray,List.length_cons,List.length_nil,Nat.reduceAdd,Nat.reduceSub,Array.replicate_succ,Array.replicate_zero,List.push_toArray,List.append_toArray,List.nil_append,List.cons_append]
 gi_wp2
 refine⟨trivial,hdd _,HP.out.mono ?_⟩;clear HP;rintro e W2 (⟨rfl,hJ2,hk2⟩|⟨rfl,q,hq,hx2⟩)
 ·gi_wp2
  go_ret;exact .inl ⟨rfl,hJ2,(Kt.alloc W _).trans hk2⟩
 ·gi_wp2
  go_ret;exact .inr ⟨rfl,q,hq,hx2⟩
theorem z8p(hY:Yl s0 l N J Jx)(m:Nat)(T:ByteArray)(C:Nat)(p:Int)(so:Option Addr)(sl sc:Nat)(pre:List ByteArray)(W:World)(ps:List ByteArray)(hP:∀W1,Kt s0 W W1->J (pre++[bsg 11]) W1->CallsIn Fence.wide (m-1) prog 302 #[(.agg #[.int .i64 (11:Int),.string T,.int .u64 (wd C 0),.int .u64 (wd C 1),.int .u64 (wd C 2),.int .u64 (wd C 3),.slice so sl sc,.int .i64 p]),.string ⟨#[]⟩,.func (.yield l) #[] #[]] W1 (Yp s0 J Jx (pre++[bsg 11]) ps W1))(hJ:J pre W)(hl:pre.length+1<=N):
  CallsIn Fence.wide m prog 295 #[(.agg #[.int .i64 (11:Int),.string T,.int .u64 (wd C 0),.int .u64 (wd C 1),.int .u64 (wd C 2),.int .u64 (wd C 3),.slice so sl sc,.int .i64 p]),.func (.yield l) #[] #[]] W (Yp s0 J Jx pre (bsg 11::ps) W):=by
 have hdd:=Xy;have HB:Hid ((W.alloc (.cells #[.int .i64 (11:Int),.string T,.int .u64 (wd C 0),.int .u64 (wd C 1),.int .u64 (wd C 2),.int .u64 (wd C 3),.slice so sl sc,.int .i64 p] 71)).heap[W.heap.size]? =some (.cells #[.int .i64 (11:Int),.string T,.int .u64 (wd C 0),.int .u64 (wd C 1),.int .u64 (wd C 2),.int .u64 (wd C 3),.slice so sl sc,.int .i64 p] 71)):=Qx W _ rfl;have HS:=hid (fun w:World=>Mj 11 w (by decide) (by decide));have HY1:=hid (hY.call (m-1) pre (bsg 11) (W.alloc (.cells #[.int .i64 (11:Int),.string T,.int .u64 (wd C 0),.int .u64 (wd C 1),.int .u64 (wd C 2),.int .u64 (wd C 3),.slice so sl sc,.int .i64 p] 71)) (hY.alloc hJ (.cells #[.int .i64 (11:Int),.string T,.int .u64 (wd C 0),.int .u64 (wd C 1),.int .u64 (wd C 2),.int .u64 (wd C 3),.slice so sl sc,.int .i64 p] 71)) (by omega) (by decide));have HP:=hid hP;clear hY hJ hl hP;obtain⟨fn,tmps,assign,Qg,hy,hR⟩:=HY1.out;have HR:=hid hR;clear hR HY1;refine callsIn_of_wp func295 rfl trivial ?_ rfl;simp only[ntmps295,List.size_toArray,List.length_cons,List.length_nil,Nat.reduceAdd,Nat.reduceSub,Array.replicate_succ,Array.replicate_zero,List.push_toArray,List.append_toArray,List.nil_append,List.cons_append]
 gi_wp2
 refine⟨trivial,hdd _,(callsIn_wide.2 (HS.out _)).mono ?_⟩;rintro e W1 ⟨rfl,rfl⟩
 gi_wp2
 refine⟨hdd _,HR.out.mono ?_⟩;clear HR hy;rintro e W2 (⟨rfl,hJ2,hk2⟩|⟨rfl,hx2⟩)
 ·obtain⟨⟨c0,c1,c2,c3,c4,c5,c6,c7⟩,_⟩:=Qw (hk2.eight HB.out)
  have HP2:=hid (HP.out W2 ((Kt.alloc W _).trans hk2) hJ2);have HK2:=hid hk2;clear HP hJ2 hk2
  gi_wp2
  refine⟨trivial,hdd _,HP2.out.mono ?_⟩;clear HP2;rintro e W3 (⟨rfl,hJ3,hk3⟩|⟨rfl,q,hq,hx3⟩)
  ·gi_wp2
   go_ret;exact .inl ⟨rfl,by simpa [List.append_assoc]using hJ3,((Kt.alloc W _).trans HK2.out).trans hk3⟩
  ·gi_wp2
   go_ret;obtain⟨r,hr⟩:=hq;exact .inr ⟨rfl,bsg 11::q,⟨r,by rw[<-hr];rfl⟩,by simpa [List.append_assoc]using hx3⟩
 ·clear HP
  gi_wp2
  refine⟨trivial,?_⟩
  gi_wp2
  go_ret;exact .inr ⟨rfl,[bsg 11],⟨ps,rfl⟩,hx2⟩
theorem z8q(hY:Yl s0 l N J Jx)(m:Nat)(T:ByteArray)(C:Nat)(p:Int)(so:Option Addr)(sl sc:Nat)(pre:List ByteArray)(W:World)(ps:List ByteArray)(hP:∀W1,Kt s0 W W1->J (pre++[bsg 12]) W1->CallsIn Fence.wide (m-1) prog 302 #[(.agg #[.int .i64 (12:Int),.string T,.int .u64 (wd C 0),.int .u64 (wd C 1),.int .u64 (wd C 2),.int .u64 (wd C 3),.slice so sl sc,.int .i64 p]),.string ⟨#[]⟩,.func (.yield l) #[] #[]] W1 (Yp s0 J Jx (pre++[bsg 12]) ps W1))(hJ:J pre W)(hl:pre.length+1<=N):
  CallsIn Fence.wide m prog 295 #[(.agg #[.int .i64 (12:Int),.string T,.int .u64 (wd C 0),.int .u64 (wd C 1),.int .u64 (wd C 2),.int .u64 (wd C 3),.slice so sl sc,.int .i64 p]),.func (.yield l) #[] #[]] W (Yp s0 J Jx pre (bsg 12::ps) W):=by
 have hdd:=Xy;have HB:Hid ((W.alloc (.cells #[.int .i64 (12:Int),.string T,.int .u64 (wd C 0),.int .u64 (wd C 1),.int .u64 (wd C 2),.int .u64 (wd C 3),.slice so sl sc,.int .i64 p] 71)).heap[W.heap.size]? =some (.cells #[.int .i64 (12:Int),.string T,.int .u64 (wd C 0),.int .u64 (wd C 1),.int .u64 (wd C 2),.int .u64 (wd C 3),.slice so sl sc,.int .i64 p] 71)):=Qx W _ rfl;have HS:=hid (fun w:World=>Mj 12 w (by decide) (by decide));have HY1:=hid (hY.call (m-1) pre (bsg 12) (W.alloc (.cells #[.int .i64 (12:Int),.string T,.int .u64 (wd C 0),.int .u64 (wd C 1),.int .u64 (wd C 2),.int .u64 (wd C 3),.slice so sl sc,.int .i64 p] 71)) (hY.alloc hJ (.cells #[.int .i64 (12:Int),.string T,.int .u64 (wd C 0),.int .u64 (wd C 1),.int .u64 (wd C 2),.int .u64 (wd C 3),.slice so sl sc,.int .i64 p] 71)) (by omega) (by decide));have HP:=hid hP;clear hY hJ hl hP;obtain⟨fn,tmps,assign,Qg,hy,hR⟩:=HY1.out;have HR:=hid hR;clear hR HY1;refine callsIn_of_wp func295 rfl trivial ?_ rfl;simp only[ntmps295,List.size_toArray,List.length_cons,List.length_nil,Nat.reduceAdd,Nat.reduceSub,Array.replicate_succ,Array.replicate_zero,List.push_toArray,List.append_toArray,List.nil_append,List.cons_append]
 gi_wp2
 refine⟨trivial,hdd _,(callsIn_wide.2 (HS.out _)).mono ?_⟩;rintro e W1 ⟨rfl,rfl⟩
 gi_wp2
 refine⟨hdd _,HR.out.mono ?_⟩;clear HR hy;rintro e W2 (⟨rfl,hJ2,hk2⟩|⟨rfl,hx2⟩)
 ·obtain⟨⟨c0,c1,c2,c3,c4,c5,c6,c7⟩,_⟩:=Qw (hk2.eight HB.out)
  have HP2:=hid (HP.out W2 ((Kt.alloc W _).trans hk2) hJ2);have HK2:=hid hk2;clear HP hJ2 hk2
  gi_wp2
  refine⟨trivial,hdd _,HP2.out.mono ?_⟩;clear HP2;rintro e W3 (⟨rfl,hJ3,hk3⟩|⟨rfl,q,hq,hx3⟩)
  ·gi_wp2
   go_ret;exact .inl ⟨rfl,by simpa [List.append_assoc]using hJ3,((Kt.alloc W _).trans HK2.out).trans hk3⟩
  ·gi_wp2
   go_ret;obtain⟨r,hr⟩:=hq;exact .inr ⟨rfl,bsg 12::q,⟨r,by rw[<-hr];rfl⟩,by simpa [List.append_assoc]using hx3⟩
 ·clear HP
  gi_wp2
  refine⟨trivial,?_⟩
  gi_wp2
  go_ret;exact .inr ⟨rfl,[bsg 12],⟨ps,rfl⟩,hx2⟩
theorem z8r(hY:Yl s0 l N J Jx)(m:Nat)(T:ByteArray)(C:Nat)(p:Int)(so:Option Addr)(sl sc:Nat)(pre:List ByteArray)(W:World)(ps:List ByteArray)(hP:∀W1,Kt s0 W W1->J pre W1->CallsIn Fence.wide (m-1) prog 302 #[(.agg #[.int .i64 (8:Int),.string T,.int .u64 (wd C 0),.int .u64 (wd C 1),.int .u64 (wd C 2),.int .u64 (wd C 3),.slice so sl sc,.int .i64 p]),.string ⟨#[]⟩,.func (.yield l) #[] #[]] W1 (Yp s0 J Jx pre ps W1))(hJ:J pre W)(hl:pre.length+(ps.length+1)<=N):
  CallsIn Fence.wide m prog 295 #[(.agg #[.int .i64 (8:Int),.string T,.int .u64 (wd C 0),.int .u64 (wd C 1),.int .u64 (wd C 2),.int .u64 (wd C 3),.slice so sl sc,.int .i64 p]),.func (.yield l) #[] #[]] W (Yp s0 J Jx pre (ps++[bsg 8]) W):=by
 have hdd:=Xy;have HB:Hid ((W.alloc (.cells #[.int .i64 (8:Int),.string T,.int .u64 (wd C 0),.int .u64 (wd C 1),.int .u64 (wd C 2),.int .u64 (wd C 3),.slice so sl sc,.int .i64 p] 71)).heap[W.heap.size]? =some (.cells #[.int .i64 (8:Int),.string T,.int .u64 (wd C 0),.int .u64 (wd C 1),.int .u64 (wd C 2),.int .u64 (wd C 3),.slice so sl sc,.int .i64 p] 71)):=Qx W _ rfl;have HS:=hid (fun w:World=>Mj 8 w (by decide) (by decide));have HP:=hid (hP (W.alloc (.cells #[.int .i64 (8:Int),.string T,.int .u64 (wd C 0),.int .u64 (wd C 1),.int .u64 (wd C 2),.int .u64 (wd C 3),.slice so sl sc,.int .i64 p] 71)) (Kt.alloc W _) (hY.alloc hJ _));have HY2:=hid (fun(W2:World) (hJ2:J (pre++ps) W2)=>hY.call (m-1) _ (bsg 8) W2 hJ2 (by simp;omega) (by decide));clear hY hJ hl hP;refine callsIn_of_wp func295 rfl trivial ?_ rfl;simp only[ntmps295,List.size_toArray,List.length_cons,List.length_nil,Nat.reduceAdd,Nat.reduceSub,Array.replicate_succ,Array.replicate_zero,List.push_toArray,List.append_toArray,List.nil_append,List.cons_append]
 gi_wp2
 refine⟨trivial,hdd _,HP.out.mono ?_⟩;clear HP;rintro e W2 (⟨rfl,hJ2,hk2⟩|⟨rfl,q,hq,hx2⟩)
 ·obtain⟨⟨c0,c1,c2,c3,c4,c5,c6,c7⟩,_⟩:=Qw (hk2.eight HB.out)
  obtain⟨fn,tmps,assign,Qg,hy,hR⟩:=HY2.out W2 hJ2;have HR:=hid hR;have HK2:=hid hk2;clear hR HY2 hJ2 hk2
  gi_wp2
  refine⟨trivial,hdd _,(callsIn_wide.2 (HS.out _)).mono ?_⟩;rintro e W3 ⟨rfl,rfl⟩
  gi_wp2
  refine⟨hdd _,HR.out.mono ?_⟩;clear HR hy;rintro e W4 (⟨rfl,hJ3,hk3⟩|⟨rfl,hx3⟩)
  ·gi_wp2
   go_ret;exact .inl ⟨rfl,by simpa [List.append_assoc]using hJ3,((Kt.alloc W _).trans HK2.out).trans hk3⟩
  ·gi_wp2
   go_ret;exact .inr ⟨rfl,ps++[bsg 8],List.prefix_refl _,by simpa [List.append_assoc]using hx3⟩
 ·clear HY2
  gi_wp2
  refine⟨trivial,?_⟩
  gi_wp2
  refine⟨fun _ h=>(by cases h),?_⟩
  gi_wp2
  go_ret;obtain⟨r,hr⟩:=hq;exact .inr ⟨rfl,q,⟨r++[bsg 8],by rw[<-hr];simp⟩,hx2⟩
theorem z8s(hY:Yl s0 l N J Jx)(m:Nat)(T:ByteArray)(C:Nat)(p:Int)(so:Option Addr)(sl sc:Nat)(pre:List ByteArray)(W:World)(ps:List ByteArray)(hP:∀W1,Kt s0 W W1->J pre W1->CallsIn Fence.wide (m-1) prog 302 #[(.agg #[.int .i64 (9:Int),.string T,.int .u64 (wd C 0),.int .u64 (wd C 1),.int .u64 (wd C 2),.int .u64 (wd C 3),.slice so sl sc,.int .i64 p]),.string ⟨#[]⟩,.func (.yield l) #[] #[]] W1 (Yp s0 J Jx pre ps W1))(hJ:J pre W)(hl:pre.length+(ps.length+1)<=N):
  CallsIn Fence.wide m prog 295 #[(.agg #[.int .i64 (9:Int),.string T,.int .u64 (wd C 0),.int .u64 (wd C 1),.int .u64 (wd C 2),.int .u64 (wd C 3),.slice so sl sc,.int .i64 p]),.func (.yield l) #[] #[]] W (Yp s0 J Jx pre (ps++[bsg 9]) W):=by
 have hdd:=Xy;have HB:Hid ((W.alloc (.cells #[.int .i64 (9:Int),.string T,.int .u64 (wd C 0),.int .u64 (wd C 1),.int .u64 (wd C 2),.int .u64 (wd C 3),.slice so sl sc,.int .i64 p] 71)).heap[W.heap.size]? =some (.cells #[.int .i64 (9:Int),.string T,.int .u64 (wd C 0),.int .u64 (wd C 1),.int .u64 (wd C 2),.int .u64 (wd C 3),.slice so sl sc,.int .i64 p] 71)):=Qx W _ rfl;have HS:=hid (fun w:World=>Mj 9 w (by decide) (by decide));have HP:=hid (hP (W.alloc (.cells #[.int .i64 (9:Int),.string T,.int .u64 (wd C 0),.int .u64 (wd C 1),.int .u64 (wd C 2),.int .u64 (wd C 3),.slice so sl sc,.int .i64 p] 71)) (Kt.alloc W _) (hY.alloc hJ _));have HY2:=hid (fun(W2:World) (hJ2:J (pre++ps) W2)=>hY.call (m-1) _ (bsg 9) W2 hJ2 (by simp;omega) (by decide));clear hY hJ hl hP;refine callsIn_of_wp func295 rfl trivial ?_ rfl;simp only[ntmps295,List.size_toArray,List.length_cons,List.length_nil,Nat.reduceAdd,Nat.reduceSub,Array.replicate_succ,Array.replicate_zero,List.push_toArray,List.append_toArray,List.nil_append,List.cons_append]
 gi_wp2
 refine⟨trivial,hdd _,HP.out.mono ?_⟩;clear HP;rintro e W2 (⟨rfl,hJ2,hk2⟩|⟨rfl,q,hq,hx2⟩)
 ·obtain⟨⟨c0,c1,c2,c3,c4,c5,c6,c7⟩,_⟩:=Qw (hk2.eight HB.out)
  obtain⟨fn,tmps,assign,Qg,hy,hR⟩:=HY2.out W2 hJ2;have HR:=hid hR;have HK2:=hid hk2;clear hR HY2 hJ2 hk2
  gi_wp2
  refine⟨trivial,hdd _,(callsIn_wide.2 (HS.out _)).mono ?_⟩;rintro e W3 ⟨rfl,rfl⟩
  gi_wp2
  refine⟨hdd _,HR.out.mono ?_⟩;clear HR hy;rintro e W4 (⟨rfl,hJ3,hk3⟩|⟨rfl,hx3⟩)
  ·gi_wp2
   go_ret;exact .inl ⟨rfl,by simpa [List.append_assoc]using hJ3,((Kt.alloc W _).trans HK2.out).trans hk3⟩
  ·gi_wp2
   go_ret;exact .inr ⟨rfl,ps++[bsg 9],List.prefix_refl _,by simpa [List.append_assoc]using hx3⟩
 ·clear HY2
  gi_wp2
  refine⟨trivial,?_⟩
  gi_wp2
  refine⟨fun _ h=>(by cases h),?_⟩
  gi_wp2
  go_ret;obtain⟨r,hr⟩:=hq;exact .inr ⟨rfl,q,⟨r++[bsg 9],by rw[<-hr];simp⟩,hx2⟩
theorem z8t(hY:Yl s0 l N J Jx)(m:Nat)(T:ByteArray)(C:Nat)(p:Int)(so:Option Addr)(sl sc:Nat)(pre:List ByteArray)(W:World)(ps:List ByteArray)(hP:∀W1,Kt s0 W W1->J pre W1->CallsIn Fence.wide (m-1) prog 302 #[(.agg #[.int .i64 (10:Int),.string T,.int .u64 (wd C 0),.int .u64 (wd C 1),.int .u64 (wd C 2),.int .u64 (wd C 3),.slice so sl sc,.int .i64 p]),.string ⟨#[]⟩,.func (.yield l) #[] #[]] W1 (Yp s0 J Jx pre ps W1))(hJ:J pre W)(hl:pre.length+(ps.length+1)<=N):
  CallsIn Fence.wide m prog 295 #[(.agg #[.int .i64 (10:Int),.string T,.int .u64 (wd C 0),.int .u64 (wd C 1),.int .u64 (wd C 2),.int .u64 (wd C 3),.slice so sl sc,.int .i64 p]),.func (.yield l) #[] #[]] W (Yp s0 J Jx pre (ps++[bsg 10]) W):=by
 have hdd:=Xy;have HB:Hid ((W.alloc (.cells #[.int .i64 (10:Int),.string T,.int .u64 (wd C 0),.int .u64 (wd C 1),.int .u64 (wd C 2),.int .u64 (wd C 3),.slice so sl sc,.int .i64 p] 71)).heap[W.heap.size]? =some (.cells #[.int .i64 (10:Int),.string T,.int .u64 (wd C 0),.int .u64 (wd C 1),.int .u64 (wd C 2),.int .u64 (wd C 3),.slice so sl sc,.int .i64 p] 71)):=Qx W _ rfl;have HS:=hid (fun w:World=>Mj 10 w (by decide) (by decide));have HP:=hid (hP (W.alloc (.cells #[.int .i64 (10:Int),.string T,.int .u64 (wd C 0),.int .u64 (wd C 1),.int .u64 (wd C 2),.int .u64 (wd C 3),.slice so sl sc,.int .i64 p] 71)) (Kt.alloc W _) (hY.alloc hJ _));have HY2:=hid (fun(W2:World) (hJ2:J (pre++ps) W2)=>hY.call (m-1) _ (bsg 10) W2 hJ2 (by simp;omega) (by decide));clear hY hJ hl hP;refine callsIn_of_wp func295 rfl trivial ?_ rfl;simp only[ntmps295,List.size_toArray,List.length_cons,List.length_nil,Nat.reduceAdd,Nat.reduceSub,Array.replicate_succ,Array.replicate_zero,List.push_toArray,List.append_toArray,List.nil_append,List.cons_append]
 gi_wp2
 refine⟨trivial,hdd _,HP.out.mono ?_⟩;clear HP;rintro e W2 (⟨rfl,hJ2,hk2⟩|⟨rfl,q,hq,hx2⟩)
 ·obtain⟨⟨c0,c1,c2,c3,c4,c5,c6,c7⟩,_⟩:=Qw (hk2.eight HB.out)
  obtain⟨fn,tmps,assign,Qg,hy,hR⟩:=HY2.out W2 hJ2;have HR:=hid hR;have HK2:=hid hk2;clear hR HY2 hJ2 hk2
  gi_wp2
  refine⟨trivial,hdd _,(callsIn_wide.2 (HS.out _)).mono ?_⟩;rintro e W3 ⟨rfl,rfl⟩
  gi_wp2
  refine⟨hdd _,HR.out.mono ?_⟩;clear HR hy;rintro e W4 (⟨rfl,hJ3,hk3⟩|⟨rfl,hx3⟩)
  ·gi_wp2
   go_ret;exact .inl ⟨rfl,by simpa [List.append_assoc]using hJ3,((Kt.alloc W _).trans HK2.out).trans hk3⟩
  ·gi_wp2
   go_ret;exact .inr ⟨rfl,ps++[bsg 10],List.prefix_refl _,by simpa [List.append_assoc]using hx3⟩
 ·clear HY2
  gi_wp2
  refine⟨trivial,?_⟩
  gi_wp2
  refine⟨fun _ h=>(by cases h),?_⟩
  gi_wp2
  go_ret;obtain⟨r,hr⟩:=hq;exact .inr ⟨rfl,q,⟨r++[bsg 10],by rw[<-hr];simp⟩,hx2⟩
end
end
end Go.Proofs.YtlogolpcipiceaaGreatDoor
