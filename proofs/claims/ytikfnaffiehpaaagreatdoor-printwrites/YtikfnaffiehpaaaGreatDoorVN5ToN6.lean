/- Lemmas for the last text. Conditions: those that each names. -/
import Derived.Test.YtikfnaffiehpaaaGreatDoorVS3ToXK1
import Derived.Test.YtikfnaffiehpaaaGreatDoorVXR1ToQ6
set_option linter.unusedVariables false
set_option maxRecDepth 100000
set_option maxHeartbeats 8000000
namespace Go.Proofs.YtikfnaffiehpaaaGreatDoor
open Go.Proofs.Tryz
open Go.RowKit Go.Shelf
variable {Pb base g:Nat} {X:ByteArray} {w:World}
def PgA(base Pb:Nat)(X:ByteArray)(w:World)(e:Ending)(w':World):Prop:=e=.returned (.tuple #[])/\Hid (Pg base Pb X w')/\Hid (Below base w w')/\Hid (Kq w w')
theorem PgA.up{W:World}{e:Ending}{w':World}(hb:Below base w W)(hk:Kq w W)(h:PgA base Pb X W e w'):PgA base Pb X w e w':=
 ⟨h.1,h.2.1,hid (hb.trans h.2.2.1.out),hid (hk.trans h.2.2.2.out)⟩
theorem Nx(h:Pg base Pb X w):base<=w.heap.size:=by have:=h.1;have:=h.2.1;omega
theorem Xf(h:Pg base Pb X w)(o:Obj):Pg base Pb X (w.alloc o)/\Below base w (w.alloc o)/\Kq w (w.alloc o):=by
 have hb:Below w.heap.size w (w.alloc o):=(Below.refl _ w).alloc L0q _;exact⟨h.below hb,hb.mono (Nx h),Kq.below hb⟩
theorem Ks.new1(w:World)(x:Int)(hg:g=w.heap.size):Ks (w.alloc (.cells #[.int .i64 x] 3)) g [x]:=⟨_,Qq w _ hg,fun i hi=>by
 match i,hi with
 |0,_=>rfl⟩
theorem Ks.new2(w:World)(x y:Int)(hg:g=w.heap.size):Ks (w.alloc (.cells #[.int .i64 x,.int .i64 y] 3)) g [x,y]:=⟨_,Qq w _ hg,fun i hi=>by
 match i,hi with
 |0,_=>rfl
 |1,_=>rfl⟩
theorem Ks.new4(w:World)(x y z u:Int)(hg:g=w.heap.size):Ks (w.alloc (.cells #[.int .i64 x,.int .i64 y,.int .i64 z,.int .i64 u] 3)) g [x,y,z,u]:=⟨_,Qq w _ hg,fun i hi=>by
 match i,hi with
 |0,_=>rfl
 |1,_=>rfl
 |2,_=>rfl
 |3,_=>rfl⟩
theorem Ks.new7(w:World)(x y z u r s t:Int)(hg:g=w.heap.size):Ks (w.alloc (.cells #[.int .i64 x,.int .i64 y,.int .i64 z,.int .i64 u,.int .i64 r,.int .i64 s,.int .i64 t] 3)) g [x,y,z,u,r,s,t]:=⟨_,Qq w _ hg,fun i hi=>by
 match i,hi with
 |0,_=>rfl
 |1,_=>rfl
 |2,_=>rfl
 |3,_=>rfl
 |4,_=>rfl
 |5,_=>rfl
 |6,_=>rfl⟩
theorem z9O(k:Int)(T:ByteArray)(a b c d p:Int)(so:Option Addr)(n cap:Nat)(base Pb:Nat)(X Y:ByteArray)(w:World)(hp:Pg base Pb X w)(hx:8192<X.size):
  Calls prog 25 #[.pointer (some ⟨Pb,0,none⟩),.agg #[.int .i64 k,.string T,.int .u64 a,.int .u64 b,.int .u64 c,.int .u64 d,.slice so n cap,.int .i64 p]] w fun e w'=>PgA base Pb (X++Y) w e w':=by
 have HF:=hid (fun(W:World) (h:Pg base Pb X W)=>Jq base Pb X W h);rw[decide_eq_true hx]at HF;have HP1:=hid (Xf hp (.cells #[.int .i64 k,.string T,.int .u64 a,.int .u64 b,.int .u64 c,.int .u64 d,.slice so n cap,.int .i64 p] 30));have HX:=hid hx;clear hp hx;go_enter func25,ntmps25
 go_wp2_with fail
 refine(HF.out _ HP1.out.1).mono ?_;rintro e w1 ⟨rfl,rfl⟩
 go_wp2_with fail
 (try simp only[Exit.inBlock,Exit.then])
 first|refine bodyPost_end (results_none rfl _ _ _) rfl ?_ |refine bodyPost_ret (results_none rfl _ _ _) rfl ?_
 exact⟨rfl,hid (HP1.out.1.more HX.out Y),hid HP1.out.2.1,hid HP1.out.2.2⟩
theorem z9P(T:ByteArray)(a b c d p:Int)(so:Option Addr)(n cap:Nat)(base Pb:Nat)(X:ByteArray)(w:World)(hp:Pg base Pb X w)(hx:X.size<=8192):
  Calls prog 25 #[.pointer (some ⟨Pb,0,none⟩),.agg #[.int .i64 1,.string T,.int .u64 a,.int .u64 b,.int .u64 c,.int .u64 d,.slice so n cap,.int .i64 p]] w fun e w'=>PgA base Pb (X++{data:=#[40,41]}) w e w':=by
 have HF:=hid (fun(W:World) (h:Pg base Pb X W)=>Jq base Pb X W h);rw[decide_eq_false (show ¬8192<X.size by omega)]at HF;have HPut:=hid (fun(X s:ByteArray) (W:World) (h:Pg base Pb X W) (hs:s.size<=4096)=>Vb base Pb X s W h hs);have HP1:=hid (Xf hp (.cells #[.int .i64 1,.string T,.int .u64 a,.int .u64 b,.int .u64 c,.int .u64 d,.slice so n cap,.int .i64 p] 30));have HN1:Hid ((w.alloc (.cells #[.int .i64 1,.string T,.int .u64 a,.int .u64 b,.int .u64 c,.int .u64 d,.slice so n cap,.int .i64 p] 30)).heap[w.heap.size]? =some (.cells #[.int .i64 1,.string T,.int .u64 a,.int .u64 b,.int .u64 c,.int .u64 d,.slice so n cap,.int .i64 p] 30)):=Qq w _ rfl;clear hp hx;go_enter func25,ntmps25
 go_wp2_with fail
 refine(HF.out _ HP1.out.1).mono ?_;rintro e w1 ⟨rfl,rfl⟩
 go_wp2_with fail
 refine(HPut.out X {data:=#[40,41]} _ HP1.out.1 (by decide)).mono ?_;rintro e w2 ⟨rfl,HP2,HB2,HK2⟩;clear HPut HF HN1
 go_wp2_with fail
 (try simp only[Exit.inBlock,Exit.then])
 first|refine bodyPost_end (results_none rfl _ _ _) rfl ?_ |refine bodyPost_ret (results_none rfl _ _ _) rfl ?_
 exact⟨rfl,HP2,hid (HP1.out.2.1.trans HB2.out),hid (HP1.out.2.2.trans HK2.out)⟩
theorem z9Q(T:ByteArray)(a b c d p:Int)(so:Option Addr)(n cap:Nat)(base Pb:Nat)(X:ByteArray)(w:World)(hp:Pg base Pb X w)(hx:X.size<=8192):
  Calls prog 25 #[.pointer (some ⟨Pb,0,none⟩),.agg #[.int .i64 4,.string T,.int .u64 a,.int .u64 b,.int .u64 c,.int .u64 d,.slice so n cap,.int .i64 p]] w fun e w'=>PgA base Pb (X++{data:=#[46]}) w e w':=by
 have HF:=hid (fun(W:World) (h:Pg base Pb X W)=>Jq base Pb X W h);rw[decide_eq_false (show ¬8192<X.size by omega)]at HF;have HPut:=hid (fun(X s:ByteArray) (W:World) (h:Pg base Pb X W) (hs:s.size<=4096)=>Vb base Pb X s W h hs);have HP1:=hid (Xf hp (.cells #[.int .i64 4,.string T,.int .u64 a,.int .u64 b,.int .u64 c,.int .u64 d,.slice so n cap,.int .i64 p] 30));have HN1:Hid ((w.alloc (.cells #[.int .i64 4,.string T,.int .u64 a,.int .u64 b,.int .u64 c,.int .u64 d,.slice so n cap,.int .i64 p] 30)).heap[w.heap.size]? =some (.cells #[.int .i64 4,.string T,.int .u64 a,.int .u64 b,.int .u64 c,.int .u64 d,.slice so n cap,.int .i64 p] 30)):=Qq w _ rfl;clear hp hx;go_enter func25,ntmps25
 go_wp2_with fail
 refine(HF.out _ HP1.out.1).mono ?_;rintro e w1 ⟨rfl,rfl⟩
 go_wp2_with fail
 refine(HPut.out X {data:=#[46]} _ HP1.out.1 (by decide)).mono ?_;rintro e w2 ⟨rfl,HP2,HB2,HK2⟩;clear HPut HF HN1
 go_wp2_with fail
 (try simp only[Exit.inBlock,Exit.then])
 first|refine bodyPost_end (results_none rfl _ _ _) rfl ?_ |refine bodyPost_ret (results_none rfl _ _ _) rfl ?_
 exact⟨rfl,HP2,hid (HP1.out.2.1.trans HB2.out),hid (HP1.out.2.2.trans HK2.out)⟩
theorem z9R(T:ByteArray)(a b c d p:Int)(so:Option Addr)(n cap:Nat)(base Pb:Nat)(X:ByteArray)(w:World)(hT:T.size<=4096)(hp:Pg base Pb X w)(hx:X.size<=8192):
  Calls prog 25 #[.pointer (some ⟨Pb,0,none⟩),.agg #[.int .i64 5,.string T,.int .u64 a,.int .u64 b,.int .u64 c,.int .u64 d,.slice so n cap,.int .i64 p]] w fun e w'=>PgA base Pb (X++T) w e w':=by
 have HF:=hid (fun(W:World) (h:Pg base Pb X W)=>Jq base Pb X W h);rw[decide_eq_false (show ¬8192<X.size by omega)]at HF;have HPut:=hid (fun(X s:ByteArray) (W:World) (h:Pg base Pb X W) (hs:s.size<=4096)=>Vb base Pb X s W h hs);have HP1:=hid (Xf hp (.cells #[.int .i64 5,.string T,.int .u64 a,.int .u64 b,.int .u64 c,.int .u64 d,.slice so n cap,.int .i64 p] 30));have HN1:Hid ((w.alloc (.cells #[.int .i64 5,.string T,.int .u64 a,.int .u64 b,.int .u64 c,.int .u64 d,.slice so n cap,.int .i64 p] 30)).heap[w.heap.size]? =some (.cells #[.int .i64 5,.string T,.int .u64 a,.int .u64 b,.int .u64 c,.int .u64 d,.slice so n cap,.int .i64 p] 30)):=Qq w _ rfl;clear hp hx;go_enter func25,ntmps25
 go_wp2_with fail
 refine(HF.out _ HP1.out.1).mono ?_;rintro e w1 ⟨rfl,rfl⟩
 go_wp2_with fail
 refine(HPut.out X T _ HP1.out.1 hT).mono ?_;rintro e w2 ⟨rfl,HP2,HB2,HK2⟩;clear HPut HF HN1
 go_wp2_with fail
 (try simp only[Exit.inBlock,Exit.then])
 first|refine bodyPost_end (results_none rfl _ _ _) rfl ?_ |refine bodyPost_ret (results_none rfl _ _ _) rfl ?_
 exact⟨rfl,HP2,hid (HP1.out.2.1.trans HB2.out),hid (HP1.out.2.2.trans HK2.out)⟩
theorem z9S(T:ByteArray)(a b c d p:Int)(so:Option Addr)(n cap:Nat)(base Pb:Nat)(X:ByteArray)(w:World)(hT:T.size<=255)(hp:Pg base Pb X w)(hx:X.size<=8192):
  Calls prog 25 #[.pointer (some ⟨Pb,0,none⟩),.agg #[.int .i64 2,.string T,.int .u64 a,.int .u64 b,.int .u64 c,.int .u64 d,.slice so n cap,.int .i64 p]] w fun e w'=>PgA base Pb (X++nb (qt T)) w e w':=by
 have HF:=hid (fun(W:World) (h:Pg base Pb X W)=>Jq base Pb X W h);rw[decide_eq_false (show ¬8192<X.size by omega)]at HF;have HPut:=hid (fun(X s:ByteArray) (W:World) (h:Pg base Pb X W) (hs:s.size<=4096)=>Vb base Pb X s W h hs);have HP1:=hid (Xf hp (.cells #[.int .i64 2,.string T,.int .u64 a,.int .u64 b,.int .u64 c,.int .u64 d,.slice so n cap,.int .i64 p] 30));have HN1:Hid ((w.alloc (.cells #[.int .i64 2,.string T,.int .u64 a,.int .u64 b,.int .u64 c,.int .u64 d,.slice so n cap,.int .i64 p] 30)).heap[w.heap.size]? =some (.cells #[.int .i64 2,.string T,.int .u64 a,.int .u64 b,.int .u64 c,.int .u64 d,.slice so n cap,.int .i64 p] 30)):=Qq w _ rfl;have HQ:=hid (fun(W:World)=>z9p T W (by omega));clear hp hx;go_enter func25,ntmps25
 go_wp2_with fail
 refine(HF.out _ HP1.out.1).mono ?_;rintro e w1 ⟨rfl,rfl⟩
 go_wp2_with fail
 refine(HQ.out _).mono ?_;rintro e w2 ⟨rfl,hb2⟩;have HP2:=hid (HP1.out.1.below hb2);have HB2:=hid (HP1.out.2.1.trans (hb2.mono (Nx HP1.out.1)));have HK2:=hid (HP1.out.2.2.trans (Kq.below hb2));clear hb2 HQ HP1
 go_wp2_with fail
 refine(HPut.out X _ _ HP2.out (z3j hT)).mono ?_;rintro e w3 ⟨rfl,HP3,HB3,HK3⟩;clear HPut HF HN1
 go_wp2_with fail
 (try simp only[Exit.inBlock,Exit.then])
 first|refine bodyPost_end (results_none rfl _ _ _) rfl ?_ |refine bodyPost_ret (results_none rfl _ _ _) rfl ?_
 exact⟨rfl,HP3,hid (HB2.out.trans HB3.out),hid (HK2.out.trans HK3.out)⟩
theorem z9T(T:ByteArray)(C:Nat)(p:Int)(so:Option Addr)(n cap:Nat)(base Pb:Nat)(X:ByteArray)(w:World)(hp:Pg base Pb X w)(hx:X.size<=8192):
  Calls prog 25 #[.pointer (some ⟨Pb,0,none⟩),.agg #[.int .i64 3,.string T,.int .u64 (wd C 0),.int .u64 (wd C 1),.int .u64 (wd C 2),.int .u64 (wd C 3),.slice so n cap,.int .i64 p]] w fun e w'=>PgA base Pb (X++nb (txt C)) w e w':=by
 have HF:=hid (fun(W:World) (h:Pg base Pb X W)=>Jq base Pb X W h);rw[decide_eq_false (show ¬8192<X.size by omega)]at HF;have HPut:=hid (fun(X s:ByteArray) (W:World) (h:Pg base Pb X W) (hs:s.size<=4096)=>Vb base Pb X s W h hs);have HP1:=hid (Xf hp (.cells #[.int .i64 3,.string T,.int .u64 (wd C 0),.int .u64 (wd C 1),.int .u64 (wd C 2),.int .u64 (wd C 3),.slice so n cap,.int .i64 p] 30));have HN1:Hid ((w.alloc (.cells #[.int .i64 3,.string T,.int .u64 (wd C 0),.int .u64 (wd C 1),.int .u64 (wd C 2),.int .u64 (wd C 3),.slice so n cap,.int .i64 p] 30)).heap[w.heap.size]? =some (.cells #[.int .i64 3,.string T,.int .u64 (wd C 0),.int .u64 (wd C 1),.int .u64 (wd C 2),.int .u64 (wd C 3),.slice so n cap,.int .i64 p] 30)):=Qq w _ rfl;have HQ:=hid (fun(W:World)=>z9N C W);clear hp hx;go_enter func25,ntmps25
 go_wp2_with fail
 refine(HF.out _ HP1.out.1).mono ?_;rintro e w1 ⟨rfl,rfl⟩
 go_wp2_with fail
 refine(HQ.out _).mono ?_;rintro e w2 ⟨rfl,hb2⟩;have HP2:=hid (HP1.out.1.below hb2);have HB2:=hid (HP1.out.2.1.trans (hb2.mono (Nx HP1.out.1)));have HK2:=hid (HP1.out.2.2.trans (Kq.below hb2));clear hb2 HQ HP1
 go_wp2_with fail
 refine(HPut.out X _ _ HP2.out (z3k C)).mono ?_;rintro e w3 ⟨rfl,HP3,HB3,HK3⟩;clear HPut HF HN1
 go_wp2_with fail
 (try simp only[Exit.inBlock,Exit.then])
 first|refine bodyPost_end (results_none rfl _ _ _) rfl ?_ |refine bodyPost_ret (results_none rfl _ _ _) rfl ?_
 exact⟨rfl,HP3,hid (HB2.out.trans HB3.out),hid (HK2.out.trans HK3.out)⟩
theorem z9U(T:ByteArray)(a b c d p:Int)(so:Option Addr)(n cap:Nat)(base Pb:Nat)(X:ByteArray)(w:World)(Y:ByteArray)(w0:World)(hb0:Below base w0 w)(HR:Hid (∀(X:ByteArray) (W:World) (kb:Nat),Pg base Pb X W->Below base w0 W->Ks W kb [7,6]->Calls prog 39 #[.pointer (some ⟨Pb,0,none⟩),.slice so n cap,.string {data:=#[32]},.slice (some ⟨kb,0,none⟩) 2 2] W fun e w'=>PgA base Pb (X++Y) W e w'))(hp:Pg base Pb X w)(hx:X.size<=8192):
  Calls prog 25 #[.pointer (some ⟨Pb,0,none⟩),.agg #[.int .i64 6,.string T,.int .u64 a,.int .u64 b,.int .u64 c,.int .u64 d,.slice so n cap,.int .i64 p]] w fun e w'=>PgA base Pb (X++Y) w e w':=by
 have HF:=hid (fun(W:World) (h:Pg base Pb X W)=>Jq base Pb X W h);rw[decide_eq_false (show ¬8192<X.size by omega)]at HF;have HPut:=hid (fun(X s:ByteArray) (W:World) (h:Pg base Pb X W) (hs:s.size<=4096)=>Vb base Pb X s W h hs);have HP1:=hid (Xf hp (.cells #[.int .i64 6,.string T,.int .u64 a,.int .u64 b,.int .u64 c,.int .u64 d,.slice so n cap,.int .i64 p] 30));have HN1:Hid ((w.alloc (.cells #[.int .i64 6,.string T,.int .u64 a,.int .u64 b,.int .u64 c,.int .u64 d,.slice so n cap,.int .i64 p] 30)).heap[w.heap.size]? =some (.cells #[.int .i64 6,.string T,.int .u64 a,.int .u64 b,.int .u64 c,.int .u64 d,.slice so n cap,.int .i64 p] 30)):=Qq w _ rfl;have HP2:=hid (Xf HP1.out.1 (.cells #[.int .i64 7,.int .i64 6] 3));have HK2:Hid (Ks ((w.alloc (.cells #[.int .i64 6,.string T,.int .u64 a,.int .u64 b,.int .u64 c,.int .u64 d,.slice so n cap,.int .i64 p] 30)).alloc (.cells #[.int .i64 7,.int .i64 6] 3)) (w.heap.size+1) [7,6]):=Ks.new2 _ 7 6 (by simp);have HB0:=hid hb0;clear hb0;clear hp hx;go_enter func25,ntmps25
 go_wp2_with fail
 refine(HF.out _ HP1.out.1).mono ?_;rintro e w1 ⟨rfl,rfl⟩
 go_wp2_with fail
 refine(HR.out X _ _ HP2.out.1 (HB0.out.trans (HP1.out.2.1.trans HP2.out.2.1)) HK2.out).mono ?_;rintro e w2 hA;have HA:=hid hA;obtain⟨rfl,_,_,_⟩:=hA;clear HPut HF HN1 HR HK2
 go_wp2_with fail
 (try simp only[Exit.inBlock,Exit.then])
 first|refine bodyPost_end (results_none rfl _ _ _) rfl ?_ |refine bodyPost_ret (results_none rfl _ _ _) rfl ?_
 exact PgA.up (HP1.out.2.1.trans HP2.out.2.1) (HP1.out.2.2.trans HP2.out.2.2) HA.out
theorem z9V(T:ByteArray)(a b c d p:Int)(so:Option Addr)(n cap:Nat)(base Pb:Nat)(X:ByteArray)(w:World)(Y:ByteArray)(w0:World)(hb0:Below base w0 w)(HR:Hid (∀(X:ByteArray) (W:World) (kb:Nat),Pg base Pb X W->Below base w0 W->Ks W kb [7]->Calls prog 39 #[.pointer (some ⟨Pb,0,none⟩),.slice so n cap,.string {data:=#[32,47,32]},.slice (some ⟨kb,0,none⟩) 1 1] W fun e w'=>PgA base Pb (X++Y) W e w'))(hp:Pg base Pb X w)(hx:X.size<=8192):
  Calls prog 25 #[.pointer (some ⟨Pb,0,none⟩),.agg #[.int .i64 7,.string T,.int .u64 a,.int .u64 b,.int .u64 c,.int .u64 d,.slice so n cap,.int .i64 p]] w fun e w'=>PgA base Pb (X++Y) w e w':=by
 have HF:=hid (fun(W:World) (h:Pg base Pb X W)=>Jq base Pb X W h);rw[decide_eq_false (show ¬8192<X.size by omega)]at HF;have HPut:=hid (fun(X s:ByteArray) (W:World) (h:Pg base Pb X W) (hs:s.size<=4096)=>Vb base Pb X s W h hs);have HP1:=hid (Xf hp (.cells #[.int .i64 7,.string T,.int .u64 a,.int .u64 b,.int .u64 c,.int .u64 d,.slice so n cap,.int .i64 p] 30));have HN1:Hid ((w.alloc (.cells #[.int .i64 7,.string T,.int .u64 a,.int .u64 b,.int .u64 c,.int .u64 d,.slice so n cap,.int .i64 p] 30)).heap[w.heap.size]? =some (.cells #[.int .i64 7,.string T,.int .u64 a,.int .u64 b,.int .u64 c,.int .u64 d,.slice so n cap,.int .i64 p] 30)):=Qq w _ rfl;have HP2:=hid (Xf HP1.out.1 (.cells #[.int .i64 7] 3));have HK2:Hid (Ks ((w.alloc (.cells #[.int .i64 7,.string T,.int .u64 a,.int .u64 b,.int .u64 c,.int .u64 d,.slice so n cap,.int .i64 p] 30)).alloc (.cells #[.int .i64 7] 3)) (w.heap.size+1) [7]):=Ks.new1 _ 7 (by simp);have HB0:=hid hb0;clear hb0;clear hp hx;go_enter func25,ntmps25
 go_wp2_with fail
 refine(HF.out _ HP1.out.1).mono ?_;rintro e w1 ⟨rfl,rfl⟩
 go_wp2_with fail
 refine(HR.out X _ _ HP2.out.1 (HB0.out.trans (HP1.out.2.1.trans HP2.out.2.1)) HK2.out).mono ?_;rintro e w2 hA;have HA:=hid hA;obtain⟨rfl,_,_,_⟩:=hA;clear HPut HF HN1 HR HK2
 go_wp2_with fail
 (try simp only[Exit.inBlock,Exit.then])
 first|refine bodyPost_end (results_none rfl _ _ _) rfl ?_ |refine bodyPost_ret (results_none rfl _ _ _) rfl ?_
 exact PgA.up (HP1.out.2.1.trans HP2.out.2.1) (HP1.out.2.2.trans HP2.out.2.2) HA.out
theorem z9W(T:ByteArray)(a b c d p:Int)(so:Option Addr)(n cap:Nat)(base Pb:Nat)(X:ByteArray)(w:World)(Y:ByteArray)(w0:World)(hb0:Below base w0 w)(g o:Nat)(hso:so=some ⟨g,o,none⟩)(hg:g<base)(hn:1<=n)(hnz:n<=9223372036854775807)(k1:Int)(T1:ByteArray)(a1 b1 c1 d1:Int)(so1:Option Addr)(n1 cap1:Nat)(p1:Int)(hrc:Rc w0 g o k1 T1 a1 b1 c1 d1 (.slice so1 n1 cap1) p1)(HR:Hid (∀(X:ByteArray) (W:World) (kb:Nat),Pg base Pb X W->Below base w0 W->Ks W kb [7,6,11,12]->Calls prog 40 #[.pointer (some ⟨Pb,0,none⟩),.agg #[.int .i64 k1,.string T1,.int .u64 a1,.int .u64 b1,.int .u64 c1,.int .u64 d1,.slice so1 n1 cap1,.int .i64 p1],.slice (some ⟨kb,0,none⟩) 4 4] W fun e w'=>PgA base Pb (X++Y) W e w'))(hp:Pg base Pb X w)(hx:X.size<=8192):
  Calls prog 25 #[.pointer (some ⟨Pb,0,none⟩),.agg #[.int .i64 11,.string T,.int .u64 a,.int .u64 b,.int .u64 c,.int .u64 d,.slice so n cap,.int .i64 p]] w fun e w'=>PgA base Pb (X++({data:=#[38]}++Y)) w e w':=by
 have HF:=hid (fun(W:World) (h:Pg base Pb X W)=>Jq base Pb X W h);rw[decide_eq_false (show ¬8192<X.size by omega)]at HF;have HPut:=hid (fun(X s:ByteArray) (W:World) (h:Pg base Pb X W) (hs:s.size<=4096)=>Vb base Pb X s W h hs);have HP1:=hid (Xf hp (.cells #[.int .i64 11,.string T,.int .u64 a,.int .u64 b,.int .u64 c,.int .u64 d,.slice so n cap,.int .i64 p] 30));have HN1:Hid ((w.alloc (.cells #[.int .i64 11,.string T,.int .u64 a,.int .u64 b,.int .u64 c,.int .u64 d,.slice so n cap,.int .i64 p] 30)).heap[w.heap.size]? =some (.cells #[.int .i64 11,.string T,.int .u64 a,.int .u64 b,.int .u64 c,.int .u64 d,.slice so n cap,.int .i64 p] 30)):=Qq w _ rfl;subst hso;have HP2:=hid (Xf HP1.out.1 (.cells #[.string {data:=#[38]},.string {data:=#[33]}] 9));have HN2:Hid (((w.alloc (.cells #[.int .i64 11,.string T,.int .u64 a,.int .u64 b,.int .u64 c,.int .u64 d,.slice (some ⟨g,o,none⟩) n cap,.int .i64 p] 30)).alloc (.cells #[.string {data:=#[38]},.string {data:=#[33]}] 9)).heap[w.heap.size]? =some (.cells #[.int .i64 11,.string T,.int .u64 a,.int .u64 b,.int .u64 c,.int .u64 d,.slice (some ⟨g,o,none⟩) n cap,.int .i64 p] 30)):=(Below.heap_alloc _ _ _ (by simp)).trans HN1.out;have HB0:=hid hb0;have HRc:=hid hrc;clear hb0 hrc;clear hp hx;go_enter func25,ntmps25
 go_wp2_with fail
 refine(HF.out _ HP1.out.1).mono ?_;rintro e w1 ⟨rfl,rfl⟩
 go_wp2_with fail
 refine(HPut.out X {data:=#[38]} _ HP2.out.1 (by decide)).mono ?_;rintro e w3 ⟨rfl,HP3,HB3,HK3⟩;have HB3':=hid (HP1.out.2.1.trans (HP2.out.2.1.trans HB3.out));have HK3':=hid (HP1.out.2.2.trans (HP2.out.2.2.trans HK3.out));have HN3:Hid (w3.heap[w.heap.size]? =some (.cells #[.int .i64 11,.string T,.int .u64 a,.int .u64 b,.int .u64 c,.int .u64 d,.slice (some ⟨g,o,none⟩) n cap,.int .i64 p] 30)):=(HK3.out.2 _ _ _ (by decide) (by decide) HN2.out).trans HN2.out;clear HP1 HP2 HB3 HK3 HPut HF HN1 HN2;obtain⟨⟨m0,m1,m2,m3,m4,m5,m6,m7⟩,_⟩:=Qk HN3.out;obtain⟨z0,z1,z2,z3,z4,z5,z6,z7⟩:=HRc.out.below (HB0.out.trans HB3'.out) hg;have hgl:g<w3.heap.size:=by have:=Nx HP3.out;omega
 have hwl:=Qz HN3.out;have HP4:=hid (Xf HP3.out (.cells #[.int .i64 7,.int .i64 6,.int .i64 11,.int .i64 12] 3));have HK4:Hid (Ks (w3.alloc (.cells #[.int .i64 7,.int .i64 6,.int .i64 11,.int .i64 12] 3)) w3.heap.size [7,6,11,12]):=Ks.new4 _ _ _ _ _ rfl
 go_wp2_with fail
 refine(HR.out _ _ _ HP4.out.1 (HB0.out.trans (HB3'.out.trans HP4.out.2.1)) HK4.out).mono ?_;rintro e w5 hA;have HA:=hid hA;obtain⟨rfl,_,_,_⟩:=hA;clear HR HK4 z0 z1 z2 z3 z4 z5 z6 z7 m0 m1 m2 m3 m4 m5 m6 m7 HP3
 go_wp2_with fail
 (try simp only[Exit.inBlock,Exit.then])
 first|refine bodyPost_end (results_none rfl _ _ _) rfl ?_ |refine bodyPost_ret (results_none rfl _ _ _) rfl ?_
 rw[<-ByteArray.append_assoc];exact PgA.up (HB3'.out.trans HP4.out.2.1) (HK3'.out.trans HP4.out.2.2) HA.out
theorem z9X(T:ByteArray)(a b c d p:Int)(so:Option Addr)(n cap:Nat)(base Pb:Nat)(X:ByteArray)(w:World)(Y:ByteArray)(w0:World)(hb0:Below base w0 w)(g o:Nat)(hso:so=some ⟨g,o,none⟩)(hg:g<base)(hn:1<=n)(hnz:n<=9223372036854775807)(k1:Int)(T1:ByteArray)(a1 b1 c1 d1:Int)(so1:Option Addr)(n1 cap1:Nat)(p1:Int)(hrc:Rc w0 g o k1 T1 a1 b1 c1 d1 (.slice so1 n1 cap1) p1)(HR:Hid (∀(X:ByteArray) (W:World) (kb:Nat),Pg base Pb X W->Below base w0 W->Ks W kb [7,6,11,12]->Calls prog 40 #[.pointer (some ⟨Pb,0,none⟩),.agg #[.int .i64 k1,.string T1,.int .u64 a1,.int .u64 b1,.int .u64 c1,.int .u64 d1,.slice so1 n1 cap1,.int .i64 p1],.slice (some ⟨kb,0,none⟩) 4 4] W fun e w'=>PgA base Pb (X++Y) W e w'))(hp:Pg base Pb X w)(hx:X.size<=8192):
  Calls prog 25 #[.pointer (some ⟨Pb,0,none⟩),.agg #[.int .i64 12,.string T,.int .u64 a,.int .u64 b,.int .u64 c,.int .u64 d,.slice so n cap,.int .i64 p]] w fun e w'=>PgA base Pb (X++({data:=#[33]}++Y)) w e w':=by
 have HF:=hid (fun(W:World) (h:Pg base Pb X W)=>Jq base Pb X W h);rw[decide_eq_false (show ¬8192<X.size by omega)]at HF;have HPut:=hid (fun(X s:ByteArray) (W:World) (h:Pg base Pb X W) (hs:s.size<=4096)=>Vb base Pb X s W h hs);have HP1:=hid (Xf hp (.cells #[.int .i64 12,.string T,.int .u64 a,.int .u64 b,.int .u64 c,.int .u64 d,.slice so n cap,.int .i64 p] 30));have HN1:Hid ((w.alloc (.cells #[.int .i64 12,.string T,.int .u64 a,.int .u64 b,.int .u64 c,.int .u64 d,.slice so n cap,.int .i64 p] 30)).heap[w.heap.size]? =some (.cells #[.int .i64 12,.string T,.int .u64 a,.int .u64 b,.int .u64 c,.int .u64 d,.slice so n cap,.int .i64 p] 30)):=Qq w _ rfl;subst hso;have HP2:=hid (Xf HP1.out.1 (.cells #[.string {data:=#[38]},.string {data:=#[33]}] 9));have HN2:Hid (((w.alloc (.cells #[.int .i64 12,.string T,.int .u64 a,.int .u64 b,.int .u64 c,.int .u64 d,.slice (some ⟨g,o,none⟩) n cap,.int .i64 p] 30)).alloc (.cells #[.string {data:=#[38]},.string {data:=#[33]}] 9)).heap[w.heap.size]? =some (.cells #[.int .i64 12,.string T,.int .u64 a,.int .u64 b,.int .u64 c,.int .u64 d,.slice (some ⟨g,o,none⟩) n cap,.int .i64 p] 30)):=(Below.heap_alloc _ _ _ (by simp)).trans HN1.out;have HB0:=hid hb0;have HRc:=hid hrc;clear hb0 hrc;clear hp hx;go_enter func25,ntmps25
 go_wp2_with fail
 refine(HF.out _ HP1.out.1).mono ?_;rintro e w1 ⟨rfl,rfl⟩
 go_wp2_with fail
 refine(HPut.out X {data:=#[33]} _ HP2.out.1 (by decide)).mono ?_;rintro e w3 ⟨rfl,HP3,HB3,HK3⟩;have HB3':=hid (HP1.out.2.1.trans (HP2.out.2.1.trans HB3.out));have HK3':=hid (HP1.out.2.2.trans (HP2.out.2.2.trans HK3.out));have HN3:Hid (w3.heap[w.heap.size]? =some (.cells #[.int .i64 12,.string T,.int .u64 a,.int .u64 b,.int .u64 c,.int .u64 d,.slice (some ⟨g,o,none⟩) n cap,.int .i64 p] 30)):=(HK3.out.2 _ _ _ (by decide) (by decide) HN2.out).trans HN2.out;clear HP1 HP2 HB3 HK3 HPut HF HN1 HN2;obtain⟨⟨m0,m1,m2,m3,m4,m5,m6,m7⟩,_⟩:=Qk HN3.out;obtain⟨z0,z1,z2,z3,z4,z5,z6,z7⟩:=HRc.out.below (HB0.out.trans HB3'.out) hg;have hgl:g<w3.heap.size:=by have:=Nx HP3.out;omega
 have hwl:=Qz HN3.out;have HP4:=hid (Xf HP3.out (.cells #[.int .i64 7,.int .i64 6,.int .i64 11,.int .i64 12] 3));have HK4:Hid (Ks (w3.alloc (.cells #[.int .i64 7,.int .i64 6,.int .i64 11,.int .i64 12] 3)) w3.heap.size [7,6,11,12]):=Ks.new4 _ _ _ _ _ rfl
 go_wp2_with fail
 refine(HR.out _ _ _ HP4.out.1 (HB0.out.trans (HB3'.out.trans HP4.out.2.1)) HK4.out).mono ?_;rintro e w5 hA;have HA:=hid hA;obtain⟨rfl,_,_,_⟩:=hA;clear HR HK4 z0 z1 z2 z3 z4 z5 z6 z7 m0 m1 m2 m3 m4 m5 m6 m7 HP3
 go_wp2_with fail
 (try simp only[Exit.inBlock,Exit.then])
 first|refine bodyPost_end (results_none rfl _ _ _) rfl ?_ |refine bodyPost_ret (results_none rfl _ _ _) rfl ?_
 rw[<-ByteArray.append_assoc];exact PgA.up (HB3'.out.trans HP4.out.2.1) (HK3'.out.trans HP4.out.2.2) HA.out
theorem z9Y(T:ByteArray)(a b c d p:Int)(so:Option Addr)(n cap:Nat)(base Pb:Nat)(X:ByteArray)(w:World)(Y:ByteArray)(w0:World)(hb0:Below base w0 w)(g o:Nat)(hso:so=some ⟨g,o,none⟩)(hg:g<base)(hn:1<=n)(hnz:n<=9223372036854775807)(k1:Int)(T1:ByteArray)(a1 b1 c1 d1:Int)(so1:Option Addr)(n1 cap1:Nat)(p1:Int)(hrc:Rc w0 g o k1 T1 a1 b1 c1 d1 (.slice so1 n1 cap1) p1)(HR:Hid (∀(X:ByteArray) (W:World) (kb:Nat),Pg base Pb X W->Below base w0 W->Ks W kb [7,6,11,12,8,9,10]->Calls prog 40 #[.pointer (some ⟨Pb,0,none⟩),.agg #[.int .i64 k1,.string T1,.int .u64 a1,.int .u64 b1,.int .u64 c1,.int .u64 d1,.slice so1 n1 cap1,.int .i64 p1],.slice (some ⟨kb,0,none⟩) 7 7] W fun e w'=>PgA base Pb (X++Y) W e w'))(hp:Pg base Pb X w)(hx:X.size<=8192):
  Calls prog 25 #[.pointer (some ⟨Pb,0,none⟩),.agg #[.int .i64 8,.string T,.int .u64 a,.int .u64 b,.int .u64 c,.int .u64 d,.slice so n cap,.int .i64 p]] w fun e w'=>PgA base Pb (X++(Y++{data:=#[63]})) w e w':=by
 have HF:=hid (fun(W:World) (h:Pg base Pb X W)=>Jq base Pb X W h);rw[decide_eq_false (show ¬8192<X.size by omega)]at HF;have HPut:=hid (fun(X s:ByteArray) (W:World) (h:Pg base Pb X W) (hs:s.size<=4096)=>Vb base Pb X s W h hs);have HP1:=hid (Xf hp (.cells #[.int .i64 8,.string T,.int .u64 a,.int .u64 b,.int .u64 c,.int .u64 d,.slice so n cap,.int .i64 p] 30));have HN1:Hid ((w.alloc (.cells #[.int .i64 8,.string T,.int .u64 a,.int .u64 b,.int .u64 c,.int .u64 d,.slice so n cap,.int .i64 p] 30)).heap[w.heap.size]? =some (.cells #[.int .i64 8,.string T,.int .u64 a,.int .u64 b,.int .u64 c,.int .u64 d,.slice so n cap,.int .i64 p] 30)):=Qq w _ rfl;subst hso;have HB0:=hid hb0;have HRc:=hid hrc;obtain⟨z0,z1,z2,z3,z4,z5,z6,z7⟩:=HRc.out.below (HB0.out.trans HP1.out.2.1) hg;have hgl:g<w.heap.size:=by have:=Nx hp;omega
 have HP4:=hid (Xf HP1.out.1 (.cells #[.int .i64 7,.int .i64 6,.int .i64 11,.int .i64 12,.int .i64 8,.int .i64 9,.int .i64 10] 3));have HN4:Hid (((w.alloc (.cells #[.int .i64 8,.string T,.int .u64 a,.int .u64 b,.int .u64 c,.int .u64 d,.slice (some ⟨g,o,none⟩) n cap,.int .i64 p] 30)).alloc (.cells #[.int .i64 7,.int .i64 6,.int .i64 11,.int .i64 12,.int .i64 8,.int .i64 9,.int .i64 10] 3)).heap[w.heap.size]? =some (.cells #[.int .i64 8,.string T,.int .u64 a,.int .u64 b,.int .u64 c,.int .u64 d,.slice (some ⟨g,o,none⟩) n cap,.int .i64 p] 30)):=(Below.heap_alloc _ _ _ (by simp)).trans HN1.out;have HK4:Hid (Ks ((w.alloc (.cells #[.int .i64 8,.string T,.int .u64 a,.int .u64 b,.int .u64 c,.int .u64 d,.slice (some ⟨g,o,none⟩) n cap,.int .i64 p] 30)).alloc (.cells #[.int .i64 7,.int .i64 6,.int .i64 11,.int .i64 12,.int .i64 8,.int .i64 9,.int .i64 10] 3)) (w.heap.size+1) [7,6,11,12,8,9,10]):=Ks.new7 _ _ _ _ _ _ _ _ (by simp);clear hb0 hrc;clear hp hx;go_enter func25,ntmps25
 go_wp2_with fail
 refine(HF.out _ HP1.out.1).mono ?_;rintro e w1 ⟨rfl,rfl⟩
 go_wp2_with fail
 refine(HR.out X _ _ HP4.out.1 (HB0.out.trans (HP1.out.2.1.trans HP4.out.2.1)) HK4.out).mono ?_;rintro e w3 ⟨rfl,HP3,HB3,HK3⟩;have HB3':=hid (HP1.out.2.1.trans (HP4.out.2.1.trans HB3.out));have HK3':=hid (HP1.out.2.2.trans (HP4.out.2.2.trans HK3.out));have HN3:Hid (w3.heap[w.heap.size]? =some (.cells #[.int .i64 8,.string T,.int .u64 a,.int .u64 b,.int .u64 c,.int .u64 d,.slice (some ⟨g,o,none⟩) n cap,.int .i64 p] 30)):=(HK3.out.2 _ _ _ (by decide) (by decide) HN4.out).trans HN4.out;clear HR HK4 z0 z1 z2 z3 z4 z5 z6 z7 HP1 HP4 HB3 HK3 HF HN1 HN4;obtain⟨⟨m0,m1,m2,m3,m4,m5,m6,m7⟩,_⟩:=Qk HN3.out;have hwl:=Qz HN3.out;have HP5:=hid (Xf HP3.out (.cells #[.string {data:=#[63]},.string {data:=#[42]},.string {data:=#[43]}] 9))
 go_wp2_with fail
 refine(HPut.out _ {data:=#[63]} _ HP5.out.1 (by decide)).mono ?_;rintro e w6 ⟨rfl,HP6,HB6,HK6⟩;clear m0 m1 m2 m3 m4 m5 m6 m7 HPut
 go_wp2_with fail
 (try simp only[Exit.inBlock,Exit.then])
 first|refine bodyPost_end (results_none rfl _ _ _) rfl ?_ |refine bodyPost_ret (results_none rfl _ _ _) rfl ?_
 rw[<-ByteArray.append_assoc];exact⟨rfl,HP6,hid (HB3'.out.trans (HP5.out.2.1.trans HB6.out)),hid (HK3'.out.trans (HP5.out.2.2.trans HK6.out))⟩
theorem z9Z(T:ByteArray)(a b c d p:Int)(so:Option Addr)(n cap:Nat)(base Pb:Nat)(X:ByteArray)(w:World)(Y:ByteArray)(w0:World)(hb0:Below base w0 w)(g o:Nat)(hso:so=some ⟨g,o,none⟩)(hg:g<base)(hn:1<=n)(hnz:n<=9223372036854775807)(k1:Int)(T1:ByteArray)(a1 b1 c1 d1:Int)(so1:Option Addr)(n1 cap1:Nat)(p1:Int)(hrc:Rc w0 g o k1 T1 a1 b1 c1 d1 (.slice so1 n1 cap1) p1)(HR:Hid (∀(X:ByteArray) (W:World) (kb:Nat),Pg base Pb X W->Below base w0 W->Ks W kb [7,6,11,12,8,9,10]->Calls prog 40 #[.pointer (some ⟨Pb,0,none⟩),.agg #[.int .i64 k1,.string T1,.int .u64 a1,.int .u64 b1,.int .u64 c1,.int .u64 d1,.slice so1 n1 cap1,.int .i64 p1],.slice (some ⟨kb,0,none⟩) 7 7] W fun e w'=>PgA base Pb (X++Y) W e w'))(hp:Pg base Pb X w)(hx:X.size<=8192):
  Calls prog 25 #[.pointer (some ⟨Pb,0,none⟩),.agg #[.int .i64 9,.string T,.int .u64 a,.int .u64 b,.int .u64 c,.int .u64 d,.slice so n cap,.int .i64 p]] w fun e w'=>PgA base Pb (X++(Y++{data:=#[42]})) w e w':=by
 have HF:=hid (fun(W:World) (h:Pg base Pb X W)=>Jq base Pb X W h);rw[decide_eq_false (show ¬8192<X.size by omega)]at HF;have HPut:=hid (fun(X s:ByteArray) (W:World) (h:Pg base Pb X W) (hs:s.size<=4096)=>Vb base Pb X s W h hs);have HP1:=hid (Xf hp (.cells #[.int .i64 9,.string T,.int .u64 a,.int .u64 b,.int .u64 c,.int .u64 d,.slice so n cap,.int .i64 p] 30));have HN1:Hid ((w.alloc (.cells #[.int .i64 9,.string T,.int .u64 a,.int .u64 b,.int .u64 c,.int .u64 d,.slice so n cap,.int .i64 p] 30)).heap[w.heap.size]? =some (.cells #[.int .i64 9,.string T,.int .u64 a,.int .u64 b,.int .u64 c,.int .u64 d,.slice so n cap,.int .i64 p] 30)):=Qq w _ rfl;subst hso;have HB0:=hid hb0;have HRc:=hid hrc;obtain⟨z0,z1,z2,z3,z4,z5,z6,z7⟩:=HRc.out.below (HB0.out.trans HP1.out.2.1) hg;have hgl:g<w.heap.size:=by have:=Nx hp;omega
 have HP4:=hid (Xf HP1.out.1 (.cells #[.int .i64 7,.int .i64 6,.int .i64 11,.int .i64 12,.int .i64 8,.int .i64 9,.int .i64 10] 3));have HN4:Hid (((w.alloc (.cells #[.int .i64 9,.string T,.int .u64 a,.int .u64 b,.int .u64 c,.int .u64 d,.slice (some ⟨g,o,none⟩) n cap,.int .i64 p] 30)).alloc (.cells #[.int .i64 7,.int .i64 6,.int .i64 11,.int .i64 12,.int .i64 8,.int .i64 9,.int .i64 10] 3)).heap[w.heap.size]? =some (.cells #[.int .i64 9,.string T,.int .u64 a,.int .u64 b,.int .u64 c,.int .u64 d,.slice (some ⟨g,o,none⟩) n cap,.int .i64 p] 30)):=(Below.heap_alloc _ _ _ (by simp)).trans HN1.out;have HK4:Hid (Ks ((w.alloc (.cells #[.int .i64 9,.string T,.int .u64 a,.int .u64 b,.int .u64 c,.int .u64 d,.slice (some ⟨g,o,none⟩) n cap,.int .i64 p] 30)).alloc (.cells #[.int .i64 7,.int .i64 6,.int .i64 11,.int .i64 12,.int .i64 8,.int .i64 9,.int .i64 10] 3)) (w.heap.size+1) [7,6,11,12,8,9,10]):=Ks.new7 _ _ _ _ _ _ _ _ (by simp);clear hb0 hrc;clear hp hx;go_enter func25,ntmps25
 go_wp2_with fail
 refine(HF.out _ HP1.out.1).mono ?_;rintro e w1 ⟨rfl,rfl⟩
 go_wp2_with fail
 refine(HR.out X _ _ HP4.out.1 (HB0.out.trans (HP1.out.2.1.trans HP4.out.2.1)) HK4.out).mono ?_;rintro e w3 ⟨rfl,HP3,HB3,HK3⟩;have HB3':=hid (HP1.out.2.1.trans (HP4.out.2.1.trans HB3.out));have HK3':=hid (HP1.out.2.2.trans (HP4.out.2.2.trans HK3.out));have HN3:Hid (w3.heap[w.heap.size]? =some (.cells #[.int .i64 9,.string T,.int .u64 a,.int .u64 b,.int .u64 c,.int .u64 d,.slice (some ⟨g,o,none⟩) n cap,.int .i64 p] 30)):=(HK3.out.2 _ _ _ (by decide) (by decide) HN4.out).trans HN4.out;clear HR HK4 z0 z1 z2 z3 z4 z5 z6 z7 HP1 HP4 HB3 HK3 HF HN1 HN4;obtain⟨⟨m0,m1,m2,m3,m4,m5,m6,m7⟩,_⟩:=Qk HN3.out;have hwl:=Qz HN3.out;have HP5:=hid (Xf HP3.out (.cells #[.string {data:=#[63]},.string {data:=#[42]},.string {data:=#[43]}] 9))
 go_wp2_with fail
 refine(HPut.out _ {data:=#[42]} _ HP5.out.1 (by decide)).mono ?_;rintro e w6 ⟨rfl,HP6,HB6,HK6⟩;clear m0 m1 m2 m3 m4 m5 m6 m7 HPut
 go_wp2_with fail
 (try simp only[Exit.inBlock,Exit.then])
 first|refine bodyPost_end (results_none rfl _ _ _) rfl ?_ |refine bodyPost_ret (results_none rfl _ _ _) rfl ?_
 rw[<-ByteArray.append_assoc];exact⟨rfl,HP6,hid (HB3'.out.trans (HP5.out.2.1.trans HB6.out)),hid (HK3'.out.trans (HP5.out.2.2.trans HK6.out))⟩
theorem y0a(T:ByteArray)(a b c d p:Int)(so:Option Addr)(n cap:Nat)(base Pb:Nat)(X:ByteArray)(w:World)(Y:ByteArray)(w0:World)(hb0:Below base w0 w)(g o:Nat)(hso:so=some ⟨g,o,none⟩)(hg:g<base)(hn:1<=n)(hnz:n<=9223372036854775807)(k1:Int)(T1:ByteArray)(a1 b1 c1 d1:Int)(so1:Option Addr)(n1 cap1:Nat)(p1:Int)(hrc:Rc w0 g o k1 T1 a1 b1 c1 d1 (.slice so1 n1 cap1) p1)(HR:Hid (∀(X:ByteArray) (W:World) (kb:Nat),Pg base Pb X W->Below base w0 W->Ks W kb [7,6,11,12,8,9,10]->Calls prog 40 #[.pointer (some ⟨Pb,0,none⟩),.agg #[.int .i64 k1,.string T1,.int .u64 a1,.int .u64 b1,.int .u64 c1,.int .u64 d1,.slice so1 n1 cap1,.int .i64 p1],.slice (some ⟨kb,0,none⟩) 7 7] W fun e w'=>PgA base Pb (X++Y) W e w'))(hp:Pg base Pb X w)(hx:X.size<=8192):
  Calls prog 25 #[.pointer (some ⟨Pb,0,none⟩),.agg #[.int .i64 10,.string T,.int .u64 a,.int .u64 b,.int .u64 c,.int .u64 d,.slice so n cap,.int .i64 p]] w fun e w'=>PgA base Pb (X++(Y++{data:=#[43]})) w e w':=by
 have HF:=hid (fun(W:World) (h:Pg base Pb X W)=>Jq base Pb X W h);rw[decide_eq_false (show ¬8192<X.size by omega)]at HF;have HPut:=hid (fun(X s:ByteArray) (W:World) (h:Pg base Pb X W) (hs:s.size<=4096)=>Vb base Pb X s W h hs);have HP1:=hid (Xf hp (.cells #[.int .i64 10,.string T,.int .u64 a,.int .u64 b,.int .u64 c,.int .u64 d,.slice so n cap,.int .i64 p] 30));have HN1:Hid ((w.alloc (.cells #[.int .i64 10,.string T,.int .u64 a,.int .u64 b,.int .u64 c,.int .u64 d,.slice so n cap,.int .i64 p] 30)).heap[w.heap.size]? =some (.cells #[.int .i64 10,.string T,.int .u64 a,.int .u64 b,.int .u64 c,.int .u64 d,.slice so n cap,.int .i64 p] 30)):=Qq w _ rfl;subst hso;have HB0:=hid hb0;have HRc:=hid hrc;obtain⟨z0,z1,z2,z3,z4,z5,z6,z7⟩:=HRc.out.below (HB0.out.trans HP1.out.2.1) hg;have hgl:g<w.heap.size:=by have:=Nx hp;omega
 have HP4:=hid (Xf HP1.out.1 (.cells #[.int .i64 7,.int .i64 6,.int .i64 11,.int .i64 12,.int .i64 8,.int .i64 9,.int .i64 10] 3));have HN4:Hid (((w.alloc (.cells #[.int .i64 10,.string T,.int .u64 a,.int .u64 b,.int .u64 c,.int .u64 d,.slice (some ⟨g,o,none⟩) n cap,.int .i64 p] 30)).alloc (.cells #[.int .i64 7,.int .i64 6,.int .i64 11,.int .i64 12,.int .i64 8,.int .i64 9,.int .i64 10] 3)).heap[w.heap.size]? =some (.cells #[.int .i64 10,.string T,.int .u64 a,.int .u64 b,.int .u64 c,.int .u64 d,.slice (some ⟨g,o,none⟩) n cap,.int .i64 p] 30)):=(Below.heap_alloc _ _ _ (by simp)).trans HN1.out;have HK4:Hid (Ks ((w.alloc (.cells #[.int .i64 10,.string T,.int .u64 a,.int .u64 b,.int .u64 c,.int .u64 d,.slice (some ⟨g,o,none⟩) n cap,.int .i64 p] 30)).alloc (.cells #[.int .i64 7,.int .i64 6,.int .i64 11,.int .i64 12,.int .i64 8,.int .i64 9,.int .i64 10] 3)) (w.heap.size+1) [7,6,11,12,8,9,10]):=Ks.new7 _ _ _ _ _ _ _ _ (by simp);clear hb0 hrc;clear hp hx;go_enter func25,ntmps25
 go_wp2_with fail
 refine(HF.out _ HP1.out.1).mono ?_;rintro e w1 ⟨rfl,rfl⟩
 go_wp2_with fail
 refine(HR.out X _ _ HP4.out.1 (HB0.out.trans (HP1.out.2.1.trans HP4.out.2.1)) HK4.out).mono ?_;rintro e w3 ⟨rfl,HP3,HB3,HK3⟩;have HB3':=hid (HP1.out.2.1.trans (HP4.out.2.1.trans HB3.out));have HK3':=hid (HP1.out.2.2.trans (HP4.out.2.2.trans HK3.out));have HN3:Hid (w3.heap[w.heap.size]? =some (.cells #[.int .i64 10,.string T,.int .u64 a,.int .u64 b,.int .u64 c,.int .u64 d,.slice (some ⟨g,o,none⟩) n cap,.int .i64 p] 30)):=(HK3.out.2 _ _ _ (by decide) (by decide) HN4.out).trans HN4.out;clear HR HK4 z0 z1 z2 z3 z4 z5 z6 z7 HP1 HP4 HB3 HK3 HF HN1 HN4;obtain⟨⟨m0,m1,m2,m3,m4,m5,m6,m7⟩,_⟩:=Qk HN3.out;have hwl:=Qz HN3.out;have HP5:=hid (Xf HP3.out (.cells #[.string {data:=#[63]},.string {data:=#[42]},.string {data:=#[43]}] 9))
 go_wp2_with fail
 refine(HPut.out _ {data:=#[43]} _ HP5.out.1 (by decide)).mono ?_;rintro e w6 ⟨rfl,HP6,HB6,HK6⟩;clear m0 m1 m2 m3 m4 m5 m6 m7 HPut
 go_wp2_with fail
 (try simp only[Exit.inBlock,Exit.then])
 first|refine bodyPost_end (results_none rfl _ _ _) rfl ?_ |refine bodyPost_ret (results_none rfl _ _ _) rfl ?_
 rw[<-ByteArray.append_assoc];exact⟨rfl,HP6,hid (HB3'.out.trans (HP5.out.2.1.trans HB6.out)),hid (HK3'.out.trans (HP5.out.2.2.trans HK6.out))⟩
theorem TqL.at:∀{s:List RT} {q:List Nd},TqL s q->∀(j:Nat) (h1:j<s.length) (h2:j<q.length),Tq s[j] q[j]
 |[],[],_,j,h1,_=>by simp at h1
 |[],_::_,h,_,_,_=>by simp[TqL]at h
 |_::_,[],h,_,_,_=>by simp[TqL]at h
 |t::r,n::q,h,0,_,_=>by rw[TqL]at h;exact h.1
 |t::r,n::q,h,j+1,h1,h2=>by rw[TqL]at h;exact h.2.at j (by simpa using h1) (by simpa using h2)
theorem VkL.at:∀{q:List Nd},VkL q->∀(j:Nat) (h:j<q.length),Vk q[j]
 |[],_,j,h=>by simp at h
 |n::q,hv,0,_=>by rw[VkL]at hv;exact hv.1
 |n::q,hv,j+1,h=>by rw[VkL]at hv;exact hv.2.at j (by simpa using h)
theorem WfL.at{Nm:ByteArray->Prop}:∀{q:List Nd},WfL Nm q->∀(j:Nat) (h:j<q.length),Wf Nm q[j]
 |[],_,j,h=>by simp at h
 |n::q,hv,0,_=>by rw[WfL]at hv;exact hv.1
 |n::q,hv,j+1,h=>by rw[WfL]at hv;exact hv.2.at j (by simpa using h)
def yP(over:Nat)(n:Nd):ByteArray:=cat (pP qT cT over n)
theorem z0a(over:Nat)(n:Nd)(b:Bool)(hb:b=wr over n.kd):yP over n=if b then cat (bO::([cat (pN qT cT n)]++[bC]))else cat (pN qT cT n):=by
 unfold yP pP;rw[<-hb];cases b
 ·rfl
 ·show cat (bO::(pN qT cT n++[bC]))=cat (bO::([cat (pN qT cT n)]++[bC]))
  rw[List.singleton_append];simp only[cat,Gp]
theorem z3P(over:Nat)(sep:ByteArray):∀(r pre:List Nd),pre≠[]->Txp sep ((pre++r).map (yP over)) (pre++r).length=Txp sep ((pre++r).map (yP over)) pre.length++cat (pB qT cT over sep r)
 |[],pre,_=>by
  rw[List.append_nil,pB,cat];apply ByteArray.ext;simp
 |n::r,pre,hne=>by
  have h:=z3P over sep r (pre++[n]) (by simp);rw[List.append_assoc,List.singleton_append]at h;rw[h];have hy:((pre++n::r).map (yP over))[pre.length]? =some (yP over n):=by
   rw[List.getElem?_map,List.getElem?_append_right L0q,Nat.sub_self];rfl
  rw[List.length_append,List.length_singleton,Ob hy,if_neg (by intro e;exact hne (List.eq_nil_of_length_eq_zero e)),Jz,cat,Gp,ByteArray.append_assoc,ByteArray.append_assoc];rfl
theorem z3Q(over:Nat)(sep:ByteArray)(s:List Nd):Txp sep (s.map (yP over)) s.length=cat (pS qT cT over sep s):=by
 cases s with
 |nil=>rw[pS];rfl
 |cons n r=>
  have h:=z3P over sep r [n] (by simp);rw[List.singleton_append]at h;rw[h,List.length_singleton];have hy:((n::r).map (yP over))[0]? =some (yP over n):=rfl;rw[Ob hy,if_pos rfl,Gd,Gp,Txp];have e:∀Z:ByteArray,({data:=#[]}:ByteArray)++Z=Z:=fun Z=>by apply ByteArray.ext;simp
  rw[e];rfl
theorem y0b:∀kd:Nat,kd<13->([7,6]:List Int).contains (kd:Int)=wr 6 kd:=by decide
theorem y0c:∀kd:Nat,kd<13->([7]:List Int).contains (kd:Int)=wr 7 kd:=by decide
theorem y0d:∀kd:Nat,kd<13->([7,6,11,12]:List Int).contains (kd:Int)=wr 11 kd:=by decide
theorem y0e:∀kd:Nat,kd<13->([7,6,11,12]:List Int).contains (kd:Int)=wr 12 kd:=by decide
theorem y0f:∀kd:Nat,kd<13->1<=kd->([7,6,11,12,8,9,10]:List Int).contains (kd:Int)=wr 8 kd:=by decide
theorem y0g:∀kd:Nat,kd<13->1<=kd->([7,6,11,12,8,9,10]:List Int).contains (kd:Int)=wr 9 kd:=by decide
theorem y0h:∀kd:Nat,kd<13->1<=kd->([7,6,11,12,8,9,10]:List Int).contains (kd:Int)=wr 10 kd:=by decide
theorem Tq.kd{k:Int}{T:ByteArray}{a b c d:Int}{s:List RT}{p:Int}{n:Nd}(h:Tq (.mk k T a b c d s p) n):k=(n.kd:Int):=by
 obtain⟨kd,T',C,s',p'⟩:=n;rw[Tq]at h;exact h.1
theorem Qh.kind{B:Nat}{t:RT}{k:Int}{T:ByteArray}{a b c d:Int}{so:Option Addr}{n cap:Nat}{p:Int}(h:Qh w B t (r8 k T a b c d so n cap p)){nd:Nd}(hq:Tq t nd):k=(nd.kd:Int):=by
 obtain⟨k',T',a',b',c',d',s',p'⟩:=t;rw[Qh]at h;obtain⟨so',cap',e,_⟩:=h;simp only[List.cons.injEq,Value.int.injEq,true_and]at e;rw[e.1];exact hq.kd
theorem z3R(base Pb:Nat)(w0:World):∀(N:Nat) (t:RT) (nd:Nd) (cs:List Value),SizeOf.sizeOf t<N->Tq t nd->Vk nd->Wf Nmq nd->Qh w0 base t cs->PgC 25 #[.agg cs.toArray] base Pb w0 (cat (pN qT cT nd))
 |0,t,_,_,h,_,_,_,_=>by omega
 |N+1,.mk k T a b c d s p,.mk kd T' C s' pn,cs,hN,hq,hv,hw,ht=>by
  intro X W hp hb;have hkd:=hv.kd;rw[Tq]at hq;obtain⟨rfl,rfl,rfl,rfl,rfl,rfl,hs⟩:=hq;rw[Qh]at ht;obtain⟨so,cap,rfl,ht⟩:=ht;rcases Nat.lt_or_ge 8192 X.size with hx|hx
  ·exact z9O _ _ _ _ _ _ _ _ _ _ base Pb X _ W hp hx
  rw[Vk]at hv;rw[Wf]at hw;obtain⟨hv1,hvs⟩:=hv;obtain⟨w2,w5,wc,ws⟩:=hw;have hlen:=hs.length;have hrl:=Dc s;have hpt:∀j,j<s.length->∃g o,so=some ⟨g,o,none⟩/\g<base/\∃k1 T1 a1 b1 c1 d1 so1 n1 cap1 p1,Rc w0 g (o+j*8) k1 T1 a1 b1 c1 d1 (.slice so1 n1 cap1) p1/\∃(hj2:j<s'.length),k1=(s'[j].kd:Int)/\1<=s'[j].kd/\s'[j].kd<13/\
    PgC 25 #[.agg (r8 k1 T1 a1 b1 c1 d1 so1 n1 cap1 p1).toArray] base Pb w0 (cat (pN qT cT s'[j])):=fun j hj=>by
   rcases ht with h1|⟨h1,g,o,hso,hg,hm,hrs⟩
   ·have hs0:s=[]:=by simpa using h1
    subst hs0;simp at hj
   ·obtain⟨k1,T1,a1,b1,c1,d1,so1,n1,cap1,p1,r1,r2⟩:=Kl hrs j hj
    have hj2:j<s'.length:=by omega
    have hvj:=hvs.at j hj2;have hsz:=List.sizeOf_lt_of_mem (List.getElem_mem hj);simp only[RT.mk.sizeOf_spec]at hN;exact⟨g,o,hso,hg,k1,T1,a1,b1,c1,d1,so1,n1,cap1,p1,r2,hj2,r1.kind (hs.at j hj hj2),hvj.kd.1,by have:=hvj.kd.2;omega,z3R base Pb w0 N s[j] s'[j] _ (by omega) (hs.at j hj hj2) hvj (ws.at j hj2) r1⟩
  have hnz:Qg s<=9223372036854775807:=by
   rcases ht with h1|⟨h1,g,o,hso,hg,hm,hrs⟩
   ·have hs0:s=[]:=by simpa using h1
    subst hs0;rw[Qg];omega
   ·unfold maxLen at hm;omega
  rw[pN];rcases hv1 with⟨rfl,_⟩|⟨rfl,_⟩|⟨rfl,_⟩|⟨rfl,_⟩|⟨rfl,_⟩|⟨hk,_,_,hl2⟩|⟨h8,h12,_,_,hl1⟩
  ·exact z9P _ _ _ _ _ _ _ _ _ base Pb X W hp hx
  ·have e:cat [qT T']=nb (qt T'):=by rw[cat,cat];apply ByteArray.ext;simp
   rw[if_neg (by decide),if_pos rfl,e];exact z9S _ _ _ _ _ _ _ _ _ base Pb X W (w2 rfl) hp hx
  ·have e:cat [cT C]=nb (txt C):=by rw[cat,cat];apply ByteArray.ext;simp
   rw[if_neg (by decide),if_neg (by decide),if_pos rfl,e];exact z9T _ C _ _ _ _ base Pb X W hp hx
  ·rw[if_neg (by decide),if_neg (by decide),if_neg (by decide),if_pos rfl]
   exact z9Q _ _ _ _ _ _ _ _ _ base Pb X W hp hx
  ·have e:cat [T']=T':=by rw[cat,cat];apply ByteArray.ext;simp
   rw[if_neg (by decide),if_neg (by decide),if_neg (by decide),if_neg (by decide),if_pos rfl,e];exact z9R _ _ _ _ _ _ _ _ _ base Pb X W (Eb (w5 rfl)) hp hx
  ·rcases hk with rfl|rfl
   ·rw[if_neg (by decide),if_neg (by decide),if_neg (by decide),if_neg (by decide),if_neg (by decide),if_pos rfl,<-z3Q]
    refine z9U _ _ _ _ _ _ _ _ _ base Pb X W _ w0 hb (hid fun X W kb hp hb hk=> ?_) hp hx;have:=z3K so (Qg s) cap {data:=#[32]} (s'.map (yP 6)) [7,6] kb 2 base Pb w0 X W (by decide) (by decide) hnz (hid fun j hj=> ?_) hp hb hk rfl
    ·rw[show Qg s=s'.length by omega]at this ⊢
     exact this
    ·obtain⟨g,o,h1,h2,k1,T1,a1,b1,c1,d1,so1,n1,cap1,p1,h3,hj2,h4,h5,h6,h7⟩:=hpt j (by omega)
     refine⟨g,o,h1,h2,k1,T1,a1,b1,c1,d1,so1,n1,cap1,p1,h3,_,?_,h7⟩;rw[List.getElem?_map,List.getElem?_eq_getElem hj2,Option.map_some,z0a 6 s'[j] (([7,6]:List Int).contains k1) (by rw[h4];exact y0b _ h6)]
   ·rw[if_neg (by decide),if_neg (by decide),if_neg (by decide),if_neg (by decide),if_neg (by decide),if_neg (by decide),if_pos rfl,<-z3Q]
    refine z9V _ _ _ _ _ _ _ _ _ base Pb X W _ w0 hb (hid fun X W kb hp hb hk=> ?_) hp hx;have:=z3K so (Qg s) cap {data:=#[32,47,32]} (s'.map (yP 7)) [7] kb 1 base Pb w0 X W (by decide) (by decide) hnz (hid fun j hj=> ?_) hp hb hk rfl
    ·rw[show Qg s=s'.length by omega]at this ⊢
     exact this
    ·obtain⟨g,o,h1,h2,k1,T1,a1,b1,c1,d1,so1,n1,cap1,p1,h3,hj2,h4,h5,h6,h7⟩:=hpt j (by omega)
     refine⟨g,o,h1,h2,k1,T1,a1,b1,c1,d1,so1,n1,cap1,p1,h3,_,?_,h7⟩;rw[List.getElem?_map,List.getElem?_eq_getElem hj2,Option.map_some,z0a 7 s'[j] (([7]:List Int).contains k1) (by rw[h4];exact y0c _ h6)]
  ·obtain⟨n1',hs1⟩:∃n,s'=[n]:=by
    match s',hl1 with
    |[n],_=>exact⟨n,rfl⟩
   subst hs1;obtain⟨g,o,h1,h2,k1,T1,a1,b1,c1,d1,so1,n1,cap1,p1,h3,hj2,h4,h5,h6,h7⟩:=hpt 0 (by omega);rw[Nat.zero_mul,Nat.add_zero]at h3;have hpp:∀(over:Nat) (ks:List Int) (L:Nat),ks.length<=7->L=ks.length->ks.contains k1=wr over n1'.kd->Hid (∀(X:ByteArray) (W:World) (kb:Nat),Pg base Pb X W->Below base w0 W->Ks W kb ks->Calls prog 40 #[.pointer (some ⟨Pb,0,none⟩),.agg (r8 k1 T1 a1 b1 c1 d1 so1 n1 cap1 p1).toArray,.slice (some ⟨kb,0,none⟩) L L] W fun e w'=>PgA base Pb (X++yP over n1') W e w'):=fun over ks L hk7 hL hc=>hid fun X W kb hp hb hk=>by
    have:=z3v k1 T1 a1 b1 c1 d1 p1 so1 n1 cap1 ks kb L base Pb w0 _ X W hk7 (hid h7) hp hb hk hL;rw[z0a over n1' _ hc];exact this
   have hps:∀over sep,cat (pS qT cT over sep [n1'])=yP over n1':=fun over sep=>by
    rw[Gd,Gp,Gm,cat];show yP over n1'++_=_;apply ByteArray.ext;simp
   have e0:∀Z:ByteArray,Z++({data:=#[]}:ByteArray)=Z:=fun Z=>by apply ByteArray.ext;simp
   have h4':k1=(n1'.kd:Int):=h4;have h5':1<=n1'.kd:=h5;have h6':n1'.kd<13:=h6;have hn1:1<=Qg s:=by simp at hlen;omega
   have hkk:kd=8∨kd=9∨kd=10∨kd=11∨kd=12:=by omega
   rcases hkk with rfl|rfl|rfl|rfl|rfl
   ·have e:cat (pS qT cT 8 bE [n1']++[bsg 8])=yP 8 n1'++{data:=#[63]}:=by rw[Gp,hps,cat,cat,e0];rfl
    rw[if_neg (by decide),if_neg (by decide),if_neg (by decide),if_neg (by decide),if_neg (by decide),if_neg (by decide),if_neg (by decide),if_neg (by decide),e];exact z9Y _ _ _ _ _ _ _ _ _ base Pb X W _ w0 hb g o h1 h2 hn1 hnz k1 T1 a1 b1 c1 d1 so1 n1 cap1 p1 h3 (hpp 8 _ 7 (by decide) rfl (by rw[h4'];exact y0f _ h6' h5')) hp hx
   ·have e:cat (pS qT cT 9 bE [n1']++[bsg 9])=yP 9 n1'++{data:=#[42]}:=by rw[Gp,hps,cat,cat,e0];rfl
    rw[if_neg (by decide),if_neg (by decide),if_neg (by decide),if_neg (by decide),if_neg (by decide),if_neg (by decide),if_neg (by decide),if_neg (by decide),e];exact z9Z _ _ _ _ _ _ _ _ _ base Pb X W _ w0 hb g o h1 h2 hn1 hnz k1 T1 a1 b1 c1 d1 so1 n1 cap1 p1 h3 (hpp 9 _ 7 (by decide) rfl (by rw[h4'];exact y0g _ h6' h5')) hp hx
   ·have e:cat (pS qT cT 10 bE [n1']++[bsg 10])=yP 10 n1'++{data:=#[43]}:=by rw[Gp,hps,cat,cat,e0];rfl
    rw[if_neg (by decide),if_neg (by decide),if_neg (by decide),if_neg (by decide),if_neg (by decide),if_neg (by decide),if_neg (by decide),if_neg (by decide),e];exact y0a _ _ _ _ _ _ _ _ _ base Pb X W _ w0 hb g o h1 h2 hn1 hnz k1 T1 a1 b1 c1 d1 so1 n1 cap1 p1 h3 (hpp 10 _ 7 (by decide) rfl (by rw[h4'];exact y0h _ h6' h5')) hp hx
   ·have e:cat (bsg 11::pS qT cT 11 bE [n1'])={data:=#[38]}++yP 11 n1':=by rw[cat,hps];rfl
    rw[if_neg (by decide),if_neg (by decide),if_neg (by decide),if_neg (by decide),if_neg (by decide),if_neg (by decide),if_neg (by decide),if_pos (by decide),e];exact z9W _ _ _ _ _ _ _ _ _ base Pb X W _ w0 hb g o h1 h2 hn1 hnz k1 T1 a1 b1 c1 d1 so1 n1 cap1 p1 h3 (hpp 11 _ 4 (by decide) rfl (by rw[h4'];exact y0d _ h6')) hp hx
   ·have e:cat (bsg 12::pS qT cT 12 bE [n1'])={data:=#[33]}++yP 12 n1':=by rw[cat,hps];rfl
    rw[if_neg (by decide),if_neg (by decide),if_neg (by decide),if_neg (by decide),if_neg (by decide),if_neg (by decide),if_neg (by decide),if_pos (by decide),e];exact z9X _ _ _ _ _ _ _ _ _ base Pb X W _ w0 hb g o h1 h2 hn1 hnz k1 T1 a1 b1 c1 d1 so1 n1 cap1 p1 h3 (hpp 12 _ 4 (by decide) rfl (by rw[h4'];exact y0e _ h6')) hp hx
end Go.Proofs.YtikfnaffiehpaaaGreatDoor
