/- Lemmas for the last text. Conditions: those that each names. -/
import Derived.Test.YtgnkkgcgbeianaaGreatDoorVQ5ToR3
set_option linter.unusedVariables false
set_option maxRecDepth 100000
set_option maxHeartbeats 4000000
namespace Go.Proofs.YtgnkkgcgbeianaaGreatDoor
open Go.Proofs.Tryz
section
open Go.RowKit Go.Shelf
attribute [local go_sem] Oper.semAt_some
theorem Az(kd:Nat)(w:World)(h:8<=kd)(o:kd<=12):Calls prog 305 #[.int .i64 kd] w fun e w'=>e=.returned (.string (bsg kd))/\w'=w:=by
 have r:kd=8∨kd=9∨kd=10∨kd=11∨kd=12:=by omega
 clear h o;rcases r with rfl|rfl|rfl|rfl|rfl<;>
  (go_enter func305,ntmps305
   go_wp2_with fail
   go_ret;exact⟨rfl,rfl⟩)
theorem z3n{W W':World}(h:Below W.heap.size W W'):W.grownBy W' none:=⟨h.os,h.tape,h.output,h.size,fun j o _=>h.block j o⟩
section
variable {s0 l N:Nat} {J Jx:List ByteArray->World->Prop} {QT:ByteArray->ByteArray} {CT:Nat->ByteArray}
theorem y1k(G:Yl s0 l N J Jx)(m:Nat)(T:ByteArray)(C:Nat)(p:Int)(o:Option Addr)(r t:Nat)(y:List ByteArray)(W:World)(Y:J y W)(hl:y.length+2<=N):
  CallsIn Fence.wide m prog 295 #[(.agg #[.int .i64 (1:Int),.string T,.int .u64 (wd C 0),.int .u64 (wd C 1),.int .u64 (wd C 2),.int .u64 (wd C 3),.slice o r t,.int .i64 p]),.func (.yield l) #[] #[]] W (Yp s0 J Jx y [bO,bC] W):=by
 have Z:=Xm;have HB:Hid ((W.alloc (.cells #[.int .i64 (1:Int),.string T,.int .u64 (wd C 0),.int .u64 (wd C 1),.int .u64 (wd C 2),.int .u64 (wd C 3),.slice o r t,.int .i64 p] 81)).heap[W.heap.size]? =some (.cells #[.int .i64 (1:Int),.string T,.int .u64 (wd C 0),.int .u64 (wd C 1),.int .u64 (wd C 2),.int .u64 (wd C 3),.slice o r t,.int .i64 p] 81)):=Qx W _ rfl;have aa:=hid (G.call (m-1) y bO (W.alloc (.cells #[.int .i64 (1:Int),.string T,.int .u64 (wd C 0),.int .u64 (wd C 1),.int .u64 (wd C 2),.int .u64 (wd C 3),.slice o r t,.int .i64 p] 81)) (G.alloc Y (.cells #[.int .i64 (1:Int),.string T,.int .u64 (wd C 0),.int .u64 (wd C 1),.int .u64 (wd C 2),.int .u64 (wd C 3),.slice o r t,.int .i64 p] 81)) (by omega) (by decide));have V:=hid (fun(I:World) (U:J (y++[bO]) I)=>G.call (m-1) _ bC I U (by simp;omega) (by decide));clear G Y hl;obtain⟨fn,ac,ad,Qm,A,D⟩:=aa.out;have E:=hid D;clear D aa;unfold bO at A;refine callsIn_of_wp func295 rfl trivial ?_ rfl;simp only[ntmps295,List.size_toArray,List.length_cons,List.length_nil,Nat.reduceAdd,Nat.reduceSub,Array.replicate_succ,Array.replicate_zero,List.push_toArray,List.append_toArray,List.nil_append,List.cons_append]
 gi_wp2
 refine⟨Z _,E.out.mono ?_⟩;clear E A;rintro e I (⟨rfl,U,ab⟩|⟨rfl,ae⟩)
 ·obtain⟨fn,ac,ad,Qm,A,D⟩:=V.out I U
  have E:=hid D;have af:=hid ab;clear D V U ab;unfold bC at A
  gi_wp2
  refine⟨Z _,E.out.mono ?_⟩;clear E A;rintro e W3 (⟨rfl,ag,ah⟩|⟨rfl,ai⟩)
  ·gi_wp2
   go_ret;exact .inl ⟨rfl,by simpa [List.append_assoc,bC]using ag,((Kt.alloc W _).trans af.out).trans ah⟩
  ·gi_wp2
   go_ret;exact .inr ⟨rfl,[bO,bC],List.prefix_refl _,by simpa [List.append_assoc,bC]using ai⟩
 ·clear V
  gi_wp2
  refine⟨fun _ h=>(by cases h),?_⟩
  gi_wp2
  go_ret;exact .inr ⟨rfl,[bO],⟨[bC],rfl⟩,ae⟩
theorem y1l(o:Yl s0 l N J Jx)(m:Nat)(T:ByteArray)(C:Nat)(p:Int)(r:Option Addr)(t y:Nat)(h:List ByteArray)(W:World)(A:J h W)(hl:h.length+1<=N):
  CallsIn Fence.wide m prog 295 #[(.agg #[.int .i64 (4:Int),.string T,.int .u64 (wd C 0),.int .u64 (wd C 1),.int .u64 (wd C 2),.int .u64 (wd C 3),.slice r t y,.int .i64 p]),.func (.yield l) #[] #[]] W (Yp s0 J Jx h [Ml] W):=by
 have U:=Xm;have D:=hid (o.call (m-1) h Ml (W.alloc (.cells #[.int .i64 (4:Int),.string T,.int .u64 (wd C 0),.int .u64 (wd C 1),.int .u64 (wd C 2),.int .u64 (wd C 3),.slice r t y,.int .i64 p] 81)) (o.alloc A (.cells #[.int .i64 (4:Int),.string T,.int .u64 (wd C 0),.int .u64 (wd C 1),.int .u64 (wd C 2),.int .u64 (wd C 3),.slice r t y,.int .i64 p] 81)) (by omega) (by decide));clear o A hl;obtain⟨fn,aa,ab,Qm,E,G⟩:=D.out;have I:=hid G;clear G D;unfold Ml at E;refine callsIn_of_wp func295 rfl trivial ?_ rfl;simp only[ntmps295,List.size_toArray,List.length_cons,List.length_nil,Nat.reduceAdd,Nat.reduceSub,Array.replicate_succ,Array.replicate_zero,List.push_toArray,List.append_toArray,List.nil_append,List.cons_append]
 gi_wp2
 refine⟨U _,I.out.mono ?_⟩;clear I E;rintro e W2 (⟨rfl,V,Y⟩|⟨rfl,Z⟩)
 ·gi_wp2
  go_ret;exact .inl ⟨rfl,V,(Kt.alloc W _).trans Y⟩
 ·gi_wp2
  go_ret;exact .inr ⟨rfl,[Ml],List.prefix_refl _,Z⟩
theorem y1m(o:Yl s0 l N J Jx)(m:Nat)(T:ByteArray)(C:Nat)(p:Int)(r:Option Addr)(t y:Nat)(h:List ByteArray)(W:World)(I:T.size<=4096)(A:J h W)(hl:h.length+1<=N):
  CallsIn Fence.wide m prog 295 #[(.agg #[.int .i64 (5:Int),.string T,.int .u64 (wd C 0),.int .u64 (wd C 1),.int .u64 (wd C 2),.int .u64 (wd C 3),.slice r t y,.int .i64 p]),.func (.yield l) #[] #[]] W (Yp s0 J Jx h [T] W):=by
 have U:=Xm;have D:=hid (o.call (m-1) h T (W.alloc (.cells #[.int .i64 (5:Int),.string T,.int .u64 (wd C 0),.int .u64 (wd C 1),.int .u64 (wd C 2),.int .u64 (wd C 3),.slice r t y,.int .i64 p] 81)) (o.alloc A (.cells #[.int .i64 (5:Int),.string T,.int .u64 (wd C 0),.int .u64 (wd C 1),.int .u64 (wd C 2),.int .u64 (wd C 3),.slice r t y,.int .i64 p] 81)) (by omega) I);clear o A hl;obtain⟨fn,ab,ac,Qm,V,E⟩:=D.out;have G:=hid E;clear E D;refine callsIn_of_wp func295 rfl trivial ?_ rfl;simp only[ntmps295,List.size_toArray,List.length_cons,List.length_nil,Nat.reduceAdd,Nat.reduceSub,Array.replicate_succ,Array.replicate_zero,List.push_toArray,List.append_toArray,List.nil_append,List.cons_append]
 gi_wp2
 refine⟨U _,G.out.mono ?_⟩;clear G V;rintro e W2 (⟨rfl,Y,Z⟩|⟨rfl,aa⟩)
 ·gi_wp2
  go_ret;exact .inl ⟨rfl,Y,(Kt.alloc W _).trans Z⟩
 ·gi_wp2
  go_ret;exact .inr ⟨rfl,[T],List.prefix_refl _,aa⟩
theorem y1n(r:Yl s0 l N J Jx)(m:Nat)(T:ByteArray)(C:Nat)(p:Int)(G:Option Addr)(I U:Nat)(o:List ByteArray)(W:World)(hT:T.size<=255)(V:(nb (qt T)).size<=4096)(Y:J o W)(hl:o.length+1<=N):
  CallsIn Fence.wide m prog 295 #[(.agg #[.int .i64 (2:Int),.string T,.int .u64 (wd C 0),.int .u64 (wd C 1),.int .u64 (wd C 2),.int .u64 (wd C 3),.slice G I U,.int .i64 p]),.func (.yield l) #[] #[]] W (Yp s0 J Jx o [(nb (qt T))] W):=by
 have Z:=Xm;obtain⟨h,t⟩:∃h,h=W.alloc (.cells #[.int .i64 (2:Int),.string T,.int .u64 (wd C 0),.int .u64 (wd C 1),.int .u64 (wd C 2),.int .u64 (wd C 3),.slice G I U,.int .i64 p] 81):=⟨_,rfl⟩;have aa:=hid t;have ab:Hid (Kt s0 W h):=by rw[t];exact Kt.alloc W _
 have ac:Hid (J o h):=by rw[t];exact r.alloc Y _
 have A:=hid (y0n T h (by omega));have D:=hid (fun(y:World) (hb:Below h.heap.size h y)=>r.call (m-1) o (nb (qt T)) y (r.grow _ _ _ ac.out (z3n hb)) (by omega) V);clear r Y hl t;obtain⟨X,hX⟩:∃X,X=(nb (qt T)):=⟨_,rfl⟩;rw[<-hX]at A D ⊢;clear hX V;refine callsIn_of_wp func295 rfl trivial ?_ rfl;simp only[ntmps295,List.size_toArray,List.length_cons,List.length_nil,Nat.reduceAdd,Nat.reduceSub,Array.replicate_succ,Array.replicate_zero,List.push_toArray,List.append_toArray,List.nil_append,List.cons_append]
 gi_wp2
 rw[<-aa.out];refine⟨trivial,Z _,?_⟩;refine(callsIn_wide.2 A.out).mono ?_;clear A;rintro e y ⟨rfl,E⟩;obtain⟨fn,ah,ai,Qm,hy,hR⟩:=D.out y E;have HR:=hid hR;have ad:=hid (Kt.below (s0:=s0) E);clear hR D E
 gi_wp2
 refine⟨Z _,HR.out.mono ?_⟩;clear HR hy;rintro e W3 (⟨rfl,ae,af⟩|⟨rfl,ag⟩)
 ·gi_wp2
  go_ret;exact .inl ⟨rfl,ae,(ab.out.trans ad.out).trans af⟩
 ·gi_wp2
  go_ret;exact .inr ⟨rfl,[X],List.prefix_refl _,ag⟩
theorem y1o(r:Yl s0 l N J Jx)(m:Nat)(T:ByteArray)(C:Nat)(p:Int)(G:Option Addr)(I U:Nat)(o:List ByteArray)(W:World)(hC:C<2^256)(V:(nb (txt C)).size<=4096)(ab:TabIs W)(Y:J o W)(hl:o.length+1<=N):
  CallsIn Fence.wide m prog 295 #[(.agg #[.int .i64 (3:Int),.string T,.int .u64 (wd C 0),.int .u64 (wd C 1),.int .u64 (wd C 2),.int .u64 (wd C 3),.slice G I U,.int .i64 p]),.func (.yield l) #[] #[]] W (Yp s0 J Jx o [(nb (txt C))] W):=by
 have Z:=Xm;obtain⟨h,t⟩:∃h,h=W.alloc (.cells #[.int .i64 (3:Int),.string T,.int .u64 (wd C 0),.int .u64 (wd C 1),.int .u64 (wd C 2),.int .u64 (wd C 3),.slice G I U,.int .i64 p] 81):=⟨_,rfl⟩;have ac:=hid t;have aa:Hid (Kt s0 W h):=by rw[t];exact Kt.alloc W _
 have ad:Hid (J o h):=by rw[t];exact r.alloc Y _
 have y:=hid (y0E C h hC (aa.out.tab ab));have D:=hid (fun(A:World) (hb:Below h.heap.size h A)=>r.call (m-1) o (nb (txt C)) A (r.grow _ _ _ ad.out (z3n hb)) (by omega) V);clear r Y hl t;obtain⟨X,hX⟩:∃X,X=(nb (txt C)):=⟨_,rfl⟩;rw[<-hX]at y D ⊢;clear hX V;unfold cv at y;refine callsIn_of_wp func295 rfl trivial ?_ rfl;simp only[ntmps295,List.size_toArray,List.length_cons,List.length_nil,Nat.reduceAdd,Nat.reduceSub,Array.replicate_succ,Array.replicate_zero,List.push_toArray,List.append_toArray,List.nil_append,List.cons_append]
 gi_wp2
 rw[<-ac.out];refine⟨trivial,Z _,?_⟩;refine(callsIn_wide.2 y.out).mono ?_;clear y;rintro e A ⟨rfl,E⟩;obtain⟨fn,ai,aj,Qm,hy,hR⟩:=D.out A E;have HR:=hid hR;have ae:=hid (Kt.below (s0:=s0) E);clear hR D E
 gi_wp2
 refine⟨Z _,HR.out.mono ?_⟩;clear HR hy;rintro e W3 (⟨rfl,af,ag⟩|⟨rfl,ah⟩)
 ·gi_wp2
  go_ret;exact .inl ⟨rfl,af,(aa.out.trans ae.out).trans ag⟩
 ·gi_wp2
  go_ret;exact .inr ⟨rfl,[X],List.prefix_refl _,ah⟩
theorem y1p(A:Yl s0 l N J Jx)(m:Nat)(T:ByteArray)(C:Nat)(p:Int)(r:Option Addr)(t y:Nat)(h:List ByteArray)(W:World)(D:List ByteArray)(E:∀o,Kt s0 W o->J h o->CallsIn Fence.wide (m-1) prog 304 #[(.agg #[.int .i64 (6:Int),.string T,.int .u64 (wd C 0),.int .u64 (wd C 1),.int .u64 (wd C 2),.int .u64 (wd C 3),.slice r t y,.int .i64 p]),.string {data:=#[32]},.func (.yield l) #[] #[]] o (Yp s0 J Jx h D o))(G:J h W):
  CallsIn Fence.wide m prog 295 #[(.agg #[.int .i64 (6:Int),.string T,.int .u64 (wd C 0),.int .u64 (wd C 1),.int .u64 (wd C 2),.int .u64 (wd C 3),.slice r t y,.int .i64 p]),.func (.yield l) #[] #[]] W (Yp s0 J Jx h D W):=by
 have U:=Xm;have I:=hid (E (W.alloc (.cells #[.int .i64 (6:Int),.string T,.int .u64 (wd C 0),.int .u64 (wd C 1),.int .u64 (wd C 2),.int .u64 (wd C 3),.slice r t y,.int .i64 p] 81)) (Kt.alloc W _) (A.alloc G _));clear E A G;refine callsIn_of_wp func295 rfl trivial ?_ rfl;simp only[ntmps295,List.size_toArray,List.length_cons,List.length_nil,Nat.reduceAdd,Nat.reduceSub,Array.replicate_succ,Array.replicate_zero,List.push_toArray,List.append_toArray,List.nil_append,List.cons_append]
 gi_wp2
 refine⟨trivial,U _,I.out.mono ?_⟩;clear I;rintro e W2 (⟨rfl,V,Y⟩|⟨rfl,q,Z,aa⟩)
 ·gi_wp2
  go_ret;exact .inl ⟨rfl,V,(Kt.alloc W _).trans Y⟩
 ·gi_wp2
  go_ret;exact .inr ⟨rfl,q,Z,aa⟩
theorem y1q(A:Yl s0 l N J Jx)(m:Nat)(T:ByteArray)(C:Nat)(p:Int)(r:Option Addr)(t y:Nat)(h:List ByteArray)(W:World)(D:List ByteArray)(E:∀o,Kt s0 W o->J h o->CallsIn Fence.wide (m-1) prog 304 #[(.agg #[.int .i64 (7:Int),.string T,.int .u64 (wd C 0),.int .u64 (wd C 1),.int .u64 (wd C 2),.int .u64 (wd C 3),.slice r t y,.int .i64 p]),.string {data:=#[32,47,32]},.func (.yield l) #[] #[]] o (Yp s0 J Jx h D o))(G:J h W):
  CallsIn Fence.wide m prog 295 #[(.agg #[.int .i64 (7:Int),.string T,.int .u64 (wd C 0),.int .u64 (wd C 1),.int .u64 (wd C 2),.int .u64 (wd C 3),.slice r t y,.int .i64 p]),.func (.yield l) #[] #[]] W (Yp s0 J Jx h D W):=by
 have U:=Xm;have I:=hid (E (W.alloc (.cells #[.int .i64 (7:Int),.string T,.int .u64 (wd C 0),.int .u64 (wd C 1),.int .u64 (wd C 2),.int .u64 (wd C 3),.slice r t y,.int .i64 p] 81)) (Kt.alloc W _) (A.alloc G _));clear E A G;refine callsIn_of_wp func295 rfl trivial ?_ rfl;simp only[ntmps295,List.size_toArray,List.length_cons,List.length_nil,Nat.reduceAdd,Nat.reduceSub,Array.replicate_succ,Array.replicate_zero,List.push_toArray,List.append_toArray,List.nil_append,List.cons_append]
 gi_wp2
 refine⟨trivial,U _,I.out.mono ?_⟩;clear I;rintro e W2 (⟨rfl,V,Y⟩|⟨rfl,q,Z,aa⟩)
 ·gi_wp2
  go_ret;exact .inl ⟨rfl,V,(Kt.alloc W _).trans Y⟩
 ·gi_wp2
  go_ret;exact .inr ⟨rfl,q,Z,aa⟩
theorem y1r(E:Yl s0 l N J Jx)(m:Nat)(T:ByteArray)(C:Nat)(p:Int)(h:Option Addr)(o t:Nat)(y:List ByteArray)(W:World)(G:List ByteArray)(V:∀A,Kt s0 W A->J (y++[bsg 11]) A->CallsIn Fence.wide (m-1) prog 304 #[(.agg #[.int .i64 (11:Int),.string T,.int .u64 (wd C 0),.int .u64 (wd C 1),.int .u64 (wd C 2),.int .u64 (wd C 3),.slice h o t,.int .i64 p]),.string ⟨#[]⟩,.func (.yield l) #[] #[]] A (Yp s0 J Jx (y++[bsg 11]) G A))(Y:J y W)(hl:y.length+1<=N):
  CallsIn Fence.wide m prog 295 #[(.agg #[.int .i64 (11:Int),.string T,.int .u64 (wd C 0),.int .u64 (wd C 1),.int .u64 (wd C 2),.int .u64 (wd C 3),.slice h o t,.int .i64 p]),.func (.yield l) #[] #[]] W (Yp s0 J Jx y (bsg 11::G) W):=by
 have I:=Xm;have HB:Hid ((W.alloc (.cells #[.int .i64 (11:Int),.string T,.int .u64 (wd C 0),.int .u64 (wd C 1),.int .u64 (wd C 2),.int .u64 (wd C 3),.slice h o t,.int .i64 p] 81)).heap[W.heap.size]? =some (.cells #[.int .i64 (11:Int),.string T,.int .u64 (wd C 0),.int .u64 (wd C 1),.int .u64 (wd C 2),.int .u64 (wd C 3),.slice h o t,.int .i64 p] 81)):=Qx W _ rfl;have HS:=hid (fun w:World=>Az 11 w (by decide) (by decide));have Z:=hid (E.call (m-1) y (bsg 11) (W.alloc (.cells #[.int .i64 (11:Int),.string T,.int .u64 (wd C 0),.int .u64 (wd C 1),.int .u64 (wd C 2),.int .u64 (wd C 3),.slice h o t,.int .i64 p] 81)) (E.alloc Y (.cells #[.int .i64 (11:Int),.string T,.int .u64 (wd C 0),.int .u64 (wd C 1),.int .u64 (wd C 2),.int .u64 (wd C 3),.slice h o t,.int .i64 p] 81)) (by omega) (by decide));have U:=hid V;clear E Y hl V;obtain⟨fn,ah,ai,Qm,hy,hR⟩:=Z.out;have HR:=hid hR;clear hR Z;refine callsIn_of_wp func295 rfl trivial ?_ rfl;simp only[ntmps295,List.size_toArray,List.length_cons,List.length_nil,Nat.reduceAdd,Nat.reduceSub,Array.replicate_succ,Array.replicate_zero,List.push_toArray,List.append_toArray,List.nil_append,List.cons_append]
 gi_wp2
 refine⟨trivial,I _,(callsIn_wide.2 (HS.out _)).mono ?_⟩;rintro e A ⟨rfl,rfl⟩
 gi_wp2
 refine⟨I _,HR.out.mono ?_⟩;clear HR hy;rintro e W2 (⟨rfl,aa,D⟩|⟨rfl,ac⟩)
 ·obtain⟨⟨c0,c1,c2,c3,c4,c5,c6,c7⟩,_⟩:=Qy (D.eight HB.out)
  have ab:=hid (U.out W2 ((Kt.alloc W _).trans D) aa);have ad:=hid D;clear U aa D
  gi_wp2
  refine⟨trivial,I _,ab.out.mono ?_⟩;clear ab;rintro e W3 (⟨rfl,ae,af⟩|⟨rfl,q,hq,ag⟩)
  ·gi_wp2
   go_ret;exact .inl ⟨rfl,by simpa [List.append_assoc]using ae,((Kt.alloc W _).trans ad.out).trans af⟩
  ·gi_wp2
   go_ret;obtain⟨r,hr⟩:=hq;exact .inr ⟨rfl,bsg 11::q,⟨r,by rw[<-hr];rfl⟩,by simpa [List.append_assoc]using ag⟩
 ·clear U
  gi_wp2
  refine⟨trivial,?_⟩
  gi_wp2
  go_ret;exact .inr ⟨rfl,[bsg 11],⟨G,rfl⟩,ac⟩
theorem y1s(E:Yl s0 l N J Jx)(m:Nat)(T:ByteArray)(C:Nat)(p:Int)(h:Option Addr)(o t:Nat)(y:List ByteArray)(W:World)(G:List ByteArray)(V:∀A,Kt s0 W A->J (y++[bsg 12]) A->CallsIn Fence.wide (m-1) prog 304 #[(.agg #[.int .i64 (12:Int),.string T,.int .u64 (wd C 0),.int .u64 (wd C 1),.int .u64 (wd C 2),.int .u64 (wd C 3),.slice h o t,.int .i64 p]),.string ⟨#[]⟩,.func (.yield l) #[] #[]] A (Yp s0 J Jx (y++[bsg 12]) G A))(Y:J y W)(hl:y.length+1<=N):
  CallsIn Fence.wide m prog 295 #[(.agg #[.int .i64 (12:Int),.string T,.int .u64 (wd C 0),.int .u64 (wd C 1),.int .u64 (wd C 2),.int .u64 (wd C 3),.slice h o t,.int .i64 p]),.func (.yield l) #[] #[]] W (Yp s0 J Jx y (bsg 12::G) W):=by
 have I:=Xm;have HB:Hid ((W.alloc (.cells #[.int .i64 (12:Int),.string T,.int .u64 (wd C 0),.int .u64 (wd C 1),.int .u64 (wd C 2),.int .u64 (wd C 3),.slice h o t,.int .i64 p] 81)).heap[W.heap.size]? =some (.cells #[.int .i64 (12:Int),.string T,.int .u64 (wd C 0),.int .u64 (wd C 1),.int .u64 (wd C 2),.int .u64 (wd C 3),.slice h o t,.int .i64 p] 81)):=Qx W _ rfl;have HS:=hid (fun w:World=>Az 12 w (by decide) (by decide));have Z:=hid (E.call (m-1) y (bsg 12) (W.alloc (.cells #[.int .i64 (12:Int),.string T,.int .u64 (wd C 0),.int .u64 (wd C 1),.int .u64 (wd C 2),.int .u64 (wd C 3),.slice h o t,.int .i64 p] 81)) (E.alloc Y (.cells #[.int .i64 (12:Int),.string T,.int .u64 (wd C 0),.int .u64 (wd C 1),.int .u64 (wd C 2),.int .u64 (wd C 3),.slice h o t,.int .i64 p] 81)) (by omega) (by decide));have U:=hid V;clear E Y hl V;obtain⟨fn,ah,ai,Qm,hy,hR⟩:=Z.out;have HR:=hid hR;clear hR Z;refine callsIn_of_wp func295 rfl trivial ?_ rfl;simp only[ntmps295,List.size_toArray,List.length_cons,List.length_nil,Nat.reduceAdd,Nat.reduceSub,Array.replicate_succ,Array.replicate_zero,List.push_toArray,List.append_toArray,List.nil_append,List.cons_append]
 gi_wp2
 refine⟨trivial,I _,(callsIn_wide.2 (HS.out _)).mono ?_⟩;rintro e A ⟨rfl,rfl⟩
 gi_wp2
 refine⟨I _,HR.out.mono ?_⟩;clear HR hy;rintro e W2 (⟨rfl,aa,D⟩|⟨rfl,ac⟩)
 ·obtain⟨⟨c0,c1,c2,c3,c4,c5,c6,c7⟩,_⟩:=Qy (D.eight HB.out)
  have ab:=hid (U.out W2 ((Kt.alloc W _).trans D) aa);have ad:=hid D;clear U aa D
  gi_wp2
  refine⟨trivial,I _,ab.out.mono ?_⟩;clear ab;rintro e W3 (⟨rfl,ae,af⟩|⟨rfl,q,hq,ag⟩)
  ·gi_wp2
   go_ret;exact .inl ⟨rfl,by simpa [List.append_assoc]using ae,((Kt.alloc W _).trans ad.out).trans af⟩
  ·gi_wp2
   go_ret;obtain⟨r,hr⟩:=hq;exact .inr ⟨rfl,bsg 12::q,⟨r,by rw[<-hr];rfl⟩,by simpa [List.append_assoc]using ag⟩
 ·clear U
  gi_wp2
  refine⟨trivial,?_⟩
  gi_wp2
  go_ret;exact .inr ⟨rfl,[bsg 12],⟨G,rfl⟩,ac⟩
theorem y1t(U:Yl s0 l N J Jx)(m:Nat)(T:ByteArray)(C:Nat)(p:Int)(t:Option Addr)(y A:Nat)(o:List ByteArray)(W:World)(D:List ByteArray)(hP:∀E,Kt s0 W E->J o E->CallsIn Fence.wide (m-1) prog 304 #[(.agg #[.int .i64 (8:Int),.string T,.int .u64 (wd C 0),.int .u64 (wd C 1),.int .u64 (wd C 2),.int .u64 (wd C 3),.slice t y A,.int .i64 p]),.string ⟨#[]⟩,.func (.yield l) #[] #[]] E (Yp s0 J Jx o D E))(hJ:J o W)(hl:o.length+(D.length+1)<=N):
  CallsIn Fence.wide m prog 295 #[(.agg #[.int .i64 (8:Int),.string T,.int .u64 (wd C 0),.int .u64 (wd C 1),.int .u64 (wd C 2),.int .u64 (wd C 3),.slice t y A,.int .i64 p]),.func (.yield l) #[] #[]] W (Yp s0 J Jx o (D++[bsg 8]) W):=by
 have V:=Xm;have HB:Hid ((W.alloc (.cells #[.int .i64 (8:Int),.string T,.int .u64 (wd C 0),.int .u64 (wd C 1),.int .u64 (wd C 2),.int .u64 (wd C 3),.slice t y A,.int .i64 p] 81)).heap[W.heap.size]? =some (.cells #[.int .i64 (8:Int),.string T,.int .u64 (wd C 0),.int .u64 (wd C 1),.int .u64 (wd C 2),.int .u64 (wd C 3),.slice t y A,.int .i64 p] 81)):=Qx W _ rfl;have HS:=hid (fun w:World=>Az 8 w (by decide) (by decide));have HP:=hid (hP (W.alloc (.cells #[.int .i64 (8:Int),.string T,.int .u64 (wd C 0),.int .u64 (wd C 1),.int .u64 (wd C 2),.int .u64 (wd C 3),.slice t y A,.int .i64 p] 81)) (Kt.alloc W _) (U.alloc hJ _));have Y:=hid (fun(G:World) (I:J (o++D) G)=>U.call (m-1) _ (bsg 8) G I (by simp;omega) (by decide));clear U hJ hl hP;refine callsIn_of_wp func295 rfl trivial ?_ rfl;simp only[ntmps295,List.size_toArray,List.length_cons,List.length_nil,Nat.reduceAdd,Nat.reduceSub,Array.replicate_succ,Array.replicate_zero,List.push_toArray,List.append_toArray,List.nil_append,List.cons_append]
 gi_wp2
 refine⟨trivial,V _,HP.out.mono ?_⟩;clear HP;rintro e G (⟨rfl,I,Z⟩|⟨rfl,q,hq,aa⟩)
 ·obtain⟨⟨c0,c1,c2,c3,c4,c5,c6,c7⟩,_⟩:=Qy (Z.eight HB.out)
  obtain⟨fn,af,ag,Qm,hy,hR⟩:=Y.out G I;have HR:=hid hR;have ab:=hid Z;clear hR Y I Z
  gi_wp2
  refine⟨trivial,V _,(callsIn_wide.2 (HS.out _)).mono ?_⟩;rintro e W3 ⟨rfl,rfl⟩
  gi_wp2
  refine⟨V _,HR.out.mono ?_⟩;clear HR hy;rintro e W4 (⟨rfl,ac,ad⟩|⟨rfl,ae⟩)
  ·gi_wp2
   go_ret;exact .inl ⟨rfl,by simpa [List.append_assoc]using ac,((Kt.alloc W _).trans ab.out).trans ad⟩
  ·gi_wp2
   go_ret;exact .inr ⟨rfl,D++[bsg 8],List.prefix_refl _,by simpa [List.append_assoc]using ae⟩
 ·clear Y
  gi_wp2
  refine⟨trivial,?_⟩
  gi_wp2
  refine⟨fun _ h=>(by cases h),?_⟩
  gi_wp2
  go_ret;obtain⟨r,hr⟩:=hq;exact .inr ⟨rfl,q,⟨r++[bsg 8],by rw[<-hr];simp⟩,aa⟩
theorem y1u(U:Yl s0 l N J Jx)(m:Nat)(T:ByteArray)(C:Nat)(p:Int)(t:Option Addr)(y A:Nat)(o:List ByteArray)(W:World)(D:List ByteArray)(hP:∀E,Kt s0 W E->J o E->CallsIn Fence.wide (m-1) prog 304 #[(.agg #[.int .i64 (9:Int),.string T,.int .u64 (wd C 0),.int .u64 (wd C 1),.int .u64 (wd C 2),.int .u64 (wd C 3),.slice t y A,.int .i64 p]),.string ⟨#[]⟩,.func (.yield l) #[] #[]] E (Yp s0 J Jx o D E))(hJ:J o W)(hl:o.length+(D.length+1)<=N):
  CallsIn Fence.wide m prog 295 #[(.agg #[.int .i64 (9:Int),.string T,.int .u64 (wd C 0),.int .u64 (wd C 1),.int .u64 (wd C 2),.int .u64 (wd C 3),.slice t y A,.int .i64 p]),.func (.yield l) #[] #[]] W (Yp s0 J Jx o (D++[bsg 9]) W):=by
 have V:=Xm;have HB:Hid ((W.alloc (.cells #[.int .i64 (9:Int),.string T,.int .u64 (wd C 0),.int .u64 (wd C 1),.int .u64 (wd C 2),.int .u64 (wd C 3),.slice t y A,.int .i64 p] 81)).heap[W.heap.size]? =some (.cells #[.int .i64 (9:Int),.string T,.int .u64 (wd C 0),.int .u64 (wd C 1),.int .u64 (wd C 2),.int .u64 (wd C 3),.slice t y A,.int .i64 p] 81)):=Qx W _ rfl;have HS:=hid (fun w:World=>Az 9 w (by decide) (by decide));have HP:=hid (hP (W.alloc (.cells #[.int .i64 (9:Int),.string T,.int .u64 (wd C 0),.int .u64 (wd C 1),.int .u64 (wd C 2),.int .u64 (wd C 3),.slice t y A,.int .i64 p] 81)) (Kt.alloc W _) (U.alloc hJ _));have Y:=hid (fun(G:World) (I:J (o++D) G)=>U.call (m-1) _ (bsg 9) G I (by simp;omega) (by decide));clear U hJ hl hP;refine callsIn_of_wp func295 rfl trivial ?_ rfl;simp only[ntmps295,List.size_toArray,List.length_cons,List.length_nil,Nat.reduceAdd,Nat.reduceSub,Array.replicate_succ,Array.replicate_zero,List.push_toArray,List.append_toArray,List.nil_append,List.cons_append]
 gi_wp2
 refine⟨trivial,V _,HP.out.mono ?_⟩;clear HP;rintro e G (⟨rfl,I,Z⟩|⟨rfl,q,hq,aa⟩)
 ·obtain⟨⟨c0,c1,c2,c3,c4,c5,c6,c7⟩,_⟩:=Qy (Z.eight HB.out)
  obtain⟨fn,af,ag,Qm,hy,hR⟩:=Y.out G I;have HR:=hid hR;have ab:=hid Z;clear hR Y I Z
  gi_wp2
  refine⟨trivial,V _,(callsIn_wide.2 (HS.out _)).mono ?_⟩;rintro e W3 ⟨rfl,rfl⟩
  gi_wp2
  refine⟨V _,HR.out.mono ?_⟩;clear HR hy;rintro e W4 (⟨rfl,ac,ad⟩|⟨rfl,ae⟩)
  ·gi_wp2
   go_ret;exact .inl ⟨rfl,by simpa [List.append_assoc]using ac,((Kt.alloc W _).trans ab.out).trans ad⟩
  ·gi_wp2
   go_ret;exact .inr ⟨rfl,D++[bsg 9],List.prefix_refl _,by simpa [List.append_assoc]using ae⟩
 ·clear Y
  gi_wp2
  refine⟨trivial,?_⟩
  gi_wp2
  refine⟨fun _ h=>(by cases h),?_⟩
  gi_wp2
  go_ret;obtain⟨r,hr⟩:=hq;exact .inr ⟨rfl,q,⟨r++[bsg 9],by rw[<-hr];simp⟩,aa⟩
theorem y1v(U:Yl s0 l N J Jx)(m:Nat)(T:ByteArray)(C:Nat)(p:Int)(t:Option Addr)(y A:Nat)(o:List ByteArray)(W:World)(D:List ByteArray)(hP:∀E,Kt s0 W E->J o E->CallsIn Fence.wide (m-1) prog 304 #[(.agg #[.int .i64 (10:Int),.string T,.int .u64 (wd C 0),.int .u64 (wd C 1),.int .u64 (wd C 2),.int .u64 (wd C 3),.slice t y A,.int .i64 p]),.string ⟨#[]⟩,.func (.yield l) #[] #[]] E (Yp s0 J Jx o D E))(hJ:J o W)(hl:o.length+(D.length+1)<=N):
  CallsIn Fence.wide m prog 295 #[(.agg #[.int .i64 (10:Int),.string T,.int .u64 (wd C 0),.int .u64 (wd C 1),.int .u64 (wd C 2),.int .u64 (wd C 3),.slice t y A,.int .i64 p]),.func (.yield l) #[] #[]] W (Yp s0 J Jx o (D++[bsg 10]) W):=by
 have V:=Xm;have HB:Hid ((W.alloc (.cells #[.int .i64 (10:Int),.string T,.int .u64 (wd C 0),.int .u64 (wd C 1),.int .u64 (wd C 2),.int .u64 (wd C 3),.slice t y A,.int .i64 p] 81)).heap[W.heap.size]? =some (.cells #[.int .i64 (10:Int),.string T,.int .u64 (wd C 0),.int .u64 (wd C 1),.int .u64 (wd C 2),.int .u64 (wd C 3),.slice t y A,.int .i64 p] 81)):=Qx W _ rfl;have HS:=hid (fun w:World=>Az 10 w (by decide) (by decide));have HP:=hid (hP (W.alloc (.cells #[.int .i64 (10:Int),.string T,.int .u64 (wd C 0),.int .u64 (wd C 1),.int .u64 (wd C 2),.int .u64 (wd C 3),.slice t y A,.int .i64 p] 81)) (Kt.alloc W _) (U.alloc hJ _));have Y:=hid (fun(G:World) (I:J (o++D) G)=>U.call (m-1) _ (bsg 10) G I (by simp;omega) (by decide));clear U hJ hl hP;refine callsIn_of_wp func295 rfl trivial ?_ rfl;simp only[ntmps295,List.size_toArray,List.length_cons,List.length_nil,Nat.reduceAdd,Nat.reduceSub,Array.replicate_succ,Array.replicate_zero,List.push_toArray,List.append_toArray,List.nil_append,List.cons_append]
 gi_wp2
 refine⟨trivial,V _,HP.out.mono ?_⟩;clear HP;rintro e G (⟨rfl,I,Z⟩|⟨rfl,q,hq,aa⟩)
 ·obtain⟨⟨c0,c1,c2,c3,c4,c5,c6,c7⟩,_⟩:=Qy (Z.eight HB.out)
  obtain⟨fn,af,ag,Qm,hy,hR⟩:=Y.out G I;have HR:=hid hR;have ab:=hid Z;clear hR Y I Z
  gi_wp2
  refine⟨trivial,V _,(callsIn_wide.2 (HS.out _)).mono ?_⟩;rintro e W3 ⟨rfl,rfl⟩
  gi_wp2
  refine⟨V _,HR.out.mono ?_⟩;clear HR hy;rintro e W4 (⟨rfl,ac,ad⟩|⟨rfl,ae⟩)
  ·gi_wp2
   go_ret;exact .inl ⟨rfl,by simpa [List.append_assoc]using ac,((Kt.alloc W _).trans ab.out).trans ad⟩
  ·gi_wp2
   go_ret;exact .inr ⟨rfl,D++[bsg 10],List.prefix_refl _,by simpa [List.append_assoc]using ae⟩
 ·clear Y
  gi_wp2
  refine⟨trivial,?_⟩
  gi_wp2
  refine⟨fun _ h=>(by cases h),?_⟩
  gi_wp2
  go_ret;obtain⟨r,hr⟩:=hq;exact .inr ⟨rfl,q,⟨r++[bsg 10],by rw[<-hr];simp⟩,aa⟩
end
end
end Go.Proofs.YtgnkkgcgbeianaaGreatDoor
