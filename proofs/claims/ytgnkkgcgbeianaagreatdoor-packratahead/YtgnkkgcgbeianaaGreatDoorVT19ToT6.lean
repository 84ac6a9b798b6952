/- Lemmas for the last text. Conditions: those that each names. -/
import Derived.Test.YtgnkkgcgbeianaaGreatDoorVT3ToT14
import Derived.Test.YtgnkkgcgbeianaaGreatDoorVU3ToU7
import Derived.Test.YtgnkkgcgbeianaaGreatDoorVO6ToS3
set_option linter.unusedVariables false
set_option maxRecDepth 100000
set_option maxHeartbeats 8000000
namespace Go.Proofs.YtgnkkgcgbeianaaGreatDoor
open Go.Proofs.Tryz
open Go.RowKit Go.Shelf Go.Maps
variable {W W':World} {bB to:Nat}
theorem z5V{o r:Nat}{v0 v1 v2:Value}(h:W.cell? ⟨bB,0,none⟩=some v0/\W.cell? ⟨o,0,none⟩=some v1/\W.cell? ⟨r,1,none⟩=some v2)(t:Below W.heap.size W W'):W'.cell? ⟨bB,0,none⟩=some v0/\W'.cell? ⟨o,0,none⟩=some v1/\W'.cell? ⟨r,1,none⟩=some v2:=by
 obtain⟨y,A,D⟩:=h;have e:∀{a:Addr} {u:Value},W.cell? a=some u->W'.cell? a=some u:=fun{a u} h=>(t.cell (p:=a) (World.block_lt_of_cell? W _ h)).trans h
 exact⟨e y,e A,e D⟩
theorem y5g{o r:Nat}{v0 v1 v2:Value}{row:Option Nat}(h:W.cell? ⟨bB,0,none⟩=some v0/\W.cell? ⟨o,0,none⟩=some v1/\W.cell? ⟨r,1,none⟩=some v2)(t:some bB≠row)(y:some o≠row)(A:some r≠row)(D:W.grownBy W' row):W'.cell? ⟨bB,0,none⟩=some v0/\W'.cell? ⟨o,0,none⟩=some v1/\W'.cell? ⟨r,1,none⟩=some v2:=by
 obtain⟨E,G,I⟩:=h;have e:∀{a:Addr} {u:Value},some a.block≠row->W.cell? a=some u->W'.cell? a=some u:=fun{a u} U h=>(D.cell_far a (World.block_lt_of_cell? W _ h) U).trans h
 exact⟨e t E,e y G,e A I⟩
theorem y5h(a b c:Bool)(w:World):(Instr.field 210 (.agg #[.bool a,.bool b,.bool c]) 0).run prog w=.ok (.bool a) w:=by kernel_rfl
def Fv(bB:Nat)(W W':World):Prop:=W.heap.size<=W'.heap.size/\∀b cur t,b≠bB->t≠3->W.heap[b]? =some (.cells cur t)->W'.heap[b]? =some (.cells cur t)
theorem Fv.refl(bB:Nat)(W:World):Fv bB W W:=⟨Nat.le_refl _,fun _ _ _ _ _ h=>h⟩
theorem Fv.trans{a b c:World}(h:Fv bB a b)(k:Fv bB b c):Fv bB a c:=⟨Nat.le_trans h.1 k.1,fun i cur t o r y=>k.2 i cur t o r (h.2 i cur t o r y)⟩
theorem Fv.below(h:Below W.heap.size W W'):Fv bB W W':=⟨h.size,fun b cur t _ _ o=>(h.block b (Qq o)).trans o⟩
structure Bv (w0:World) (bB:Nat) (zs:List Int) (W:World):Prop where
 be:Below w0.heap.size w0 W
 bx:∃v,W.heap[bB]? =some (.cells #[v] 24)/\W.ownsRow w0.heap.size 3 1 v zs.length (zs.map (Value.int .i64))
theorem Bv.below{w0:World}{zs:List Int}(h:Bv w0 bB zs W)(o:Below W.heap.size W W'):Bv w0 bB zs W':=by
 obtain⟨r,v,t,y⟩:=h;exact⟨r.trans (o.mono r.size),v,(o.block _ (Qq t)).trans t,Yf y o⟩
def VsQ(w0:World)(bB:Nat)(zs:List Int)(W:World)(e:Ending)(w':World):Prop:=e=.returned (.tuple #[])/\Bv w0 bB zs w'/\Fv bB W w'
theorem y5i(base bB U:Nat)(so:Option Addr)(n ac:Nat)(k:Int)(T:ByteArray)(a b c d p:Int)(ag:Option Addr)(n1 ah:Nat)(j:Nat)(xs:List Value)(t:Option Addr)(y:Nat)(V:Int)(W:World)(Y:W.heap[bB]? =some (.cells #[.slice t j y] 24))(Z:W.ownsRow base 3 1 (.slice t j y) j xs)(hg:W.heap[U]? =some (.cells #[.slice so n ac] 43))(hj:j<=1048576)(aq:base<=W.heap.size)
  (HF:Hid (∀W',Below W.heap.size W W'->Calls prog 85 #[.agg #[.slice so n ac],.string T] W' fun e w'=>e=.returned (.int .i64 V)/\Below W'.heap.size W' w')):
  Calls prog 116 #[.agg #[.int .i64 k,.string T,.int .u64 a,.int .u64 b,.int .u64 c,.int .u64 d,.slice ag n1 ah,.int .i64 p],.pointer (some ⟨bB,0,none⟩),.pointer (some ⟨U,0,none⟩)] W fun e w'=>e=.returned (.tuple #[])/\∃W4 G g6 aa,Below W.heap.size W W4/\W4.grownBy G (Value.slice t j y).ownBlock/\w'=G.setCell ⟨bB,0,none⟩ (.slice (some ⟨g6,0,none⟩) (j+1) aa)/\G.ownsRow base 3 1 (.slice (some ⟨g6,0,none⟩) (j+1) aa) (j+1) (xs++[.int .i64 V])/\G.heap[bB]? =some (.cells #[.slice t j y] 24):=by
 obtain⟨i0,ar,au,av,aw⟩:=info_parts Tryz.infoInt;obtain⟨r,ab⟩:∃r,r=W.alloc (.cells #[.int .i64 k,.string T,.int .u64 a,.int .u64 b,.int .u64 c,.int .u64 d,.slice ag n1 ah,.int .i64 p] 81):=⟨_,rfl⟩;have I:Hid (Below W.heap.size W r.drew):=by rw[ab];exact((Below.refl _ W).alloc L0q _).drew
 have ax:r.drew.heap.size=W.heap.size+1:=by rw[ab];exact World.size_alloc _ _
 have ai:r.drew.heap[W.heap.size]? =some (.cells #[.int .i64 k,.string T,.int .u64 a,.int .u64 b,.int .u64 c,.int .u64 d,.slice ag n1 ah,.int .i64 p] 81):=by rw[ab];exact Qx W _ rfl
 obtain⟨nB,aj⟩:∃nB,nB=W.heap.size:=⟨_,rfl⟩;rw[<-aj]at ai;have lb:=Qq Y;have ay:Hid (r.drew.cell? ⟨bB,0,none⟩=some (.slice t j y)/\r.drew.cell? ⟨U,0,none⟩=some (.slice so n ac)/\r.drew.cell? ⟨nB,1,none⟩=some (.string T)):=⟨(Qw ((I.out.block _ lb).trans Y)).1,(Qw ((I.out.block _ (Qq hg)).trans hg)).1,(Qy ai).1.2.1⟩;have ak:Hid (∀o,Below r.drew.heap.size r.drew o->base<=o.heap.size/\bB<o.heap.size):=fun o h=>by
  have:=h.size;constructor<;>omega
 have az:Hid (∀o,Below r.drew.heap.size r.drew o->o.heap[bB]? =some (.cells #[.slice t j y] 24)):=fun o h=>(h.block _ (by omega)).trans ((I.out.block _ lb).trans Y)
 have aA:Hid (∀o,Below r.drew.heap.size r.drew o->o.ownsRow base 3 1 (.slice t j y) j xs):=fun o h=>Yf (Yf Z I.out) h
 have al:Hid (some bB≠(Value.slice t j y).ownBlock):=fun e=>Fp Z Y (fun cur e=>by cases e) e.symm
 have aB:Hid (some U≠(Value.slice t j y).ownBlock):=fun e=>Fp Z hg (fun cur e=>by cases e) e.symm
 have aC:Hid (some nB≠(Value.slice t j y).ownBlock):=fun e=>by have:=(Z.lt _ e.symm).2;omega
 have m1:j+1<=maxLen:=by unfold maxLen;omega
 have m2:(j+1)*8<=140737488355328:=by omega
 have aD:Hid (W.heap.size<=r.drew.heap.size):=I.out.size;clear Y Z hg ai lb aq ax;go_enter func116,ntmps116
 go_wp2_with fail
 rw[<-ab,<-aj];clear ab aj;refine Zj 7 (fun W:World=>W.cell? ⟨bB,0,none⟩=some (.slice t j y)/\W.cell? ⟨U,0,none⟩=some (.slice so n ac)/\W.cell? ⟨nB,1,none⟩=some (.string T)) (by kernel_rfl) ay.out (fun A=> ?_);refine Qz 0 A ?_;refine Qz 1 A ?_;refine Qz 2 A ?_;refine Qz 3 A ?_
 (refine Qg 4 (fun K D=> ?_);go_simp;refine(HF.out _ I.out).mono ?_;rintro e o ⟨rfl,E⟩;go_simp;replace A:=z5V A E;refine D.out _ _ A ?_;clear D K)
 (try simp only[Act.put,List.setIfInBounds_toArray,List.set_cons_zero,List.set_cons_succ])
 (refine Qg 5 (fun K D=> ?_);go_simp;replace A:=z5V A ((Below.refl _ o).alloc L0q (.cells #[.int .i64 V] 3));refine D.out _ _ A ?_;clear D K)
 (try simp only[Act.put,List.setIfInBounds_toArray,List.set_cons_zero,List.set_cons_succ])
 (refine Qg 6 (fun K D=> ?_);refine step_append_lies _ rfl (.tmp 4) (.tmp 9) 24 rfl base 3 i0 (.int .i64 0) 1 8 Tryz.underlying24 ar au av aw rfl (by decide) (.slice t j y) j xs (by rfl) ((aA.out o E).alloc _) ⟨o.heap.size,0,none⟩ 1 1 [.int .i64 V] (by rfl) rfl (cell_one_new _ _ _) (by simp[Value.oneCell']) (by decide) m1 m2 (by rw[World.size_alloc];have:=ak.out o E;omega) _ rfl ?_;intro g6 aa G am ad aE aF;have ae:=((ad.block bB (by rw[World.size_alloc];have:=ak.out o E;omega) al.out).trans (Below.heap_alloc _ _ _ (ak.out o E).2)).trans (az.out o E);replace A:=y5g A al.out aB.out aC.out ad;refine D.out _ _ A ?_;clear D K)
 (try simp only[Act.put,List.setIfInBounds_toArray,List.set_cons_zero,List.set_cons_succ])
 refine Vw (fun K D=> ?_);obtain⟨s0,s1⟩:=Qw ae;have ls:=Qq ae;clear A
 go_simp
 refine D.out _ _ ?_;clear D K;have aG:Hid (∃W4 af ao ap,Below W.heap.size W W4/\W4.grownBy af (Value.slice t j y).ownBlock/\G.setCell ⟨bB,0,none⟩ (.slice (some ⟨g6,0,none⟩) (j+1) aa)=af.setCell ⟨bB,0,none⟩ (.slice (some ⟨ao,0,none⟩) (j+1) ap)/\af.ownsRow base 3 1 (.slice (some ⟨ao,0,none⟩) (j+1) ap) (j+1) (xs++[.int .i64 V])/\af.heap[bB]? =some (.cells #[.slice t j y] 24)):=by
  have h1:=I.out.trans (E.mono aD.out);exact⟨_,G,g6,aa,h1.alloc h1.size _,ad,rfl,am,ae⟩
 clear ad am aE aF ae E s0 s1
 go_wp2_with fail
 first|refine bodyPost_end (results_none rfl _ _ _) rfl ?_ |refine bodyPost_ret (results_none rfl _ _ _) rfl ?_
 exact⟨rfl,aG.out⟩
theorem y5j(w0:World)(bB E:Nat)(o:Option Addr)(n G:Nat)(rs:List Rr)(B:Nat)(Y:B<=w0.heap.size)(Z:w0.heap[E]? =some (.cells #[.slice o n G] 43))(hr:Qf w0 B o n rs)(ad:w0.heap.size<=bB)(k:Int)(T:ByteArray)(a b c d p:Int)(aa:Option Addr)(n1 ab:Nat)(zs:List Int)(W:World)(hV:Bv w0 bB zs W)(hz:zs.length<=1048576):
  Calls prog 116 #[.agg #[.int .i64 k,.string T,.int .u64 a,.int .u64 b,.int .u64 c,.int .u64 d,.slice aa n1 ab,.int .i64 p],.pointer (some ⟨bB,0,none⟩),.pointer (some ⟨E,0,none⟩)] W (VsQ w0 bB (zs++[fdI T (nmL rs)]) W):=by
 obtain⟨h,v,h1,r⟩:=hV;obtain⟨I,U,rfl⟩:=Ub r;refine(y5i w0.heap.size bB E o n G k T a b c d p aa n1 ab zs.length _ I U (fdI T (nmL rs)) W h1 r ((h.block _ (Qq Z)).trans Z) hz h.size (hid fun W' ae=> ?_)).mono fun e w' he=> ?_
 ·have y:=h.trans (ae.mono h.size)
  exact z0g T o n G rs B W' (hr.below (y.mono Y)) (Nat.le_trans Y y.size)
 ·obtain⟨rfl,W4,w6,g6,af,A,V,rfl,q4,q5⟩:=he
  have ag:∀g,(Value.slice I zs.length U).ownBlock=some g->w0.heap.size<=g/\g<W.heap.size:=fun g e=>r.lt g e
  have ac:=h.trans (A.mono h.size);have ah:Below w0.heap.size w0 w6:=ac.grown V ac.size (fun g e=>(ag g e).1);refine⟨rfl,⟨ah.setCell (p:=⟨bB,0,none⟩) ad _,_,Qk q5 0 _,?_⟩,?_,fun b cur t y ht D=> ?_⟩
  ·have:=q4.kept (grownBy_setCell' w6 bB (.slice (some ⟨g6,0,none⟩) (zs.length+1) af)) (.inr (Fp q4 q5 (fun cur e=>by cases e)))
   rw[List.length_append,List.map_append];exact this
  ·rw[World.size_setCell]
   exact Nat.le_trans A.size V.size
  ·have ai:some b≠(Value.slice I zs.length U).ownBlock:=fun e=>by
    refine Fp r D (fun aj e2=> ?_) e.symm;injection e2 with _ e3 _
    exact ht e3
   exact(Below.heap_setCell _ _ _ _ y).trans ((V.block b (Nat.lt_of_lt_of_le (Qq D) A.size) ai).trans ((A.block b (Qq D)).trans D))
theorem y5k{K:ByteArray->Ot}{h:Bool}{s:List RT}{j:Nat}(o:j<s.length):fbL K h (s.drop j)=fbT K s[j]++(if h&& !(ofT K s[j]).1 then []else fbL K h (s.drop (j+1))):=by
 rw[List.drop_eq_getElem_cons o,fbL]
theorem y5l(w0:World)(bB Y:Nat)(A:Option Addr)(D E:Nat)(rs:List Rr)(K:ByteArray->Ot)(ao:Hid (w0.heap.size<=bB))(T:ByteArray)(a b c d p:Int)(r:Option Addr)(t:Nat)(zs:List Int)(W:World)(Z:Hid (Bv w0 bB zs W))
  (aa:Hid (∀W',Bv w0 bB zs W'->Calls prog 116 #[.agg #[.int .i64 5,.string T,.int .u64 a,.int .u64 b,.int .u64 c,.int .u64 d,.slice r 0 t,.int .i64 p],.pointer (some ⟨bB,0,none⟩),.pointer (some ⟨Y,0,none⟩)] W' (VsQ w0 bB (zs++[fdI T (nmL rs)]) W'))):
  Calls prog 115 #[.agg #[.slice A D E],.agg #[.int .i64 5,.string T,.int .u64 a,.int .u64 b,.int .u64 c,.int .u64 d,.slice r 0 t,.int .i64 p],.func (.func 116) #[] #[.pointer (some ⟨bB,0,none⟩),.pointer (some ⟨Y,0,none⟩)]] W (VsQ w0 bB (zs++[fdI T (nmL rs)]) W):=by
 obtain⟨h,o⟩:∃h,h=(W.alloc (.cells #[.slice A D E] 43)).alloc (.cells #[.int .i64 5,.string T,.int .u64 a,.int .u64 b,.int .u64 c,.int .u64 d,.slice r 0 t,.int .i64 p] 81):=⟨_,rfl⟩;have G:Below W.heap.size W h:=by rw[o];exact((Below.refl _ W).alloc L0q _).alloc (by simp) _
 obtain⟨sB,ab⟩:∃sB,sB=W.heap.size:=⟨_,rfl⟩;obtain⟨y,I⟩:∃y,y=W.heap.size+1:=⟨_,rfl⟩;have ai:Hid (h.heap[sB]? =some (.cells #[.slice A D E] 43)):=by rw[o,ab];exact(Below.heap_alloc _ _ _ (by simp)).trans (Qx _ _ (by simp))
 have ac:Hid (h.heap[y]? =some (.cells #[.int .i64 5,.string T,.int .u64 a,.int .u64 b,.int .u64 c,.int .u64 d,.slice r 0 t,.int .i64 p] 81)):=by rw[o,I];exact Qx _ _ (by simp)
 have aj:bB<W.heap.size:=by obtain⟨v,h1,_⟩:=Z.out.bx;exact Qq h1
 have ap:sB≠bB:=by omega
 have ak:y≠bB:=by omega
 have ad:=hid (Z.out.below G);have ae:Hid (Fv bB W h):=Fv.below G;clear G aj;have HS:=hid (aa.out h ad.out);clear aa;go_enter func115,ntmps115
 go_wp2_with fail
 rw[<-o];refine HS.out.mono ?_;clear HS o;rintro e w2 ⟨rfl,af,U⟩;have V:=hid (U.2 _ _ _ ak (by decide) ac.out);have ag:=hid af;have ah:=hid (ae.out.trans U);obtain⟨⟨y0,y1,y2,y3,y4,y5,y6,y7⟩,_⟩:=Qy V.out;have ln:=Qq V.out;rw[<-I];clear af U ac ai ad ae ab I
 go_wp2_with fail
 go_loopw [17] (fun i wr=>i=.int .i64 0/\Hid (Bv w0 bB (zs++[fdI T (nmL rs)]) wr)/\Hid (Fv bB W wr)) (fun i _=>0)
 case atStart=>exact⟨rfl,ag,ah⟩
 case round=>
  obtain⟨rfl,al,am⟩:=hrel;clear ag ah y0 y1 y2 y3 y4 y5 y6 y7 ln V
  go_wp2_with fail
  first|refine bodyPost_end (results_none rfl _ _ _) rfl ?_ |refine bodyPost_ret (results_none rfl _ _ _) rfl ?_
  exact⟨rfl,al.out,am.out⟩
theorem y5m(w0:World)(bB gB:Nat)(ab:Option Addr)(n0 ac:Nat)(rs:List Rr)(K:ByteArray->Ot)(aX:Hid (w0.heap.size<=bB))(k:Int)(hk:k≠5)(T:ByteArray)(a b c d p:Int)(af:Option Addr)(t ak:Nat)(s:List RT)(zs:List Int)(W:World)(HV:Hid (Bv w0 bB zs W))(hn:t<=9223372036854775807)(HN:Hid (t=s.length))
  (HL:Hid (zs.length+(fbL K (decide (k=6)) s).length<=1048576))
  (HO:Hid (∀j (hj:j<s.length),∃g o,af=some ⟨g,o,none⟩/\g<w0.heap.size/\∃y D a1 E c1 G I U V p1,Rc w0 g (o+j*8) y D a1 E c1 G (.slice I U V) p1/\
    (∀(ys:List Int) (W':World),Bv w0 bB ys W'->ys.length+(fbT K s[j]).length<=1048576->Calls prog 115 #[.agg #[.slice ab n0 ac],.agg #[.int .i64 y,.string D,.int .u64 a1,.int .u64 E,.int .u64 c1,.int .u64 G,.slice I U V,.int .i64 p1],.func (.func 116) #[] #[.pointer (some ⟨bB,0,none⟩),.pointer (some ⟨gB,0,none⟩)]] W' (VsQ w0 bB (ys++(fbT K s[j]).map fun x=>fdI x (nmL rs)) W'))/\
    ∀W':World,Below w0.heap.size w0 W'->Calls prog 112 #[.agg #[.slice ab n0 ac],.agg #[.int .i64 y,.string D,.int .u64 a1,.int .u64 E,.int .u64 c1,.int .u64 G,.slice I U V,.int .i64 p1]] W' fun e w'=>e=.returned (ov (ofT K s[j]))/\Below W'.heap.size W' w')):
  Calls prog 115 #[.agg #[.slice ab n0 ac],.agg #[.int .i64 k,.string T,.int .u64 a,.int .u64 b,.int .u64 c,.int .u64 d,.slice af t ak,.int .i64 p],.func (.func 116) #[] #[.pointer (some ⟨bB,0,none⟩),.pointer (some ⟨gB,0,none⟩)]] W (VsQ w0 bB (zs++(fbL K (decide (k=6)) s).map fun x=>fdI x (nmL rs)) W):=by
 have aY:=y5h;have aZ:(k == 5)=false:=by simp[hk]
 have a2:decide (k=5)=false:=by simp[hk]
 obtain⟨Y,ad⟩:∃Y,Y=(W.alloc (.cells #[.slice ab n0 ac] 43)).alloc (.cells #[.int .i64 k,.string T,.int .u64 a,.int .u64 b,.int .u64 c,.int .u64 d,.slice af t ak,.int .i64 p] 81):=⟨_,rfl⟩;have al:Below W.heap.size W Y:=by rw[ad];exact((Below.refl _ W).alloc L0q _).alloc (by simp) _
 obtain⟨sB,ag⟩:∃sB,sB=W.heap.size:=⟨_,rfl⟩;have aN:Hid (Y.heap[sB]? =some (.cells #[.slice ab n0 ac] 43)):=by rw[ad,ag];exact(Below.heap_alloc _ _ _ (by simp)).trans (Qx _ _ (by simp))
 have aO:Hid (Y.heap[sB+1]? =some (.cells #[.int .i64 k,.string T,.int .u64 a,.int .u64 b,.int .u64 c,.int .u64 d,.slice af t ak,.int .i64 p] 81)):=by rw[ad,ag];exact Qx _ _ (by simp)
 have aP:bB<W.heap.size:=by obtain⟨v,h1,_⟩:=HV.out.bx;exact Qq h1
 have aB:sB≠bB:=by omega
 have aC:sB+1≠bB:=by omega
 have aQ:=hid (HV.out.below al);have aD:Hid (Fv bB W Y):=Fv.below al;clear al aP;go_enter func115,ntmps115
 go_wp2_with fail
 rw[<-ad,<-ag];clear ad ag
 go_loopw [17] (fun i wr=>∃(j:Nat) (acc:List ByteArray),i=.int .i64 j/\j<=t/\Hid (Bv w0 bB (zs++acc.map fun x=>fdI x (nmL rs)) wr)/\Hid (Fv bB Y wr)/\Hid (fbL K (decide (k=6)) s=acc++fbL K (decide (k=6)) (s.drop j))) (fun i _=>t-(intOf i).toNat)
 case atStart=>exact⟨0,[],rfl,Nat.zero_le _,by rw[List.map_nil,List.append_nil];exact aQ,Fv.refl _ _,by rw[List.drop_zero,List.nil_append];rfl⟩
 case round=>
  obtain⟨j,acc,rfl,hj,ah,aE,aF⟩:=hrel;by_cases hjn:j<t
  ·have a3:(j:Int)<(t:Int):=by omega
   have a0:decide ((j:Int)<(t:Int))=true:=by simp;omega
   have aG:j<s.length:=by rw[<-HN.out];exact hjn
   obtain⟨g,o,rfl,hg,y,D,a1,E,c1,G,I,U,V,p1,aH,aI,aJ⟩:=HO.out j aG;obtain⟨z0,z1,z2,z3,z4,z5,z6,z7⟩:=aH.below ah.out.be hg;have a4:g<wr.heap.size:=World.block_lt_of_cell? wr _ z0;have am:=(Below.refl _ wr).alloc L0q (.cells #[.int .i64 y,.string D,.int .u64 a1,.int .u64 E,.int .u64 c1,.int .u64 G,.slice I U V,.int .i64 p1] 81);have aR:=hid (ah.out.below am);have ao:=hid (aE.out.trans (Fv.below am));have ai:=ao.out.2 _ _ _ aB (by decide) aN.out;have aK:=ao.out.2 _ _ _ aC (by decide) aO.out;obtain⟨g0,_⟩:=Qw ai;have lg:=Qq ai;have aS:=hid ai;have aT:=hid aK;have h:=aF.out;rw[y5k aG]at h;have aL:(zs++acc.map fun x=>fdI x (nmL rs)).length+(fbT K s[j]).length<=1048576:=by
    have h1:=congrArg List.length h;have h2:=HL.out;simp only[List.length_append,List.length_map]at h1 ⊢;omega
   have HS:=hid (aI _ _ aR.out aL);have aM:=hid aJ;have ap:=hid h;have aU:∀W',Fv bB wr W'->True:=fun _ _=>trivial
   have aV:Hid ((wr.alloc (.cells #[.int .i64 y,.string D,.int .u64 a1,.int .u64 E,.int .u64 c1,.int .u64 G,.slice I U V,.int .i64 p1] 81)).heap[wr.heap.size]? =some (.cells #[.int .i64 y,.string D,.int .u64 a1,.int .u64 E,.int .u64 c1,.int .u64 G,.slice I U V,.int .i64 p1] 81)):=hid (Qx wr _ rfl);have aW:wr.heap.size≠bB:=by obtain⟨v,h1,_⟩:=ah.out.bx;have:=Qq h1;omega
   clear aI aJ aH ai aK h aL am aU
   go_wp2_with fail
   refine HS.out.mono ?_;clear HS;rintro e w3 ⟨rfl,aq,ae⟩;have ar:=ae.2 _ _ _ aB (by decide) aS.out;have au:=ae.2 _ _ _ aC (by decide) aT.out;have av:=ae.2 _ _ _ aW (by decide) aV.out;have aj:=hid aq;have aw:=hid (ao.out.trans ae);obtain⟨t0,_⟩:=Qw ar;obtain⟨⟨y0,y1,y2,y3,y4,y5,y6,y7⟩,_⟩:=Qy au;obtain⟨⟨x0,x1,x2,x3,x4,x5,x6,x7⟩,_⟩:=Qy av;have ls:=Qq ar;have ln:=Qq au;have lx:=Qq av;have aa:=hid (aM.out w3 aq.be);have ez:∀A:List ByteArray,zs++acc.map (fun x=>fdI x (nmL rs))++A.map (fun x=>fdI x (nmL rs))=zs++(acc++A).map fun x=>fdI x (nmL rs):=fun A=>by rw[List.map_append,List.append_assoc]
   rw[ez]at aj;have a5:=hid ez;clear aq ae ar au av aM ez;by_cases hk6:k=6
   ·have q6:(k == 6)=true:=by simp[hk6]
    have ax:decide (k=6)=true:=by simp[hk6]
    obtain⟨⟨r1,r2,r3⟩,hr⟩:∃r,r=ofT K s[j]:=⟨_,rfl⟩;rw[<-hr]at aa;have HR:=hid hr;clear hr;dsimp only[ov]at aa;have ay:Hid (decide (k=6)=true):=ax;have a6:Hid (k=6):=hk6;clear hk6;cases r1 with
    |false=>
     go_wp2_with(first
      |(go_at_call 112;refine aa.out.mono ?_;clear aa;rintro e w4 ⟨rfl,Z⟩;have az:=hid (aj.out.below Z);have aA:=hid (aw.out.trans (Fv.below Z));clear Z))
     first|refine bodyPost_end (results_none rfl _ _ _) rfl ?_ |refine bodyPost_ret (results_none rfl _ _ _) rfl ?_
     have h:=ap.out;rw[<-HR.out]at h;rw[ay.out]at h ⊢;have e:fbL K true s=acc++fbT K s[j]:=by simpa using h
     rw[e];exact⟨rfl,az.out,aD.out.trans aA.out⟩
    |true=>
     go_wp2_with(first
      |(go_at_call 112;refine aa.out.mono ?_;clear aa;rintro e w4 ⟨rfl,Z⟩;have az:=hid (aj.out.below Z);have aA:=hid (aw.out.trans (Fv.below Z));clear Z))
     refine⟨⟨j+1,acc++fbT K s[j],by go_num,by omega,az,aA,?_⟩,by simp[intOf];omega⟩;have h:=ap.out;rw[<-HR.out]at h;show _=_;rw[List.append_assoc];simpa using h
   ·have q6:(k == 6)=false:=by simp[hk6]
    have ax:decide (k=6)=false:=by simp[hk6]
    have ay:Hid (decide (k=6)=false):=ax;clear hk6
    go_wp2_with fail
    refine⟨⟨j+1,acc++fbT K s[j],by go_num,by omega,aj,aw,?_⟩,by simp[intOf];omega⟩;have h:=ap.out;show _=_;rw[List.append_assoc];rw[ay.out]at h ⊢;simpa using h
  ·have a0:decide ((j:Int)<(t:Int))=false:=by simp;omega
   clear HO
   go_wp2_with fail
   first|refine bodyPost_end (results_none rfl _ _ _) rfl ?_ |refine bodyPost_ret (results_none rfl _ _ _) rfl ?_
   have hA:=aF.out;rw[List.drop_eq_nil_of_le (by have:=HN.out;omega),fbL,List.append_nil]at hA;rw[hA];exact⟨rfl,ah.out,aD.out.trans aE.out⟩
theorem z5W(w0:World)(bB y:Nat)(I:Option Addr)(n V:Nat)(A:Option Addr)(D E:Nat)(rs:List Rr)(K:ByteArray->Ot)(B:Nat)(r:B<=w0.heap.size)(hg:w0.heap[y]? =some (.cells #[.slice I n V] 43))(hr:Qf w0 B I n rs)(hs:Qf w0 B A D (bG rs K))(ad:okG rs=true)(ae:ckR rs=none)(hz:RgZ rs)(Y:TabIs w0)(U:w0.heap.size<=bB):
  ∀(N:Nat) (t:RT) (Z:List Value) (zs:List Int) (W:World),SizeOf.sizeOf t<N->Bv w0 bB zs W->Qv w0 B t Z->Fit (nmL rs) t->zs.length+(fbT K t).length<=1048576->Calls prog 115 #[.agg #[.slice A D E],.agg Z.toArray,.func (.func 116) #[] #[.pointer (some ⟨bB,0,none⟩),.pointer (some ⟨y,0,none⟩)]] W (VsQ w0 bB (zs++(fbT K t).map fun x=>fdI x (nmL rs)) W)
 |0,t,_,_,_,h,_,_,_,_=>by omega
 |N+1,.mk k T a b c d s p,Z,zs,W,hN,hV,ht,hf,hl=>by
  have al:=ht;rw[Qv]at ht;obtain⟨aa,ab,rfl,af⟩:=ht;by_cases hk:k=5
  ·subst hk
   have aj:=z0p hf.ok;subst aj;have e:fbT K (.mk 5 T a b c d [] p)=[T]:=by rw[fbT,if_pos rfl,fbL];rfl
   rw[e];exact y5l w0 bB y A D E rs K U T a b c d p aa ab zs W (hid hV) (hid fun W' ac=>y5j w0 bB y I n V rs B r hg hr U 5 T a b c d p aa 0 ab zs W' ac (by omega))
  ·have e:fbT K (.mk k T a b c d s p)=fbL K (decide (k=6)) s:=by rw[fbT,if_neg hk,List.nil_append]
   rw[e]at hl ⊢;refine y5m w0 bB y A D E rs K U k hk T a b c d p aa _ ab s zs W (hid hV) (Ix af) (Xc s) (hid hl) (hid fun j hj=> ?_);obtain⟨g,o,h1,h2,k1,T1,a1,b1,c1,d1,ag,n2,ah,p1,h3,h4⟩:=Ac r af j hj;have ai:=hf.sub j hj;refine⟨g,o,h1,h2,k1,T1,a1,b1,c1,d1,ag,n2,ah,p1,h3,fun ys W' ac ak=> ?_,fun W' G=> ?_⟩
   ·have am:=List.sizeOf_lt_of_mem (List.getElem_mem hj)
    simp only[RT.mk.sizeOf_spec]at hN;exact z5W w0 bB y I n V A D E rs K B r hg hr hs ad ae hz Y U N s[j] _ ys W' (by omega) ac h4 ai ak
   ·exact z5L A D E rs K k1 T1 a1 b1 c1 d1 p1 ag n2 ah _ B B W' (hs.below (G.mono r)) (Nat.le_trans r G.size) ad ae hz (Y.below G Y.lt) (h4.below (G.mono r)) (Nat.le_trans r G.size) ai
mutual
theorem z0r{K:ByteArray->Ot}:∀t:RT,okT t=true->(fbT K t).length<=(rfT t).length
 | .mk k T a b c d s p,h=>by
   rw[fbT,rfT];by_cases h5:k=5
   ·subst h5
    have:=z0p h;subst this;rw[if_pos rfl,if_pos rfl,fbL];simp
   ·rw[if_neg h5,if_neg h5,List.nil_append]
    rw[okT,Bool.and_eq_true]at h;exact z5X (decide (k=6)) s h.2
theorem z5X{K:ByteArray->Ot}(o:Bool):∀s:List RT,okL s=true->(fbL K o s).length<=(rfL s).length
 |[],_=>by rw[fbL,rfL];simp
 |t::r,h=>by
  rw[okL,Bool.and_eq_true]at h;have y:=z0r (K:=K) t h.1;have A:=z5X (K:=K) o r h.2;rw[fbL,rfL,List.length_append,List.length_append];split
  ·simp;omega
  ·omega
end
theorem y5n(A:Option Addr)(n D:Nat)(E:Option Addr)(G Z:Nat)(rs:List Rr)(K:ByteArray->Ot)(w:World)(h:Qf w w.heap.size A n rs)(hn:n<=1048576)(hs:Qf w w.heap.size E G (bG rs K))(am:okG rs=true)(ao:ckR rs=none)(hz:RgZ rs)(hP:PrG rs)(hT:TabIs w)(hl:∀x∈rs,(rfT x.2.1).length<=8192):
  Calls prog 83 #[.agg #[.slice A n D],.agg #[.slice E G Z]] w fun e w'=>∃r vs,e=.returned (.slice (some ⟨r,0,none⟩) n n)/\vs.length=n/\Uw w r n vs (rs.map (bgR rs K)) w':=by
 have ba:=y2C n hn;obtain⟨W2,I⟩:∃W2,W2=(w.alloc (.cells #[.slice A n D] 43)).alloc (.cells #[.slice E G Z] 43):=⟨_,rfl⟩;have ap:Below w.heap.size w W2:=by rw[I];exact((Below.refl _ w).alloc L0q _).alloc (by simp) _
 have aF:W2.heap.size=w.heap.size+1+1:=by rw[I];simp
 obtain⟨r,ac⟩:∃r,r=w.heap.size+1+1:=⟨_,rfl⟩;obtain⟨W3,U⟩:∃W3,W3=W2.alloc (.cells (Array.replicate n (Value.slice none 0 0)) 24):=⟨_,rfl⟩;have aG:Hid (Uw w r n [] [] W3):=by
  refine⟨?_,rfl,fun i h1=>by simp at h1,by rw[U];exact ap.alloc ap.size _,by omega⟩;rw[U,ac,Qx _ _ aF.symm];simp
 have aH:Hid (W3.heap[w.heap.size]? =some (.cells #[.slice A n D] 43)):=by rw[U,I];exact(Below.heap_alloc _ _ _ (by simp;omega)).trans ((Below.heap_alloc _ _ _ (by simp)).trans (Qx w _ rfl))
 have aq:Hid (W3.heap[w.heap.size+1]? =some (.cells #[.slice E G Z] 43)):=by rw[U,I];exact(Below.heap_alloc _ _ _ (by simp)).trans (Qx _ _ (by simp))
 have HR:=hid h;have aI:Hid (n=rs.length):=h.1;have aJ:=hid (fun(w0:World) (hb:Below w.heap.size w w0) (bB:Nat) (ad:w0.heap.size<=bB) (hg:w0.heap[w.heap.size]? =some (.cells #[.slice A n D] 43)) (t:RT) (cs:List Value) (W:World) (hV:Bv w0 bB [] W) (ht:Qv w w.heap.size t cs) (hf:Fit (nmL rs) t) (bv:(fbT K t).length<=8192)=>z5W w0 bB w.heap.size A n D E G Z rs K w.heap.size hb.size hg (h.below hb) (hs.below hb) am ao hz (hT.below hb hT.lt) ad _ t cs [] W (Nat.lt_succ_self _) hV (ht.below hb) hf (by simp;omega));have bb:=hid (fun(x:Rr) (hx:x∈rs)=>z0q hP ao hz hx);have aK:=hid (fun(x:Rr) (hx:x∈rs)=>Nat.le_trans (z0r (K:=K) x.2.1 (Fl am x hx).2) (hl x hx));clear h hs am ao hz hP hT hl ap aF;go_enter func83,ntmps83
 go_wp2_with fail
 rw[<-I,<-U,<-ac];obtain⟨sB,ar⟩:∃sB,sB=w.heap.size+1:=⟨_,rfl⟩;rw[<-ar]at aq ⊢;have aL:Hid (r=w.heap.size+1+1):=ac;have bc:Hid (sB=w.heap.size+1):=ar;clear I U ac ba ar
 go_loopw [16] (fun i wr=>∃j:Nat,i=.int .i64 j/\j<=n/\Hid (∃vs,vs.length=j/\Uw w r n vs ((rs.take j).map (bgR rs K)) wr)/\Hid (wr.heap[w.heap.size]? =some (.cells #[.slice A n D] 43))/\Hid (wr.heap[sB]? =some (.cells #[.slice E G Z] 43))) (fun i _=>n-(intOf i).toNat)
 case atStart=>exact⟨0,rfl,Nat.zero_le _,⟨[],rfl,by rw[List.take_zero];exact aG.out⟩,aH,aq⟩
 case round=>
  obtain⟨j,rfl,hj,ae,aa,ab⟩:=hrel;clear aG aH aq;by_cases hjn:j<n
  ·have bw:(j:Int)<(n:Int):=by omega
   have a0:decide ((j:Int)<(n:Int))=true:=by simp;omega
   have aM:j<rs.length:=by rw[<-aI.out];exact hjn
   obtain⟨g,o,rfl,hg,k1,T1,a1,b1,c1,d1,bd,n1,bf,p1,aN,r0⟩:=HR.out.2.2 j aM;obtain⟨vs,au,y⟩:=ae.out;have aO:∀q,wr.cell? ⟨g,q,none⟩=w.cell? ⟨g,q,none⟩:=fun q=>y.be.cell (p:=⟨g,q,none⟩) hg
   simp only[<-aO]at r0;obtain⟨z0,z1,z2,z3,z4,z5,z6,z7,z8,z9⟩:=r0;have bx:g<wr.heap.size:=World.block_lt_of_cell? wr _ z0;obtain⟨N0,aP⟩:∃N0,N0=rs[j].1:=⟨_,rfl⟩;obtain⟨q1,aQ⟩:∃q1,q1=rs[j].2.2:=⟨_,rfl⟩;rw[<-aP]at z0;rw[<-aQ]at z9;obtain⟨W4,af⟩:∃W4,W4=wr.alloc (.cells #[.string N0,.int .i64 k1,.string T1,.int .u64 a1,.int .u64 b1,.int .u64 c1,.int .u64 d1,.slice bd n1 bf,.int .i64 p1,.int .i64 q1] 83):=⟨_,rfl⟩;have ag:Below wr.heap.size wr W4:=by rw[af];exact(Below.refl _ wr).alloc L0q _
   have aR:W4.heap.size=wr.heap.size+1:=by rw[af];simp
   obtain⟨W5,av⟩:∃W5,W5=W4.alloc (.cells #[.slice none 0 0] 24):=⟨_,rfl⟩;obtain⟨bB,ad⟩:∃bB,bB=wr.heap.size+1:=⟨_,rfl⟩;have aS:Bv W4 bB [] W5:=by
    rw[av];exact⟨B0q.alloc L0q _,_,Qx _ _ (by omega),World.ownsRow_nil _ _ _ _⟩
   have aT:=y.be.trans (ag.mono y.be.size);have hx:=List.getElem_mem aM;have HC:=hid (aJ.out W4 aT bB (by omega) ((ag.block _ (Qq aa.out)).trans aa.out) rs[j].2.1 _ W5 aS aN (bb.out _ hx) (aK.out _ hx));dsimp only[r8]at HC;rw[List.nil_append]at HC;obtain⟨sb,sg⟩:=Qw ab.out;have ls:=Qq ab.out;have bg:sB<wr.heap.size+1:=by omega
   obtain⟨zs,ah⟩:∃zs,zs=(fbT K rs[j].2.1).map fun x=>fdI x (nmL rs):=⟨_,rfl⟩
   rw[<-ah]at HC;have bh:zs.length<=8192:=by rw[ah,List.length_map];exact aK.out _ hx
   have bi:Hid (bgR rs K rs[j]=Lib.compact (srt zs)):=by show _=_;unfold bgR;rw[ah]
   have aU:=hid y;have V:Hid (vs.length=j):=au;have Y:=hid ag;have bj:=hid av;have aV:=hid af;have lu:r<wr.heap.size:=Qq y.blk;have bk:Hid (W4.heap.size=wr.heap.size+1):=aR;clear aP aQ aO aN y au ae aT aS ag af av ah hx aR
   go_wp2_with fail
   rw[<-ad]
   first|rw[<-aV.out,<-bj.out]|rw[<-aV.out]|skip
   refine HC.out.mono ?_;clear HC sb sg ls bg ad;rintro e w6 ⟨rfl,⟨aW,v6,ai,aj⟩,bl⟩;obtain⟨aX,aY,rfl⟩:=Ub aj;have aw:=hid (y2x aj (by omega));obtain⟨c6,_⟩:=Qw ai;have l6:=Qq ai;have ax:=hid ai;have ay:=hid aj;have aZ:=hid aW;clear aW ai aj bl;obtain⟨kz,az⟩:∃kz,kz=zs.length:=⟨_,rfl⟩;rw[<-az]at aw ay ax c6 bh;have a2:Hid (kz=zs.length):=az;clear az
   go_wp2_with fail
   refine aw.out.mono ?_;clear aw c6;rintro e w7 ⟨rfl,a3,aA⟩;have bm:some bB≠(Value.slice aX kz aY).ownBlock:=fun e=>Fp ay.out ax.out (fun cur e=>by cases e) e.symm
   have aB:=(aA.block _ l6 bm).trans ax.out;have a4:=hid (y2y (zs:=srt zs) (by rw[Av,<-a2.out];exact a3) (by rw[Av,<-a2.out];omega));obtain⟨c7,_⟩:=Qw aB;have l7:=Qq aB;have aC:∀g,(Value.slice aX kz aY).ownBlock=some g->W4.heap.size<=g/\g<w6.heap.size:=fun g e=>ay.out.lt g e
   have a5:=hid (aZ.out.grown aA aZ.out.size (fun g e=>(aC g e).1));have bn:=hid aC;clear a3 aA aB aC
   go_wp2_with fail
   refine a4.out.mono ?_;clear a4 c7;rintro e w8 ⟨v8,rfl,aD,a6⟩;have ak:=a5.out.grown a6 a5.out.size (fun g e=>(bn.out g e).1);have al:=aU.out.below (Y.out.trans (ak.mono (by rw[bk.out];omega)));obtain⟨k8,a7⟩:∃k8,k8=(Lib.compact (srt zs)).length:=⟨_,rfl⟩;have aE:=aD;rw[<-a7]at aE;obtain⟨bo,bp,rfl⟩:=Ub aE;have bz:r<w8.heap.size:=Qq al.blk;obtain⟨x8,f8⟩:=Qj al.blk j (.slice none 0 0) (by have:=y2z vs n (Value.slice none 0 0) (by rw[V.out];exact hjn);rw[V.out]at this;rw[V.out];exact this);have bq:=hid ((ak.block _ (Nat.lt_of_lt_of_le (Qq aa.out) Y.out.size)).trans ((Y.out.block _ (Qq aa.out)).trans aa.out));have br:=hid ((ak.block _ (Nat.lt_of_lt_of_le (Qq ab.out) Y.out.size)).trans ((Y.out.block _ (Qq ab.out)).trans ab.out));have bs:=hid al;have bt:=hid aD;have bu:=hid (Nat.le_trans aU.out.be.size Y.out.size);clear aD aE a6 ak al a7
   go_wp2_with fail
   refine⟨⟨j+1,by go_num,by omega,hid ⟨vs++[.slice bo k8 bp],by rw[List.length_append,V.out];rfl,?_⟩,hid ((Below.heap_setCell _ _ _ _ (by have:=aL.out;show w.heap.size≠r;omega)).trans bq.out),hid ((Below.heap_setCell _ _ _ _ (by have:=aL.out;have:=bc.out;show sB≠r;omega)).trans br.out)⟩,by simp[intOf];omega⟩;have a8:=bs.out.step (u:=bgR rs K rs[j]) (by rw[V.out];exact hjn) (by rw[bi.out];exact z3S bt.out bu.out);rw[V.out]at a8;rw[show(rs.take (j+1)).map (bgR rs K)=(rs.take j).map (bgR rs K)++[bgR rs K rs[j]] by rw[show rs.take (j+1)=rs.take j++[rs[j]] by simp,List.map_append];rfl];exact a8
  ·have a0:decide ((j:Int)<(n:Int))=false:=by simp;omega
   have a9:rs.take j=rs:=List.take_of_length_le (by rw[<-aI.out];omega);rw[a9]at ae;clear a9 aJ
   go_wp2_with fail
   go_ret;obtain⟨vs,au,y⟩:=ae.out;exact⟨r,vs,rfl,by omega,y⟩
def Cb(us:List (List Int))(to:Nat)(sn sn':List Bool):Prop:=sn'.length=sn.length/\(∀i:Nat,sn[i]? =some true->sn'[i]? =some true)/\∀i:Nat,sn[i]? =some false->sn'[i]? =some true->∀k∈us.getD i [],∃m:Nat,k=(m:Int)/\m≠to/\sn'[m]? =some true
theorem Cb.refl(us:List (List Int))(to:Nat)(o:List Bool):Cb us to o o:=⟨rfl,fun _ h=>h,fun i t r=>by rw[t]at r;cases r⟩
theorem Cb.trans{us:List (List Int)}{to:Nat}{r o t:List Bool}(h:Cb us to r o)(k:Cb us to o t):Cb us to r t:=by
 obtain⟨y,D,E⟩:=h;obtain⟨G,A,I⟩:=k;refine⟨G.trans y,fun i U=>A i (D i U),fun i a b x hx=> ?_⟩;have hl:i<o.length:=by rw[y];exact(List.getElem?_eq_some_iff.1 a).1
 cases e:o[i]with
 |true=>
  obtain⟨m,V,Y,Z⟩:=E i a (by rw[List.getElem?_eq_getElem hl,e]) x hx;exact⟨m,V,Y,A m Z⟩
 |false=>exact I i (by rw[List.getElem?_eq_getElem hl,e]) b x hx
theorem Cb.mark{us:List (List Int)}{p:Nat}{o r:List Bool}(h:Cb us to (o.set p true) r)(A:o[p]? =some false)(ha:∀k∈us.getD p [],∃m:Nat,k=(m:Int)/\m≠to/\r[m]? =some true):Cb us to o r/\r[p]? =some true:=by
 obtain⟨D,t,E⟩:=h;have y:p<o.length:=(List.getElem?_eq_some_iff.1 A).1;refine⟨⟨by rw[D,List.length_set],fun i G=>t i ?_,fun i a b=> ?_⟩,t p (List.getElem?_set_self y)⟩
 ·by_cases e:p=i
  ·subst e;exact List.getElem?_set_self y
  ·rw[List.getElem?_set_ne e];exact G
 ·by_cases e:p=i
  ·subst e;exact ha
  ·exact E i (by rw[List.getElem?_set_ne e];exact a) b
def Bck(us:List (List Int))(to:Nat):Prop:=∃x:Nat,(x:Int)∈us.getD to []/\Rch us x to
theorem y5o{us:List (List Int)}{n:Nat}{o:List Bool}(h:Cb us to (List.replicate n false) o)(ha:∀k∈us.getD to [],∃m:Nat,k=(m:Int)/\m≠to/\o[m]? =some true):¬Bck us to:=fun⟨x,hx,y⟩=>by
 obtain⟨A,_,D⟩:=h;have E:∀b,Rch us x b->b≠to/\o[b]? =some true:=fun b G=>by
  induction G with
  |refl=>
   obtain⟨m,I,r,t⟩:=ha _ hx;obtain rfl:x=m:=by omega
   exact⟨r,t⟩
  | @step b c _ hm ih=>
    have hl:b<n:=by
     have:=(List.getElem?_eq_some_iff.1 ih.2).1;rw[A,List.length_replicate]at this;exact this
    obtain⟨m,I,r,t⟩:=D b (by rw[List.getElem?_replicate,if_pos hl]) ih.2 _ hm;obtain rfl:c=m:=by omega
    exact⟨r,t⟩
 exact(E to y).1 rfl
structure Bs (base n to bB tB sB lB sb:Nat) (uv:Value) (w0:World) (sn:List Bool) (W:World):Prop where
 bbx:Boxed W bB 69 uv
 tbx:Boxed W tB 3 (.int .i64 to)
 sbx:Boxed W sB 220 (.slice (some ⟨sb,0,none⟩) n n)
 sbl:W.heap[sb]? =some (.cells (sn.map Value.bool).toArray 4)
 lbx:Boxed W lB 221 (.func (.func 119) #[] #[.pointer (some ⟨bB,0,none⟩),.pointer (some ⟨tB,0,none⟩),.pointer (some ⟨sB,0,none⟩),.pointer (some ⟨lB,0,none⟩)])
 be:Below base w0 W
 len:sn.length=n
theorem Bs.mark{base n o sB r sb:Nat}{t:Value}{w0:World}{A:List Bool}(h:Bs base n to bB o sB r sb t w0 A W)(E:base<=sb)(p:Nat):Bs base n to bB o sB r sb t w0 (A.set p true) (W.setCell ⟨sb,p,none⟩ (.bool true)):=by
 have keep:∀{b:Nat} {y:Array Value} {u:TypeId},W.heap[b]? =some (.cells y u)->u≠4->(W.setCell ⟨sb,p,none⟩ (.bool true)).heap[b]? =some (.cells y u):=fun D G=>(Below.heap_setCell _ _ _ _ (fun e=>y2D D h.sbl G e)).trans D
 refine⟨keep h.bbx (by decide),keep h.tbx (by decide),keep h.sbx (by decide),?_,keep h.lbx (by decide),h.be.setCell (p:=⟨sb,p,none⟩) E _,by rw[List.length_set,h.len]⟩;rw[Qk h.sbl];congr 2;apply Array.ext';simp[List.map_set]
theorem y5p(to o sB r:Nat)(W:World)(h:Boxed W o 3 (.int .i64 to)):
  Calls prog 121 #[.int .i64 to,.pointer (some ⟨o,0,none⟩),.pointer (some ⟨sB,0,none⟩),.pointer (some ⟨r,0,none⟩)] W fun e w'=>e=.returned (.bool true)/\w'=W:=by
 have c1:=h.cell;have t:((to:Int) == (to:Int))=true:=by simp
 go_enter func121,ntmps121
 go_wp2_with fail
 go_ret;exact⟨rfl,rfl⟩
theorem y5q(o to n r sB t sb:Nat)(W:World)(h:Boxed W r 3 (.int .i64 to))(y:Boxed W sB 220 (.slice (some ⟨sb,0,none⟩) n n))(A:W.cell? ⟨sb,o,none⟩=some (.bool true))(D:o≠to)(E:o<n)(G:n<=1048576):
  Calls prog 121 #[.int .i64 o,.pointer (some ⟨r,0,none⟩),.pointer (some ⟨sB,0,none⟩),.pointer (some ⟨t,0,none⟩)] W fun e w'=>e=.returned (.bool false)/\w'=W:=by
 have c1:=h.cell;have c2:=y.cell;have I:((o:Int) == (to:Int))=false:=by rw[beq_eq_false_iff_ne];omega
 go_enter func121,ntmps121
 go_wp2_with fail
 go_ret;exact⟨rfl,rfl⟩
def NxP(base n to bB tB sB lB sb:Nat)(uv:Value)(us:List (List Int))(w0:World)(sn:List Bool)(nx:Nat)(e:Ending)(w':World):Prop:=∃sn',Bs base n to bB tB sB lB sb uv w0 sn' w'/\((e=.returned (.bool true)/\Rch us nx to)∨(e=.returned (.bool false)/\Cb us to sn sn'/\nx≠to/\sn'[nx]? =some true))
def LeP(base n to bB tB sB lB sb:Nat)(uv:Value)(us:List (List Int))(w0:World)(sn:List Bool)(fr:Nat)(e:Ending)(w':World):Prop:=∃sn',Bs base n to bB tB sB lB sb uv w0 sn' w'/\((e=.returned (.bool true)/\∃x:Nat,(x:Int)∈us.getD fr []/\Rch us x to)∨(e=.returned (.bool false)/\Cb us to sn sn'/\∀k∈us.getD fr [],∃m:Nat,k=(m:Int)/\m≠to/\sn'[m]? =some true))
theorem y5r{us:List (List Int)}{o r:List Bool}(h:Cb us to o r):unm r<=unm o:=z3V o r h.1 h.2.1
theorem y5s(base n to bB t sB y sb:Nat)(D:Value)(us:List (List Int))(w0:World)(hn:n<=1048576)(N:Nat)(HN:Hid (∀(h:List Bool) (W:World) (r:Nat),unm h<N->Bs base n to bB t sB y sb D w0 h W->r<n->Calls prog 121 #[.int .i64 r,.pointer (some ⟨t,0,none⟩),.pointer (some ⟨sB,0,none⟩),.pointer (some ⟨y,0,none⟩)] W (NxP base n to bB t sB y sb D us w0 h r)))
  (u:List Int)(rso:Option Addr)(k ae:Nat)(hk:k=u.length)(ak:k<=1048576)(HR:Hid (∀j (hj:j<u.length),∃g o,rso=some ⟨g,o,none⟩/\g<base/\w0.cell? ⟨g,o+j,none⟩=some (.int .i64 u[j])))(HX:Hid (∀x∈u,∃m:Nat,m<n/\x=(m:Int)))
  (h:List Bool)(W:World)(ab:unm h<N)(hB:Bs base n to bB t sB y sb D w0 h W):
  Calls prog 159 #[.slice rso k ae,.func (.func 121) #[] #[.pointer (some ⟨t,0,none⟩),.pointer (some ⟨sB,0,none⟩),.pointer (some ⟨y,0,none⟩)]] W fun e w'=>∃U,Bs base n to bB t sB y sb D w0 U w'/\((∃j:Nat,e=.returned (.int .i64 j)/\∃x:Nat,(x:Int)∈u/\Rch us x to)∨(e=.returned (.int .i64 (-1))/\Cb us to h U/\∀x∈u,∃m:Nat,x=(m:Int)/\m≠to/\U[m]? =some true)):=by
 have HB:=hid hB;have HK:Hid (k=u.length):=hk;have af:Hid (unm h<N):=ab;clear hB hk ab;go_enter func159,ntmps159
 go_wp2_with fail
 go_loopw [8] (fun i wr=>∃j:Nat,i=.int .i64 j/\j<=k/\Hid (∃A,Bs base n to bB t sB y sb D w0 A wr/\Cb us to h A/\∀i (V:i<u.length),i<j->∃m:Nat,u[i]=(m:Int)/\m≠to/\A[m]? =some true)) (fun i _=>k-(intOf i).toNat)
 case atStart=>exact⟨0,rfl,Nat.zero_le _,h,HB.out,Cb.refl _ _ _,fun i V h0=>by omega⟩
 case round=>
  obtain⟨j,rfl,hj,Y⟩:=hrel;by_cases hjn:j<k
  ·have al:(j:Int)<(k:Int):=by omega
   have a0:decide ((j:Int)<(k:Int))=true:=by simp;omega
   have Z:j<u.length:=by rw[<-HK.out];exact hjn
   obtain⟨A,E,G,I⟩:=Y.out;obtain⟨rg,ro,rfl,ag,ac⟩:=HR.out j Z;have cr:=(E.be.cell (p:=⟨rg,ro+j,none⟩) ag).trans ac;obtain⟨r,ah,aa⟩:=HX.out u[j] (List.getElem_mem Z);rw[aa]at cr;have HC:=hid (HN.out A wr r (by have:=y5r G;have:=af.out;omega) E ah);have ai:=hid G;have HA:=hid I;have HE:Hid (u[j]=(r:Int)):=aa;clear E G I ac aa Y
   go_wp2_with(first
    |(go_at_call 121;refine HC.out.mono ?_;clear HC;rintro e w5 ⟨ad,v5,⟨rfl,r5⟩|⟨rfl,c5,n5,m5⟩⟩))
   ·go_ret
    exact⟨ad,v5,.inl ⟨j,rfl,r,by rw[<-HE.out];exact List.getElem_mem Z,r5⟩⟩
   ·refine⟨⟨j+1,by go_num,by omega,hid ⟨ad,v5,ai.out.trans c5,fun i V am=> ?_⟩⟩,by simp[intOf];omega⟩
    by_cases e:i=j
    ·subst e
     exact⟨r,HE.out,n5,m5⟩
    ·obtain⟨m,h1,h2,h3⟩:=HA.out i V (by omega)
     exact⟨m,h1,h2,c5.2.1 m h3⟩
  ·have a0:decide ((j:Int)<(k:Int))=false:=by simp;omega
   go_wp2_with fail
   go_ret;obtain⟨A,E,G,I⟩:=Y.out;refine⟨A,E,.inr ⟨rfl,G,fun x hx=> ?_⟩⟩;obtain⟨q,hq,rfl⟩:=List.getElem_of_mem hx;exact I q hq (by have:=HK.out;omega)
theorem y5t(base n to bB r sB t sb:Nat)(y:Value)(us:List (List Int))(w0:World)(hn:n<=1048576)(N:Nat)(E:Hid (∀(h:List Bool) (W:World) (A:Nat),unm h<N->Bs base n to bB r sB t sb y w0 h W->A<n->Calls prog 121 #[.int .i64 A,.pointer (some ⟨r,0,none⟩),.pointer (some ⟨sB,0,none⟩),.pointer (some ⟨t,0,none⟩)] W (NxP base n to bB r sB t sb y us w0 h A)))
  (u:List Int)(rso:Option Addr)(k G:Nat)(I:k=u.length)(U:k<=1048576)(V:Hid (∀j (hj:j<u.length),∃g o,rso=some ⟨g,o,none⟩/\g<base/\w0.cell? ⟨g,o+j,none⟩=some (.int .i64 u[j])))(Y:Hid (∀x∈u,∃m:Nat,m<n/\x=(m:Int)))
  (h:List Bool)(W:World)(Z:unm h<N)(hB:Bs base n to bB r sB t sb y w0 h W):
  Calls prog 120 #[.slice rso k G,.func (.func 121) #[] #[.pointer (some ⟨r,0,none⟩),.pointer (some ⟨sB,0,none⟩),.pointer (some ⟨t,0,none⟩)]] W fun e w'=>∃D,Bs base n to bB r sB t sb y w0 D w'/\((e=.returned (.bool true)/\∃x:Nat,(x:Int)∈u/\Rch us x to)∨(e=.returned (.bool false)/\Cb us to h D/\∀x∈u,∃m:Nat,x=(m:Int)/\m≠to/\D[m]? =some true)):=by
 have HC:=hid (y5s base n to bB r sB t sb y us w0 hn N E u rso k G I U V Y h W Z hB);clear E I U V Y Z hB;go_enter func120,ntmps120
 go_wp2_with fail
 refine HC.out.mono ?_;clear HC;rintro e w5 ⟨aa,v5,⟨j,rfl,hx⟩|⟨rfl,c5,a5⟩⟩
 ·have a0:decide ((0:Int)<=(j:Int))=true:=by simp
  go_wp2_with fail
  go_ret;exact⟨aa,v5,.inl ⟨by simp,hx⟩⟩
 ·go_wp2_with fail
  go_ret;exact⟨aa,v5,.inr ⟨rfl,c5,a5⟩⟩
theorem z5Y(base n to bB r sB t sb:Nat)(y:Value)(us:List (List Int))(w0:World)(HU:Hid (UsM w0 base y us))(ae:Hid (us.length=n))(V:Hid (∀u∈us,∀x∈u,∃m:Nat,m<n/\x=(m:Int)))(hn:n<=1048576)(N:Nat)(Y:Hid (∀(o:List Bool) (W:World) (E:Nat),unm o<N->Bs base n to bB r sB t sb y w0 o W->E<n->Calls prog 121 #[.int .i64 E,.pointer (some ⟨r,0,none⟩),.pointer (some ⟨sB,0,none⟩),.pointer (some ⟨t,0,none⟩)] W (NxP base n to bB r sB t sb y us w0 o E)))
  (o:List Bool)(W:World)(h:Nat)(Z:unm o<N)(A:Bs base n to bB r sB t sb y w0 o W)(af:h<n):
  Calls prog 119 #[.int .i64 h,.pointer (some ⟨bB,0,none⟩),.pointer (some ⟨r,0,none⟩),.pointer (some ⟨sB,0,none⟩),.pointer (some ⟨t,0,none⟩)] W (LeP base n to bB r sB t sb y us w0 o h):=by
 obtain⟨ai,aj,rfl,ak,aa⟩:=HU.out;have G:h<us.length:=by rw[ae.out];exact af
 obtain⟨ug,uo,rv,rfl,ag,ab,rso,ah,rfl,I,ac⟩:=aa h G;have cb:=A.bbx.cell;have cr:=(A.be.cell (p:=⟨ug,uo+h,none⟩) ag).trans ab;have U:Hid (us.getD h []=us[h]):=by
  show _=_;rw[List.getD_eq_getElem?_getD,List.getElem?_eq_getElem G];rfl
 have D:=hid (y5t base n to bB r sB t sb _ us w0 hn N Y us[h] rso us[h].length ah rfl I ac (hid (V.out us[h] (List.getElem_mem G))) o W Z A);obtain⟨u,hu⟩:∃u,u=us[h]:=⟨_,rfl⟩;rw[<-hu]at D U cr I;obtain⟨k,hk⟩:∃k,k=u.length:=⟨_,rfl⟩;rw[<-hk]at D cr I;clear Y aa ac ab A Z hu hk V;go_enter func119,ntmps119
 go_wp2_with fail
 refine D.out.mono ?_;clear D;rintro e w5 ⟨ad,v5,⟨rfl,x,hx,hr⟩|⟨rfl,c5,a5⟩⟩
 ·go_wp2_with fail
  go_ret;exact⟨ad,v5,.inl ⟨rfl,x,by rw[U.out];exact hx,hr⟩⟩
 ·go_wp2_with fail
  go_ret;exact⟨ad,v5,.inr ⟨rfl,c5,by rw[U.out];exact a5⟩⟩
theorem z5Z(base n to bB r sB t sb:Nat)(A:Value)(us:List (List Int))(w0:World)(E:Hid (UsM w0 base A us))(G:Hid (us.length=n))(I:Hid (∀u∈us,∀x∈u,∃m:Nat,m<n/\x=(m:Int)))(U:base<=sb)(V:n<=1048576):
  ∀(N:Nat) (o:List Bool) (W:World) (h:Nat),unm o<N->Bs base n to bB r sB t sb A w0 o W->h<n->Calls prog 121 #[.int .i64 h,.pointer (some ⟨r,0,none⟩),.pointer (some ⟨sB,0,none⟩),.pointer (some ⟨t,0,none⟩)] W (NxP base n to bB r sB t sb A us w0 o h)
 |0,o,W,h,hN,_,_=>by omega
 |N+1,o,W,h,hN,hB,hp=>by
  by_cases e:h=to
  ·subst e
   refine(y5p h r sB t W hB.tbx).mono fun e w' D=> ?_
   rw[D.2];exact⟨o,hB,.inl ⟨D.1,.refl⟩⟩
  have Y:h<o.length:=by rw[hB.len];exact hp
  cases hb:o[h]with
  |true=>
   have y:o[h]? =some true:=by rw[List.getElem?_eq_getElem Y,hb]
   refine(y5q h to n r sB t sb W hB.tbx hB.sbx (z3W hB.sbl y).1 e hp V).mono fun e' w' D=> ?_
   rw[D.2];exact⟨o,hB,.inr ⟨D.1,Cb.refl _ _ _,e,y⟩⟩
  |false=>
   have y:o[h]? =some false:=by rw[List.getElem?_eq_getElem Y,hb]
   have ab:=z3U o h y;have Z:=hid (z5Y base n to bB r sB t sb A us w0 E G I V N (hid (z5Z base n to bB r sB t sb A us w0 E G I U V N)) (o.set h true) (W.setCell ⟨sb,h,none⟩ (.bool true)) h (by omega) (hB.mark U h) hp);have c1:=hB.tbx.cell;have c2:=hB.sbx.cell;obtain⟨x1,f1⟩:=z3W hB.sbl y;have cl:=(hB.mark U h).lbx.cell;have a0:((h:Int) == (to:Int))=false:=by rw[beq_eq_false_iff_ne];omega
   have HS:=hid y;have HE:Hid (h≠to):=e;clear y ab hB hb e E G I;go_enter func121,ntmps121
   go_wp2_with(first
    |(go_at_call 119;refine Z.out.mono ?_;clear Z;rintro e w5 ⟨aa,v5,⟨rfl,x,hx,hr⟩|⟨rfl,c5,a5⟩⟩))
   ·go_ret
    exact⟨aa,v5,.inl ⟨rfl,(Rch.refl.step hx).trans hr⟩⟩
   ·go_ret
    obtain⟨q1,q2⟩:=c5.mark HS.out a5;exact⟨aa,v5,.inr ⟨rfl,q1,HE.out,q2⟩⟩
theorem y5u(G:Value)(us:List (List Int))(n to:Nat)(w:World)(I:UsM w w.heap.size G us)(r:us.length=n)(A:∀u∈us,∀x∈u,∃m:Nat,m<n/\x=(m:Int))(D:n<=1048576)(ha:to<n):
  Calls prog 84 #[G,.int .i64 to] w fun e w'=>((e=.returned (.bool true)/\Bck us to)∨(e=.returned (.bool false)/\¬Bck us to))/\Below w.heap.size w w':=by
 have aa:=y2E n D;have t:=hid I;obtain⟨h,o,rfl,ab,Y⟩:=I;rw[r]at t ⊢;clear Y;go_enter func84,ntmps84;obtain⟨y,E⟩:∃y,y=((((w.alloc (.cells #[.slice h n o] 69)).alloc (.cells #[.int .i64 to] 3)).alloc (.cells (Array.replicate n (Value.bool false)) 4)).alloc (.cells #[.slice (some ⟨w.heap.size+1+1,0,none⟩) n n] 220)).alloc (.cells #[.func (.func 119) #[] #[.pointer (some ⟨w.heap.size,0,none⟩),.pointer (some ⟨w.heap.size+1,0,none⟩),.pointer (some ⟨w.heap.size+1+1+1,0,none⟩),.pointer (some ⟨w.heap.size+1+1+1+1,0,none⟩)]] 221):=⟨_,rfl⟩;have U:Bs w.heap.size n to w.heap.size (w.heap.size+1) (w.heap.size+1+1+1) (w.heap.size+1+1+1+1) (w.heap.size+1+1) (.slice h n o) w (List.replicate n false) y:=by
  rw[E];refine⟨?_,?_,?_,?_,?_,?_,List.length_replicate⟩
  ·exact((((Boxed.new w 69 (.slice h n o)).alloc _).alloc _).alloc _).alloc _
  ·have:=(((Boxed.new (w.alloc (.cells #[.slice h n o] 69)) 3 (.int .i64 to)).alloc (.cells (Array.replicate n (Value.bool false)) 4)).alloc (.cells #[.slice (some ⟨w.heap.size+1+1,0,none⟩) n n] 220)).alloc (.cells #[.func (.func 119) #[] #[.pointer (some ⟨w.heap.size,0,none⟩),.pointer (some ⟨w.heap.size+1,0,none⟩),.pointer (some ⟨w.heap.size+1+1+1,0,none⟩),.pointer (some ⟨w.heap.size+1+1+1+1,0,none⟩)]] 221)
   simpa only[World.size_alloc]using this
  ·have:=(Boxed.new (((w.alloc (.cells #[.slice h n o] 69)).alloc (.cells #[.int .i64 to] 3)).alloc (.cells (Array.replicate n (Value.bool false)) 4)) 220 (.slice (some ⟨w.heap.size+1+1,0,none⟩) n n)).alloc (.cells #[.func (.func 119) #[] #[.pointer (some ⟨w.heap.size,0,none⟩),.pointer (some ⟨w.heap.size+1,0,none⟩),.pointer (some ⟨w.heap.size+1+1+1,0,none⟩),.pointer (some ⟨w.heap.size+1+1+1+1,0,none⟩)]] 221)
   simpa only[World.size_alloc]using this
  ·refine(Below.heap_alloc _ _ _ (by simp)).trans ((Below.heap_alloc _ _ _ (by simp)).trans ?_)
   rw[Qx _ _ (by simp)];simp
  ·have:=Boxed.new ((((w.alloc (.cells #[.slice h n o] 69)).alloc (.cells #[.int .i64 to] 3)).alloc (.cells (Array.replicate n (Value.bool false)) 4)).alloc (.cells #[.slice (some ⟨w.heap.size+1+1,0,none⟩) n n] 220)) 221 (.func (.func 119) #[] #[.pointer (some ⟨w.heap.size,0,none⟩),.pointer (some ⟨w.heap.size+1,0,none⟩),.pointer (some ⟨w.heap.size+1+1+1,0,none⟩),.pointer (some ⟨w.heap.size+1+1+1+1,0,none⟩)])
   simpa only[World.size_alloc]using this
  ·exact(((((Below.refl _ w).alloc L0q _).alloc (by simp) _).alloc (by simp;omega) _).alloc (by simp;omega) _).alloc (by simp;omega) _
 have Z:unm (List.replicate n false)=n:=by simp[unm]
 have V:=hid (z5Y w.heap.size n to _ _ _ _ _ _ us w t r A D (n+1) (hid (z5Z w.heap.size n to _ _ _ _ _ _ us w t r A (by omega) D (n+1))) (List.replicate n false) y to (by omega) U ha);clear U Z t A r
 go_wp2_with fail
 rw[<-E];refine V.out.mono ?_;clear V E;rintro e w6 ⟨ac,v6,⟨rfl,hb⟩|⟨rfl,c6,a6⟩⟩
 ·go_wp2_with fail
  go_ret;exact⟨.inl ⟨rfl,hb⟩,v6.be⟩
 ·go_wp2_with fail
  go_ret;exact⟨.inr ⟨rfl,y5o c6 a6⟩,v6.be⟩
end Go.Proofs.YtgnkkgcgbeianaaGreatDoor
