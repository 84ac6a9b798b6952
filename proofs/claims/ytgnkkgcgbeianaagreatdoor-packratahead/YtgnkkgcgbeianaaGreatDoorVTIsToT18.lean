/- Lemmas for the last text. Conditions: those that each names. -/
import Derived.Test.YtgnkkgcgbeianaaGreatDoorVO6ToS3
import Derived.LaidEql
import Derived.Stop.Asserts
import Derived.RowKitTokens
import Derived.Test.YtgnkkgcgbeianaaGreatDoorVT3ToT14
import Derived.Test.YtgnkkgcgbeianaaGreatDoorVPR1ToT11
import Derived.Test.YtgnkkgcgbeianaaGreatDoorVU3ToU7
set_option linter.unusedVariables false
set_option maxRecDepth 100000
set_option maxHeartbeats 8000000
namespace Go.Proofs.YtgnkkgcgbeianaaGreatDoor
open Go.Proofs.Tryz
open Go.RowKit Go.Extern.Stop Go.Stop Go.Extern
variable {W:World}
theorem Tryz.isTypeOf(v:Value)(w:World):(Extern.ReflectliteType.typeOf #[.iface 363 v]).run prog w=.ok (.iface 168 (.agg #[.pointer (some ⟨6,363,none⟩)])) w:=by kernel_rfl
theorem Tryz.isComparable(w:World):((Extern.ReflectliteType.method fun t=>do Go.Extern.Rtype.noPackHeld "Comparable" t;pure (Value.bool (<-typeInfo t).comparable)) #[.agg #[.pointer (some ⟨6,363,none⟩)]]).run prog w=.ok (.bool true) w:=by kernel_rfl
theorem Tryz.callComparable(w:World):(callFunc 340 #[.agg #[.pointer (some ⟨6,363,none⟩)]]).run prog w=.ok (.value (.bool true)) w:=by
 rw[@run_callFunc_extern prog 340 _ (Extern.ReflectliteType.method fun t=>do Go.Extern.Rtype.noPackHeld "Comparable" t;pure (Value.bool (<-typeInfo t).comparable)) func340 (by kernel_rfl) (by kernel_rfl) (by kernel_rfl) (by kernel_rfl),Tryz.isComparable];rfl
theorem Tryz.isMethodComparable(v:Value)(w:World):(Go.method 493 168 v "Comparable").run prog w=.ok (340,v) w:=by kernel_rfl
theorem Tryz.isComp:(Tryz.prog.info? 363).map (·.comparable)=some true:=by kernel_rfl
theorem Tryz.isSize:(Tryz.prog.info? 381).map (·.size)=some 1:=by kernel_rfl
theorem y4W(a:Addr)(w:World):
  Calls prog 113 #[.iface 363 (.pointer (some a)),.iface 363 (.pointer (some a))] w fun e w'=>e=.returned (.bool true)/\w'=w:=by
 obtain⟨i,h,o⟩:=Option.map_eq_some_iff.1 Tryz.isComp;obtain⟨j,r,t⟩:=Option.map_eq_some_iff.1 Tryz.isSize;have y:= @run_callFunc_extern prog 78 _ Extern.ReflectliteType.typeOf func78 (by kernel_rfl) (by kernel_rfl) (by kernel_rfl) (by kernel_rfl);have A:=Tryz.callComparable;have D:=Tryz.isTypeOf;have E:=Tryz.isMethodComparable;have G:=run_eql_iface_ptr_same (P:=prog) w a Tryz.underlying30 Tryz.underlying363 h o r;go_enter func113,ntmps113
 go_wp2
 refine wp_loop_rounds 1 ?_;rw[rounds_succ]
 go_wp2
 go_ret;exact⟨rfl,rfl⟩
theorem y4X(b:Addr)(w:World):
  Calls prog 113 #[.nilIface,.iface 363 (.pointer (some b))] w fun e w'=>e=.returned (.bool false)/\w'=w:=by
 have h:=run_eql_iface_nil_left (P:=prog) w 363 (.pointer (some b)) Tryz.underlying30;go_enter func113,ntmps113
 go_wp2
 go_ret;exact⟨rfl,rfl⟩
open Go.Shelf Go.Maps
theorem Id{W':World}{sB r g o:Nat}{v x0 x1 x2 x3 t y A D y0 y1 y2 y3 E G I U:Value}(h:W.cell? ⟨sB,0,none⟩=some v/\(W.cell? ⟨r,0,none⟩=some x0/\W.cell? ⟨r,1,none⟩=some x1/\W.cell? ⟨r,2,none⟩=some x2/\W.cell? ⟨r,3,none⟩=some x3/\W.cell? ⟨r,4,none⟩=some t/\W.cell? ⟨r,5,none⟩=some y/\W.cell? ⟨r,6,none⟩=some A/\W.cell? ⟨r,7,none⟩=some D)/\W.cell? ⟨g,o,none⟩=some y0/\W.cell? ⟨g,o+1,none⟩=some y1/\W.cell? ⟨g,o+2,none⟩=some y2/\W.cell? ⟨g,o+3,none⟩=some y3/\W.cell? ⟨g,o+4,none⟩=some E/\W.cell? ⟨g,o+5,none⟩=some G/\W.cell? ⟨g,o+6,none⟩=some I/\W.cell? ⟨g,o+7,none⟩=some U)(V:Below W.heap.size W W'):W'.cell? ⟨sB,0,none⟩=some v/\(W'.cell? ⟨r,0,none⟩=some x0/\W'.cell? ⟨r,1,none⟩=some x1/\W'.cell? ⟨r,2,none⟩=some x2/\W'.cell? ⟨r,3,none⟩=some x3/\W'.cell? ⟨r,4,none⟩=some t/\W'.cell? ⟨r,5,none⟩=some y/\W'.cell? ⟨r,6,none⟩=some A/\W'.cell? ⟨r,7,none⟩=some D)/\W'.cell? ⟨g,o,none⟩=some y0/\W'.cell? ⟨g,o+1,none⟩=some y1/\W'.cell? ⟨g,o+2,none⟩=some y2/\W'.cell? ⟨g,o+3,none⟩=some y3/\W'.cell? ⟨g,o+4,none⟩=some E/\W'.cell? ⟨g,o+5,none⟩=some G/\W'.cell? ⟨g,o+6,none⟩=some I/\W'.cell? ⟨g,o+7,none⟩=some U:=by
 obtain⟨Y,Z,h2,h3,h4,h5,h6,h7,h8,h9⟩:=h;have e:∀{a:Addr} {u:Value},W.cell? a=some u->W'.cell? a=some u:=fun{a u} h=>(V.cell (p:=a) (World.block_lt_of_cell? W _ h)).trans h
 exact⟨e Y,Nk Z V,e h2,e h3,e h4,e h5,e h6,e h7,e h8,e h9⟩
theorem z5O(a b c:Bool)(w:World):(Instr.field 210 (.agg #[.bool a,.bool b,.bool c]) 0).run prog w=.ok (.bool a) w:=by kernel_rfl
def LkQ(fp:Addr)(aB:Nat)(r:Option Int)(at':Int)(W:World)(e:Ending)(w':World):Prop:=W.grownBy w' (some aB)/\
 ((r=none/\e=.returned .nilIface/\w'.heap[aB]? =some (.cells #[.int .i64 at'] 3))∨∃q,r=some q/\e=.returned (.iface 363 (.pointer (some fp)))/\w'.heap[aB]? =some (.cells #[.int .i64 q] 3))
theorem y4Y(k:Int)(T:ByteArray)(a b c d p:Int)(y:Option Addr)(n A sB Y:Nat)(W:World)(Z:k≠9)(h2:k≠10):
  Calls prog 110 #[.agg #[.int .i64 k,.string T,.int .u64 a,.int .u64 b,.int .u64 c,.int .u64 d,.slice y n A,.int .i64 p],.pointer (some ⟨sB,0,none⟩),.pointer (some ⟨Y,0,none⟩)] W fun e w'=>e=.returned .nilIface/\Below W.heap.size W w':=by
 obtain⟨t,D⟩:∃t,t=W.alloc (.cells #[.int .i64 k,.string T,.int .u64 a,.int .u64 b,.int .u64 c,.int .u64 d,.slice y n A,.int .i64 p] 81):=⟨_,rfl⟩;have U:Hid (Below W.heap.size W t.drew):=by rw[D];exact((Below.refl _ W).alloc L0q _).drew
 have E:t.drew.heap[W.heap.size]? =some (.cells #[.int .i64 k,.string T,.int .u64 a,.int .u64 b,.int .u64 c,.int .u64 d,.slice y n A,.int .i64 p] 81):=by rw[D];exact Qx W _ rfl
 obtain⟨o,G⟩:∃o,o=W.heap.size:=⟨_,rfl⟩;rw[<-G]at E;have aa:Hid (t.drew.cell? ⟨o,0,none⟩=some (.int .i64 k)/\t.drew.cell? ⟨o,1,none⟩=some (.string T)/\t.drew.cell? ⟨o,2,none⟩=some (.int .u64 a)/\t.drew.cell? ⟨o,3,none⟩=some (.int .u64 b)/\t.drew.cell? ⟨o,4,none⟩=some (.int .u64 c)/\t.drew.cell? ⟨o,5,none⟩=some (.int .u64 d)/\t.drew.cell? ⟨o,6,none⟩=some (.slice y n A)/\t.drew.cell? ⟨o,7,none⟩=some (.int .i64 p)):=hid (Qy E).1;clear E;go_enter func110,ntmps110
 go_wp2_with fail
 rw[<-D,<-G];clear D G;refine Zj 99 (fun W:World=>W.cell? ⟨o,0,none⟩=some (.int .i64 k)/\W.cell? ⟨o,1,none⟩=some (.string T)/\W.cell? ⟨o,2,none⟩=some (.int .u64 a)/\W.cell? ⟨o,3,none⟩=some (.int .u64 b)/\W.cell? ⟨o,4,none⟩=some (.int .u64 c)/\W.cell? ⟨o,5,none⟩=some (.int .u64 d)/\W.cell? ⟨o,6,none⟩=some (.slice y n A)/\W.cell? ⟨o,7,none⟩=some (.int .i64 p)) (by kernel_rfl) aa.out (fun r=> ?_);refine Qz 0 r ?_
 (refine Qg 1 (fun K I=> ?_);go_simp;refine(y4z k T a b c d p y n A _ Z h2).mono ?_;rintro e w2 ⟨rfl,V⟩;go_simp;replace r:=Nk r V;refine I.out _ _ r ?_;clear I K)
 (try simp only[Act.put,List.setIfInBounds_toArray,List.set_cons_zero,List.set_cons_succ])
 refine Qz 2 r ?_;refine Qz 3 r ?_;refine Qz 4 r ?_;refine Qz 5 r ?_;refine Qz 6 r ?_;refine Qz 7 r ?_;refine Qz 8 r ?_
 first
  |(refine Nw (i:=9) (oi:=({dst:=some 14,op:=Op.call {callee:=Callee.value (Operand.func 112),args:=#[Operand.tmp 9,Operand.tmp 13],argTypes:=#[43,81]},type:=210,pos:="sound.go:62",after:=#[{on:=4,ground:=Ground.data},{on:=8,ground:=Ground.data},{on:=3,ground:=Ground.chain},{on:=3,ground:=Ground.guard}],guard:=some (3,false)}:Oper)) (v:=undef) rfl (by kernel_rfl) (by kernel_rfl) (by kernel_rfl) (fun _ _ _ h=>h) (Or.inr ⟨by rfl,rfl⟩) r ?_)
  |(refine Qg 9 (fun K I=> ?_);fail)
 (try simp only[Act.put,List.setIfInBounds_toArray,List.set_cons_zero,List.set_cons_succ])
 refine Qz 10 r ?_;refine Qz 11 r ?_;refine Qz 12 r ?_;refine⟨by kernel_rfl,?_⟩
 go_wp2_with fail
 go_ret;exact⟨rfl,U.out.trans (V.mono U.out.size)⟩
theorem y4Z(k:Int)(T:ByteArray)(a b c d p:Int)(g o D sB aB:Nat)(W:World)(hk:k=9∨k=10)(G:Int)(I:ByteArray)(a1 U c1 V p1:Int)(Y:Option Addr)(Z aa:Nat)(ab:Option Addr)(n0 ac:Nat)(q2 q3:Bool)
  (hs:W.cell? ⟨sB,0,none⟩=some (.slice ab n0 ac))(hc:Rc W g o G I a1 U c1 V (.slice Y Z aa) p1)
  (HO:Hid (∀W':World,Below W.heap.size W W'->Calls prog 112 #[.agg #[.slice ab n0 ac],.agg #[.int .i64 G,.string I,.int .u64 a1,.int .u64 U,.int .u64 c1,.int .u64 V,.slice Y Z aa,.int .i64 p1]] W' fun e w'=>e=.returned (.agg #[.bool false,.bool q2,.bool q3])/\Below W'.heap.size W' w')):
  Calls prog 110 #[.agg #[.int .i64 k,.string T,.int .u64 a,.int .u64 b,.int .u64 c,.int .u64 d,.slice (some ⟨g,o,none⟩) 1 D,.int .i64 p],.pointer (some ⟨sB,0,none⟩),.pointer (some ⟨aB,0,none⟩)] W fun e w'=>e=.returned .nilIface/\Below W.heap.size W w':=by
 obtain⟨r,ad⟩:∃r,r=W.alloc (.cells #[.int .i64 k,.string T,.int .u64 a,.int .u64 b,.int .u64 c,.int .u64 d,.slice (some ⟨g,o,none⟩) 1 D,.int .i64 p] 81):=⟨_,rfl⟩;have A:Hid (Below W.heap.size W r.drew):=by rw[ad];exact((Below.refl _ W).alloc L0q _).drew
 have ae:r.drew.heap[W.heap.size]? =some (.cells #[.int .i64 k,.string T,.int .u64 a,.int .u64 b,.int .u64 c,.int .u64 d,.slice (some ⟨g,o,none⟩) 1 D,.int .i64 p] 81):=by rw[ad];exact Qx W _ rfl
 obtain⟨t,ag⟩:∃t,t=W.heap.size:=⟨_,rfl⟩;rw[<-ag]at ae;have am:=hid ae;have ai:Hid (r.drew.cell? ⟨sB,0,none⟩=some (.slice ab n0 ac)/\(r.drew.cell? ⟨t,0,none⟩=some (.int .i64 k)/\r.drew.cell? ⟨t,1,none⟩=some (.string T)/\r.drew.cell? ⟨t,2,none⟩=some (.int .u64 a)/\r.drew.cell? ⟨t,3,none⟩=some (.int .u64 b)/\r.drew.cell? ⟨t,4,none⟩=some (.int .u64 c)/\r.drew.cell? ⟨t,5,none⟩=some (.int .u64 d)/\r.drew.cell? ⟨t,6,none⟩=some (.slice (some ⟨g,o,none⟩) 1 D)/\r.drew.cell? ⟨t,7,none⟩=some (.int .i64 p))/\r.drew.cell? ⟨g,o,none⟩=some (.int .i64 G)/\r.drew.cell? ⟨g,o+1,none⟩=some (.string I)/\r.drew.cell? ⟨g,o+2,none⟩=some (.int .u64 a1)/\r.drew.cell? ⟨g,o+3,none⟩=some (.int .u64 U)/\r.drew.cell? ⟨g,o+4,none⟩=some (.int .u64 c1)/\r.drew.cell? ⟨g,o+5,none⟩=some (.int .u64 V)/\r.drew.cell? ⟨g,o+6,none⟩=some (.slice Y Z aa)/\r.drew.cell? ⟨g,o+7,none⟩=some (.int .i64 p1)):=by
  have e:∀{a:Addr} {u:Value},W.cell? a=some u->r.drew.cell? a=some u:=fun{a u} h=>(A.out.cell (p:=a) (World.block_lt_of_cell? W _ h)).trans h
  obtain⟨c0,aj,c2,c3,c4,c5,c6,c7⟩:=hc;exact⟨e hs,(Qy ae).1,e c0,e aj,e c2,e c3,e c4,e c5,e c6,e c7⟩
 have ao:=hid hs;have ak:g<r.drew.heap.size:=Nat.lt_of_lt_of_le (World.block_lt_of_cell? W _ hc.1) A.out.size;have ap:=z5O;clear ae hs hc ak;go_enter func110,ntmps110
 go_wp2_with fail
 rw[<-ad,<-ag];clear ad ag;refine Zj 99 (fun W:World=>W.cell? ⟨sB,0,none⟩=some (.slice ab n0 ac)/\(W.cell? ⟨t,0,none⟩=some (.int .i64 k)/\W.cell? ⟨t,1,none⟩=some (.string T)/\W.cell? ⟨t,2,none⟩=some (.int .u64 a)/\W.cell? ⟨t,3,none⟩=some (.int .u64 b)/\W.cell? ⟨t,4,none⟩=some (.int .u64 c)/\W.cell? ⟨t,5,none⟩=some (.int .u64 d)/\W.cell? ⟨t,6,none⟩=some (.slice (some ⟨g,o,none⟩) 1 D)/\W.cell? ⟨t,7,none⟩=some (.int .i64 p))/\W.cell? ⟨g,o,none⟩=some (.int .i64 G)/\W.cell? ⟨g,o+1,none⟩=some (.string I)/\W.cell? ⟨g,o+2,none⟩=some (.int .u64 a1)/\W.cell? ⟨g,o+3,none⟩=some (.int .u64 U)/\W.cell? ⟨g,o+4,none⟩=some (.int .u64 c1)/\W.cell? ⟨g,o+5,none⟩=some (.int .u64 V)/\W.cell? ⟨g,o+6,none⟩=some (.slice Y Z aa)/\W.cell? ⟨g,o+7,none⟩=some (.int .i64 p1)) (by kernel_rfl) ai.out (fun y=> ?_);refine Qz 0 y ?_
 (refine Qg 1 (fun K E=> ?_);go_simp;refine(z5C k T a b c d p (some ⟨g,o,none⟩) 1 D _ hk).mono ?_;rintro e w2 ⟨rfl,af⟩;go_simp;replace y:=Id y af;refine E.out _ _ y ?_;clear E K)
 (try simp only[Act.put,List.setIfInBounds_toArray,List.set_cons_zero,List.set_cons_succ])
 refine Qz 2 y ?_;refine Qz 3 y ?_;refine Qz 4 y ?_;refine Qz 5 y ?_;refine Qz 6 y ?_;refine Qz 7 y ?_;refine Qz 8 y ?_
 first
  |(refine Nw (i:=9) (oi:=({dst:=some 14,op:=Op.call {callee:=Callee.value (Operand.func 112),args:=#[Operand.tmp 9,Operand.tmp 13],argTypes:=#[43,81]},type:=210,pos:="sound.go:62",after:=#[{on:=4,ground:=Ground.data},{on:=8,ground:=Ground.data},{on:=3,ground:=Ground.chain},{on:=3,ground:=Ground.guard}],guard:=some (3,false)}:Oper)) (v:=undef) rfl (by kernel_rfl) (by kernel_rfl) (by kernel_rfl) (fun _ _ _ h=>h) (Or.inr ⟨by rfl,rfl⟩) y ?_)
  |(refine Qg 9 (fun K E=> ?_);go_simp;refine(HO.out _ (A.out.trans (af.mono A.out.size))).mono ?_;rintro e w3 ⟨rfl,ah⟩;go_simp;replace y:=Id y ah;refine E.out _ _ y ?_;clear E K)
 (try simp only[Act.put,List.setIfInBounds_toArray,List.set_cons_zero,List.set_cons_succ])
 refine Qz 10 y ?_;refine Qz 11 y ?_;refine Qz 12 y ?_;refine⟨by kernel_rfl,?_⟩;have al:=hid ((A.out.trans (af.mono A.out.size)).trans (ah.mono (Nat.le_trans A.out.size af.size)))
 go_wp2_with fail
 go_ret;exact⟨rfl,al.out⟩
theorem y5a(k:Int)(T:ByteArray)(a b c d p:Int)(g o E sB I:Nat)(W:World)(hk:k=9∨k=10)(V:Int)(Y:ByteArray)(a1 Z c1 d1 p1:Int)(aa:Option Addr)(n1 ab:Nat)(ac:Option Addr)(n0 ad:Nat)(q2 q3:Bool)(fp:Addr)(x:Value)(ha:W.heap[I]? =some (.cells #[x] 3))(hf:W.cell? ⟨1,0,none⟩=some (.iface 363 (.pointer (some fp))))(ao:1≠I)
  (hs:W.cell? ⟨sB,0,none⟩=some (.slice ac n0 ad))(hc:Rc W g o V Y a1 Z c1 d1 (.slice aa n1 ab) p1)
  (HO:Hid (∀W':World,Below W.heap.size W W'->Calls prog 112 #[.agg #[.slice ac n0 ad],.agg #[.int .i64 V,.string Y,.int .u64 a1,.int .u64 Z,.int .u64 c1,.int .u64 d1,.slice aa n1 ab,.int .i64 p1]] W' fun e w'=>e=.returned (.agg #[.bool true,.bool q2,.bool q3])/\Below W'.heap.size W' w')):
  Calls prog 110 #[.agg #[.int .i64 k,.string T,.int .u64 a,.int .u64 b,.int .u64 c,.int .u64 d,.slice (some ⟨g,o,none⟩) 1 E,.int .i64 p],.pointer (some ⟨sB,0,none⟩),.pointer (some ⟨I,0,none⟩)] W fun e w'=>e=.returned (.iface 363 (.pointer (some fp)))/\W.grownBy w' (some I)/\w'.heap[I]? =some (.cells #[.int .i64 p] 3):=by
 obtain⟨r,ae⟩:∃r,r=W.alloc (.cells #[.int .i64 k,.string T,.int .u64 a,.int .u64 b,.int .u64 c,.int .u64 d,.slice (some ⟨g,o,none⟩) 1 E,.int .i64 p] 81):=⟨_,rfl⟩;have A:Hid (Below W.heap.size W r.drew):=by rw[ae];exact((Below.refl _ W).alloc L0q _).drew
 have af:r.drew.heap[W.heap.size]? =some (.cells #[.int .i64 k,.string T,.int .u64 a,.int .u64 b,.int .u64 c,.int .u64 d,.slice (some ⟨g,o,none⟩) 1 E,.int .i64 p] 81):=by rw[ae];exact Qx W _ rfl
 obtain⟨y,ai⟩:∃y,y=W.heap.size:=⟨_,rfl⟩;rw[<-ai]at af;have aj:=hid af;have am:Hid (r.drew.cell? ⟨sB,0,none⟩=some (.slice ac n0 ad)/\(r.drew.cell? ⟨y,0,none⟩=some (.int .i64 k)/\r.drew.cell? ⟨y,1,none⟩=some (.string T)/\r.drew.cell? ⟨y,2,none⟩=some (.int .u64 a)/\r.drew.cell? ⟨y,3,none⟩=some (.int .u64 b)/\r.drew.cell? ⟨y,4,none⟩=some (.int .u64 c)/\r.drew.cell? ⟨y,5,none⟩=some (.int .u64 d)/\r.drew.cell? ⟨y,6,none⟩=some (.slice (some ⟨g,o,none⟩) 1 E)/\r.drew.cell? ⟨y,7,none⟩=some (.int .i64 p))/\r.drew.cell? ⟨g,o,none⟩=some (.int .i64 V)/\r.drew.cell? ⟨g,o+1,none⟩=some (.string Y)/\r.drew.cell? ⟨g,o+2,none⟩=some (.int .u64 a1)/\r.drew.cell? ⟨g,o+3,none⟩=some (.int .u64 Z)/\r.drew.cell? ⟨g,o+4,none⟩=some (.int .u64 c1)/\r.drew.cell? ⟨g,o+5,none⟩=some (.int .u64 d1)/\r.drew.cell? ⟨g,o+6,none⟩=some (.slice aa n1 ab)/\r.drew.cell? ⟨g,o+7,none⟩=some (.int .i64 p1)):=by
  have e:∀{a:Addr} {u:Value},W.cell? a=some u->r.drew.cell? a=some u:=fun{a u} h=>(A.out.cell (p:=a) (World.block_lt_of_cell? W _ h)).trans h
  obtain⟨c0,ap,c2,c3,c4,c5,c6,c7⟩:=hc;exact⟨e hs,(Qy af).1,e c0,e ap,e c2,e c3,e c4,e c5,e c6,e c7⟩
 have av:=hid hs;have aq:g<r.drew.heap.size:=Nat.lt_of_lt_of_le (World.block_lt_of_cell? W _ hc.1) A.out.size;have aw:=z5O;clear af hs hc aq;go_enter func110,ntmps110
 go_wp2_with fail
 rw[<-ae,<-ai];clear ae ai;refine Zj 99 (fun W:World=>W.cell? ⟨sB,0,none⟩=some (.slice ac n0 ad)/\(W.cell? ⟨y,0,none⟩=some (.int .i64 k)/\W.cell? ⟨y,1,none⟩=some (.string T)/\W.cell? ⟨y,2,none⟩=some (.int .u64 a)/\W.cell? ⟨y,3,none⟩=some (.int .u64 b)/\W.cell? ⟨y,4,none⟩=some (.int .u64 c)/\W.cell? ⟨y,5,none⟩=some (.int .u64 d)/\W.cell? ⟨y,6,none⟩=some (.slice (some ⟨g,o,none⟩) 1 E)/\W.cell? ⟨y,7,none⟩=some (.int .i64 p))/\W.cell? ⟨g,o,none⟩=some (.int .i64 V)/\W.cell? ⟨g,o+1,none⟩=some (.string Y)/\W.cell? ⟨g,o+2,none⟩=some (.int .u64 a1)/\W.cell? ⟨g,o+3,none⟩=some (.int .u64 Z)/\W.cell? ⟨g,o+4,none⟩=some (.int .u64 c1)/\W.cell? ⟨g,o+5,none⟩=some (.int .u64 d1)/\W.cell? ⟨g,o+6,none⟩=some (.slice aa n1 ab)/\W.cell? ⟨g,o+7,none⟩=some (.int .i64 p1)) (by kernel_rfl) am.out (fun t=> ?_);refine Qz 0 t ?_
 (refine Qg 1 (fun K U=> ?_);go_simp;refine(z5C k T a b c d p (some ⟨g,o,none⟩) 1 E _ hk).mono ?_;rintro e w2 ⟨rfl,D⟩;go_simp;replace t:=Id t D;refine U.out _ _ t ?_;clear U K)
 (try simp only[Act.put,List.setIfInBounds_toArray,List.set_cons_zero,List.set_cons_succ])
 refine Qz 2 t ?_;refine Qz 3 t ?_;refine Qz 4 t ?_;refine Qz 5 t ?_;refine Qz 6 t ?_;refine Qz 7 t ?_;refine Qz 8 t ?_
 first
  |(refine Nw (i:=9) (oi:=({dst:=some 14,op:=Op.call {callee:=Callee.value (Operand.func 112),args:=#[Operand.tmp 9,Operand.tmp 13],argTypes:=#[43,81]},type:=210,pos:="sound.go:62",after:=#[{on:=4,ground:=Ground.data},{on:=8,ground:=Ground.data},{on:=3,ground:=Ground.chain},{on:=3,ground:=Ground.guard}],guard:=some (3,false)}:Oper)) (v:=undef) rfl (by kernel_rfl) (by kernel_rfl) (by kernel_rfl) (fun _ _ _ h=>h) (Or.inr ⟨by rfl,rfl⟩) t ?_)
  |(refine Qg 9 (fun K U=> ?_);go_simp;refine(HO.out _ (A.out.trans (D.mono A.out.size))).mono ?_;rintro e w3 ⟨rfl,ag⟩;go_simp;replace t:=Id t ag;refine U.out _ _ t ?_;clear U K)
 (try simp only[Act.put,List.setIfInBounds_toArray,List.set_cons_zero,List.set_cons_succ])
 refine Qz 10 t ?_;refine Qz 11 t ?_;refine Qz 12 t ?_;refine⟨by kernel_rfl,?_⟩;have ak:=hid ((A.out.trans (D.mono A.out.size)).trans (ag.mono (Nat.le_trans A.out.size D.size)));have al:=(ag.block _ (Nat.lt_of_lt_of_le (Qq aj.out) D.size)).trans ((D.block _ (Qq aj.out)).trans aj.out);have n7:=(Qy al).1.2.2.2.2.2.2.2;have ln:=Qq al;have ah:=(ak.out.block _ (Qq ha)).trans ha;have ar:=hid ah;obtain⟨t0,t1⟩:=Qw ah;have la:=Qq ah;have au:=(ak.out.cell (p:=⟨1,0,none⟩) (World.block_lt_of_cell? W _ hf)).trans hf;have ax:(w3.setCell ⟨I,0,none⟩ (.int .i64 p)).cell? ⟨1,0,none⟩=some (.iface 363 (.pointer (some fp))):=(World.cell?_of_block (Below.heap_setCell _ _ _ _ ao)).trans au;clear al ah hf ha t D ag HO am
 go_wp2_with fail
 go_ret;exact⟨rfl,G.setR (G.below ak.out),Qk ar.out 0 _⟩
structure Ev (w0:World) (sB aB:Nat) (so0:Option Addr) (n0 cap0:Nat) (at':Int) (W:World):Prop where
 sbx:W.heap[sB]? =some (.cells #[.slice so0 n0 cap0] 43)
 abx:W.heap[aB]? =some (.cells #[.int .i64 at'] 3)
 be:Below w0.heap.size w0 W
theorem Ev.ne{w0:World}{sB o:Nat}{t:Option Addr}{y A:Nat}{at':Int}(h:Ev w0 sB o t y A at' W):sB≠o:=fun e=>by
 have r:=h.sbx;rw[e,h.abx]at r;cases r
theorem Ev.alloc{w0:World}{sB r:Nat}{t:Option Addr}{y A:Nat}{at':Int}{W:World}(h:Ev w0 sB r t y A at' W)(o:Obj):Ev w0 sB r t y A at' (W.alloc o):=
 ⟨(Below.heap_alloc _ _ _ (Qq h.sbx)).trans h.sbx,(Below.heap_alloc _ _ _ (Qq h.abx)).trans h.abx,h.be.alloc h.be.size _⟩
theorem Ev.drew{w0:World}{sB o:Nat}{r:Option Addr}{t y:Nat}{at':Int}{W:World}(h:Ev w0 sB o r t y at' W):Ev w0 sB o r t y at' W.drew:=⟨h.sbx,h.abx,h.be.drew⟩
theorem Ev.step{w0:World}{sB o:Nat}{r:Option Addr}{t y:Nat}{at' q:Int}{W W':World}(h:Ev w0 sB o r t y at' W)(A:W.grownBy W' (some o))(D:w0.heap.size<=o)(ha:W'.heap[o]? =some (.cells #[.int .i64 q] 3)):Ev w0 sB o r t y q W':=
 ⟨(A.block _ (Qq h.sbx) (fun e=>h.ne (Option.some.inj e))).trans h.sbx,ha,h.be.grown A h.be.size (fun g e=>by have:=Option.some.inj e;omega)⟩
theorem z5P{K:ByteArray->Ot}:∀{s:List RT},(∀i (o:i<s.length),flT K s[i]=none)->flL K s=none
 |[],_=>by rw[flL]
 |t::r,h=>by
  have y:flT K t=none:=h 0 (by simp);rw[flL,y];exact z5P fun i o=>h (i+1) (by simpa using o)
theorem z5Q{K:ByteArray->Ot}{q:Int}:∀{s:List RT} (j:Nat) (y:j<s.length),(∀i (A:i<s.length),i<j->flT K s[i]=none)->flT K s[j]=some q->flL K s=some q
 |t::r,0,_,_,h=>by
  have o:flT K t=some q:=h;rw[flL,o]
 |t::r,j+1,y,h,hq=>by
  have o:flT K t=none:=h 0 (by simp) (by omega);rw[flL,o];exact z5Q j (by simpa using y) (fun i A D=>h (i+1) (by simpa using A) (by omega)) hq
theorem y5b{k:Int}{T:ByteArray}{a b c d p:Int}{s:List RT}(h:okT (.mk k T a b c d s p)=true)(r:k=9∨k=10):s.length=1:=by
 rw[okT,Bool.and_eq_true]at h;have:=h.1;unfold okN at this;rw[if_neg (by omega),if_neg (by omega),if_neg (by omega),if_neg (by omega),if_neg (by omega),if_pos (by omega)]at this;simp only[Bool.and_eq_true]at this;have o:=this.2.2;have t:((Qb s:Nat):Int)=1:=by simpa using o
 rw[<-Xc];omega
theorem y5c(w0:World)(sB D:Nat)(E:Option Addr)(I U:Nat)(rs:List Rr)(K:ByteArray->Ot)(B:Nat)(fp:Addr)(hB:B<=w0.heap.size)(hg:Qf w0 w0.heap.size E I (bG rs K))(ah:okG rs=true)(ai:ckR rs=none)(hz:RgZ rs)(hT:TabIs w0)(hF:w0.cell? ⟨1,0,none⟩=some (.iface 363 (.pointer (some fp))))(ap:w0.heap.size<=D)
  (k:Int)(T:ByteArray)(a b c d:Int)(s:List RT)(p:Int)(so:Option Addr)(V:Nat)(W:World)(at':Int)(A:Ev w0 sB D E I U at' W)(ht:Qv w0 B (.mk k T a b c d s p) (r8 k T a b c d so (Qb s) V p))(hf:Fit (nmL rs) (.mk k T a b c d s p)):
  Calls prog 110 #[.agg #[.int .i64 k,.string T,.int .u64 a,.int .u64 b,.int .u64 c,.int .u64 d,.slice so (Qb s) V,.int .i64 p],.pointer (some ⟨sB,0,none⟩),.pointer (some ⟨D,0,none⟩)] W (LkQ fp D (if(k=9∨k=10)/\(ofH K s).1=true then some p else none) at' W):=by
 by_cases hk:k=9∨k=10
 ·have h1:=y5b hf.ok hk
  rw[Qv]at ht;obtain⟨aq,ar,e,aj⟩:=ht;simp only[r8,List.cons.injEq,Value.slice.injEq,true_and,and_true]at e;obtain⟨rfl,rfl⟩:=e;obtain⟨g,o,rfl,ak,Z,T1,a1,b1,c1,d1,aa,n1,ab,p1,hc,al⟩:=Ac hB aj 0 (by omega);rw[Nat.zero_mul,Nat.add_zero]at hc;have am:=hf.sub 0 (by omega);have ad:ofH K s=ofT K (s[0]'(by omega)):=by
   cases s with
   |nil=>simp at h1
   |cons t r=>rw[ofH];rfl
  have ae:=hc.below A.be ak;have ac:∀W':World,Below W.heap.size W W'->Calls prog 112 #[.agg #[.slice E I U],.agg #[.int .i64 Z,.string T1,.int .u64 a1,.int .u64 b1,.int .u64 c1,.int .u64 d1,.slice aa n1 ab,.int .i64 p1]] W' fun e w'=>e=.returned (ov (ofT K (s[0]'(by omega))))/\Below W'.heap.size W' w':=fun W' ao=>by
   have Y:=A.be.trans (ao.mono A.be.size);exact z5L E I U rs K Z T1 a1 b1 c1 d1 p1 aa n1 ab _ w0.heap.size B W' (hg.below Y) Y.size ah ai hz (hT.below Y hT.lt) (al.below (Y.mono hB)) (Nat.le_trans hB Y.size) am
  have af:=(Qw A.sbx).1;have hl:Qb s=1:=by rw[Xc];exact h1
  rw[hl];obtain⟨⟨q1,q2,q3⟩,hq⟩:∃q,q=ofT K (s[0]'(by omega)):=⟨_,rfl⟩;rw[<-hq]at ac ad;rw[ad];cases q1 with
  |false=>
   rw[if_neg (by simp)];refine(y4Z k T a b c d p g o V sB D W hk Z T1 a1 b1 c1 d1 p1 aa n1 ab E I U q2 q3 af ae (hid ac)).mono fun e w' y=> ?_
   exact⟨G.below y.2,.inl ⟨rfl,y.1,(y.2.block _ (Qq A.abx)).trans A.abx⟩⟩
  |true=>
   rw[if_pos ⟨hk,rfl⟩];have ag:=World.block_lt_of_cell? w0 _ hF;refine(y5a k T a b c d p g o V sB D W hk Z T1 a1 b1 c1 d1 p1 aa n1 ab E I U q2 q3 fp _ A.abx ((A.be.cell (p:=⟨1,0,none⟩) ag).trans hF) (fun e=>by have h9:1<w0.heap.size:=ag;omega) af ae (hid ac)).mono fun e w' y=> ?_
   exact⟨y.2.1,.inr ⟨p,rfl,y.1,y.2.2⟩⟩
 ·rw[if_neg (fun h=>hk h.1)]
  refine(y4Y k T a b c d p so (Qb s) V sB D W (fun e=>hk (.inl e)) (fun e=>hk (.inr e))).mono fun e w' y=> ?_
  exact⟨G.below y.2,.inl ⟨rfl,y.1,(y.2.block _ (Qq A.abx)).trans A.abx⟩⟩
theorem y5d(w0:World)(sB r:Nat)(aa:Option Addr)(n0 ab:Nat)(K:ByteArray->Ot)(fp:Addr)(au:w0.heap.size<=r)(k:Int)(T:ByteArray)(a b c d p:Int)(so:Option Addr)(n ag:Nat)(s:List RT)(r0:Option Int)(at':Int)(W:World)(hn:n<=9223372036854775807)(HN:Hid (n=s.length))(HE:Hid (Ev w0 sB r aa n0 ab at' W))
  (HV:Hid (∀W',Ev w0 sB r aa n0 ab at' W'->Calls prog 110 #[.agg #[.int .i64 k,.string T,.int .u64 a,.int .u64 b,.int .u64 c,.int .u64 d,.slice so n ag,.int .i64 p],.pointer (some ⟨sB,0,none⟩),.pointer (some ⟨r,0,none⟩)] W' (LkQ fp r r0 at' W')))
  (HC:Hid (∀j (hj:j<s.length),∃g o,so=some ⟨g,o,none⟩/\g<w0.heap.size/\∃t y a1 A c1 D E I U p1,Rc w0 g (o+j*8) t y a1 A c1 D (.slice E I U) p1/\
    ∀W',Ev w0 sB r aa n0 ab at' W'->Calls prog 114 #[.agg #[.int .i64 t,.string y,.int .u64 a1,.int .u64 A,.int .u64 c1,.int .u64 D,.slice E I U,.int .i64 p1],.func (.func 110) #[] #[.pointer (some ⟨sB,0,none⟩),.pointer (some ⟨r,0,none⟩)]] W' (LkQ fp r (flT K s[j]) at' W'))):
  Calls prog 114 #[.agg #[.int .i64 k,.string T,.int .u64 a,.int .u64 b,.int .u64 c,.int .u64 d,.slice so n ag,.int .i64 p],.func (.func 110) #[] #[.pointer (some ⟨sB,0,none⟩),.pointer (some ⟨r,0,none⟩)]] W (LkQ fp r (match r0 with|some q=>some q|none=>flL K s) at' W):=by
 obtain⟨V,ac⟩:∃V,V=W.alloc (.cells #[.int .i64 k,.string T,.int .u64 a,.int .u64 b,.int .u64 c,.int .u64 d,.slice so n ag,.int .i64 p] 81):=⟨_,rfl⟩;have ah:Hid (Ev w0 sB r aa n0 ab at' V):=by rw[ac];exact HE.out.alloc _
 have ai:Hid (W.grownBy V (some r)):=by rw[ac];exact World.grownBy_alloc _ _ _
 obtain⟨nB,aj⟩:∃nB,nB=W.heap.size:=⟨_,rfl⟩;have ak:Hid (V.heap[nB]? =some (.cells #[.int .i64 k,.string T,.int .u64 a,.int .u64 b,.int .u64 c,.int .u64 d,.slice so n ag,.int .i64 p] 81)):=by rw[ac,aj];exact Qx W _ rfl
 have aE:nB≠r:=by have:=Qq HE.out.abx;omega
 have Y:=hid (HV.out V ah.out);have av:=hid ac;clear ac HV;go_enter func114,ntmps114
 go_wp2_with fail
 rw[<-av.out];clear av;refine Y.out.mono ?_;clear Y;rintro e w2 ⟨Z,⟨rfl,rfl,ad⟩|⟨q,rfl,rfl,ad⟩⟩
 ·have ao:=hid ((Z.block _ (Qq ak.out) (fun e=>aE (Option.some.inj e))).trans ak.out)
  rw[<-aj];obtain⟨⟨y0,y1,y2,y3,y4,y5,y6,y7⟩,_⟩:=Qy ao.out;have ln:=Qq ao.out;have aw:=hid (ah.out.step Z au ad);have al:=hid (G.trans ai.out Z);clear Z ad ah ai ak aj
  go_wp2_with fail
  go_loopw [18] (fun i wr=>∃j:Nat,i=.int .i64 j/\j<=n/\Hid (Ev w0 sB r aa n0 ab at' wr)/\Hid (W.grownBy wr (some r))/\Hid (∀i (hi:i<s.length),i<j->flT K s[i]=none)) (fun i _=>n-(intOf i).toNat)
  case atStart=>exact⟨0,rfl,Nat.zero_le _,aw,al,fun i _ h=>absurd h (by omega)⟩
  case round=>
   obtain⟨j,rfl,hj,am,ax,ap⟩:=hrel;clear aw al y0 y1 y2 y3 y4 y5 y6 y7 ln ao;by_cases hjn:j<n
   ·have aJ:(j:Int)<(n:Int):=by omega
    have a0:decide ((j:Int)<(n:Int))=true:=by simp;omega
    have ay:j<s.length:=by rw[<-HN.out];exact hjn
    obtain⟨g,o,rfl,hg,t,y,a1,A,c1,D,E,I,U,p1,az,aA⟩:=HC.out j ay;obtain⟨z0,z1,z2,z3,z4,z5,z6,z7⟩:=az.below am.out.be hg;have aK:g<wr.heap.size:=World.block_lt_of_cell? wr _ z0;obtain⟨r1,aq⟩:∃r1,r1=flT K s[j]:=⟨_,rfl⟩;have Y:=hid (aA _ (am.out.alloc (.cells #[.int .i64 t,.string y,.int .u64 a1,.int .u64 A,.int .u64 c1,.int .u64 D,.slice E I U,.int .i64 p1] 81)));rw[<-aq]at Y;have aC:=hid aq;have aD:=hid (G.trans ax.out (World.grownBy_alloc wr (.cells #[.int .i64 t,.string y,.int .u64 a1,.int .u64 A,.int .u64 c1,.int .u64 D,.slice E I U,.int .i64 p1] 81) (some r)));have aF:=hid (am.out.alloc (.cells #[.int .i64 t,.string y,.int .u64 a1,.int .u64 A,.int .u64 c1,.int .u64 D,.slice E I U,.int .i64 p1] 81));clear aA az aq
    go_wp2_with fail
    refine Y.out.mono ?_;clear Y;rintro e w3 ⟨ae,⟨rfl,rfl,af⟩|⟨q,rfl,rfl,af⟩⟩
    ·have aG:=hid (aF.out.step ae au af)
     have ar:=hid (G.trans aD.out ae);clear ae af
     go_wp2_with fail
     refine⟨⟨j+1,by go_num,by omega,aG,ar,fun i hi aL=> ?_⟩,by simp[intOf];omega⟩;rcases Nat.lt_or_ge i j with h1|h1
     ·exact ap.out i hi h1
     ·obtain rfl:i=j:=by omega
      exact aC.out.symm
    ·have ar:=hid (G.trans aD.out ae)
     have aH:=hid af;clear ae af
     go_wp2_with fail
     go_ret;exact⟨ar.out,.inr ⟨q,z5Q j ay ap.out aC.out.symm,rfl,aH.out⟩⟩
   ·have a0:decide ((j:Int)<(n:Int))=false:=by simp;omega
    clear HC
    go_wp2_with fail
    go_ret;exact⟨ax.out,.inl ⟨z5P fun i hi=>ap.out i hi (by have:=HN.out;omega),rfl,am.out.abx⟩⟩
 ·have al:=hid (G.trans ai.out Z)
  have aI:=hid ad;clear Z ad ah ai ak aj
  go_wp2_with fail
  go_ret;exact⟨al.out,.inr ⟨q,rfl,rfl,aI.out⟩⟩
theorem y5e(K:ByteArray->Ot)(k:Int)(T:ByteArray)(a b c d:Int)(s:List RT)(p:Int):(match(if(k=9∨k=10)/\(ofH K s).1=true then some p else none:Option Int)with|some q=>some q|none=>flL K s)=flT K (.mk k T a b c d s p):=by
 rw[flT];by_cases h:(k=9∨k=10)/\(ofH K s).1=true
 ·rw[if_pos h,if_pos h]
 ·rw[if_neg h,if_neg h]
theorem z5R(w0:World)(sB r:Nat)(y:Option Addr)(A E:Nat)(rs:List Rr)(K:ByteArray->Ot)(B:Nat)(D:Addr)(G:B<=w0.heap.size)(Z:Qf w0 w0.heap.size y A (bG rs K))(aa:okG rs=true)(ab:ckR rs=none)(hz:RgZ rs)(hT:TabIs w0)(hF:w0.cell? ⟨1,0,none⟩=some (.iface 363 (.pointer (some D))))(I:w0.heap.size<=r):
  ∀(N:Nat) (t:RT) (U:List Value) (W:World) (at':Int),SizeOf.sizeOf t<N->Ev w0 sB r y A E at' W->Qv w0 B t U->Fit (nmL rs) t->Calls prog 114 #[.agg U.toArray,.func (.func 110) #[] #[.pointer (some ⟨sB,0,none⟩),.pointer (some ⟨r,0,none⟩)]] W (LkQ D r (flT K t) at' W)
 |0,t,_,_,_,h,_,_,_=>by omega
 |N+1,.mk k T a b c d s p,U,W,at',hN,hE,ht,hf=>by
  have ae:=ht;rw[Qv]at ht;obtain⟨so,ac,rfl,ad⟩:=ht;have:=y5d w0 sB r y A E K D I k T a b c d p so (Qb s) ac s _ at' W (Ix ad) (Xc s) (hid hE) (hid fun W' V=>y5c w0 sB r y A E rs K B D G Z aa ab hz hT hF I k T a b c d s p so ac W' at' V ae hf) (hid fun j Y=> ?_)
  ·rw[y5e]at this
   exact this
  ·obtain⟨g,o,h1,h2,k1,T1,a1,b1,c1,d1,af,n1,ag,p1,h3,h4⟩:=Ac G ad j Y
   refine⟨g,o,h1,h2,k1,T1,a1,b1,c1,d1,af,n1,ag,p1,h3,fun W' V=> ?_⟩;have ah:=List.sizeOf_lt_of_mem (List.getElem_mem Y);simp only[RT.mk.sizeOf_spec]at hN;exact z5R w0 sB r y A E rs K B D G Z aa ab hz hT hF I N s[j] _ W' at' (by omega) V h4 (hf.sub j Y)
theorem z5S{W':World}{o t:Nat}{v x0 x1 x2 x3 y A D E:Value}(h:W.cell? ⟨1,0,none⟩=some v/\W.cell? ⟨o,1,none⟩=some x0/\W.cell? ⟨o,2,none⟩=some x1/\W.cell? ⟨o,3,none⟩=some x2/\W.cell? ⟨o,4,none⟩=some x3/\W.cell? ⟨o,5,none⟩=some y/\W.cell? ⟨o,6,none⟩=some A/\W.cell? ⟨o,7,none⟩=some D/\W.cell? ⟨o,8,none⟩=some E)(G:1≠t)(r:o≠t)(I:W.grownBy W' (some t)):W'.cell? ⟨1,0,none⟩=some v/\W'.cell? ⟨o,1,none⟩=some x0/\W'.cell? ⟨o,2,none⟩=some x1/\W'.cell? ⟨o,3,none⟩=some x2/\W'.cell? ⟨o,4,none⟩=some x3/\W'.cell? ⟨o,5,none⟩=some y/\W'.cell? ⟨o,6,none⟩=some A/\W'.cell? ⟨o,7,none⟩=some D/\W'.cell? ⟨o,8,none⟩=some E:=by
 obtain⟨U,V,Y,Z,h4,h5,h6,h7,h8⟩:=h;have e:∀{a:Addr} {u:Value},a.block≠t->W.cell? a=some u->W'.cell? a=some u:=fun{a u} aa h=>(I.cell_far a (World.block_lt_of_cell? W _ h) (fun e=>aa (Option.some.inj e))).trans h
 exact⟨e G U,e r V,e r Y,e r Z,e r h4,e r h5,e r h6,e r h7,e r h8⟩
theorem z5T{K:ByteArray->Ot}:∀{rs:List Rr},(∀i (o:i<rs.length),flT K rs[i].2.1=none)->flG K rs=none
 |[],_=>by rw[flG]
 |t::r,h=>by
  have y:flT K t.2.1=none:=h 0 (by simp);rw[flG,y];exact z5T fun i o=>h (i+1) (by simpa using o)
theorem z5U{K:ByteArray->Ot}{q:Int}:∀{rs:List Rr} (j:Nat) (y:j<rs.length),(∀i (A:i<rs.length),i<j->flT K rs[i].2.1=none)->flT K rs[j].2.1=some q->flG K rs=some q
 |t::r,0,_,_,h=>by
  have o:flT K t.2.1=some q:=h;rw[flG,o]
 |t::r,j+1,y,h,hq=>by
  have o:flT K t.2.1=none:=h 0 (by simp) (by omega);rw[flG,o];exact z5U j (by simpa using y) (fun i A D=>h (i+1) (by simpa using A) (by omega)) hq
def flX(K:ByteArray->Ot)(rs:List Rr):Option (Int ⊕ (Int×Int)):=(flG K rs).map fun p=>.inr (40,p)
theorem y5f(so:Option Addr)(n av:Nat)(G:Option Addr)(I V:Nat)(rs:List Rr)(K:ByteArray->Ot)(U:Addr)(w:World)(h:Qf w w.heap.size so n rs)(hn:n<=1048576)(hg:Qf w w.heap.size G I (bG rs K))(aw:okG rs=true)(aj:ckR rs=none)(hz:RgZ rs)(hP:PrG rs)(hT:TabIs w)(hF:w.cell? ⟨1,0,none⟩=some (.iface 363 (.pointer (some U)))):
  Calls prog 82 #[.agg #[.slice so n av],.agg #[.slice G I V]] w fun e w'=>∃v,e=.returned v/\Zm (flX K rs) w.heap.size w' v/\Below w.heap.size w w':=by
 obtain⟨W3,ak⟩:∃W3,W3=((w.alloc (.cells #[.slice so n av] 43)).alloc (.cells #[.slice G I V] 43)).alloc (.cells #[.int .i64 0] 3):=⟨_,rfl⟩;have al:Hid (Ev w (w.heap.size+1) (w.heap.size+1+1) G I V 0 W3):=by
  rw[ak];exact⟨(Below.heap_alloc _ _ _ (by simp)).trans (Qx _ _ (by simp)),Qx _ _ (by simp),(((Below.refl _ w).alloc L0q _).alloc (by simp) _).alloc (by simp;omega) _⟩
 have aK:1<w.heap.size:=World.block_lt_of_cell? w _ hF;have ax:Hid (n=rs.length):=h.1;have HG:=hid h;have am:=hid (fun(t:RT) (cs:List Value) (W:World) (hE:Ev w (w.heap.size+1) (w.heap.size+1+1) G I V 0 W) (ht:Qv w w.heap.size t cs) (hf:Fit (nmL rs) t)=>z5R w (w.heap.size+1) (w.heap.size+1+1) G I V rs K w.heap.size U L0q hg aw aj hz hT hF (by omega) _ t cs W 0 (Nat.lt_succ_self _) hE ht hf);have aL:=hid (fun(x:Rr) (hx:x∈rs)=>z0q hP aj hz hx);have HF:=hid hF;clear h hg aw aj hz hP hT hF;go_enter func82,ntmps82
 go_wp2_with fail
 rw[<-ak];clear ak;obtain⟨A,ay⟩:∃A,A=w.heap.size+1+1:=⟨_,rfl⟩;obtain⟨sB,az⟩:∃sB,sB=w.heap.size+1:=⟨_,rfl⟩;rw[<-ay,<-az]at al am ⊢;have aA:w.heap.size<=A:=by omega
 have aC:1≠A:=by omega
 clear ay az
 go_loopw [13] (fun i wr=>∃j:Nat,i=.int .i64 j/\j<=n/\Hid (Ev w sB A G I V 0 wr)/\Hid (∀i (hi:i<rs.length),i<j->flT K rs[i].2.1=none)) (fun i _=>n-(intOf i).toNat)
 case atStart=>exact⟨0,rfl,Nat.zero_le _,al,fun i _ h=>absurd h (by omega)⟩
 case round=>
  obtain⟨j,rfl,hj,ah,ao⟩:=hrel;clear al;by_cases hjn:j<n
  ·have aN:(j:Int)<(n:Int):=by omega
   have a0:decide ((j:Int)<(n:Int))=true:=by simp;omega
   have ap:j<rs.length:=by rw[<-ax.out];exact hjn
   obtain⟨g,o,rfl,hg,Y,Z,a1,b1,c1,d1,aa,n1,ab,p1,aD,r0⟩:=HG.out.2.2 j ap;have aE:∀q,wr.cell? ⟨g,q,none⟩=w.cell? ⟨g,q,none⟩:=fun q=>ah.out.be.cell (p:=⟨g,q,none⟩) hg
   simp only[<-aE]at r0;obtain⟨z0,z1,z2,z3,z4,z5,z6,z7,z8,z9⟩:=r0;have aO:g<wr.heap.size:=World.block_lt_of_cell? wr _ z0;obtain⟨N0,aF⟩:∃N0,N0=rs[j].1:=⟨_,rfl⟩;obtain⟨q1,aG⟩:∃q1,q1=rs[j].2.2:=⟨_,rfl⟩;rw[<-aF]at z0;rw[<-aG]at z9;obtain⟨W4,ae⟩:∃W4,W4=wr.alloc (.cells #[.string N0,.int .i64 Y,.string Z,.int .u64 a1,.int .u64 b1,.int .u64 c1,.int .u64 d1,.slice aa n1 ab,.int .i64 p1,.int .i64 q1] 83):=⟨_,rfl⟩;have ai:Hid (Ev w sB A G I V 0 W4.drew):=by rw[ae];exact(ah.out.alloc _).drew
   have D:W4.drew.heap[wr.heap.size]? =some (.cells #[.string N0,.int .i64 Y,.string Z,.int .u64 a1,.int .u64 b1,.int .u64 c1,.int .u64 d1,.slice aa n1 ab,.int .i64 p1,.int .i64 q1] 83):=by rw[ae];exact Qx wr _ rfl
   obtain⟨r,ag⟩:∃r,r=wr.heap.size:=⟨_,rfl⟩;rw[<-ag]at D;have aH:r≠A:=by have:=Qq ah.out.abx;omega
   have aI:Hid (W4.drew.cell? ⟨1,0,none⟩=some (.iface 363 (.pointer (some U)))/\W4.drew.cell? ⟨r,1,none⟩=some (.int .i64 Y)/\W4.drew.cell? ⟨r,2,none⟩=some (.string Z)/\W4.drew.cell? ⟨r,3,none⟩=some (.int .u64 a1)/\W4.drew.cell? ⟨r,4,none⟩=some (.int .u64 b1)/\W4.drew.cell? ⟨r,5,none⟩=some (.int .u64 c1)/\W4.drew.cell? ⟨r,6,none⟩=some (.int .u64 d1)/\W4.drew.cell? ⟨r,7,none⟩=some (.slice aa n1 ab)/\W4.drew.cell? ⟨r,8,none⟩=some (.int .i64 p1)):=⟨(ai.out.be.cell (p:=⟨1,0,none⟩) aK).trans HF.out,(Qj D 1 _ rfl).1,(Qj D 2 _ rfl).1,(Qj D 3 _ rfl).1,(Qj D 4 _ rfl).1,(Qj D 5 _ rfl).1,(Qj D 6 _ rfl).1,(Qj D 7 _ rfl).1,(Qj D 8 _ rfl).1⟩;have af:=hid (am.out rs[j].2.1 _ W4.drew ai.out aD (aL.out _ (List.getElem_mem ap)));dsimp only[r8]at af;obtain⟨r1,aq⟩:∃r1,r1=flT K rs[j].2.1:=⟨_,rfl⟩;rw[<-aq]at af;have aJ:=hid aq;have aP:r<W4.drew.heap.size:=Qq D;clear aE aF aG aq aD D;cases r1 with
   |none=>
    have ar:Hid (Calls prog 114 #[.agg #[.int .i64 Y,.string Z,.int .u64 a1,.int .u64 b1,.int .u64 c1,.int .u64 d1,.slice aa n1 ab,.int .i64 p1],.func (.func 110) #[] #[.pointer (some ⟨sB,0,none⟩),.pointer (some ⟨A,0,none⟩)]] W4.drew fun e w'=>W4.drew.grownBy w' (some A)/\e=.returned .nilIface/\w'.heap[A]? =some (.cells #[.int .i64 0] 3)):=af.out.mono fun e w' he=>by
     obtain⟨h1,⟨_,h2,h3⟩|⟨q,h2,_⟩⟩:=he
     ·exact⟨h1,h2,h3⟩
     ·cases h2
    clear af
    go_wp2_with fail
    rw[<-ae,<-ag];clear ae ag z0 z1 z2 z3 z4 z5 z6 z7 z8 z9;refine Zj 99 (fun W:World=>W.cell? ⟨1,0,none⟩=some (.iface 363 (.pointer (some U)))/\W.cell? ⟨r,1,none⟩=some (.int .i64 Y)/\W.cell? ⟨r,2,none⟩=some (.string Z)/\W.cell? ⟨r,3,none⟩=some (.int .u64 a1)/\W.cell? ⟨r,4,none⟩=some (.int .u64 b1)/\W.cell? ⟨r,5,none⟩=some (.int .u64 c1)/\W.cell? ⟨r,6,none⟩=some (.int .u64 d1)/\W.cell? ⟨r,7,none⟩=some (.slice aa n1 ab)/\W.cell? ⟨r,8,none⟩=some (.int .i64 p1)) (by kernel_rfl) aI.out (fun y=> ?_);refine Qz 0 y ?_;refine Qz 1 y ?_;refine Qz 2 y ?_;refine Qz 4 y ?_
    (refine Qg 3 (fun K E=> ?_);go_simp;refine(ar.out).mono ?_;rintro e w6 ⟨ac,rfl,ad⟩;go_simp;replace y:=z5S y aC aH ac;refine E.out _ _ y ?_;clear E K)
    (try simp only[Act.put,List.setIfInBounds_toArray,List.set_cons_zero,List.set_cons_succ])
    (refine Qg 5 (fun K E=> ?_);go_simp;refine(y4X U _).mono ?_;rintro e w7 ⟨rfl,rfl⟩;go_simp;refine E.out _ _ y ?_;clear E K)
    (try simp only[Act.put,List.setIfInBounds_toArray,List.set_cons_zero,List.set_cons_succ])
    refine⟨by kernel_rfl,?_⟩;have aM:=hid (ai.out.step ac aA ad);clear ac ad y
    go_wp2_with fail
    refine⟨⟨j+1,by go_num,by omega,aM,fun i hi aQ=> ?_⟩,by simp[intOf];omega⟩;rcases Nat.lt_or_ge i j with h1|h1
    ·exact ao.out i hi h1
    ·obtain rfl:i=j:=by omega
     exact aJ.out.symm
   |some q=>
    have ar:Hid (Calls prog 114 #[.agg #[.int .i64 Y,.string Z,.int .u64 a1,.int .u64 b1,.int .u64 c1,.int .u64 d1,.slice aa n1 ab,.int .i64 p1],.func (.func 110) #[] #[.pointer (some ⟨sB,0,none⟩),.pointer (some ⟨A,0,none⟩)]] W4.drew fun e w'=>W4.drew.grownBy w' (some A)/\e=.returned (.iface 363 (.pointer (some U)))/\w'.heap[A]? =some (.cells #[.int .i64 q] 3)):=af.out.mono fun e w' he=>by
     obtain⟨h1,⟨h2,_⟩|⟨q',h2,h3,h4⟩⟩:=he
     ·cases h2
     ·cases h2
      exact⟨h1,h3,h4⟩
    clear af
    go_wp2_with fail
    rw[<-ae,<-ag];clear ae ag z0 z1 z2 z3 z4 z5 z6 z7 z8 z9;refine Zj 99 (fun W:World=>W.cell? ⟨1,0,none⟩=some (.iface 363 (.pointer (some U)))/\W.cell? ⟨r,1,none⟩=some (.int .i64 Y)/\W.cell? ⟨r,2,none⟩=some (.string Z)/\W.cell? ⟨r,3,none⟩=some (.int .u64 a1)/\W.cell? ⟨r,4,none⟩=some (.int .u64 b1)/\W.cell? ⟨r,5,none⟩=some (.int .u64 c1)/\W.cell? ⟨r,6,none⟩=some (.int .u64 d1)/\W.cell? ⟨r,7,none⟩=some (.slice aa n1 ab)/\W.cell? ⟨r,8,none⟩=some (.int .i64 p1)) (by kernel_rfl) aI.out (fun y=> ?_);refine Qz 0 y ?_;refine Qz 1 y ?_;refine Qz 2 y ?_;refine Qz 4 y ?_
    (refine Qg 3 (fun K E=> ?_);go_simp;refine(ar.out).mono ?_;rintro e w6 ⟨ac,rfl,ad⟩;go_simp;replace y:=z5S y aC aH ac;refine E.out _ _ y ?_;clear E K)
    (try simp only[Act.put,List.setIfInBounds_toArray,List.set_cons_zero,List.set_cons_succ])
    (refine Qg 5 (fun K E=> ?_);go_simp;refine(y4W U _).mono ?_;rintro e w7 ⟨rfl,rfl⟩;go_simp;refine E.out _ _ y ?_;clear E K)
    (try simp only[Act.put,List.setIfInBounds_toArray,List.set_cons_zero,List.set_cons_succ])
    refine⟨by kernel_rfl,?_⟩;have au:=hid (ai.out.step ac aA ad).be;obtain⟨t0,t1⟩:=Qw ad;have la:=Qq ad;clear ac ad y
    go_wp2_with fail
    go_ret;refine⟨_,rfl,?_,au.out.alloc au.out.size _⟩;have e:flX K rs=some (.inr (40,q)):=by unfold flX;rw[z5U j ap ao.out aJ.out.symm];rfl
    rw[e];exact⟨_,rfl,au.out.size,Qx _ _ rfl⟩
  ·have a0:decide ((j:Int)<(n:Int))=false:=by simp;omega
   clear am
   go_wp2_with fail
   go_ret;refine⟨_,rfl,?_,ah.out.be⟩;have e:flX K rs=none:=by unfold flX;rw[z5T fun i hi=>ao.out i hi (by have:=ax.out;omega)];rfl
   rw[e];rfl
end Go.Proofs.YtgnkkgcgbeianaaGreatDoor
