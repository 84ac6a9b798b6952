/- Lemmas for the last text. Conditions: those that each names. -/
import Derived.Test.YtlogolpcipiceaaGreatDoorVO6ToS3
import Derived.LaidEql
import Derived.Stop.Asserts
import Derived.RowKitTokens
import Derived.Test.YtlogolpcipiceaaGreatDoorVT3ToT14
import Derived.Test.YtlogolpcipiceaaGreatDoorVPR1ToT11
import Derived.Test.YtlogolpcipiceaaGreatDoorVU3ToU7
set_option linter.unusedVariables false
set_option maxRecDepth 100000
set_option maxHeartbeats 8000000
namespace Go.Proofs.YtlogolpcipiceaaGreatDoor
open Go.Proofs.Tryz
open Go.RowKit Go.Extern.Stop Go.Stop Go.Extern
theorem Tryz.isTypeOf(v:Value)(w:World):(Extern.ReflectliteType.typeOf #[.iface 379 v]).run prog w=.ok (.iface 206 (.agg #[.pointer (some ⟨6,379,none⟩)])) w:=by kernel_rfl
theorem Tryz.isComparable(w:World):((Extern.ReflectliteType.method fun t=>do Go.Extern.Rtype.noPackHeld "Comparable" t;pure (Value.bool (<-typeInfo t).comparable)) #[.agg #[.pointer (some ⟨6,379,none⟩)]]).run prog w=.ok (.bool true) w:=by kernel_rfl
theorem Tryz.callComparable(w:World):(callFunc 337 #[.agg #[.pointer (some ⟨6,379,none⟩)]]).run prog w=.ok (.value (.bool true)) w:=by
 rw[@run_callFunc_extern prog 337 _ (Extern.ReflectliteType.method fun t=>do Go.Extern.Rtype.noPackHeld "Comparable" t;pure (Value.bool (<-typeInfo t).comparable)) func337 (by kernel_rfl) (by kernel_rfl) (by kernel_rfl) (by kernel_rfl),Tryz.isComparable];rfl
theorem Tryz.isMethodComparable(v:Value)(w:World):(Go.method 510 206 v "Comparable").run prog w=.ok (337,v) w:=by kernel_rfl
theorem Tryz.isComp:(Tryz.prog.info? 379).map (·.comparable)=some true:=by kernel_rfl
theorem Tryz.isSize:(Tryz.prog.info? 398).map (·.size)=some 1:=by kernel_rfl
theorem y2a(a:Addr)(w:World):
  Calls prog 138 #[.iface 379 (.pointer (some a)),.iface 379 (.pointer (some a))] w fun e w'=>e=.returned (.bool true)/\w'=w:=by
 obtain⟨i,hi,hcmp⟩:=Option.map_eq_some_iff.1 Tryz.isComp;obtain⟨j,hj,hjs⟩:=Option.map_eq_some_iff.1 Tryz.isSize;have h8:= @run_callFunc_extern prog 112 _ Extern.ReflectliteType.typeOf func112 (by kernel_rfl) (by kernel_rfl) (by kernel_rfl) (by kernel_rfl);have h32:=Tryz.callComparable;have tT:=Tryz.isTypeOf;have mR:=Tryz.isMethodComparable;have heq:=run_eql_iface_ptr_same (P:=prog) w a Tryz.underlying33 Tryz.underlying379 hi hcmp hj;go_enter func138,ntmps138
 go_wp2
 refine wp_loop_rounds 1 ?_;rw[rounds_succ]
 go_wp2
 go_ret;exact⟨rfl,rfl⟩
theorem y2b(b:Addr)(w:World):
  Calls prog 138 #[.nilIface,.iface 379 (.pointer (some b))] w fun e w'=>e=.returned (.bool false)/\w'=w:=by
 have hn:=run_eql_iface_nil_left (P:=prog) w 379 (.pointer (some b)) Tryz.underlying33;go_enter func138,ntmps138
 go_wp2
 go_ret;exact⟨rfl,rfl⟩
open Go.Shelf Go.Maps
theorem Hj{W W':World}{sB nB g o:Nat}{v x0 x1 x2 x3 x4 x5 x6 x7 y0 y1 y2 y3 y4 y5 y6 y7:Value}(h:W.cell? ⟨sB,0,none⟩=some v/\(W.cell? ⟨nB,0,none⟩=some x0/\W.cell? ⟨nB,1,none⟩=some x1/\W.cell? ⟨nB,2,none⟩=some x2/\W.cell? ⟨nB,3,none⟩=some x3/\W.cell? ⟨nB,4,none⟩=some x4/\W.cell? ⟨nB,5,none⟩=some x5/\W.cell? ⟨nB,6,none⟩=some x6/\W.cell? ⟨nB,7,none⟩=some x7)/\W.cell? ⟨g,o,none⟩=some y0/\W.cell? ⟨g,o+1,none⟩=some y1/\W.cell? ⟨g,o+2,none⟩=some y2/\W.cell? ⟨g,o+3,none⟩=some y3/\W.cell? ⟨g,o+4,none⟩=some y4/\W.cell? ⟨g,o+5,none⟩=some y5/\W.cell? ⟨g,o+6,none⟩=some y6/\W.cell? ⟨g,o+7,none⟩=some y7)(hb:Below W.heap.size W W'):W'.cell? ⟨sB,0,none⟩=some v/\(W'.cell? ⟨nB,0,none⟩=some x0/\W'.cell? ⟨nB,1,none⟩=some x1/\W'.cell? ⟨nB,2,none⟩=some x2/\W'.cell? ⟨nB,3,none⟩=some x3/\W'.cell? ⟨nB,4,none⟩=some x4/\W'.cell? ⟨nB,5,none⟩=some x5/\W'.cell? ⟨nB,6,none⟩=some x6/\W'.cell? ⟨nB,7,none⟩=some x7)/\W'.cell? ⟨g,o,none⟩=some y0/\W'.cell? ⟨g,o+1,none⟩=some y1/\W'.cell? ⟨g,o+2,none⟩=some y2/\W'.cell? ⟨g,o+3,none⟩=some y3/\W'.cell? ⟨g,o+4,none⟩=some y4/\W'.cell? ⟨g,o+5,none⟩=some y5/\W'.cell? ⟨g,o+6,none⟩=some y6/\W'.cell? ⟨g,o+7,none⟩=some y7:=by
 obtain⟨h0,h1,h2,h3,h4,h5,h6,h7,h8,h9⟩:=h;have e:∀{a:Addr} {u:Value},W.cell? a=some u->W'.cell? a=some u:=fun{a u} h=>(hb.cell (p:=a) (World.block_lt_of_cell? W _ h)).trans h
 exact⟨e h0,Kx h1 hb,e h2,e h3,e h4,e h5,e h6,e h7,e h8,e h9⟩
theorem z4h(a b c:Bool)(w:World):(Instr.field 199 (.agg #[.bool a,.bool b,.bool c]) 0).run prog w=.ok (.bool a) w:=by kernel_rfl
def LkQ(fp:Addr)(aB:Nat)(r:Option Int)(at':Int)(W:World)(e:Ending)(w':World):Prop:=W.grownBy w' (some aB)/\
 ((r=none/\e=.returned .nilIface/\w'.heap[aB]? =some (.cells #[.int .i64 at'] 3))∨∃q,r=some q/\e=.returned (.iface 379 (.pointer (some fp)))/\w'.heap[aB]? =some (.cells #[.int .i64 q] 3))
theorem y2c(k:Int)(T:ByteArray)(a b c d p:Int)(so:Option Addr)(n cap sB aB:Nat)(W:World)(h1:k≠9)(h2:k≠10):
  Calls prog 135 #[.agg #[.int .i64 k,.string T,.int .u64 a,.int .u64 b,.int .u64 c,.int .u64 d,.slice so n cap,.int .i64 p],.pointer (some ⟨sB,0,none⟩),.pointer (some ⟨aB,0,none⟩)] W fun e w'=>e=.returned .nilIface/\Below W.heap.size W w':=by
 obtain⟨W1,hW1⟩:∃W1,W1=W.alloc (.cells #[.int .i64 k,.string T,.int .u64 a,.int .u64 b,.int .u64 c,.int .u64 d,.slice so n cap,.int .i64 p] 71):=⟨_,rfl⟩;have HB1:Hid (Below W.heap.size W W1.drew):=by rw[hW1];exact((Below.refl _ W).alloc L0q _).drew
 have hN1:W1.drew.heap[W.heap.size]? =some (.cells #[.int .i64 k,.string T,.int .u64 a,.int .u64 b,.int .u64 c,.int .u64 d,.slice so n cap,.int .i64 p] 71):=by rw[hW1];exact Qx W _ rfl
 obtain⟨nB,hnB⟩:∃nB,nB=W.heap.size:=⟨_,rfl⟩;rw[<-hnB]at hN1;have HS0:Hid (W1.drew.cell? ⟨nB,0,none⟩=some (.int .i64 k)/\W1.drew.cell? ⟨nB,1,none⟩=some (.string T)/\W1.drew.cell? ⟨nB,2,none⟩=some (.int .u64 a)/\W1.drew.cell? ⟨nB,3,none⟩=some (.int .u64 b)/\W1.drew.cell? ⟨nB,4,none⟩=some (.int .u64 c)/\W1.drew.cell? ⟨nB,5,none⟩=some (.int .u64 d)/\W1.drew.cell? ⟨nB,6,none⟩=some (.slice so n cap)/\W1.drew.cell? ⟨nB,7,none⟩=some (.int .i64 p)):=hid (Qw hN1).1;clear hN1;go_enter func135,ntmps135
 go_wp2_with fail
 rw[<-hW1,<-hnB];clear hW1 hnB;refine Zl 99 (fun W:World=>W.cell? ⟨nB,0,none⟩=some (.int .i64 k)/\W.cell? ⟨nB,1,none⟩=some (.string T)/\W.cell? ⟨nB,2,none⟩=some (.int .u64 a)/\W.cell? ⟨nB,3,none⟩=some (.int .u64 b)/\W.cell? ⟨nB,4,none⟩=some (.int .u64 c)/\W.cell? ⟨nB,5,none⟩=some (.int .u64 d)/\W.cell? ⟨nB,6,none⟩=some (.slice so n cap)/\W.cell? ⟨nB,7,none⟩=some (.int .i64 p)) (by kernel_rfl) HS0.out (fun hHeld=> ?_);refine Qq 0 hHeld ?_
 (refine Qd 1 (fun K hK=> ?_);go_simp;refine(y1D k T a b c d p so n cap _ h1 h2).mono ?_;rintro e w2 ⟨rfl,hb2⟩;go_simp;replace hHeld:=Kx hHeld hb2;refine hK.out _ _ hHeld ?_;clear hK K)
 (try simp only[Act.put,List.setIfInBounds_toArray,List.set_cons_zero,List.set_cons_succ])
 refine Qq 2 hHeld ?_;refine Qq 3 hHeld ?_;refine Qq 4 hHeld ?_;refine Qq 5 hHeld ?_;refine Qq 6 hHeld ?_;refine Qq 7 hHeld ?_;refine Qq 8 hHeld ?_
 first
  |(refine Ky (i:=9) (oi:=({dst:=some 14,op:=Op.call {callee:=Callee.value (Operand.func 137),args:=#[Operand.tmp 9,Operand.tmp 13],argTypes:=#[24,71]},type:=199,pos:="sound.go:62",after:=#[{on:=4,ground:=Ground.data},{on:=8,ground:=Ground.data},{on:=3,ground:=Ground.chain},{on:=3,ground:=Ground.guard}],guard:=some (3,false)}:Oper)) (v:=undef) rfl (by kernel_rfl) (by kernel_rfl) (by kernel_rfl) (fun _ _ _ h=>h) (Or.inr ⟨by rfl,rfl⟩) hHeld ?_)
  |(refine Qd 9 (fun K hK=> ?_);fail)
 (try simp only[Act.put,List.setIfInBounds_toArray,List.set_cons_zero,List.set_cons_succ])
 refine Qq 10 hHeld ?_;refine Qq 11 hHeld ?_;refine Qq 12 hHeld ?_;refine⟨by kernel_rfl,?_⟩
 go_wp2_with fail
 go_ret;exact⟨rfl,HB1.out.trans (hb2.mono HB1.out.size)⟩
theorem y2d(k:Int)(T:ByteArray)(a b c d p:Int)(g o cap sB aB:Nat)(W:World)(hk:k=9∨k=10)(k1:Int)(T1:ByteArray)(a1 b1 c1 d1 p1:Int)(so1:Option Addr)(n1 cap1:Nat)(so0:Option Addr)(n0 cap0:Nat)(q2 q3:Bool)
  (hs:W.cell? ⟨sB,0,none⟩=some (.slice so0 n0 cap0))(hc:Rc W g o k1 T1 a1 b1 c1 d1 (.slice so1 n1 cap1) p1)
  (HO:Hid (∀W':World,Below W.heap.size W W'->Calls prog 137 #[.agg #[.slice so0 n0 cap0],.agg #[.int .i64 k1,.string T1,.int .u64 a1,.int .u64 b1,.int .u64 c1,.int .u64 d1,.slice so1 n1 cap1,.int .i64 p1]] W' fun e w'=>e=.returned (.agg #[.bool false,.bool q2,.bool q3])/\Below W'.heap.size W' w')):
  Calls prog 135 #[.agg #[.int .i64 k,.string T,.int .u64 a,.int .u64 b,.int .u64 c,.int .u64 d,.slice (some ⟨g,o,none⟩) 1 cap,.int .i64 p],.pointer (some ⟨sB,0,none⟩),.pointer (some ⟨aB,0,none⟩)] W fun e w'=>e=.returned .nilIface/\Below W.heap.size W w':=by
 obtain⟨W1,hW1⟩:∃W1,W1=W.alloc (.cells #[.int .i64 k,.string T,.int .u64 a,.int .u64 b,.int .u64 c,.int .u64 d,.slice (some ⟨g,o,none⟩) 1 cap,.int .i64 p] 71):=⟨_,rfl⟩;have HB1:Hid (Below W.heap.size W W1.drew):=by rw[hW1];exact((Below.refl _ W).alloc L0q _).drew
 have hN1:W1.drew.heap[W.heap.size]? =some (.cells #[.int .i64 k,.string T,.int .u64 a,.int .u64 b,.int .u64 c,.int .u64 d,.slice (some ⟨g,o,none⟩) 1 cap,.int .i64 p] 71):=by rw[hW1];exact Qx W _ rfl
 obtain⟨nB,hnB⟩:∃nB,nB=W.heap.size:=⟨_,rfl⟩;rw[<-hnB]at hN1;have HN1:=hid hN1;have HS0:Hid (W1.drew.cell? ⟨sB,0,none⟩=some (.slice so0 n0 cap0)/\(W1.drew.cell? ⟨nB,0,none⟩=some (.int .i64 k)/\W1.drew.cell? ⟨nB,1,none⟩=some (.string T)/\W1.drew.cell? ⟨nB,2,none⟩=some (.int .u64 a)/\W1.drew.cell? ⟨nB,3,none⟩=some (.int .u64 b)/\W1.drew.cell? ⟨nB,4,none⟩=some (.int .u64 c)/\W1.drew.cell? ⟨nB,5,none⟩=some (.int .u64 d)/\W1.drew.cell? ⟨nB,6,none⟩=some (.slice (some ⟨g,o,none⟩) 1 cap)/\W1.drew.cell? ⟨nB,7,none⟩=some (.int .i64 p))/\W1.drew.cell? ⟨g,o,none⟩=some (.int .i64 k1)/\W1.drew.cell? ⟨g,o+1,none⟩=some (.string T1)/\W1.drew.cell? ⟨g,o+2,none⟩=some (.int .u64 a1)/\W1.drew.cell? ⟨g,o+3,none⟩=some (.int .u64 b1)/\W1.drew.cell? ⟨g,o+4,none⟩=some (.int .u64 c1)/\W1.drew.cell? ⟨g,o+5,none⟩=some (.int .u64 d1)/\W1.drew.cell? ⟨g,o+6,none⟩=some (.slice so1 n1 cap1)/\W1.drew.cell? ⟨g,o+7,none⟩=some (.int .i64 p1)):=by
  have e:∀{a:Addr} {u:Value},W.cell? a=some u->W1.drew.cell? a=some u:=fun{a u} h=>(HB1.out.cell (p:=a) (World.block_lt_of_cell? W _ h)).trans h
  obtain⟨c0,c1',c2,c3,c4,c5,c6,c7⟩:=hc;exact⟨e hs,(Qw hN1).1,e c0,e c1',e c2,e c3,e c4,e c5,e c6,e c7⟩
 have HHs:=hid hs;have lgo:g<W1.drew.heap.size:=Nat.lt_of_lt_of_le (World.block_lt_of_cell? W _ hc.1) HB1.out.size;have hfld:=z4h;clear hN1 hs hc lgo;go_enter func135,ntmps135
 go_wp2_with fail
 rw[<-hW1,<-hnB];clear hW1 hnB;refine Zl 99 (fun W:World=>W.cell? ⟨sB,0,none⟩=some (.slice so0 n0 cap0)/\(W.cell? ⟨nB,0,none⟩=some (.int .i64 k)/\W.cell? ⟨nB,1,none⟩=some (.string T)/\W.cell? ⟨nB,2,none⟩=some (.int .u64 a)/\W.cell? ⟨nB,3,none⟩=some (.int .u64 b)/\W.cell? ⟨nB,4,none⟩=some (.int .u64 c)/\W.cell? ⟨nB,5,none⟩=some (.int .u64 d)/\W.cell? ⟨nB,6,none⟩=some (.slice (some ⟨g,o,none⟩) 1 cap)/\W.cell? ⟨nB,7,none⟩=some (.int .i64 p))/\W.cell? ⟨g,o,none⟩=some (.int .i64 k1)/\W.cell? ⟨g,o+1,none⟩=some (.string T1)/\W.cell? ⟨g,o+2,none⟩=some (.int .u64 a1)/\W.cell? ⟨g,o+3,none⟩=some (.int .u64 b1)/\W.cell? ⟨g,o+4,none⟩=some (.int .u64 c1)/\W.cell? ⟨g,o+5,none⟩=some (.int .u64 d1)/\W.cell? ⟨g,o+6,none⟩=some (.slice so1 n1 cap1)/\W.cell? ⟨g,o+7,none⟩=some (.int .i64 p1)) (by kernel_rfl) HS0.out (fun hHeld=> ?_);refine Qq 0 hHeld ?_
 (refine Qd 1 (fun K hK=> ?_);go_simp;refine(z3T k T a b c d p (some ⟨g,o,none⟩) 1 cap _ hk).mono ?_;rintro e w2 ⟨rfl,hb2⟩;go_simp;replace hHeld:=Hj hHeld hb2;refine hK.out _ _ hHeld ?_;clear hK K)
 (try simp only[Act.put,List.setIfInBounds_toArray,List.set_cons_zero,List.set_cons_succ])
 refine Qq 2 hHeld ?_;refine Qq 3 hHeld ?_;refine Qq 4 hHeld ?_;refine Qq 5 hHeld ?_;refine Qq 6 hHeld ?_;refine Qq 7 hHeld ?_;refine Qq 8 hHeld ?_
 first
  |(refine Ky (i:=9) (oi:=({dst:=some 14,op:=Op.call {callee:=Callee.value (Operand.func 137),args:=#[Operand.tmp 9,Operand.tmp 13],argTypes:=#[24,71]},type:=199,pos:="sound.go:62",after:=#[{on:=4,ground:=Ground.data},{on:=8,ground:=Ground.data},{on:=3,ground:=Ground.chain},{on:=3,ground:=Ground.guard}],guard:=some (3,false)}:Oper)) (v:=undef) rfl (by kernel_rfl) (by kernel_rfl) (by kernel_rfl) (fun _ _ _ h=>h) (Or.inr ⟨by rfl,rfl⟩) hHeld ?_)
  |(refine Qd 9 (fun K hK=> ?_);go_simp;refine(HO.out _ (HB1.out.trans (hb2.mono HB1.out.size))).mono ?_;rintro e w3 ⟨rfl,hb3⟩;go_simp;replace hHeld:=Hj hHeld hb3;refine hK.out _ _ hHeld ?_;clear hK K)
 (try simp only[Act.put,List.setIfInBounds_toArray,List.set_cons_zero,List.set_cons_succ])
 refine Qq 10 hHeld ?_;refine Qq 11 hHeld ?_;refine Qq 12 hHeld ?_;refine⟨by kernel_rfl,?_⟩;have HB3:=hid ((HB1.out.trans (hb2.mono HB1.out.size)).trans (hb3.mono (Nat.le_trans HB1.out.size hb2.size)))
 go_wp2_with fail
 go_ret;exact⟨rfl,HB3.out⟩
theorem y2e(k:Int)(T:ByteArray)(a b c d p:Int)(g o cap sB aB:Nat)(W:World)(hk:k=9∨k=10)(k1:Int)(T1:ByteArray)(a1 b1 c1 d1 p1:Int)(so1:Option Addr)(n1 cap1:Nat)(so0:Option Addr)(n0 cap0:Nat)(q2 q3:Bool)(fp:Addr)(x:Value)(ha:W.heap[aB]? =some (.cells #[x] 3))(hf:W.cell? ⟨1,0,none⟩=some (.iface 379 (.pointer (some fp))))(hne:1≠aB)
  (hs:W.cell? ⟨sB,0,none⟩=some (.slice so0 n0 cap0))(hc:Rc W g o k1 T1 a1 b1 c1 d1 (.slice so1 n1 cap1) p1)
  (HO:Hid (∀W':World,Below W.heap.size W W'->Calls prog 137 #[.agg #[.slice so0 n0 cap0],.agg #[.int .i64 k1,.string T1,.int .u64 a1,.int .u64 b1,.int .u64 c1,.int .u64 d1,.slice so1 n1 cap1,.int .i64 p1]] W' fun e w'=>e=.returned (.agg #[.bool true,.bool q2,.bool q3])/\Below W'.heap.size W' w')):
  Calls prog 135 #[.agg #[.int .i64 k,.string T,.int .u64 a,.int .u64 b,.int .u64 c,.int .u64 d,.slice (some ⟨g,o,none⟩) 1 cap,.int .i64 p],.pointer (some ⟨sB,0,none⟩),.pointer (some ⟨aB,0,none⟩)] W fun e w'=>e=.returned (.iface 379 (.pointer (some fp)))/\W.grownBy w' (some aB)/\w'.heap[aB]? =some (.cells #[.int .i64 p] 3):=by
 obtain⟨W1,hW1⟩:∃W1,W1=W.alloc (.cells #[.int .i64 k,.string T,.int .u64 a,.int .u64 b,.int .u64 c,.int .u64 d,.slice (some ⟨g,o,none⟩) 1 cap,.int .i64 p] 71):=⟨_,rfl⟩;have HB1:Hid (Below W.heap.size W W1.drew):=by rw[hW1];exact((Below.refl _ W).alloc L0q _).drew
 have hN1:W1.drew.heap[W.heap.size]? =some (.cells #[.int .i64 k,.string T,.int .u64 a,.int .u64 b,.int .u64 c,.int .u64 d,.slice (some ⟨g,o,none⟩) 1 cap,.int .i64 p] 71):=by rw[hW1];exact Qx W _ rfl
 obtain⟨nB,hnB⟩:∃nB,nB=W.heap.size:=⟨_,rfl⟩;rw[<-hnB]at hN1;have HN1:=hid hN1;have HS0:Hid (W1.drew.cell? ⟨sB,0,none⟩=some (.slice so0 n0 cap0)/\(W1.drew.cell? ⟨nB,0,none⟩=some (.int .i64 k)/\W1.drew.cell? ⟨nB,1,none⟩=some (.string T)/\W1.drew.cell? ⟨nB,2,none⟩=some (.int .u64 a)/\W1.drew.cell? ⟨nB,3,none⟩=some (.int .u64 b)/\W1.drew.cell? ⟨nB,4,none⟩=some (.int .u64 c)/\W1.drew.cell? ⟨nB,5,none⟩=some (.int .u64 d)/\W1.drew.cell? ⟨nB,6,none⟩=some (.slice (some ⟨g,o,none⟩) 1 cap)/\W1.drew.cell? ⟨nB,7,none⟩=some (.int .i64 p))/\W1.drew.cell? ⟨g,o,none⟩=some (.int .i64 k1)/\W1.drew.cell? ⟨g,o+1,none⟩=some (.string T1)/\W1.drew.cell? ⟨g,o+2,none⟩=some (.int .u64 a1)/\W1.drew.cell? ⟨g,o+3,none⟩=some (.int .u64 b1)/\W1.drew.cell? ⟨g,o+4,none⟩=some (.int .u64 c1)/\W1.drew.cell? ⟨g,o+5,none⟩=some (.int .u64 d1)/\W1.drew.cell? ⟨g,o+6,none⟩=some (.slice so1 n1 cap1)/\W1.drew.cell? ⟨g,o+7,none⟩=some (.int .i64 p1)):=by
  have e:∀{a:Addr} {u:Value},W.cell? a=some u->W1.drew.cell? a=some u:=fun{a u} h=>(HB1.out.cell (p:=a) (World.block_lt_of_cell? W _ h)).trans h
  obtain⟨c0,c1',c2,c3,c4,c5,c6,c7⟩:=hc;exact⟨e hs,(Qw hN1).1,e c0,e c1',e c2,e c3,e c4,e c5,e c6,e c7⟩
 have HHs:=hid hs;have lgo:g<W1.drew.heap.size:=Nat.lt_of_lt_of_le (World.block_lt_of_cell? W _ hc.1) HB1.out.size;have hfld:=z4h;clear hN1 hs hc lgo;go_enter func135,ntmps135
 go_wp2_with fail
 rw[<-hW1,<-hnB];clear hW1 hnB;refine Zl 99 (fun W:World=>W.cell? ⟨sB,0,none⟩=some (.slice so0 n0 cap0)/\(W.cell? ⟨nB,0,none⟩=some (.int .i64 k)/\W.cell? ⟨nB,1,none⟩=some (.string T)/\W.cell? ⟨nB,2,none⟩=some (.int .u64 a)/\W.cell? ⟨nB,3,none⟩=some (.int .u64 b)/\W.cell? ⟨nB,4,none⟩=some (.int .u64 c)/\W.cell? ⟨nB,5,none⟩=some (.int .u64 d)/\W.cell? ⟨nB,6,none⟩=some (.slice (some ⟨g,o,none⟩) 1 cap)/\W.cell? ⟨nB,7,none⟩=some (.int .i64 p))/\W.cell? ⟨g,o,none⟩=some (.int .i64 k1)/\W.cell? ⟨g,o+1,none⟩=some (.string T1)/\W.cell? ⟨g,o+2,none⟩=some (.int .u64 a1)/\W.cell? ⟨g,o+3,none⟩=some (.int .u64 b1)/\W.cell? ⟨g,o+4,none⟩=some (.int .u64 c1)/\W.cell? ⟨g,o+5,none⟩=some (.int .u64 d1)/\W.cell? ⟨g,o+6,none⟩=some (.slice so1 n1 cap1)/\W.cell? ⟨g,o+7,none⟩=some (.int .i64 p1)) (by kernel_rfl) HS0.out (fun hHeld=> ?_);refine Qq 0 hHeld ?_
 (refine Qd 1 (fun K hK=> ?_);go_simp;refine(z3T k T a b c d p (some ⟨g,o,none⟩) 1 cap _ hk).mono ?_;rintro e w2 ⟨rfl,hb2⟩;go_simp;replace hHeld:=Hj hHeld hb2;refine hK.out _ _ hHeld ?_;clear hK K)
 (try simp only[Act.put,List.setIfInBounds_toArray,List.set_cons_zero,List.set_cons_succ])
 refine Qq 2 hHeld ?_;refine Qq 3 hHeld ?_;refine Qq 4 hHeld ?_;refine Qq 5 hHeld ?_;refine Qq 6 hHeld ?_;refine Qq 7 hHeld ?_;refine Qq 8 hHeld ?_
 first
  |(refine Ky (i:=9) (oi:=({dst:=some 14,op:=Op.call {callee:=Callee.value (Operand.func 137),args:=#[Operand.tmp 9,Operand.tmp 13],argTypes:=#[24,71]},type:=199,pos:="sound.go:62",after:=#[{on:=4,ground:=Ground.data},{on:=8,ground:=Ground.data},{on:=3,ground:=Ground.chain},{on:=3,ground:=Ground.guard}],guard:=some (3,false)}:Oper)) (v:=undef) rfl (by kernel_rfl) (by kernel_rfl) (by kernel_rfl) (fun _ _ _ h=>h) (Or.inr ⟨by rfl,rfl⟩) hHeld ?_)
  |(refine Qd 9 (fun K hK=> ?_);go_simp;refine(HO.out _ (HB1.out.trans (hb2.mono HB1.out.size))).mono ?_;rintro e w3 ⟨rfl,hb3⟩;go_simp;replace hHeld:=Hj hHeld hb3;refine hK.out _ _ hHeld ?_;clear hK K)
 (try simp only[Act.put,List.setIfInBounds_toArray,List.set_cons_zero,List.set_cons_succ])
 refine Qq 10 hHeld ?_;refine Qq 11 hHeld ?_;refine Qq 12 hHeld ?_;refine⟨by kernel_rfl,?_⟩;have HB3:=hid ((HB1.out.trans (hb2.mono HB1.out.size)).trans (hb3.mono (Nat.le_trans HB1.out.size hb2.size)));have hn3:=(hb3.block _ (Nat.lt_of_lt_of_le (Qz HN1.out) hb2.size)).trans ((hb2.block _ (Qz HN1.out)).trans HN1.out);have n7:=(Qw hn3).1.2.2.2.2.2.2.2;have ln:=Qz hn3;have ha3:=(HB3.out.block _ (Qz ha)).trans ha;have HA3:=hid ha3;obtain⟨t0,t1⟩:=Qk ha3;have la:=Qz ha3;have hf3:=(HB3.out.cell (p:=⟨1,0,none⟩) (World.block_lt_of_cell? W _ hf)).trans hf;have hf4:(w3.setCell ⟨aB,0,none⟩ (.int .i64 p)).cell? ⟨1,0,none⟩=some (.iface 379 (.pointer (some fp))):=(World.cell?_of_block (Below.heap_setCell _ _ _ _ hne)).trans hf3;clear hn3 ha3 hf ha hHeld hb2 hb3 HO HS0
 go_wp2_with fail
 go_ret;exact⟨rfl,G.setR (G.below HB3.out),Qb HA3.out 0 _⟩
end Go.Proofs.YtlogolpcipiceaaGreatDoor
