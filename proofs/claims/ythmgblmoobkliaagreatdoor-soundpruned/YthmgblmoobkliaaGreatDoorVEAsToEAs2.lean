/- Lemmas for the last text. Conditions: those that each names. -/
import Derived.Test.YthmgblmoobkliaaGreatDoorVKG5ToX1
import Derived.LaidEql
import Derived.Stop.Asserts
import Derived.RowKitTokens
set_option linter.unusedVariables false
set_option maxRecDepth 100000
set_option maxHeartbeats 4000000
namespace Go.Proofs.YthmgblmoobkliaaGreatDoor
open Go.Proofs.Tryz
open Go.RowKit Go.Extern.Stop Go.Stop Go.Extern
theorem Tryz.methodKind(h:Value)(w:World):(Go.method 412 169 (.agg #[h]) "Kind").run prog w=.ok (259,h) w:=by kernel_rfl
theorem Tryz.methodElem(h:Value)(w:World):(Go.method 412 169 (.agg #[h]) "Elem").run prog w=.ok (271,.agg #[h]) w:=by kernel_rfl
theorem Tryz.methodImplements(h:Value)(w:World):(Go.method 412 169 (.agg #[h]) "Implements").run prog w=.ok (272,.agg #[h]) w:=by kernel_rfl
theorem Tryz.methodAssignableTo(h:Value)(w:World):(Go.method 412 169 (.agg #[h]) "AssignableTo").run prog w=.ok (269,.agg #[h]) w:=by kernel_rfl
theorem rlm(z:Sem Value)(f:TypeId->Addr->Nat->Nat->Sem Value)(v:Value):
 ReflectliteValue.method z f #[v]=(do match<-ReflectliteValue.parts v with|none=>z|some (t,a,fl)=>f t a fl (fl%32)):=rfl
theorem rls(v x:Value):ReflectliteValue.set #[v,x]=(do
 let(some (dst,a,fl),some (src,b,_)):=(<-ReflectliteValue.parts v,<-ReflectliteValue.parts x)
  |unsupported (.noEntry "extern/(internal/reflectlite.Value).Set.zeroValue")
 if fl/ReflectliteValue.flagAddr%2 == 0 then unsupported (.noEntry "extern/(internal/reflectlite.Value).Set.unaddressable")
 let val<-loadVar src b
 if<-Rtype.directlyAssignable dst src then storeVar dst a val
 else if<-Rtype.implements dst src then
  if(<-Rtype.kind src) == 20 then
   match val with
   | .nilIface=>unsupported (.noEntry "extern/reflectlite: a nil value of one interface type handed on as a value of another")
   |_=>storeVar dst a val
  else storeVar dst a (.iface src val)
 else panicString ("reflectlite.Set: value of type "++(<-Rtype.spelt src)++" is not assignable to type "++(<-Rtype.spelt dst))
 pure (.tuple #[])):=rfl
def Zj(w:World):Prop:=w.cell? ⟨0,0,none⟩=some (.iface 169 (.agg #[.pointer (some ⟨4,28,none⟩)]))
theorem Zj.lt{w:World}(h:Zj w):0<w.heap.size:=by
 unfold Zj at h;rcases Nat.lt_or_ge 0 w.heap.size with h1|h1
 ·exact h1
 ·simp[World.cell?,Array.getElem?_eq_none h1]at h
theorem Zj.below{w w':World}{B:Nat}(h:Zj w)(hb:Below B w w')(hB:0<B):Zj w':=(hb.cell (p:=⟨0,0,none⟩) hB).trans h
theorem Zj.alloc{w:World}(h:Zj w)(o:Obj):Zj (w.alloc o):=by
 unfold Zj;rw[World.cell?_alloc_lt _ _ ⟨0,0,none⟩ h.lt];exact h
theorem Tryz.valueOfPE(t:Addr)(w:World):(ReflectliteValue.unpack (.iface 73 (.pointer (some t)))).run prog w
 =.ok (.agg #[.pointer (some ⟨4,73,none⟩),.pointer (some ⟨w.heap.size,0,none⟩),.int .u64 150]) (w.alloc (.cells #[.pointer (some t)] 73)):=by kernel_rfl
theorem Tryz.typePE(a:Addr)(w:World):(ReflectliteValue.methodAny (ReflectliteValue.valueError "reflectlite.Value.Type" 0) (fun t _ _ _=>ReflectliteType.toType t) #[.agg #[.pointer (some ⟨4,73,none⟩),.pointer (some a),.int .u64 150]]).run prog w
 =.ok (.iface 169 (.agg #[.pointer (some ⟨4,73,none⟩)])) w:=by kernel_rfl
theorem Tryz.kindPE(w:World):((ReflectliteType.abiMethod fun t=>(fun a:Nat=>Value.int IntKind.u8 (a:Int))<$>Rtype.kind t) #[.pointer (some ⟨4,73,none⟩)]).run prog w=.ok (.int .u8 22) w:=by kernel_rfl
theorem Tryz.partsPE(a:Addr)(w:World):(ReflectliteValue.parts (.agg #[.pointer (some ⟨4,73,none⟩),.pointer (some a),.int .u64 150])).run prog w=.ok (some (73,a,150)) w:=by kernel_rfl
theorem Tryz.isNilPE(a p:Addr)(W:World)(ha:W.cell? a=some (.pointer (some p))):
  (ReflectliteValue.method (ReflectliteValue.valueError "reflectlite.Value.IsNil" 0) ReflectliteValue.isNil #[.agg #[.pointer (some ⟨4,73,none⟩),.pointer (some a),.int .u64 150]]).run prog W=.ok (.bool false) W:=by
 rw[rlm];simp only[Sem.run_bind,Tryz.partsPE,Result.andThen];simp[ReflectliteValue.isNil,loadVar,isAgg,underlying,Tryz.underlying73,ha,Result.andThen]
theorem Tryz.elemPE(w:World):(ReflectliteType.method ReflectliteType.elem #[.agg #[.pointer (some ⟨4,73,none⟩)]]).run prog w=.ok (.iface 169 (.agg #[.pointer (some ⟨4,37,none⟩)])) w:=by kernel_rfl
theorem Tryz.kindEE(w:World):((ReflectliteType.abiMethod fun t=>(fun a:Nat=>Value.int IntKind.u8 (a:Int))<$>Rtype.kind t) #[.pointer (some ⟨4,37,none⟩)]).run prog w=.ok (.int .u8 2) w:=by kernel_rfl
theorem Tryz.implementsEE(w:World):(ReflectliteType.relation "Implements" ReflectliteType.implements_ #[.agg #[.pointer (some ⟨4,37,none⟩)],.iface 169 (.agg #[.pointer (some ⟨4,28,none⟩)])]).run prog w=.ok (.bool true) w:=by kernel_rfl
theorem Tryz.typeOfEE(v:Value)(w:World):(ReflectliteType.typeOf #[.iface 37 v]).run prog w=.ok (.iface 169 (.agg #[.pointer (some ⟨4,37,none⟩)])) w:=by kernel_rfl
theorem Tryz.assignableEE(w:World):(ReflectliteType.relation "AssignableTo" ReflectliteType.assignableTo #[.agg #[.pointer (some ⟨4,37,none⟩)],.iface 169 (.agg #[.pointer (some ⟨4,37,none⟩)])]).run prog w=.ok (.bool true) w:=by kernel_rfl
theorem Tryz.valueOfEE(c:Int)(w:World):(ReflectliteValue.unpack (.iface 37 (.int .i64 c))).run prog w
 =.ok (.agg #[.pointer (some ⟨4,37,none⟩),.pointer (some ⟨w.heap.size,0,none⟩),.int .u64 130]) (w.alloc (.cells #[.int .i64 c] 37)):=by kernel_rfl
theorem Tryz.elemOfPE(w:World):(Rtype.elem? 73).run prog w=.ok (some 37) w:=by kernel_rfl
theorem Tryz.mkEE(p:Addr)(w:World):(ReflectliteValue.mk 37 p ReflectliteValue.flagAddr).run prog w=.ok (.agg #[.pointer (some ⟨4,37,none⟩),.pointer (some p),.int .u64 386]) w:=by kernel_rfl
theorem Tryz.elemVE(a p:Addr)(W:World)(ha:W.cell? a=some (.pointer (some p))):
  (ReflectliteValue.method (ReflectliteValue.valueError "reflectlite.Value.Elem" 0) ReflectliteValue.elem #[.agg #[.pointer (some ⟨4,73,none⟩),.pointer (some a),.int .u64 150]]).run prog W
    =.ok (.agg #[.pointer (some ⟨4,37,none⟩),.pointer (some p),.int .u64 386]) W:=by
 rw[rlm];simp only[Sem.run_bind,Tryz.partsPE,Result.andThen];simp[ReflectliteValue.elem,loadVar,isAgg,underlying,Tryz.underlying73,ha,Result.andThen,Tryz.elemOfPE,Tryz.mkEE]
theorem Tryz.partsEaE(a:Addr)(w:World):(ReflectliteValue.parts (.agg #[.pointer (some ⟨4,37,none⟩),.pointer (some a),.int .u64 386])).run prog w=.ok (some (37,a,386)) w:=by kernel_rfl
theorem Tryz.partsEE(a:Addr)(w:World):(ReflectliteValue.parts (.agg #[.pointer (some ⟨4,37,none⟩),.pointer (some a),.int .u64 130])).run prog w=.ok (some (37,a,130)) w:=by kernel_rfl
theorem Tryz.directEE(w:World):(Rtype.directlyAssignable 37 37).run prog w=.ok true w:=by kernel_rfl
theorem Tryz.setEE(ta b:Addr)(c:Int)(old:Value)(W:World)(hb:W.cell? b=some (.int .i64 c))(ht:W.cell? ta=some old)(hf:W.frozen? ta=false):
  (ReflectliteValue.set #[.agg #[.pointer (some ⟨4,37,none⟩),.pointer (some ta),.int .u64 386],.agg #[.pointer (some ⟨4,37,none⟩),.pointer (some b),.int .u64 130]]).run prog W
    =.ok (.tuple #[]) (W.setCell ta (.int .i64 c)):=by
 rw[rls];simp only[Sem.run_bind,Tryz.partsEaE,Tryz.partsEE,Result.andThen];simp[ReflectliteValue.flagAddr,loadVar,isAgg,underlying,Tryz.underlying37,hb,Result.andThen,Tryz.directEE,storeVar,Value.cells,storeCells,Addr.add];rw[run_store prog W ta _ _ (by rfl)];simp[ht,hf]
theorem Tryz.valueOfPF(t:Addr)(w:World):(ReflectliteValue.unpack (.iface 75 (.pointer (some t)))).run prog w
 =.ok (.agg #[.pointer (some ⟨4,75,none⟩),.pointer (some ⟨w.heap.size,0,none⟩),.int .u64 150]) (w.alloc (.cells #[.pointer (some t)] 75)):=by kernel_rfl
theorem Tryz.typePF(a:Addr)(w:World):(ReflectliteValue.methodAny (ReflectliteValue.valueError "reflectlite.Value.Type" 0) (fun t _ _ _=>ReflectliteType.toType t) #[.agg #[.pointer (some ⟨4,75,none⟩),.pointer (some a),.int .u64 150]]).run prog w
 =.ok (.iface 169 (.agg #[.pointer (some ⟨4,75,none⟩)])) w:=by kernel_rfl
theorem Tryz.kindPF(w:World):((ReflectliteType.abiMethod fun t=>(fun a:Nat=>Value.int IntKind.u8 (a:Int))<$>Rtype.kind t) #[.pointer (some ⟨4,75,none⟩)]).run prog w=.ok (.int .u8 22) w:=by kernel_rfl
theorem Tryz.partsPF(a:Addr)(w:World):(ReflectliteValue.parts (.agg #[.pointer (some ⟨4,75,none⟩),.pointer (some a),.int .u64 150])).run prog w=.ok (some (75,a,150)) w:=by kernel_rfl
theorem Tryz.isNilPF(a p:Addr)(W:World)(ha:W.cell? a=some (.pointer (some p))):
  (ReflectliteValue.method (ReflectliteValue.valueError "reflectlite.Value.IsNil" 0) ReflectliteValue.isNil #[.agg #[.pointer (some ⟨4,75,none⟩),.pointer (some a),.int .u64 150]]).run prog W=.ok (.bool false) W:=by
 rw[rlm];simp only[Sem.run_bind,Tryz.partsPF,Result.andThen];simp[ReflectliteValue.isNil,loadVar,isAgg,underlying,Tryz.underlying75,ha,Result.andThen]
theorem Tryz.elemPF(w:World):(ReflectliteType.method ReflectliteType.elem #[.agg #[.pointer (some ⟨4,75,none⟩)]]).run prog w=.ok (.iface 169 (.agg #[.pointer (some ⟨4,74,none⟩)])) w:=by kernel_rfl
theorem Tryz.kindEF(w:World):((ReflectliteType.abiMethod fun t=>(fun a:Nat=>Value.int IntKind.u8 (a:Int))<$>Rtype.kind t) #[.pointer (some ⟨4,74,none⟩)]).run prog w=.ok (.int .u8 22) w:=by kernel_rfl
theorem Tryz.implementsEF(w:World):(ReflectliteType.relation "Implements" ReflectliteType.implements_ #[.agg #[.pointer (some ⟨4,74,none⟩)],.iface 169 (.agg #[.pointer (some ⟨4,28,none⟩)])]).run prog w=.ok (.bool true) w:=by kernel_rfl
theorem Tryz.typeOfEF(v:Value)(w:World):(ReflectliteType.typeOf #[.iface 74 v]).run prog w=.ok (.iface 169 (.agg #[.pointer (some ⟨4,74,none⟩)])) w:=by kernel_rfl
theorem Tryz.assignableEF(w:World):(ReflectliteType.relation "AssignableTo" ReflectliteType.assignableTo #[.agg #[.pointer (some ⟨4,74,none⟩)],.iface 169 (.agg #[.pointer (some ⟨4,74,none⟩)])]).run prog w=.ok (.bool true) w:=by kernel_rfl
theorem Tryz.valueOfEF(c:Addr)(w:World):(ReflectliteValue.unpack (.iface 74 (.pointer (some c)))).run prog w
 =.ok (.agg #[.pointer (some ⟨4,74,none⟩),.pointer (some ⟨w.heap.size,0,none⟩),.int .u64 150]) (w.alloc (.cells #[.pointer (some c)] 74)):=by kernel_rfl
theorem Tryz.elemOfPF(w:World):(Rtype.elem? 75).run prog w=.ok (some 74) w:=by kernel_rfl
theorem Tryz.mkEF(p:Addr)(w:World):(ReflectliteValue.mk 74 p ReflectliteValue.flagAddr).run prog w=.ok (.agg #[.pointer (some ⟨4,74,none⟩),.pointer (some p),.int .u64 406]) w:=by kernel_rfl
theorem Tryz.elemVF(a p:Addr)(W:World)(ha:W.cell? a=some (.pointer (some p))):
  (ReflectliteValue.method (ReflectliteValue.valueError "reflectlite.Value.Elem" 0) ReflectliteValue.elem #[.agg #[.pointer (some ⟨4,75,none⟩),.pointer (some a),.int .u64 150]]).run prog W
    =.ok (.agg #[.pointer (some ⟨4,74,none⟩),.pointer (some p),.int .u64 406]) W:=by
 rw[rlm];simp only[Sem.run_bind,Tryz.partsPF,Result.andThen];simp[ReflectliteValue.elem,loadVar,isAgg,underlying,Tryz.underlying75,ha,Result.andThen,Tryz.elemOfPF,Tryz.mkEF]
theorem Tryz.partsEaF(a:Addr)(w:World):(ReflectliteValue.parts (.agg #[.pointer (some ⟨4,74,none⟩),.pointer (some a),.int .u64 406])).run prog w=.ok (some (74,a,406)) w:=by kernel_rfl
theorem Tryz.partsEF(a:Addr)(w:World):(ReflectliteValue.parts (.agg #[.pointer (some ⟨4,74,none⟩),.pointer (some a),.int .u64 150])).run prog w=.ok (some (74,a,150)) w:=by kernel_rfl
theorem Tryz.directEF(w:World):(Rtype.directlyAssignable 74 74).run prog w=.ok true w:=by kernel_rfl
theorem Tryz.setEF(ta b:Addr)(c:Addr)(old:Value)(W:World)(hb:W.cell? b=some (.pointer (some c)))(ht:W.cell? ta=some old)(hf:W.frozen? ta=false):
  (ReflectliteValue.set #[.agg #[.pointer (some ⟨4,74,none⟩),.pointer (some ta),.int .u64 406],.agg #[.pointer (some ⟨4,74,none⟩),.pointer (some b),.int .u64 150]]).run prog W
    =.ok (.tuple #[]) (W.setCell ta (.pointer (some c))):=by
 rw[rls];simp only[Sem.run_bind,Tryz.partsEaF,Tryz.partsEF,Result.andThen];simp[ReflectliteValue.flagAddr,loadVar,isAgg,underlying,Tryz.underlying74,hb,Result.andThen,Tryz.directEF,storeVar,Value.cells,storeCells,Addr.add];rw[run_store prog W ta _ _ (by rfl)];simp[ht,hf]
theorem z0Z(c t:Addr)(old:Value)(w:World)(hg0:Zj w)(ht0:w.cell? t=some old)(hf0:w.frozen? t=false):
  Calls prog 37 #[.iface 74 (.pointer (some c)),.iface 75 (.pointer (some t))] w fun ev w'=>ev=.returned (.bool true)/\w'=((((w.alloc (.cells #[.pointer (some t)] 75)).alloc (.cells #[.pointer (some ⟨4,75,none⟩),.pointer (some ⟨w.heap.size,0,none⟩),.int .u64 150] 114)).alloc (.cells #[.pointer (some ⟨4,75,none⟩),.pointer (some ⟨w.heap.size,0,none⟩),.int .u64 150] 114)).alloc (.cells #[.pointer (some c)] 74)).setCell t (.pointer (some c)):=by
 have hVO:= @run_callFunc_extern prog 62 _ (fun args=>ReflectliteValue.unpack (args.getD 0 (.tuple #[]))) func62 (by kernel_rfl) (by kernel_rfl) (by kernel_rfl) (by kernel_rfl);have hTy:= @run_callFunc_extern prog 63 _ (ReflectliteValue.methodAny (ReflectliteValue.valueError "reflectlite.Value.Type" 0) (fun t _ _ _=>ReflectliteType.toType t)) func63 (by kernel_rfl) (by kernel_rfl) (by kernel_rfl) (by kernel_rfl);have hNi:= @run_callFunc_extern prog 64 _ (ReflectliteValue.method (ReflectliteValue.valueError "reflectlite.Value.IsNil" 0) ReflectliteValue.isNil) func64 (by kernel_rfl) (by kernel_rfl) (by kernel_rfl) (by kernel_rfl);have hKi:= @run_callFunc_extern prog 259 _ (ReflectliteType.abiMethod fun t=>do pure (.int .u8 (<-Rtype.kind t))) func259 (by kernel_rfl) (by kernel_rfl) (by kernel_rfl) (by kernel_rfl);have hEl:= @run_callFunc_extern prog 271 _ (ReflectliteType.method ReflectliteType.elem) func271 (by kernel_rfl) (by kernel_rfl) (by kernel_rfl) (by kernel_rfl);have hIm:= @run_callFunc_extern prog 272 _ (ReflectliteType.relation "Implements" ReflectliteType.implements_) func272 (by kernel_rfl) (by kernel_rfl) (by kernel_rfl) (by kernel_rfl);have hTO:= @run_callFunc_extern prog 103 _ ReflectliteType.typeOf func103 (by kernel_rfl) (by kernel_rfl) (by kernel_rfl) (by kernel_rfl);have hAs:= @run_callFunc_extern prog 269 _ (ReflectliteType.relation "AssignableTo" ReflectliteType.assignableTo) func269 (by kernel_rfl) (by kernel_rfl) (by kernel_rfl) (by kernel_rfl);have hVE:= @run_callFunc_extern prog 104 _ (ReflectliteValue.method (ReflectliteValue.valueError "reflectlite.Value.Elem" 0) ReflectliteValue.elem) func104 (by kernel_rfl) (by kernel_rfl) (by kernel_rfl) (by kernel_rfl);have hSe:= @run_callFunc_extern prog 105 _ ReflectliteValue.set func105 (by kernel_rfl) (by kernel_rfl) (by kernel_rfl) (by kernel_rfl);have mA:=Tryz.methodAssignableTo;have mK:=Tryz.methodKind;have mE:=Tryz.methodElem;have mI:=Tryz.methodImplements;have vP:=Tryz.valueOfPF;have tP:=Tryz.typePF;have kP:=Tryz.kindPF;have kE:=Tryz.kindEF;have eP:=Tryz.elemPF;have iE:=Tryz.implementsEF;have nP:=Tryz.isNilPF ⟨w.heap.size,0,none⟩ t ((w.alloc (.cells #[.pointer (some t)] 75)).alloc (.cells #[.pointer (some ⟨4,75,none⟩),.pointer (some ⟨w.heap.size,0,none⟩),.int .u64 150] 114)) (by simp);have hlt:=Zj.lt hg0;have hg:w.cell? ⟨0,0,none⟩=some (.iface 169 (.agg #[.pointer (some ⟨4,28,none⟩)])):=hg0;have hg2:((w.alloc (.cells #[.pointer (some t)] 75)).alloc (.cells #[.pointer (some ⟨4,75,none⟩),.pointer (some ⟨w.heap.size,0,none⟩),.int .u64 150] 114)).cell? ⟨0,0,none⟩=some (.iface 169 (.agg #[.pointer (some ⟨4,28,none⟩)])):=by
  rw[World.cell?_alloc_lt _ _ ⟨0,0,none⟩ (by simp<;>omega),World.cell?_alloc_lt _ _ ⟨0,0,none⟩ hlt];exact hg
 have tO:=Tryz.typeOfEF;have aE:=Tryz.assignableEF;have vE:=Tryz.valueOfEF;have htl:t.block<w.heap.size:=by
  rcases Nat.lt_or_ge t.block w.heap.size with h|h
  ·exact h
  ·simp[World.cell?,Array.getElem?_eq_none h]at ht0
 have el:=Tryz.elemVF ⟨w.heap.size,0,none⟩ t (((w.alloc (.cells #[.pointer (some t)] 75)).alloc (.cells #[.pointer (some ⟨4,75,none⟩),.pointer (some ⟨w.heap.size,0,none⟩),.int .u64 150] 114)).alloc (.cells #[.pointer (some ⟨4,75,none⟩),.pointer (some ⟨w.heap.size,0,none⟩),.int .u64 150] 114)) (by rw[World.cell?_alloc_lt _ _ ⟨w.heap.size,0,none⟩ (by simp<;>omega)];simp);have st:=Tryz.setEF t ⟨w.heap.size+1+1+1,0,none⟩ c old ((((w.alloc (.cells #[.pointer (some t)] 75)).alloc (.cells #[.pointer (some ⟨4,75,none⟩),.pointer (some ⟨w.heap.size,0,none⟩),.int .u64 150] 114)).alloc (.cells #[.pointer (some ⟨4,75,none⟩),.pointer (some ⟨w.heap.size,0,none⟩),.int .u64 150] 114)).alloc (.cells #[.pointer (some c)] 74))
  (by rw[World.cell?_alloc_at _ _ _ _ (by simp)];rfl)
  (by rw[World.cell?_alloc_lt _ _ t (by simp<;>omega),World.cell?_alloc_lt _ _ t (by simp<;>omega),World.cell?_alloc_lt _ _ t (by simp<;>omega),World.cell?_alloc_lt _ _ t htl];exact ht0)
  (by rw[World.frozen?_alloc_old _ _ t (by simp<;>omega),World.frozen?_alloc_old _ _ t (by simp<;>omega),World.frozen?_alloc_old _ _ t (by simp<;>omega),World.frozen?_alloc_old _ _ t (Nat.ne_of_lt htl)];exact hf0)
 clear hg0;go_enter func37,ntmps37
 go_wp2
 refine wp_loop_rounds 1 ?_;rw[rounds_succ]
 go_wp2
 go_ret;exact⟨rfl,rfl⟩
theorem Tryz.noAsF(v:Value)(xT:TypeId)(w:World):(Instr.typeAssert (.iface 74 v) xT 174 true).run prog w=.ok (.tuple #[.nilIface,.bool false]) w:=run_typeAssert_lacksB Tryz.underlying174 (by kernel_rfl) (by kernel_rfl) v xT w
theorem Tryz.unwF(v:Value)(xT:TypeId)(w:World):(Instr.typeAssert (.iface 74 v) xT 177 true).run prog w=.ok (.tuple #[.iface 74 v,.bool true]) w:=run_typeAssert_hasB Tryz.underlying177 (by kernel_rfl) v xT w
theorem Tryz.methodUnwF(v:Addr)(w:World):(Go.method 412 74 (.pointer (some v)) "Unwrap").run prog w=.ok (264,.pointer (some v)) w:=by kernel_rfl
theorem Tryz.typeOfPF(v:Value)(w:World):(ReflectliteType.typeOf #[.iface 74 v]).run prog w=.ok (.iface 169 (.agg #[.pointer (some ⟨4,74,none⟩)])) w:=by kernel_rfl
theorem Tryz.typeOfErr(v:Value)(w:World):(ReflectliteType.typeOf #[.iface 37 v]).run prog w=.ok (.iface 169 (.agg #[.pointer (some ⟨4,37,none⟩)])) w:=by kernel_rfl
theorem Tryz.assignFE(w:World):(ReflectliteType.relation "AssignableTo" ReflectliteType.assignableTo #[.agg #[.pointer (some ⟨4,74,none⟩)],.iface 169 (.agg #[.pointer (some ⟨4,37,none⟩)])]).run prog w=.ok (.bool false) w:=by kernel_rfl
theorem z7k(p:Nat)(c b:Int)(t:Addr)(old:Value)(w:World)(hg0:Zj w)(hp:w.heap[p]? =some (.cells #[.int .i64 c,.int .i64 b] 77))(ht0:w.cell? t=some old)(hf0:w.frozen? t=false):
  Calls prog 37 #[.iface 74 (.pointer (some ⟨p,0,none⟩)),.iface 73 (.pointer (some t))] w fun ev w'=>ev=.returned (.bool true)/\w'=((((w.alloc (.cells #[.pointer (some t)] 73)).alloc (.cells #[.pointer (some ⟨4,73,none⟩),.pointer (some ⟨w.heap.size,0,none⟩),.int .u64 150] 114)).alloc (.cells #[.pointer (some ⟨4,73,none⟩),.pointer (some ⟨w.heap.size,0,none⟩),.int .u64 150] 114)).alloc (.cells #[.int .i64 c] 37)).setCell t (.int .i64 c):=by
 have hVO:= @run_callFunc_extern prog 62 _ (fun args=>ReflectliteValue.unpack (args.getD 0 (.tuple #[]))) func62 (by kernel_rfl) (by kernel_rfl) (by kernel_rfl) (by kernel_rfl);have hTy:= @run_callFunc_extern prog 63 _ (ReflectliteValue.methodAny (ReflectliteValue.valueError "reflectlite.Value.Type" 0) (fun t _ _ _=>ReflectliteType.toType t)) func63 (by kernel_rfl) (by kernel_rfl) (by kernel_rfl) (by kernel_rfl);have hNi:= @run_callFunc_extern prog 64 _ (ReflectliteValue.method (ReflectliteValue.valueError "reflectlite.Value.IsNil" 0) ReflectliteValue.isNil) func64 (by kernel_rfl) (by kernel_rfl) (by kernel_rfl) (by kernel_rfl);have hKi:= @run_callFunc_extern prog 259 _ (ReflectliteType.abiMethod fun t=>do pure (.int .u8 (<-Rtype.kind t))) func259 (by kernel_rfl) (by kernel_rfl) (by kernel_rfl) (by kernel_rfl);have hEl:= @run_callFunc_extern prog 271 _ (ReflectliteType.method ReflectliteType.elem) func271 (by kernel_rfl) (by kernel_rfl) (by kernel_rfl) (by kernel_rfl);have hIm:= @run_callFunc_extern prog 272 _ (ReflectliteType.relation "Implements" ReflectliteType.implements_) func272 (by kernel_rfl) (by kernel_rfl) (by kernel_rfl) (by kernel_rfl);have hTO:= @run_callFunc_extern prog 103 _ ReflectliteType.typeOf func103 (by kernel_rfl) (by kernel_rfl) (by kernel_rfl) (by kernel_rfl);have hAs:= @run_callFunc_extern prog 269 _ (ReflectliteType.relation "AssignableTo" ReflectliteType.assignableTo) func269 (by kernel_rfl) (by kernel_rfl) (by kernel_rfl) (by kernel_rfl);have hVE:= @run_callFunc_extern prog 104 _ (ReflectliteValue.method (ReflectliteValue.valueError "reflectlite.Value.Elem" 0) ReflectliteValue.elem) func104 (by kernel_rfl) (by kernel_rfl) (by kernel_rfl) (by kernel_rfl);have hSe:= @run_callFunc_extern prog 105 _ ReflectliteValue.set func105 (by kernel_rfl) (by kernel_rfl) (by kernel_rfl) (by kernel_rfl);have mA:=Tryz.methodAssignableTo;have mK:=Tryz.methodKind;have mE:=Tryz.methodElem;have mI:=Tryz.methodImplements;have vP:=Tryz.valueOfPE;have tP:=Tryz.typePE;have kP:=Tryz.kindPE;have kE:=Tryz.kindEE;have eP:=Tryz.elemPE;have iE:=Tryz.implementsEE;have nP:=Tryz.isNilPE ⟨w.heap.size,0,none⟩ t ((w.alloc (.cells #[.pointer (some t)] 73)).alloc (.cells #[.pointer (some ⟨4,73,none⟩),.pointer (some ⟨w.heap.size,0,none⟩),.int .u64 150] 114)) (by simp);have hlt:=Zj.lt hg0;have hg:w.cell? ⟨0,0,none⟩=some (.iface 169 (.agg #[.pointer (some ⟨4,28,none⟩)])):=hg0;have hg2:((w.alloc (.cells #[.pointer (some t)] 73)).alloc (.cells #[.pointer (some ⟨4,73,none⟩),.pointer (some ⟨w.heap.size,0,none⟩),.int .u64 150] 114)).cell? ⟨0,0,none⟩=some (.iface 169 (.agg #[.pointer (some ⟨4,28,none⟩)])):=by
  rw[World.cell?_alloc_lt _ _ ⟨0,0,none⟩ (by simp<;>omega),World.cell?_alloc_lt _ _ ⟨0,0,none⟩ hlt];exact hg
 have tO:=Tryz.typeOfEE;have aE:=Tryz.assignableEE;have vE:=Tryz.valueOfEE;have htl:t.block<w.heap.size:=by
  rcases Nat.lt_or_ge t.block w.heap.size with h|h
  ·exact h
  ·simp[World.cell?,Array.getElem?_eq_none h]at ht0
 have el:=Tryz.elemVE ⟨w.heap.size,0,none⟩ t (((w.alloc (.cells #[.pointer (some t)] 73)).alloc (.cells #[.pointer (some ⟨4,73,none⟩),.pointer (some ⟨w.heap.size,0,none⟩),.int .u64 150] 114)).alloc (.cells #[.pointer (some ⟨4,73,none⟩),.pointer (some ⟨w.heap.size,0,none⟩),.int .u64 150] 114)) (by rw[World.cell?_alloc_lt _ _ ⟨w.heap.size,0,none⟩ (by simp<;>omega)];simp);have st:=Tryz.setEE t ⟨w.heap.size+1+1+1,0,none⟩ c old ((((w.alloc (.cells #[.pointer (some t)] 73)).alloc (.cells #[.pointer (some ⟨4,73,none⟩),.pointer (some ⟨w.heap.size,0,none⟩),.int .u64 150] 114)).alloc (.cells #[.pointer (some ⟨4,73,none⟩),.pointer (some ⟨w.heap.size,0,none⟩),.int .u64 150] 114)).alloc (.cells #[.int .i64 c] 37))
  (by rw[World.cell?_alloc_at _ _ _ _ (by simp)];rfl)
  (by rw[World.cell?_alloc_lt _ _ t (by simp<;>omega),World.cell?_alloc_lt _ _ t (by simp<;>omega),World.cell?_alloc_lt _ _ t (by simp<;>omega),World.cell?_alloc_lt _ _ t htl];exact ht0)
  (by rw[World.frozen?_alloc_old _ _ t (by simp<;>omega),World.frozen?_alloc_old _ _ t (by simp<;>omega),World.frozen?_alloc_old _ _ t (by simp<;>omega),World.frozen?_alloc_old _ _ t (Nat.ne_of_lt htl)];exact hf0)
 have hpl:p<w.heap.size:=by
  rcases Nat.lt_or_ge p w.heap.size with h2|h2
  ·exact h2
  ·rw[Array.getElem?_eq_none h2]at hp;cases hp
 have hpc:w.cell? ⟨p,0,none⟩=some (.int .i64 c):=by simp[World.cell?,hp]
 have hp3:(((w.alloc (.cells #[.pointer (some t)] 73)).alloc (.cells #[.pointer (some ⟨4,73,none⟩),.pointer (some ⟨w.heap.size,0,none⟩),.int .u64 150] 114)).alloc (.cells #[.pointer (some ⟨4,73,none⟩),.pointer (some ⟨w.heap.size,0,none⟩),.int .u64 150] 114)).cell? ⟨p,0,none⟩=some (.int .i64 c):=by
  rw[World.cell?_alloc_lt _ _ ⟨p,0,none⟩ (by simp<;>omega),World.cell?_alloc_lt _ _ ⟨p,0,none⟩ (by simp<;>omega),World.cell?_alloc_lt _ _ ⟨p,0,none⟩ hpl];exact hpc
 have n1:=Tryz.noAsF;have n2:=Tryz.unwF;have n3:=Tryz.methodUnwF;have n4:=Tryz.typeOfPF;have n5:=Tryz.assignFE;clear hg0 hp;go_enter func37,ntmps37
 go_wp2
 refine wp_loop_rounds 2 ?_;rw[rounds_succ]
 go_wp2
 rw[rounds_succ]
 go_wp2
 go_ret;exact⟨rfl,rfl⟩
theorem z7l(w:World):Calls prog 17 #[.nilIface] w fun e w'=>e=.returned (.int .i64 0)/\w'=w:=by
 go_enter func17,ntmps17
 go_wp2
 go_ret;exact⟨rfl,rfl⟩
theorem Oj(p:Nat)(c b:Int)(w:World)(h:Zj w)(hp:w.heap[p]? =some (.cells #[.int .i64 c,.int .i64 b] 77)):Calls prog 17 #[.iface 74 (.pointer (some ⟨p,0,none⟩))] w fun e w'=>e=.returned (.int .i64 c)/\Below w.heap.size w w':=by
 have hlt:=h.lt;have hpl:p<w.heap.size:=by
  rcases Nat.lt_or_ge p w.heap.size with h2|h2
  ·exact h2
  ·rw[Array.getElem?_eq_none h2]at hp;cases hp
 have hA:=z7k p c b ⟨w.heap.size,0,none⟩ (.int .i64 0) (w.alloc (.cells #[.int .i64 0] 37)) (h.alloc _) ((Below.heap_alloc w _ p hpl).trans hp) (by simp) (by simp);clear h hp;go_enter func17,ntmps17
 go_wp2_with fail
 refine hA.mono ?_;rintro e w1 ⟨rfl,hw⟩;have hc:w1.cell? ⟨w.heap.size,0,none⟩=some (.int .i64 c):=by
  rw[hw];exact World.cell?_setCell_same' _ _ _ (by rw[World.cell?_alloc_lt _ _ ⟨w.heap.size,0,none⟩ (by simp<;>omega),World.cell?_alloc_lt _ _ ⟨w.heap.size,0,none⟩ (by simp<;>omega),World.cell?_alloc_lt _ _ ⟨w.heap.size,0,none⟩ (by simp<;>omega),World.cell?_alloc_lt _ _ ⟨w.heap.size,0,none⟩ (by simp)];simp)
 have HB:Hid (Below w.heap.size w w1):=by
  show Below w.heap.size w w1;rw[hw];exact(((((B0q.alloc L0q _).alloc (by simp) _).alloc (by simp<;>omega) _).alloc (by simp<;>omega) _).alloc (by simp<;>omega) _).setCell L0q _
 clear hw hA
 go_wp2
 go_ret;exact⟨rfl,HB.out⟩
theorem Ok(p:Nat)(c b:Int)(w:World)(h:Zj w)(hp:w.heap[p]? =some (.cells #[.int .i64 c,.int .i64 b] 77)):Calls prog 18 #[.iface 74 (.pointer (some ⟨p,0,none⟩))] w fun e w'=>e=.returned (.int .i64 b)/\Below w.heap.size w w':=by
 have hlt:=h.lt;have hpl:p<w.heap.size:=by
  rcases Nat.lt_or_ge p w.heap.size with h2|h2
  ·exact h2
  ·rw[Array.getElem?_eq_none h2]at hp;cases hp
 have hA:=z0Z ⟨p,0,none⟩ ⟨w.heap.size,0,none⟩ (.pointer none) (w.alloc (.cells #[.pointer none] 74)) (h.alloc _) (by simp) (by simp);clear h;go_enter func18,ntmps18
 go_wp2_with fail
 refine hA.mono ?_;rintro e w1 ⟨rfl,hw⟩;have hc:w1.cell? ⟨w.heap.size,0,none⟩=some (.pointer (some ⟨p,0,none⟩)):=by
  rw[hw];exact World.cell?_setCell_same' _ _ _ (by rw[World.cell?_alloc_lt _ _ ⟨w.heap.size,0,none⟩ (by simp<;>omega),World.cell?_alloc_lt _ _ ⟨w.heap.size,0,none⟩ (by simp<;>omega),World.cell?_alloc_lt _ _ ⟨w.heap.size,0,none⟩ (by simp<;>omega),World.cell?_alloc_lt _ _ ⟨w.heap.size,0,none⟩ (by simp)];simp)
 have HB:Hid (Below w.heap.size w w1):=by
  show Below w.heap.size w w1;rw[hw];exact(((((B0q.alloc L0q _).alloc (by simp) _).alloc (by simp<;>omega) _).alloc (by simp<;>omega) _).alloc (by simp<;>omega) _).setCell L0q _
 have hpb:w1.cell? ⟨p,1,none⟩=some (.int .i64 b):=by
  rw[HB.out.cell (p:=⟨p,1,none⟩) hpl];simp[World.cell?,hp]
 clear hw hA hp
 go_wp2
 go_ret;exact⟨rfl,HB.out⟩
end Go.Proofs.YthmgblmoobkliaaGreatDoor
