/- Lemmas for the last text. Conditions: those that each names. -/
import Derived.Test.YtlogolpcipiceaaGreatDoorVKG5ToX1
import Derived.LaidEql
import Derived.Stop.Asserts
import Derived.RowKitTokens
import Derived.Test.YtlogolpcipiceaaGreatDoorVX9ToX10
set_option linter.unusedVariables false
set_option maxHeartbeats 4000000
namespace Go.Proofs.YtlogolpcipiceaaGreatDoor
open Go.Proofs.Tryz
open Go.RowKit Go.Extern.Stop Go.Stop Go.Extern
theorem Tryz.methodKind(h:Value)(w:World):(Go.method 510 206 (.agg #[h]) "Kind").run prog w=.ok (326,h) w:=by kernel_rfl
theorem Tryz.methodElem(h:Value)(w:World):(Go.method 510 206 (.agg #[h]) "Elem").run prog w=.ok (338,.agg #[h]) w:=by kernel_rfl
theorem Tryz.methodImplements(h:Value)(w:World):(Go.method 510 206 (.agg #[h]) "Implements").run prog w=.ok (339,.agg #[h]) w:=by kernel_rfl
theorem Tryz.methodAssignableTo(h:Value)(w:World):(Go.method 510 206 (.agg #[h]) "AssignableTo").run prog w=.ok (336,.agg #[h]) w:=by kernel_rfl
theorem rlm(z:Sem Value)(f:TypeId->Addr->Nat->Nat->Sem Value)(v:Value):
 ReflectliteValue.method z f #[v]=(do match<-ReflectliteValue.parts v with|none=>z|some (t,a,fl)=>f t a fl (fl%32)):=rfl
theorem rls(v x:Value):ReflectliteValue.set #[v,x]=(do
 let(some (dst,a,fl),some (src,b,_)):=(<-ReflectliteValue.parts v,<-ReflectliteValue.parts x)
  |unsupported (.noEntry "extern/(internal/reflectlite.Value).Set.zeroValue")
 if fl/ReflectliteValue.flagAddr%2 == 0 then unsupported (.noEntry "extern/(internal/reflectlite.Value).Set.unaddressable")
 let val<-loadVar src b
 if<-Rtype.directlyAssignable dst src then storeVar dst a val
 else if<-Rtype.implements dst src then
  if(<-Rtype.kind src) == 20 then
   match val with
   | .nilIface=>unsupported (.noEntry "extern/reflectlite: a nil value of one interface type handed on as a value of another")
   |_=>storeVar dst a val
  else storeVar dst a (.iface src val)
 else panicString ("reflectlite.Set: value of type "++(<-Rtype.spelt src)++" is not assignable to type "++(<-Rtype.spelt dst))
 pure (.tuple #[])):=rfl
def Xz(w:World):Prop:=w.cell? ⟨0,0,none⟩=some (.iface 206 (.agg #[.pointer (some ⟨6,33,none⟩)]))
theorem Xz.lt{w:World}(h:Xz w):0<w.heap.size:=by
 unfold Xz at h;rcases Nat.lt_or_ge 0 w.heap.size with h1|h1
 ·exact h1
 ·simp[World.cell?,Array.getElem?_eq_none h1]at h
theorem Xz.below{w w':World}{B:Nat}(h:Xz w)(hb:Below B w w')(hB:0<B):Xz w':=(hb.cell (p:=⟨0,0,none⟩) hB).trans h
theorem Xz.alloc{w:World}(h:Xz w)(o:Obj):Xz (w.alloc o):=by
 unfold Xz;rw[World.cell?_alloc_lt _ _ ⟨0,0,none⟩ h.lt];exact h
theorem Tryz.valueOfPF(t:Addr)(w:World):(ReflectliteValue.unpack (.iface 96 (.pointer (some t)))).run prog w
 =.ok (.agg #[.pointer (some ⟨6,96,none⟩),.pointer (some ⟨w.heap.size,0,none⟩),.int .u64 150]) (w.alloc (.cells #[.pointer (some t)] 96)):=by kernel_rfl
theorem Tryz.typePF(a:Addr)(w:World):(ReflectliteValue.methodAny (ReflectliteValue.valueError "reflectlite.Value.Type" 0) (fun t _ _ _=>ReflectliteType.toType t) #[.agg #[.pointer (some ⟨6,96,none⟩),.pointer (some a),.int .u64 150]]).run prog w
 =.ok (.iface 206 (.agg #[.pointer (some ⟨6,96,none⟩)])) w:=by kernel_rfl
theorem Tryz.kindPF(w:World):((ReflectliteType.abiMethod fun t=>(fun a:Nat=>Value.int IntKind.u8 (a:Int))<$>Rtype.kind t) #[.pointer (some ⟨6,96,none⟩)]).run prog w=.ok (.int .u8 22) w:=by kernel_rfl
theorem Tryz.partsPF(a:Addr)(w:World):(ReflectliteValue.parts (.agg #[.pointer (some ⟨6,96,none⟩),.pointer (some a),.int .u64 150])).run prog w=.ok (some (96,a,150)) w:=by kernel_rfl
theorem Tryz.isNilPF(a p:Addr)(W:World)(ha:W.cell? a=some (.pointer (some p))):
  (ReflectliteValue.method (ReflectliteValue.valueError "reflectlite.Value.IsNil" 0) ReflectliteValue.isNil #[.agg #[.pointer (some ⟨6,96,none⟩),.pointer (some a),.int .u64 150]]).run prog W=.ok (.bool false) W:=by
 rw[rlm];simp only[Sem.run_bind,Tryz.partsPF,Result.andThen];simp[ReflectliteValue.isNil,loadVar,isAgg,underlying,Tryz.underlying96,ha,Result.andThen]
theorem Tryz.elemPF(w:World):(ReflectliteType.method ReflectliteType.elem #[.agg #[.pointer (some ⟨6,96,none⟩)]]).run prog w=.ok (.iface 206 (.agg #[.pointer (some ⟨6,95,none⟩)])) w:=by kernel_rfl
theorem Tryz.kindEF(w:World):((ReflectliteType.abiMethod fun t=>(fun a:Nat=>Value.int IntKind.u8 (a:Int))<$>Rtype.kind t) #[.pointer (some ⟨6,95,none⟩)]).run prog w=.ok (.int .u8 22) w:=by kernel_rfl
theorem Tryz.implementsEF(w:World):(ReflectliteType.relation "Implements" ReflectliteType.implements_ #[.agg #[.pointer (some ⟨6,95,none⟩)],.iface 206 (.agg #[.pointer (some ⟨6,33,none⟩)])]).run prog w=.ok (.bool true) w:=by kernel_rfl
theorem Tryz.typeOfEF(v:Value)(w:World):(ReflectliteType.typeOf #[.iface 95 v]).run prog w=.ok (.iface 206 (.agg #[.pointer (some ⟨6,95,none⟩)])) w:=by kernel_rfl
theorem Tryz.assignableEF(w:World):(ReflectliteType.relation "AssignableTo" ReflectliteType.assignableTo #[.agg #[.pointer (some ⟨6,95,none⟩)],.iface 206 (.agg #[.pointer (some ⟨6,95,none⟩)])]).run prog w=.ok (.bool true) w:=by kernel_rfl
theorem Tryz.valueOfEF(c:Addr)(w:World):(ReflectliteValue.unpack (.iface 95 (.pointer (some c)))).run prog w
 =.ok (.agg #[.pointer (some ⟨6,95,none⟩),.pointer (some ⟨w.heap.size,0,none⟩),.int .u64 150]) (w.alloc (.cells #[.pointer (some c)] 95)):=by kernel_rfl
theorem Tryz.elemOfPF(w:World):(Rtype.elem? 96).run prog w=.ok (some 95) w:=by kernel_rfl
theorem Tryz.mkEF(p:Addr)(w:World):(ReflectliteValue.mk 95 p ReflectliteValue.flagAddr).run prog w=.ok (.agg #[.pointer (some ⟨6,95,none⟩),.pointer (some p),.int .u64 406]) w:=by kernel_rfl
theorem Tryz.elemVF(a p:Addr)(W:World)(ha:W.cell? a=some (.pointer (some p))):
  (ReflectliteValue.method (ReflectliteValue.valueError "reflectlite.Value.Elem" 0) ReflectliteValue.elem #[.agg #[.pointer (some ⟨6,96,none⟩),.pointer (some a),.int .u64 150]]).run prog W
    =.ok (.agg #[.pointer (some ⟨6,95,none⟩),.pointer (some p),.int .u64 406]) W:=by
 rw[rlm];simp only[Sem.run_bind,Tryz.partsPF,Result.andThen];simp[ReflectliteValue.elem,loadVar,isAgg,underlying,Tryz.underlying96,ha,Result.andThen,Tryz.elemOfPF,Tryz.mkEF]
theorem Tryz.partsEaF(a:Addr)(w:World):(ReflectliteValue.parts (.agg #[.pointer (some ⟨6,95,none⟩),.pointer (some a),.int .u64 406])).run prog w=.ok (some (95,a,406)) w:=by kernel_rfl
theorem Tryz.partsEF(a:Addr)(w:World):(ReflectliteValue.parts (.agg #[.pointer (some ⟨6,95,none⟩),.pointer (some a),.int .u64 150])).run prog w=.ok (some (95,a,150)) w:=by kernel_rfl
theorem Tryz.directEF(w:World):(Rtype.directlyAssignable 95 95).run prog w=.ok true w:=by kernel_rfl
theorem Tryz.setEF(ta b:Addr)(c:Addr)(old:Value)(W:World)(hb:W.cell? b=some (.pointer (some c)))(ht:W.cell? ta=some old)(hf:W.frozen? ta=false):
  (ReflectliteValue.set #[.agg #[.pointer (some ⟨6,95,none⟩),.pointer (some ta),.int .u64 406],.agg #[.pointer (some ⟨6,95,none⟩),.pointer (some b),.int .u64 150]]).run prog W
    =.ok (.tuple #[]) (W.setCell ta (.pointer (some c))):=by
 rw[rls];simp only[Sem.run_bind,Tryz.partsEaF,Tryz.partsEF,Result.andThen];simp[ReflectliteValue.flagAddr,loadVar,isAgg,underlying,Tryz.underlying95,hb,Result.andThen,Tryz.directEF,storeVar,Value.cells,storeCells,Addr.add];rw[run_store prog W ta _ _ (by rfl)];simp[ht,hf]
theorem z6H(c t:Addr)(old:Value)(w:World)(hg0:Xz w)(ht0:w.cell? t=some old)(hf0:w.frozen? t=false):
  Calls prog 39 #[.iface 95 (.pointer (some c)),.iface 96 (.pointer (some t))] w fun ev w'=>ev=.returned (.bool true)/\w'=((((w.alloc (.cells #[.pointer (some t)] 96)).alloc (.cells #[.pointer (some ⟨6,96,none⟩),.pointer (some ⟨w.heap.size,0,none⟩),.int .u64 150] 141)).alloc (.cells #[.pointer (some ⟨6,96,none⟩),.pointer (some ⟨w.heap.size,0,none⟩),.int .u64 150] 141)).alloc (.cells #[.pointer (some c)] 95)).setCell t (.pointer (some c)):=by
 have hVO:= @run_callFunc_extern prog 68 _ (fun args=>ReflectliteValue.unpack (args.getD 0 (.tuple #[]))) func68 (by kernel_rfl) (by kernel_rfl) (by kernel_rfl) (by kernel_rfl);have hTy:= @run_callFunc_extern prog 69 _ (ReflectliteValue.methodAny (ReflectliteValue.valueError "reflectlite.Value.Type" 0) (fun t _ _ _=>ReflectliteType.toType t)) func69 (by kernel_rfl) (by kernel_rfl) (by kernel_rfl) (by kernel_rfl);have hNi:= @run_callFunc_extern prog 70 _ (ReflectliteValue.method (ReflectliteValue.valueError "reflectlite.Value.IsNil" 0) ReflectliteValue.isNil) func70 (by kernel_rfl) (by kernel_rfl) (by kernel_rfl) (by kernel_rfl);have hKi:= @run_callFunc_extern prog 326 _ (ReflectliteType.abiMethod fun t=>do pure (.int .u8 (<-Rtype.kind t))) func326 (by kernel_rfl) (by kernel_rfl) (by kernel_rfl) (by kernel_rfl);have hEl:= @run_callFunc_extern prog 338 _ (ReflectliteType.method ReflectliteType.elem) func338 (by kernel_rfl) (by kernel_rfl) (by kernel_rfl) (by kernel_rfl);have hIm:= @run_callFunc_extern prog 339 _ (ReflectliteType.relation "Implements" ReflectliteType.implements_) func339 (by kernel_rfl) (by kernel_rfl) (by kernel_rfl) (by kernel_rfl);have hTO:= @run_callFunc_extern prog 112 _ ReflectliteType.typeOf func112 (by kernel_rfl) (by kernel_rfl) (by kernel_rfl) (by kernel_rfl);have hAs:= @run_callFunc_extern prog 336 _ (ReflectliteType.relation "AssignableTo" ReflectliteType.assignableTo) func336 (by kernel_rfl) (by kernel_rfl) (by kernel_rfl) (by kernel_rfl);have hVE:= @run_callFunc_extern prog 113 _ (ReflectliteValue.method (ReflectliteValue.valueError "reflectlite.Value.Elem" 0) ReflectliteValue.elem) func113 (by kernel_rfl) (by kernel_rfl) (by kernel_rfl) (by kernel_rfl);have hSe:= @run_callFunc_extern prog 114 _ ReflectliteValue.set func114 (by kernel_rfl) (by kernel_rfl) (by kernel_rfl) (by kernel_rfl);have mA:=Tryz.methodAssignableTo;have mK:=Tryz.methodKind;have mE:=Tryz.methodElem;have mI:=Tryz.methodImplements;have vP:=Tryz.valueOfPF;have tP:=Tryz.typePF;have kP:=Tryz.kindPF;have kE:=Tryz.kindEF;have eP:=Tryz.elemPF;have iE:=Tryz.implementsEF;have nP:=Tryz.isNilPF ⟨w.heap.size,0,none⟩ t ((w.alloc (.cells #[.pointer (some t)] 96)).alloc (.cells #[.pointer (some ⟨6,96,none⟩),.pointer (some ⟨w.heap.size,0,none⟩),.int .u64 150] 141)) (by simp);have hlt:=Xz.lt hg0;have hg:w.cell? ⟨0,0,none⟩=some (.iface 206 (.agg #[.pointer (some ⟨6,33,none⟩)])):=hg0;have hg2:((w.alloc (.cells #[.pointer (some t)] 96)).alloc (.cells #[.pointer (some ⟨6,96,none⟩),.pointer (some ⟨w.heap.size,0,none⟩),.int .u64 150] 141)).cell? ⟨0,0,none⟩=some (.iface 206 (.agg #[.pointer (some ⟨6,33,none⟩)])):=by
  rw[World.cell?_alloc_lt _ _ ⟨0,0,none⟩ (by simp<;>omega),World.cell?_alloc_lt _ _ ⟨0,0,none⟩ hlt];exact hg
 have tO:=Tryz.typeOfEF;have aE:=Tryz.assignableEF;have vE:=Tryz.valueOfEF;have htl:t.block<w.heap.size:=by
  rcases Nat.lt_or_ge t.block w.heap.size with h|h
  ·exact h
  ·simp[World.cell?,Array.getElem?_eq_none h]at ht0
 have el:=Tryz.elemVF ⟨w.heap.size,0,none⟩ t (((w.alloc (.cells #[.pointer (some t)] 96)).alloc (.cells #[.pointer (some ⟨6,96,none⟩),.pointer (some ⟨w.heap.size,0,none⟩),.int .u64 150] 141)).alloc (.cells #[.pointer (some ⟨6,96,none⟩),.pointer (some ⟨w.heap.size,0,none⟩),.int .u64 150] 141)) (by rw[World.cell?_alloc_lt _ _ ⟨w.heap.size,0,none⟩ (by simp<;>omega)];simp);have st:=Tryz.setEF t ⟨w.heap.size+1+1+1,0,none⟩ c old ((((w.alloc (.cells #[.pointer (some t)] 96)).alloc (.cells #[.pointer (some ⟨6,96,none⟩),.pointer (some ⟨w.heap.size,0,none⟩),.int .u64 150] 141)).alloc (.cells #[.pointer (some ⟨6,96,none⟩),.pointer (some ⟨w.heap.size,0,none⟩),.int .u64 150] 141)).alloc (.cells #[.pointer (some c)] 95))
  (by rw[World.cell?_alloc_at _ _ _ _ (by simp)];rfl)
  (by rw[World.cell?_alloc_lt _ _ t (by simp<;>omega),World.cell?_alloc_lt _ _ t (by simp<;>omega),World.cell?_alloc_lt _ _ t (by simp<;>omega),World.cell?_alloc_lt _ _ t htl];exact ht0)
  (by rw[World.frozen?_alloc_old _ _ t (by simp<;>omega),World.frozen?_alloc_old _ _ t (by simp<;>omega),World.frozen?_alloc_old _ _ t (by simp<;>omega),World.frozen?_alloc_old _ _ t (Nat.ne_of_lt htl)];exact hf0)
 clear hg0;go_enter func39,ntmps39
 go_wp2
 refine wp_loop_rounds 1 ?_;rw[rounds_succ]
 go_wp2
 go_ret;exact⟨rfl,rfl⟩
theorem Tryz.noAsF(v:Value)(xT:TypeId)(w:World):(Instr.typeAssert (.iface 95 v) xT 211 true).run prog w=.ok (.tuple #[.nilIface,.bool false]) w:=run_typeAssert_lacksB Tryz.underlying211 (by kernel_rfl) (by kernel_rfl) v xT w
theorem Tryz.unwF(v:Value)(xT:TypeId)(w:World):(Instr.typeAssert (.iface 95 v) xT 214 true).run prog w=.ok (.tuple #[.iface 95 v,.bool true]) w:=run_typeAssert_hasB Tryz.underlying214 (by kernel_rfl) v xT w
theorem Tryz.methodUnwF(v:Addr)(w:World):(Go.method 510 95 (.pointer (some v)) "Unwrap").run prog w=.ok (331,.pointer (some v)) w:=by kernel_rfl
theorem Tryz.typeOfPF(v:Value)(w:World):(ReflectliteType.typeOf #[.iface 95 v]).run prog w=.ok (.iface 206 (.agg #[.pointer (some ⟨6,95,none⟩)])) w:=by kernel_rfl
theorem Tryz.typeOfErr(v:Value)(w:World):(ReflectliteType.typeOf #[.iface 36 v]).run prog w=.ok (.iface 206 (.agg #[.pointer (some ⟨6,36,none⟩)])) w:=by kernel_rfl
theorem Tryz.valueOfPC(t:Addr)(w:World):(ReflectliteValue.unpack (.iface 238 (.pointer (some t)))).run prog w
 =.ok (.agg #[.pointer (some ⟨6,238,none⟩),.pointer (some ⟨w.heap.size,0,none⟩),.int .u64 150]) (w.alloc (.cells #[.pointer (some t)] 238)):=by kernel_rfl
theorem Tryz.typePC(a:Addr)(w:World):(ReflectliteValue.methodAny (ReflectliteValue.valueError "reflectlite.Value.Type" 0) (fun t _ _ _=>ReflectliteType.toType t) #[.agg #[.pointer (some ⟨6,238,none⟩),.pointer (some a),.int .u64 150]]).run prog w
 =.ok (.iface 206 (.agg #[.pointer (some ⟨6,238,none⟩)])) w:=by kernel_rfl
theorem Tryz.kindPC(w:World):((ReflectliteType.abiMethod fun t=>(fun a:Nat=>Value.int IntKind.u8 (a:Int))<$>Rtype.kind t) #[.pointer (some ⟨6,238,none⟩)]).run prog w=.ok (.int .u8 22) w:=by kernel_rfl
theorem Tryz.partsPC(a:Addr)(w:World):(ReflectliteValue.parts (.agg #[.pointer (some ⟨6,238,none⟩),.pointer (some a),.int .u64 150])).run prog w=.ok (some (238,a,150)) w:=by kernel_rfl
theorem Tryz.isNilPC(a p:Addr)(W:World)(ha:W.cell? a=some (.pointer (some p))):
  (ReflectliteValue.method (ReflectliteValue.valueError "reflectlite.Value.IsNil" 0) ReflectliteValue.isNil #[.agg #[.pointer (some ⟨6,238,none⟩),.pointer (some a),.int .u64 150]]).run prog W=.ok (.bool false) W:=by
 rw[rlm];simp only[Sem.run_bind,Tryz.partsPC,Result.andThen];simp[ReflectliteValue.isNil,loadVar,isAgg,underlying,Tryz.underlying238,ha,Result.andThen]
theorem Tryz.elemPC(w:World):(ReflectliteType.method ReflectliteType.elem #[.agg #[.pointer (some ⟨6,238,none⟩)]]).run prog w=.ok (.iface 206 (.agg #[.pointer (some ⟨6,237,none⟩)])) w:=by kernel_rfl
theorem Tryz.kindEC(w:World):((ReflectliteType.abiMethod fun t=>(fun a:Nat=>Value.int IntKind.u8 (a:Int))<$>Rtype.kind t) #[.pointer (some ⟨6,237,none⟩)]).run prog w=.ok (.int .u8 22) w:=by kernel_rfl
theorem Tryz.implementsEC(w:World):(ReflectliteType.relation "Implements" ReflectliteType.implements_ #[.agg #[.pointer (some ⟨6,237,none⟩)],.iface 206 (.agg #[.pointer (some ⟨6,33,none⟩)])]).run prog w=.ok (.bool true) w:=by kernel_rfl
theorem Tryz.typeOfEC(v:Value)(w:World):(ReflectliteType.typeOf #[.iface 237 v]).run prog w=.ok (.iface 206 (.agg #[.pointer (some ⟨6,237,none⟩)])) w:=by kernel_rfl
theorem Tryz.assignableEC(w:World):(ReflectliteType.relation "AssignableTo" ReflectliteType.assignableTo #[.agg #[.pointer (some ⟨6,237,none⟩)],.iface 206 (.agg #[.pointer (some ⟨6,237,none⟩)])]).run prog w=.ok (.bool true) w:=by kernel_rfl
theorem Tryz.valueOfEC(c:Addr)(w:World):(ReflectliteValue.unpack (.iface 237 (.pointer (some c)))).run prog w
 =.ok (.agg #[.pointer (some ⟨6,237,none⟩),.pointer (some ⟨w.heap.size,0,none⟩),.int .u64 150]) (w.alloc (.cells #[.pointer (some c)] 237)):=by kernel_rfl
theorem Tryz.elemOfPC(w:World):(Rtype.elem? 238).run prog w=.ok (some 237) w:=by kernel_rfl
theorem Tryz.mkEC(p:Addr)(w:World):(ReflectliteValue.mk 237 p ReflectliteValue.flagAddr).run prog w=.ok (.agg #[.pointer (some ⟨6,237,none⟩),.pointer (some p),.int .u64 406]) w:=by kernel_rfl
theorem Tryz.elemVC(a p:Addr)(W:World)(ha:W.cell? a=some (.pointer (some p))):
  (ReflectliteValue.method (ReflectliteValue.valueError "reflectlite.Value.Elem" 0) ReflectliteValue.elem #[.agg #[.pointer (some ⟨6,238,none⟩),.pointer (some a),.int .u64 150]]).run prog W
    =.ok (.agg #[.pointer (some ⟨6,237,none⟩),.pointer (some p),.int .u64 406]) W:=by
 rw[rlm];simp only[Sem.run_bind,Tryz.partsPC,Result.andThen];simp[ReflectliteValue.elem,loadVar,isAgg,underlying,Tryz.underlying238,ha,Result.andThen,Tryz.elemOfPC,Tryz.mkEC]
theorem Tryz.partsEaC(a:Addr)(w:World):(ReflectliteValue.parts (.agg #[.pointer (some ⟨6,237,none⟩),.pointer (some a),.int .u64 406])).run prog w=.ok (some (237,a,406)) w:=by kernel_rfl
theorem Tryz.partsEC(a:Addr)(w:World):(ReflectliteValue.parts (.agg #[.pointer (some ⟨6,237,none⟩),.pointer (some a),.int .u64 150])).run prog w=.ok (some (237,a,150)) w:=by kernel_rfl
theorem Tryz.directEC(w:World):(Rtype.directlyAssignable 237 237).run prog w=.ok true w:=by kernel_rfl
theorem Tryz.setEC(ta b:Addr)(c:Addr)(old:Value)(W:World)(hb:W.cell? b=some (.pointer (some c)))(ht:W.cell? ta=some old)(hf:W.frozen? ta=false):
  (ReflectliteValue.set #[.agg #[.pointer (some ⟨6,237,none⟩),.pointer (some ta),.int .u64 406],.agg #[.pointer (some ⟨6,237,none⟩),.pointer (some b),.int .u64 150]]).run prog W
    =.ok (.tuple #[]) (W.setCell ta (.pointer (some c))):=by
 rw[rls];simp only[Sem.run_bind,Tryz.partsEaC,Tryz.partsEC,Result.andThen];simp[ReflectliteValue.flagAddr,loadVar,isAgg,underlying,Tryz.underlying237,hb,Result.andThen,Tryz.directEC,storeVar,Value.cells,storeCells,Addr.add];rw[run_store prog W ta _ _ (by rfl)];simp[ht,hf]
theorem z6I(c t:Addr)(old:Value)(w:World)(hg0:Xz w)(ht0:w.cell? t=some old)(hf0:w.frozen? t=false):
  Calls prog 39 #[.iface 237 (.pointer (some c)),.iface 238 (.pointer (some t))] w fun ev w'=>ev=.returned (.bool true)/\w'=((((w.alloc (.cells #[.pointer (some t)] 238)).alloc (.cells #[.pointer (some ⟨6,238,none⟩),.pointer (some ⟨w.heap.size,0,none⟩),.int .u64 150] 141)).alloc (.cells #[.pointer (some ⟨6,238,none⟩),.pointer (some ⟨w.heap.size,0,none⟩),.int .u64 150] 141)).alloc (.cells #[.pointer (some c)] 237)).setCell t (.pointer (some c)):=by
 have hVO:= @run_callFunc_extern prog 68 _ (fun args=>ReflectliteValue.unpack (args.getD 0 (.tuple #[]))) func68 (by kernel_rfl) (by kernel_rfl) (by kernel_rfl) (by kernel_rfl);have hTy:= @run_callFunc_extern prog 69 _ (ReflectliteValue.methodAny (ReflectliteValue.valueError "reflectlite.Value.Type" 0) (fun t _ _ _=>ReflectliteType.toType t)) func69 (by kernel_rfl) (by kernel_rfl) (by kernel_rfl) (by kernel_rfl);have hNi:= @run_callFunc_extern prog 70 _ (ReflectliteValue.method (ReflectliteValue.valueError "reflectlite.Value.IsNil" 0) ReflectliteValue.isNil) func70 (by kernel_rfl) (by kernel_rfl) (by kernel_rfl) (by kernel_rfl);have hKi:= @run_callFunc_extern prog 326 _ (ReflectliteType.abiMethod fun t=>do pure (.int .u8 (<-Rtype.kind t))) func326 (by kernel_rfl) (by kernel_rfl) (by kernel_rfl) (by kernel_rfl);have hEl:= @run_callFunc_extern prog 338 _ (ReflectliteType.method ReflectliteType.elem) func338 (by kernel_rfl) (by kernel_rfl) (by kernel_rfl) (by kernel_rfl);have hIm:= @run_callFunc_extern prog 339 _ (ReflectliteType.relation "Implements" ReflectliteType.implements_) func339 (by kernel_rfl) (by kernel_rfl) (by kernel_rfl) (by kernel_rfl);have hTO:= @run_callFunc_extern prog 112 _ ReflectliteType.typeOf func112 (by kernel_rfl) (by kernel_rfl) (by kernel_rfl) (by kernel_rfl);have hAs:= @run_callFunc_extern prog 336 _ (ReflectliteType.relation "AssignableTo" ReflectliteType.assignableTo) func336 (by kernel_rfl) (by kernel_rfl) (by kernel_rfl) (by kernel_rfl);have hVE:= @run_callFunc_extern prog 113 _ (ReflectliteValue.method (ReflectliteValue.valueError "reflectlite.Value.Elem" 0) ReflectliteValue.elem) func113 (by kernel_rfl) (by kernel_rfl) (by kernel_rfl) (by kernel_rfl);have hSe:= @run_callFunc_extern prog 114 _ ReflectliteValue.set func114 (by kernel_rfl) (by kernel_rfl) (by kernel_rfl) (by kernel_rfl);have mA:=Tryz.methodAssignableTo;have mK:=Tryz.methodKind;have mE:=Tryz.methodElem;have mI:=Tryz.methodImplements;have vP:=Tryz.valueOfPC;have tP:=Tryz.typePC;have kP:=Tryz.kindPC;have kE:=Tryz.kindEC;have eP:=Tryz.elemPC;have iE:=Tryz.implementsEC;have nP:=Tryz.isNilPC ⟨w.heap.size,0,none⟩ t ((w.alloc (.cells #[.pointer (some t)] 238)).alloc (.cells #[.pointer (some ⟨6,238,none⟩),.pointer (some ⟨w.heap.size,0,none⟩),.int .u64 150] 141)) (by simp);have hlt:=Xz.lt hg0;have hg:w.cell? ⟨0,0,none⟩=some (.iface 206 (.agg #[.pointer (some ⟨6,33,none⟩)])):=hg0;have hg2:((w.alloc (.cells #[.pointer (some t)] 238)).alloc (.cells #[.pointer (some ⟨6,238,none⟩),.pointer (some ⟨w.heap.size,0,none⟩),.int .u64 150] 141)).cell? ⟨0,0,none⟩=some (.iface 206 (.agg #[.pointer (some ⟨6,33,none⟩)])):=by
  rw[World.cell?_alloc_lt _ _ ⟨0,0,none⟩ (by simp<;>omega),World.cell?_alloc_lt _ _ ⟨0,0,none⟩ hlt];exact hg
 have tO:=Tryz.typeOfEC;have aE:=Tryz.assignableEC;have vE:=Tryz.valueOfEC;have htl:t.block<w.heap.size:=by
  rcases Nat.lt_or_ge t.block w.heap.size with h|h
  ·exact h
  ·simp[World.cell?,Array.getElem?_eq_none h]at ht0
 have el:=Tryz.elemVC ⟨w.heap.size,0,none⟩ t (((w.alloc (.cells #[.pointer (some t)] 238)).alloc (.cells #[.pointer (some ⟨6,238,none⟩),.pointer (some ⟨w.heap.size,0,none⟩),.int .u64 150] 141)).alloc (.cells #[.pointer (some ⟨6,238,none⟩),.pointer (some ⟨w.heap.size,0,none⟩),.int .u64 150] 141)) (by rw[World.cell?_alloc_lt _ _ ⟨w.heap.size,0,none⟩ (by simp<;>omega)];simp);have st:=Tryz.setEC t ⟨w.heap.size+1+1+1,0,none⟩ c old ((((w.alloc (.cells #[.pointer (some t)] 238)).alloc (.cells #[.pointer (some ⟨6,238,none⟩),.pointer (some ⟨w.heap.size,0,none⟩),.int .u64 150] 141)).alloc (.cells #[.pointer (some ⟨6,238,none⟩),.pointer (some ⟨w.heap.size,0,none⟩),.int .u64 150] 141)).alloc (.cells #[.pointer (some c)] 237))
  (by rw[World.cell?_alloc_at _ _ _ _ (by simp)];rfl)
  (by rw[World.cell?_alloc_lt _ _ t (by simp<;>omega),World.cell?_alloc_lt _ _ t (by simp<;>omega),World.cell?_alloc_lt _ _ t (by simp<;>omega),World.cell?_alloc_lt _ _ t htl];exact ht0)
  (by rw[World.frozen?_alloc_old _ _ t (by simp<;>omega),World.frozen?_alloc_old _ _ t (by simp<;>omega),World.frozen?_alloc_old _ _ t (by simp<;>omega),World.frozen?_alloc_old _ _ t (Nat.ne_of_lt htl)];exact hf0)
 clear hg0;go_enter func39,ntmps39
 go_wp2
 refine wp_loop_rounds 1 ?_;rw[rounds_succ]
 go_wp2
 go_ret;exact⟨rfl,rfl⟩
end Go.Proofs.YtlogolpcipiceaaGreatDoor
