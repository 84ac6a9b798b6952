/- Lemmas for the last text. Conditions: those that each names. -/
import Derived.Test.YtgnkkgcgbeianaaGreatDoorVX5ToX9
import Derived.Test.YtgnkkgcgbeianaaGreatDoorVKPlainToX1
import Derived.LaidEql
import Derived.Stop.Asserts
import Derived.RowKitTokens
import Derived.BigQuiet
set_option linter.unusedVariables false
set_option maxRecDepth 100000
set_option maxHeartbeats 4000000
namespace Go.Proofs.YtgnkkgcgbeianaaGreatDoor
open Go.Proofs.Tryz
open Go.RowKit
variable {R b base k n p ru x:Nat} {S:ByteArray} {w w':World} {v:Value} {P:Nat->Prop} {c:List Value}
def arB(S:ByteArray)(p:Nat):Bool:=bt S p == some 60&&bt S (p+1) == some 45
theorem z1G{b:UInt8}(r:b.toNat=x)(t:k<256):(UInt8.ofNat k == b)=(x == k):=by
 by_cases h:x=k
 ·have o:UInt8.ofNat k=b:=by apply UInt8.toNat.inj;rw[r,h,UInt8.toNat_ofNat'];omega
  rw[o,h];simp
 ·have o:UInt8.ofNat k≠b:=fun e=>h (by rw[<-r,<-e,UInt8.toNat_ofNat'];omega)
  rw[beq_eq_false_iff_ne.2 o,beq_eq_false_iff_ne.2 h]
theorem z9c(h:bt S p=some x):Lib.hasPrefix (S.data.toList.drop p) [60,45]=arB S p:=by
 obtain⟨b,hd,o⟩:=Pv h;unfold Lib.hasPrefix arB;rw[hd,h,List.isPrefixOf];have r:((60:UInt8) == b)=(x == 60):=z1G o (by decide);rw[r];congr 1;cases hb:bt S (p+1)with
 |none=>
  have:=Xw hb;rw[List.drop_eq_nil_of_le (by rw[Array.length_toList];exact this)];rfl
 |some y=>
  obtain⟨t,A,D⟩:=Pv hb;rw[A,List.isPrefixOf];have E:((45:UInt8) == t)=(y == 45):=z1G D (by decide);rw[E,List.isPrefixOf];simp
theorem z1H(h:bt S p=some x)(w:World):Calls prog 94 #[.string (S.extract p S.size),.string {data:=#[60,45]}] w fun e w'=>e=.returned (.bool (arB S p))/\w'=w:=by
 have o:=z1F (S.extract p S.size) {data:=#[60,45]} w;rw[z1E S p (by have:=(Qp h).1;omega),show({data:=#[60,45]}:ByteArray).data.toList=[60,45]from rfl,z9c h]at o;exact o
theorem z9d(w:World)(b:Nat)(h:b<256):(convert 185 9 (.slice (some ⟨w.heap.size,0,none⟩) 1 1)).run prog (w.alloc (.cells #[.int .u8 b] 5))=.ok (.string (nb [b])) (w.alloc (.cells #[.int .u8 b] 5)):=
 Cy (base:=w.heap.size) (l:=[b]) ⟨rfl,.inr ⟨w.heap.size,1,#[.int .u8 b],rfl,Nat.le_refl _,Qx _ _ rfl,Nat.le_refl _,by unfold maxLen;omega,rfl,rfl⟩⟩ (fun x hx=>by simp at hx;omega)
theorem z9e(S:ByteArray)(p x:Nat)(w:World)(o:bt S p=some x)(ha:arB S p=true)(hx:x=60)(hS:S.size<=9007199254740992):
  Calls prog 57 #[.string S,.int .i64 p] w fun e w'=>(fun w e w'=>e=.returned (tk7 2 {data:=#[]} 0 0 0 0 (p:Int) ((p:Int)+2) .nilIface)/\Below w.heap.size w w') w e w':=by
 have U:=(Qp o).2;obtain⟨hp,aa⟩:=Xv o;have ab:(p:Int)<(S.size:Int):=by omega
 have ac:(p:Int)<=(S.size:Int):=by omega
 have V:Hid (∀w:World,Calls prog 90 #[.int .u8 x] w fun e w'=>e=.returned (.bool false)/\w'=w):=fun w=>Fk x false (by rw[hx];rfl) w U
 obtain⟨W,h⟩:∃W,W=w.alloc (.cells #[.int .i64 0,.string ⟨#[]⟩,.int .u64 0,.int .u64 0,.int .u64 0,.int .u64 0,.int .i64 0] 139):=⟨_,rfl⟩;have HW:Hid (W=w.alloc (.cells #[.int .i64 0,.string ⟨#[]⟩,.int .u64 0,.int .u64 0,.int .u64 0,.int .u64 0,.int .i64 0] 139)):=h;have Y:Hid (Below w.heap.size w W):=by show Below _ _ _;rw[h];exact B0q.alloc L0q _
 have r:Hid (Tk W w.heap.size 0 {data:=#[]} 0 0 0 0 0):=by show Tk _ _ _ _ _ _ _ _ _;rw[h];exact Tk.new w 0 {data:=#[]} 0 0 0 0 0
 have Z:Hid (∀w:World,Calls prog 94 #[.string (S.extract p S.size),.string {data:=#[60,45]}] w fun e w'=>e=.returned (.bool true)/\w'=w):=fun w=>ha▸z1H o w
 clear o ha;subst hx;go_enter func57,ntmps57
 go_wp2_with fail
 rw[<-h];clear h;refine(V.out _).mono ?_;rintro e w0 ⟨rfl,rfl⟩
 go_wp2_with fail
 refine(Z.out _).mono ?_;rintro e w1 ⟨rfl,rfl⟩;obtain⟨c0,c1,c2,c3,c4,c5,c6⟩:=r.out.cells;obtain⟨f0,f1,f2,f3,f4,f5,f6⟩:=r.out.thaw
 go_wp2_with fail
 obtain⟨t,y,A,D,E,G,I⟩:=(r.out.st7 2 {data:=#[]} 0 0 0 0 (p:Int)).cells;unfold st7 at t y A D E G I
 (try simp only[Exit.inBlock,Exit.then])
 refine bodyPost_ret (v:=tk7 2 {data:=#[]} 0 0 0 0 (p:Int) ((p:Int)+2) .nilIface) (by simp[results,Tryz.results57,go_sem,t,y,A,D,E,G,I]) rfl ?_;exact⟨rfl,Below.st7 Y.out L0q _ _ _ _ _ _ _⟩
theorem z9f(S:ByteArray)(p x:Nat)(w:World)(o:bt S p=some x)(hl:Zw x=false)(hq:x≠39/\x≠34/\x≠91)(ha:arB S p=false)(D:mkB x=true)(hS:S.size<=9007199254740992):
  Calls prog 57 #[.string S,.int .i64 p] w fun e w'=>(fun w e w'=>e=.returned (tk7 5 (nb [x]) 0 0 0 0 (p:Int) ((p:Int)+1) .nilIface)/\Below w.heap.size w w') w e w':=by
 have t:=(Qp o).2;obtain⟨hp,ae⟩:=Xv o;have af:(p:Int)<(S.size:Int):=by omega
 have ag:(p:Int)<=(S.size:Int):=by omega
 have aa:Hid (∀w:World,Calls prog 90 #[.int .u8 x] w fun e w'=>e=.returned (.bool false)/\w'=w):=fun w=>Fk x false hl w t
 obtain⟨W,h⟩:∃W,W=w.alloc (.cells #[.int .i64 0,.string ⟨#[]⟩,.int .u64 0,.int .u64 0,.int .u64 0,.int .u64 0,.int .i64 0] 139):=⟨_,rfl⟩;have HW:Hid (W=w.alloc (.cells #[.int .i64 0,.string ⟨#[]⟩,.int .u64 0,.int .u64 0,.int .u64 0,.int .u64 0,.int .i64 0] 139)):=h;have E:Hid (Below w.heap.size w W):=by show Below _ _ _;rw[h];exact B0q.alloc L0q _
 have ab:Hid (Tk W w.heap.size 0 {data:=#[]} 0 0 0 0 0):=by show Tk _ _ _ _ _ _ _ _ _;rw[h];exact Tk.new w 0 {data:=#[]} 0 0 0 0 0
 have HA:Hid (∀w:World,Calls prog 94 #[.string (S.extract p S.size),.string {data:=#[60,45]}] w fun e w'=>e=.returned (.bool false)/\w'=w):=fun w=>ha▸z1H o w
 have b1:((x:Int) == 39)=false:=by simp;omega
 have b2:((x:Int) == 34)=false:=by simp;omega
 have b3:((x:Int) == 91)=false:=by simp;omega
 obtain⟨i,y⟩:∃i:Int,i=Lib.indexByte [47,38,33,63,42,43,40,41,46] x.toUInt8:=⟨_,rfl⟩;have HI:Hid (∀w:World,Calls prog 95 #[.string {data:=#[47,38,33,63,42,43,40,41,46]},.int .u8 x] w fun e w'=>e=.returned (.int .i64 i)/\w'=w):=fun w=>by rw[y];exact Oh {data:=#[47,38,33,63,42,43,40,41,46]} x w
 have ac:decide (0<=i)=true:=by rw[y,z8H x t,D]
 have ah:0<=i:=by simpa using ac
 have ad:=fun w=>z9d w x t
 obtain⟨r,G⟩:∃r,r=nb [x]:=⟨_,rfl⟩;rw[<-G]at ad ⊢;clear o hl hq ha D y G;go_enter func57,ntmps57
 go_wp2_with fail
 rw[<-h];clear h;refine(aa.out _).mono ?_;rintro e w0 ⟨rfl,rfl⟩
 go_wp2_with fail
 refine(HA.out _).mono ?_;rintro e w1 ⟨rfl,rfl⟩
 go_wp2_with fail
 refine(HI.out _).mono ?_;rintro e w2 ⟨rfl,rfl⟩;have A:Hid (Tk (w2.alloc (.cells #[.int .u8 x] 5)) w.heap.size 0 {data:=#[]} 0 0 0 0 0):=ab.out.alloc _;obtain⟨c0,c1,c2,c3,c4,c5,c6⟩:=A.out.cells;obtain⟨f0,f1,f2,f3,f4,f5,f6⟩:=A.out.thaw
 go_wp2_with fail
 obtain⟨I,U,V,Y,Z,r5,r6⟩:=(A.out.st7 5 r 0 0 0 0 (p:Int)).cells;unfold st7 at I U V Y Z r5 r6
 (try simp only[Exit.inBlock,Exit.then])
 refine bodyPost_ret (v:=tk7 5 r 0 0 0 0 (p:Int) ((p:Int)+1) .nilIface) (by simp[results,Tryz.results57,go_sem,I,U,V,Y,Z,r5,r6]) rfl ?_;exact⟨rfl,Below.st7 (E.out.alloc E.out.size _) L0q _ _ _ _ _ _ _⟩
open Go.Extern.Stop Go.Stop Go.Extern
theorem Tryz.methodKind(h:Value)(w:World):(Go.method 493 168 (.agg #[h]) "Kind").run prog w=.ok (329,h) w:=by kernel_rfl
theorem Tryz.methodElem(h:Value)(w:World):(Go.method 493 168 (.agg #[h]) "Elem").run prog w=.ok (341,.agg #[h]) w:=by kernel_rfl
theorem Tryz.methodImplements(h:Value)(w:World):(Go.method 493 168 (.agg #[h]) "Implements").run prog w=.ok (342,.agg #[h]) w:=by kernel_rfl
theorem Tryz.methodAssignableTo(h:Value)(w:World):(Go.method 493 168 (.agg #[h]) "AssignableTo").run prog w=.ok (339,.agg #[h]) w:=by kernel_rfl
theorem rlm(z:Sem Value)(f:TypeId->Addr->Nat->Nat->Sem Value)(v:Value):
 ReflectliteValue.method z f #[v]=(do match<-ReflectliteValue.parts v with|none=>z|some (t,a,fl)=>f t a fl (fl%32)):=rfl
theorem rls(v x:Value):ReflectliteValue.set #[v,x]=(do
 let(some (dst,a,fl),some (src,b,_)):=(<-ReflectliteValue.parts v,<-ReflectliteValue.parts x)
  |unsupported (.noEntry "extern/(internal/reflectlite.Value).Set.zeroValue")
 if fl/ReflectliteValue.flagAddr%2 == 0 then unsupported (.noEntry "extern/(internal/reflectlite.Value).Set.unaddressable")
 let h<-loadVar src b
 if<-Rtype.directlyAssignable dst src then storeVar dst a h
 else if<-Rtype.implements dst src then
  if(<-Rtype.kind src) == 20 then
   match h with
   | .nilIface=>unsupported (.noEntry "extern/reflectlite: a nil value of one interface type handed on as a value of another")
   |_=>storeVar dst a h
  else storeVar dst a (.iface src h)
 else panicString ("reflectlite.Set: value of type "++(<-Rtype.spelt src)++" is not assignable to type "++(<-Rtype.spelt dst))
 pure (.tuple #[])):=rfl
def Yg(w:World):Prop:=w.cell? ⟨0,0,none⟩=some (.iface 168 (.agg #[.pointer (some ⟨6,30,none⟩)]))
theorem Yg.lt(h:Yg w):0<w.heap.size:=by
 unfold Yg at h;rcases Nat.lt_or_ge 0 w.heap.size with o|o
 ·exact o
 ·simp[World.cell?,Array.getElem?_eq_none o]at h
theorem Yg.below{B:Nat}(h:Yg w)(o:Below B w w')(r:0<B):Yg w':=(o.cell (p:=⟨0,0,none⟩) r).trans h
theorem Tryz.valueOfPE(t:Addr)(w:World):(ReflectliteValue.unpack (.iface 73 (.pointer (some t)))).run prog w
 =.ok (.agg #[.pointer (some ⟨6,73,none⟩),.pointer (some ⟨w.heap.size,0,none⟩),.int .u64 150]) (w.alloc (.cells #[.pointer (some t)] 73)):=by kernel_rfl
theorem Tryz.typePE(a:Addr)(w:World):(ReflectliteValue.methodAny (ReflectliteValue.valueError "reflectlite.Value.Type" 0) (fun t _ _ _=>ReflectliteType.toType t) #[.agg #[.pointer (some ⟨6,73,none⟩),.pointer (some a),.int .u64 150]]).run prog w
 =.ok (.iface 168 (.agg #[.pointer (some ⟨6,73,none⟩)])) w:=by kernel_rfl
theorem Tryz.kindPE(w:World):((ReflectliteType.abiMethod fun t=>(fun a:Nat=>Value.int IntKind.u8 (a:Int))<$>Rtype.kind t) #[.pointer (some ⟨6,73,none⟩)]).run prog w=.ok (.int .u8 22) w:=by kernel_rfl
theorem Tryz.partsPE(a:Addr)(w:World):(ReflectliteValue.parts (.agg #[.pointer (some ⟨6,73,none⟩),.pointer (some a),.int .u64 150])).run prog w=.ok (some (73,a,150)) w:=by kernel_rfl
theorem Tryz.isNilPE(a p:Addr)(W:World)(ha:W.cell? a=some (.pointer (some p))):
  (ReflectliteValue.method (ReflectliteValue.valueError "reflectlite.Value.IsNil" 0) ReflectliteValue.isNil #[.agg #[.pointer (some ⟨6,73,none⟩),.pointer (some a),.int .u64 150]]).run prog W=.ok (.bool false) W:=by
 rw[rlm];simp only[Sem.run_bind,Tryz.partsPE,Result.andThen];simp[ReflectliteValue.isNil,loadVar,isAgg,underlying,Tryz.underlying73,ha,Result.andThen]
theorem Tryz.elemPE(w:World):(ReflectliteType.method ReflectliteType.elem #[.agg #[.pointer (some ⟨6,73,none⟩)]]).run prog w=.ok (.iface 168 (.agg #[.pointer (some ⟨6,36,none⟩)])) w:=by kernel_rfl
theorem Tryz.kindEE(w:World):((ReflectliteType.abiMethod fun t=>(fun a:Nat=>Value.int IntKind.u8 (a:Int))<$>Rtype.kind t) #[.pointer (some ⟨6,36,none⟩)]).run prog w=.ok (.int .u8 2) w:=by kernel_rfl
theorem Tryz.implementsEE(w:World):(ReflectliteType.relation "Implements" ReflectliteType.implements_ #[.agg #[.pointer (some ⟨6,36,none⟩)],.iface 168 (.agg #[.pointer (some ⟨6,30,none⟩)])]).run prog w=.ok (.bool true) w:=by kernel_rfl
theorem Tryz.typeOfEE(v:Value)(w:World):(ReflectliteType.typeOf #[.iface 36 v]).run prog w=.ok (.iface 168 (.agg #[.pointer (some ⟨6,36,none⟩)])) w:=by kernel_rfl
theorem Tryz.assignableEE(w:World):(ReflectliteType.relation "AssignableTo" ReflectliteType.assignableTo #[.agg #[.pointer (some ⟨6,36,none⟩)],.iface 168 (.agg #[.pointer (some ⟨6,36,none⟩)])]).run prog w=.ok (.bool true) w:=by kernel_rfl
theorem Tryz.valueOfEE(c:Int)(w:World):(ReflectliteValue.unpack (.iface 36 (.int .i64 c))).run prog w
 =.ok (.agg #[.pointer (some ⟨6,36,none⟩),.pointer (some ⟨w.heap.size,0,none⟩),.int .u64 130]) (w.alloc (.cells #[.int .i64 c] 36)):=by kernel_rfl
theorem Tryz.elemOfPE(w:World):(Rtype.elem? 73).run prog w=.ok (some 36) w:=by kernel_rfl
theorem Tryz.mkEE(p:Addr)(w:World):(ReflectliteValue.mk 36 p ReflectliteValue.flagAddr).run prog w=.ok (.agg #[.pointer (some ⟨6,36,none⟩),.pointer (some p),.int .u64 386]) w:=by kernel_rfl
theorem Tryz.elemVE(a p:Addr)(W:World)(ha:W.cell? a=some (.pointer (some p))):
  (ReflectliteValue.method (ReflectliteValue.valueError "reflectlite.Value.Elem" 0) ReflectliteValue.elem #[.agg #[.pointer (some ⟨6,73,none⟩),.pointer (some a),.int .u64 150]]).run prog W
    =.ok (.agg #[.pointer (some ⟨6,36,none⟩),.pointer (some p),.int .u64 386]) W:=by
 rw[rlm];simp only[Sem.run_bind,Tryz.partsPE,Result.andThen];simp[ReflectliteValue.elem,loadVar,isAgg,underlying,Tryz.underlying73,ha,Result.andThen,Tryz.elemOfPE,Tryz.mkEE]
theorem Tryz.partsEaE(a:Addr)(w:World):(ReflectliteValue.parts (.agg #[.pointer (some ⟨6,36,none⟩),.pointer (some a),.int .u64 386])).run prog w=.ok (some (36,a,386)) w:=by kernel_rfl
theorem Tryz.partsEE(a:Addr)(w:World):(ReflectliteValue.parts (.agg #[.pointer (some ⟨6,36,none⟩),.pointer (some a),.int .u64 130])).run prog w=.ok (some (36,a,130)) w:=by kernel_rfl
theorem Tryz.directEE(w:World):(Rtype.directlyAssignable 36 36).run prog w=.ok true w:=by kernel_rfl
theorem Tryz.setEE(h b:Addr)(c:Int)(old:Value)(W:World)(o:W.cell? b=some (.int .i64 c))(r:W.cell? h=some old)(t:W.frozen? h=false):
  (ReflectliteValue.set #[.agg #[.pointer (some ⟨6,36,none⟩),.pointer (some h),.int .u64 386],.agg #[.pointer (some ⟨6,36,none⟩),.pointer (some b),.int .u64 130]]).run prog W
    =.ok (.tuple #[]) (W.setCell h (.int .i64 c)):=by
 rw[rls];simp only[Sem.run_bind,Tryz.partsEaE,Tryz.partsEE,Result.andThen];simp[ReflectliteValue.flagAddr,loadVar,isAgg,underlying,Tryz.underlying36,o,Result.andThen,Tryz.directEE,storeVar,Value.cells,storeCells,Addr.add];rw[run_store prog W h _ _ (by rfl)];simp[r,t]
theorem z9g{o:World}(h:o.heap[b]? =w.heap[b]?):o.cell? ⟨b,k,none⟩=w.cell? ⟨b,k,none⟩:=by simp[World.cell?,h]
abbrev Tok:=Nat×ByteArray×Nat×Nat
@[reducible] def tkv (t:Tok):Value:=.agg #[.int .i64 (t.1:Int),.string t.2.1,.int .u64 (wd t.2.2.1 0:Nat),.int .u64 (wd t.2.2.1 1:Nat),.int .u64 (wd t.2.2.1 2:Nat),.int .u64 (wd t.2.2.1 3:Nat),.int .i64 (t.2.2.2:Int)]
def Yh(S:ByteArray)(p x:Nat):(Bool×(Nat×Nat)) ⊕ (Tok×Nat):=
 if Zw x then(if 32<ne S p-p then .inl (false,(2,p))else .inr ((1,S.extract p (ne S p),0,p),ne S p))
 else if x=39∨x=34 then(match ll S x p (p+1) []with
  | .inl c=>.inl (false,c)
  | .inr (l,n)=>.inr ((3,nb l,0,p),n))
 else if x=91 then(match Fx (S.extract p S.size)with
  | .inl c=>.inl (true,c)
  | .inr (C,n)=>.inr ((4,{data:=#[]},C,p),p+n))
 else if arB S p then .inr ((2,{data:=#[]},0,p),p+2)
 else if mkB x then .inr ((5,nb [x],0,p),p+1)
 else .inl (false,(4,p))
theorem Cl(S:ByteArray)(q p:Nat):∀(f k:Nat) (acc l:List Nat) (n:Nat),llit S q p f k acc=.inr (l,n)->(∀x∈acc,x<256)->acc.length<=255->k<n/\n<=S.size/\(∀x∈l,x<256)/\l.length<=255/\l.length+k<=acc.length+n
 |0,k,acc,l,n,h,_,_=>by rw[llit]at h;cases h
 |f+1,k,acc,l,n,h,ha,hl=>by
  rw[llit]at h;split at h
  ·rename_i o
   simp only[Sum.inr.injEq,Prod.mk.injEq]at h;have:=(Qp o).1;obtain⟨rfl,rfl⟩:=h;exact⟨by omega,by omega,ha,hl,by omega⟩
  ·split at h
   ·cases h
   ·rename_i b m r
    have t:=Kf r;split at h
    ·cases h
    ·have:=Cl S q p f m (acc++[b]) l n h (fun x hx=>by
      rcases List.mem_append.1 hx with h|h
      ·exact ha x h
      ·simp at h;omega) (by simp;omega)
     simp at this;exact⟨by omega,this.2.1,this.2.2.1,this.2.2.2.1,by omega⟩
theorem z1I{q:Nat}{l:List Nat}(h:ll S q p k []=.inr (l,n)):k<n/\n<=S.size/\(∀x∈l,x<256)/\l.length<=255/\l.length+k<=n:=by
 have:=Cl S q p _ k [] l n h (fun x hx=>by simp at hx) (by simp);simpa using this
theorem z9h(S:ByteArray)(p:Nat)(h:p<=S.size):(S.extract p S.size).size=S.size-p:=by simp[ByteArray.size_extract]
theorem z9i(h:arB S p=true):p+1<S.size:=by
 unfold arB at h;simp at h;exact(Qp h.2).1
theorem Kd{t:Tok}(r:bt S p=some x)(h:Yh S p x=.inr (t,n)):
  p<n/\n<=S.size/\t.2.2.1<2^256/\t.2.2.2=p/\1<=t.1/\t.1<=5/\t.2.1.size<=S.size:=by
 have D:=(Qp r).1;unfold Yh at h;split at h
 ·rename_i hl
  split at h
  ·cases h
  ·simp only[Sum.inr.injEq,Prod.mk.injEq]at h
   obtain⟨rfl,rfl⟩:=h;have y:ne S p=ne S (p+1):=by rw[Dh r,hl];simp
   have A:=Ch (S:=S) (k:=p+1) (by omega);refine⟨by omega,by omega,show(0:Nat)<2^256 by decide,rfl,show 1<=(1:Nat) by decide,show(1:Nat)<=5 by decide,?_⟩;show(S.extract p (ne S p)).size<=_;simp[ByteArray.size_extract];omega
 ·split at h
  ·split at h
   ·cases h
   ·rename_i l m o
    simp only[Sum.inr.injEq,Prod.mk.injEq]at h;obtain⟨rfl,rfl⟩:=h;have:=z1I o;refine⟨by omega,by omega,show(0:Nat)<2^256 by decide,rfl,show 1<=(3:Nat) by decide,show(3:Nat)<=5 by decide,?_⟩;show(nb l).size<=_;rw[Vz];omega
  ·split at h
   ·split at h
    ·cases h
    ·rename_i C m o
     simp only[Sum.inr.injEq,Prod.mk.injEq]at h;obtain⟨rfl,rfl⟩:=h;have y:=z8C o;have A:=z9h S p (by omega);refine⟨by omega,by omega,y.1,rfl,show 1<=(4:Nat) by decide,show(4:Nat)<=5 by decide,Nat.zero_le _⟩
   ·split at h
    ·rename_i ha
     simp only[Sum.inr.injEq,Prod.mk.injEq]at h;obtain⟨rfl,rfl⟩:=h;have:p+1<S.size:=z9i ha;exact⟨by omega,by omega,show(0:Nat)<2^256 by decide,rfl,show 1<=(2:Nat) by decide,show(2:Nat)<=5 by decide,Nat.zero_le _⟩
    ·split at h
     ·simp only[Sum.inr.injEq,Prod.mk.injEq]at h
      obtain⟨rfl,rfl⟩:=h;exact⟨by omega,by omega,show(0:Nat)<2^256 by decide,rfl,show 1<=(5:Nat) by decide,show(5:Nat)<=5 by decide,by show(nb [x]).size<=_;rw[Vz];simp;omega⟩
     ·cases h
def wrg(p:Nat)(b:Bool×(Nat×Nat)):Nat×Nat:=if b.1 then(b.2.1,p+b.2.2)else b.2
abbrev Tr:=(Nat×Nat) ⊕ List Tok
def tkl(S:ByteArray):Nat->Nat->List Tok->Tr
 |0,_,acc=>.inr acc
 |f+1,k,acc=>match bt S k with
  |none=>.inr acc
  |some x=>match Yh S k x with
   | .inl b=>.inl (wrg k b)
   | .inr (t,n)=>tkl S f (sb S n) (acc++[t])
def tks(S:ByteArray)(k:Nat)(acc:List Tok):Tr:=tkl S (S.size-k) k acc
theorem Mk(h:n<=S.size):n<=sb S n/\sb S n<=S.size:=Pf S _ n L0q h
theorem z1J(S:ByteArray):∀(f g k:Nat) (acc:List Tok),S.size-k<=f->S.size-k<=g->tkl S f k acc=tkl S g k acc
 |0,0,_,_,_,_=>rfl
 |0,g+1,k,acc,hf,_=>by rw[tkl,tkl,Uf (by omega)]
 |f+1,0,k,acc,_,hg=>by rw[tkl,tkl,Uf (by omega)]
 |f+1,g+1,k,acc,hf,hg=>by
  rw[tkl,tkl];cases hb:bt S k with
  |none=>rfl
  |some x=>
   have o:=(Qp hb).1;simp only;cases ht:Yh S k x with
   |inl b=>rfl
   |inr r=>
    obtain⟨t,n⟩:=r;have h:=Kd hb ht;have y:=Mk (S:=S) (n:=n) h.2.1;exact z1J S f g (sb S n) _ (by omega) (by omega)
theorem z9j{acc:List Tok}(h:S.size<=k):tks S k acc=.inr acc:=by
 unfold tks;rw[show S.size-k=0 by omega,tkl]
theorem z9k{acc:List Tok}{b:Bool×(Nat×Nat)}(h:bt S k=some x)(o:Yh S k x=.inl b):tks S k acc=.inl (wrg k b):=by
 have r:=(Qp h).1;unfold tks;rw[show S.size-k=(S.size-k-1)+1 by omega,tkl,h];simp only[o]
theorem z9l{acc:List Tok}{t:Tok}(h:bt S k=some x)(o:Yh S k x=.inr (t,n)):tks S k acc=tks S (sb S n) (acc++[t]):=by
 have y:=(Qp h).1;have r:=Kd h o;have A:=Mk (S:=S) (n:=n) r.2.1;unfold tks;rw[show S.size-k=(S.size-k-1)+1 by omega,tkl,h];simp only[o];exact z1J S _ _ _ _ (by omega) (by omega)
def tkE(S:ByteArray)(r:Tr):Tr:=match r with
 | .inl c=>.inl c
 | .inr l=>.inr (l++[(6,{data:=#[]},0,S.size)])
def tkS(S:ByteArray):Tr:=tkE S (tks S (sb S 0) [])
def tvs:List Tok->List Value
 |[]=>[]
 |t::r=>.int .i64 (t.1:Int):: .string t.2.1:: .int .u64 (wd t.2.2.1 0:Nat):: .int .u64 (wd t.2.2.1 1:Nat):: .int .u64 (wd t.2.2.1 2:Nat):: .int .u64 (wd t.2.2.1 3:Nat):: .int .i64 (t.2.2.2:Int)::tvs r
theorem Mv:∀(a b:List Tok),tvs (a++b)=tvs a++tvs b
 |[],b=>rfl
 |p::t,b=>by simp only[List.cons_append,tvs,Mv t b]
theorem z1K:∀(a:List Tok),(tvs a).length=a.length*7
 |[]=>rfl
 |p::t=>by simp only[tvs,List.length_cons,z1K t];omega
def z9m(r:Tr)(w:World)(e:Ending)(w':World):Prop:=
 match r with
 | .inr l=>∃v,e=.returned (.tuple #[v,.nilIface])/\Hid (w'.ownsRow w.heap.size 139 7 v l.length (tvs l))/\Hid (Below w.heap.size w w')
 | .inl c=>∃q,e=.returned (.tuple #[.slice none 0 0,flv q])/\Hid (w.heap.size<=q/\Flt w' q c/\Below w.heap.size w w')
theorem Tryz.infoTok:(Tryz.prog.info? 139).map (fun i=>(i.zero,i.size,i.bytes))=some (some (.agg #[.int .i64 0,.string ⟨#[]⟩,.int .u64 0,.int .u64 0,.int .u64 0,.int .u64 0,.int .i64 0]),7,64):=by kernel_rfl
theorem z1L(w:World)(a b c d e f g:Value)(t:TypeId):∀j x,[a,b,c,d,e,f,g][j]? =some x->(w.alloc (.cells #[a,b,c,d,e,f,g] t)).cell? ((⟨w.heap.size,0,none⟩:Addr).add j)=some x:=by
 intro j x h
 match j,h with
 |0,h=>simp at h;subst h;simp[Addr.add]
 |1,h=>simp at h;subst h;simp[Addr.add]
 |2,h=>simp at h;subst h;simp[Addr.add]
 |3,h=>simp at h;subst h;simp[Addr.add]
 |4,h=>simp at h;subst h;simp[Addr.add]
 |5,h=>simp at h;subst h;simp[Addr.add]
 |6,h=>simp at h;subst h;simp[Addr.add]
theorem z1M(a:Int)(T:ByteArray)(c0 c1 c2 c3 p:Int):∀u∈[Value.int .i64 a,.string T,.int .u64 c0,.int .u64 c1,.int .u64 c2,.int .u64 c3,.int .i64 p],u.oneCell'=true:=by
 intro u h;simp at h;rcases h with rfl|rfl|rfl|rfl|rfl|rfl|rfl<;>rfl
def Lt(w:World)(v:Value)(l:List Tok)(w':World):Prop:=
 Hid (Below w.heap.size w w')/\Hid (w'.ownsRow w.heap.size 139 7 v l.length (tvs l))
theorem Lt.keep{W:World}{l:List Tok}(h:Lt w v l W)(o:Below W.heap.size W w'):Lt w v l w':=
 ⟨hid (h.1.out.trans (o.mono h.1.out.size)),hid (Yf h.2.out o)⟩
theorem Mw{e size:Nat}{xs:List Value}(h:w.ownsRow base e size v n xs):∃a c,v=.slice a n c:=by
 obtain⟨_,⟨o,r⟩|⟨g,t,cur,e,_⟩⟩:=h
 ·exact⟨none,0,by rw[o,r]⟩
 ·exact⟨_,t,e⟩
theorem z9n(a:List Tok)(t:Tok)(b:List Tok):∀j x,(tvs [t])[j]? =some x->(tvs (a++t::b))[a.length*7+j]? =some x:=by
 intro j x h;rw[show a++t::b=a++([t]++b) by simp,Mv,Mv];have:=z1K a;rw[List.getElem?_append_right (by omega),this,Nat.add_sub_cancel_left];have r:j<(tvs [t]).length:=by
  rcases Nat.lt_or_ge j (tvs [t]).length with o|o
  ·exact o
  ·rw[List.getElem?_eq_none o]at h;cases h
 rw[List.getElem?_append_left r];exact h
theorem z9o(L:List Tok)(k:Nat)(r:k<L.length):∀j x,(tvs [L[k]])[j]? =some x->(tvs L)[k*7+j]? =some x:=by
 have h:=z9n (L.take k) L[k] (L.drop (k+1));have hl:(L.take k).length=k:=by simp;omega
 have o:L.take k++L[k]::L.drop (k+1)=L:=by rw[List.getElem_cons_drop,List.take_append_drop]
 rw[o,hl]at h;exact h
def Cs(w:World)(g o:Nat)(t:Tok):Prop:=w.cell? ⟨g,o,none⟩=some (.int .i64 (t.1:Int))/\w.cell? ⟨g,o+1,none⟩=some (.string t.2.1)/\w.cell? ⟨g,o+2,none⟩=some (.int .u64 (wd t.2.2.1 0:Nat))/\w.cell? ⟨g,o+3,none⟩=some (.int .u64 (wd t.2.2.1 1:Nat))/\w.cell? ⟨g,o+4,none⟩=some (.int .u64 (wd t.2.2.1 2:Nat))/\w.cell? ⟨g,o+5,none⟩=some (.int .u64 (wd t.2.2.1 3:Nat))/\w.cell? ⟨g,o+6,none⟩=some (.int .i64 (t.2.2.2:Int))
theorem z1N{g o:Nat}{L:List Tok}(h:w.ownsRow base 139 7 (.slice (some ⟨g,0,none⟩) n o) n (tvs L))(k:Nat)(r:k<L.length)(t:n=L.length):Cs w g (k*7) L[k]:=by
 have ha:=z9o L k r;refine⟨?_,?_,?_,?_,?_,?_,?_⟩
 ·rw[h.cellAt _ (by omega)];exact ha 0 _ rfl
 ·rw[h.cellAt _ (by omega)];exact ha 1 _ rfl
 ·rw[h.cellAt _ (by omega)];exact ha 2 _ rfl
 ·rw[h.cellAt _ (by omega)];exact ha 3 _ rfl
 ·rw[h.cellAt _ (by omega)];exact ha 4 _ rfl
 ·rw[h.cellAt _ (by omega)];exact ha 5 _ rfl
 ·rw[h.cellAt _ (by omega)];exact ha 6 _ rfl
theorem z1O{e size g o:Nat}{xs:List Value}(h:w.ownsRow base e size (.slice (some ⟨g,0,none⟩) n o) n xs):o<=9223372036854775807:=by
 obtain⟨_,⟨r,_⟩|⟨y,A,cur,e,_,_,_,t,_⟩⟩:=h
 ·cases r
 ·cases e
  unfold maxLen at t;omega
def Rd(w:World)(R b:Nat)(v:Value)(L:List Tok)(k ru ne:Nat):Prop:=
 w.heap[R]? =some (.cells #[v,.int .i64 k,.int .i64 ru,.int .i64 ne] 144)/\w.ownsRow b 139 7 v L.length (tvs L)
theorem Rd.lt{L:List Tok}{ne:Nat}(h:Rd w R b v L k ru ne):R<w.heap.size:=by
 rcases Nat.lt_or_ge R w.heap.size with o|o
 ·exact o
 ·have:=h.1;rw[Array.getElem?_eq_none o]at this;cases this
theorem Rd.below{L:List Tok}{ne:Nat}(h:Rd w R b v L k ru ne)(o:Below w.heap.size w w'):Rd w' R b v L k ru ne:=
 ⟨(o.block R h.lt).trans h.1,Yf h.2 o⟩
theorem Rd.cells{L:List Tok}{ne:Nat}(h:Rd w R b v L k ru ne):
  w.cell? ⟨R,0,none⟩=some v/\w.cell? ⟨R,1,none⟩=some (.int .i64 k)/\w.cell? ⟨R,2,none⟩=some (.int .i64 ru)/\w.cell? ⟨R,3,none⟩=some (.int .i64 ne)/\
  w.frozen? ⟨R,0,none⟩=false/\w.frozen? ⟨R,1,none⟩=false/\w.frozen? ⟨R,2,none⟩=false/\w.frozen? ⟨R,3,none⟩=false:=by
 have o:=h.1;refine⟨?_,?_,?_,?_,?_,?_,?_,?_⟩<;>simp[World.cell?,World.frozen?,o]
theorem Rd.apart{L:List Tok}{ne:Nat}(h:Rd w R b v L k ru ne):v.ownBlock≠some R:=by
 obtain⟨r,_,⟨t,_⟩|⟨g,y,cur,rfl,_,o,_⟩⟩:=h
 ·rw[t];simp[Value.ownBlock]
 ·intro e
  simp[Value.ownBlock]at e;subst e;rw[r]at o;simp at o
theorem Rd.next{w:World}{R b:Nat}{v:Value}{L:List Tok}{k ru ne:Nat}(h:Rd w R b v L k ru ne)(k':Nat):Rd (w.setCell ⟨R,1,none⟩ (.int .i64 k')) R b v L k' ru ne:=by
 refine⟨?_,h.2.kept (row:=some R) ⟨rfl,rfl,rfl,by simp,fun i r o=>Below.heap_setCell _ _ _ _ (fun e=>o (by rw[e]))⟩ (.inr h.apart)⟩;simp only[World.setCell,Array.getElem?_modify,if_true];rw[h.1];simp
theorem Rd.rules{L:List Tok}{ne:Nat}(h:Rd w R b v L k ru ne)(ru':Nat):Rd (w.setCell ⟨R,2,none⟩ (.int .i64 ru')) R b v L k ru' ne:=by
 refine⟨?_,h.2.kept (row:=some R) ⟨rfl,rfl,rfl,by simp,fun i r o=>Below.heap_setCell _ _ _ _ (fun e=>o (by rw[e]))⟩ (.inr h.apart)⟩;simp only[World.setCell,Array.getElem?_modify,if_true];rw[h.1];simp
theorem Rd.nest{L:List Tok}{ne:Nat}(h:Rd w R b v L k ru ne)(ne':Nat):Rd (w.setCell ⟨R,3,none⟩ (.int .i64 ne')) R b v L k ru ne':=by
 refine⟨?_,h.2.kept (row:=some R) ⟨rfl,rfl,rfl,by simp,fun i r o=>Below.heap_setCell _ _ _ _ (fun e=>o (by rw[e]))⟩ (.inr h.apart)⟩;simp only[World.setCell,Array.getElem?_modify,if_true];rw[h.1];simp
theorem Tryz.fld0(a b c d e f g:Value)(w:World):(Instr.field 139 (.agg #[a,b,c,d,e,f,g]) 0).run prog w=.ok a w:=by kernel_rfl
theorem Tryz.fld1(a b c d e f g:Value)(w:World):(Instr.field 139 (.agg #[a,b,c,d,e,f,g]) 1).run prog w=.ok b w:=by kernel_rfl
theorem Tryz.fld3(a b c d e f g:Value)(w:World):(Instr.field 139 (.agg #[a,b,c,d,e,f,g]) 3).run prog w=.ok g w:=by kernel_rfl
theorem Gb(R b:Nat)(v:Value)(L:List Tok)(k ru ne:Nat)(w:World)(h:Rd w R b v L k ru ne)(o:k<L.length)(hl:L.length<=10000):
  Calls prog 98 #[.pointer (some ⟨R,0,none⟩)] w fun e w'=>e=.returned (tkv L[k])/\Below w.heap.size w w':=by
 obtain⟨g,A,rfl⟩:=Gx h.2 (by omega);have D:=z1O h.2;have z:=z1N h.2 k o rfl;obtain⟨t,r⟩:∃t,t=L[k]:=⟨_,rfl⟩;rw[<-r]at z ⊢;obtain⟨n,y⟩:∃n,n=L.length:=⟨_,rfl⟩;rw[<-y]at h o hl;have E:g<w.heap.size:=(h.2.lt g rfl).2;obtain⟨G,I,U,V,Y,Z,q2,q3⟩:=h.cells;have hR:=h.lt;clear h r;obtain⟨kd,T,C,p⟩:=t;obtain⟨p0,p1,p2,p3,p4,p5,p6⟩:=z;have aa:(k:Int)<(n:Int):=by omega
 clear y;go_enter func98,ntmps98
 go_wp2
 go_region
 go_wp2
 (try simp only[Exit.inBlock,Exit.then])
 refine bodyPost_ret (v:=tkv (kd,T,C,p)) (by simp[results,Tryz.results98,go_sem]) rfl ?_;exact⟨rfl,by first|exact(B0q.alloc L0q _).drew|exact B0q.drew.alloc L0q _|exact(B0q.alloc L0q _)⟩
def sgT(t:Tok):ByteArray:=if t.1=5 then t.2.1 else{data:=#[]}
theorem Ph(R b:Nat)(v:Value)(L:List Tok)(k ru ne:Nat)(w:World)(h:Rd w R b v L k ru ne)(I:k<L.length)(hl:L.length<=10000):
  Calls prog 180 #[.pointer (some ⟨R,0,none⟩)] w fun e w'=>e=.returned (.string (sgT L[k]))/\Below w.heap.size w w':=by
 have aa:=Tryz.fld0;have ab:=Tryz.fld1;have ac:=Tryz.fld3;have y:Hid (∀w:World,Rd w R b v L k ru ne->Calls prog 98 #[.pointer (some ⟨R,0,none⟩)] w fun e w'=>e=.returned (tkv L[k])/\Below w.heap.size w w'):=fun w h=>Gb R b v L k ru ne w h I hl
 have D:Hid (Rd w R b v L k ru ne):=h;obtain⟨t,E⟩:∃t,t=L[k]:=⟨_,rfl⟩;rw[<-E]at y ⊢;clear E h;obtain⟨kd,T,C,p⟩:=t;unfold sgT;simp only;by_cases h5:kd=5
 ·have U:((kd:Int) != 5)=false:=by simp;omega
  rw[if_pos h5];clear h5;go_enter func180,ntmps180
  go_wp2_with fail
  refine(y.out w D.out).mono ?_;rintro e r ⟨rfl,o⟩;have A:Hid (Below w.heap.size w r):=o;have V:Hid (Rd r R b v L k ru ne):=D.out.below o;clear o;dsimp only[tkv]
  go_wp2_with fail
  refine(y.out r V.out).mono ?_;rintro e Y ⟨rfl,G⟩;have Z:Hid (Below w.heap.size w Y):=A.out.trans (G.mono A.out.size);clear G;dsimp only[tkv]
  go_wp2_with fail
  go_ret;exact⟨rfl,Z.out⟩
 ·have U:((kd:Int) != 5)=true:=by rw[bne_iff_ne];omega
  rw[if_neg h5];clear h5;go_enter func180,ntmps180
  go_wp2_with fail
  refine(y.out w D.out).mono ?_;rintro e r ⟨rfl,o⟩;have A:Hid (Below w.heap.size w r):=o;clear o;dsimp only[tkv]
  go_wp2_with fail
  go_ret;exact⟨rfl,A.out⟩
theorem z1P(R b:Nat)(v:Value)(L:List Tok)(k ru ne c:Nat)(w:World)(h:Rd w R b v L k ru ne)(E:k<L.length)(hl:L.length<=10000):
  Calls prog 144 #[.pointer (some ⟨R,0,none⟩),.int .i64 c] w fun e w'=>∃f,e=.returned (.pointer (some ⟨f,0,none⟩))/\Hid (w.heap.size<=f/\Flt w' f (c,(L[k]).2.2.2)/\Below w.heap.size w w'):=by
 have G:=Tryz.fld0;have I:=Tryz.fld1;have U:=Tryz.fld3;have y:=hid (Gb R b v L k ru ne w h E hl);obtain⟨t,A⟩:∃t,t=L[k]:=⟨_,rfl⟩;rw[<-A]at y ⊢;clear A h;obtain⟨kd,T,C,p⟩:=t;go_enter func144,ntmps144
 go_wp2_with fail
 refine y.out.mono ?_;rintro e o ⟨rfl,D⟩;have r:Hid (Below w.heap.size w o):=D;clear D;dsimp only[tkv]
 go_wp2_with fail
 go_ret;exact⟨o.heap.size,rfl,r.out.size,Flt.new o (c,p),r.out.alloc r.out.size _⟩
def wrC(t:Tok):Nat:=if t.1=6 then 3 else 4
theorem z1Q(R b:Nat)(v:Value)(L:List Tok)(k ru ne:Nat)(w:World)(h:Rd w R b v L k ru ne)(V:k<L.length)(hl:L.length<=10000):
  Calls prog 143 #[.pointer (some ⟨R,0,none⟩)] w fun e w'=>∃f,e=.returned (.pointer (some ⟨f,0,none⟩))/\Hid (w.heap.size<=f/\Flt w' f (wrC L[k],(L[k]).2.2.2)/\Below w.heap.size w w'):=by
 have aa:=Tryz.fld0;have ab:=Tryz.fld1;have ac:=Tryz.fld3;have G:=hid (Gb R b v L k ru ne w h V hl);have E:Hid (∀(c:Nat) (w:World),Rd w R b v L k ru ne->Calls prog 144 #[.pointer (some ⟨R,0,none⟩),.int .i64 c] w fun e w'=>∃f,e=.returned (.pointer (some ⟨f,0,none⟩))/\Hid (w.heap.size<=f/\Flt w' f (c,(L[k]).2.2.2)/\Below w.heap.size w w')):=fun c w h=>z1P R b v L k ru ne c w h V hl
 have Y:Hid (Rd w R b v L k ru ne):=h;obtain⟨t,Z⟩:∃t,t=L[k]:=⟨_,rfl⟩;rw[<-Z]at G E ⊢;clear Z h;obtain⟨kd,T,C,p⟩:=t;unfold wrC;simp only at E ⊢;by_cases h6:kd=6
 ·have t6:((kd:Int) == 6)=true:=by simp;omega
  rw[if_pos h6];clear h6;go_enter func143,ntmps143
  go_wp2_with fail
  refine G.out.mono ?_;rintro e r ⟨rfl,y⟩;have A:Hid (Below w.heap.size w r):=y;have I:Hid (Rd r R b v L k ru ne):=Y.out.below y;clear y;dsimp only[tkv]
  go_wp2_with fail
  refine(E.out 3 r I.out).mono ?_;rintro e D ⟨f,rfl,o⟩;have U:Hid (w.heap.size<=f/\Flt D f (3,p)/\Below w.heap.size w D):=⟨Nat.le_trans A.out.size o.out.1,o.out.2.1,A.out.trans (o.out.2.2.mono A.out.size)⟩;clear o
  go_wp2_with fail
  go_ret;exact⟨f,rfl,U⟩
 ·have t6:((kd:Int) == 6)=false:=by simp;omega
  rw[if_neg h6];clear h6;go_enter func143,ntmps143
  go_wp2_with fail
  refine G.out.mono ?_;rintro e r ⟨rfl,y⟩;have A:Hid (Below w.heap.size w r):=y;have I:Hid (Rd r R b v L k ru ne):=Y.out.below y;clear y;dsimp only[tkv]
  go_wp2_with fail
  refine(E.out 4 r I.out).mono ?_;rintro e D ⟨f,rfl,o⟩;have U:Hid (w.heap.size<=f/\Flt D f (4,p)/\Below w.heap.size w D):=⟨Nat.le_trans A.out.size o.out.1,o.out.2.1,A.out.trans (o.out.2.2.mono A.out.size)⟩;clear o
  go_wp2_with fail
  go_ret;exact⟨f,rfl,U⟩
inductive Nd where
 |mk (kd:Nat) (T:ByteArray) (C:Nat) (subs:List Nd) (p:Nat)
@[reducible] def n8 (kd:Nat) (T:ByteArray) (C:Nat) (sv:Value) (p:Nat):List Value:=
  [.int .i64 kd,.string T,.int .u64 (wd C 0),.int .u64 (wd C 1),.int .u64 (wd C 2),.int .u64 (wd C 3),sv,.int .i64 p]
mutual
def Qh(w:World)(P:Nat->Prop):Nd->List Value->Prop
 | .mk kd T C subs p,cs=>∃sv,cs=n8 kd T C sv p/\((subs.isEmpty=true/\sv=.slice none 0 0)∨
    (subs.isEmpty=false/\∃g cap cur,sv=.slice (some ⟨g,0,none⟩) (Gk subs) cap/\P g/\w.heap[g]? =some (.cells cur 81)/\cap<=maxLen/\Qc w P subs cur.toList))
def Qc(w:World)(P:Nat->Prop):List Nd->List Value->Prop
 |[],_=>True
 |n::r,vs=>∃c rest,vs=c++rest/\Qh w P n c/\Qc w P r rest
def Gk:List Nd->Nat
 |[]=>0
 |_::r=>Gk r+1
end
theorem Km:∀l:List Nd,Gk l=l.length
 |[]=>rfl
 |_::r=>by rw[Gk,Km r];rfl
theorem Qh.len{n:Nd}(h:Qh w P n c):c.length=8:=by
 cases n with
 |mk kd T C subs p=>
  rw[Qh]at h;obtain⟨sv,rfl,_⟩:=h;rfl
mutual
theorem Qh.kept{w w':World}{P Q:Nat->Prop}(r:∀g cur,P g->w.heap[g]? =some (.cells cur 81)->w'.heap[g]? =w.heap[g]? /\Q g):∀(n:Nd) (c:List Value),Qh w P n c->Qh w' Q n c
 | .mk kd T C subs p,cs,h=>by
   rw[Qh]at h ⊢;obtain⟨sv,y,o⟩:=h;refine⟨sv,y,?_⟩;rcases o with o|⟨A,g,D,cur,E,G,t,I,U⟩
   ·exact .inl o
   ·have:=r g cur G t
    exact .inr ⟨A,g,D,cur,E,this.2,this.1.trans t,I,Qc.kept r subs cur.toList U⟩
theorem Qc.kept{w w':World}{P Q:Nat->Prop}(o:∀g cur,P g->w.heap[g]? =some (.cells cur 81)->w'.heap[g]? =w.heap[g]? /\Q g):∀(l:List Nd) (vs:List Value),Qc w P l vs->Qc w' Q l vs
 |[],vs,h=>by rw[Qc];trivial
 |n::r,vs,h=>by
  rw[Qc]at h ⊢;obtain⟨c,rest,t,y,A⟩:=h;exact⟨c,rest,t,Qh.kept o n c y,Qc.kept o r rest A⟩
end
theorem Qc.append{w:World}{P:Nat->Prop}:∀(l:List Nd) (vs:List Value) (n:Nd) (c:List Value),Qc w P l vs->vs.length=l.length*8->Qh w P n c->Qc w P (l++[n]) (vs++c)
 |[],vs,n,c,_,hl,hn=>by
  have:vs=[]:=List.eq_nil_of_length_eq_zero (by simpa using hl);subst this;rw[List.nil_append,Qc];exact⟨c,[],by simp,hn,by rw[Qc];trivial⟩
 |m::r,vs,n,c,h,hl,hn=>by
  rw[Qc]at h;obtain⟨d,rest,rfl,o,t⟩:=h;have hd:=o.len;rw[List.cons_append,Qc];refine⟨d,rest++c,by rw[List.append_assoc],o,Qc.append r rest n c t ?_ hn⟩;simp at hl;omega
theorem Qc.more{w:World}{P:Nat->Prop}:∀(l:List Nd) (vs us:List Value),Qc w P l vs->Qc w P l (vs++us)
 |[],vs,us,_=>by rw[Qc];trivial
 |m::r,vs,us,h=>by
  rw[Qc]at h ⊢;obtain⟨d,rest,rfl,o,t⟩:=h;exact⟨d,rest++us,by rw[List.append_assoc],o,Qc.more r rest us t⟩
theorem Qh.below{n:Nd}(h:Qh w P n c)(t:Below w.heap.size w w'):Qh w' P n c:=
 Qh.kept (fun g cur y r=>⟨t.block g (by
  rcases Nat.lt_or_ge g w.heap.size with o|o
  ·exact o
  ·rw[Array.getElem?_eq_none o]at r;cases r),y⟩) n c h
theorem Qh.grown{t:Array Value}{n:Nd}(h:Qh w P n c)(y:w.grownBy w' (some R))(A:w.heap[R]? =some (.cells t 144)):Qh w' P n c:=
 Qh.kept (fun g cur D o=>⟨y.block g (by
  rcases Nat.lt_or_ge g w.heap.size with r|r
  ·exact r
  ·rw[Array.getElem?_eq_none r]at o;cases o) (fun e=>by
   have E:g=R:=Option.some.inj e;rw[E,A]at o;simp at o),D⟩) n c h
end Go.Proofs.YtgnkkgcgbeianaaGreatDoor
