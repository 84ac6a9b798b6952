/- Lemmas for the last text. Conditions: those that each names. -/
import Derived.Test.YtmelafeingcgnaaGreatDoorVZZToX5
import Derived.Shelf.Lay
import Derived.Shelf.Strconv.Clone
import Derived.Shelf.Strings.Prefix
import Derived.LaidEql
import Derived.Stop.Asserts
import Derived.RowKitTokens
set_option linter.unusedVariables false
set_option maxRecDepth 100000
set_option maxHeartbeats 4000000
namespace Go.Proofs.YtmelafeingcgnaaGreatDoor
open Go.Proofs.Tryz
open Go.RowKit
variable {k x:Nat}
def lnd(S:zA):Nat->Nat->Nat
 |0,k=>k
 |f+1,k=>if bt S k=some 10 then k else lnd S f (k+1)
def le(S:zA)(k:Nat):Nat:=lnd S (S.size-k) k
theorem z7o{S:zA}(h:k<S.size):le S k=if bt S k=some 10 then k else le S (k+1):=by
 unfold le;rw[show S.size-k=(S.size-(k+1))+1 by omega,lnd]
theorem z0F(S:zA):∀f k:Nat,f=S.size-k->k<=S.size->k<=lnd S f k/\lnd S f k<=S.size
 |0,k,_,h=>⟨Nat.le_refl _,h⟩
 |f+1,k,hf,h=>by
  rw[lnd];have o:=z0F S f (k+1) (by omega) (by omega);split
  ·exact⟨Nat.le_refl _,h⟩
  ·omega
theorem z0G{S:zA}(h:k<=S.size):k<=le S k/\le S k<=S.size:=z0F S _ k rfl h
theorem Lb{S:zA}(h:bt S k=some x)(hx:x≠10):k<le S k:=by
 have o:=(Zq h).1;rw[z7o o,if_neg (by rw[h];simp;exact hx)];have:=(z0G (S:=S) (k:=k+1) (by omega)).1;omega
theorem z0H{S:zA}(h:bt S k=some x):∃b:UInt8,S.data.toList.drop k=b::S.data.toList.drop (k+1)/\b.toNat=x:=by
 obtain⟨o,hx⟩:=Xy h;have r:k<S.data.toList.length:=by rw[Array.length_toList];exact o
 exact⟨_,List.drop_eq_getElem_cons r,by rw[<-hx];rfl⟩
theorem z7p(S:zA)(p:Nat)(h:p<=S.size):(S.extract p S.size).data.toList=S.data.toList.drop p:=by
 simp only[ByteArray.data_extract,Array.toList_extract];rw[List.extract_eq_take_drop,List.take_of_length_le];rw[List.length_drop,Array.length_toList];exact Nat.le_refl _
def blB(x:Nat):Bool:=x == 9||(x == 10||(x == 13||x == 32))
def sbl(S:zA):Nat->Nat->Nat
 |0,k=>k
 |f+1,k=>match bt S k with
  |none=>k
  |some x=>if blB x then sbl S f (k+1)else if x=35 then sbl S f (le S k)else k
def sb(S:zA)(k:Nat):Nat:=sbl S (S.size-k) k
theorem Lh(S:zA):∀f g k:Nat,S.size-k<=f->S.size-k<=g->sbl S f k=sbl S g k
 |0,0,_,_,_=>rfl
 |0,g+1,k,hf,_=>by rw[sbl,sbl,Up (by omega)]
 |f+1,0,k,_,hg=>by rw[sbl,sbl,Up (by omega)]
 |f+1,g+1,k,hf,hg=>by
  rw[sbl,sbl];cases hb:bt S k with
  |none=>rfl
  |some x=>
   have o:=(Zq hb).1;simp only;split
   ·exact Lh S f g (k+1) (by omega) (by omega)
   ·split
    ·rename_i h
     have:=Lb hb (by omega);exact Lh S f g (le S k) (by omega) (by omega)
    ·rfl
theorem Ld{S:zA}(h:bt S k=none):sb S k=k:=by
 have:=Yg h;unfold sb;rw[show S.size-k=0 by omega,sbl]
theorem Lm{S:zA}(h:bt S k=some x):sb S k=if blB x then sb S (k+1)else if x=35 then sb S (le S k)else k:=by
 have o:=(Zq h).1;unfold sb;rw[show S.size-k=(S.size-(k+1))+1 by omega,sbl,h];simp only;split
 ·rfl
 ·split
  ·have:=Lb h (by omega)
   exact Lh S _ _ (le S k) (by omega) (by omega)
  ·rfl
theorem Lp(S:zA):∀f k:Nat,S.size-k<=f->k<=S.size->k<=sb S k/\sb S k<=S.size
 |0,k,hf,h=>by rw[Ld (Up (by omega))];omega
 |f+1,k,hf,h=>by
  cases hb:bt S k with
  |none=>rw[Ld hb];omega
  |some x=>
   have r:=(Zq hb).1;rw[Lm hb];split
   ·have:=Lp S f (k+1) (by omega) (by omega);omega
   ·split
    ·have y:=Lb hb (by omega)
     have o:=(z0G (S:=S) (k:=k) h).2;have:=Lp S f (le S k) (by omega) o;omega
    ·omega
end Go.Proofs.YtmelafeingcgnaaGreatDoor
namespace Go.Proofs
open Go.Shelf
shelf_lay LaysM.n316 Nm 316 at Tryz as Tryz.laysM316
shelf_lay Lays.n206 Nm 206 at Tryz as Tryz.lays206
end Go.Proofs
namespace Go.Proofs.YtmelafeingcgnaaGreatDoor
open Go.Proofs.Tryz
open Go.RowKit
variable {k n p x:Nat} {w:World}
theorem z7q(T:zA)(w:World)(h:T.size<=281474976710656):
 Calls prog 79 #[zT T] w fun e w'=>e=.returned (zT T)/\zB w w':=Any.stringslite_Clone Tryz.laysM316 T w h
theorem z7r(s p:zA)(w:World):
 Calls prog 113 #[zT s,zT p] w fun e w'=>e=.returned (.bool (Lib.hasPrefix s.data.toList p.data.toList))/\w'=w:=Any.stringslite_HasPrefix Tryz.lays206 s p w
theorem Dd(T:zA)(w:World)(o:T.size<=281474976710656):
  Calls prog 45 #[zT T] w fun e w'=>e=.returned (zT T)/\zB w w':=by
 go_enter func45,ntmps45
 go_wp2_with fail
 refine(z7q T _ o).mono ?_;rintro e w1 ⟨rfl,h⟩;have r:Hid (zB w w1):=h;clear h
 go_wp2_with fail
 go_ret;exact⟨rfl,r.out⟩
theorem z0I(s p:zA)(w:World):
  Calls prog 71 #[zT s,zT p] w fun e w'=>e=.returned (.bool (Lib.hasPrefix s.data.toList p.data.toList))/\w'=w:=by
 go_enter func71,ntmps71
 go_wp2_with fail
 refine(z7r s p _).mono ?_;rintro e w1 ⟨rfl,rfl⟩
 go_wp2_with fail
 go_ret;exact⟨rfl,rfl⟩
@[reducible] def tk7 (kd:Int) (T:zA) (c0 c1 c2 c3 q n:Int) (ev:Value):Value:=.tuple #[.agg #[zI kd,zT T,zU c0,zU c1,zU c2,zU c3,zI q],zI n,ev]
def arB(S:zA)(p:Nat):Bool:=bt S p == some 60&&bt S (p+1) == some 45
theorem z0J{b:UInt8}(r:b.toNat=x)(y:k<256):(UInt8.ofNat k == b)=(x == k):=by
 by_cases h:x=k
 ·have o:UInt8.ofNat k=b:=by apply UInt8.toNat.inj;rw[r,h,UInt8.toNat_ofNat'];omega
  rw[o,h];simp
 ·have o:UInt8.ofNat k≠b:=fun e=>h (by rw[<-r,<-e,UInt8.toNat_ofNat'];omega)
  rw[beq_eq_false_iff_ne.2 o,beq_eq_false_iff_ne.2 h]
theorem z7s{S:zA}(h:bt S p=some x):Lib.hasPrefix (S.data.toList.drop p) [60,45]=arB S p:=by
 obtain⟨b,o,r⟩:=z0H h;unfold Lib.hasPrefix arB;rw[o,h,List.isPrefixOf];have A:((60:UInt8) == b)=(x == 60):=z0J r (by decide);rw[A];congr 1;cases hb:bt S (p+1)with
 |none=>
  have:=Yg hb;rw[List.drop_eq_nil_of_le (by rw[Array.length_toList];exact this)];rfl
 |some y=>
  obtain⟨D,E,G⟩:=z0H hb;rw[E,List.isPrefixOf];have U:((45:UInt8) == D)=(y == 45):=z0J G (by decide);rw[U,List.isPrefixOf];simp
theorem z0K{S:zA}(h:bt S p=some x)(w:World):Calls prog 71 #[zT (S.extract p S.size),zT {data:=#[60,45]}] w fun e w'=>e=.returned (.bool (arB S p))/\w'=w:=by
 have o:=z0I (S.extract p S.size) {data:=#[60,45]} w;rw[z7p S p (by have:=(Zq h).1;omega),show({data:=#[60,45]}:zA).data.toList=[60,45]from rfl,z7s h]at o;exact o
theorem z7t(w:World)(b:Nat)(h:b<256):(convert 102 9 (zS w.heap.size 1 1)).run prog (w.alloc (.cells #[.int .u8 b] 5))=.ok (zT (nb [b])) (w.alloc (.cells #[.int .u8 b] 5)):=
 Cq (base:=w.heap.size) (l:=[b]) ⟨rfl,.inr ⟨w.heap.size,1,#[.int .u8 b],rfl,Nat.le_refl _,Qx _ _ rfl,Nat.le_refl _,by unfold maxLen;omega,rfl,rfl⟩⟩ (fun x hx=>by simp at hx;omega)
theorem z7u(S:zA)(p x:Nat)(w:World)(o:bt S p=some x)(ha:arB S p=true)(hx:x=60)(hS:S.size<=9007199254740992):
  Calls prog 84 #[zT S,zI (p:Int)] w fun e w'=>(fun w e w'=>e=.returned (tk7 2 {data:=#[]} 0 0 0 0 (p:Int) ((p:Int)+2) .nilIface)/\zB w w') w e w':=by
 have Y:=(Zq o).2;obtain⟨hp,ab⟩:=Xy o;have ac:(p:Int)<(S.size:Int):=by omega
 have ad:(p:Int)<=(S.size:Int):=by omega
 have Z:Hid (∀w:World,Calls prog 125 #[.int .u8 x] w fun e w'=>e=.returned (.bool false)/\w'=w):=fun w=>Fx x false (by rw[hx];rfl) w Y
 obtain⟨W,h⟩:∃W,W=w.alloc (.cells #[zI 0,zT {data:=#[]},zU 0,zU 0,zU 0,zU 0,zI 0] 186):=⟨_,rfl⟩;have HW:Hid (W=w.alloc (.cells #[zI 0,zT {data:=#[]},zU 0,zU 0,zU 0,zU 0,zI 0] 186)):=h;have aa:Hid (zB w W):=by show Below _ _ _;rw[h];exact B0q.alloc L0q _
 have r:Hid (Tk W w.heap.size 0 {data:=#[]} 0 0 0 0 0):=by show Tk _ _ _ _ _ _ _ _ _;rw[h];exact Tk.new w 0 {data:=#[]} 0 0 0 0 0
 have HA:Hid (∀w:World,Calls prog 71 #[zT (S.extract p S.size),zT {data:=#[60,45]}] w fun e w'=>e=.returned (.bool true)/\w'=w):=fun w=>ha▸z0K o w
 clear o ha;subst hx;go_enter func84,ntmps84
 go_wp2_with fail
 rw[<-h];clear h;refine(Z.out _).mono ?_;rintro e w0 ⟨rfl,rfl⟩
 go_wp2_with fail
 refine(HA.out _).mono ?_;rintro e w1 ⟨rfl,rfl⟩;obtain⟨c0,c1,c2,c3,c4,c5,c6⟩:=r.out.cells;obtain⟨f0,f1,f2,f3,f4,f5,f6⟩:=r.out.thaw
 go_wp2_with fail
 obtain⟨y,A,D,E,G,U,V⟩:=(r.out.st7 2 {data:=#[]} 0 0 0 0 (p:Int)).cells;unfold st7 at y A D E G U V
 (try simp only[Exit.inBlock,Exit.then])
 refine bodyPost_ret (v:=tk7 2 {data:=#[]} 0 0 0 0 (p:Int) ((p:Int)+2) .nilIface) (by simp[results,Tryz.results84,go_sem,y,A,D,E,G,U,V]) rfl ?_;exact⟨rfl,Below.st7 aa.out L0q _ _ _ _ _ _ _⟩
theorem z7v(S:zA)(p x:Nat)(w:World)(o:bt S p=some x)(hl:Zp x=false)(hq:x≠39/\x≠34/\x≠91)(ha:arB S p=false)(E:mkB x=true)(hS:S.size<=9007199254740992):
  Calls prog 84 #[zT S,zI (p:Int)] w fun e w'=>(fun w e w'=>e=.returned (tk7 5 (nb [x]) 0 0 0 0 (p:Int) ((p:Int)+1) .nilIface)/\zB w w') w e w':=by
 have y:=(Zq o).2;obtain⟨hp,ae⟩:=Xy o;have af:(p:Int)<(S.size:Int):=by omega
 have ag:(p:Int)<=(S.size:Int):=by omega
 have aa:Hid (∀w:World,Calls prog 125 #[.int .u8 x] w fun e w'=>e=.returned (.bool false)/\w'=w):=fun w=>Fx x false hl w y
 obtain⟨W,h⟩:∃W,W=w.alloc (.cells #[zI 0,zT {data:=#[]},zU 0,zU 0,zU 0,zU 0,zI 0] 186):=⟨_,rfl⟩;have HW:Hid (W=w.alloc (.cells #[zI 0,zT {data:=#[]},zU 0,zU 0,zU 0,zU 0,zI 0] 186)):=h;have G:Hid (zB w W):=by show Below _ _ _;rw[h];exact B0q.alloc L0q _
 have ab:Hid (Tk W w.heap.size 0 {data:=#[]} 0 0 0 0 0):=by show Tk _ _ _ _ _ _ _ _ _;rw[h];exact Tk.new w 0 {data:=#[]} 0 0 0 0 0
 have HA:Hid (∀w:World,Calls prog 71 #[zT (S.extract p S.size),zT {data:=#[60,45]}] w fun e w'=>e=.returned (.bool false)/\w'=w):=fun w=>ha▸z0K o w
 have b1:((x:Int) == 39)=false:=by simp;omega
 have b2:((x:Int) == 34)=false:=by simp;omega
 have b3:((x:Int) == 91)=false:=by simp;omega
 obtain⟨i,A⟩:∃i:Int,i=Lib.indexByte [47,38,33,63,42,43,40,41,46] x.toUInt8:=⟨_,rfl⟩;have HI:Hid (∀w:World,Calls prog 129 #[zT {data:=#[47,38,33,63,42,43,40,41,46]},.int .u8 x] w fun e w'=>e=.returned (zI i)/\w'=w):=fun w=>by rw[A];exact z7e {data:=#[47,38,33,63,42,43,40,41,46]} x w
 have ac:decide (0<=i)=true:=by rw[A,z7f x y,E]
 have ah:0<=i:=by simpa using ac
 have ad:=fun w=>z7t w x y
 obtain⟨r,U⟩:∃r,r=nb [x]:=⟨_,rfl⟩;rw[<-U]at ad ⊢;clear o hl hq ha E A U;go_enter func84,ntmps84
 go_wp2_with fail
 rw[<-h];clear h;refine(aa.out _).mono ?_;rintro e w0 ⟨rfl,rfl⟩
 go_wp2_with fail
 refine(HA.out _).mono ?_;rintro e w1 ⟨rfl,rfl⟩
 go_wp2_with fail
 refine(HI.out _).mono ?_;rintro e w2 ⟨rfl,rfl⟩;have D:Hid (Tk (w2.alloc (.cells #[.int .u8 x] 5)) w.heap.size 0 {data:=#[]} 0 0 0 0 0):=ab.out.alloc _;obtain⟨c0,c1,c2,c3,c4,c5,c6⟩:=D.out.cells;obtain⟨f0,f1,f2,f3,f4,f5,f6⟩:=D.out.thaw
 go_wp2_with fail
 obtain⟨V,Y,Z,r3,r4,r5,r6⟩:=(D.out.st7 5 r 0 0 0 0 (p:Int)).cells;unfold st7 at V Y Z r3 r4 r5 r6
 (try simp only[Exit.inBlock,Exit.then])
 refine bodyPost_ret (v:=tk7 5 r 0 0 0 0 (p:Int) ((p:Int)+1) .nilIface) (by simp[results,Tryz.results84,go_sem,V,Y,Z,r3,r4,r5,r6]) rfl ?_;exact⟨rfl,Below.st7 (G.out.alloc G.out.size _) L0q _ _ _ _ _ _ _⟩
open Go.Extern.Stop Go.Stop Go.Extern
theorem Tryz.methodKind(h:Value)(w:World):(Go.method 535 203 (.agg #[h]) "Kind").run prog w=.ok (337,h) w:=by kernel_rfl
theorem Tryz.methodElem(h:Value)(w:World):(Go.method 535 203 (.agg #[h]) "Elem").run prog w=.ok (350,.agg #[h]) w:=by kernel_rfl
theorem Tryz.methodImplements(h:Value)(w:World):(Go.method 535 203 (.agg #[h]) "Implements").run prog w=.ok (351,.agg #[h]) w:=by kernel_rfl
theorem Tryz.methodAssignableTo(h:Value)(w:World):(Go.method 535 203 (.agg #[h]) "AssignableTo").run prog w=.ok (348,.agg #[h]) w:=by kernel_rfl
theorem rlm(z:Sem Value)(f:TypeId->Addr->Nat->Nat->Sem Value)(v:Value):
 ReflectliteValue.method z f #[v]=(do match<-ReflectliteValue.parts v with|none=>z|some (t,a,fl)=>f t a fl (fl%32)):=rfl
theorem rls(v x:Value):ReflectliteValue.set #[v,x]=(do
 let(some (dst,a,fl),some (src,b,_)):=(<-ReflectliteValue.parts v,<-ReflectliteValue.parts x)
  |unsupported (.noEntry "extern/(internal/reflectlite.Value).Set.zeroValue")
 if fl/ReflectliteValue.flagAddr%2 == 0 then unsupported (.noEntry "extern/(internal/reflectlite.Value).Set.unaddressable")
 let h<-loadVar src b
 if<-Rtype.directlyAssignable dst src then storeVar dst a h
 else if<-Rtype.implements dst src then
  if(<-Rtype.kind src) == 20 then
   match h with
   | .nilIface=>unsupported (.noEntry "extern/reflectlite: a nil value of one interface type handed on as a value of another")
   |_=>storeVar dst a h
  else storeVar dst a (.iface src h)
 else panicString ("reflectlite.Set: value of type "++(<-Rtype.spelt src)++" is not assignable to type "++(<-Rtype.spelt dst))
 pure (.tuple #[])):=rfl
def Vg(w:World):Prop:=w.cell? ⟨0,0,none⟩=some (.iface 203 (.agg #[zP (6) (31)]))
theorem Vg.lt(h:Vg w):0<w.heap.size:=by
 unfold Vg at h;rcases Nat.lt_or_ge 0 w.heap.size with o|o
 ·exact o
 ·simp[World.cell?,Array.getElem?_eq_none o]at h
theorem Vg.below{w':World}{B:Nat}(h:Vg w)(o:Below B w w')(r:0<B):Vg w':=(o.cell (p:=⟨0,0,none⟩) r).trans h
theorem Tryz.valueOfPE(t:Addr)(w:World):(ReflectliteValue.unpack (.iface 87 (.pointer (some t)))).run prog w
 =.ok (.agg #[zP (6) (87),zP w.heap.size 0,zU 150]) (w.alloc (.cells #[.pointer (some t)] 87)):=by kernel_rfl
theorem Tryz.typePE(a:Addr)(w:World):(ReflectliteValue.methodAny (ReflectliteValue.valueError "reflectlite.Value.Type" 0) (fun t _ _ _=>ReflectliteType.toType t) #[.agg #[zP (6) (87),.pointer (some a),zU 150]]).run prog w
 =.ok (.iface 203 (.agg #[zP (6) (87)])) w:=by kernel_rfl
theorem Tryz.kindPE(w:World):((ReflectliteType.abiMethod fun t=>(fun a:Nat=>Value.int IntKind.u8 (a:Int))<$>Rtype.kind t) #[zP (6) (87)]).run prog w=.ok (.int .u8 22) w:=by kernel_rfl
theorem Tryz.partsPE(a:Addr)(w:World):(ReflectliteValue.parts (.agg #[zP (6) (87),.pointer (some a),zU 150])).run prog w=.ok (some (87,a,150)) w:=by kernel_rfl
theorem Tryz.isNilPE(a p:Addr)(W:World)(ha:W.cell? a=some (.pointer (some p))):
  (ReflectliteValue.method (ReflectliteValue.valueError "reflectlite.Value.IsNil" 0) ReflectliteValue.isNil #[.agg #[zP (6) (87),.pointer (some a),zU 150]]).run prog W=.ok (.bool false) W:=by
 rw[rlm];simp only[Sem.run_bind,Tryz.partsPE,Result.andThen];simp[ReflectliteValue.isNil,loadVar,isAgg,underlying,Tryz.underlying87,ha,Result.andThen]
theorem Tryz.elemPE(w:World):(ReflectliteType.method ReflectliteType.elem #[.agg #[zP (6) (87)]]).run prog w=.ok (.iface 203 (.agg #[zP (6) (34)])) w:=by kernel_rfl
theorem Tryz.kindEE(w:World):((ReflectliteType.abiMethod fun t=>(fun a:Nat=>Value.int IntKind.u8 (a:Int))<$>Rtype.kind t) #[zP (6) (34)]).run prog w=.ok (.int .u8 2) w:=by kernel_rfl
theorem Tryz.implementsEE(w:World):(ReflectliteType.relation "Implements" ReflectliteType.implements_ #[.agg #[zP (6) (34)],.iface 203 (.agg #[zP (6) (31)])]).run prog w=.ok (.bool true) w:=by kernel_rfl
theorem Tryz.typeOfEE(v:Value)(w:World):(ReflectliteType.typeOf #[.iface 34 v]).run prog w=.ok (.iface 203 (.agg #[zP (6) (34)])) w:=by kernel_rfl
theorem Tryz.assignableEE(w:World):(ReflectliteType.relation "AssignableTo" ReflectliteType.assignableTo #[.agg #[zP (6) (34)],.iface 203 (.agg #[zP (6) (34)])]).run prog w=.ok (.bool true) w:=by kernel_rfl
theorem Tryz.valueOfEE(c:Int)(w:World):(ReflectliteValue.unpack (.iface 34 (zI c))).run prog w
 =.ok (.agg #[zP (6) (34),zP w.heap.size 0,zU 130]) (w.alloc (.cells #[zI c] 34)):=by kernel_rfl
theorem Tryz.elemOfPE(w:World):(Rtype.elem? 87).run prog w=.ok (some 34) w:=by kernel_rfl
theorem Tryz.mkEE(p:Addr)(w:World):(ReflectliteValue.mk 34 p ReflectliteValue.flagAddr).run prog w=.ok (.agg #[zP (6) (34),.pointer (some p),zU 386]) w:=by kernel_rfl
theorem Tryz.elemVE(a p:Addr)(W:World)(ha:W.cell? a=some (.pointer (some p))):
  (ReflectliteValue.method (ReflectliteValue.valueError "reflectlite.Value.Elem" 0) ReflectliteValue.elem #[.agg #[zP (6) (87),.pointer (some a),zU 150]]).run prog W
    =.ok (.agg #[zP (6) (34),.pointer (some p),zU 386]) W:=by
 rw[rlm];simp only[Sem.run_bind,Tryz.partsPE,Result.andThen];simp[ReflectliteValue.elem,loadVar,isAgg,underlying,Tryz.underlying87,ha,Result.andThen,Tryz.elemOfPE,Tryz.mkEE]
theorem Tryz.partsEaE(a:Addr)(w:World):(ReflectliteValue.parts (.agg #[zP (6) (34),.pointer (some a),zU 386])).run prog w=.ok (some (34,a,386)) w:=by kernel_rfl
theorem Tryz.partsEE(a:Addr)(w:World):(ReflectliteValue.parts (.agg #[zP (6) (34),.pointer (some a),zU 130])).run prog w=.ok (some (34,a,130)) w:=by kernel_rfl
theorem Tryz.directEE(w:World):(Rtype.directlyAssignable 34 34).run prog w=.ok true w:=by kernel_rfl
theorem Tryz.setEE(h b:Addr)(c:Int)(old:Value)(W:World)(o:W.cell? b=some (zI c))(r:W.cell? h=some old)(y:W.frozen? h=false):
  (ReflectliteValue.set #[.agg #[zP (6) (34),.pointer (some h),zU 386],.agg #[zP (6) (34),.pointer (some b),zU 130]]).run prog W
    =.ok (.tuple #[]) (W.setCell h (zI c)):=by
 rw[rls];simp only[Sem.run_bind,Tryz.partsEaE,Tryz.partsEE,Result.andThen];simp[ReflectliteValue.flagAddr,loadVar,isAgg,underlying,Tryz.underlying34,o,Result.andThen,Tryz.directEE,storeVar,Value.cells,storeCells,Addr.add];rw[run_store prog W h _ _ (by rfl)];simp[r,y]
theorem Vl{w1:World}{b:Nat}(h:w1.heap[b]? =w.heap[b]?):w1.cell? ⟨b,k,none⟩=w.cell? ⟨b,k,none⟩:=by simp[World.cell?,h]
abbrev Tok:=Nat×ByteArray×Nat×Nat
@[reducible] def tkv (t:Tok):Value:=.agg #[zI (t.1:Int),zT t.2.1,zU (wd t.2.2.1 0:Nat),zU (wd t.2.2.1 1:Nat),zU (wd t.2.2.1 2:Nat),zU (wd t.2.2.1 3:Nat),zI (t.2.2.2:Int)]
def Ul(S:zA)(p x:Nat):(Bool×(Nat×Nat)) ⊕ (Tok×Nat):=
 if Zp x then(if 32<ne S p-p then .inl (false,(2,p))else .inr ((1,S.extract p (ne S p),0,p),ne S p))
 else if x=39∨x=34 then(match ll S x p (p+1) []with
  | .inl c=>.inl (false,c)
  | .inr (l,n)=>.inr ((3,nb l,0,p),n))
 else if x=91 then(match Fq (S.extract p S.size)with
  | .inl c=>.inl (true,c)
  | .inr (C,n)=>.inr ((4,{data:=#[]},C,p),p+n))
 else if arB S p then .inr ((2,{data:=#[]},0,p),p+2)
 else if mkB x then .inr ((5,nb [x],0,p),p+1)
 else .inl (false,(4,p))
theorem z0L(S:zA)(q p:Nat):∀(f k:Nat) (acc l:List Nat) (n:Nat),Vf S q p f k acc=.inr (l,n)->(∀x∈acc,x<256)->acc.length<=255->k<n/\n<=S.size/\(∀x∈l,x<256)/\l.length<=255/\l.length+k<=acc.length+n
 |0,k,acc,l,n,h,_,_=>by rw[Vf]at h;cases h
 |f+1,k,acc,l,n,h,ha,hl=>by
  rw[Vf]at h;split at h
  ·rename_i o
   simp only[Sum.inr.injEq,Prod.mk.injEq]at h;have:=(Zq o).1;obtain⟨rfl,rfl⟩:=h;exact⟨by omega,by omega,ha,hl,by omega⟩
  ·split at h
   ·cases h
   ·rename_i b m r
    have y:=Bl r;split at h
    ·cases h
    ·have:=z0L S q p f m (acc++[b]) l n h (fun x hx=>by
      rcases List.mem_append.1 hx with h|h
      ·exact ha x h
      ·simp at h;omega) (by simp;omega)
     simp at this;exact⟨by omega,this.2.1,this.2.2.1,this.2.2.2.1,by omega⟩
theorem z7w{S:zA}{q:Nat}{l:List Nat}(h:ll S q p k []=.inr (l,n)):k<n/\n<=S.size/\(∀x∈l,x<256)/\l.length<=255/\l.length+k<=n:=by
 have:=z0L S q p _ k [] l n h (fun x hx=>by simp at hx) (by simp);simpa using this
theorem z7x(S:zA)(p:Nat)(h:p<=S.size):(S.extract p S.size).size=S.size-p:=by simp[ByteArray.size_extract]
theorem z7y{S:zA}(h:arB S p=true):p+1<S.size:=by
 unfold arB at h;simp at h;exact(Zq h.2).1
theorem Nj{S:zA}{t:Tok}(r:bt S p=some x)(h:Ul S p x=.inr (t,n)):
  p<n/\n<=S.size/\t.2.2.1<2^256/\t.2.2.2=p/\1<=t.1/\t.1<=5/\t.2.1.size<=S.size:=by
 have D:=(Zq r).1;unfold Ul at h;split at h
 ·rename_i hl
  split at h
  ·cases h
  ·simp only[Sum.inr.injEq,Prod.mk.injEq]at h
   obtain⟨rfl,rfl⟩:=h;have y:ne S p=ne S (p+1):=by rw[Ck r,hl];simp
   have A:=z0D (S:=S) (k:=p+1) (by omega);refine⟨by omega,by omega,show(0:Nat)<2^256 by decide,rfl,show 1<=(1:Nat) by decide,show(1:Nat)<=5 by decide,?_⟩;show(S.extract p (ne S p)).size<=_;simp[ByteArray.size_extract];omega
 ·split at h
  ·split at h
   ·cases h
   ·rename_i l m o
    simp only[Sum.inr.injEq,Prod.mk.injEq]at h;obtain⟨rfl,rfl⟩:=h;have:=z7w o;refine⟨by omega,by omega,show(0:Nat)<2^256 by decide,rfl,show 1<=(3:Nat) by decide,show(3:Nat)<=5 by decide,?_⟩;show(nb l).size<=_;rw[Uc];omega
  ·split at h
   ·split at h
    ·cases h
    ·rename_i C m o
     simp only[Sum.inr.injEq,Prod.mk.injEq]at h;obtain⟨rfl,rfl⟩:=h;have y:=z0y o;have A:=z7x S p (by omega);refine⟨by omega,by omega,y.1,rfl,show 1<=(4:Nat) by decide,show(4:Nat)<=5 by decide,Nat.zero_le _⟩
   ·split at h
    ·rename_i ha
     simp only[Sum.inr.injEq,Prod.mk.injEq]at h;obtain⟨rfl,rfl⟩:=h;have:p+1<S.size:=z7y ha;exact⟨by omega,by omega,show(0:Nat)<2^256 by decide,rfl,show 1<=(2:Nat) by decide,show(2:Nat)<=5 by decide,Nat.zero_le _⟩
    ·split at h
     ·simp only[Sum.inr.injEq,Prod.mk.injEq]at h
      obtain⟨rfl,rfl⟩:=h;exact⟨by omega,by omega,show(0:Nat)<2^256 by decide,rfl,show 1<=(5:Nat) by decide,show(5:Nat)<=5 by decide,by show(nb [x]).size<=_;rw[Uc];simp;omega⟩
     ·cases h
def wrg(p:Nat)(b:Bool×(Nat×Nat)):Nat×Nat:=if b.1 then(b.2.1,p+b.2.2)else b.2
abbrev Tr:=(Nat×Nat) ⊕ List Tok
def tkl(S:zA):Nat->Nat->List Tok->Tr
 |0,_,acc=>.inr acc
 |f+1,k,acc=>match bt S k with
  |none=>.inr acc
  |some x=>match Ul S k x with
   | .inl b=>.inl (wrg k b)
   | .inr (t,n)=>tkl S f (sb S n) (acc++[t])
def tks(S:zA)(k:Nat)(acc:List Tok):Tr:=tkl S (S.size-k) k acc
theorem Nk{S:zA}(h:n<=S.size):n<=sb S n/\sb S n<=S.size:=Lp S _ n L0q h
theorem z0M(S:zA):∀(f g k:Nat) (acc:List Tok),S.size-k<=f->S.size-k<=g->tkl S f k acc=tkl S g k acc
 |0,0,_,_,_,_=>rfl
 |0,g+1,k,acc,hf,_=>by rw[tkl,tkl,Up (by omega)]
 |f+1,0,k,acc,_,hg=>by rw[tkl,tkl,Up (by omega)]
 |f+1,g+1,k,acc,hf,hg=>by
  rw[tkl,tkl];cases hb:bt S k with
  |none=>rfl
  |some x=>
   have o:=(Zq hb).1;simp only;cases ht:Ul S k x with
   |inl b=>rfl
   |inr r=>
    obtain⟨t,n⟩:=r;have h:=Nj hb ht;have y:=Nk (S:=S) (n:=n) h.2.1;exact z0M S f g (sb S n) _ (by omega) (by omega)
theorem z7z{S:zA}{acc:List Tok}(h:S.size<=k):tks S k acc=.inr acc:=by
 unfold tks;rw[show S.size-k=0 by omega,tkl]
theorem z7A{S:zA}{acc:List Tok}{b:Bool×(Nat×Nat)}(h:bt S k=some x)(o:Ul S k x=.inl b):tks S k acc=.inl (wrg k b):=by
 have r:=(Zq h).1;unfold tks;rw[show S.size-k=(S.size-k-1)+1 by omega,tkl,h];simp only[o]
theorem z7B{S:zA}{acc:List Tok}{t:Tok}(h:bt S k=some x)(o:Ul S k x=.inr (t,n)):tks S k acc=tks S (sb S n) (acc++[t]):=by
 have y:=(Zq h).1;have r:=Nj h o;have A:=Nk (S:=S) (n:=n) r.2.1;unfold tks;rw[show S.size-k=(S.size-k-1)+1 by omega,tkl,h];simp only[o];exact z0M S _ _ _ _ (by omega) (by omega)
def tkE(S:zA)(r:Tr):Tr:=match r with
 | .inl c=>.inl c
 | .inr l=>.inr (l++[(6,{data:=#[]},0,S.size)])
def tkS(S:zA):Tr:=tkE S (tks S (sb S 0) [])
def tvs:List Tok->List Value
 |[]=>[]
 |t::r=>zI (t.1:Int)::zT t.2.1::zU (wd t.2.2.1 0:Nat)::zU (wd t.2.2.1 1:Nat)::zU (wd t.2.2.1 2:Nat)::zU (wd t.2.2.1 3:Nat)::zI (t.2.2.2:Int)::tvs r
theorem Nv:∀(a b:List Tok),tvs (a++b)=tvs a++tvs b
 |[],b=>rfl
 |p::t,b=>by simp only[List.cons_append,tvs,Nv t b]
theorem z0N:∀(a:List Tok),(tvs a).length=a.length*7
 |[]=>rfl
 |p::t=>by simp only[tvs,List.length_cons,z0N t];omega
def z7C(r:Tr)(w:World)(e:Ending)(w':World):Prop:=
 match r with
 | .inr l=>∃v,e=.returned (.tuple #[v,.nilIface])/\Hid (w'.ownsRow w.heap.size 186 7 v l.length (tvs l))/\Hid (zB w w')
 | .inl c=>∃q,e=.returned (.tuple #[.slice none 0 0,flv q])/\Hid (w.heap.size<=q/\Flt w' q c/\zB w w')
theorem Tryz.infoTok:(Tryz.prog.info? 186).map (fun i=>(i.zero,i.size,i.bytes))=some (some (.agg #[zI 0,zT {data:=#[]},zU 0,zU 0,zU 0,zU 0,zI 0]),7,64):=by kernel_rfl
theorem z0P(w:World)(a b c d e f g:Value)(t:TypeId):∀j x,[a,b,c,d,e,f,g][j]? =some x->(w.alloc (.cells #[a,b,c,d,e,f,g] t)).cell? ((⟨w.heap.size,0,none⟩:Addr).add j)=some x:=by
 intro j x h
 match j,h with
 |0,h=>simp at h;subst h;simp[Addr.add]
 |1,h=>simp at h;subst h;simp[Addr.add]
 |2,h=>simp at h;subst h;simp[Addr.add]
 |3,h=>simp at h;subst h;simp[Addr.add]
 |4,h=>simp at h;subst h;simp[Addr.add]
 |5,h=>simp at h;subst h;simp[Addr.add]
 |6,h=>simp at h;subst h;simp[Addr.add]
theorem z0Q(a:Int)(T:zA)(c0 c1 c2 c3 p:Int):∀u∈[Value.int .i64 a,zT T,zU c0,zU c1,zU c2,zU c3,zI p],u.oneCell'=true:=by
 intro u h;simp at h;rcases h with rfl|rfl|rfl|rfl|rfl|rfl|rfl<;>rfl
def Lt(w:World)(v:Value)(l:List Tok)(w':World):Prop:=
 Hid (zB w w')/\Hid (w'.ownsRow w.heap.size 186 7 v l.length (tvs l))
theorem Lt.keep{W w':World}{v:Value}{l:List Tok}(h:Lt w v l W)(o:zB W w'):Lt w v l w':=
 ⟨hid (h.1.out.trans (o.mono h.1.out.size)),hid (Xf h.2.out o)⟩
end Go.Proofs.YtmelafeingcgnaaGreatDoor
