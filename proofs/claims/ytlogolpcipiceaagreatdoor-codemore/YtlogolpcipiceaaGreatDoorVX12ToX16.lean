/- Lemmas for the last text. Conditions: those that each names. -/
import Derived.Test.YtlogolpcipiceaaGreatDoorVEAsToX11
import Derived.LaidEql
import Derived.Stop.Asserts
import Derived.RowKitTokens
set_option linter.unusedVariables false
set_option maxRecDepth 100000
set_option maxHeartbeats 8000000
namespace Go.Proofs.YtlogolpcipiceaaGreatDoor
open Go.Proofs.Tryz
open Go.RowKit
variable {w w1:World} {k n p x:Nat} {S:ByteArray} {c:Nat×Nat}
theorem z0I{W4:World}{tb:Nat}{v old:Value}(hW:Below w.heap.size w W4)(hw:w1=W4.setCell ⟨tb,0,none⟩ v)(hc:w.cell? ⟨tb,0,none⟩=some old)(hf:w.frozen? ⟨tb,0,none⟩=false)(htb:tb<w.heap.size):
  w1.cell? ⟨tb,0,none⟩=some v/\(∀b,b<w.heap.size->b≠tb->w1.heap[b]? =w.heap[b]?)/\(∀B w0,Below B w0 w->B<=tb->B<=w.heap.size->Below B w0 w1)/\w.heap.size<=w1.heap.size:=by
 refine⟨?_,?_,?_,?_⟩
 ·rw[hw]
  exact World.cell?_setCell_same' _ _ _ (by rw[hW.cell (p:=⟨tb,0,none⟩) htb,hc];rfl)
 ·intro b hb hne
  rw[hw,Below.heap_setCell _ _ _ _ hne,hW.block b hb]
 ·intro B w0 h hB hBs
  rw[hw];exact(h.trans (hW.mono hBs)).setCell hB _
 ·rw[hw];have:=hW.size;simpa using this
theorem Kv{b:Nat}(h:w1.heap[b]? =w.heap[b]?):w1.cell? ⟨b,k,none⟩=w.cell? ⟨b,k,none⟩:=by simp[World.cell?,h]
theorem z6J{b:Nat}(h:w1.heap[b]? =w.heap[b]?):w1.frozen? ⟨b,k,none⟩=w.frozen? ⟨b,k,none⟩:=by simp[World.frozen?,h]
theorem z6K(g f p:Nat)(c:Nat×Nat)(w:World)(h:Xz w)(hce:CE w g f p c)(hb:p+c.2<=9007199254740999):
  Calls prog 97 #[.iface 237 (.pointer (some ⟨g,0,none⟩))] w fun e w'=>∃q,e=.returned (flv q)/\Hid (w.heap.size<=q/\Flt w' q (c.1,p+c.2)/\Below w.heap.size w w'):=by
 have hlt:=h.lt;have hgl:=hce.lt;have hfl:=hce.2.lt;obtain⟨W,hW⟩:∃W,W=(w.alloc (.cells #[.pointer none] 237)).alloc (.cells #[.pointer none] 95):=⟨_,rfl⟩;have hWs:W.heap.size=w.heap.size+2:=by rw[hW];simp
 have hWB:Below w.heap.size w W:=by rw[hW];exact(B0q.alloc L0q _).alloc (by simp) _
 have t1:W.cell? ⟨w.heap.size,0,none⟩=some (.pointer none):=by rw[hW];simp
 have t1f:W.frozen? ⟨w.heap.size,0,none⟩=false:=by rw[hW];simp
 have t2:W.cell? ⟨w.heap.size+1,0,none⟩=some (.pointer none):=by rw[hW];simp
 have t2f:W.frozen? ⟨w.heap.size+1,0,none⟩=false:=by rw[hW];simp
 have hA:=z6I ⟨g,0,none⟩ ⟨w.heap.size,0,none⟩ (.pointer none) W (h.below hWB hlt) t1 t1f;go_enter func97,ntmps97
 go_wp2_with fail
 rw[<-hW];refine hA.mono ?_;rintro e w1 ⟨rfl,hw⟩;obtain⟨u1,u2,u3,u4⟩:=z0I ((((((Below.refl _ W).alloc L0q _).alloc (by simp) _).alloc (by simp<;>omega) _).alloc (by simp<;>omega) _)) hw t1 t1f (by omega);have hB1:Below w.heap.size w w1:=u3 _ _ hWB L0q (by omega);have g1:w1.heap[g]? =w.heap[g]? :=hB1.block g hgl;have k0:w1.cell? ⟨g,0,none⟩=some (.iface 95 (.pointer (some ⟨f,0,none⟩))):=by rw[Kv g1];simp[World.cell?,hce.1]
 have s2:w1.cell? ⟨w.heap.size+1,0,none⟩=some (.pointer none):=by rw[Kv (u2 _ (by omega) (by omega)),t2]
 have s2f:w1.frozen? ⟨w.heap.size+1,0,none⟩=false:=by rw[z6J (u2 _ (by omega) (by omega)),t2f]
 have hA2:=z6H ⟨f,0,none⟩ ⟨w.heap.size+1,0,none⟩ (.pointer none) w1 (h.below hB1 hlt) s2 s2f;have HB1:Hid (Below w.heap.size w w1):=hB1;have HS1:Hid (w.heap.size+2<=w1.heap.size):=by show _<=_;omega
 have HA2:=hid hA2;have HS2:Hid (w1.cell? ⟨w.heap.size+1,0,none⟩=some (.pointer none)/\w1.frozen? ⟨w.heap.size+1,0,none⟩=false):=⟨s2,s2f⟩;have HCE:=hid hce;clear hw hA hA2 u2 u3 u4 t1 t1f t2 t2f hW hWB hWs hB1 g1 s2 s2f h hce
 go_wp2_with fail
 refine HA2.out.mono ?_;rintro e w2 ⟨rfl,hw2⟩;have hS1:=HS1.out;obtain⟨v1,v2,v3,v4⟩:=z0I ((((((Below.refl _ w1).alloc L0q _).alloc (by simp) _).alloc (by simp<;>omega) _).alloc (by simp<;>omega) _)) hw2 HS2.out.1 HS2.out.2 (by omega);have hB2:Below w.heap.size w w2:=v3 _ _ HB1.out (by omega) (by omega);have m1:w2.cell? ⟨w.heap.size,0,none⟩=some (.pointer (some ⟨g,0,none⟩)):=by rw[Kv (v2 _ (by omega) (by omega)),u1]
 have m2:w2.cell? ⟨g,1,none⟩=some (.int .i64 p):=by rw[Kv (hB2.block g hgl)];simp[World.cell?,HCE.out.1]
 have m3:w2.cell? ⟨f,0,none⟩=some (.int .i64 (c.1:Int)):=by rw[Kv (hB2.block f hfl)];have:=HCE.out.2;unfold Flt at this;simp[World.cell?,this]
 have m4:w2.cell? ⟨f,1,none⟩=some (.int .i64 (c.2:Int)):=by rw[Kv (hB2.block f hfl)];have:=HCE.out.2;unfold Flt at this;simp[World.cell?,this]
 have HB2:Hid (Below w.heap.size w w2):=hB2;have HN:Hid (((p+c.2:Nat):Int)=(p:Int)+(c.2:Int)):=by show _=_;omega
 have b1:(p:Int)+(c.2:Int)<9223372036854775808:=by omega
 clear hw2 HA2 v2 v3 v4 hB2 HS2 HCE u1 k0
 go_wp2
 go_region
 go_wp2
 go_ret;refine⟨w2.heap.size,rfl,HB2.out.size,?_,(HB2.out.alloc HB2.out.size _).drew⟩;have hn:=Flt.new w2 (c.1,p+c.2);simp only[HN.out]at hn;exact hn
open Go.Extern.Stop Go.Stop Go.Extern
theorem Tryz.noAsE(v:Value)(xT:TypeId)(w:World):(Instr.typeAssert (.iface 36 v) xT 211 true).run prog w=.ok (.tuple #[.nilIface,.bool false]) w:=run_typeAssert_lacksB Tryz.underlying211 (by kernel_rfl) (by kernel_rfl) v xT w
theorem Tryz.noUnwE(v:Value)(xT:TypeId)(w:World):(Instr.typeAssert (.iface 36 v) xT 214 true).run prog w=.ok (.tuple #[.nilIface,.bool false]) w:=run_typeAssert_lacksB Tryz.underlying214 (by kernel_rfl) (by kernel_rfl) v xT w
theorem Tryz.noUnwsE(v:Value)(xT:TypeId)(w:World):(Instr.typeAssert (.iface 36 v) xT 216 true).run prog w=.ok (.tuple #[.nilIface,.bool false]) w:=run_typeAssert_lacksB Tryz.underlying216 (by kernel_rfl) (by kernel_rfl) v xT w
theorem Tryz.assignFC(w:World):(ReflectliteType.relation "AssignableTo" ReflectliteType.assignableTo #[.agg #[.pointer (some ⟨6,95,none⟩)],.iface 206 (.agg #[.pointer (some ⟨6,237,none⟩)])]).run prog w=.ok (.bool false) w:=by kernel_rfl
theorem Tryz.assignErrC(w:World):(ReflectliteType.relation "AssignableTo" ReflectliteType.assignableTo #[.agg #[.pointer (some ⟨6,36,none⟩)],.iface 206 (.agg #[.pointer (some ⟨6,237,none⟩)])]).run prog w=.ok (.bool false) w:=by kernel_rfl
theorem z6L(p:Nat)(c b:Int)(t:Addr)(w:World)(hg0:Xz w)(hp:w.heap[p]? =some (.cells #[.int .i64 c,.int .i64 b] 98)):
  Calls prog 39 #[.iface 95 (.pointer (some ⟨p,0,none⟩)),.iface 238 (.pointer (some t))] w fun ev w'=>ev=.returned (.bool false)/\Below w.heap.size w w':=by
 have hVO:= @run_callFunc_extern prog 68 _ (fun args=>ReflectliteValue.unpack (args.getD 0 (.tuple #[]))) func68 (by kernel_rfl) (by kernel_rfl) (by kernel_rfl) (by kernel_rfl);have hTy:= @run_callFunc_extern prog 69 _ (ReflectliteValue.methodAny (ReflectliteValue.valueError "reflectlite.Value.Type" 0) (fun t _ _ _=>ReflectliteType.toType t)) func69 (by kernel_rfl) (by kernel_rfl) (by kernel_rfl) (by kernel_rfl);have hNi:= @run_callFunc_extern prog 70 _ (ReflectliteValue.method (ReflectliteValue.valueError "reflectlite.Value.IsNil" 0) ReflectliteValue.isNil) func70 (by kernel_rfl) (by kernel_rfl) (by kernel_rfl) (by kernel_rfl);have hKi:= @run_callFunc_extern prog 326 _ (ReflectliteType.abiMethod fun t=>do pure (.int .u8 (<-Rtype.kind t))) func326 (by kernel_rfl) (by kernel_rfl) (by kernel_rfl) (by kernel_rfl);have hEl:= @run_callFunc_extern prog 338 _ (ReflectliteType.method ReflectliteType.elem) func338 (by kernel_rfl) (by kernel_rfl) (by kernel_rfl) (by kernel_rfl);have hIm:= @run_callFunc_extern prog 339 _ (ReflectliteType.relation "Implements" ReflectliteType.implements_) func339 (by kernel_rfl) (by kernel_rfl) (by kernel_rfl) (by kernel_rfl);have hTO:= @run_callFunc_extern prog 112 _ ReflectliteType.typeOf func112 (by kernel_rfl) (by kernel_rfl) (by kernel_rfl) (by kernel_rfl);have hAs:= @run_callFunc_extern prog 336 _ (ReflectliteType.relation "AssignableTo" ReflectliteType.assignableTo) func336 (by kernel_rfl) (by kernel_rfl) (by kernel_rfl) (by kernel_rfl);have hVE:= @run_callFunc_extern prog 113 _ (ReflectliteValue.method (ReflectliteValue.valueError "reflectlite.Value.Elem" 0) ReflectliteValue.elem) func113 (by kernel_rfl) (by kernel_rfl) (by kernel_rfl) (by kernel_rfl);have hSe:= @run_callFunc_extern prog 114 _ ReflectliteValue.set func114 (by kernel_rfl) (by kernel_rfl) (by kernel_rfl) (by kernel_rfl);have mA:=Tryz.methodAssignableTo;have mK:=Tryz.methodKind;have mE:=Tryz.methodElem;have mI:=Tryz.methodImplements;have vP:=Tryz.valueOfPC;have tP:=Tryz.typePC;have kP:=Tryz.kindPC;have kE:=Tryz.kindEC;have eP:=Tryz.elemPC;have iE:=Tryz.implementsEC;have nP:=Tryz.isNilPC ⟨w.heap.size,0,none⟩ t ((w.alloc (.cells #[.pointer (some t)] 238)).alloc (.cells #[.pointer (some ⟨6,238,none⟩),.pointer (some ⟨w.heap.size,0,none⟩),.int .u64 150] 141)) (by simp);have hlt:=Xz.lt hg0;have hg:w.cell? ⟨0,0,none⟩=some (.iface 206 (.agg #[.pointer (some ⟨6,33,none⟩)])):=hg0;have hg2:((w.alloc (.cells #[.pointer (some t)] 238)).alloc (.cells #[.pointer (some ⟨6,238,none⟩),.pointer (some ⟨w.heap.size,0,none⟩),.int .u64 150] 141)).cell? ⟨0,0,none⟩=some (.iface 206 (.agg #[.pointer (some ⟨6,33,none⟩)])):=by
  rw[World.cell?_alloc_lt _ _ ⟨0,0,none⟩ (by simp<;>omega),World.cell?_alloc_lt _ _ ⟨0,0,none⟩ hlt];exact hg
 have hpl:p<w.heap.size:=by
  rcases Nat.lt_or_ge p w.heap.size with h2|h2
  ·exact h2
  ·rw[Array.getElem?_eq_none h2]at hp;cases hp
 have hpc:w.cell? ⟨p,0,none⟩=some (.int .i64 c):=by simp[World.cell?,hp]
 have hp3:(((w.alloc (.cells #[.pointer (some t)] 238)).alloc (.cells #[.pointer (some ⟨6,238,none⟩),.pointer (some ⟨w.heap.size,0,none⟩),.int .u64 150] 141)).alloc (.cells #[.pointer (some ⟨6,238,none⟩),.pointer (some ⟨w.heap.size,0,none⟩),.int .u64 150] 141)).cell? ⟨p,0,none⟩=some (.int .i64 c):=by
  rw[World.cell?_alloc_lt _ _ ⟨p,0,none⟩ (by simp<;>omega),World.cell?_alloc_lt _ _ ⟨p,0,none⟩ (by simp<;>omega),World.cell?_alloc_lt _ _ ⟨p,0,none⟩ hpl];exact hpc
 have n1:=Tryz.noAsF;have n2:=Tryz.unwF;have n3:=Tryz.methodUnwF;have n4:=Tryz.typeOfPF;have n5:=Tryz.assignFC;have n6:=Tryz.noAsE;have n7:=Tryz.noUnwE;have n8:=Tryz.noUnwsE;have n9:=Tryz.typeOfErr;have na:=Tryz.assignErrC;have HB:Hid (Below w.heap.size w (((w.alloc (.cells #[.pointer (some t)] 238)).alloc (.cells #[.pointer (some ⟨6,238,none⟩),.pointer (some ⟨w.heap.size,0,none⟩),.int .u64 150] 141)).alloc (.cells #[.pointer (some ⟨6,238,none⟩),.pointer (some ⟨w.heap.size,0,none⟩),.int .u64 150] 141))):=((B0q.alloc L0q _).alloc (by simp) _).alloc (by simp<;>omega) _;clear hg0 hp;go_enter func39,ntmps39
 go_wp2
 refine wp_loop_rounds 2 ?_;rw[rounds_succ]
 go_wp2
 rw[rounds_succ]
 go_wp2
 go_ret;exact⟨rfl,HB.out⟩
theorem z6M(f:Nat)(c:Nat×Nat)(w:World)(h:Xz w)(hf:Flt w f c):
  Calls prog 97 #[flv f] w fun e w'=>e=.returned (flv f)/\Below w.heap.size w w':=by
 have hlt:=h.lt;have hfl:=hf.lt;obtain⟨W,hW⟩:∃W,W=(w.alloc (.cells #[.pointer none] 237)).alloc (.cells #[.pointer none] 95):=⟨_,rfl⟩;have hWB:Below w.heap.size w W:=by rw[hW];exact(B0q.alloc L0q _).alloc (by simp) _
 have hA:=z6L f c.1 c.2 ⟨w.heap.size,0,none⟩ W (h.below hWB hlt) ((hWB.block f hfl).trans hf);have HW:Hid (Below w.heap.size w W):=hWB;have HA:=hid hA;clear hA hWB;unfold flv;go_enter func97,ntmps97
 go_wp2_with fail
 rw[<-hW];clear hW;refine HA.out.mono ?_;rintro e w1 ⟨rfl,hb⟩;have HB:Hid (Below w.heap.size w w1):=HW.out.trans (hb.mono HW.out.size);clear hb HA
 go_wp2_with fail
 go_ret;exact⟨rfl,HB.out⟩
abbrev Tok:=Nat×ByteArray×Nat×Nat
@[reducible] def tkv (t:Tok):Value:=.agg #[.int .i64 (t.1:Int),.string t.2.1,.int .u64 (wd t.2.2.1 0:Nat),.int .u64 (wd t.2.2.1 1:Nat),.int .u64 (wd t.2.2.1 2:Nat),.int .u64 (wd t.2.2.1 3:Nat),.int .i64 (t.2.2.2:Int)]
def Xg(S:ByteArray)(p x:Nat):(Bool×(Nat×Nat)) ⊕ (Tok×Nat):=
 if Zq x then(if 32<ne S p-p then .inl (false,(2,p))else .inr ((1,S.extract p (ne S p),0,p),ne S p))
 else if x=39∨x=34 then(match ll S x p (p+1) []with
  | .inl c=>.inl (false,c)
  | .inr (l,n)=>.inr ((3,nb l,0,p),n))
 else if x=91 then(match Yz (S.extract p S.size)with
  | .inl c=>.inl (true,c)
  | .inr (C,n)=>.inr ((4,{data:=#[]},C,p),p+n))
 else if arB S p then .inr ((2,{data:=#[]},0,p),p+2)
 else if mkB x then .inr ((5,nb [x],0,p),p+1)
 else .inl (false,(4,p))
def Kw(r:(Bool×(Nat×Nat)) ⊕ (Tok×Nat))(p:Nat)(w:World)(e:Ending)(w':World):Prop:=
 match r with
 | .inr (t,n)=>e=.returned (.tuple #[tkv t,.int .i64 n,.nilIface])/\Below w.heap.size w w'
 | .inl (false,c)=>Gm c w e w'
 | .inl (true,c)=>Kj p c w e w'
theorem z6N(S:ByteArray)(p x:Nat)(w:World)(hb:bt S p=some x)(hS:S.size<=9007199254740992):
  Calls prog 96 #[.string S,.int .i64 p] w fun e w'=>Kw (Xg S p x) p w e w':=by
 unfold Xg;cases hl:Zq x with
 |true=>
  refine(z6z S p x w hb hl hS).mono fun e w' h=> ?_
  unfold Gw at h;by_cases h3:32<ne S p-p
  ·rw[if_pos h3]at h;simp only[if_pos h3];exact h
  ·rw[if_neg h3]at h;simp only[if_neg h3];simpa [Kw,tkv,Vz]using h
 |false=>
  simp only[Bool.false_eq_true,if_false];by_cases hq:x=39∨x=34
  ·simp only[if_pos hq]
   refine(z6A S p x w hb hq hS).mono fun e w' h=> ?_
   cases hm:ll S x p (p+1) []with
   |inl c=>rw[hm]at h;exact h
   |inr r=>rw[hm]at h;simpa [Kw,Fl,tkv,Vz]using h
  ·simp only[if_neg hq]
   by_cases hc:x=91
   ·simp only[if_pos hc]
    refine(z6B S p x w hb hc hS).mono fun e w' h=> ?_
    cases hm:Yz (S.extract p S.size)with
    |inl c=>rw[hm]at h;exact h
    |inr r=>rw[hm]at h;exact h
   ·simp only[if_neg hc]
    cases ha:arB S p with
    |true=>
     have hx:x=60:=by unfold arB at ha;rw[hb]at ha;simp at ha;exact ha.1
     exact(z6E S p x w hb ha hx hS).mono fun e w' h=>by simpa [Kw,tkv,tk7,Vz]using h
    |false=>
     have hq2:x≠39/\x≠34/\x≠91:=by omega
     cases hm:mkB x with
     |true=>exact(z6F S p x w hb hl hq2 ha hm hS).mono fun e w' h=>by simpa [Kw,tkv,tk7,Vz]using h
     |false=>exact z6G S p x w hb hl hq2 ha hm hS
def Jg(S:ByteArray)(c:Nat×Nat):Prop:=(c.1=3∨c.1=4)/\c.2<=S.size
theorem Vh(S:ByteArray)(k:Nat):Jg S (flt S k):=by
 unfold flt Jg;split
 ·exact⟨.inl rfl,Nat.le_refl _⟩
 ·exact⟨.inr rfl,by simp only;omega⟩
theorem z0J(h:digs S k=.inl c):Jg S c:=by
 unfold digs at h;split at h
 ·simp only[Sum.inl.injEq]at h;rw[<-h];exact Vh S _
 ·split at h
  ·simp only[Sum.inl.injEq]at h;rw[<-h];exact Vh S _
  ·cases h
theorem z0K(h:sg S k=.inl c):Jg S c:=by
 unfold sg at h;split at h
 ·simp only[Sum.inl.injEq]at h;rw[<-h];exact Vh S _
 ·split at h
  ·unfold esc at h
   split at h
   ·simp only[Sum.inl.injEq]at h;rw[<-h];exact Vh S _
   ·split at h
    ·cases h
    ·split at h
     ·exact z0J h
     ·simp only[Sum.inl.injEq]at h;rw[<-h];exact Vh S _
  ·split at h
   ·cases h
   ·simp only[Sum.inl.injEq]at h;rw[<-h];exact Vh S _
theorem z6O(h:Yz S=.inl c):Jg S c:=by
 have hb:∀j e,mbr S j=.inl e->Jg S e:=fun j e he=>by
  unfold mbr at he;split at he
  ·rename_i e' hs;simp only[Sum.inl.injEq]at he;rw[<-he];exact z0K hs
  ·split at he
   ·split at he
    ·rename_i e' hs;simp only[Sum.inl.injEq]at he;rw[<-he];exact z0K hs
    ·split at he
     ·simp only[Sum.inl.injEq]at he;rw[<-he];exact Vh S _
     ·cases he
   ·cases he
 have hm:∀f j acc e,mems S f j acc=.inl e->Jg S e:=by
  intro f
  induction f with
  |zero=>intro j acc e he;simp only[mems,Sum.inl.injEq]at he;rw[<-he];exact Vh S _
  |succ f ih=>
   intro j acc e he;rw[mems]at he;split at he
   ·cases he
   ·split at he
    ·rename_i e' hs;simp only[Sum.inl.injEq]at he;rw[<-he];exact hb _ _ hs
    ·exact ih _ _ _ he
 rw[Bh]at h;split at h
 ·split at h
  ·cases hmm:mm S 2 0 with
   |inl e=>rw[hmm]at h;simp only[ng,Sum.inl.injEq]at h;rw[<-h];exact hm _ _ _ _ hmm
   |inr q=>rw[hmm]at h;cases h
  ·exact hm _ _ _ _ h
 ·simp only[Sum.inl.injEq]at h;rw[<-h];exact Vh S _
theorem z6P(h:lsg S k=.inl c):Jg S c:=by
 unfold lsg at h;split at h
 ·simp only[Sum.inl.injEq]at h;rw[<-h];exact Vh S _
 ·split at h
  ·simp only[Sum.inl.injEq]at h;rw[<-h];exact Vh S _
  ·split at h
   ·unfold Vg at h
    split at h
    ·simp only[Sum.inl.injEq]at h;rw[<-h];exact Vh S _
    ·split at h
     ·cases h
     ·split at h
      ·exact z0J h
      ·simp only[Sum.inl.injEq]at h;rw[<-h];exact Vh S _
   ·cases h
theorem Cy(S:ByteArray)(q p:Nat):∀(f k:Nat) (acc l:List Nat) (n:Nat),llit S q p f k acc=.inr (l,n)->(∀x∈acc,x<256)->acc.length<=255->k<n/\n<=S.size/\(∀x∈l,x<256)/\l.length<=255/\l.length+k<=acc.length+n
 |0,k,acc,l,n,h,_,_=>by rw[llit]at h;cases h
 |f+1,k,acc,l,n,h,ha,hl=>by
  rw[llit]at h;split at h
  ·rename_i hb
   simp only[Sum.inr.injEq,Prod.mk.injEq]at h;have:=(Qv hb).1;obtain⟨rfl,rfl⟩:=h;exact⟨by omega,by omega,ha,hl,by omega⟩
  ·split at h
   ·cases h
   ·rename_i b m hm
    have hok:=Kq hm;split at h
    ·cases h
    ·have:=Cy S q p f m (acc++[b]) l n h (fun x hx=>by
      rcases List.mem_append.1 hx with h|h
      ·exact ha x h
      ·simp at h;omega) (by simp;omega)
     simp at this;exact⟨by omega,this.2.1,this.2.2.1,this.2.2.2.1,by omega⟩
theorem z0L{q:Nat}{l:List Nat}(h:ll S q p k []=.inr (l,n)):k<n/\n<=S.size/\(∀x∈l,x<256)/\l.length<=255/\l.length+k<=n:=by
 have:=Cy S q p _ k [] l n h (fun x hx=>by simp at hx) (by simp);simpa using this
theorem z0M(S:ByteArray)(q p:Nat):∀(f k:Nat) (acc:List Nat) (c:Nat×Nat),llit S q p f k acc=.inl c->Jg S c∨c=(2,p)
 |0,k,acc,c,h=>by simp only[llit,Sum.inl.injEq]at h;rw[<-h];exact .inl (Vh S _)
 |f+1,k,acc,c,h=>by
  rw[llit]at h;split at h
  ·cases h
  ·split at h
   ·rename_i e hs;simp only[Sum.inl.injEq]at h;rw[<-h];exact .inl (z6P hs)
   ·split at h
    ·simp only[Sum.inl.injEq]at h;exact .inr h.symm
    ·exact z0M S q p f _ _ c h
theorem z6Q{q:Nat}(h:ll S q p k []=.inl c):Jg S c∨c=(2,p):=z0M S q p _ k [] c h
theorem z0N(S:ByteArray)(p:Nat)(hp:p<=S.size):(S.extract p S.size).size=S.size-p:=by simp[ByteArray.size_extract]
theorem z6R(h:arB S p=true):p+1<S.size:=by
 unfold arB at h;simp at h;exact(Qv h.2).1
theorem Ky{t:Tok}(hb:bt S p=some x)(h:Xg S p x=.inr (t,n)):
  p<n/\n<=S.size/\t.2.2.1<2^256/\t.2.2.2=p/\1<=t.1/\t.1<=5/\t.2.1.size<=S.size:=by
 have hp:=(Qv hb).1;unfold Xg at h;split at h
 ·rename_i hl
  split at h
  ·cases h
  ·simp only[Sum.inr.injEq,Prod.mk.injEq]at h
   obtain⟨rfl,rfl⟩:=h;have h1:ne S p=ne S (p+1):=by rw[Dx hb,hl];simp
   have h2:=Cq (S:=S) (k:=p+1) (by omega);refine⟨by omega,by omega,show(0:Nat)<2^256 by decide,rfl,show 1<=(1:Nat) by decide,show(1:Nat)<=5 by decide,?_⟩;show(S.extract p (ne S p)).size<=_;simp[ByteArray.size_extract];omega
 ·split at h
  ·split at h
   ·cases h
   ·rename_i l m hm
    simp only[Sum.inr.injEq,Prod.mk.injEq]at h;obtain⟨rfl,rfl⟩:=h;have:=z0L hm;refine⟨by omega,by omega,show(0:Nat)<2^256 by decide,rfl,show 1<=(3:Nat) by decide,show(3:Nat)<=5 by decide,?_⟩;show(nb l).size<=_;rw[Vq];omega
  ·split at h
   ·split at h
    ·cases h
    ·rename_i C m hm
     simp only[Sum.inr.injEq,Prod.mk.injEq]at h;obtain⟨rfl,rfl⟩:=h;have h1:=z0r hm;have h2:=z0N S p (by omega);refine⟨by omega,by omega,h1.1,rfl,show 1<=(4:Nat) by decide,show(4:Nat)<=5 by decide,Nat.zero_le _⟩
   ·split at h
    ·rename_i ha
     simp only[Sum.inr.injEq,Prod.mk.injEq]at h;obtain⟨rfl,rfl⟩:=h;have:p+1<S.size:=z6R ha;exact⟨by omega,by omega,show(0:Nat)<2^256 by decide,rfl,show 1<=(2:Nat) by decide,show(2:Nat)<=5 by decide,Nat.zero_le _⟩
    ·split at h
     ·simp only[Sum.inr.injEq,Prod.mk.injEq]at h
      obtain⟨rfl,rfl⟩:=h;exact⟨by omega,by omega,show(0:Nat)<2^256 by decide,rfl,show 1<=(5:Nat) by decide,show(5:Nat)<=5 by decide,by show(nb [x]).size<=_;rw[Vq];simp;omega⟩
     ·cases h
def wrg(p:Nat)(b:Bool×(Nat×Nat)):Nat×Nat:=if b.1 then(b.2.1,p+b.2.2)else b.2
theorem z6S{b:Bool×(Nat×Nat)}(hb:bt S p=some x)(h:Xg S p x=.inl b):
  (b.2.1=2∨b.2.1=3∨b.2.1=4)/\(wrg p b).2<=S.size:=by
 have hp:=(Qv hb).1;unfold Xg at h;split at h
 ·split at h
  ·simp only[Sum.inl.injEq]at h;rw[<-h];simp[wrg];omega
  ·cases h
 ·split at h
  ·split at h
   ·rename_i c hc
    simp only[Sum.inl.injEq]at h;rw[<-h];rcases z6Q hc with⟨h1,h2⟩|rfl
    ·exact⟨.inr h1,by simpa [wrg]using h2⟩
    ·exact⟨.inl rfl,by simp[wrg];omega⟩
   ·cases h
  ·split at h
   ·split at h
    ·rename_i c hc
     simp only[Sum.inl.injEq]at h;rw[<-h];obtain⟨h1,h2⟩:=z6O hc;rw[z0N S p (by omega)]at h2;exact⟨.inr h1,by simp[wrg];omega⟩
    ·cases h
   ·split at h
    ·cases h
    ·split at h
     ·cases h
     ·simp only[Sum.inl.injEq]at h;rw[<-h];simp[wrg];omega
abbrev Tr:=(Nat×Nat) ⊕ List Tok
def tkl(S:ByteArray):Nat->Nat->List Tok->Tr
 |0,_,acc=>.inr acc
 |f+1,k,acc=>match bt S k with
  |none=>.inr acc
  |some x=>match Xg S k x with
   | .inl b=>.inl (wrg k b)
   | .inr (t,n)=>tkl S f (sb S n) (acc++[t])
def tks(S:ByteArray)(k:Nat)(acc:List Tok):Tr:=tkl S (S.size-k) k acc
theorem Mq(h:n<=S.size):n<=sb S n/\sb S n<=S.size:=Ld S _ n L0q h
theorem z0P(S:ByteArray):∀(f g k:Nat) (acc:List Tok),S.size-k<=f->S.size-k<=g->tkl S f k acc=tkl S g k acc
 |0,0,_,_,_,_=>rfl
 |0,g+1,k,acc,hf,_=>by rw[tkl,tkl,Ux (by omega)]
 |f+1,0,k,acc,_,hg=>by rw[tkl,tkl,Ux (by omega)]
 |f+1,g+1,k,acc,hf,hg=>by
  rw[tkl,tkl];cases hb:bt S k with
  |none=>rfl
  |some x=>
   have hk:=(Qv hb).1;simp only;cases ht:Xg S k x with
   |inl b=>rfl
   |inr r=>
    obtain⟨t,n⟩:=r;have h1:=Ky hb ht;have h2:=Mq (S:=S) (n:=n) h1.2.1;exact z0P S f g (sb S n) _ (by omega) (by omega)
theorem z6T{acc:List Tok}(h:S.size<=k):tks S k acc=.inr acc:=by
 unfold tks;rw[show S.size-k=0 by omega,tkl]
theorem z6U{acc:List Tok}{b:Bool×(Nat×Nat)}(hb:bt S k=some x)(ht:Xg S k x=.inl b):tks S k acc=.inl (wrg k b):=by
 have hk:=(Qv hb).1;unfold tks;rw[show S.size-k=(S.size-k-1)+1 by omega,tkl,hb];simp only[ht]
theorem z6V{acc:List Tok}{t:Tok}(hb:bt S k=some x)(ht:Xg S k x=.inr (t,n)):tks S k acc=tks S (sb S n) (acc++[t]):=by
 have hk:=(Qv hb).1;have h1:=Ky hb ht;have h2:=Mq (S:=S) (n:=n) h1.2.1;unfold tks;rw[show S.size-k=(S.size-k-1)+1 by omega,tkl,hb];simp only[ht];exact z0P S _ _ _ _ (by omega) (by omega)
def tkE(S:ByteArray)(r:Tr):Tr:=match r with
 | .inl c=>.inl c
 | .inr l=>.inr (l++[(6,{data:=#[]},0,S.size)])
def tkS(S:ByteArray):Tr:=tkE S (tks S (sb S 0) [])
def tvs:List Tok->List Value
 |[]=>[]
 |t::r=>.int .i64 (t.1:Int):: .string t.2.1:: .int .u64 (wd t.2.2.1 0:Nat):: .int .u64 (wd t.2.2.1 1:Nat):: .int .u64 (wd t.2.2.1 2:Nat):: .int .u64 (wd t.2.2.1 3:Nat):: .int .i64 (t.2.2.2:Int)::tvs r
theorem Mx:∀(a b:List Tok),tvs (a++b)=tvs a++tvs b
 |[],b=>rfl
 |p::t,b=>by simp only[List.cons_append,tvs,Mx t b]
theorem z0Q:∀(a:List Tok),(tvs a).length=a.length*7
 |[]=>rfl
 |p::t=>by simp only[tvs,List.length_cons,z0Q t];omega
def z6W(r:Tr)(w:World)(e:Ending)(w':World):Prop:=
 match r with
 | .inr l=>∃v,e=.returned (.tuple #[v,.nilIface])/\Hid (w'.ownsRow w.heap.size 183 7 v l.length (tvs l))/\Hid (Below w.heap.size w w')
 | .inl c=>∃q,e=.returned (.tuple #[.slice none 0 0,flv q])/\Hid (w.heap.size<=q/\Flt w' q c/\Below w.heap.size w w')
theorem Tryz.infoTok:(Tryz.prog.info? 183).map (fun i=>(i.zero,i.size,i.bytes))=some (some (.agg #[.int .i64 0,.string ⟨#[]⟩,.int .u64 0,.int .u64 0,.int .u64 0,.int .u64 0,.int .i64 0]),7,64):=by kernel_rfl
theorem z0R(w:World)(a b c d e f g:Value)(t:TypeId):∀j x,[a,b,c,d,e,f,g][j]? =some x->(w.alloc (.cells #[a,b,c,d,e,f,g] t)).cell? ((⟨w.heap.size,0,none⟩:Addr).add j)=some x:=by
 intro j x hj
 match j,hj with
 |0,hj=>simp at hj;subst hj;simp[Addr.add]
 |1,hj=>simp at hj;subst hj;simp[Addr.add]
 |2,hj=>simp at hj;subst hj;simp[Addr.add]
 |3,hj=>simp at hj;subst hj;simp[Addr.add]
 |4,hj=>simp at hj;subst hj;simp[Addr.add]
 |5,hj=>simp at hj;subst hj;simp[Addr.add]
 |6,hj=>simp at hj;subst hj;simp[Addr.add]
theorem z0S(a:Int)(T:ByteArray)(c0 c1 c2 c3 p:Int):∀u∈[Value.int .i64 a,.string T,.int .u64 c0,.int .u64 c1,.int .u64 c2,.int .u64 c3,.int .i64 p],u.oneCell'=true:=by
 intro u hu;simp at hu;rcases hu with rfl|rfl|rfl|rfl|rfl|rfl|rfl<;>rfl
def Lt(w:World)(v:Value)(l:List Tok)(w':World):Prop:=
 Hid (Below w.heap.size w w')/\Hid (w'.ownsRow w.heap.size 183 7 v l.length (tvs l))
theorem Lt.keep{W w':World}{v:Value}{l:List Tok}(h:Lt w v l W)(hb:Below W.heap.size W w'):Lt w v l w':=
 ⟨hid (h.1.out.trans (hb.mono h.1.out.size)),hid (Uk h.2.out hb)⟩
theorem CE.alloc{w:World}{g f p:Nat}{c:Nat×Nat}(h:CE w g f p c)(o:Obj):CE (w.alloc o) g f p c:=⟨(Below.heap_alloc w o g h.lt).trans h.1,(Below.heap_alloc w o f h.2.lt).trans h.2⟩
theorem z6X(S:ByteArray)(w:World)(h:Xz w)(hS:S.size<=8192):
  Calls prog 56 #[.string S] w fun e w'=>z6W (tkS S) w e w':=by
 obtain⟨iT,hiT,hzT0,hzT1,hzT2⟩:=info_parts Tryz.infoTok;have HE:Hid (Xz w):=h;have HEl:Hid (2<=w.heap.size∨True):=.inr trivial;obtain⟨R,hR⟩:∃R,R=tks S (sb S 0) []:=⟨_,rfl⟩;have HA:Hid (tkS S=tkE S R):=by show _=_;rw[hR];rfl
 have HR:Hid (tks S (sb S 0) []=R):=hR.symm;have hs0:=Mq (S:=S) (n:=0) (Nat.zero_le _);have HK:Hid (∀(k:Nat) (w:World),k<=S.size->Calls prog 95 #[.string S,.int .i64 k] w fun e w'=>e=.returned (.int .i64 ((sb S k:Nat):Int))/\w'=w):=fun k w hk=>z6t S k w hk (by omega)
 have c0:decide ((8192:Int)<(S.size:Int))=false:=by simp;omega
 clear hR h;go_enter func56,ntmps56
 go_wp2_with fail
 refine(HK.out 0 _ (Nat.zero_le _)).mono ?_;rintro e w1 ⟨rfl,hw1⟩;rw[hw1];clear hw1
 go_wp2_with fail
 go_loopw [4,5] (fun v a wr=>∃(k:Nat) (acc:List Tok),a=.int .i64 k/\k<=S.size/\acc.length<=k/\Hid (tks S k acc=R)/\Hid (Lt w v acc wr)) (fun _ a _=>S.size-(intOf a).toNat)
 case atStart=>exact⟨sb S 0,[],rfl,hs0.2,by simp,HR,hid ⟨hid B0q,hid (World.ownsRow_nil _ _ _ _)⟩⟩
 case round=>
  obtain⟨k,acc,rfl,hks,hal,HM,HL⟩:=hrel;clear HR c0;cases hb:bt S k with
  |none=>
   have hge:=Zl hb;have a0:decide ((k:Int)<(S.size:Int))=false:=by simp;omega
   have HF:Hid (tkS S=.inr (acc++[(6,{data:=#[]},0,S.size)])):=by
    show _=_;rw[HA.out,<-HM.out,z6T hge];rfl
   have hsz:w.heap.size<=wr.heap.size:=HL.out.1.out.size;clear hb HM
   go_wp2_with(first|(at_builtin;refine wpList_append_own _ rfl (.tmp 39) (.tmp 43) 120 rfl w.heap.size 183 iT (.agg #[.int .i64 0,.string ⟨#[]⟩,.int .u64 0,.int .u64 0,.int .u64 0,.int .u64 0,.int .i64 0]) 7 64 Tryz.underlying120 hiT hzT0 hzT1 hzT2 rfl (by decide) _ _ _ rfl (HL.out.2.out.alloc _) ⟨wr.heap.size,0,none⟩ 1 1 (tvs [(6,{data:=#[]},0,S.size)]) rfl rfl (by simpa [tvs,Vz]using z0R wr _ _ _ _ _ _ _ 183) (z0S _ _ _ _ _ _ _) (by unfold maxLen;omega) (by omega) (by simp;omega) ?_;intro v3 w3 hown3 hgr3 hnil3))
   (try simp only[Exit.inBlock,Exit.then])
   refine bodyPost_ret (v:=.tuple #[v3,.nilIface]) (by simp[results,Tryz.results56,go_sem]) rfl ?_;rw[HF.out];exact⟨_,rfl,hid (by rw[Mx,List.length_append];exact hown3),hid ((HL.out.1.out.alloc hsz _).grown hgr3 (by simp;omega) (fun y e=>(HL.out.2.out.lt y e).1))⟩
  |some x=>
   have hlt:=(Qv hb).1;have a0:decide ((k:Int)<(S.size:Int))=true:=by simp;omega
   have HT:Hid (∀w:World,Calls prog 96 #[.string S,.int .i64 k] w fun e w'=>Kw (Xg S k x) k w e w'):=fun w=>z6N S k x w hb (by omega)
   cases ht:Xg S k x with
   |inl b=>
    have HF:Hid (tkS S=.inl (wrg k b)):=by
     show _=_;rw[HA.out,<-HM.out,z6U hb ht];rfl
    have hwr:=z6S hb ht;rw[ht]at HT;clear hb ht HM;obtain⟨cl,c⟩:=b;cases cl with
    |false=>
     go_wp2_with fail
     refine(HT.out _).mono ?_;rintro e w2 ⟨f,rfl,HP⟩;have HB2:Hid (Below w.heap.size w w2):=HL.out.1.out.trans (HP.out.2.2.mono HL.out.1.out.size);have hf0:w.heap.size<=f:=Nat.le_trans HL.out.1.out.size HP.out.1;have HF2:Hid (Flt w2 f c):=HP.out.2.1;have HC:=hid (fun o:Obj=>z6M f c (w2.alloc o) (HE.out.below ((HB2.out.alloc HB2.out.size _)) HE.out.lt) ((Below.heap_alloc w2 o f HF2.out.lt).trans HF2.out));clear HP HT HL;unfold flv at HC ⊢
     go_wp2_with fail
     refine(HC.out _).mono ?_;rintro e w3 ⟨rfl,hb3⟩;have HB3:Hid (Below w.heap.size w w3):=(HB2.out.alloc HB2.out.size _).trans (hb3.mono (by have:=HB2.out.size;simp;omega));have HF3:Hid (Flt w3 f c):=(hb3.block f (by have:=HF2.out.lt;simp;omega)).trans ((Below.heap_alloc w2 _ f HF2.out.lt).trans HF2.out);clear hb3 HC
     go_wp2_with fail
     (try simp only[Exit.inBlock,Exit.then])
     refine bodyPost_ret (v:=.tuple #[.slice none 0 0,.iface 95 (.pointer (some ⟨f,0,none⟩))]) (by simp[results,Tryz.results56,go_sem]) rfl ?_;rw[HF.out];exact⟨f,rfl,hid ⟨hf0,HF3.out,HB3.out⟩⟩
    |true=>
     go_wp2_with fail
     refine(HT.out _).mono ?_;rintro e w2 ⟨g,f,rfl,HP⟩;have hg0:w.heap.size<=g:=Nat.le_trans HL.out.1.out.size HP.out.1;have HB2:Hid (Below w.heap.size w w2):=HL.out.1.out.trans (HP.out.2.2.2.mono HL.out.1.out.size);have HF2:Hid (CE w2 g f k c):=HP.out.2.2.1;have HC:=hid (fun o:Obj=>z6K g f k c (w2.alloc o) (HE.out.below ((HB2.out.alloc HB2.out.size _)) HE.out.lt) (HF2.out.alloc o) (by have:=hwr.2;simp[wrg]at this;omega));clear HP HT HL
     go_wp2_with fail
     refine(HC.out _).mono ?_;rintro e w3 ⟨q,rfl,HP3⟩;have HB3:Hid (Below w.heap.size w w3):=(HB2.out.alloc HB2.out.size _).trans (HP3.out.2.2.mono (by have:=HB2.out.size;simp;omega));have hq0:w.heap.size<=q:=by have h1:=HP3.out.1;have h2:=HB2.out.size;simp at h1;omega
     have HF3:Hid (Flt w3 q (c.1,k+c.2)):=HP3.out.2.1;clear HP3 HC;unfold flv
     go_wp2_with fail
     (try simp only[Exit.inBlock,Exit.then])
     refine bodyPost_ret (v:=.tuple #[.slice none 0 0,.iface 95 (.pointer (some ⟨q,0,none⟩))]) (by simp[results,Tryz.results56,go_sem]) rfl ?_;rw[HF.out];exact⟨q,rfl,hid ⟨hq0,HF3.out,HB3.out⟩⟩
   |inr r=>
    obtain⟨t,n⟩:=r;obtain⟨q1,q2,q3,q4,q5,q6,q7⟩:=Ky hb ht;have HM2:Hid (tks S (sb S n) (acc++[t])=R):=by show _=_;rw[<-HM.out,z6V hb ht]
    have hsn:=Mq (S:=S) (n:=n) q2;rw[ht]at HT;clear hb ht HM
    go_wp2_with fail
    refine(HT.out _).mono ?_;rintro e w2 ⟨rfl,hb2⟩;have HL2:=hid (HL.out.keep hb2);clear hb2 HL HT;obtain⟨kd,T,C,p⟩:=t;have q4':p=k:=q4;rw[q4']at HM2 ⊢;clear q4 q4';dsimp only[tkv];have hsz:w.heap.size<=w2.heap.size:=HL2.out.1.out.size
    go_wp2_with(first|(at_builtin;refine wpList_append_own _ rfl (.tmp 32) (.tmp 34) 120 rfl w.heap.size 183 iT (.agg #[.int .i64 0,.string ⟨#[]⟩,.int .u64 0,.int .u64 0,.int .u64 0,.int .u64 0,.int .i64 0]) 7 64 Tryz.underlying120 hiT hzT0 hzT1 hzT2 rfl (by decide) _ _ _ rfl ((HL2.out.2.out.alloc _).alloc _) ⟨w2.heap.size+1,0,none⟩ 1 1 (tvs [(kd,T,C,k)]) rfl rfl (by have:=z0R (w2.alloc (.cells #[.int .i64 kd,.string T,.int .u64 (wd C 0),.int .u64 (wd C 1),.int .u64 (wd C 2),.int .u64 (wd C 3),.int .i64 k] 183));simpa [tvs]using this _ _ _ _ _ _ _ 183) (z0S _ _ _ _ _ _ _) (by unfold maxLen;omega) (by omega) (by simp;omega) ?_;intro v3 w3 hown3 hgr3 hnil3))
    have HL3:Hid (Lt w v3 (acc++[(kd,T,C,k)]) w3):=by
     refine⟨hid (((HL2.out.1.out.alloc hsz _).alloc (by simp;omega) _).grown hgr3 (by simp;omega) (fun y e=>(HL2.out.2.out.lt y e).1)),hid ?_⟩;rw[Mx,List.length_append];exact hown3
    clear hown3 hgr3 hnil3 HL2;have HKn:=hid (HK.out n w3 q2);refine HKn.out.mono ?_;rintro e w4 ⟨rfl,hw4⟩;rw[hw4];clear hw4
    go_wp2_with fail
    go_roundw
    case rel=>exact⟨sb S n,acc++[(kd,T,C,k)],rfl,hsn.2,by simp;omega,HM2,HL3⟩
    case measure=>simp[intOf];omega
end Go.Proofs.YtlogolpcipiceaaGreatDoor
