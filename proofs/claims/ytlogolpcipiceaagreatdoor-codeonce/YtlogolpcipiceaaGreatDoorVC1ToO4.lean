/- Lemmas for the last text. Conditions: those that each names. -/
import Derived.Test.YtlogolpcipiceaaGreatDoorVS1ToO3
import Derived.DeepKeys4
import Derived.Lib.ItoaNum
import Derived.Maps.OwnIn
import Derived.Shelf.Strconv.AppendIntPublic10
import Derived.BigRegionIn
set_option linter.unusedVariables false
set_option maxRecDepth 100000
namespace Go.Proofs.YtlogolpcipiceaaGreatDoor
open Go.Proofs.Tryz
open Go.RowKit Go.Shelf Go.Maps
variable {W:World} {B:Nat}
abbrev Ox:=Int×ByteArray×(Int×Int×Int×Int)×List Int
def sbT:List Int->List UInt8
 |[]=>[]
 |i::r=>Lib.itoa i++32::sbT r
def qB(o:Ox):List UInt8:=keyBytes [.int .i64 o.1,.string o.2.1.data.toList,.int .u64 o.2.2.1.1,.int .u64 o.2.2.1.2.1,.int .u64 o.2.2.1.2.2.1,.int .u64 o.2.2.1.2.2.2,.string (sbT o.2.2.2)]
def qV(o:Ox):Value:=.agg #[.int .i64 o.1,.string o.2.1,.int .u64 o.2.2.1.1,.int .u64 o.2.2.1.2.1,.int .u64 o.2.2.1.2.2.1,.int .u64 o.2.2.1.2.2.2,.string ⟨(sbT o.2.2.2).toArray⟩]
def qW(o:Ox):Prop:=(Lit.int .i64 o.1).wf=true/\o.2.1.size<=maxLen/\(Lit.int .u64 o.2.2.1.1).wf=true/\(Lit.int .u64 o.2.2.1.2.1).wf=true/\(Lit.int .u64 o.2.2.1.2.2.1).wf=true/\(Lit.int .u64 o.2.2.1.2.2.2).wf=true/\(sbT o.2.2.2).length<=maxLen
theorem Tryz.deepKey:Tryz.prog.keyType 129=true:=by kernel_rfl
theorem Tryz.rowKey:(129:TypeId)<Tryz.prog.types.size:=of_decide_eq_true (by kernel_rfl)
theorem Tryz.wideKey:(match Tryz.prog.underlying 129 with|some (.array _ _)|some (.struct _)=>true|_=>false)=true:=by kernel_rfl
theorem z9k(hl:laidOutB prog=true):Keyed prog 129:=Keyed.of_law (deep_law_laid hl (m:=4) (by omega) Tryz.rowKey (by kernel_rfl) Tryz.wideKey)
theorem Tryz.keyN:∃n,Tryz.prog.types.size+1=n+1+1+1:=⟨_,rfl⟩
theorem Tryz.cells3:Tryz.prog.cellsOf 3=1:=by kernel_rfl
theorem Tryz.cells9:Tryz.prog.cellsOf 9=1:=by kernel_rfl
theorem Tryz.cellsCl:Tryz.prog.cellsOf 68=4:=by kernel_rfl
theorem Tryz.cellsU:Tryz.prog.cellsOf 66=1:=by kernel_rfl
theorem Tryz.cellsKey:Tryz.prog.cellsOf 129=7:=by kernel_rfl
theorem z9l(n:Nat)(x:Int)(h:(Lit.int .i64 x).wf=true):Tryz.prog.keyLits (n+1) 3 [.int .i64 x]=some [.int .i64 x]:=by
 unfold Program.keyLits;simp only[Tryz.underlying3];simp[h]
theorem z2h(n:Nat)(x:ByteArray)(h:x.size<=maxLen):Tryz.prog.keyLits (n+1) 9 [.string x]=some [.string x.data.toList]:=by
 unfold Program.keyLits;simp only[Tryz.underlying9];simp[h]
theorem Cc(n:Nat)(x:Int)(h:(Lit.int .u64 x).wf=true):Tryz.prog.keyLits (n+1) 66 [.int .u64 x]=some [.int .u64 x]:=by
 unfold Program.keyLits;simp only[Tryz.underlying66];simp[h]
theorem z9m(n:Nat)(a b c d:Int)(ha:(Lit.int .u64 a).wf=true)(hb:(Lit.int .u64 b).wf=true)(hc:(Lit.int .u64 c).wf=true)(hd:(Lit.int .u64 d).wf=true):Tryz.prog.keyLits (n+1+1) 68 [.int .u64 a,.int .u64 b,.int .u64 c,.int .u64 d]=some [.int .u64 a,.int .u64 b,.int .u64 c,.int .u64 d]:=by
 unfold Program.keyLits;simp only[Tryz.underlying68];simp only[List.length_cons,List.length_nil,Tryz.cellsCl,Tryz.cellsU,Nat.zero_add,Nat.reduceAdd,if_true];rw[show List.range 4=[0,1,2,3]from rfl];simp[Cc n _ ha,Cc n _ hb,Cc n _ hc,Cc n _ hd]
theorem z2i(o:Ox)(h:qW o):keyOf prog 129 (qV o)=some (.string (qB o)):=by
 obtain⟨h1,h2,h3,h4,h5,h6,h7⟩:=h;obtain⟨n,hn⟩:=Tryz.keyN;have hf:(qV o).formed prog 129=true:=by simp[Value.formed,qV,Tryz.underlying129,Tryz.cellsKey]
 have hk:Tryz.prog.keyLits (n+1+1+1) 129 (qV o).cells.toList=some [.int .i64 o.1,.string o.2.1.data.toList,.int .u64 o.2.2.1.1,.int .u64 o.2.2.1.2.1,.int .u64 o.2.2.1.2.2.1,.int .u64 o.2.2.1.2.2.2,.string (sbT o.2.2.2)]:=by
  unfold Program.keyLits;simp only[Tryz.underlying129];have e1:=z9l (n+1) _ h1;have e2:=z2h (n+1) _ h2;have e3:=z9m n _ _ _ _ h3 h4 h5 h6;have e4:=z2h (n+1) ⟨(sbT o.2.2.2).toArray⟩ (by simpa [ByteArray.size]using h7);simp only[qV,Value.cells,Tryz.cellsKey,List.length_cons,List.length_nil,Nat.zero_add,Nat.reduceAdd];simp[Tryz.cells3,Tryz.cells9,Tryz.cellsCl,e1,e2,e3,e4]
 unfold keyOf;rw[Tryz.deepKey,hf,hn,hk,Tryz.underlying129];rfl
theorem Tryz.laidOutC:laidOutB prog=true:=by kernel_rfl
theorem z2j:Keyed prog 129:=z9k Tryz.laidOutC
def ixA(s:List UInt8):List (List UInt8)->Nat
 |[]=>0
 |a::r=>if a=s then 0 else ixA s r+1
def inA(s:List UInt8):List (List UInt8)->Bool
 |[]=>false
 |a::r=>if a=s then true else inA s r
theorem z2k(s x:List UInt8):∀l,inA s (l++[x])=(inA s l||decide (x=s))
 |[]=>by rw[List.nil_append,inA,inA,inA];by_cases h:x=s<;>simp[h]
 |a::r=>by rw[List.cons_append,inA,inA,z2k s x r];by_cases h:a=s<;>simp[h]
theorem z2l(s x:List UInt8):∀l,ixA s (l++[x])=if inA s l then ixA s l else if x=s then l.length else l.length+1
 |[]=>by rw[List.nil_append,ixA,inA];by_cases h:x=s<;>simp[h,ixA]
 |a::r=>by
  rw[List.cons_append,ixA,ixA,inA,z2l s x r];by_cases h:a=s
  ·simp[h]
  ·simp only[h,if_false]
   by_cases h2:inA s r=true
   ·simp[h2]
   ·by_cases h3:x=s<;>simp[h2,h3]
theorem z2m(s:List UInt8):∀l,inA s l=true->ixA s l<l.length
 |[],h=>by simp[inA]at h
 |a::r,h=>by
  rw[inA]at h;rw[ixA];by_cases h2:a=s
  ·simp[h2]
  ·rw[if_neg h2]at h ⊢
   have:=z2m s r h;simp only[List.length_cons];omega
theorem z2n{s:List UInt8}:∀{l},s∈l->inA s l=true
 |a::r,h=>by
  rw[inA];by_cases h2:a=s
  ·simp[h2]
  ·rw[if_neg h2]
   rcases List.mem_cons.1 h with rfl|h
   ·exact absurd rfl h2
   ·exact z2n h
def Pk(W:World)(B:Nat)(l:List (List UInt8)):Prop:=∃D:DataW Unit,W.ownsMap prog 129 (plainElem prog 3) B l.length D/\∀s,Maps.has D (.string s)=inA s l/\(inA s l=true->D.atKey (.string s) (.lit (.int .i64 0))=.lit (.int .i64 (ixA s l:Nat)))
theorem Pk.made(w:World):Pk (w.alloc (.map #[] 0)) w.heap.size []:=⟨.map [],World.ownsMap_made w _ _ _,fun s=>⟨rfl,fun h=>by simp[inA]at h⟩⟩
theorem Pk.lt{W:World}{B:Nat}{l:List (List UInt8)}(h:Pk W B l):B<W.heap.size:=by
 obtain⟨D,h1,_⟩:=h;exact h1.lt
theorem Pk.same{W':World}{l:List (List UInt8)}(h:Pk W B l)(hb:W'.heap[B]? =W.heap[B]?):Pk W' B l:=by
 obtain⟨D,⟨es,ck,h1,h2,h3,h4⟩,h5⟩:=h;exact⟨D,⟨es,ck,hb.trans h1,h2,h3,h4⟩,h5⟩
theorem Pk.upd{l:List (List UInt8)}{o:Ox}(h:Pk W B l)(hn:inA (qB o) l=false)(hs:qW o)(hl:l.length<maxLen):∃W',(Instr.mapUpdate 81 (.map (some B)) (qV o) (.int .i64 (l.length:Nat))).run prog W=.ok () W'/\Pk W' B (l++[qB o])/\W.grownBy W' (some B):=by
 obtain⟨D,h1,h2⟩:=h;obtain⟨W',h3,h4,h5⟩:=h1.update z2j Tryz.underlying81 hl (z2i o hs) (plainElem_int Tryz.underlying3 (a:=((l.length:Nat):Int)) (WalkArith.wf_i64 (by unfold maxLen at hl;omega)));refine⟨W',h3,⟨_,by rw[List.length_append];exact h4,fun x=> ?_⟩,h5⟩;rw[z2k,z2l];by_cases e:qB o=x
 ·subst e
  rw[hn];refine⟨by rw[Maps.has_put_same h1.isMap (show WideAt.IsKeyLit (.string (qB o))from trivial)];simp,fun _=> ?_⟩;rw[Maps.atKey_put_same h1.isMap (show WideAt.IsKeyLit (.string (qB o))from trivial)];simp
 ·have hne:(Lit.string x)≠.string (qB o):=fun h=>e (Lit.string.inj h).symm
  rw[Maps.has_put_other hne,Maps.atKey_put_other hne,(h2 x).1];refine⟨by simp[e],fun h=> ?_⟩;have h':inA x l=true:=by simpa [e]using h
  rw[(h2 x).2 h',if_pos h']
theorem Pk.look{l:List (List UInt8)}{o:Ox}(h:Pk W B l)(hs:qW o):(Instr.lookup 81 (.map (some B)) (qV o) true).run prog W=.ok (.tuple #[.int .i64 (if inA (qB o) l then(ixA (qB o) l:Int)else 0),.bool (inA (qB o) l)]) W:=by
 obtain⟨D,h1,h2⟩:=h;obtain⟨v,ps,hrun,hv⟩:=h1.look_ok z2j Tryz.underlying81 (Mw W) (plainElem_int Tryz.underlying3 (a:=0) (WalkArith.wf_i64 (by omega))) (z2i o hs);obtain⟨c,rfl,hc,_⟩:=plainElem_int_inv Tryz.underlying3 hv;have hc':=congrArg Prod.fst hc;rw[hrun,(h2 (qB o)).1];cases hi:inA (qB o) l with
 |true=>
  rw[(h2 (qB o)).2 hi]at hc';have e1:=(Lit.int.inj (DataW.lit.inj hc')).2;subst e1;rfl
 |false=>
  rw[Maps.atKey_of_not_has (by rw[(h2 (qB o)).1];exact hi)]at hc';have e1:=(Lit.int.inj (DataW.lit.inj hc')).2;subst e1;rfl
def plO(o:Ox)(ops:List Ox):Nat×List Ox:=if inA (qB o) (ops.map qB)then(ixA (qB o) (ops.map qB),ops)else(ops.length,ops++[o])
mutual
def mkT(ix:ByteArray->Int):RT->List Ox->Nat×List Ox
 | .mk k T a b c d s _,ops=>if k=5 then plO (5,{data:=#[]},(0,0,0,0),[ix T]) ops else plO (k,T,(a,b,c,d),(mkL ix s ops).1) (mkL ix s ops).2
def mkL(ix:ByteArray->Int):List RT->List Ox->List Int×List Ox
 |[],ops=>([],ops)
 |t::r,ops=>(((mkT ix t ops).1:Int)::(mkL ix r (mkT ix t ops).2).1,(mkL ix r (mkT ix t ops).2).2)
end
def mkG(ix:ByteArray->Int):List Rr->List Ox->List Int×List Ox
 |[],ops=>([],ops)
 |x::r,ops=>(((mkT ix x.2.1 ops).1:Int)::(mkG ix r (mkT ix x.2.1 ops).2).1,(mkG ix r (mkT ix x.2.1 ops).2).2)
end Go.Proofs.YtlogolpcipiceaaGreatDoor
namespace Go.Proofs
open Go.Shelf
shelf_lay LaysM.n176 Nm 176 at Tryz as Tryz.laysM176
end Go.Proofs
namespace Go.Proofs.YtlogolpcipiceaaGreatDoor
open Go.Proofs.Tryz
open Go.RowKit Go.Shelf Go.Maps
variable {w w':World} {base:Nat}
def Yj(w:World):Prop:=Lib.TabIs prog w "internal/strconv.uint64pow10" .u64 Lib.pow10Tab
theorem Yj.below(h:Yj w)(hb:Below w.heap.size w w'):Yj w':=Lib.tabBelow_of_tabIs h w' hb
theorem z9n(B n:Nat)(i:Int)(h0: -9223372036854775808<=i)(h1:i<=9223372036854775807)(sv:Value)(xs:List Value)(w0 w:World)(hown:w.ownsRow B 5 1 sv n xs)(hB:w0.heap.size<=B)(hBw:B<=w.heap.size)(hb:Below w0.heap.size w0 w)(hlim:n+21<=140737488355328)(ht:Yj w0):
  Calls prog 105 #[sv,.int .i64 i,.int .i64 10] w fun e w'=>∃v',e=.returned v'/\w'.ownsRow B 5 1 v' (n+(Lib.itoa i).length) (xs++Lib.byteCells (Lib.itoa i))/\Below B w w':=
 (Any.strconv_AppendInt_10 Tryz.laysM176 B n i h0 h1 sv xs w hown hBw hlim (fun w' hw'=>ht.below (hb.trans (hw'.mono hB)))).mono fun e w' ⟨v',h1,h2,h3,_⟩=>⟨v',h1,h2,h3⟩
def nmL(rs:List Rr):List ByteArray:=rs.map (·.1)
def Ym(l:List ByteArray):List Rr->Option Int
 |[]=>none
 |x::r=>if inN x.1 l then some x.2.2 else Ym (l++[x.1]) r
def Dx(rs:List Rr):Option Int:=Ym [] rs
theorem z2o(l:List ByteArray)(rs:List Rr)(j:Nat)(hj:j<rs.length):Ym l (rs.drop j)=if inN rs[j].1 l then some rs[j].2.2 else Ym (l++[rs[j].1]) (rs.drop (j+1)):=by
 rw[List.drop_eq_getElem_cons hj,Ym]
theorem z2p(rs:List Rr)(j:Nat)(hj:j<rs.length):nmL (rs.take (j+1))=nmL (rs.take j)++[rs[j].1]:=by
 unfold nmL;rw[show rs.take (j+1)=rs.take j++[rs[j]] by simp,List.map_append];rfl
def rfG:List Rr->List (ByteArray×Int)
 |[]=>[]
 |x::r=>rfT x.2.1++rfG r
theorem Rx:∀(a b:List Rr),rfG (a++b)=rfG a++rfG b
 |[],b=>by rw[List.nil_append,rfG,List.nil_append]
 |x::r,b=>by rw[List.cons_append,rfG,rfG,Rx r b,List.append_assoc]
theorem z9o(s:List Rr)(j:Nat)(hj:j<s.length):rfG (s.take (j+1))=rfG (s.take j)++rfT s[j].2.1:=by
 rw[show s.take (j+1)=s.take j++[s[j]] by simp,Rx,rfG,rfG,List.append_nil]
def Zp(l:List ByteArray):List (ByteArray×Int)->Option Int
 |[]=>none
 |x::r=>if inN x.1 l then Zp l r else some x.2
theorem Kz(l:List ByteArray):∀(a b:List (ByteArray×Int)),Zp l (a++b)=match Zp l a with|some p=>some p|none=>Zp l b
 |[],b=>by rw[List.nil_append,Zp]
 |x::r,b=>by
  rw[List.cons_append,Zp,Zp,Kz l r b];by_cases h:inN x.1 l=true
  ·rw[if_pos h,if_pos h]
  ·rw[if_neg h,if_neg h]
def ckR(rs:List Rr):Option (Int×Int):=match Dx rs with
 |some p=>some (30,p)
 |none=>match Zp (nmL rs) (rfG rs)with
  |some p=>some (31,p)
  |none=>none
def CkP(w:World)(rs:List Rr)(e:Ending)(w':World):Prop:=Below w.heap.size w w'/\
 ((∃c p g,ckR rs=some (c,p)/\e=.returned (.tuple #[.map none,.iface 95 (.pointer (some ⟨g,0,none⟩))])/\w.heap.size<=g/\w'.heap[g]? =some (.cells #[.int .i64 c,.int .i64 p] 98))∨
  (∃M,ckR rs=none/\e=.returned (.tuple #[.map (some M),.nilIface])/\w.heap.size<=M/\Pm w' M (nmL rs)))
def Kp3(w W2:World)(M:Nat)(wr:World):Prop:=Below w.heap.size w wr/\M+1+1<=wr.heap.size/\(∀k,k<M->wr.heap[k]? =W2.heap[k]?)/\wr.heap[M+1]? =W2.heap[M+1]?
theorem Kp3.step{w W2 wr w1:World}{M:Nat}{o:Obj}(h:Kp3 w W2 M wr)(hg:(wr.alloc o).grownBy w1 (some M))(hM:w.heap.size<=M):Kp3 w W2 M w1:=by
 obtain⟨h1,h2,h3,h4⟩:=h;have hs:=hg.size;rw[World.size_alloc]at hs;refine⟨(h1.alloc h1.size _).grown hg (by rw[World.size_alloc];have:=h1.size;omega) (fun j e=>by cases e;exact hM),by omega,fun k hk=> ?_,?_⟩
 ·exact(hg.block k (by rw[World.size_alloc];omega) (fun e=>by cases e;omega)).trans ((Below.heap_alloc _ _ _ (by omega)).trans (h3 k hk))
 ·exact(hg.block _ (by rw[World.size_alloc];omega) (fun e=>by simp at e)).trans ((Below.heap_alloc _ _ _ (by omega)).trans h4)
theorem z9p(n:Int)(w:World):(Instr.makeMap 300 (some (.int .i64 n))).run prog w=.ok (.map (some w.heap.size)) (w.alloc (.map #[] 0)):=by kernel_rfl
def Mks(base:Nat):Nat->List Deferred->World->Prop
 |_,[],_=>True
 |lim,d::ds,w=>∃D,d={target:=.collected D,args:=#[]}/\base<=D/\D<lim/\w.heap[D]? =some (.deferred (some []))/\Mks base D ds w
theorem Mks.kept{base:Nat}:∀{lim:Nat} {ds:List Deferred} {w w':World},Mks base lim ds w->(∀D,D<lim->w.heap[D]? =some (.deferred (some []))->w'.heap[D]? =some (.deferred (some [])))->Mks base lim ds w'
 |_,[],_,_,_,_=>trivial
 |lim,d::ds,w,w',h,hk=>by
  obtain⟨D,h1,h2,h3,h4,h5⟩:=h;exact⟨D,h1,h2,h3,hk D h3 h4,h5.kept fun D' hD h=>hk D' (by omega) h⟩
theorem Mks.below{S:Nat}{ds:List Deferred}(h:Mks base S ds w)(hb:Below S w w'):Mks base S ds w':=h.kept fun D hD e=>(hb.block D hD).trans e
theorem Mks.mono:∀{lim lim':Nat} {ds:List Deferred} {w:World},Mks base lim ds w->lim<=lim'->Mks base lim' ds w
 |_,_,[],_,_,_=>trivial
 |_,_,d::ds,w,⟨D,h1,h2,h3,h4,h5⟩,hl=>⟨D,h1,h2,Nat.lt_of_lt_of_le h3 hl,h4,h5⟩
def Dk(base:Nat)(w w':World):Prop:=Below base w w'/\∀(k:Nat) (o:Obj),w.heap[k]? =some o->(∀l,o≠.deferred l)->w'.heap[k]? =some o
theorem Ez{F:Fence}{n:Nat}{P:Program}{fn:Func}{tmps:Array Value}{R:Ending->World->Prop}{base:Nat}:∀(ds:List Deferred) (lim:Nat) (w:World),Mks base lim ds w->(∀w',Dk base w w'->∃v,(results fn tmps).run P w'=.ok v w'/\R (.returned v) w')->LeavesInM F n P fn tmps R ds .returning w
 |[],_,w,_,h=>h w ⟨Below.refl _ _,fun _ _ h _=>h⟩
 |d::ds,lim,w,⟨D,h1,h2,h3,h4,h5⟩,h=>by
  refine⟨by simp,.inl ⟨D,_,by rw[h1],run_takeDeferred h4,?_⟩⟩;have hb:Below base w (w.putObj D (.deferred none)):=(Below.refl base w).grown (grownBy_putObj' w D _) (by have:=(Array.getElem?_eq_some_iff.1 h4).1;omega) (fun k e=>by cases e;omega);refine Ez ds D _ (h5.kept fun D' hD e=>(World.putObj_heap_other (by omega)).trans e) fun w' hk=>h w' ⟨hb.trans hk.1,fun k o ho hne=>hk.2 k o ?_ hne⟩
  refine(World.putObj_heap_other fun e=> ?_).trans ho;subst e;rw[h4]at ho;cases ho;exact hne _ rfl
theorem Dk.box{B:Nat}{t:TypeId}{v:Value}(h:Dk base w w')(hb:Boxed w B t v):Boxed w' B t v:=h.2 B _ hb (fun l e=>by cases e)
theorem Dk.pm{B:Nat}{l:List ByteArray}(h:Dk base w w')(hp:Pm w B l):Pm w' B l:=by
 obtain⟨D,⟨es,ck,h1,h2,h3,h4⟩,h5⟩:=hp;exact⟨D,⟨es,ck,h.2 B _ h1 (fun l e=>by cases e),h2,h3,h4⟩,h5⟩
theorem Kp3.below{W2 W W':World}{M S:Nat}(h:Kp3 w W2 M W)(hb:Below S W W')(h1:w.heap.size<=S)(h2:M+1+1<=S):Kp3 w W2 M W':=
 ⟨h.1.trans (hb.mono h1),by have:=hb.size;have:=h.2.1;omega,fun k hk=>(hb.block k (by omega)).trans (h.2.2.1 k hk),(hb.block _ (by omega)).trans h.2.2.2⟩
end Go.Proofs.YtlogolpcipiceaaGreatDoor
