/- Lemmas for the last text. Conditions: those that each names. -/
import Derived.Test.YtgmcjddjdidpjabGreatDoorVS1ToO1
import Derived.Maps.OwnIn
import Derived.Maps.Own
import Derived.Maps.OwnOps
import Derived.Maps.OwnSet
import Derived.BigRegionIn
import Derived.Test.YtgmcjddjdidpjabGreatDoorVY5ToY7
import Derived.Deep.RegionHeld3
import Derived.Test.YtgmcjddjdidpjabGreatDoorVKPlainToKG2
import Derived.ProofKit
set_option linter.unusedVariables false
set_option maxRecDepth 100000
set_option maxHeartbeats 8000000
namespace Go.Proofs.YtgmcjddjdidpjabGreatDoor
open Go.Proofs.Tryz
section
open Go.RowKit Go.Shelf
attribute [local go_sem] Oper.semAt_some
section
variable {s0 l N:Nat} {J Jx:List Nq->World->Prop}
theorem y0j(hY:Yr s0 l N J Jx)(t:RT)(k:Int)(T:ByteArray)(a b c d:Int)(so:Option Addr)(n cap:Nat)(p:Int)(m Bt:Nat)(W:World)(hb:W.heap[Bt]? =some (.cells #[.int .i64 k,.string T,.int .u64 a,.int .u64 b,.int .u64 c,.int .u64 d,.slice so n cap,.int .i64 p] 30))(ht:Qk W s0 t (r8 k T a b c d so n cap p))(hz:RtZ t)(hJ:J [] W)(hl:(rfT t).length<=N):
  CallsIn Fence.wide m prog 167 #[.func (.yield l) #[] #[],.pointer (some ⟨Bt,0,none⟩)] W fun e W'=>(∃v,e=.returned v)/\((∃q,tps q=rfT t/\J q W')∨∃q,tps q<+:rfT t/\Jx q W'):=by
 have hdd:=Xg;have HS:=hid (z3d hY _ t (Nat.lt_succ_self _) (m-1) _ [] W ht hz hJ (by simpa using hl));obtain⟨⟨c0,c1,c2,c3,c4,c5,c6,c7⟩,_⟩:=Qv hb;clear hY ht hz hJ hl;dsimp only[r8]at HS;refine callsIn_of_wp func167 rfl trivial ?_ rfl;simp only[ntmps167,List.size_toArray,List.length_cons,List.length_nil,Nat.reduceAdd,Nat.reduceSub,Array.replicate_succ,Array.replicate_zero,List.push_toArray,List.append_toArray,List.nil_append,List.cons_append]
 gi_wp2
 refine⟨trivial,hdd _,HS.out.mono ?_⟩;clear HS;rintro e W4 (⟨rfl,⟨q2,hq2,hJ2⟩,hk4⟩|⟨rfl,q2,hq2,hx4⟩)
 ·gi_wp2
  go_end0
  exact⟨⟨_,rfl⟩,.inl ⟨q2,hq2,hJ2⟩⟩
 ·gi_wp2
  go_end0
  exact⟨⟨_,rfl⟩,.inr ⟨q2,hq2,hx4⟩⟩
end
theorem y0k{s0:Nat}(t:RT)(k:Int)(T:ByteArray)(a b c d:Int)(so:Option Addr)(n cap:Nat)(p:Int)(m Bt:Nat)(w:World)(hb:w.heap[Bt]? =some (.cells #[.int .i64 k,.string T,.int .u64 a,.int .u64 b,.int .u64 c,.int .u64 d,.slice so n cap,.int .i64 p] 30))(ht:Qk w s0 t (r8 k T a b c d so n cap p))(hz:RtZ t):
  SeqStopsK Fence.wide m prog 167 #[.pointer (some ⟨Bt,0,none⟩)] (fun x:Nq=>#[x.v]) (Kt s0) (fun ys=>tps ys=rfT t) (fun pre=>tps pre<+:rfT t) (rfT t).length w:=by
 intro l J Jx W hW hJ hJx hY h0;have hk:=Kt.below (s0:=s0) hW;have yl:Yr s0 l (rfT t).length J Jx:=by
  refine⟨fun s A B h hg=>hJ s A B none h hg (fun r e=>by cases e),fun m' pre x W1 h hl=> ?_⟩;refine YieldAt.mono (Sy rfl m' (hY pre x W1 h hl)) fun e' W' hh=> ?_
  rcases hh with⟨h1,h2,h3⟩|⟨h1,h2⟩
  ·exact .inl ⟨h1,h2,h3⟩
  ·exact .inr ⟨h1,h2⟩
 refine(y0j yl t k T a b c d so n cap p m Bt W (hk.eight hb) (Qk.kept (fun g o u hg hu=>hk.cell hg hu) _ _ ht) hz h0 L0q).mono fun e W' h=> ?_
 exact⟨h.1,h.2⟩
theorem y0l(m:Nat)(k:Int)(T:ByteArray)(a b c d:Int)(so:Option Addr)(n cap:Nat)(p:Int)(w:World):CallsIn Fence.wide m prog 151 #[.agg #[.int .i64 k,.string T,.int .u64 a,.int .u64 b,.int .u64 c,.int .u64 d,.slice so n cap,.int .i64 p]] w fun e w'=>e=.returned (.func (.func 167) #[] #[.pointer (some ⟨w.heap.size,0,none⟩)])/\w'=w.alloc (.cells #[.int .i64 k,.string T,.int .u64 a,.int .u64 b,.int .u64 c,.int .u64 d,.slice so n cap,.int .i64 p] 30):=by
 refine callsIn_of_wp func151 rfl trivial ?_ rfl;simp only[ntmps151,List.size_toArray,List.length_cons,List.length_nil,Nat.reduceAdd,Nat.reduceSub,Array.replicate_succ,Array.replicate_zero,List.push_toArray,List.append_toArray,List.nil_append,List.cons_append]
 gi_wp2
 go_ret;exact⟨rfl,rfl⟩
end
open Go.RowKit Go.Shelf Go.Maps
theorem Fq:Keyed prog 9:=string_keyed Tryz.underlying9
theorem Ad(w:World):(zeroValue 3).run prog w=.ok (.int .i64 0) w:=by kernel_rfl
def kls(s:ByteArray):Lit:=.string s.data.toList
theorem z3e{a b:ByteArray}(h:kls a=kls b):a=b:=by
 unfold kls at h;injection h with h
 apply ByteArray.ext;exact Array.toList_inj.1 h
theorem Tz(s:ByteArray):WideAt.IsKeyLit (kls s):=trivial
theorem Fx{s:ByteArray}(h:s.size<=maxLen):keyOf prog 9 (.string s)=some (kls s):=WideMaps.keyOf_string_mk Tryz.underlying9 h
def ixN(s:ByteArray):List ByteArray->Nat
 |[]=>0
 |a::r=>if a=s then 0 else ixN s r+1
def inN(s:ByteArray):List ByteArray->Bool
 |[]=>false
 |a::r=>if a=s then true else inN s r
theorem z3f(s x:ByteArray):∀l,inN s (l++[x])=(inN s l||decide (x=s))
 |[]=>by rw[List.nil_append,inN,inN,inN];by_cases h:x=s<;>simp[h]
 |a::r=>by rw[List.cons_append,inN,inN,z3f s x r];by_cases h:a=s<;>simp[h]
theorem z3g(s x:ByteArray):∀l,ixN s (l++[x])=if inN s l then ixN s l else if x=s then l.length else l.length+1
 |[]=>by rw[List.nil_append,ixN,inN];by_cases h:x=s<;>simp[h,ixN]
 |a::r=>by
  rw[List.cons_append,ixN,ixN,inN,z3g s x r];by_cases h:a=s
  ·simp[h]
  ·simp only[h,if_false]
   by_cases h2:inN s r=true
   ·simp[h2]
   ·by_cases h3:x=s<;>simp[h2,h3]
theorem Tj(s:ByteArray):∀l,inN s l=true->ixN s l<l.length
 |[],h=>by simp[inN]at h
 |a::r,h=>by
  rw[inN]at h;rw[ixN];by_cases h2:a=s
  ·simp[h2]
  ·rw[if_neg h2]at h ⊢
   have:=Tj s r h;simp only[List.length_cons];omega
def Pm(W:World)(B:Nat)(l:List ByteArray):Prop:=∃D:DataW Unit,W.ownsMap prog 9 (plainElem prog 3) B l.length D/\∀s,Maps.has D (kls s)=inN s l/\(inN s l=true->D.atKey (kls s) (.lit (.int .i64 0))=.lit (.int .i64 (ixN s l:Nat)))
theorem Pm.made(w:World):Pm (w.alloc (.map #[] 0)) w.heap.size []:=⟨.map [],World.ownsMap_made w _ _ _,fun s=>⟨rfl,fun h=>by simp[inN]at h⟩⟩
theorem Pm.kept{W W':World}{B:Nat}{l:List ByteArray}{row:Option Nat}(h:Pm W B l)(hg:W.grownBy W' row)(hne:some B≠row):Pm W' B l:=by
 obtain⟨D,h1,h2⟩:=h;exact⟨D,h1.kept hg hne,h2⟩
theorem Pm.lt{W:World}{B:Nat}{l:List ByteArray}(h:Pm W B l):B<W.heap.size:=by
 obtain⟨D,h1,_⟩:=h;exact h1.lt
theorem Pm.below{W W':World}{B base:Nat}{l:List ByteArray}(h:Pm W B l)(hb:Below base W W')(hB:B<base):Pm W' B l:=by
 obtain⟨D,⟨es,ck,h1,h2,h3,h4⟩,h5⟩:=h;exact⟨D,⟨es,ck,(hb.block B hB).trans h1,h2,h3,h4⟩,h5⟩
theorem Pm.put{W':World}{B:Nat}{l:List ByteArray}{s:ByteArray}{D:DataW Unit}(hD:∀s,Maps.has D (kls s)=inN s l/\(inN s l=true->D.atKey (kls s) (.lit (.int .i64 0))=.lit (.int .i64 (ixN s l:Nat))))(hm:Maps.IsMap D)(hs:inN s l=false)
  (h:W'.ownsMap prog 9 (plainElem prog 3) B (l.length+1) (D.put (kls s) (.lit (.int .i64 (l.length:Nat))))):Pm W' B (l++[s]):=by
 refine⟨_,by rw[List.length_append];exact h,fun x=> ?_⟩;rw[z3f,z3g];by_cases e:s=x
 ·subst e
  rw[hs];refine⟨by rw[Maps.has_put_same hm (Tz _)];simp,fun _=> ?_⟩;rw[Maps.atKey_put_same hm (Tz _)];simp
 ·have hne:kls x≠kls s:=fun h=>e (z3e h).symm
  rw[Maps.has_put_other hne,Maps.atKey_put_other hne,(hD x).1];refine⟨by simp[e],fun h=> ?_⟩;have h':inN x l=true:=by simpa [e]using h
  rw[(hD x).2 h',if_pos h']
def nmL(rs:List Rr):List ByteArray:=rs.map (·.1)
def Vz(l:List ByteArray):List Rr->Option Int
 |[]=>none
 |x::r=>if inN x.1 l then some x.2.2 else Vz (l++[x.1]) r
def Kx(rs:List Rr):Option Int:=Vz [] rs
theorem z3h(l:List ByteArray)(rs:List Rr)(j:Nat)(hj:j<rs.length):Vz l (rs.drop j)=if inN rs[j].1 l then some rs[j].2.2 else Vz (l++[rs[j].1]) (rs.drop (j+1)):=by
 rw[List.drop_eq_getElem_cons hj,Vz]
theorem Tv(rs:List Rr)(j:Nat)(hj:j<rs.length):nmL (rs.take (j+1))=nmL (rs.take j)++[rs[j].1]:=by
 unfold nmL;rw[show rs.take (j+1)=rs.take j++[rs[j]] by simp,List.map_append];rfl
def rfG:List Rr->List (ByteArray×Int)
 |[]=>[]
 |x::r=>rfT x.2.1++rfG r
theorem Tw:∀(a b:List Rr),rfG (a++b)=rfG a++rfG b
 |[],b=>by rw[List.nil_append,rfG,List.nil_append]
 |x::r,b=>by rw[List.cons_append,rfG,rfG,Tw r b,List.append_assoc]
theorem y0m(s:List Rr)(j:Nat)(hj:j<s.length):rfG (s.take (j+1))=rfG (s.take j)++rfT s[j].2.1:=by
 rw[show s.take (j+1)=s.take j++[s[j]] by simp,Tw,rfG,rfG,List.append_nil]
def Xv(l:List ByteArray):List (ByteArray×Int)->Option Int
 |[]=>none
 |x::r=>if inN x.1 l then Xv l r else some x.2
theorem Nh(l:List ByteArray):∀(a b:List (ByteArray×Int)),Xv l (a++b)=match Xv l a with|some p=>some p|none=>Xv l b
 |[],b=>by rw[List.nil_append,Xv]
 |x::r,b=>by
  rw[List.cons_append,Xv,Xv,Nh l r b];by_cases h:inN x.1 l=true
  ·rw[if_pos h,if_pos h]
  ·rw[if_neg h,if_neg h]
def ckR(rs:List Rr):Option (Int×Int):=match Kx rs with
 |some p=>some (30,p)
 |none=>match Xv (nmL rs) (rfG rs)with
  |some p=>some (31,p)
  |none=>none
def CkP(w:World)(rs:List Rr)(e:Ending)(w':World):Prop:=Below w.heap.size w w'/\
 ((∃c p g,ckR rs=some (c,p)/\e=.returned (.tuple #[.map none,.iface 58 (.pointer (some ⟨g,0,none⟩))])/\w.heap.size<=g/\w'.heap[g]? =some (.cells #[.int .i64 c,.int .i64 p] 60))∨
  (∃M,ckR rs=none/\e=.returned (.tuple #[.map (some M),.nilIface])/\w.heap.size<=M/\Pm w' M (nmL rs)))
def Kp3(w W2:World)(M:Nat)(wr:World):Prop:=Below w.heap.size w wr/\M+1+1<=wr.heap.size/\(∀k,k<M->wr.heap[k]? =W2.heap[k]?)/\wr.heap[M+1]? =W2.heap[M+1]?
theorem Kp3.step{w W2 wr w1:World}{M:Nat}{o:Obj}(h:Kp3 w W2 M wr)(hg:(wr.alloc o).grownBy w1 (some M))(hM:w.heap.size<=M):Kp3 w W2 M w1:=by
 obtain⟨h1,h2,h3,h4⟩:=h;have hs:=hg.size;rw[World.size_alloc]at hs;refine⟨(h1.alloc h1.size _).grown hg (by rw[World.size_alloc];have:=h1.size;omega) (fun j e=>by cases e;exact hM),by omega,fun k hk=> ?_,?_⟩
 ·exact(hg.block k (by rw[World.size_alloc];omega) (fun e=>by cases e;omega)).trans ((Below.heap_alloc _ _ _ (by omega)).trans (h3 k hk))
 ·exact(hg.block _ (by rw[World.size_alloc];omega) (fun e=>by simp at e)).trans ((Below.heap_alloc _ _ _ (by omega)).trans h4)
theorem y0n(n:Int)(w:World):(Instr.makeMap 74 (some (.int .i64 n))).run prog w=.ok (.map (some w.heap.size)) (w.alloc (.map #[] 0)):=by kernel_rfl
def Mks(base:Nat):Nat->List Deferred->World->Prop
 |_,[],_=>True
 |lim,d::ds,w=>∃D,d={target:=.collected D,args:=#[]}/\base<=D/\D<lim/\w.heap[D]? =some (.deferred (some []))/\Mks base D ds w
theorem Mks.kept{base:Nat}:∀{lim:Nat} {ds:List Deferred} {w w':World},Mks base lim ds w->(∀D,D<lim->w.heap[D]? =some (.deferred (some []))->w'.heap[D]? =some (.deferred (some [])))->Mks base lim ds w'
 |_,[],_,_,_,_=>trivial
 |lim,d::ds,w,w',h,hk=>by
  obtain⟨D,h1,h2,h3,h4,h5⟩:=h;exact⟨D,h1,h2,h3,hk D h3 h4,h5.kept fun D' hD h=>hk D' (by omega) h⟩
theorem Mks.below{base S:Nat}{ds:List Deferred}{w w':World}(h:Mks base S ds w)(hb:Below S w w'):Mks base S ds w':=h.kept fun D hD e=>(hb.block D hD).trans e
theorem Mks.mono{base:Nat}:∀{lim lim':Nat} {ds:List Deferred} {w:World},Mks base lim ds w->lim<=lim'->Mks base lim' ds w
 |_,_,[],_,_,_=>trivial
 |_,_,d::ds,w,⟨D,h1,h2,h3,h4,h5⟩,hl=>⟨D,h1,h2,Nat.lt_of_lt_of_le h3 hl,h4,h5⟩
def Dk(base:Nat)(w w':World):Prop:=Below base w w'/\∀(k:Nat) (o:Obj),w.heap[k]? =some o->(∀l,o≠.deferred l)->w'.heap[k]? =some o
theorem Hv{F:Fence}{n:Nat}{P:Program}{fn:Func}{tmps:Array Value}{R:Ending->World->Prop}{base:Nat}:∀(ds:List Deferred) (lim:Nat) (w:World),Mks base lim ds w->(∀w',Dk base w w'->∃v,(results fn tmps).run P w'=.ok v w'/\R (.returned v) w')->LeavesInM F n P fn tmps R ds .returning w
 |[],_,w,_,h=>h w ⟨Below.refl _ _,fun _ _ h _=>h⟩
 |d::ds,lim,w,⟨D,h1,h2,h3,h4,h5⟩,h=>by
  refine⟨by simp,.inl ⟨D,_,by rw[h1],run_takeDeferred h4,?_⟩⟩;have hb:Below base w (w.putObj D (.deferred none)):=(Below.refl base w).grown (grownBy_putObj' w D _) (by have:=(Array.getElem?_eq_some_iff.1 h4).1;omega) (fun k e=>by cases e;omega);refine Hv ds D _ (h5.kept fun D' hD e=>(World.putObj_heap_other (by omega)).trans e) fun w' hk=>h w' ⟨hb.trans hk.1,fun k o ho hne=>hk.2 k o ?_ hne⟩
  refine(World.putObj_heap_other fun e=> ?_).trans ho;subst e;rw[h4]at ho;cases ho;exact hne _ rfl
theorem Dk.box{base:Nat}{w w':World}{B:Nat}{t:TypeId}{v:Value}(h:Dk base w w')(hb:Boxed w B t v):Boxed w' B t v:=h.2 B _ hb (fun l e=>by cases e)
theorem Dk.pm{base:Nat}{w w':World}{B:Nat}{l:List ByteArray}(h:Dk base w w')(hp:Pm w B l):Pm w' B l:=by
 obtain⟨D,⟨es,ck,h1,h2,h3,h4⟩,h5⟩:=hp;exact⟨D,⟨es,ck,h.2 B _ h1 (fun l e=>by cases e),h2,h3,h4⟩,h5⟩
theorem Kp3.below{w W2 W W':World}{M S:Nat}(h:Kp3 w W2 M W)(hb:Below S W W')(h1:w.heap.size<=S)(h2:M+1+1<=S):Kp3 w W2 M W':=
 ⟨h.1.trans (hb.mono h1),by have:=hb.size;have:=h.2.1;omega,fun k hk=>(hb.block k (by omega)).trans (h.2.2.1 k hk),(hb.block _ (by omega)).trans h.2.2.2⟩
section
@[reducible] def fq1 (F b1:Nat):Value:=.func (.func F) #[] #[.pointer (some ⟨b1,0,none⟩)]
@[reducible] def fq2 (F b1 b2:Nat):Value:=.func (.func F) #[] #[.pointer (some ⟨b1,0,none⟩),.pointer (some ⟨b2,0,none⟩)]
@[reducible] def cA (C:Nat):Array Value:=#[.int .u64 (wd C 0),.int .u64 (wd C 1),.int .u64 (wd C 2),.int .u64 (wd C 3)]
structure Hb (w:World) (mB:Nat) (L:Nat->Prop) (b:Nat) (xs:Array Value) (t:TypeId):Prop where
 ne:b≠mB
 hp:w.heap[b]? =some (.cells xs t)
 lo:L b
def Hm(w:World)(mB:Nat)(L:Nat->Prop)(b:Nat):Prop:=Hb w mB L b #[.pointer (some ⟨mB,0,none⟩)] 55
theorem Hb.keep{w w':World}{mB b:Nat}{L L':Nat->Prop}{xs:Array Value}{t:TypeId}(h:Hb w mB L b xs t)(hL:∀b,L b->b<w.heap.size->L' b)(hk:∀b,b≠mB->L b->b<w.heap.size->w'.heap[b]? =w.heap[b]?):Hb w' mB L' b xs t:=
 ⟨h.ne,(hk b h.ne h.lo (Qz h.hp)).trans h.hp,hL b h.lo (Qz h.hp)⟩
theorem Hb.kept{w w':World}{mB b:Nat}{L:Nat->Prop}{xs:Array Value}{t:TypeId}(h:Hb w mB L b xs t)(hg:w.grownBy w' (some mB)):Hb w' mB L b xs t:=
 ⟨h.1,(hg.block b (Qz h.2) (fun e=>h.1 (Option.some.inj e))).trans h.2,h.3⟩
theorem Hm.kept{w w':World}{mB b:Nat}{L:Nat->Prop}(h:Hm w mB L b)(hg:w.grownBy w' (some mB)):Hm w' mB L b:=Hb.kept h hg
mutual
def Mv(w:World)(mB:Nat)(L:Nat->Prop)(ix:ByteArray->Nat):RT->Value->Prop
 | .mk k N a b c d s p,v=>∃b1 b2 u,v=fq2 43 b1 b2/\Hm w mB L b1/\Hb w mB L b2 #[u] 79/\
   (if k=2 then ∃c1 c2,u=fq2 110 c1 c2/\Hm w mB L c1/\Hb w mB L c2 #[.string N] 9
    else if k=3 then ∃c1 c2,u=fq2 111 c1 c2/\Hm w mB L c1/\Hb w mB L c2 (cA (cl4 a b c d)) 27
    else if k=4 then ∃c1 c2,u=fq2 111 c1 c2/\Hm w mB L c1/\Hb w mB L c2 (cA Uy) 27
    else if k=5 then ∃c1 c2,u=fq2 113 c1 c2/\Hm w mB L c1/\Hb w mB L c2 #[.int .i64 (ix N:Nat)] 3
    else if k=6 then ∃c1 so cap,u=fq1 114 c1/\Hb w mB L c1 #[.slice so (Qw s) cap] 75/\Mvs w mB L ix so 0 s
    else if k=7 then ∃c1 so cap,u=fq1 115 c1/\Hb w mB L c1 #[.slice so (Qw s) cap] 75/\Mvs w mB L ix so 0 s
    else if k=8 then ∃c1 x,u=fq1 116 c1/\Hb w mB L c1 #[x] 79/\MvH w mB L ix s x
    else if k=9 then ∃c1 x,u=fq1 117 c1/\Hb w mB L c1 #[x] 79/\MvH w mB L ix s x
    else if k=10 then ∃c1 c2 c3 x,u=fq2 118 c1 c2/\Hb w mB L c1 #[x] 79/\Hb w mB L c2 #[fq1 117 c3] 79/\Hb w mB L c3 #[x] 79/\MvH w mB L ix s x
    else if k=11 then ∃c1 x,u=fq1 119 c1/\Hb w mB L c1 #[x] 79/\MvH w mB L ix s x
    else if k=12 then ∃c1 x,u=fq1 120 c1/\Hb w mB L c1 #[x] 79/\MvH w mB L ix s x
    else u=.func (.func 84) #[] #[])
def Mvs(w:World)(mB:Nat)(L:Nat->Prop)(ix:ByteArray->Nat)(so:Option Addr):Nat->List RT->Prop
 |_,[]=>True
 |j,t::r=>(∃g o x,so=some ⟨g,o,none⟩/\(g≠mB/\L g)/\w.cell? ⟨g,o+j,none⟩=some x/\Mv w mB L ix t x)/\Mvs w mB L ix so (j+1) r
def MvH(w:World)(mB:Nat)(L:Nat->Prop)(ix:ByteArray->Nat):List RT->Value->Prop
 |[],_=>False
 |t::_,x=>Mv w mB L ix t x
end
variable {w w':World} {mB:Nat} {L L':Nat->Prop} {ix:ByteArray->Nat}
mutual
theorem Gw(hL:∀b,L b->b<w.heap.size->L' b)(hk:∀b,b≠mB->L b->b<w.heap.size->w'.heap[b]? =w.heap[b]?):∀(t:RT) (v:Value),Mv w mB L ix t v->Mv w' mB L' ix t v
 | .mk k N a b c d s p,v,h=>by
   rw[Mv]at h ⊢;obtain⟨b1,b2,u,e,h1,h2,h3⟩:=h;refine⟨b1,b2,u,e,h1.keep hL hk,h2.keep hL hk,?_⟩;by_cases hk2:k=2
   ·rw[if_pos hk2]at h3 ⊢
    obtain⟨c1,c2,e,x1,x2⟩:=h3;exact⟨c1,c2,e,x1.keep hL hk,x2.keep hL hk⟩
   rw[if_neg hk2]at h3 ⊢;by_cases hk3:k=3
   ·rw[if_pos hk3]at h3 ⊢
    obtain⟨c1,c2,e,x1,x2⟩:=h3;exact⟨c1,c2,e,x1.keep hL hk,x2.keep hL hk⟩
   rw[if_neg hk3]at h3 ⊢;by_cases hk4:k=4
   ·rw[if_pos hk4]at h3 ⊢
    obtain⟨c1,c2,e,x1,x2⟩:=h3;exact⟨c1,c2,e,x1.keep hL hk,x2.keep hL hk⟩
   rw[if_neg hk4]at h3 ⊢;by_cases hk5:k=5
   ·rw[if_pos hk5]at h3 ⊢
    obtain⟨c1,c2,e,x1,x2⟩:=h3;exact⟨c1,c2,e,x1.keep hL hk,x2.keep hL hk⟩
   rw[if_neg hk5]at h3 ⊢;by_cases hk6:k=6
   ·rw[if_pos hk6]at h3 ⊢
    obtain⟨c1,so,cap,e,x1,x2⟩:=h3;exact⟨c1,so,cap,e,x1.keep hL hk,Hw hL hk s 0 x2⟩
   rw[if_neg hk6]at h3 ⊢;by_cases hk7:k=7
   ·rw[if_pos hk7]at h3 ⊢
    obtain⟨c1,so,cap,e,x1,x2⟩:=h3;exact⟨c1,so,cap,e,x1.keep hL hk,Hw hL hk s 0 x2⟩
   rw[if_neg hk7]at h3 ⊢;by_cases hk8:k=8
   ·rw[if_pos hk8]at h3 ⊢
    obtain⟨c1,x,e,x1,x2⟩:=h3;exact⟨c1,x,e,x1.keep hL hk,Np hL hk s x x2⟩
   rw[if_neg hk8]at h3 ⊢;by_cases hk9:k=9
   ·rw[if_pos hk9]at h3 ⊢
    obtain⟨c1,x,e,x1,x2⟩:=h3;exact⟨c1,x,e,x1.keep hL hk,Np hL hk s x x2⟩
   rw[if_neg hk9]at h3 ⊢;by_cases hk10:k=10
   ·rw[if_pos hk10]at h3 ⊢
    obtain⟨c1,c2,c3,x,e,x1,x2,x3,x4⟩:=h3;exact⟨c1,c2,c3,x,e,x1.keep hL hk,x2.keep hL hk,x3.keep hL hk,Np hL hk s x x4⟩
   rw[if_neg hk10]at h3 ⊢;by_cases hk11:k=11
   ·rw[if_pos hk11]at h3 ⊢
    obtain⟨c1,x,e,x1,x2⟩:=h3;exact⟨c1,x,e,x1.keep hL hk,Np hL hk s x x2⟩
   rw[if_neg hk11]at h3 ⊢;by_cases hk12:k=12
   ·rw[if_pos hk12]at h3 ⊢
    obtain⟨c1,x,e,x1,x2⟩:=h3;exact⟨c1,x,e,x1.keep hL hk,Np hL hk s x x2⟩
   rw[if_neg hk12]at h3 ⊢;exact h3
theorem Hw(hL:∀b,L b->b<w.heap.size->L' b)(hk:∀b,b≠mB->L b->b<w.heap.size->w'.heap[b]? =w.heap[b]?){so:Option Addr}:∀(s:List RT) (j:Nat),Mvs w mB L ix so j s->Mvs w' mB L' ix so j s
 |[],j,_=>by rw[Mvs];trivial
 |t::r,j,h=>by
  rw[Mvs]at h ⊢;obtain⟨⟨g,o,x,e,hn,hc,hv⟩,h2⟩:=h;exact⟨⟨g,o,x,e,⟨hn.1,hL g hn.2 (World.block_lt_of_cell? w _ hc)⟩,(World.cell?_of_block (hk g hn.1 hn.2 (World.block_lt_of_cell? w _ hc))).trans hc,Gw hL hk t x hv⟩,Hw hL hk r (j+1) h2⟩
theorem Np(hL:∀b,L b->b<w.heap.size->L' b)(hk:∀b,b≠mB->L b->b<w.heap.size->w'.heap[b]? =w.heap[b]?):∀(s:List RT) (v:Value),MvH w mB L ix s v->MvH w' mB L' ix s v
 |[],_,h=>by rw[MvH]at h;exact h.elim
 |t::_,x,h=>by
  rw[MvH]at h ⊢;exact Gw hL hk t x h
end
theorem Vg(hg:w.grownBy w' (some mB))(t:RT)(v:Value)(h:Mv w mB L ix t v):Mv w' mB L ix t v:=Gw (fun _ h _=>h) (fun b h1 _ h3=>hg.block b h3 (fun e=>h1 (Option.some.inj e))) t v h
theorem Kj(hg:w.grownBy w' (some mB)){so:Option Addr}(s:List RT)(j:Nat)(h:Mvs w mB L ix so j s):Mvs w' mB L ix so j s:=Hw (fun _ h _=>h) (fun b h1 _ h3=>hg.block b h3 (fun e=>h1 (Option.some.inj e))) s j h
theorem Am(hg:w.grownBy w' (some mB))(s:List RT)(v:Value)(h:MvH w mB L ix s v):MvH w' mB L ix s v:=Np (fun _ h _=>h) (fun b h1 _ h3=>hg.block b h3 (fun e=>h1 (Option.some.inj e))) s v h
theorem Jq{so:Option Addr}:∀{s:List RT} {j:Nat},Mvs w mB L ix so j s->∀(i:Nat) (hi:i<s.length),∃g o x,so=some ⟨g,o,none⟩/\g≠mB/\w.cell? ⟨g,o+(j+i),none⟩=some x/\Mv w mB L ix s[i] x
 |[],j,_,i,hi=>by simp at hi
 |t::r,j,h,0,_=>by
  rw[Mvs]at h;obtain⟨g,o,x,h1,h2,h3,h4⟩:=h.1;exact⟨g,o,x,h1,h2.1,h3,h4⟩
 |t::r,j,h,i+1,hi=>by
  rw[Mvs]at h;have:=Jq h.2 i (by simpa using hi);rw[Nat.add_assoc,Nat.add_comm 1 i]at this;exact this
def Smn(w:World)(mB:Nat)(T:ByteArray)(pv sv:Value)(k M:Nat):Prop:=w.heap[mB]? =some (.cells #[.string T,pv,sv,.int .i64 k,.int .i64 M] 77)
def bdR(rs:List Rr)(N:ByteArray):Option RT:=(rs[ixN N (nmL rs)]?).map (·.2.1)
def Bd(w:World)(mB:Nat)(L:Nat->Prop)(rs:List Rr)(sv:Value):Prop:=∃so cap,sv=.slice so rs.length cap/\Mvs w mB L (fun N=>ixN N (nmL rs)) so 0 (rs.map (·.2.1))
theorem Bd.kept{rs:List Rr}{sv:Value}(h:Bd w mB L rs sv)(hg:w.grownBy w' (some mB)):Bd w' mB L rs sv:=by
 obtain⟨so,cap,e,h⟩:=h;exact⟨so,cap,e,Kj hg _ _ h⟩
def eI:Option Nat->Int
 |some n=>n
 |none=> -1
def bud:List PanicEntry:=[{v:=.iface 54 (.int .i64 50),recovered:=false}]
def Po(rs:List Rr)(T:ByteArray)(mB:Nat)(pv sv:Value)(M:Nat)(j:Jb)(i k:Nat)(w:World)(e:Ending)(w':World):Prop:=w.grownBy w' (some mB)/\
 ((∃x c,Mt (bdR rs) T j i x c/\k+c<=M/\e=.returned (.int .i64 (eI x))/\Smn w' mB T pv sv (k+c) M)∨
  ((∀x c,Mt (bdR rs) T j i x c->M<k+c)/\e=.panicked bud/\∃k',Smn w' mB T pv sv k' M))
end
section
section
variable {B:ByteArray->Option RT} {T:ByteArray}
structure Ri (B:ByteArray->Option RT) (T:ByteArray) (J0:Jb) (i0 k0:Nat) (J:Jb) (i k:Nat):Prop where
 le:k0<=k
 on:∀x c,Mt B T J i x c->Mt B T J0 i0 x (c+(k-k0))
 back:∀x c,Mt B T J0 i0 x c->∃c',Mt B T J i x c'/\c=c'+(k-k0)
variable {J0 J:Jb} {i0 k0 i k M:Nat}
theorem Ri.over(h:Ri B T J0 i0 k0 J i k)(hn:∀x c,Mt B T J i x c->M<k+c):∀x c,Mt B T J0 i0 x c->M<k0+c:=fun x c hc=>by
 obtain⟨c',h1,h2⟩:=h.back x c hc;have:=hn x c' h1;have:=h.le;omega
theorem Ri.done(h:Ri B T J0 i0 k0 J i k){x:Option Nat}{c:Nat}(hm:Mt B T J i x c):∃c0,Mt B T J0 i0 x c0/\k0+c0=k+c:=⟨_,h.on x c hm,by have:=h.le;omega⟩
theorem Ri.seq{N a b c d s p i k}:Ri B T (.one (.mk 6 N a b c d s p)) i k (.row s) i (k+1):=⟨by omega,fun x c h=>by rw[Nat.add_sub_cancel_left];exact .seq h,fun x c h=>by cases h with|seq h=>exact⟨_,h,by omega⟩⟩
theorem Ri.cho{N a b c d s p i k}:Ri B T (.one (.mk 7 N a b c d s p)) i k (.alt s) i (k+1):=⟨by omega,fun x c h=>by rw[Nat.add_sub_cancel_left];exact .cho h,fun x c h=>by cases h with|cho h=>exact⟨_,h,by omega⟩⟩
theorem Ri.star{N a b c d t r p i k}:Ri B T (.one (.mk 9 N a b c d (t::r) p)) i k (.rep t) i (k+1):=⟨by omega,fun x c h=>by rw[Nat.add_sub_cancel_left];exact .star h,fun x c h=>by cases h with|star h=>exact⟨_,h,by omega⟩⟩
theorem Ri.plus{N a b c d t r p i k y n}(hy:Mt B T (.one t) i (some y) n):Ri B T (.one (.mk 10 N a b c d (t::r) p)) i k (.rep t) y (k+1+n):=by
 refine⟨by omega,fun x c h=> ?_,fun x c h=> ?_⟩
 ·have:=Mt.plus_ok (N:=N) (a:=a) (b:=b) (c:= ‹_›) (d:=d) (r:=r) (p:=p) hy h
  rw[show c+(k+1+n-k)=n+c+1 by omega];exact .plus_ok hy h
 ·cases h with
  |plus_no h=>cases(Zm hy h).1
  |plus_ok h1 h2=>
   obtain⟨e1,e2⟩:=Zm hy h1;cases e1;exact⟨_,h2,by omega⟩
theorem Ri.ref{N a b c d s p i k t}(hB:B N=some t):Ri B T (.one (.mk 5 N a b c d s p)) i k (.one t) i (k+1):=⟨by omega,fun x c h=>by rw[Nat.add_sub_cancel_left];exact .ref hB h,fun x c h=>by cases h with|ref h1 h=>rw[hB]at h1;cases h1;exact⟨_,h,by omega⟩⟩
theorem Ri.row{t r y n}(h:Ri B T J0 i0 k0 (.row (t::r)) i k)(hy:Mt B T (.one t) i (some y) n):Ri B T J0 i0 k0 (.row r) y (k+n):=by
 have hl:=h.le;refine⟨by omega,fun x c hc=> ?_,fun x c hc=> ?_⟩
 ·have:=h.on x _ (.row_ok hy hc)
  rw[show c+(k+n-k0)=n+c+(k-k0) by omega];exact this
 ·obtain⟨c',h1,h2⟩:=h.back x c hc
  cases h1 with
  |row_no h1=>cases(Zm hy h1).1
  |row_ok h1 h3=>
   obtain⟨e1,e2⟩:=Zm hy h1;cases e1;exact⟨_,h3,by omega⟩
theorem Ri.alt{t r n}(h:Ri B T J0 i0 k0 (.alt (t::r)) i k)(hy:Mt B T (.one t) i none n):Ri B T J0 i0 k0 (.alt r) i (k+n):=by
 have hl:=h.le;refine⟨by omega,fun x c hc=> ?_,fun x c hc=> ?_⟩
 ·have:=h.on x _ (.alt_no hy hc)
  rw[show c+(k+n-k0)=n+c+(k-k0) by omega];exact this
 ·obtain⟨c',h1,h2⟩:=h.back x c hc
  cases h1 with
  |alt_ok h1=>cases(Zm hy h1).1
  |alt_no h1 h3=>
   obtain⟨e1,e2⟩:=Zm hy h1;exact⟨_,h3,by omega⟩
theorem Ri.rep{t y n}(h:Ri B T J0 i0 k0 (.rep t) i k)(hy:Mt B T (.one t) i (some y) n):Ri B T J0 i0 k0 (.rep t) y (k+n):=by
 have hl:=h.le;refine⟨by omega,fun x c hc=> ?_,fun x c hc=> ?_⟩
 ·have:=h.on x _ (.rep_go hy hc)
  rw[show c+(k+n-k0)=n+c+(k-k0) by omega];exact this
 ·obtain⟨c',h1,h2⟩:=h.back x c hc
  cases h1 with
  |rep_end h1=>cases(Zm hy h1).1
  |rep_go h1 h3=>
   obtain⟨e1,e2⟩:=Zm hy h1;cases e1;exact⟨_,h3,by omega⟩
theorem y0o{t r}(hn:∀x c,Mt B T (.one t) i x c->M<k+c):∀x c,Mt B T (.row (t::r)) i x c->M<k+c:=fun x c h=>by
 cases h with
 |row_no h=>exact hn _ _ h
 |row_ok h _=>have:=hn _ _ h;omega
theorem y0p{t r}(hn:∀x c,Mt B T (.one t) i x c->M<k+c):∀x c,Mt B T (.alt (t::r)) i x c->M<k+c:=fun x c h=>by
 cases h with
 |alt_ok h=>exact hn _ _ h
 |alt_no h _=>have:=hn _ _ h;omega
theorem y0q{t}(hn:∀x c,Mt B T (.one t) i x c->M<k+c):∀x c,Mt B T (.rep t) i x c->M<k+c:=fun x c h=>by
 cases h with
 |rep_end h=>exact hn _ _ h
 |rep_go h _=>have:=hn _ _ h;omega
theorem y0r{N a b c d t r p}(hn:∀x c,Mt B T (.one t) i x c->M<k+1+c):∀x c',Mt B T (.one (.mk 8 N a b c d (t::r) p)) i x c'->M<k+c':=fun x c' h=>by
 cases h with|opt h=>have:=hn _ _ h;omega
theorem y0s{N a b c d t r p}(hn:∀x c,Mt B T (.one t) i x c->M<k+1+c):∀x c',Mt B T (.one (.mk 11 N a b c d (t::r) p)) i x c'->M<k+c':=fun x c' h=>by
 cases h with|and h=>have:=hn _ _ h;omega
theorem y0t{N a b c d t r p}(hn:∀x c,Mt B T (.one t) i x c->M<k+1+c):∀x c',Mt B T (.one (.mk 12 N a b c d (t::r) p)) i x c'->M<k+c':=fun x c' h=>by
 cases h with|not h=>have:=hn _ _ h;omega
theorem y0u{N a b c d t r p}(hn:∀x c,Mt B T (.one t) i x c->M<k+1+c):∀x c',Mt B T (.one (.mk 10 N a b c d (t::r) p)) i x c'->M<k+c':=fun x c' h=>by
 cases h with
 |plus_no h=>have:=hn _ _ h;omega
 |plus_ok h _=>have:=hn _ _ h;omega
theorem y0v{N a b c d s p t}(hB:B N=some t)(hn:∀x c,Mt B T (.one t) i x c->M<k+1+c):∀x c',Mt B T (.one (.mk 5 N a b c d s p)) i x c'->M<k+c':=(Ri.ref (k:=k) hB).over hn
end
end
section
section
variable {rs:List Rr} {T:ByteArray} {mB:Nat} {L:Nat->Prop} {pv sv:Value} {M:Nat}
theorem Po.ok{J:Jb}{i k:Nat}{w w':World}{x:Option Nat}{c k':Nat}(hg:w.grownBy w' (some mB))(hm:Mt (bdR rs) T J i x c)(e:k'=k+c)(hk:k'<=M)(hs:Smn w' mB T pv sv k' M):Po rs T mB pv sv M J i k w (.returned (.int .i64 (eI x))) w':=by
 subst e;exact⟨hg,.inl ⟨x,c,hm,hk,rfl,hs⟩⟩
theorem Po.no{J:Jb}{i k:Nat}{w w':World}(hg:w.grownBy w' (some mB))(hm:∀x c,Mt (bdR rs) T J i x c->M<k+c)(hs:∃k',Smn w' mB T pv sv k' M):Po rs T mB pv sv M J i k w (.panicked bud) w':=⟨hg,.inr ⟨hm,rfl,hs⟩⟩
theorem Po.from{J:Jb}{i k:Nat}{w w1 w':World}{e:Ending}(hg:w.grownBy w1 (some mB))(h:Po rs T mB pv sv M J i k w1 e w'):Po rs T mB pv sv M J i k w e w':=⟨G.trans hg h.1,h.2⟩
theorem y0w{N:ByteArray}{a b c d:Int}{s:List RT}{p:Int}(i k:Nat)(w:World)(hs:Smn w mB T pv sv (k+1) M)(hk:k+1<=M):
  Calls prog 84 #[.int .i64 i] w (Po rs T mB pv sv M (.one (.mk 1 N a b c d s p)) i k w):=by
 have HF:=hid (Po.ok (rs:=rs) (T:=T) (pv:=pv) (sv:=sv) (k:=k) (G.refl w mB) (Mt.emp (B:=bdR rs) (T:=T) (N:=N) (a:=a) (b:=b) (c:=c) (d:=d) (s:=s) (p:=p) (i:=i)) rfl hk hs);dsimp only[eI]at HF;clear hs hk;go_enter func84,ntmps84
 go_wp2_with fail
 go_ret;exact HF.out
theorem y0x{N:ByteArray}{a b c d:Int}{t:RT}{r:List RT}{p:Int}(i k c1 b1 b2:Nat)(w:World)(hc:w.heap[c1]? =some (.cells #[fq2 43 b1 b2] 79))
  (HP:Hid (Calls prog 43 #[.int .i64 i,.pointer (some ⟨b1,0,none⟩),.pointer (some ⟨b2,0,none⟩)] w (Po rs T mB pv sv M (.one t) i (k+1) w))):
  Calls prog 116 #[.int .i64 i,.pointer (some ⟨c1,0,none⟩)] w (Po rs T mB pv sv M (.one (.mk 8 N a b c d (t::r) p)) i k w):=by
 obtain⟨x0,_⟩:=Qj hc;have l0:=Qz hc;dsimp only[fq2]at x0;clear hc;go_enter func116,ntmps116
 go_wp2_with fail
 refine HP.out.mono ?_;rintro e w1 ⟨hg,⟨x,n,hm,hk,rfl,hs⟩|⟨hn,rfl,hs⟩⟩
 ·have HF:=hid (Po.ok (rs:=rs) (T:=T) (pv:=pv) (sv:=sv) (k:=k) hg (Mt.opt (N:=N) (a:=a) (b:=b) (c:=c) (d:=d) (r:=r) (p:=p) hm) (by omega) hk hs)
  clear hm hk hs hg;cases x with
  |none=>
   dsimp only[eI]at HF ⊢
   go_wp2_with fail
   go_ret;exact HF.out
  |some y=>
   dsimp only[eI]at HF ⊢;have hy:¬(y:Int)= -1:=by omega
   go_wp2_with fail
   go_ret;exact HF.out
 ·have HF:=hid (Po.no (rs:=rs) (T:=T) (pv:=pv) (sv:=sv) (k:=k) hg (y0r (N:=N) (a:=a) (b:=b) (c:=c) (d:=d) (r:=r) (p:=p) hn) hs)
  clear hn hg hs
  go_wp2_with fail
  exact⟨rfl,HF.out⟩
theorem y0y{N:ByteArray}{a b c d:Int}{t:RT}{r:List RT}{p:Int}(i k c1 b1 b2:Nat)(w:World)(hc:w.heap[c1]? =some (.cells #[fq2 43 b1 b2] 79))
  (HP:Hid (Calls prog 43 #[.int .i64 i,.pointer (some ⟨b1,0,none⟩),.pointer (some ⟨b2,0,none⟩)] w (Po rs T mB pv sv M (.one t) i (k+1) w))):
  Calls prog 119 #[.int .i64 i,.pointer (some ⟨c1,0,none⟩)] w (Po rs T mB pv sv M (.one (.mk 11 N a b c d (t::r) p)) i k w):=by
 obtain⟨x0,_⟩:=Qj hc;have l0:=Qz hc;dsimp only[fq2]at x0;clear hc;go_enter func119,ntmps119
 go_wp2_with fail
 refine HP.out.mono ?_;rintro e w1 ⟨hg,⟨x,n,hm,hk,rfl,hs⟩|⟨hn,rfl,hs⟩⟩
 ·have HF:=hid (Po.ok (rs:=rs) (T:=T) (pv:=pv) (sv:=sv) (k:=k) hg (Mt.and (N:=N) (a:=a) (b:=b) (c:=c) (d:=d) (r:=r) (p:=p) hm) (by omega) hk hs)
  clear hm hk hs hg;cases x with
  |none=>
   dsimp only[eI]at HF ⊢
   go_wp2_with fail
   go_ret;exact HF.out
  |some y=>
   dsimp only[eI]at HF ⊢;have hy:¬(y:Int)= -1:=by omega
   go_wp2_with fail
   go_ret;exact HF.out
 ·have HF:=hid (Po.no (rs:=rs) (T:=T) (pv:=pv) (sv:=sv) (k:=k) hg (y0s (N:=N) (a:=a) (b:=b) (c:=c) (d:=d) (r:=r) (p:=p) hn) hs)
  clear hn hg hs
  go_wp2_with fail
  exact⟨rfl,HF.out⟩
theorem y0z{N:ByteArray}{a b c d:Int}{t:RT}{r:List RT}{p:Int}(i k c1 b1 b2:Nat)(w:World)(hc:w.heap[c1]? =some (.cells #[fq2 43 b1 b2] 79))
  (HP:Hid (Calls prog 43 #[.int .i64 i,.pointer (some ⟨b1,0,none⟩),.pointer (some ⟨b2,0,none⟩)] w (Po rs T mB pv sv M (.one t) i (k+1) w))):
  Calls prog 120 #[.int .i64 i,.pointer (some ⟨c1,0,none⟩)] w (Po rs T mB pv sv M (.one (.mk 12 N a b c d (t::r) p)) i k w):=by
 obtain⟨x0,_⟩:=Qj hc;have l0:=Qz hc;dsimp only[fq2]at x0;clear hc;go_enter func120,ntmps120
 go_wp2_with fail
 refine HP.out.mono ?_;rintro e w1 ⟨hg,⟨x,n,hm,hk,rfl,hs⟩|⟨hn,rfl,hs⟩⟩
 ·have HF:=hid (Po.ok (rs:=rs) (T:=T) (pv:=pv) (sv:=sv) (k:=k) hg (Mt.not (N:=N) (a:=a) (b:=b) (c:=c) (d:=d) (r:=r) (p:=p) hm) (by omega) hk hs)
  clear hm hk hs hg;cases x with
  |none=>
   dsimp only[eI]at HF ⊢
   go_wp2_with fail
   go_ret;exact HF.out
  |some y=>
   dsimp only[eI]at HF ⊢;have hy:¬(y:Int)= -1:=by omega
   go_wp2_with fail
   go_ret;exact HF.out
 ·have HF:=hid (Po.no (rs:=rs) (T:=T) (pv:=pv) (sv:=sv) (k:=k) hg (y0t (N:=N) (a:=a) (b:=b) (c:=c) (d:=d) (r:=r) (p:=p) hn) hs)
  clear hn hg hs
  go_wp2_with fail
  exact⟨rfl,HF.out⟩
end
end
section
section
variable {rs:List Rr} {T:ByteArray} {mB:Nat} {L:Nat->Prop} {pv sv:Value} {M:Nat}
theorem Uj{W:World}{R:Nat}{v0 v1 v2 v3 v4:Value}{t:TypeId}(h:W.heap[R]? =some (.cells #[v0,v1,v2,v3,v4] t)):(W.cell? ⟨R,0,none⟩=some v0/\W.cell? ⟨R,1,none⟩=some v1/\W.cell? ⟨R,2,none⟩=some v2/\W.cell? ⟨R,3,none⟩=some v3/\W.cell? ⟨R,4,none⟩=some v4)/\W.frozen? ⟨R,2,none⟩=false/\W.frozen? ⟨R,3,none⟩=false:=
 ⟨⟨(Ql h 0 v0 rfl).1,(Ql h 1 v1 rfl).1,(Ql h 2 v2 rfl).1,(Ql h 3 v3 rfl).1,(Ql h 4 v4 rfl).1⟩,(Ql h 2 v2 rfl).2,(Ql h 3 v3 rfl).2⟩
theorem Jj{t:RT}(i k b1 b2 F:Nat)(caps:Array Value)(w:World)(h1:Hm w mB L b1)(h2:Hb w mB L b2 #[.func (.func F) #[] caps] 79)(hs:Smn w mB T pv sv k M)(hk:k<=M)(hM:M<=1048576)(hcf:∀(xs:Array Value) (w:World),(callFunc F xs).run prog w=.ok (.enter F xs) w)
  (HP:Hid (∀W:World,w.grownBy W (some mB)->Smn W mB T pv sv (k+1) M->k+1<=M->Calls prog F (#[.int .i64 i]++caps) W (Po rs T mB pv sv M (.one t) i k W))):
  Calls prog 43 #[.int .i64 i,.pointer (some ⟨b1,0,none⟩),.pointer (some ⟨b2,0,none⟩)] w (Po rs T mB pv sv M (.one t) i k w):=by
 obtain⟨x0,_⟩:=Qj h1.2;obtain⟨y0,_⟩:=Qj h2.2;obtain⟨⟨m0,m1,m2,m3,m4⟩,_,f3⟩:=Uj hs;have l1:=Qz h1.2;have l2:=Qz h2.2;have lm:=Qz hs;have hne1:=h1.1;have hne2:=h2.1;have S0:(fun W:World=>W.cell? ⟨b1,0,none⟩=some (.pointer (some ⟨mB,0,none⟩))/\W.cell? ⟨mB,3,none⟩=some (.int .i64 k)/\W.cell? ⟨mB,4,none⟩=some (.int .i64 M)) w.drew:=⟨x0,m3,m4⟩;have hg0:w.grownBy w.drew (some mB):=G.below (Below.refl _ w).drew;by_cases hkM:k=M
 ·have HF:=hid (Po.no (rs:=rs) (T:=T) (pv:=pv) (sv:=sv) (J:=.one t) (i:=i) (k:=k) hg0 (fun x c hm=>by have:=z2Z hm;omega) ⟨k,hs⟩)
  subst hkM;clear hs h1 h2 HP hg0 hk hM;unfold bud at HF;go_enter func43,ntmps43
  go_wp2_with fail
  go_region_held3 (fun W:World=>W.cell? ⟨b1,0,none⟩=some (.pointer (some ⟨mB,0,none⟩))/\W.cell? ⟨mB,3,none⟩=some (.int .i64 k)/\W.cell? ⟨mB,4,none⟩=some (.int .i64 k)) (with_reducible assumption) (fail)
  go_wp2_with fail
  exact⟨rfl,HF.out⟩
 ·have hkI:¬(k:Int)=(M:Int):=by omega
  have hS1:Smn ((w.setCell ⟨mB,3,none⟩ (.int .i64 ((k:Int)+1))).drew) mB T pv sv (k+1) M:=Zz hs 3 _;have hg1:w.grownBy ((w.setCell ⟨mB,3,none⟩ (.int .i64 ((k:Int)+1))).drew) (some mB):=G.to (G.setR (G.refl w mB)) B0q.drew;have HC:=hid ((HP.out _ hg1 hS1 (by omega)).mono fun e w' he=>Po.from hg1 he);have hwr:IntKind.i64.wrap ((k:Int)+1)=(k:Int)+1:=by rw[IntKind.wrap_i64];omega
  clear hs h1 h2 HP hg0 hS1 hg1;go_enter func43,ntmps43
  go_wp2_with fail
  go_region_held3 (fun W:World=>W.cell? ⟨b1,0,none⟩=some (.pointer (some ⟨mB,0,none⟩))/\W.cell? ⟨mB,3,none⟩=some (.int .i64 k)/\W.cell? ⟨mB,4,none⟩=some (.int .i64 M)) (with_reducible assumption) (fail)
  go_wp2_with fail
  refine HC.out.mono ?_;rintro e w1 he;obtain⟨x,hx⟩|hx:(∃x,e=.returned (.int .i64 x))∨e=.panicked bud:=by
   rcases he with⟨_,⟨x,_,_,_,h,_⟩|⟨_,h,_⟩⟩
   ·exact .inl ⟨_,h⟩
   ·exact .inr h
  ·subst hx
   have HF:=hid he;clear he
   go_wp2_with fail
   go_ret;exact HF.out
  ·subst hx
   have HF:=hid he;clear he
   go_wp2_with fail
   exact⟨rfl,HF.out⟩
end
end
theorem y0A(n:Nat)(h:n<18446744073709551616):bits BinOp.and IntKind.u64 (n:Int) 1=((n%2:Nat):Int):=by
 have:=Go.bits_and_u64_nat n 1 h (by omega);rw[Nat.and_one_is_mod]at this;exact this
theorem y0B(C b:Nat)(hb:b<256):[Value.int IntKind.u64 (wd C 0:Nat),.int .u64 (wd C 1),.int .u64 (wd C 2),.int .u64 (wd C 3)][b/64]? =some (.int .u64 (wd C (b/64):Nat)):=by
 have:b/64=0∨b/64=1∨b/64=2∨b/64=3:=by omega
 rcases this with e|e|e|e<;>rw[e]<;>rfl
theorem y0C(C:Nat)(b:Nat)(w:World)(hx:b<256):
  Calls prog 112 #[cv C,.int .u8 b] w fun e w'=>e=.returned (.bool (C.testBit b))/\Below w.heap.size w w':=by
 have hc:=y0B C b hx;unfold cv;have hd:bits BinOp.and IntKind.u64 ((wd C (b/64):Int)/2^(b%64)) 1=((wd C (b/64)/2^(b%64)%2:Nat):Int):=by
  have:=y0A (wd C (b/64)/2^(b%64)) (Nat.lt_of_le_of_lt (Nat.div_le_self _ _) (Zv _ _));rw[<-this];congr 1
 have hT:((((wd C (b/64)/2^(b%64)%2:Nat):Int)) == 1)=C.testBit b:=by
  have e1:=Yj C (b/64) (b%64);rw[show 64*(b/64)+b%64=b by omega,Nat.testBit_eq_decide_div_mod_eq]at e1;simp only[show b%64<64 by omega,decide_true,Bool.true_and]at e1;rw[<-e1];rcases Nat.mod_two_eq_zero_or_one (wd C (b/64)/2^(b%64))with h|h<;>rw[h]<;>rfl
 go_enter func112,ntmps112
 go_wp2
 go_ret;exact⟨by rw[<-hT];rfl,B0q.alloc L0q _⟩
section
section
variable {P:Program} {md:Region.Mode} {ops:Array Oper} {Q:Exit->Act->World->Prop} {S:World->Prop} {z:Nat}
def Gy(P:Program)(md:Region.Mode)(ops:Array Oper)(Q:Exit->Act->World->Prop)(S:World->Prop)(z:Nat):Nat->Array Bool->Act->World->Prop
 |0,l,a,w=>Region.ready md ops l=[]/\Q .normal a w
 |n+1,l,a,w=>(Region.ready md ops l=[]->Q .normal a w)/\∀i∈Region.ready md ops l,wpOp P ops Q i (fun a' w'=>(i≠z->S w')/\Gy P md ops Q S z n (l.setIfInBounds i true) a' w') a w
theorem z3i:∀(n:Nat) (l:Array Bool) (a:Act) (w:World),Gy P md ops Q S z n l a w->wpAny P md ops Q n l a w
 |0,_,_,_,h=>h
 |n+1,_,_,_,h=>⟨h.1,fun i hi=>wpOp_mono (fun a' w' k=>z3i n _ a' w' k.2) (h.2 i hi)⟩
def Hy(md:Region.Mode)(ops:Array Oper)(z i:Nat):Bool:=match ops[z]? with
 |some o=>o.after.any fun e=>Region.binds md e&&e.on == i
 |none=>true
theorem y0D{i:Nat}{l:Array Bool}(h:Hy md ops z i=true)(hr:i∈Region.ready md ops l):z ∉ Region.ready md ops l:=fun hz=>by
 obtain⟨_,oz,hoz,hall⟩:=mem_ready.1 hz;unfold Hy at h;rw[hoz]at h;simp only[Array.any_eq_true']at h;obtain⟨e,he,hb⟩:=h;rw[Bool.and_eq_true,beq_iff_eq]at hb;have h1:=hall e he hb.1;have h0:=(mem_ready.1 hr).1;rw[hb.2]at h1;rcases Nat.lt_or_ge i l.size with h'|h'
 ·simp[h']at h0 h1;rw[h0]at h1;cases h1
 ·simp[Array.getElem?_eq_none h']at h1
theorem y0E{i:Nat}{oi:Oper}{v:Value}(hi:ops[i]? =some oi)(hsel:∀(j:Nat) (o:Oper) cs b,ops[j]? =some o->o.op≠.select cs b)(hz:Hy md ops z i=true)
  (hQ:∀c a w,Q (.panic c) (a.put oi.dst v) w->Q (.panic c) a w):
  ∀(n:Nat) (l:Array Bool) (a:Act) (w:World),
   (∀j oj,ops[j]? =some oj->j≠i->l.getD j true=false->(∀e∈oj.after,Region.binds md e=true->e.on≠i)->oi.apart ops oj=true)->
   i∈Region.ready md ops l->YieldsIf P ops S oi v a->S w->
   Gy P md ops Q S z n (l.setIfInBounds i true) (a.put oi.dst v) w->Gy P md ops Q S z (n+1) l a w:=by
 intro n
 induction n with
 |zero=>
  intro l a w _ hr hy hS H;refine⟨fun h=>(by rw[h]at hr;cases hr),fun j hj=> ?_⟩;by_cases hji:j=i
  ·subst hji;exact hy.wpOp hi hS ⟨fun _=>hS,H⟩
  ·have:=ready_mono hj hji
   rw[H.1]at this;cases this
 |succ n ih=>
  intro l a w hfree hr hy hS H;refine⟨fun h=>(by rw[h]at hr;cases hr),fun j hj=> ?_⟩;by_cases hji:j=i
  ·subst hji;exact hy.wpOp hi hS ⟨fun _=>hS,H⟩
  ·have h1:=H.2 j (ready_mono hj hji)
   have hjz:j≠z:=fun e=>y0D hz hr (e▸hj)
   obtain⟨hjun,oj,hoj,hall⟩:=mem_ready.1 hj;have hnot:∀e∈oj.after,Region.binds md e=true->e.on≠i:=fun e he hb heq=>by
    have h1:=hall e he hb;have h0:=(mem_ready.1 hr).1;rw[heq]at h1;rcases Nat.lt_or_ge i l.size with h'|h'
    ·simp[h']at h0 h1;rw[h0]at h1;cases h1
    ·simp[Array.getElem?_eq_none h']at h1
   have h2:=wpOp_putIf hoj (hfree j oj hoj hji hjun hnot) (fun cs b=>hsel i oi cs b hi) (fun cs b=>hsel j oj cs b hoj) hQ hy h1;have hfree':∀k ok,ops[k]? =some ok->k≠i->(l.setIfInBounds j true).getD k true=false->
     (∀e∈ok.after,Region.binds md e=true->e.on≠i)->oi.apart ops ok=true:=fun k ok hk hki hun hno=>by
    refine hfree k ok hk hki ?_ hno;by_cases hjk:j=k
    ·subst hjk;exact hjun
    ·rw[getD_set_ne true hjk]at hun;exact hun
   refine wpOp_mono (fun a' w' h3=>⟨fun _=>h3.2.1 hjz,ih (l.setIfInBounds j true) a' w' hfree' (ready_mono hr (Ne.symm hji)) h3.1 (h3.2.1 hjz) ?_⟩) h2;rw[Array.setIfInBounds_comm _ _ hji];exact h3.2.2
theorem Qq{i:Nat}{oi:Oper}{v:Value}{n:Nat}{l:Array Bool}{a:Act}{w:World}(hi:ops[i]? =some oi)
  (hs:Region.noSelect ops=true)(hf:(Region.free md ops l i&&Hy md ops z i)=true)(hr:(Region.ready md ops l).contains i=true)
  (hQ:∀c a w,Q (.panic c) (a.put oi.dst v) w->Q (.panic c) a w)(hy:YieldsIf P ops S oi v a)(hS:S w)
  (h:Gy P md ops Q S z n (l.setIfInBounds i true) (a.put oi.dst v) w):Gy P md ops Q S z (n+1) l a w:=by
 rw[Bool.and_eq_true]at hf;exact y0E hi (Region.noSelect_spec hs) hf.2 hQ n l a w (Region.free_spec hi hf.1) (by simpa using hr) hy hS h
theorem Zf{i:Nat}{o:Oper}{n:Nat}{l:Array Bool}{a:Act}{w:World}(hr:Region.ready md ops l=[i])(ho:ops[i]? =some o)
  (h:∀K':Act->World->Prop,Shut (∀a w,S w->Gy P md ops Q S z n (l.setIfInBounds i true) a w->K' a w)->if Region.wanted o (yielded ops a.tmps)=true then Oper.wp P o a w K' Q else K' (a.put o.dst undef) w):Gy P md ops Q S z (n+1) l a w:=by
 refine⟨(fun h0=>by rw[hr]at h0;cases h0),fun j hj=> ?_⟩;rw[hr,List.mem_singleton]at hj;subst hj;exact wpOp_step ho fun K' hK=>h K' fun a w hS hW=>hK a w ⟨fun _=>hS,hW⟩
theorem Nc{o:Oper}{n:Nat}{l:Array Bool}{a:Act}{w:World}(hr:Region.ready md ops l=[z])(hl:Region.ready md ops (l.setIfInBounds z true)=[])(ho:ops[z]? =some o)
  (h:∀K':Act->World->Prop,Shut (∀a w,Q .normal a w->K' a w)->if Region.wanted o (yielded ops a.tmps)=true then Oper.wp P o a w K' Q else K' (a.put o.dst undef) w):Gy P md ops Q S z (n+1) l a w:=by
 refine⟨(fun h0=>by rw[hr]at h0;cases h0),fun j hj=> ?_⟩;rw[hr,List.mem_singleton]at hj;subst hj;refine wpOp_step ho fun K' hK=>h K' fun a w hW=>hK a w ⟨fun hne=>absurd rfl hne,?_⟩
 cases n with
 |zero=>exact⟨hl,hW⟩
 |succ n=>exact⟨fun _=>hW,fun i hi=>by rw[hl]at hi;cases hi⟩
theorem Vq{id:Nat}{a:Act}{w:World}(z:Nat)(S:World->Prop)(hm:P.follows .mixedOrders=true)(hS:S w.drew)
  (h:S w.drew->Gy P .any ops Q S z ops.size (Array.replicate ops.size false) a w.drew):(Code.region id ops true).wp P Q a w:=
 wp_region_any hm (z3i _ _ _ _ (h hS))
end
end
end Go.Proofs.YtgmcjddjdidpjabGreatDoor
