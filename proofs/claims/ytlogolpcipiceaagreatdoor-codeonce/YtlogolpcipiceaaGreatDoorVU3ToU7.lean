/- Lemmas for the last text. Conditions: those that each names. -/
import Derived.Test.YtlogolpcipiceaaGreatDoorVU2
import Derived.Test.YtlogolpcipiceaaGreatDoorVS1ToO3
import Derived.Deep.RegionHeld3
import Derived.ProofKit
set_option linter.unusedVariables false
set_option maxRecDepth 100000
set_option maxHeartbeats 16000000
namespace Go.Proofs.YtlogolpcipiceaaGreatDoor
open Go.Proofs.Tryz
open Go.RowKit Go.Shelf
theorem y0k(m:Option Nat)(T:ByteArray)(a b c d:Int)(so:Option Addr)(n cap:Nat)(p:Int)(w:World):Calls prog 201 #[.map m,.agg #[.int .i64 1,.string T,.int .u64 a,.int .u64 b,.int .u64 c,.int .u64 d,.slice so n cap,.int .i64 p]] w fun e w'=>e=.returned (ov (true,false,false))/\Hid (Below w.heap.size w w'):=by
 have HB:Hid (∀o1 o2:Obj,Below w.heap.size w ((w.alloc o1).alloc o2)):=fun o1 o2=>((Below.refl _ w).alloc L0q o1).alloc (by simp) o2
 go_enter func201,ntmps201
 go_wp2_with fail
 refine bodyPost_ret (v:=.agg #[.bool true,.bool false,.bool false]) (by simp[results,Tryz.results201,go_sem]) rfl ?_;exact⟨rfl,hid (HB.out _ _)⟩
theorem y0l(m:Option Nat)(T:ByteArray)(a b c d:Int)(so:Option Addr)(n cap:Nat)(p:Int)(w:World):Calls prog 201 #[.map m,.agg #[.int .i64 4,.string T,.int .u64 a,.int .u64 b,.int .u64 c,.int .u64 d,.slice so n cap,.int .i64 p]] w fun e w'=>e=.returned (ov (false,true,true))/\Hid (Below w.heap.size w w'):=by
 have HB:Hid (∀o1 o2:Obj,Below w.heap.size w ((w.alloc o1).alloc o2)):=fun o1 o2=>((Below.refl _ w).alloc L0q o1).alloc (by simp) o2
 go_enter func201,ntmps201
 go_wp2_with fail
 refine bodyPost_ret (v:=.agg #[.bool false,.bool true,.bool true]) (by simp[results,Tryz.results201,go_sem]) rfl ?_;exact⟨rfl,hid (HB.out _ _)⟩
theorem y0m(m:Option Nat)(T:ByteArray)(a b c d:Int)(so:Option Addr)(n cap:Nat)(p:Int)(w:World)(hT:T={data:=#[]}):Calls prog 201 #[.map m,.agg #[.int .i64 2,.string T,.int .u64 a,.int .u64 b,.int .u64 c,.int .u64 d,.slice so n cap,.int .i64 p]] w fun e w'=>e=.returned (ov (true,false,false))/\Hid (Below w.heap.size w w'):=by
 subst hT;have HB:Hid (∀o1 o2:Obj,Below w.heap.size w ((w.alloc o1).alloc o2)):=fun o1 o2=>((Below.refl _ w).alloc L0q o1).alloc (by simp) o2
 go_enter func201,ntmps201
 go_wp2_with fail
 refine bodyPost_ret (v:=.agg #[.bool true,.bool false,.bool false]) (by simp[results,Tryz.results201,go_sem]) rfl ?_;exact⟨rfl,hid (HB.out _ _)⟩
theorem y0n(m:Option Nat)(T:ByteArray)(a b c d:Int)(so:Option Addr)(n cap:Nat)(p:Int)(w:World)(hT:T.toList.isEmpty=false):Calls prog 201 #[.map m,.agg #[.int .i64 2,.string T,.int .u64 a,.int .u64 b,.int .u64 c,.int .u64 d,.slice so n cap,.int .i64 p]] w fun e w'=>e=.returned (ov (false,true,true))/\Hid (Below w.heap.size w w'):=by
 have HB:Hid (∀o1 o2:Obj,Below w.heap.size w ((w.alloc o1).alloc o2)):=fun o1 o2=>((Below.refl _ w).alloc L0q o1).alloc (by simp) o2
 go_enter func201,ntmps201
 go_wp2_with fail
 refine bodyPost_ret (v:=.agg #[.bool false,.bool true,.bool true]) (by simp[results,Tryz.results201,go_sem]) rfl ?_;exact⟨rfl,hid (HB.out _ _)⟩
open Go.Maps
def dO(x:Ot):DataW Unit:=.agg [.lit (.bool x.1),.lit (.bool x.2.1),.lit (.bool x.2.2)]
def oEl(v:Value):Option (DataW Unit×List MemPlace):=match v with
 | .agg cs=>match cs.toList with
   |[.bool a,.bool b,.bool c]=>some (dO (a,b,c),[])
   |_=>none
 |_=>none
theorem y0o{x y:Ot}(h:dO x=dO y):x=y:=by
 obtain⟨a,b,c⟩:=x;obtain⟨d,e,f⟩:=y;simp only[dO,DataW.agg.injEq,List.cons.injEq,DataW.lit.injEq,Lit.bool.injEq,and_true]at h;obtain⟨rfl,rfl,rfl⟩:=h;rfl
theorem z3p(x:Ot):oEl (ov x)=some (dO x,[]):=rfl
theorem y0p{v:Value}{x:Ot}{ps:List MemPlace}(h:oEl v=some (dO x,ps)):v=ov x:=by
 unfold oEl at h;split at h
 ·rename_i cs
  split at h
  ·rename_i a b c hc
   have e:=y0o (Prod.mk.inj (Option.some.inj h)).1;subst e;obtain⟨l⟩:=cs;simp only at hc;subst hc;rfl
  ·cases h
 ·cases h
theorem y0q(w:World):(zeroValue 199).run prog w=.ok (ov (false,false,false)) w:=by kernel_rfl
theorem z3q:Tryz.prog.underlying 277=some (.map 9 199):=by kernel_rfl
def Nm(W:World)(B:Nat)(n:Nat)(K:ByteArray->Ot):Prop:=∃D:DataW Unit,W.ownsMap prog 9 oEl B n D/\∀s,D.atKey (kls s) (dO (false,false,false))=dO (K s)
theorem Nm.made(w:World):Nm (w.alloc (.map #[] 0)) w.heap.size 0 z0O:=⟨.map [],World.ownsMap_made w _ _ _,fun s=>rfl⟩
theorem Nm.kept{W W':World}{B n:Nat}{K:ByteArray->Ot}{row:Option Nat}(h:Nm W B n K)(hg:W.grownBy W' row)(hne:some B≠row):Nm W' B n K:=by
 obtain⟨D,h1,h2⟩:=h;exact⟨D,h1.kept hg hne,h2⟩
theorem Nm.below{W W':World}{B n base:Nat}{K:ByteArray->Ot}(h:Nm W B n K)(hb:Below base W W')(hB:B<base):Nm W' B n K:=by
 obtain⟨D,⟨es,ck,h1,h2,h3,h4⟩,h5⟩:=h;exact⟨D,⟨es,ck,(hb.block B hB).trans h1,h2,h3,h4⟩,h5⟩
theorem Nm.look{W:World}{B n:Nat}{K:ByteArray->Ot}(h:Nm W B n K){s:ByteArray}(hs:s.size<=maxLen):(Instr.lookup 277 (.map (some B)) (.string s) false).run prog W=.ok (ov (K s)) W:=by
 obtain⟨D,h1,h2⟩:=h;obtain⟨v,ps,h3,h4⟩:=h1.lookup Fl z3q (y0q W) (z3p (false,false,false)) (Dz hs);rw[h2 s]at h4;rw[h3,y0p h4]
theorem Nm.put{W:World}{B n:Nat}{K:ByteArray->Ot}(h:Nm W B n K){s:ByteArray}(hs:s.size<=maxLen)(x:Ot)(hn:n<maxLen):∃W',(Instr.mapUpdate 277 (.map (some B)) (.string s) (ov x)).run prog W=.ok () W'/\Nm W' B (n+1) (Ul K s x)/\W.grownBy W' (some B):=by
 obtain⟨D,h1,h2⟩:=h;obtain⟨W',h3,h4,h5⟩:=h1.update Fl z3q hn (Dz hs) (z3p x);refine⟨W',h3,⟨_,h4,fun t=> ?_⟩,h5⟩;unfold Ul;by_cases e:t=s
 ·subst e
  rw[if_pos rfl,Maps.atKey_put_same h1.isMap (Pp _)]
 ·rw[if_neg e,Maps.atKey_put_other (fun h=>e (z2g h)),h2 t]
section
section
variable {P:Program} {md:Region.Mode} {ops:Array Oper} {Q:Exit->Act->World->Prop} {S:World->Prop} {z:Nat}
def Vw(P:Program)(md:Region.Mode)(ops:Array Oper)(Q:Exit->Act->World->Prop)(S:World->Prop)(z:Nat):Nat->Array Bool->Act->World->Prop
 |0,l,a,w=>Region.ready md ops l=[]/\Q .normal a w
 |n+1,l,a,w=>(Region.ready md ops l=[]->Q .normal a w)/\∀i∈Region.ready md ops l,wpOp P ops Q i (fun a' w'=>(i≠z->S w')/\Vw P md ops Q S z n (l.setIfInBounds i true) a' w') a w
theorem z3r:∀(n:Nat) (l:Array Bool) (a:Act) (w:World),Vw P md ops Q S z n l a w->wpAny P md ops Q n l a w
 |0,_,_,_,h=>h
 |n+1,_,_,_,h=>⟨h.1,fun i hi=>wpOp_mono (fun a' w' k=>z3r n _ a' w' k.2) (h.2 i hi)⟩
def Md(md:Region.Mode)(ops:Array Oper)(z i:Nat):Bool:=match ops[z]? with
 |some o=>o.after.any fun e=>Region.binds md e&&e.on == i
 |none=>true
theorem y0r{i:Nat}{l:Array Bool}(h:Md md ops z i=true)(hr:i∈Region.ready md ops l):z ∉ Region.ready md ops l:=fun hz=>by
 obtain⟨_,oz,hoz,hall⟩:=mem_ready.1 hz;unfold Md at h;rw[hoz]at h;simp only[Array.any_eq_true']at h;obtain⟨e,he,hb⟩:=h;rw[Bool.and_eq_true,beq_iff_eq]at hb;have h1:=hall e he hb.1;have h0:=(mem_ready.1 hr).1;rw[hb.2]at h1;rcases Nat.lt_or_ge i l.size with h'|h'
 ·simp[h']at h0 h1;rw[h0]at h1;cases h1
 ·simp[Array.getElem?_eq_none h']at h1
theorem y0s{i:Nat}{oi:Oper}{v:Value}(hi:ops[i]? =some oi)(hsel:∀(j:Nat) (o:Oper) cs b,ops[j]? =some o->o.op≠.select cs b)(hz:Md md ops z i=true)
  (hQ:∀c a w,Q (.panic c) (a.put oi.dst v) w->Q (.panic c) a w):
  ∀(n:Nat) (l:Array Bool) (a:Act) (w:World),
   (∀j oj,ops[j]? =some oj->j≠i->l.getD j true=false->(∀e∈oj.after,Region.binds md e=true->e.on≠i)->oi.apart ops oj=true)->
   i∈Region.ready md ops l->YieldsIf P ops S oi v a->S w->
   Vw P md ops Q S z n (l.setIfInBounds i true) (a.put oi.dst v) w->Vw P md ops Q S z (n+1) l a w:=by
 intro n
 induction n with
 |zero=>
  intro l a w _ hr hy hS H;refine⟨fun h=>(by rw[h]at hr;cases hr),fun j hj=> ?_⟩;by_cases hji:j=i
  ·subst hji;exact hy.wpOp hi hS ⟨fun _=>hS,H⟩
  ·have:=ready_mono hj hji
   rw[H.1]at this;cases this
 |succ n ih=>
  intro l a w hfree hr hy hS H;refine⟨fun h=>(by rw[h]at hr;cases hr),fun j hj=> ?_⟩;by_cases hji:j=i
  ·subst hji;exact hy.wpOp hi hS ⟨fun _=>hS,H⟩
  ·have h1:=H.2 j (ready_mono hj hji)
   have hjz:j≠z:=fun e=>y0r hz hr (e▸hj)
   obtain⟨hjun,oj,hoj,hall⟩:=mem_ready.1 hj;have hnot:∀e∈oj.after,Region.binds md e=true->e.on≠i:=fun e he hb heq=>by
    have h1:=hall e he hb;have h0:=(mem_ready.1 hr).1;rw[heq]at h1;rcases Nat.lt_or_ge i l.size with h'|h'
    ·simp[h']at h0 h1;rw[h0]at h1;cases h1
    ·simp[Array.getElem?_eq_none h']at h1
   have h2:=wpOp_putIf hoj (hfree j oj hoj hji hjun hnot) (fun cs b=>hsel i oi cs b hi) (fun cs b=>hsel j oj cs b hoj) hQ hy h1;have hfree':∀k ok,ops[k]? =some ok->k≠i->(l.setIfInBounds j true).getD k true=false->
     (∀e∈ok.after,Region.binds md e=true->e.on≠i)->oi.apart ops ok=true:=fun k ok hk hki hun hno=>by
    refine hfree k ok hk hki ?_ hno;by_cases hjk:j=k
    ·subst hjk;exact hjun
    ·rw[getD_set_ne true hjk]at hun;exact hun
   refine wpOp_mono (fun a' w' h3=>⟨fun _=>h3.2.1 hjz,ih (l.setIfInBounds j true) a' w' hfree' (ready_mono hr (Ne.symm hji)) h3.1 (h3.2.1 hjz) ?_⟩) h2;rw[Array.setIfInBounds_comm _ _ hji];exact h3.2.2
theorem Ky{i:Nat}{oi:Oper}{v:Value}{n:Nat}{l:Array Bool}{a:Act}{w:World}(hi:ops[i]? =some oi)
  (hs:Region.noSelect ops=true)(hf:(Region.free md ops l i&&Md md ops z i)=true)(hr:(Region.ready md ops l).contains i=true)
  (hQ:∀c a w,Q (.panic c) (a.put oi.dst v) w->Q (.panic c) a w)(hy:YieldsIf P ops S oi v a)(hS:S w)
  (h:Vw P md ops Q S z n (l.setIfInBounds i true) (a.put oi.dst v) w):Vw P md ops Q S z (n+1) l a w:=by
 rw[Bool.and_eq_true]at hf;exact y0s hi (Region.noSelect_spec hs) hf.2 hQ n l a w (Region.free_spec hi hf.1) (by simpa using hr) hy hS h
def Gz:List Oper->Nat->Option Oper
 |[],_=>none
 |o::_,0=>some o
 |_::l,n+1=>Gz l n
theorem z3s:∀(l:List Oper) (i:Nat),Gz l i=l[i]?
 |[],_=>by simp[Gz]
 |_::_,0=>by simp[Gz]
 |_::l,n+1=>by simp[Gz,z3s l n]
theorem Sg{ops:Array Oper}{i:Nat}{o:Oper}(h:Gz ops.toList i=some o):ops[i]? =some o:=by
 rw[z3s]at h;simpa using h
theorem Qq(i:Nat){oi:Oper}{v:Value}{n:Nat}{l l':Array Bool}{a a':Act}{w:World}(hS:S w)(h:Vw P md ops Q S z n l' a' w)
  (hi:Gz ops.toList i=some oi:=by exact rfl)
  (hs:Region.noSelect ops=true:=by kernel_rfl)(hf:(Region.free md ops l i&&Md md ops z i)=true:=by kernel_rfl)(hr:(Region.ready md ops l).contains i=true:=by kernel_rfl)
  (hy:YieldsIf P ops S oi v a:=by first|exact Or.inr ⟨by rfl,rfl⟩|(refine Or.inl ⟨by rfl,?_⟩;intro w hSw;(try dsimp only at hSw);go_simp;(try with_reducible rfl)))
  (hQ:∀c a w,Q (.panic c) (a.put oi.dst v) w->Q (.panic c) a w:=by first|exact fun _ _ _ h=>h|exact fun _ _ _ h=>by cases h.1)
  (hl:l.setIfInBounds i true=l':=by(try simp only[List.setIfInBounds_toArray,List.set_cons_zero,List.set_cons_succ]);exact rfl)
  (ha:a.put oi.dst v=a':=by(try simp only[Act.put,List.setIfInBounds_toArray,List.set_cons_zero,List.set_cons_succ]);exact rfl):Vw P md ops Q S z (n+1) l a w:=
 Ky (Sg hi) hs hf hr hQ hy hS (by rw[hl,ha];exact h)
theorem y0t{i:Nat}{o:Oper}{n:Nat}{l:Array Bool}{a:Act}{w:World}(hr:Region.ready md ops l=[i])(ho:ops[i]? =some o)
  (h:∀K':Act->World->Prop,Shut (∀a w,S w->Vw P md ops Q S z n (l.setIfInBounds i true) a w->K' a w)->if Region.wanted o (yielded ops a.tmps)=true then Oper.wp P o a w K' Q else K' (a.put o.dst undef) w):Vw P md ops Q S z (n+1) l a w:=by
 refine⟨(fun h0=>by rw[hr]at h0;cases h0),fun j hj=> ?_⟩;rw[hr,List.mem_singleton]at hj;subst hj;exact wpOp_step ho fun K' hK=>h K' fun a w hS hW=>hK a w ⟨fun _=>hS,hW⟩
theorem y0u{o:Oper}{n:Nat}{l:Array Bool}{a:Act}{w:World}(hr:Region.ready md ops l=[z])(hl:Region.ready md ops (l.setIfInBounds z true)=[])(ho:ops[z]? =some o)
  (h:∀K':Act->World->Prop,Shut (∀a w,Q .normal a w->K' a w)->if Region.wanted o (yielded ops a.tmps)=true then Oper.wp P o a w K' Q else K' (a.put o.dst undef) w):Vw P md ops Q S z (n+1) l a w:=by
 refine⟨(fun h0=>by rw[hr]at h0;cases h0),fun j hj=> ?_⟩;rw[hr,List.mem_singleton]at hj;subst hj;refine wpOp_step ho fun K' hK=>h K' fun a w hW=>hK a w ⟨fun hne=>absurd rfl hne,?_⟩
 cases n with
 |zero=>exact⟨hl,hW⟩
 |succ n=>exact⟨fun _=>hW,fun i hi=>by rw[hl]at hi;cases hi⟩
theorem Qd(i:Nat){o:Oper}{n:Nat}{l:Array Bool}{a:Act}{w:World}
 (h:∀K':Act->World->Prop,Shut (∀a w,S w->Vw P md ops Q S z n (l.setIfInBounds i true) a w->K' a w)->if Region.wanted o (yielded ops a.tmps)=true then Oper.wp P o a w K' Q else K' (a.put o.dst undef) w)
 (hi:Gz ops.toList i=some o:=by exact rfl)(hr:Region.ready md ops l=[i]:=by kernel_rfl):Vw P md ops Q S z (n+1) l a w:=y0t hr (Sg hi) h
theorem Jh{o:Oper}{n:Nat}{l:Array Bool}{a:Act}{w:World}
 (h:∀K':Act->World->Prop,Shut (∀a w,Q .normal a w->K' a w)->if Region.wanted o (yielded ops a.tmps)=true then Oper.wp P o a w K' Q else K' (a.put o.dst undef) w)
 (hi:Gz ops.toList z=some o:=by exact rfl)(hr:Region.ready md ops l=[z]:=by kernel_rfl)(hl:Region.ready md ops (l.setIfInBounds z true)=[]:=by kernel_rfl):Vw P md ops Q S z (n+1) l a w:=y0u hr hl (Sg hi) h
theorem Zl{id:Nat}{a:Act}{w:World}(z:Nat)(S:World->Prop)(hm:P.follows .mixedOrders=true)(hS:S w.drew)
  (h:S w.drew->Vw P .any ops Q S z ops.size (Array.replicate ops.size false) a w.drew):(Code.region id ops true).wp P Q a w:=
 wp_region_any hm (z3r _ _ _ _ (h hS))
end
end
theorem Nm.lt{W:World}{B n:Nat}{K:ByteArray->Ot}(h:Nm W B n K):B<W.heap.size:=by
 obtain⟨D,h1,_⟩:=h;exact h1.lt
theorem z3t(K:ByteArray->Ot)(t:RT):∀(l:List RT) (x:Ot),ofS K x (l++[t])=Kk (ofS K x l) (ofT K t)
 |[],x=>by rw[List.nil_append,ofS,ofS,ofS]
 |a::r,x=>by rw[List.cons_append,ofS,ofS,z3t K t r]
theorem z3u(K:ByteArray->Ot)(t:RT):∀(l:List RT) (x:Ot),ofA K x (l++[t])=Dw (ofA K x l) (ofT K t)
 |[],x=>by rw[List.nil_append,ofA,ofA,ofA]
 |a::r,x=>by rw[List.cons_append,ofA,ofA,z3u K t r]
theorem y0v(K:ByteArray->Ot)(x:Ot)(s:List RT)(j:Nat)(hj:j<s.length):ofS K x (s.take (j+1))=Kk (ofS K x (s.take j)) (ofT K s[j]):=by
 rw[show s.take (j+1)=s.take j++[s[j]] by simp,z3t]
theorem y0w(K:ByteArray->Ot)(x:Ot)(s:List RT)(j:Nat)(hj:j<s.length):ofA K x (s.take (j+1))=Dw (ofA K x (s.take j)) (ofT K s[j]):=by
 rw[show s.take (j+1)=s.take j++[s[j]] by simp,z3u]
theorem Vy{W:World}{R:Nat}{a b c v0 v1 v2:Value}{t:TypeId}(h:W.heap[R]? =some (.cells #[a,b,c] t)):(((W.setCell ⟨R,0,none⟩ v0).setCell ⟨R,1,none⟩ v1).setCell ⟨R,2,none⟩ v2).heap[R]? =some (.cells #[v0,v1,v2] t):=Qb (Qb (Qb h 0 _) 1 _) 2 _
theorem z3v{w w4 W W':World}{x1 x2 x3 y1 y2 y3:Bool}(h:Hid (Below w.heap.size w W)/\Hid (W.heap[w.heap.size]? =some (.cells #[.bool false,.bool false,.bool false] 199))/\Hid (W.heap[w.heap.size+1]? =some (.cells #[.bool x1,.bool x2,.bool x3] 199))/\W.cell? ⟨w.heap.size+1,0,none⟩=some (.bool x1)/\W.cell? ⟨w.heap.size+1,1,none⟩=some (.bool x2)/\W.cell? ⟨w.heap.size+1,2,none⟩=some (.bool x3)/\W.cell? ⟨w4.heap.size,0,none⟩=some (.bool y1)/\W.cell? ⟨w4.heap.size,1,none⟩=some (.bool y2)/\W.cell? ⟨w4.heap.size,2,none⟩=some (.bool y3))(hb:Below W.heap.size W W'):Hid (Below w.heap.size w W')/\Hid (W'.heap[w.heap.size]? =some (.cells #[.bool false,.bool false,.bool false] 199))/\Hid (W'.heap[w.heap.size+1]? =some (.cells #[.bool x1,.bool x2,.bool x3] 199))/\W'.cell? ⟨w.heap.size+1,0,none⟩=some (.bool x1)/\W'.cell? ⟨w.heap.size+1,1,none⟩=some (.bool x2)/\W'.cell? ⟨w.heap.size+1,2,none⟩=some (.bool x3)/\W'.cell? ⟨w4.heap.size,0,none⟩=some (.bool y1)/\W'.cell? ⟨w4.heap.size,1,none⟩=some (.bool y2)/\W'.cell? ⟨w4.heap.size,2,none⟩=some (.bool y3):=by
 obtain⟨h1,h2,h3,z0,z1,z2,z3,z4,z5⟩:=h;have e:∀(a:Addr) (u:Value),W.cell? a=some u->W'.cell? a=some u:=fun a u h=>(hb.cell (p:=a) (World.block_lt_of_cell? W _ h)).trans h
 exact⟨hid (h1.out.trans (hb.mono h1.out.size)),hid ((hb.block _ (Qz h2.out)).trans h2.out),hid ((hb.block _ (Qz h3.out)).trans h3.out),e _ _ z0,e _ _ z1,e _ _ z2,e _ _ z3,e _ _ z4,e _ _ z5⟩
theorem y0x(W:World)(a b c:Addr)(x y z:Value):(((W.setCell a x).setCell b y).setCell c z).drew=((W.drew.setCell a x).setCell b y).setCell c z:=rfl
theorem y0y{x1 x2 x3 y1 y2 y3 q:Bool}(h:q=suc (y1,y2,y3)):Kk (x1,x2,x3) (y1,y2,y3)=(x1&&y1,x2&&q||x1&&y2,x3||(x1||x2)&&y3):=by rw[h];rfl
theorem y0z(B nn:Nat)(K:ByteArray->Ot)(T:ByteArray)(a b c d:Int)(so:Option Addr)(n cap:Nat)(p:Int)(w:World)(hM:Nm w B nn K)(hT:T.size<=maxLen):Calls prog 201 #[.map (some B),.agg #[.int .i64 5,.string T,.int .u64 a,.int .u64 b,.int .u64 c,.int .u64 d,.slice so n cap,.int .i64 p]] w fun e w'=>e=.returned (ov (K T))/\Hid (Below w.heap.size w w'):=by
 have HB:Hid (∀o1 o2:Obj,Below w.heap.size w ((w.alloc o1).alloc o2)):=fun o1 o2=>((Below.refl _ w).alloc L0q o1).alloc (by simp) o2
 have hL:=((hM.kept (World.grownBy_alloc w (.cells #[.int .i64 5,.string T,.int .u64 a,.int .u64 b,.int .u64 c,.int .u64 d,.slice so n cap,.int .i64 p] 71) none) (by simp)).kept (World.grownBy_alloc _ (.cells #[.bool false,.bool false,.bool false] 199) none) (by simp)).look hT;obtain⟨⟨x1,x2,x3⟩,hx⟩:∃x,x=K T:=⟨_,rfl⟩;rw[<-hx]at hL ⊢;dsimp only[ov]at hL;clear hx hM;go_enter func201,ntmps201
 go_wp2_with fail
 refine bodyPost_ret (v:=.agg #[.bool x1,.bool x2,.bool x3]) (by simp[results,Tryz.results201,go_sem]) rfl ?_;exact⟨rfl,hid (HB.out _ _)⟩
theorem y0A(m:Option Nat)(T:ByteArray)(a b c d:Int)(so:Option Addr)(n cap:Nat)(p:Int)(w:World):Calls prog 201 #[.map m,.agg #[.int .i64 3,.string T,.int .u64 a,.int .u64 b,.int .u64 c,.int .u64 d,.slice so n cap,.int .i64 p]] w fun e w'=>e=.returned (ov (if zc a b c d then(false,false,true)else(false,true,true)))/\Hid (Below w.heap.size w w'):=by
 have HB:Hid (∀o1 o2:Obj,Below w.heap.size w ((w.alloc o1).alloc o2)):=fun o1 o2=>((Below.refl _ w).alloc L0q o1).alloc (by simp) o2
 have e3:∀w:World,(Op.equalIn 10000 68 (.agg #[.int .u64 a,.int .u64 b,.int .u64 c,.int .u64 d]) (.agg #[.int .u64 0,.int .u64 0,.int .u64 0,.int .u64 0])).run prog w=.ok (zc a b c d) w:=fun w=>Lj 9998 w a b c d 0 0 0 0
 cases hz:zc a b c d with
 |true=>
  rw[hz]at e3;clear hz;go_enter func201,ntmps201
  go_wp2_with fail
  refine bodyPost_ret (v:=.agg #[.bool false,.bool false,.bool true]) (by simp[results,Tryz.results201,go_sem]) rfl ?_;exact⟨rfl,hid (HB.out _ _)⟩
 |false=>
  rw[hz]at e3;clear hz;go_enter func201,ntmps201
  go_wp2_with fail
  refine bodyPost_ret (v:=.agg #[.bool false,.bool true,.bool true]) (by simp[results,Tryz.results201,go_sem]) rfl ?_;exact⟨rfl,hid (HB.out _ _)⟩
theorem y0B(B:Nat)(K:ByteArray->Ot)(so:Option Addr)(n cap:Nat)(s:List RT)(w:World)(hn:n<=9223372036854775807)(HN:Hid (n=s.length))
  (HC:Hid (∀j (hj:j<s.length),∃g o,so=some ⟨g,o,none⟩/\g<w.heap.size/\∃k1 T1 a1 b1 c1 d1 so1 n1 cap1 p1,Rc w g (o+j*8) k1 T1 a1 b1 c1 d1 (.slice so1 n1 cap1) p1/\
    ∀W:World,Below w.heap.size w W->Calls prog 201 #[.map (some B),.agg (r8 k1 T1 a1 b1 c1 d1 so1 n1 cap1 p1).toArray] W fun e w'=>e=.returned (ov (ofT K s[j]))/\Hid (Below W.heap.size W w'))):
  Calls prog 236 #[.map (some B),.slice so n cap] w fun e w'=>e=.returned (ov (ofS K (true,false,false) s))/\Hid (Below w.heap.size w w'):=by
 obtain⟨W1,hW1⟩:∃W1,W1=(w.alloc (.cells #[.bool false,.bool false,.bool false] 199)).alloc (.cells #[.bool true,.bool false,.bool false] 199):=⟨_,rfl⟩;have HB1:Hid (Below w.heap.size w W1):=by rw[hW1];exact((Below.refl _ w).alloc L0q _).alloc (by simp) _
 have HR1:Hid (W1.heap[w.heap.size]? =some (.cells #[.bool false,.bool false,.bool false] 199)):=by rw[hW1];exact(Below.heap_alloc _ _ _ (by simp)).trans (Qx w _ rfl)
 have HA1:Hid (W1.heap[w.heap.size+1]? =some (.cells #[.bool true,.bool false,.bool false] 199)):=by rw[hW1];exact Qx _ _ (by simp)
 have HW1:=hid hW1;clear hW1;go_enter func236,ntmps236
 go_wp2_with fail
 rw[<-HW1.out];clear HW1
 go_loopw [12] (fun i wr=>∃j:Nat,i=.int .i64 j/\j<=n/\Hid (Below w.heap.size w wr)/\Hid (wr.heap[w.heap.size]? =some (.cells #[.bool false,.bool false,.bool false] 199))/\∃x1 x2 x3:Bool,Hid ((x1,x2,x3)=ofS K (true,false,false) (s.take j))/\Hid (wr.heap[w.heap.size+1]? =some (.cells #[.bool x1,.bool x2,.bool x3] 199))) (fun i _=>n-(intOf i).toNat)
 case atStart=>exact⟨0,rfl,Nat.zero_le _,HB1,HR1,_,_,_,hid (by rw[List.take_zero,ofS]),HA1⟩
 case round=>
  obtain⟨j,rfl,hj,HBr,HRr,x1,x2,x3,HX,HAr⟩:=hrel;by_cases hjn:j<n
  ·have hjI:(j:Int)<(n:Int):=by omega
   have a0:decide ((j:Int)<(n:Int))=true:=by simp;omega
   have hjs:j<s.length:=by rw[<-HN.out];exact hjn
   obtain⟨g,o,rfl,hg,k1,T1,a1,b1,c1,d1,so1,n1,cap1,p1,hrc,hcall⟩:=HC.out j hjs;obtain⟨z0,z1,z2,z3,z4,z5,z6,z7⟩:=hrc.below HBr.out hg;have hgl:g<wr.heap.size:=World.block_lt_of_cell? wr _ z0;obtain⟨⟨y1,y2,y3⟩,hy⟩:∃y,y=ofT K s[j]:=⟨_,rfl⟩;have hbp:Below w.heap.size w (wr.alloc (.cells #[.int .i64 k1,.string T1,.int .u64 a1,.int .u64 b1,.int .u64 c1,.int .u64 d1,.slice so1 n1 cap1,.int .i64 p1] 71)):=HBr.out.alloc HBr.out.size _;have hbq:=(Below.refl _ wr).alloc L0q (.cells #[.int .i64 k1,.string T1,.int .u64 a1,.int .u64 b1,.int .u64 c1,.int .u64 d1,.slice so1 n1 cap1,.int .i64 p1] 71);have HRp:=hid ((hbq.block _ (Qz HRr.out)).trans HRr.out);have HAp:=hid ((hbq.block _ (Qz HAr.out)).trans HAr.out);have HBp:=hid hbp;have HS:=hid (hcall _ hbp);rw[<-hy]at HS;have HY:=hid hy;clear hcall hrc hy hbp hbq;dsimp only[r8,ov]at HS
   go_wp2_with(first
    |(go_at_call 201;refine HS.out.mono ?_;rintro e w4 ⟨rfl,HB4⟩))
   have HBw4:=hid (HBp.out.trans (HB4.out.mono HBp.out.size));have HR4:=hid ((HB4.out.block _ (Qz HRp.out)).trans HRp.out);have HA4:=hid ((HB4.out.block _ (Qz HAp.out)).trans HAp.out);clear HS HB4 z0 z1 z2 z3 z4 z5 z6 z7 HRr HAr HBr hgl HBp HRp HAp;obtain⟨q,hq⟩:∃q,q=suc (y1,y2,y3):=⟨_,rfl⟩;have HSn:Hid (∀W:World,Calls prog 269 #[.agg #[.bool y1,.bool y2,.bool y3]] W fun e w'=>e=.returned (.bool q)/\Hid (Below W.heap.size W w')):=fun W=>by rw[hq];exact Eb y1 y2 y3 W
   have HSa:Hid (∀W:World,Calls prog 269 #[.agg #[.bool x1,.bool x2,.bool x3]] W fun e w'=>e=.returned (.bool (x1||x2))/\Hid (Below W.heap.size W w')):=fun W=>Eb x1 x2 x3 W
   have HQ:=hid hq;clear hq;have S0:(fun W:World=>Hid (Below w.heap.size w W)/\Hid (W.heap[w.heap.size]? =some (.cells #[.bool false,.bool false,.bool false] 199))/\Hid (W.heap[w.heap.size+1]? =some (.cells #[.bool x1,.bool x2,.bool x3] 199))/\W.cell? ⟨w.heap.size+1,0,none⟩=some (.bool x1)/\W.cell? ⟨w.heap.size+1,1,none⟩=some (.bool x2)/\W.cell? ⟨w.heap.size+1,2,none⟩=some (.bool x3)/\W.cell? ⟨w4.heap.size,0,none⟩=some (.bool y1)/\W.cell? ⟨w4.heap.size,1,none⟩=some (.bool y2)/\W.cell? ⟨w4.heap.size,2,none⟩=some (.bool y3)) (w4.alloc (.cells #[.bool y1,.bool y2,.bool y3] 199)).drew:=by
    have hb:=(Below.refl _ w4).alloc L0q (.cells #[.bool y1,.bool y2,.bool y3] 199);have h1:=(hb.block _ (Qz HA4.out)).trans HA4.out;obtain⟨⟨t0,t1,t2⟩,_⟩:=Zz h1;obtain⟨⟨u0,u1,u2⟩,_⟩:=Zz (Qx w4 (.cells #[.bool y1,.bool y2,.bool y3] 199) rfl);exact⟨hid (HBw4.out.trans (hb.mono HBw4.out.size)).drew,hid ((hb.block _ (Qz HR4.out)).trans HR4.out),hid h1,t0,t1,t2,u0,u1,u2⟩
   clear HBw4 HR4 HA4;cases x1<;>cases x2<;>cases x3<;>cases q<;>(
    simp only[Bool.or_false,Bool.or_true]at HSa;refine Zl 31 (fun W:World=>Hid (Below w.heap.size w W)/\Hid (W.heap[w.heap.size]? =some (.cells #[.bool false,.bool false,.bool false] 199))/\Hid (W.heap[w.heap.size+1]? =some (.cells #[.bool _,.bool _,.bool _] 199))/\W.cell? ⟨w.heap.size+1,0,none⟩=some (.bool _)/\W.cell? ⟨w.heap.size+1,1,none⟩=some (.bool _)/\W.cell? ⟨w.heap.size+1,2,none⟩=some (.bool _)/\W.cell? ⟨w4.heap.size,0,none⟩=some (.bool y1)/\W.cell? ⟨w4.heap.size,1,none⟩=some (.bool y2)/\W.cell? ⟨w4.heap.size,2,none⟩=some (.bool y3)) (by kernel_rfl) S0 (fun hHeld=> ?_);refine Qq 0 hHeld ?_;refine Qq 1 hHeld ?_;refine Qq 2 hHeld ?_;refine Qq 3 hHeld ?_;refine Qq 4 hHeld ?_;refine Qq 5 hHeld ?_;refine Qq 6 hHeld ?_;refine Qq 7 hHeld ?_;refine Qq 8 hHeld ?_;refine Qq 9 hHeld ?_;refine Qq 20 hHeld ?_;refine Qq 21 hHeld ?_
    first
     |(refine Ky (i:=10) (oi:={dst:=Option.some 29,op:=Go.Op.call {callee:=Go.Callee.value (Go.Operand.func 269),args:=#[Go.Operand.tmp 28],argTypes:=#[199]},type:=4,pos:="nullable.go:104",after:=#[{on:=9,ground:=Go.Ground.data},{on:=8,ground:=Go.Ground.chain},{on:=8,ground:=Go.Ground.guard}],guard:=Option.some (8,Bool.true)}) (v:=undef) rfl (by kernel_rfl) (by kernel_rfl) (by kernel_rfl) (fun _ _ _ h=>h) (Or.inr ⟨by rfl,rfl⟩) hHeld ?_)
     |(refine Qd 10 (fun K hK=> ?_);go_simp;refine(HSn.out _).mono ?_;rintro e w5 ⟨rfl,HB5⟩;go_simp;replace hHeld:=z3v hHeld HB5.out;refine hK.out _ _ hHeld ?_;clear hK K HB5)
    (try simp only[Act.put,List.setIfInBounds_toArray,List.set_cons_zero,List.set_cons_succ])
    refine Qq 11 hHeld ?_;refine Qq 12 hHeld ?_;refine Qq 13 hHeld ?_;refine Qq 14 hHeld ?_;refine Qq 15 hHeld ?_;refine Qq 16 hHeld ?_;refine Qq 17 hHeld ?_;refine Qq 18 hHeld ?_;refine Qq 19 hHeld ?_;refine Qq 22 hHeld ?_;refine Qq 23 hHeld ?_
    first
     |(refine Ky (i:=24) (oi:={dst:=Option.some 43,op:=Go.Op.call {callee:=Go.Callee.value (Go.Operand.func 269),args:=#[Go.Operand.tmp 42],argTypes:=#[199]},type:=4,pos:="nullable.go:105",after:=#[{on:=23,ground:=Go.Ground.data},{on:=22,ground:=Go.Ground.chain},{on:=22,ground:=Go.Ground.guard}],guard:=Option.some (22,Bool.false)}) (v:=undef) rfl (by kernel_rfl) (by kernel_rfl) (by kernel_rfl) (fun _ _ _ h=>h) (Or.inr ⟨by rfl,rfl⟩) hHeld ?_)
     |(refine Qd 24 (fun K hK=> ?_);go_simp;refine(HSa.out _).mono ?_;rintro e w5 ⟨rfl,HB5⟩;go_simp;replace hHeld:=z3v hHeld HB5.out;refine hK.out _ _ hHeld ?_;clear hK K HB5)
    (try simp only[Act.put,List.setIfInBounds_toArray,List.set_cons_zero,List.set_cons_succ])
    refine Qq 25 hHeld ?_;refine Qq 26 hHeld ?_;refine Qq 27 hHeld ?_;refine Qq 28 hHeld ?_;refine Qq 29 hHeld ?_;refine Qq 30 hHeld ?_;refine Jh (fun K hK=> ?_);obtain⟨HBq,HRq,HAq,-,-,-,-,-,-⟩:=hHeld
    first
     |obtain⟨⟨t0,t1,t2⟩,f0,f1,f2⟩:=Zz (w:=w4.alloc (.cells #[.bool y1,.bool y2,.bool y3] 199)) HAq.out
     |obtain⟨⟨t0,t1,t2⟩,f0,f1,f2⟩:=Zz HAq.out
    have la:=Qz HAq.out
    go_simp
    (try rw[y0x])
    refine hK.out _ _ ?_;clear hK K t0 t1 t2 f0 f1 f2
    go_wp2_with fail
    go_roundw
    case rel=>exact⟨j+1,by go_num,by omega,hid (HBq.out.grown (Xj _ _ _ _ _) HBq.out.size (fun g e=>by have:=Option.some.inj e;omega)),hid (((Xj _ _ _ _ _).block _ (Qz HRq.out) (fun e=>by have:=Option.some.inj e;omega)).trans HRq.out),_,_,_,hid (by rw[y0v K _ s j hjs,<-HX.out,<-HY.out,y0y HQ.out];simp),hid (Vy HAq.out)⟩
    case measure=>simp[intOf];omega)
  ·have a0:decide ((j:Int)<(n:Int))=false:=by simp;omega
   have hjn':s.take j=s:=List.take_of_length_le (by rw[<-HN.out];omega);rw[hjn']at HX;obtain⟨⟨t0,t1,t2⟩,_⟩:=Zz HAr.out;obtain⟨⟨u0,u1,u2⟩,f0,f1,f2⟩:=Zz HRr.out;have la:=Qz HAr.out;have lr:=Qz HRr.out;have HBl:=hid (HBr.out.grown (Xj wr w.heap.size (.bool x1) (.bool x2) (.bool x3)) HBr.out.size (fun g e=>by have:=Option.some.inj e;omega));obtain⟨⟨r0,r1,r2⟩,_⟩:=Zz (Vy (v0:=.bool x1) (v1:=.bool x2) (v2:=.bool x3) HRr.out);clear hjn' HAr HRr HBr
   go_wp2_with fail
   refine bodyPost_ret (v:=.agg #[.bool x1,.bool x2,.bool x3]) (by simp[results,Tryz.results236,go_sem,r0,r1,r2]) rfl ?_;exact⟨by rw[<-HX.out],HBl⟩
theorem y0C{w w4:World}{x1 x2 x3 y1 y2 y3:Bool}(HB:Hid (Below w.heap.size w w4))(HR:Hid (w4.heap[w.heap.size]? =some (.cells #[.bool false,.bool false,.bool false] 199)))(HA:Hid (w4.heap[w.heap.size+1]? =some (.cells #[.bool x1,.bool x2,.bool x3] 199))):
  (Hid (Below w.heap.size w (w4.alloc (.cells #[.bool y1,.bool y2,.bool y3] 199)))/\Hid ((w4.alloc (.cells #[.bool y1,.bool y2,.bool y3] 199)).heap[w.heap.size]? =some (.cells #[.bool false,.bool false,.bool false] 199))/\Hid ((w4.alloc (.cells #[.bool y1,.bool y2,.bool y3] 199)).heap[w.heap.size+1]? =some (.cells #[.bool x1,.bool x2,.bool x3] 199)))/\
  w.heap.size+1<(w4.alloc (.cells #[.bool y1,.bool y2,.bool y3] 199)).heap.size/\w4.heap.size<(w4.alloc (.cells #[.bool y1,.bool y2,.bool y3] 199)).heap.size/\
  ((w4.alloc (.cells #[.bool y1,.bool y2,.bool y3] 199)).cell? ⟨w.heap.size+1,0,none⟩=some (.bool x1)/\(w4.alloc (.cells #[.bool y1,.bool y2,.bool y3] 199)).cell? ⟨w.heap.size+1,1,none⟩=some (.bool x2)/\(w4.alloc (.cells #[.bool y1,.bool y2,.bool y3] 199)).cell? ⟨w.heap.size+1,2,none⟩=some (.bool x3))/\
  ((w4.alloc (.cells #[.bool y1,.bool y2,.bool y3] 199)).frozen? ⟨w.heap.size+1,0,none⟩=false/\(w4.alloc (.cells #[.bool y1,.bool y2,.bool y3] 199)).frozen? ⟨w.heap.size+1,1,none⟩=false/\(w4.alloc (.cells #[.bool y1,.bool y2,.bool y3] 199)).frozen? ⟨w.heap.size+1,2,none⟩=false)/\
  (w4.alloc (.cells #[.bool y1,.bool y2,.bool y3] 199)).cell? ⟨w4.heap.size,0,none⟩=some (.bool y1)/\(w4.alloc (.cells #[.bool y1,.bool y2,.bool y3] 199)).cell? ⟨w4.heap.size,1,none⟩=some (.bool y2)/\(w4.alloc (.cells #[.bool y1,.bool y2,.bool y3] 199)).cell? ⟨w4.heap.size,2,none⟩=some (.bool y3):=by
 have hb:=(Below.refl _ w4).alloc L0q (.cells #[.bool y1,.bool y2,.bool y3] 199);have h1:=(hb.block _ (Qz HA.out)).trans HA.out;obtain⟨t,f⟩:=Zz h1;obtain⟨u,_⟩:=Zz (Qx w4 (.cells #[.bool y1,.bool y2,.bool y3] 199) rfl);exact⟨⟨hid (HB.out.trans (hb.mono HB.out.size)),hid ((hb.block _ (Qz HR.out)).trans HR.out),hid h1⟩,Qz h1,by simp,t,f,u⟩
theorem y0D(B:Nat)(K:ByteArray->Ot)(so:Option Addr)(n cap:Nat)(s:List RT)(w:World)(hn:n<=9223372036854775807)(HN:Hid (n=s.length))
  (HC:Hid (∀j (hj:j<s.length),∃g o,so=some ⟨g,o,none⟩/\g<w.heap.size/\∃k1 T1 a1 b1 c1 d1 so1 n1 cap1 p1,Rc w g (o+j*8) k1 T1 a1 b1 c1 d1 (.slice so1 n1 cap1) p1/\
    ∀W:World,Below w.heap.size w W->Calls prog 201 #[.map (some B),.agg (r8 k1 T1 a1 b1 c1 d1 so1 n1 cap1 p1).toArray] W fun e w'=>e=.returned (ov (ofT K s[j]))/\Hid (Below W.heap.size W w'))):
  Calls prog 237 #[.map (some B),.slice so n cap] w fun e w'=>e=.returned (ov (ofA K (false,false,true) s))/\Hid (Below w.heap.size w w'):=by
 obtain⟨W1,hW1⟩:∃W1,W1=(w.alloc (.cells #[.bool false,.bool false,.bool false] 199)).alloc (.cells #[.bool false,.bool false,.bool true] 199):=⟨_,rfl⟩;have HB1:Hid (Below w.heap.size w W1):=by rw[hW1];exact((Below.refl _ w).alloc L0q _).alloc (by simp) _
 have HR1:Hid (W1.heap[w.heap.size]? =some (.cells #[.bool false,.bool false,.bool false] 199)):=by rw[hW1];exact(Below.heap_alloc _ _ _ (by simp)).trans (Qx w _ rfl)
 have HA1:Hid (W1.heap[w.heap.size+1]? =some (.cells #[.bool false,.bool false,.bool true] 199)):=by rw[hW1];exact Qx _ _ (by simp)
 have HW1:=hid hW1;clear hW1;go_enter func237,ntmps237
 go_wp2_with fail
 rw[<-HW1.out];clear HW1
 go_loopw [12] (fun i wr=>∃j:Nat,i=.int .i64 j/\j<=n/\Hid (Below w.heap.size w wr)/\Hid (wr.heap[w.heap.size]? =some (.cells #[.bool false,.bool false,.bool false] 199))/\∃x1 x2 x3:Bool,Hid ((x1,x2,x3)=ofA K (false,false,true) (s.take j))/\Hid (wr.heap[w.heap.size+1]? =some (.cells #[.bool x1,.bool x2,.bool x3] 199))) (fun i _=>n-(intOf i).toNat)
 case atStart=>exact⟨0,rfl,Nat.zero_le _,HB1,HR1,_,_,_,hid (by rw[List.take_zero,ofA]),HA1⟩
 case round=>
  obtain⟨j,rfl,hj,HBr,HRr,x1,x2,x3,HX,HAr⟩:=hrel;by_cases hjn:j<n
  ·have hjI:(j:Int)<(n:Int):=by omega
   have a0:decide ((j:Int)<(n:Int))=true:=by simp;omega
   have hjs:j<s.length:=by rw[<-HN.out];exact hjn
   obtain⟨g,o,rfl,hg,k1,T1,a1,b1,c1,d1,so1,n1,cap1,p1,hrc,hcall⟩:=HC.out j hjs;obtain⟨z0,z1,z2,z3,z4,z5,z6,z7⟩:=hrc.below HBr.out hg;have hgl:g<wr.heap.size:=World.block_lt_of_cell? wr _ z0;obtain⟨⟨y1,y2,y3⟩,hy⟩:∃y,y=ofT K s[j]:=⟨_,rfl⟩;have hbp:Below w.heap.size w (wr.alloc (.cells #[.int .i64 k1,.string T1,.int .u64 a1,.int .u64 b1,.int .u64 c1,.int .u64 d1,.slice so1 n1 cap1,.int .i64 p1] 71)):=HBr.out.alloc HBr.out.size _;have hbq:=(Below.refl _ wr).alloc L0q (.cells #[.int .i64 k1,.string T1,.int .u64 a1,.int .u64 b1,.int .u64 c1,.int .u64 d1,.slice so1 n1 cap1,.int .i64 p1] 71);have HRp:=hid ((hbq.block _ (Qz HRr.out)).trans HRr.out);have HAp:=hid ((hbq.block _ (Qz HAr.out)).trans HAr.out);have HBp:=hid hbp;have HS:=hid (hcall _ hbp);rw[<-hy]at HS;have HY:=hid hy;clear hcall hrc hy hbp hbq;dsimp only[r8,ov]at HS;cases x1<;>cases x2<;>cases x3<;>(
    go_wp2_with(first
     |(go_at_call 201;refine HS.out.mono ?_;rintro e w4 ⟨rfl,HB4⟩;have HBw4:=hid (HBp.out.trans (HB4.out.mono HBp.out.size));have HR4:=hid ((HB4.out.block _ (Qz HRp.out)).trans HRp.out);have HA4:=hid ((HB4.out.block _ (Qz HAp.out)).trans HAp.out);obtain⟨⟨HBq,HRq,HAq⟩,la,ln,⟨t0,t1,t2⟩,⟨f0,f1,f2⟩,u0,u1,u2⟩:=y0C (y1:=y1) (y2:=y2) (y3:=y3) HBw4 HR4 HA4;clear HS HB4 HRr HAr HBr HBp HRp HAp HBw4 HR4 HA4))
    go_roundw
    case rel=>exact⟨j+1,by go_num,by omega,hid (HBq.out.grown (Xj _ _ _ _ _) HBq.out.size (fun g e=>by have:=Option.some.inj e;omega)),hid (((Xj _ _ _ _ _).block _ (Qz HRq.out) (fun e=>by have:=Option.some.inj e;omega)).trans HRq.out),_,_,_,hid (by rw[y0w K _ s j hjs,<-HX.out,<-HY.out];simp[Dw]),hid (Vy HAq.out)⟩
    case measure=>simp[intOf];omega)
  ·have a0:decide ((j:Int)<(n:Int))=false:=by simp;omega
   have hjn':s.take j=s:=List.take_of_length_le (by rw[<-HN.out];omega);rw[hjn']at HX;obtain⟨⟨t0,t1,t2⟩,_⟩:=Zz HAr.out;obtain⟨⟨u0,u1,u2⟩,f0,f1,f2⟩:=Zz HRr.out;have la:=Qz HAr.out;have lr:=Qz HRr.out;have HBl:=hid (HBr.out.grown (Xj wr w.heap.size (.bool x1) (.bool x2) (.bool x3)) HBr.out.size (fun g e=>by have:=Option.some.inj e;omega));obtain⟨⟨r0,r1,r2⟩,_⟩:=Zz (Vy (v0:=.bool x1) (v1:=.bool x2) (v2:=.bool x3) HRr.out);clear hjn' HAr HRr HBr
   go_wp2_with fail
   refine bodyPost_ret (v:=.agg #[.bool x1,.bool x2,.bool x3]) (by simp[results,Tryz.results237,go_sem,r0,r1,r2]) rfl ?_;exact⟨by rw[<-HX.out],HBl⟩
end Go.Proofs.YtlogolpcipiceaaGreatDoor
