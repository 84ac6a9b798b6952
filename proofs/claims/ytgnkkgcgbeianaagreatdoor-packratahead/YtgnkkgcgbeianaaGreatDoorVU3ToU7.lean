/- Lemmas for the last text. Conditions: those that each names. -/
import Derived.Test.YtgnkkgcgbeianaaGreatDoorVO22ToU2
import Derived.Test.YtgnkkgcgbeianaaGreatDoorVS1ToO4
import Derived.Deep.RegionHeld3
import Derived.ProofKit
set_option linter.unusedVariables false
set_option maxRecDepth 100000
set_option maxHeartbeats 16000000
namespace Go.Proofs.YtgnkkgcgbeianaaGreatDoor
open Go.Proofs.Tryz
open Go.RowKit Go.Shelf
theorem y3l(m:Option Nat)(T:ByteArray)(a b c d:Int)(r:Option Addr)(n t:Nat)(p:Int)(w:World):Calls prog 191 #[.map m,.agg #[.int .i64 1,.string T,.int .u64 a,.int .u64 b,.int .u64 c,.int .u64 d,.slice r n t,.int .i64 p]] w fun e w'=>e=.returned (ov (true,false,false))/\Hid (Below w.heap.size w w'):=by
 have y:Hid (∀h o:Obj,Below w.heap.size w ((w.alloc h).alloc o)):=fun h o=>((Below.refl _ w).alloc L0q h).alloc (by simp) o
 go_enter func191,ntmps191
 go_wp2_with fail
 refine bodyPost_ret (v:=.agg #[.bool true,.bool false,.bool false]) (by simp[results,Tryz.results191,go_sem]) rfl ?_;exact⟨rfl,hid (y.out _ _)⟩
theorem y3m(m:Option Nat)(T:ByteArray)(a b c d:Int)(r:Option Addr)(n t:Nat)(p:Int)(w:World):Calls prog 191 #[.map m,.agg #[.int .i64 4,.string T,.int .u64 a,.int .u64 b,.int .u64 c,.int .u64 d,.slice r n t,.int .i64 p]] w fun e w'=>e=.returned (ov (false,true,true))/\Hid (Below w.heap.size w w'):=by
 have y:Hid (∀h o:Obj,Below w.heap.size w ((w.alloc h).alloc o)):=fun h o=>((Below.refl _ w).alloc L0q h).alloc (by simp) o
 go_enter func191,ntmps191
 go_wp2_with fail
 refine bodyPost_ret (v:=.agg #[.bool false,.bool true,.bool true]) (by simp[results,Tryz.results191,go_sem]) rfl ?_;exact⟨rfl,hid (y.out _ _)⟩
theorem y3n(m:Option Nat)(T:ByteArray)(a b c d:Int)(r:Option Addr)(n t:Nat)(p:Int)(w:World)(y:T={data:=#[]}):Calls prog 191 #[.map m,.agg #[.int .i64 2,.string T,.int .u64 a,.int .u64 b,.int .u64 c,.int .u64 d,.slice r n t,.int .i64 p]] w fun e w'=>e=.returned (ov (true,false,false))/\Hid (Below w.heap.size w w'):=by
 subst y;have A:Hid (∀h o:Obj,Below w.heap.size w ((w.alloc h).alloc o)):=fun h o=>((Below.refl _ w).alloc L0q h).alloc (by simp) o
 go_enter func191,ntmps191
 go_wp2_with fail
 refine bodyPost_ret (v:=.agg #[.bool true,.bool false,.bool false]) (by simp[results,Tryz.results191,go_sem]) rfl ?_;exact⟨rfl,hid (A.out _ _)⟩
theorem y3o(m:Option Nat)(T:ByteArray)(a b c d:Int)(r:Option Addr)(n t:Nat)(p:Int)(w:World)(A:T.toList.isEmpty=false):Calls prog 191 #[.map m,.agg #[.int .i64 2,.string T,.int .u64 a,.int .u64 b,.int .u64 c,.int .u64 d,.slice r n t,.int .i64 p]] w fun e w'=>e=.returned (ov (false,true,true))/\Hid (Below w.heap.size w w'):=by
 have y:Hid (∀h o:Obj,Below w.heap.size w ((w.alloc h).alloc o)):=fun h o=>((Below.refl _ w).alloc L0q h).alloc (by simp) o
 go_enter func191,ntmps191
 go_wp2_with fail
 refine bodyPost_ret (v:=.agg #[.bool false,.bool true,.bool true]) (by simp[results,Tryz.results191,go_sem]) rfl ?_;exact⟨rfl,hid (y.out _ _)⟩
open Go.Maps
def dO(x:Ot):DataW Unit:=.agg [.lit (.bool x.1),.lit (.bool x.2.1),.lit (.bool x.2.2)]
def oEl(v:Value):Option (DataW Unit×List MemPlace):=match v with
 | .agg cs=>match cs.toList with
   |[.bool a,.bool b,.bool c]=>some (dO (a,b,c),[])
   |_=>none
 |_=>none
theorem y3p{x y:Ot}(h:dO x=dO y):x=y:=by
 obtain⟨a,b,c⟩:=x;obtain⟨d,e,f⟩:=y;simp only[dO,DataW.agg.injEq,List.cons.injEq,DataW.lit.injEq,Lit.bool.injEq,and_true]at h;obtain⟨rfl,rfl,rfl⟩:=h;rfl
theorem z4T(x:Ot):oEl (ov x)=some (dO x,[]):=rfl
theorem y3q{v:Value}{x:Ot}{r:List MemPlace}(h:oEl v=some (dO x,r)):v=ov x:=by
 unfold oEl at h;split at h
 ·rename_i t
  split at h
  ·rename_i a b c o
   have e:=y3p (Prod.mk.inj (Option.some.inj h)).1;subst e;obtain⟨l⟩:=t;simp only at o;subst o;rfl
  ·cases h
 ·cases h
theorem y3r(w:World):(zeroValue 210).run prog w=.ok (ov (false,false,false)) w:=by kernel_rfl
theorem z4U:Tryz.prog.underlying 247=some (.map 9 210):=by kernel_rfl
def Nm(W:World)(B:Nat)(n:Nat)(K:ByteArray->Ot):Prop:=∃D:DataW Unit,W.ownsMap prog 9 oEl B n D/\∀s,D.atKey (kls s) (dO (false,false,false))=dO (K s)
theorem Nm.made(w:World):Nm (w.alloc (.map #[] 0)) w.heap.size 0 z0O:=⟨.map [],World.ownsMap_made w _ _ _,fun s=>rfl⟩
theorem Nm.kept{W W':World}{B n:Nat}{K:ByteArray->Ot}{row:Option Nat}(h:Nm W B n K)(o:W.grownBy W' row)(r:some B≠row):Nm W' B n K:=by
 obtain⟨D,t,y⟩:=h;exact⟨D,t.kept o r,y⟩
theorem Nm.below{W W':World}{B n base:Nat}{K:ByteArray->Ot}(h:Nm W B n K)(o:Below base W W')(r:B<base):Nm W' B n K:=by
 obtain⟨D,⟨t,y,A,E,G,I⟩,U⟩:=h;exact⟨D,⟨t,y,(o.block B r).trans A,E,G,I⟩,U⟩
theorem Nm.look{W:World}{B n:Nat}{K:ByteArray->Ot}(h:Nm W B n K){s:ByteArray}(r:s.size<=maxLen):(Instr.lookup 247 (.map (some B)) (.string s) false).run prog W=.ok (ov (K s)) W:=by
 obtain⟨D,t,y⟩:=h;obtain⟨v,E,A,o⟩:=t.lookup Kz z4U (y3r W) (z4T (false,false,false)) (Kq r);rw[y s]at o;rw[A,y3q o]
theorem Nm.put{W:World}{B n:Nat}{K:ByteArray->Ot}(h:Nm W B n K){s:ByteArray}(r:s.size<=maxLen)(x:Ot)(y:n<maxLen):∃W',(Instr.mapUpdate 247 (.map (some B)) (.string s) (ov x)).run prog W=.ok () W'/\Nm W' B (n+1) (Jp K s x)/\W.grownBy W' (some B):=by
 obtain⟨D,o,A⟩:=h;obtain⟨W',E,G,I⟩:=o.update Kz z4U y (Kq r) (z4T x);refine⟨W',E,⟨_,G,fun t=> ?_⟩,I⟩;unfold Jp;by_cases e:t=s
 ·subst e
  rw[if_pos rfl,Maps.atKey_put_same o.isMap (Wv _)]
 ·rw[if_neg e,Maps.atKey_put_other (fun h=>e (z3E h)),A t]
section
section
variable {P:Program} {md:Region.Mode} {ops:Array Oper} {Q:Exit->Act->World->Prop} {S:World->Prop} {z:Nat}
def Yx(P:Program)(md:Region.Mode)(ops:Array Oper)(Q:Exit->Act->World->Prop)(S:World->Prop)(z:Nat):Nat->Array Bool->Act->World->Prop
 |0,l,a,w=>Region.ready md ops l=[]/\Q .normal a w
 |n+1,l,a,w=>(Region.ready md ops l=[]->Q .normal a w)/\∀i∈Region.ready md ops l,wpOp P ops Q i (fun a' w'=>(i≠z->S w')/\Yx P md ops Q S z n (l.setIfInBounds i true) a' w') a w
theorem z4V:∀(n:Nat) (l:Array Bool) (a:Act) (w:World),Yx P md ops Q S z n l a w->wpAny P md ops Q n l a w
 |0,_,_,_,h=>h
 |n+1,_,_,_,h=>⟨h.1,fun i o=>wpOp_mono (fun r w' k=>z4V n _ r w' k.2) (h.2 i o)⟩
def Ab(md:Region.Mode)(ops:Array Oper)(z i:Nat):Bool:=match ops[z]? with
 |some o=>o.after.any fun e=>Region.binds md e&&e.on == i
 |none=>true
theorem y3s{i:Nat}{l:Array Bool}(h:Ab md ops z i=true)(A:i∈Region.ready md ops l):z ∉ Region.ready md ops l:=fun D=>by
 obtain⟨_,U,E,G⟩:=mem_ready.1 D;unfold Ab at h;rw[E]at h;simp only[Array.any_eq_true']at h;obtain⟨e,I,r⟩:=h;rw[Bool.and_eq_true,beq_iff_eq]at r;have o:=G e I r.1;have y:=(mem_ready.1 A).1;rw[r.2]at o;rcases Nat.lt_or_ge i l.size with t|t
 ·simp[t]at y o;rw[y]at o;cases o
 ·simp[Array.getElem?_eq_none t]at o
theorem y3t{i:Nat}{oi:Oper}{v:Value}(V:ops[i]? =some oi)(aa:∀(j:Nat) (o:Oper) A b,ops[j]? =some o->o.op≠.select A b)(hz:Ab md ops z i=true)
  (hQ:∀c a w,Q (.panic c) (a.put oi.dst v) w->Q (.panic c) a w):
  ∀(n:Nat) (l:Array Bool) (a:Act) (w:World),
   (∀j t,ops[j]? =some t->j≠i->l.getD j true=false->(∀e∈t.after,Region.binds md e=true->e.on≠i)->oi.apart ops t=true)->
   i∈Region.ready md ops l->YieldsIf P ops S oi v a->S w->
   Yx P md ops Q S z n (l.setIfInBounds i true) (a.put oi.dst v) w->Yx P md ops Q S z (n+1) l a w:=by
 intro n
 induction n with
 |zero=>
  intro l a w _ r I D H;refine⟨fun h=>(by rw[h]at r;cases r),fun j E=> ?_⟩;by_cases hji:j=i
  ·subst hji;exact I.wpOp V D ⟨fun _=>D,H⟩
  ·have:=ready_mono E hji
   rw[H.1]at this;cases this
 |succ n ih=>
  intro l a w ab r I D H;refine⟨fun h=>(by rw[h]at r;cases r),fun j E=> ?_⟩;by_cases hji:j=i
  ·subst hji;exact I.wpOp V D ⟨fun _=>D,H⟩
  ·have y:=H.2 j (ready_mono E hji)
   have ac:j≠z:=fun e=>y3s hz r (e▸E)
   obtain⟨ad,t,Y,af⟩:=mem_ready.1 E;have ag:∀e∈t.after,Region.binds md e=true->e.on≠i:=fun e he hb ah=>by
    have y:=af e he hb;have h0:=(mem_ready.1 r).1;rw[ah]at y;rcases Nat.lt_or_ge i l.size with Z|Z
    ·simp[Z]at h0 y;rw[h0]at y;cases y
    ·simp[Array.getElem?_eq_none Z]at y
   have h2:=wpOp_putIf Y (ab j t Y hji ad ag) (fun A b=>aa i oi A b V) (fun A b=>aa j t A b Y) hQ I y;have ai:∀k G,ops[k]? =some G->k≠i->(l.setIfInBounds j true).getD k true=false->
     (∀e∈G.after,Region.binds md e=true->e.on≠i)->oi.apart ops G=true:=fun k G hk aj ae ak=>by
    refine ab k G hk aj ?_ ak;by_cases hjk:j=k
    ·subst hjk;exact ad
    ·rw[getD_set_ne true hjk]at ae;exact ae
   refine wpOp_mono (fun a' w' U=>⟨fun _=>U.2.1 ac,ih (l.setIfInBounds j true) a' w' ai (ready_mono r (Ne.symm hji)) U.1 (U.2.1 ac) ?_⟩) h2;rw[Array.setIfInBounds_comm _ _ hji];exact U.2.2
theorem Nw{i:Nat}{oi:Oper}{v:Value}{n:Nat}{l:Array Bool}{a:Act}{w:World}(r:ops[i]? =some oi)
  (t:Region.noSelect ops=true)(o:(Region.free md ops l i&&Ab md ops z i)=true)(y:(Region.ready md ops l).contains i=true)
  (A:∀c a w,Q (.panic c) (a.put oi.dst v) w->Q (.panic c) a w)(D:YieldsIf P ops S oi v a)(E:S w)
  (h:Yx P md ops Q S z n (l.setIfInBounds i true) (a.put oi.dst v) w):Yx P md ops Q S z (n+1) l a w:=by
 rw[Bool.and_eq_true]at o;exact y3t r (Region.noSelect_spec t) o.2 A n l a w (Region.free_spec r o.1) (by simpa using y) D E h
def Jc:List Oper->Nat->Option Oper
 |[],_=>none
 |o::_,0=>some o
 |_::l,n+1=>Jc l n
theorem z4W:∀(l:List Oper) (i:Nat),Jc l i=l[i]?
 |[],_=>by simp[Jc]
 |_::_,0=>by simp[Jc]
 |_::l,n+1=>by simp[Jc,z4W l n]
theorem Ah{ops:Array Oper}{i:Nat}{o:Oper}(h:Jc ops.toList i=some o):ops[i]? =some o:=by
 rw[z4W]at h;simpa using h
theorem Qz(i:Nat){oi:Oper}{v:Value}{n:Nat}{l l':Array Bool}{a o:Act}{w:World}(r:S w)(h:Yx P md ops Q S z n l' o w)
  (t:Jc ops.toList i=some oi:=by exact rfl)
  (y:Region.noSelect ops=true:=by kernel_rfl)(A:(Region.free md ops l i&&Ab md ops z i)=true:=by kernel_rfl)(D:(Region.ready md ops l).contains i=true:=by kernel_rfl)
  (E:YieldsIf P ops S oi v a:=by first|exact Or.inr ⟨by rfl,rfl⟩|(refine Or.inl ⟨by rfl,?_⟩;intro w G;(try dsimp only at G);go_simp;(try with_reducible rfl)))
  (I:∀c a w,Q (.panic c) (a.put oi.dst v) w->Q (.panic c) a w:=by first|exact fun _ _ _ h=>h|exact fun _ _ _ h=>by cases h.1)
  (hl:l.setIfInBounds i true=l':=by(try simp only[List.setIfInBounds_toArray,List.set_cons_zero,List.set_cons_succ]);exact rfl)
  (ha:a.put oi.dst v=o:=by(try simp only[Act.put,List.setIfInBounds_toArray,List.set_cons_zero,List.set_cons_succ]);exact rfl):Yx P md ops Q S z (n+1) l a w:=
 Nw (Ah t) y A D I E r (by rw[hl,ha];exact h)
theorem y3u{i:Nat}{o:Oper}{n:Nat}{l:Array Bool}{a:Act}{w:World}(t:Region.ready md ops l=[i])(D:ops[i]? =some o)
  (h:∀r:Act->World->Prop,Shut (∀a w,S w->Yx P md ops Q S z n (l.setIfInBounds i true) a w->r a w)->if Region.wanted o (yielded ops a.tmps)=true then Oper.wp P o a w r Q else r (a.put o.dst undef) w):Yx P md ops Q S z (n+1) l a w:=by
 refine⟨(fun y=>by rw[t]at y;cases y),fun j A=> ?_⟩;rw[t,List.mem_singleton]at A;subst A;exact wpOp_step D fun r E=>h r fun a w G I=>E a w ⟨fun _=>G,I⟩
theorem y3v{o:Oper}{n:Nat}{l:Array Bool}{a:Act}{w:World}(t:Region.ready md ops l=[z])(hl:Region.ready md ops (l.setIfInBounds z true)=[])(G:ops[z]? =some o)
  (h:∀r:Act->World->Prop,Shut (∀a w,Q .normal a w->r a w)->if Region.wanted o (yielded ops a.tmps)=true then Oper.wp P o a w r Q else r (a.put o.dst undef) w):Yx P md ops Q S z (n+1) l a w:=by
 refine⟨(fun y=>by rw[t]at y;cases y),fun j A=> ?_⟩;rw[t,List.mem_singleton]at A;subst A;refine wpOp_step G fun r I=>h r fun a w D=>I a w ⟨fun U=>absurd rfl U,?_⟩
 cases n with
 |zero=>exact⟨hl,D⟩
 |succ n=>exact⟨fun _=>D,fun i E=>by rw[hl]at E;cases E⟩
theorem Qg(i:Nat){o:Oper}{n:Nat}{l:Array Bool}{a:Act}{w:World}
 (h:∀r:Act->World->Prop,Shut (∀a w,S w->Yx P md ops Q S z n (l.setIfInBounds i true) a w->r a w)->if Region.wanted o (yielded ops a.tmps)=true then Oper.wp P o a w r Q else r (a.put o.dst undef) w)
 (t:Jc ops.toList i=some o:=by exact rfl)(y:Region.ready md ops l=[i]:=by kernel_rfl):Yx P md ops Q S z (n+1) l a w:=y3u y (Ah t) h
theorem Vw{o:Oper}{n:Nat}{l:Array Bool}{a:Act}{w:World}
 (h:∀r:Act->World->Prop,Shut (∀a w,Q .normal a w->r a w)->if Region.wanted o (yielded ops a.tmps)=true then Oper.wp P o a w r Q else r (a.put o.dst undef) w)
 (t:Jc ops.toList z=some o:=by exact rfl)(y:Region.ready md ops l=[z]:=by kernel_rfl)(hl:Region.ready md ops (l.setIfInBounds z true)=[]:=by kernel_rfl):Yx P md ops Q S z (n+1) l a w:=y3v y hl (Ah t) h
theorem Zj{id:Nat}{a:Act}{w:World}(z:Nat)(S:World->Prop)(o:P.follows .mixedOrders=true)(r:S w.drew)
  (h:S w.drew->Yx P .any ops Q S z ops.size (Array.replicate ops.size false) a w.drew):(Code.region id ops true).wp P Q a w:=
 wp_region_any o (z4V _ _ _ _ (h r))
end
end
theorem Nm.lt{W:World}{B n:Nat}{K:ByteArray->Ot}(h:Nm W B n K):B<W.heap.size:=by
 obtain⟨D,o,_⟩:=h;exact o.lt
theorem z4X(K:ByteArray->Ot)(t:RT):∀(l:List RT) (x:Ot),ofS K x (l++[t])=Jd (ofS K x l) (ofT K t)
 |[],x=>by rw[List.nil_append,ofS,ofS,ofS]
 |a::r,x=>by rw[List.cons_append,ofS,ofS,z4X K t r]
theorem z4Y(K:ByteArray->Ot)(t:RT):∀(l:List RT) (x:Ot),ofA K x (l++[t])=Jk (ofA K x l) (ofT K t)
 |[],x=>by rw[List.nil_append,ofA,ofA,ofA]
 |a::r,x=>by rw[List.cons_append,ofA,ofA,z4Y K t r]
theorem y3w(K:ByteArray->Ot)(x:Ot)(s:List RT)(j:Nat)(h:j<s.length):ofS K x (s.take (j+1))=Jd (ofS K x (s.take j)) (ofT K s[j]):=by
 rw[show s.take (j+1)=s.take j++[s[j]] by simp,z4X]
theorem y3x(K:ByteArray->Ot)(x:Ot)(s:List RT)(j:Nat)(h:j<s.length):ofA K x (s.take (j+1))=Jk (ofA K x (s.take j)) (ofT K s[j]):=by
 rw[show s.take (j+1)=s.take j++[s[j]] by simp,z4Y]
theorem Vd{W:World}{R:Nat}{a b c v0 v1 v2:Value}{t:TypeId}(h:W.heap[R]? =some (.cells #[a,b,c] t)):(((W.setCell ⟨R,0,none⟩ v0).setCell ⟨R,1,none⟩ v1).setCell ⟨R,2,none⟩ v2).heap[R]? =some (.cells #[v0,v1,v2] t):=Qk (Qk (Qk h 0 _) 1 _) 2 _
theorem z4Z{w o W W':World}{x1 x2 x3 y1 y2 y3:Bool}(h:Hid (Below w.heap.size w W)/\Hid (W.heap[w.heap.size]? =some (.cells #[.bool false,.bool false,.bool false] 210))/\Hid (W.heap[w.heap.size+1]? =some (.cells #[.bool x1,.bool x2,.bool x3] 210))/\W.cell? ⟨w.heap.size+1,0,none⟩=some (.bool x1)/\W.cell? ⟨w.heap.size+1,1,none⟩=some (.bool x2)/\W.cell? ⟨w.heap.size+1,2,none⟩=some (.bool x3)/\W.cell? ⟨o.heap.size,0,none⟩=some (.bool y1)/\W.cell? ⟨o.heap.size,1,none⟩=some (.bool y2)/\W.cell? ⟨o.heap.size,2,none⟩=some (.bool y3))(r:Below W.heap.size W W'):Hid (Below w.heap.size w W')/\Hid (W'.heap[w.heap.size]? =some (.cells #[.bool false,.bool false,.bool false] 210))/\Hid (W'.heap[w.heap.size+1]? =some (.cells #[.bool x1,.bool x2,.bool x3] 210))/\W'.cell? ⟨w.heap.size+1,0,none⟩=some (.bool x1)/\W'.cell? ⟨w.heap.size+1,1,none⟩=some (.bool x2)/\W'.cell? ⟨w.heap.size+1,2,none⟩=some (.bool x3)/\W'.cell? ⟨o.heap.size,0,none⟩=some (.bool y1)/\W'.cell? ⟨o.heap.size,1,none⟩=some (.bool y2)/\W'.cell? ⟨o.heap.size,2,none⟩=some (.bool y3):=by
 obtain⟨t,y,A,D,E,G,I,U,V⟩:=h;have e:∀(a:Addr) (u:Value),W.cell? a=some u->W'.cell? a=some u:=fun a u h=>(r.cell (p:=a) (World.block_lt_of_cell? W _ h)).trans h
 exact⟨hid (t.out.trans (r.mono t.out.size)),hid ((r.block _ (Qq y.out)).trans y.out),hid ((r.block _ (Qq A.out)).trans A.out),e _ _ D,e _ _ E,e _ _ G,e _ _ I,e _ _ U,e _ _ V⟩
theorem y3y(W:World)(a b c:Addr)(x y z:Value):(((W.setCell a x).setCell b y).setCell c z).drew=((W.drew.setCell a x).setCell b y).setCell c z:=rfl
theorem y3z{x1 x2 x3 y1 y2 y3 q:Bool}(h:q=suc (y1,y2,y3)):Jd (x1,x2,x3) (y1,y2,y3)=(x1&&y1,x2&&q||x1&&y2,x3||(x1||x2)&&y3):=by rw[h];rfl
theorem y3A(B D:Nat)(K:ByteArray->Ot)(T:ByteArray)(a b c d:Int)(r:Option Addr)(n t:Nat)(p:Int)(w:World)(y:Nm w B D K)(E:T.size<=maxLen):Calls prog 191 #[.map (some B),.agg #[.int .i64 5,.string T,.int .u64 a,.int .u64 b,.int .u64 c,.int .u64 d,.slice r n t,.int .i64 p]] w fun e w'=>e=.returned (ov (K T))/\Hid (Below w.heap.size w w'):=by
 have G:Hid (∀h o:Obj,Below w.heap.size w ((w.alloc h).alloc o)):=fun h o=>((Below.refl _ w).alloc L0q h).alloc (by simp) o
 have A:=((y.kept (World.grownBy_alloc w (.cells #[.int .i64 5,.string T,.int .u64 a,.int .u64 b,.int .u64 c,.int .u64 d,.slice r n t,.int .i64 p] 81) none) (by simp)).kept (World.grownBy_alloc _ (.cells #[.bool false,.bool false,.bool false] 210) none) (by simp)).look E;obtain⟨⟨x1,x2,x3⟩,hx⟩:∃x,x=K T:=⟨_,rfl⟩;rw[<-hx]at A ⊢;dsimp only[ov]at A;clear hx y;go_enter func191,ntmps191
 go_wp2_with fail
 refine bodyPost_ret (v:=.agg #[.bool x1,.bool x2,.bool x3]) (by simp[results,Tryz.results191,go_sem]) rfl ?_;exact⟨rfl,hid (G.out _ _)⟩
theorem y3B(m:Option Nat)(T:ByteArray)(a b c d:Int)(y:Option Addr)(n A:Nat)(p:Int)(w:World):Calls prog 191 #[.map m,.agg #[.int .i64 3,.string T,.int .u64 a,.int .u64 b,.int .u64 c,.int .u64 d,.slice y n A,.int .i64 p]] w fun e w'=>e=.returned (ov (if zc a b c d then(false,false,true)else(false,true,true)))/\Hid (Below w.heap.size w w'):=by
 have r:Hid (∀h o:Obj,Below w.heap.size w ((w.alloc h).alloc o)):=fun h o=>((Below.refl _ w).alloc L0q h).alloc (by simp) o
 have t:∀w:World,(Op.equalIn 10000 54 (.agg #[.int .u64 a,.int .u64 b,.int .u64 c,.int .u64 d]) (.agg #[.int .u64 0,.int .u64 0,.int .u64 0,.int .u64 0])).run prog w=.ok (zc a b c d) w:=fun w=>Rf 9998 w a b c d 0 0 0 0
 cases hz:zc a b c d with
 |true=>
  rw[hz]at t;clear hz;go_enter func191,ntmps191
  go_wp2_with fail
  refine bodyPost_ret (v:=.agg #[.bool false,.bool false,.bool true]) (by simp[results,Tryz.results191,go_sem]) rfl ?_;exact⟨rfl,hid (r.out _ _)⟩
 |false=>
  rw[hz]at t;clear hz;go_enter func191,ntmps191
  go_wp2_with fail
  refine bodyPost_ret (v:=.agg #[.bool false,.bool true,.bool true]) (by simp[results,Tryz.results191,go_sem]) rfl ?_;exact⟨rfl,hid (r.out _ _)⟩
theorem y3C(B:Nat)(K:ByteArray->Ot)(so:Option Addr)(n ay:Nat)(s:List RT)(w:World)(hn:n<=9223372036854775807)(HN:Hid (n=s.length))
  (HC:Hid (∀j (hj:j<s.length),∃g o,so=some ⟨g,o,none⟩/\g<w.heap.size/\∃I U a1 V c1 Y Z n1 aa p1,Rc w g (o+j*8) I U a1 V c1 Y (.slice Z n1 aa) p1/\
    ∀W:World,Below w.heap.size w W->Calls prog 191 #[.map (some B),.agg (r8 I U a1 V c1 Y Z n1 aa p1).toArray] W fun e w'=>e=.returned (ov (ofT K s[j]))/\Hid (Below W.heap.size W w'))):
  Calls prog 228 #[.map (some B),.slice so n ay] w fun e w'=>e=.returned (ov (ofS K (true,false,false) s))/\Hid (Below w.heap.size w w'):=by
 obtain⟨W1,ab⟩:∃W1,W1=(w.alloc (.cells #[.bool false,.bool false,.bool false] 210)).alloc (.cells #[.bool true,.bool false,.bool false] 210):=⟨_,rfl⟩;have az:Hid (Below w.heap.size w W1):=by rw[ab];exact((Below.refl _ w).alloc L0q _).alloc (by simp) _
 have aA:Hid (W1.heap[w.heap.size]? =some (.cells #[.bool false,.bool false,.bool false] 210)):=by rw[ab];exact(Below.heap_alloc _ _ _ (by simp)).trans (Qx w _ rfl)
 have aB:Hid (W1.heap[w.heap.size+1]? =some (.cells #[.bool true,.bool false,.bool false] 210)):=by rw[ab];exact Qx _ _ (by simp)
 have ao:=hid ab;clear ab;go_enter func228,ntmps228
 go_wp2_with fail
 rw[<-ao.out];clear ao
 go_loopw [12] (fun i wr=>∃j:Nat,i=.int .i64 j/\j<=n/\Hid (Below w.heap.size w wr)/\Hid (wr.heap[w.heap.size]? =some (.cells #[.bool false,.bool false,.bool false] 210))/\∃x1 x2 x3:Bool,Hid ((x1,x2,x3)=ofS K (true,false,false) (s.take j))/\Hid (wr.heap[w.heap.size+1]? =some (.cells #[.bool x1,.bool x2,.bool x3] 210))) (fun i _=>n-(intOf i).toNat)
 case atStart=>exact⟨0,rfl,Nat.zero_le _,az,aA,_,_,_,hid (by rw[List.take_zero,ofS]),aB⟩
 case round=>
  obtain⟨j,rfl,hj,D,E,x1,x2,x3,HX,G⟩:=hrel;by_cases hjn:j<n
  ·have aF:(j:Int)<(n:Int):=by omega
   have a0:decide ((j:Int)<(n:Int))=true:=by simp;omega
   have ap:j<s.length:=by rw[<-HN.out];exact hjn
   obtain⟨g,o,rfl,hg,I,U,a1,V,c1,Y,Z,n1,aa,p1,aq,ar⟩:=HC.out j ap;obtain⟨z0,z1,z2,z3,z4,z5,z6,z7⟩:=aq.below D.out hg;have aC:g<wr.heap.size:=World.block_lt_of_cell? wr _ z0;obtain⟨⟨y1,y2,y3⟩,hy⟩:∃y,y=ofT K s[j]:=⟨_,rfl⟩;have af:Below w.heap.size w (wr.alloc (.cells #[.int .i64 I,.string U,.int .u64 a1,.int .u64 V,.int .u64 c1,.int .u64 Y,.slice Z n1 aa,.int .i64 p1] 81)):=D.out.alloc D.out.size _;have ag:=(Below.refl _ wr).alloc L0q (.cells #[.int .i64 I,.string U,.int .u64 a1,.int .u64 V,.int .u64 c1,.int .u64 Y,.slice Z n1 aa,.int .i64 p1] 81);have ah:=hid ((ag.block _ (Qq E.out)).trans E.out);have ai:=hid ((ag.block _ (Qq G.out)).trans G.out);have aj:=hid af;have HS:=hid (ar _ af);rw[<-hy]at HS;have HY:=hid hy;clear ar aq hy af ag;dsimp only[r8,ov]at HS
   go_wp2_with(first
    |(go_at_call 191;refine HS.out.mono ?_;rintro e t ⟨rfl,ad⟩))
   have ak:=hid (aj.out.trans (ad.out.mono aj.out.size));have al:=hid ((ad.out.block _ (Qq ah.out)).trans ah.out);have am:=hid ((ad.out.block _ (Qq ai.out)).trans ai.out);clear HS ad z0 z1 z2 z3 z4 z5 z6 z7 E G D aC aj ah ai;obtain⟨q,hq⟩:∃q,q=suc (y1,y2,y3):=⟨_,rfl⟩;have aD:Hid (∀W:World,Calls prog 262 #[.agg #[.bool y1,.bool y2,.bool y3]] W fun e w'=>e=.returned (.bool q)/\Hid (Below W.heap.size W w')):=fun W=>by rw[hq];exact Iq y1 y2 y3 W
   have au:Hid (∀W:World,Calls prog 262 #[.agg #[.bool x1,.bool x2,.bool x3]] W fun e w'=>e=.returned (.bool (x1||x2))/\Hid (Below W.heap.size W w')):=fun W=>Iq x1 x2 x3 W
   have HQ:=hid hq;clear hq;have S0:(fun W:World=>Hid (Below w.heap.size w W)/\Hid (W.heap[w.heap.size]? =some (.cells #[.bool false,.bool false,.bool false] 210))/\Hid (W.heap[w.heap.size+1]? =some (.cells #[.bool x1,.bool x2,.bool x3] 210))/\W.cell? ⟨w.heap.size+1,0,none⟩=some (.bool x1)/\W.cell? ⟨w.heap.size+1,1,none⟩=some (.bool x2)/\W.cell? ⟨w.heap.size+1,2,none⟩=some (.bool x3)/\W.cell? ⟨t.heap.size,0,none⟩=some (.bool y1)/\W.cell? ⟨t.heap.size,1,none⟩=some (.bool y2)/\W.cell? ⟨t.heap.size,2,none⟩=some (.bool y3)) (t.alloc (.cells #[.bool y1,.bool y2,.bool y3] 210)).drew:=by
    have hb:=(Below.refl _ t).alloc L0q (.cells #[.bool y1,.bool y2,.bool y3] 210);have h1:=(hb.block _ (Qq am.out)).trans am.out;obtain⟨⟨t0,t1,t2⟩,_⟩:=Zz h1;obtain⟨⟨u0,u1,u2⟩,_⟩:=Zz (Qx t (.cells #[.bool y1,.bool y2,.bool y3] 210) rfl);exact⟨hid (ak.out.trans (hb.mono ak.out.size)).drew,hid ((hb.block _ (Qq al.out)).trans al.out),hid h1,t0,t1,t2,u0,u1,u2⟩
   clear ak al am;cases x1<;>cases x2<;>cases x3<;>cases q<;>(
    simp only[Bool.or_false,Bool.or_true]at au;refine Zj 31 (fun W:World=>Hid (Below w.heap.size w W)/\Hid (W.heap[w.heap.size]? =some (.cells #[.bool false,.bool false,.bool false] 210))/\Hid (W.heap[w.heap.size+1]? =some (.cells #[.bool _,.bool _,.bool _] 210))/\W.cell? ⟨w.heap.size+1,0,none⟩=some (.bool _)/\W.cell? ⟨w.heap.size+1,1,none⟩=some (.bool _)/\W.cell? ⟨w.heap.size+1,2,none⟩=some (.bool _)/\W.cell? ⟨t.heap.size,0,none⟩=some (.bool y1)/\W.cell? ⟨t.heap.size,1,none⟩=some (.bool y2)/\W.cell? ⟨t.heap.size,2,none⟩=some (.bool y3)) (by kernel_rfl) S0 (fun r=> ?_);refine Qz 0 r ?_;refine Qz 1 r ?_;refine Qz 2 r ?_;refine Qz 3 r ?_;refine Qz 4 r ?_;refine Qz 5 r ?_;refine Qz 6 r ?_;refine Qz 7 r ?_;refine Qz 8 r ?_;refine Qz 9 r ?_;refine Qz 20 r ?_;refine Qz 21 r ?_
    first
     |(refine Nw (i:=10) (oi:={dst:=Option.some 29,op:=Go.Op.call {callee:=Go.Callee.value (Go.Operand.func 262),args:=#[Go.Operand.tmp 28],argTypes:=#[210]},type:=4,pos:="nullable.go:104",after:=#[{on:=9,ground:=Go.Ground.data},{on:=8,ground:=Go.Ground.chain},{on:=8,ground:=Go.Ground.guard}],guard:=Option.some (8,Bool.true)}) (v:=undef) rfl (by kernel_rfl) (by kernel_rfl) (by kernel_rfl) (fun _ _ _ h=>h) (Or.inr ⟨by rfl,rfl⟩) r ?_)
     |(refine Qg 10 (fun K A=> ?_);go_simp;refine(aD.out _).mono ?_;rintro e w5 ⟨rfl,ac⟩;go_simp;replace r:=z4Z r ac.out;refine A.out _ _ r ?_;clear A K ac)
    (try simp only[Act.put,List.setIfInBounds_toArray,List.set_cons_zero,List.set_cons_succ])
    refine Qz 11 r ?_;refine Qz 12 r ?_;refine Qz 13 r ?_;refine Qz 14 r ?_;refine Qz 15 r ?_;refine Qz 16 r ?_;refine Qz 17 r ?_;refine Qz 18 r ?_;refine Qz 19 r ?_;refine Qz 22 r ?_;refine Qz 23 r ?_
    first
     |(refine Nw (i:=24) (oi:={dst:=Option.some 43,op:=Go.Op.call {callee:=Go.Callee.value (Go.Operand.func 262),args:=#[Go.Operand.tmp 42],argTypes:=#[210]},type:=4,pos:="nullable.go:105",after:=#[{on:=23,ground:=Go.Ground.data},{on:=22,ground:=Go.Ground.chain},{on:=22,ground:=Go.Ground.guard}],guard:=Option.some (22,Bool.false)}) (v:=undef) rfl (by kernel_rfl) (by kernel_rfl) (by kernel_rfl) (fun _ _ _ h=>h) (Or.inr ⟨by rfl,rfl⟩) r ?_)
     |(refine Qg 24 (fun K A=> ?_);go_simp;refine(au.out _).mono ?_;rintro e w5 ⟨rfl,ac⟩;go_simp;replace r:=z4Z r ac.out;refine A.out _ _ r ?_;clear A K ac)
    (try simp only[Act.put,List.setIfInBounds_toArray,List.set_cons_zero,List.set_cons_succ])
    refine Qz 25 r ?_;refine Qz 26 r ?_;refine Qz 27 r ?_;refine Qz 28 r ?_;refine Qz 29 r ?_;refine Qz 30 r ?_;refine Vw (fun K A=> ?_);obtain⟨av,aw,ae,-,-,-,-,-,-⟩:=r
    first
     |obtain⟨⟨t0,t1,t2⟩,f0,f1,f2⟩:=Zz (w:=t.alloc (.cells #[.bool y1,.bool y2,.bool y3] 210)) ae.out
     |obtain⟨⟨t0,t1,t2⟩,f0,f1,f2⟩:=Zz ae.out
    have la:=Qq ae.out
    go_simp
    (try rw[y3y])
    refine A.out _ _ ?_;clear A K t0 t1 t2 f0 f1 f2
    go_wp2_with fail
    go_roundw
    case rel=>exact⟨j+1,by go_num,by omega,hid (av.out.grown (Xg _ _ _ _ _) av.out.size (fun g e=>by have:=Option.some.inj e;omega)),hid (((Xg _ _ _ _ _).block _ (Qq aw.out) (fun e=>by have:=Option.some.inj e;omega)).trans aw.out),_,_,_,hid (by rw[y3w K _ s j ap,<-HX.out,<-HY.out,y3z HQ.out];simp),hid (Vd ae.out)⟩
    case measure=>simp[intOf];omega)
  ·have a0:decide ((j:Int)<(n:Int))=false:=by simp;omega
   have ax:s.take j=s:=List.take_of_length_le (by rw[<-HN.out];omega);rw[ax]at HX;obtain⟨⟨t0,t1,t2⟩,_⟩:=Zz G.out;obtain⟨⟨u0,u1,u2⟩,f0,f1,f2⟩:=Zz E.out;have la:=Qq G.out;have lr:=Qq E.out;have aE:=hid (D.out.grown (Xg wr w.heap.size (.bool x1) (.bool x2) (.bool x3)) D.out.size (fun g e=>by have:=Option.some.inj e;omega));obtain⟨⟨r0,r1,r2⟩,_⟩:=Zz (Vd (v0:=.bool x1) (v1:=.bool x2) (v2:=.bool x3) E.out);clear ax G E D
   go_wp2_with fail
   refine bodyPost_ret (v:=.agg #[.bool x1,.bool x2,.bool x3]) (by simp[results,Tryz.results228,go_sem,r0,r1,r2]) rfl ?_;exact⟨by rw[<-HX.out],aE⟩
theorem y3D{w h:World}{x1 x2 x3 y1 y2 y3:Bool}(y:Hid (Below w.heap.size w h))(A:Hid (h.heap[w.heap.size]? =some (.cells #[.bool false,.bool false,.bool false] 210)))(D:Hid (h.heap[w.heap.size+1]? =some (.cells #[.bool x1,.bool x2,.bool x3] 210))):
  (Hid (Below w.heap.size w (h.alloc (.cells #[.bool y1,.bool y2,.bool y3] 210)))/\Hid ((h.alloc (.cells #[.bool y1,.bool y2,.bool y3] 210)).heap[w.heap.size]? =some (.cells #[.bool false,.bool false,.bool false] 210))/\Hid ((h.alloc (.cells #[.bool y1,.bool y2,.bool y3] 210)).heap[w.heap.size+1]? =some (.cells #[.bool x1,.bool x2,.bool x3] 210)))/\
  w.heap.size+1<(h.alloc (.cells #[.bool y1,.bool y2,.bool y3] 210)).heap.size/\h.heap.size<(h.alloc (.cells #[.bool y1,.bool y2,.bool y3] 210)).heap.size/\
  ((h.alloc (.cells #[.bool y1,.bool y2,.bool y3] 210)).cell? ⟨w.heap.size+1,0,none⟩=some (.bool x1)/\(h.alloc (.cells #[.bool y1,.bool y2,.bool y3] 210)).cell? ⟨w.heap.size+1,1,none⟩=some (.bool x2)/\(h.alloc (.cells #[.bool y1,.bool y2,.bool y3] 210)).cell? ⟨w.heap.size+1,2,none⟩=some (.bool x3))/\
  ((h.alloc (.cells #[.bool y1,.bool y2,.bool y3] 210)).frozen? ⟨w.heap.size+1,0,none⟩=false/\(h.alloc (.cells #[.bool y1,.bool y2,.bool y3] 210)).frozen? ⟨w.heap.size+1,1,none⟩=false/\(h.alloc (.cells #[.bool y1,.bool y2,.bool y3] 210)).frozen? ⟨w.heap.size+1,2,none⟩=false)/\
  (h.alloc (.cells #[.bool y1,.bool y2,.bool y3] 210)).cell? ⟨h.heap.size,0,none⟩=some (.bool y1)/\(h.alloc (.cells #[.bool y1,.bool y2,.bool y3] 210)).cell? ⟨h.heap.size,1,none⟩=some (.bool y2)/\(h.alloc (.cells #[.bool y1,.bool y2,.bool y3] 210)).cell? ⟨h.heap.size,2,none⟩=some (.bool y3):=by
 have o:=(Below.refl _ h).alloc L0q (.cells #[.bool y1,.bool y2,.bool y3] 210);have r:=(o.block _ (Qq D.out)).trans D.out;obtain⟨t,f⟩:=Zz r;obtain⟨u,_⟩:=Zz (Qx h (.cells #[.bool y1,.bool y2,.bool y3] 210) rfl);exact⟨⟨hid (y.out.trans (o.mono y.out.size)),hid ((o.block _ (Qq A.out)).trans A.out),hid r⟩,Qq r,by simp,t,f,u⟩
theorem y3E(B:Nat)(K:ByteArray->Ot)(so:Option Addr)(n ar:Nat)(s:List RT)(w:World)(hn:n<=9223372036854775807)(HN:Hid (n=s.length))
  (HC:Hid (∀j (hj:j<s.length),∃g o,so=some ⟨g,o,none⟩/\g<w.heap.size/\∃A D a1 E c1 G I U V p1,Rc w g (o+j*8) A D a1 E c1 G (.slice I U V) p1/\
    ∀W:World,Below w.heap.size w W->Calls prog 191 #[.map (some B),.agg (r8 A D a1 E c1 G I U V p1).toArray] W fun e w'=>e=.returned (ov (ofT K s[j]))/\Hid (Below W.heap.size W w'))):
  Calls prog 229 #[.map (some B),.slice so n ar] w fun e w'=>e=.returned (ov (ofA K (false,false,true) s))/\Hid (Below w.heap.size w w'):=by
 obtain⟨Y,Z⟩:∃Y,Y=(w.alloc (.cells #[.bool false,.bool false,.bool false] 210)).alloc (.cells #[.bool false,.bool false,.bool true] 210):=⟨_,rfl⟩;have au:Hid (Below w.heap.size w Y):=by rw[Z];exact((Below.refl _ w).alloc L0q _).alloc (by simp) _
 have av:Hid (Y.heap[w.heap.size]? =some (.cells #[.bool false,.bool false,.bool false] 210)):=by rw[Z];exact(Below.heap_alloc _ _ _ (by simp)).trans (Qx w _ rfl)
 have aw:Hid (Y.heap[w.heap.size+1]? =some (.cells #[.bool false,.bool false,.bool true] 210)):=by rw[Z];exact Qx _ _ (by simp)
 have ag:=hid Z;clear Z;go_enter func229,ntmps229
 go_wp2_with fail
 rw[<-ag.out];clear ag
 go_loopw [12] (fun i wr=>∃j:Nat,i=.int .i64 j/\j<=n/\Hid (Below w.heap.size w wr)/\Hid (wr.heap[w.heap.size]? =some (.cells #[.bool false,.bool false,.bool false] 210))/\∃x1 x2 x3:Bool,Hid ((x1,x2,x3)=ofA K (false,false,true) (s.take j))/\Hid (wr.heap[w.heap.size+1]? =some (.cells #[.bool x1,.bool x2,.bool x3] 210))) (fun i _=>n-(intOf i).toNat)
 case atStart=>exact⟨0,rfl,Nat.zero_le _,au,av,_,_,_,hid (by rw[List.take_zero,ofA]),aw⟩
 case round=>
  obtain⟨j,rfl,hj,h,r,x1,x2,x3,HX,t⟩:=hrel;by_cases hjn:j<n
  ·have az:(j:Int)<(n:Int):=by omega
   have a0:decide ((j:Int)<(n:Int))=true:=by simp;omega
   have ah:j<s.length:=by rw[<-HN.out];exact hjn
   obtain⟨g,o,rfl,hg,A,D,a1,E,c1,G,I,U,V,p1,ai,aj⟩:=HC.out j ah;obtain⟨z0,z1,z2,z3,z4,z5,z6,z7⟩:=ai.below h.out hg;have aA:g<wr.heap.size:=World.block_lt_of_cell? wr _ z0;obtain⟨⟨y1,y2,y3⟩,hy⟩:∃y,y=ofT K s[j]:=⟨_,rfl⟩;have ab:Below w.heap.size w (wr.alloc (.cells #[.int .i64 A,.string D,.int .u64 a1,.int .u64 E,.int .u64 c1,.int .u64 G,.slice I U V,.int .i64 p1] 81)):=h.out.alloc h.out.size _;have ac:=(Below.refl _ wr).alloc L0q (.cells #[.int .i64 A,.string D,.int .u64 a1,.int .u64 E,.int .u64 c1,.int .u64 G,.slice I U V,.int .i64 p1] 81);have ad:=hid ((ac.block _ (Qq r.out)).trans r.out);have ae:=hid ((ac.block _ (Qq t.out)).trans t.out);have af:=hid ab;have HS:=hid (aj _ ab);rw[<-hy]at HS;have HY:=hid hy;clear aj ai hy ab ac;dsimp only[r8,ov]at HS;cases x1<;>cases x2<;>cases x3<;>(
    go_wp2_with(first
     |(go_at_call 191;refine HS.out.mono ?_;rintro e w4 ⟨rfl,aa⟩;have ak:=hid (af.out.trans (aa.out.mono af.out.size));have al:=hid ((aa.out.block _ (Qq ad.out)).trans ad.out);have am:=hid ((aa.out.block _ (Qq ae.out)).trans ae.out);obtain⟨⟨ao,ap,ax⟩,la,ln,⟨t0,t1,t2⟩,⟨f0,f1,f2⟩,u0,u1,u2⟩:=y3D (y1:=y1) (y2:=y2) (y3:=y3) ak al am;clear HS aa r t h af ad ae ak al am))
    go_roundw
    case rel=>exact⟨j+1,by go_num,by omega,hid (ao.out.grown (Xg _ _ _ _ _) ao.out.size (fun g e=>by have:=Option.some.inj e;omega)),hid (((Xg _ _ _ _ _).block _ (Qq ap.out) (fun e=>by have:=Option.some.inj e;omega)).trans ap.out),_,_,_,hid (by rw[y3x K _ s j ah,<-HX.out,<-HY.out];simp[Jk]),hid (Vd ax.out)⟩
    case measure=>simp[intOf];omega)
  ·have a0:decide ((j:Int)<(n:Int))=false:=by simp;omega
   have aq:s.take j=s:=List.take_of_length_le (by rw[<-HN.out];omega);rw[aq]at HX;obtain⟨⟨t0,t1,t2⟩,_⟩:=Zz t.out;obtain⟨⟨u0,u1,u2⟩,f0,f1,f2⟩:=Zz r.out;have la:=Qq t.out;have lr:=Qq r.out;have ay:=hid (h.out.grown (Xg wr w.heap.size (.bool x1) (.bool x2) (.bool x3)) h.out.size (fun g e=>by have:=Option.some.inj e;omega));obtain⟨⟨r0,r1,r2⟩,_⟩:=Zz (Vd (v0:=.bool x1) (v1:=.bool x2) (v2:=.bool x3) r.out);clear aq t r h
   go_wp2_with fail
   refine bodyPost_ret (v:=.agg #[.bool x1,.bool x2,.bool x3]) (by simp[results,Tryz.results229,go_sem,r0,r1,r2]) rfl ?_;exact⟨by rw[<-HX.out],ay⟩
end Go.Proofs.YtgnkkgcgbeianaaGreatDoor
