/- Lemmas for the last text. Conditions: those that each names. -/
import Derived.Test.YtgnkkgcgbeianaaGreatDoorVO22ToU2
import Derived.Test.YtgnkkgcgbeianaaGreatDoorVR8ToO4
import Derived.Deep.RegionHeld3
import Derived.ProofKit
set_option linter.unusedVariables false
set_option maxRecDepth 100000
set_option maxHeartbeats 16000000
namespace Go.Proofs.YtgnkkgcgbeianaaGreatDoor
open Go.Proofs.Tryz
open Go.RowKit Go.Shelf
theorem y0P(m:Option Nat)(T:zA)(a b c d:Int)(r:Option Addr)(n t:Nat)(p:Int)(w:World):Calls prog 191 #[.map m,.agg #[zI 1,zT T,zU a,zU b,zU c,zU d,.slice r n t,zI p]] w fun e w'=>e=.returned (ov (true,false,false))/\Hid (zB w w'):=by
 have y:Hid (∀h o:Obj,zB w ((w.alloc h).alloc o)):=fun h o=>((Below.refl _ w).alloc L0q h).alloc (by simp) o
 go_enter func191,ntmps191
 go_wp2_with fail
 refine bodyPost_ret (v:=.agg #[.bool true,.bool false,.bool false]) (by simp[results,Tryz.results191,go_sem]) rfl ?_;exact⟨rfl,hid (y.out _ _)⟩
theorem y0Q(m:Option Nat)(T:zA)(a b c d:Int)(r:Option Addr)(n t:Nat)(p:Int)(w:World):Calls prog 191 #[.map m,.agg #[zI 4,zT T,zU a,zU b,zU c,zU d,.slice r n t,zI p]] w fun e w'=>e=.returned (ov (false,true,true))/\Hid (zB w w'):=by
 have y:Hid (∀h o:Obj,zB w ((w.alloc h).alloc o)):=fun h o=>((Below.refl _ w).alloc L0q h).alloc (by simp) o
 go_enter func191,ntmps191
 go_wp2_with fail
 refine bodyPost_ret (v:=.agg #[.bool false,.bool true,.bool true]) (by simp[results,Tryz.results191,go_sem]) rfl ?_;exact⟨rfl,hid (y.out _ _)⟩
theorem y0R(m:Option Nat)(T:zA)(a b c d:Int)(r:Option Addr)(n t:Nat)(p:Int)(w:World)(y:T={data:=#[]}):Calls prog 191 #[.map m,.agg #[zI 2,zT T,zU a,zU b,zU c,zU d,.slice r n t,zI p]] w fun e w'=>e=.returned (ov (true,false,false))/\Hid (zB w w'):=by
 subst y;have A:Hid (∀h o:Obj,zB w ((w.alloc h).alloc o)):=fun h o=>((Below.refl _ w).alloc L0q h).alloc (by simp) o
 go_enter func191,ntmps191
 go_wp2_with fail
 refine bodyPost_ret (v:=.agg #[.bool true,.bool false,.bool false]) (by simp[results,Tryz.results191,go_sem]) rfl ?_;exact⟨rfl,hid (A.out _ _)⟩
theorem y0S(m:Option Nat)(T:zA)(a b c d:Int)(r:Option Addr)(n t:Nat)(p:Int)(w:World)(A:T.toList.isEmpty=false):Calls prog 191 #[.map m,.agg #[zI 2,zT T,zU a,zU b,zU c,zU d,.slice r n t,zI p]] w fun e w'=>e=.returned (ov (false,true,true))/\Hid (zB w w'):=by
 have y:Hid (∀h o:Obj,zB w ((w.alloc h).alloc o)):=fun h o=>((Below.refl _ w).alloc L0q h).alloc (by simp) o
 go_enter func191,ntmps191
 go_wp2_with fail
 refine bodyPost_ret (v:=.agg #[.bool false,.bool true,.bool true]) (by simp[results,Tryz.results191,go_sem]) rfl ?_;exact⟨rfl,hid (y.out _ _)⟩
open Go.Maps
def dO(x:Ot):DataW Unit:=.agg [.lit (.bool x.1),.lit (.bool x.2.1),.lit (.bool x.2.2)]
def oEl(v:Value):Option (DataW Unit×List MemPlace):=match v with
 | .agg cs=>match cs.toList with
   |[.bool a,.bool b,.bool c]=>some (dO (a,b,c),[])
   |_=>none
 |_=>none
theorem y0T{x y:Ot}(h:dO x=dO y):x=y:=by
 obtain⟨a,b,c⟩:=x;obtain⟨d,e,f⟩:=y;simp only[dO,DataW.agg.injEq,List.cons.injEq,DataW.lit.injEq,Lit.bool.injEq,and_true]at h;obtain⟨rfl,rfl,rfl⟩:=h;rfl
theorem z2Z(x:Ot):oEl (ov x)=some (dO x,[]):=rfl
theorem y0U{v:Value}{x:Ot}{r:List MemPlace}(h:oEl v=some (dO x,r)):v=ov x:=by
 unfold oEl at h;split at h
 ·rename_i t
  split at h
  ·rename_i a b c o
   have e:=y0T (Prod.mk.inj (Option.some.inj h)).1;subst e;obtain⟨l⟩:=t;simp only at o;subst o;rfl
  ·cases h
 ·cases h
theorem y0V(w:World):(zeroValue 210).run prog w=.ok (ov (false,false,false)) w:=by kernel_rfl
theorem z3a:Tryz.prog.underlying 247=some (.map 9 210):=by kernel_rfl
def Nm(W:World)(B:Nat)(n:Nat)(K:zA->Ot):Prop:=∃D:DataW Unit,W.ownsMap prog 9 oEl B n D/\∀s,D.atKey (kls s) (dO (false,false,false))=dO (K s)
theorem Nm.made(w:World):Nm (w.alloc (.map #[] 0)) w.heap.size 0 z0O:=⟨.map [],World.ownsMap_made w _ _ _,fun s=>rfl⟩
theorem Nm.kept{W W':World}{B n:Nat}{K:zA->Ot}{row:Option Nat}(h:Nm W B n K)(o:W.grownBy W' row)(r:some B≠row):Nm W' B n K:=by
 obtain⟨D,t,y⟩:=h;exact⟨D,t.kept o r,y⟩
theorem Nm.below{W W':World}{B n base:Nat}{K:zA->Ot}(h:Nm W B n K)(o:Below base W W')(r:B<base):Nm W' B n K:=by
 obtain⟨D,⟨t,y,A,E,G,I⟩,U⟩:=h;exact⟨D,⟨t,y,(o.block B r).trans A,E,G,I⟩,U⟩
theorem Nm.look{W:World}{B n:Nat}{K:zA->Ot}(h:Nm W B n K){s:zA}(r:s.size<=maxLen):(Instr.lookup 247 (.map (some B)) (zT s) false).run prog W=.ok (ov (K s)) W:=by
 obtain⟨D,t,y⟩:=h;obtain⟨v,E,A,o⟩:=t.lookup Gq z3a (y0V W) (z2Z (false,false,false)) (Gx r);rw[y s]at o;rw[A,y0U o]
theorem Nm.put{W:World}{B n:Nat}{K:zA->Ot}(h:Nm W B n K){s:zA}(r:s.size<=maxLen)(x:Ot)(y:n<maxLen):∃W',(Instr.mapUpdate 247 (.map (some B)) (zT s) (ov x)).run prog W=.ok () W'/\Nm W' B (n+1) (Jz K s x)/\W.grownBy W' (some B):=by
 obtain⟨D,o,A⟩:=h;obtain⟨W',E,G,I⟩:=o.update Gq z3a y (Gx r) (z2Z x);refine⟨W',E,⟨_,G,fun t=> ?_⟩,I⟩;unfold Jz;by_cases e:t=s
 ·subst e
  rw[if_pos rfl,Maps.atKey_put_same o.isMap (Pc _)]
 ·rw[if_neg e,Maps.atKey_put_other (fun h=>e (z1V h)),A t]
section
section
variable {P:Program} {md:Region.Mode} {ops:Array Oper} {Q:Exit->Act->World->Prop} {S:World->Prop} {z:Nat}
def Xb(P:Program)(md:Region.Mode)(ops:Array Oper)(Q:Exit->Act->World->Prop)(S:World->Prop)(z:Nat):Nat->Array Bool->Act->World->Prop
 |0,l,a,w=>Region.ready md ops l=[]/\Q .normal a w
 |n+1,l,a,w=>(Region.ready md ops l=[]->Q .normal a w)/\∀i∈Region.ready md ops l,wpOp P ops Q i (fun a' w'=>(i≠z->S w')/\Xb P md ops Q S z n (l.setIfInBounds i true) a' w') a w
theorem z3b:∀(n:Nat) (l:Array Bool) (a:Act) (w:World),Xb P md ops Q S z n l a w->wpAny P md ops Q n l a w
 |0,_,_,_,h=>h
 |n+1,_,_,_,h=>⟨h.1,fun i o=>wpOp_mono (fun r w' k=>z3b n _ r w' k.2) (h.2 i o)⟩
def Md(md:Region.Mode)(ops:Array Oper)(z i:Nat):Bool:=match ops[z]? with
 |some o=>o.after.any fun e=>Region.binds md e&&e.on == i
 |none=>true
theorem y0W{i:Nat}{l:Array Bool}(h:Md md ops z i=true)(A:i∈Region.ready md ops l):z ∉ Region.ready md ops l:=fun D=>by
 obtain⟨_,U,E,G⟩:=mem_ready.1 D;unfold Md at h;rw[E]at h;simp only[Array.any_eq_true']at h;obtain⟨e,I,r⟩:=h;rw[Bool.and_eq_true,beq_iff_eq]at r;have o:=G e I r.1;have y:=(mem_ready.1 A).1;rw[r.2]at o;rcases Nat.lt_or_ge i l.size with t|t
 ·simp[t]at y o;rw[y]at o;cases o
 ·simp[Array.getElem?_eq_none t]at o
theorem y0X{i:Nat}{oi:Oper}{v:Value}(U:ops[i]? =some oi)(Z:∀(j:Nat) (o:Oper) A b,ops[j]? =some o->o.op≠.select A b)(hz:Md md ops z i=true)
  (hQ:∀c a w,Q (.panic c) (a.put oi.dst v) w->Q (.panic c) a w):
  ∀(n:Nat) (l:Array Bool) (a:Act) (w:World),
   (∀j t,ops[j]? =some t->j≠i->l.getD j true=false->(∀e∈t.after,Region.binds md e=true->e.on≠i)->oi.apart ops t=true)->
   i∈Region.ready md ops l->YieldsIf P ops S oi v a->S w->
   Xb P md ops Q S z n (l.setIfInBounds i true) (a.put oi.dst v) w->Xb P md ops Q S z (n+1) l a w:=by
 intro n
 induction n with
 |zero=>
  intro l a w _ r G D H;refine⟨fun h=>(by rw[h]at r;cases r),fun j E=> ?_⟩;by_cases hji:j=i
  ·subst hji;exact G.wpOp U D ⟨fun _=>D,H⟩
  ·have:=ready_mono E hji
   rw[H.1]at this;cases this
 |succ n ih=>
  intro l a w aa r G D H;refine⟨fun h=>(by rw[h]at r;cases r),fun j E=> ?_⟩;by_cases hji:j=i
  ·subst hji;exact G.wpOp U D ⟨fun _=>D,H⟩
  ·have y:=H.2 j (ready_mono E hji)
   have ab:j≠z:=fun e=>y0W hz r (e▸E)
   obtain⟨ac,t,V,ae⟩:=mem_ready.1 E;have af:∀e∈t.after,Region.binds md e=true->e.on≠i:=fun e he hb ag=>by
    have y:=ae e he hb;have h0:=(mem_ready.1 r).1;rw[ag]at y;rcases Nat.lt_or_ge i l.size with Y|Y
    ·simp[Y]at h0 y;rw[h0]at y;cases y
    ·simp[Array.getElem?_eq_none Y]at y
   have h2:=wpOp_putIf V (aa j t V hji ac af) (fun A b=>Z i oi A b U) (fun A b=>Z j t A b V) hQ G y;have ah:∀k ok,ops[k]? =some ok->k≠i->(l.setIfInBounds j true).getD k true=false->
     (∀e∈ok.after,Region.binds md e=true->e.on≠i)->oi.apart ops ok=true:=fun k ok hk ai ad aj=>by
    refine aa k ok hk ai ?_ aj;by_cases hjk:j=k
    ·subst hjk;exact ac
    ·rw[getD_set_ne true hjk]at ad;exact ad
   refine wpOp_mono (fun a' w' I=>⟨fun _=>I.2.1 ab,ih (l.setIfInBounds j true) a' w' ah (ready_mono r (Ne.symm hji)) I.1 (I.2.1 ab) ?_⟩) h2;rw[Array.setIfInBounds_comm _ _ hji];exact I.2.2
theorem Fx{i:Nat}{oi:Oper}{v:Value}{n:Nat}{l:Array Bool}{a:Act}{w:World}(r:ops[i]? =some oi)
  (t:Region.noSelect ops=true)(o:(Region.free md ops l i&&Md md ops z i)=true)(y:(Region.ready md ops l).contains i=true)
  (A:∀c a w,Q (.panic c) (a.put oi.dst v) w->Q (.panic c) a w)(D:YieldsIf P ops S oi v a)(E:S w)
  (h:Xb P md ops Q S z n (l.setIfInBounds i true) (a.put oi.dst v) w):Xb P md ops Q S z (n+1) l a w:=by
 rw[Bool.and_eq_true]at o;exact y0X r (Region.noSelect_spec t) o.2 A n l a w (Region.free_spec r o.1) (by simpa using y) D E h
def Jq:List Oper->Nat->Option Oper
 |[],_=>none
 |o::_,0=>some o
 |_::l,n+1=>Jq l n
theorem z3c:∀(l:List Oper) (i:Nat),Jq l i=l[i]?
 |[],_=>by simp[Jq]
 |_::_,0=>by simp[Jq]
 |_::l,n+1=>by simp[Jq,z3c l n]
theorem Mp{ops:Array Oper}{i:Nat}{o:Oper}(h:Jq ops.toList i=some o):ops[i]? =some o:=by
 rw[z3c]at h;simpa using h
theorem Qz(i:Nat){oi:Oper}{v:Value}{n:Nat}{l l':Array Bool}{a o:Act}{w:World}(r:S w)(h:Xb P md ops Q S z n l' o w)
  (t:Jq ops.toList i=some oi:=by exact rfl)
  (y:Region.noSelect ops=true:=by kernel_rfl)(A:(Region.free md ops l i&&Md md ops z i)=true:=by kernel_rfl)(D:(Region.ready md ops l).contains i=true:=by kernel_rfl)
  (E:YieldsIf P ops S oi v a:=by first|exact Or.inr ⟨by rfl,rfl⟩|(refine Or.inl ⟨by rfl,?_⟩;intro w G;(try dsimp only at G);go_simp;(try with_reducible rfl)))
  (I:∀c a w,Q (.panic c) (a.put oi.dst v) w->Q (.panic c) a w:=by first|exact fun _ _ _ h=>h|exact fun _ _ _ h=>by cases h.1)
  (hl:l.setIfInBounds i true=l':=by(try simp only[List.setIfInBounds_toArray,List.set_cons_zero,List.set_cons_succ]);exact rfl)
  (ha:a.put oi.dst v=o:=by(try simp only[Act.put,List.setIfInBounds_toArray,List.set_cons_zero,List.set_cons_succ]);exact rfl):Xb P md ops Q S z (n+1) l a w:=
 Fx (Mp t) y A D I E r (by rw[hl,ha];exact h)
theorem y0Y{i:Nat}{o:Oper}{n:Nat}{l:Array Bool}{a:Act}{w:World}(t:Region.ready md ops l=[i])(D:ops[i]? =some o)
  (h:∀r:Act->World->Prop,Shut (∀a w,S w->Xb P md ops Q S z n (l.setIfInBounds i true) a w->r a w)->if Region.wanted o (yielded ops a.tmps)=true then Oper.wp P o a w r Q else r (a.put o.dst undef) w):Xb P md ops Q S z (n+1) l a w:=by
 refine⟨(fun y=>by rw[t]at y;cases y),fun j A=> ?_⟩;rw[t,List.mem_singleton]at A;subst A;exact wpOp_step D fun r E=>h r fun a w G I=>E a w ⟨fun _=>G,I⟩
theorem y0Z{o:Oper}{n:Nat}{l:Array Bool}{a:Act}{w:World}(t:Region.ready md ops l=[z])(hl:Region.ready md ops (l.setIfInBounds z true)=[])(G:ops[z]? =some o)
  (h:∀r:Act->World->Prop,Shut (∀a w,Q .normal a w->r a w)->if Region.wanted o (yielded ops a.tmps)=true then Oper.wp P o a w r Q else r (a.put o.dst undef) w):Xb P md ops Q S z (n+1) l a w:=by
 refine⟨(fun y=>by rw[t]at y;cases y),fun j A=> ?_⟩;rw[t,List.mem_singleton]at A;subst A;refine wpOp_step G fun r I=>h r fun a w D=>I a w ⟨fun U=>absurd rfl U,?_⟩
 cases n with
 |zero=>exact⟨hl,D⟩
 |succ n=>exact⟨fun _=>D,fun i E=>by rw[hl]at E;cases E⟩
theorem Qf(i:Nat){o:Oper}{n:Nat}{l:Array Bool}{a:Act}{w:World}
 (h:∀r:Act->World->Prop,Shut (∀a w,S w->Xb P md ops Q S z n (l.setIfInBounds i true) a w->r a w)->if Region.wanted o (yielded ops a.tmps)=true then Oper.wp P o a w r Q else r (a.put o.dst undef) w)
 (t:Jq ops.toList i=some o:=by exact rfl)(y:Region.ready md ops l=[i]:=by kernel_rfl):Xb P md ops Q S z (n+1) l a w:=y0Y y (Mp t) h
theorem Yj{o:Oper}{n:Nat}{l:Array Bool}{a:Act}{w:World}
 (h:∀r:Act->World->Prop,Shut (∀a w,Q .normal a w->r a w)->if Region.wanted o (yielded ops a.tmps)=true then Oper.wp P o a w r Q else r (a.put o.dst undef) w)
 (t:Jq ops.toList z=some o:=by exact rfl)(y:Region.ready md ops l=[z]:=by kernel_rfl)(hl:Region.ready md ops (l.setIfInBounds z true)=[]:=by kernel_rfl):Xb P md ops Q S z (n+1) l a w:=y0Z y hl (Mp t) h
theorem Qc{id:Nat}{a:Act}{w:World}(z:Nat)(S:World->Prop)(o:P.follows .mixedOrders=true)(r:S w.drew)
  (h:S w.drew->Xb P .any ops Q S z ops.size (Array.replicate ops.size false) a w.drew):(Code.region id ops true).wp P Q a w:=
 wp_region_any o (z3b _ _ _ _ (h r))
end
end
theorem Nm.lt{W:World}{B n:Nat}{K:zA->Ot}(h:Nm W B n K):B<W.heap.size:=by
 obtain⟨D,o,_⟩:=h;exact o.lt
theorem z3d(K:zA->Ot)(t:RT):∀(l:List RT) (x:Ot),ofS K x (l++[t])=Uc (ofS K x l) (ofT K t)
 |[],x=>by rw[List.nil_append,ofS,ofS,ofS]
 |a::r,x=>by rw[List.cons_append,ofS,ofS,z3d K t r]
theorem z3e(K:zA->Ot)(t:RT):∀(l:List RT) (x:Ot),ofA K x (l++[t])=Ux (ofA K x l) (ofT K t)
 |[],x=>by rw[List.nil_append,ofA,ofA,ofA]
 |a::r,x=>by rw[List.cons_append,ofA,ofA,z3e K t r]
theorem y1a(K:zA->Ot)(x:Ot)(s:List RT)(j:Nat)(h:j<s.length):ofS K x (s.take (j+1))=Uc (ofS K x (s.take j)) (ofT K s[j]):=by
 rw[show s.take (j+1)=s.take j++[s[j]] by simp,z3d]
theorem y1b(K:zA->Ot)(x:Ot)(s:List RT)(j:Nat)(h:j<s.length):ofA K x (s.take (j+1))=Ux (ofA K x (s.take j)) (ofT K s[j]):=by
 rw[show s.take (j+1)=s.take j++[s[j]] by simp,z3e]
theorem Ym{W:World}{R:Nat}{a b c v0 v1 v2:Value}{t:TypeId}(h:zH W R (.cells #[a,b,c] t)):(((W.setCell ⟨R,0,none⟩ v0).setCell ⟨R,1,none⟩ v1).setCell ⟨R,2,none⟩ v2).heap[R]? =some (.cells #[v0,v1,v2] t):=Qw (Qw (Qw h 0 _) 1 _) 2 _
theorem z3f{w o W W':World}{x1 x2 x3 y1 y2 y3:Bool}(h:Hid (zB w W)/\Hid (W.heap[w.heap.size]? =some (.cells #[.bool false,.bool false,.bool false] 210))/\Hid (W.heap[w.heap.size+1]? =some (.cells #[.bool x1,.bool x2,.bool x3] 210))/\zC W (w.heap.size+1) 0 (.bool x1)/\zC W (w.heap.size+1) 1 (.bool x2)/\zC W (w.heap.size+1) 2 (.bool x3)/\zC W o.heap.size 0 (.bool y1)/\zC W o.heap.size 1 (.bool y2)/\zC W o.heap.size 2 (.bool y3))(r:zB W W'):Hid (zB w W')/\Hid (W'.heap[w.heap.size]? =some (.cells #[.bool false,.bool false,.bool false] 210))/\Hid (W'.heap[w.heap.size+1]? =some (.cells #[.bool x1,.bool x2,.bool x3] 210))/\zC W' (w.heap.size+1) 0 (.bool x1)/\zC W' (w.heap.size+1) 1 (.bool x2)/\zC W' (w.heap.size+1) 2 (.bool x3)/\zC W' o.heap.size 0 (.bool y1)/\zC W' o.heap.size 1 (.bool y2)/\zC W' o.heap.size 2 (.bool y3):=by
 obtain⟨t,y,A,D,E,G,I,U,V⟩:=h;have e:∀(a:Addr) (u:Value),W.cell? a=some u->W'.cell? a=some u:=fun a u h=>(r.cell (p:=a) (World.block_lt_of_cell? W _ h)).trans h
 exact⟨hid (t.out.trans (r.mono t.out.size)),hid ((r.block _ (Qq y.out)).trans y.out),hid ((r.block _ (Qq A.out)).trans A.out),e _ _ D,e _ _ E,e _ _ G,e _ _ I,e _ _ U,e _ _ V⟩
theorem y1c(W:World)(a b c:Addr)(x y z:Value):(((W.setCell a x).setCell b y).setCell c z).drew=((W.drew.setCell a x).setCell b y).setCell c z:=rfl
theorem y1d{x1 x2 x3 y1 y2 y3 q:Bool}(h:q=suc (y1,y2,y3)):Uc (x1,x2,x3) (y1,y2,y3)=(x1&&y1,x2&&q||x1&&y2,x3||(x1||x2)&&y3):=by rw[h];rfl
theorem y1e(B D:Nat)(K:zA->Ot)(T:zA)(a b c d:Int)(r:Option Addr)(n t:Nat)(p:Int)(w:World)(y:Nm w B D K)(E:T.size<=maxLen):Calls prog 191 #[.map (some B),.agg #[zI 5,zT T,zU a,zU b,zU c,zU d,.slice r n t,zI p]] w fun e w'=>e=.returned (ov (K T))/\Hid (zB w w'):=by
 have G:Hid (∀h o:Obj,zB w ((w.alloc h).alloc o)):=fun h o=>((Below.refl _ w).alloc L0q h).alloc (by simp) o
 have A:=((y.kept (World.grownBy_alloc w (.cells #[zI 5,zT T,zU a,zU b,zU c,zU d,.slice r n t,zI p] 81) none) (by simp)).kept (World.grownBy_alloc _ (.cells #[.bool false,.bool false,.bool false] 210) none) (by simp)).look E;obtain⟨⟨x1,x2,x3⟩,hx⟩:∃x,x=K T:=⟨_,rfl⟩;rw[<-hx]at A ⊢;dsimp only[ov]at A;clear hx y;go_enter func191,ntmps191
 go_wp2_with fail
 refine bodyPost_ret (v:=.agg #[.bool x1,.bool x2,.bool x3]) (by simp[results,Tryz.results191,go_sem]) rfl ?_;exact⟨rfl,hid (G.out _ _)⟩
theorem y1f(m:Option Nat)(T:zA)(a b c d:Int)(y:Option Addr)(n A:Nat)(p:Int)(w:World):Calls prog 191 #[.map m,.agg #[zI 3,zT T,zU a,zU b,zU c,zU d,.slice y n A,zI p]] w fun e w'=>e=.returned (ov (if zc a b c d then(false,false,true)else(false,true,true)))/\Hid (zB w w'):=by
 have r:Hid (∀h o:Obj,zB w ((w.alloc h).alloc o)):=fun h o=>((Below.refl _ w).alloc L0q h).alloc (by simp) o
 have t:∀w:World,(Op.equalIn 10000 54 (.agg #[zU a,zU b,zU c,zU d]) (.agg #[zU 0,zU 0,zU 0,zU 0])).run prog w=.ok (zc a b c d) w:=fun w=>Yg 9998 w a b c d 0 0 0 0
 cases hz:zc a b c d with
 |true=>
  rw[hz]at t;clear hz;go_enter func191,ntmps191
  go_wp2_with fail
  refine bodyPost_ret (v:=.agg #[.bool false,.bool false,.bool true]) (by simp[results,Tryz.results191,go_sem]) rfl ?_;exact⟨rfl,hid (r.out _ _)⟩
 |false=>
  rw[hz]at t;clear hz;go_enter func191,ntmps191
  go_wp2_with fail
  refine bodyPost_ret (v:=.agg #[.bool false,.bool true,.bool true]) (by simp[results,Tryz.results191,go_sem]) rfl ?_;exact⟨rfl,hid (r.out _ _)⟩
theorem y1g(B:Nat)(K:zA->Ot)(so:Option Addr)(n ay:Nat)(s:List RT)(w:World)(hn:n<=9223372036854775807)(HN:Hid (n=s.length))
  (HC:Hid (∀j (hj:j<s.length),∃g o,so=some ⟨g,o,none⟩/\g<w.heap.size/\∃I U a1 V c1 Y Z n1 aa p1,Rc w g (o+j*8) I U a1 V c1 Y (.slice Z n1 aa) p1/\
    ∀W:World,zB w W->Calls prog 191 #[.map (some B),.agg (r8 I U a1 V c1 Y Z n1 aa p1).toArray] W fun e w'=>e=.returned (ov (ofT K s[j]))/\Hid (zB W w'))):
  Calls prog 228 #[.map (some B),.slice so n ay] w fun e w'=>e=.returned (ov (ofS K (true,false,false) s))/\Hid (zB w w'):=by
 obtain⟨W1,ab⟩:∃W1,W1=(w.alloc (.cells #[.bool false,.bool false,.bool false] 210)).alloc (.cells #[.bool true,.bool false,.bool false] 210):=⟨_,rfl⟩;have az:Hid (zB w W1):=by rw[ab];exact((Below.refl _ w).alloc L0q _).alloc (by simp) _
 have aA:Hid (W1.heap[w.heap.size]? =some (.cells #[.bool false,.bool false,.bool false] 210)):=by rw[ab];exact(Below.heap_alloc _ _ _ (by simp)).trans (Qx w _ rfl)
 have aB:Hid (W1.heap[w.heap.size+1]? =some (.cells #[.bool true,.bool false,.bool false] 210)):=by rw[ab];exact Qx _ _ (by simp)
 have ao:=hid ab;clear ab;go_enter func228,ntmps228
 go_wp2_with fail
 rw[<-ao.out];clear ao
 go_loopw [12] (fun i wr=>∃j:Nat,i=zI (j:Int)/\j<=n/\Hid (zB w wr)/\Hid (wr.heap[w.heap.size]? =some (.cells #[.bool false,.bool false,.bool false] 210))/\∃x1 x2 x3:Bool,Hid ((x1,x2,x3)=ofS K (true,false,false) (s.take j))/\Hid (wr.heap[w.heap.size+1]? =some (.cells #[.bool x1,.bool x2,.bool x3] 210))) (fun i _=>n-(intOf i).toNat)
 case atStart=>exact⟨0,rfl,Nat.zero_le _,az,aA,_,_,_,hid (by rw[List.take_zero,ofS]),aB⟩
 case round=>
  obtain⟨j,rfl,hj,D,E,x1,x2,x3,HX,G⟩:=hrel;by_cases hjn:j<n
  ·have aF:(j:Int)<(n:Int):=by omega
   have a0:decide ((j:Int)<(n:Int))=true:=by simp;omega
   have ap:j<s.length:=by rw[<-HN.out];exact hjn
   obtain⟨g,o,rfl,hg,I,U,a1,V,c1,Y,Z,n1,aa,p1,aq,ar⟩:=HC.out j ap;obtain⟨z0,z1,z2,z3,z4,z5,z6,z7⟩:=aq.below D.out hg;have aC:g<wr.heap.size:=World.block_lt_of_cell? wr _ z0;obtain⟨⟨y1,y2,y3⟩,hy⟩:∃y,y=ofT K s[j]:=⟨_,rfl⟩;have af:zB w (wr.alloc (.cells #[zI I,zT U,zU a1,zU V,zU c1,zU Y,.slice Z n1 aa,zI p1] 81)):=D.out.alloc D.out.size _;have ag:=(Below.refl _ wr).alloc L0q (.cells #[zI I,zT U,zU a1,zU V,zU c1,zU Y,.slice Z n1 aa,zI p1] 81);have ah:=hid ((ag.block _ (Qq E.out)).trans E.out);have ai:=hid ((ag.block _ (Qq G.out)).trans G.out);have aj:=hid af;have HS:=hid (ar _ af);rw[<-hy]at HS;have HY:=hid hy;clear ar aq hy af ag;dsimp only[r8,ov]at HS
   go_wp2_with(first
    |(go_at_call 191;refine HS.out.mono ?_;rintro e t ⟨rfl,ad⟩))
   have ak:=hid (aj.out.trans (ad.out.mono aj.out.size));have al:=hid ((ad.out.block _ (Qq ah.out)).trans ah.out);have am:=hid ((ad.out.block _ (Qq ai.out)).trans ai.out);clear HS ad z0 z1 z2 z3 z4 z5 z6 z7 E G D aC aj ah ai;obtain⟨q,hq⟩:∃q,q=suc (y1,y2,y3):=⟨_,rfl⟩;have aD:Hid (∀W:World,Calls prog 262 #[.agg #[.bool y1,.bool y2,.bool y3]] W fun e w'=>e=.returned (.bool q)/\Hid (zB W w')):=fun W=>by rw[hq];exact Em y1 y2 y3 W
   have au:Hid (∀W:World,Calls prog 262 #[.agg #[.bool x1,.bool x2,.bool x3]] W fun e w'=>e=.returned (.bool (x1||x2))/\Hid (zB W w')):=fun W=>Em x1 x2 x3 W
   have HQ:=hid hq;clear hq;have S0:(fun W:World=>Hid (zB w W)/\Hid (W.heap[w.heap.size]? =some (.cells #[.bool false,.bool false,.bool false] 210))/\Hid (W.heap[w.heap.size+1]? =some (.cells #[.bool x1,.bool x2,.bool x3] 210))/\zC W (w.heap.size+1) 0 (.bool x1)/\zC W (w.heap.size+1) 1 (.bool x2)/\zC W (w.heap.size+1) 2 (.bool x3)/\zC W t.heap.size 0 (.bool y1)/\zC W t.heap.size 1 (.bool y2)/\zC W t.heap.size 2 (.bool y3)) (t.alloc (.cells #[.bool y1,.bool y2,.bool y3] 210)).drew:=by
    have hb:=(Below.refl _ t).alloc L0q (.cells #[.bool y1,.bool y2,.bool y3] 210);have h1:=(hb.block _ (Qq am.out)).trans am.out;obtain⟨⟨t0,t1,t2⟩,_⟩:=Zz h1;obtain⟨⟨u0,u1,u2⟩,_⟩:=Zz (Qx t (.cells #[.bool y1,.bool y2,.bool y3] 210) rfl);exact⟨hid (ak.out.trans (hb.mono ak.out.size)).drew,hid ((hb.block _ (Qq al.out)).trans al.out),hid h1,t0,t1,t2,u0,u1,u2⟩
   clear ak al am;cases x1<;>cases x2<;>cases x3<;>cases q<;>(
    simp only[Bool.or_false,Bool.or_true]at au;refine Qc 31 (fun W:World=>Hid (zB w W)/\Hid (W.heap[w.heap.size]? =some (.cells #[.bool false,.bool false,.bool false] 210))/\Hid (W.heap[w.heap.size+1]? =some (.cells #[.bool _,.bool _,.bool _] 210))/\zC W (w.heap.size+1) 0 (.bool _)/\zC W (w.heap.size+1) 1 (.bool _)/\zC W (w.heap.size+1) 2 (.bool _)/\zC W t.heap.size 0 (.bool y1)/\zC W t.heap.size 1 (.bool y2)/\zC W t.heap.size 2 (.bool y3)) (by kernel_rfl) S0 (fun r=> ?_);refine Qz 0 r ?_;refine Qz 1 r ?_;refine Qz 2 r ?_;refine Qz 3 r ?_;refine Qz 4 r ?_;refine Qz 5 r ?_;refine Qz 6 r ?_;refine Qz 7 r ?_;refine Qz 8 r ?_;refine Qz 9 r ?_;refine Qz 20 r ?_;refine Qz 21 r ?_
    first
     |(refine Fx (i:=10) (oi:={dst:=Option.some 29,op:=Go.Op.call {callee:=Go.Callee.value (Go.Operand.func 262),args:=#[Go.Operand.tmp 28],argTypes:=#[210]},type:=4,pos:="nullable.go:104",after:=#[{on:=9,ground:=Go.Ground.data},{on:=8,ground:=Go.Ground.chain},{on:=8,ground:=Go.Ground.guard}],guard:=Option.some (8,Bool.true)}) (v:=undef) rfl (by kernel_rfl) (by kernel_rfl) (by kernel_rfl) (fun _ _ _ h=>h) (Or.inr ⟨by rfl,rfl⟩) r ?_)
     |(refine Qf 10 (fun K A=> ?_);go_simp;refine(aD.out _).mono ?_;rintro e w5 ⟨rfl,ac⟩;go_simp;replace r:=z3f r ac.out;refine A.out _ _ r ?_;clear A K ac)
    (try simp only[Act.put,zY])
    refine Qz 11 r ?_;refine Qz 12 r ?_;refine Qz 13 r ?_;refine Qz 14 r ?_;refine Qz 15 r ?_;refine Qz 16 r ?_;refine Qz 17 r ?_;refine Qz 18 r ?_;refine Qz 19 r ?_;refine Qz 22 r ?_;refine Qz 23 r ?_
    first
     |(refine Fx (i:=24) (oi:={dst:=Option.some 43,op:=Go.Op.call {callee:=Go.Callee.value (Go.Operand.func 262),args:=#[Go.Operand.tmp 42],argTypes:=#[210]},type:=4,pos:="nullable.go:105",after:=#[{on:=23,ground:=Go.Ground.data},{on:=22,ground:=Go.Ground.chain},{on:=22,ground:=Go.Ground.guard}],guard:=Option.some (22,Bool.false)}) (v:=undef) rfl (by kernel_rfl) (by kernel_rfl) (by kernel_rfl) (fun _ _ _ h=>h) (Or.inr ⟨by rfl,rfl⟩) r ?_)
     |(refine Qf 24 (fun K A=> ?_);go_simp;refine(au.out _).mono ?_;rintro e w5 ⟨rfl,ac⟩;go_simp;replace r:=z3f r ac.out;refine A.out _ _ r ?_;clear A K ac)
    (try simp only[Act.put,zY])
    refine Qz 25 r ?_;refine Qz 26 r ?_;refine Qz 27 r ?_;refine Qz 28 r ?_;refine Qz 29 r ?_;refine Qz 30 r ?_;refine Yj (fun K A=> ?_);obtain⟨av,aw,ae,-,-,-,-,-,-⟩:=r
    first
     |obtain⟨⟨t0,t1,t2⟩,f0,f1,f2⟩:=Zz (w:=t.alloc (.cells #[.bool y1,.bool y2,.bool y3] 210)) ae.out
     |obtain⟨⟨t0,t1,t2⟩,f0,f1,f2⟩:=Zz ae.out
    have la:=Qq ae.out
    go_simp
    (try rw[y1c])
    refine A.out _ _ ?_;clear A K t0 t1 t2 f0 f1 f2
    go_wp2_with fail
    go_roundw
    case rel=>exact⟨j+1,by go_num,by omega,hid (av.out.grown (Xv _ _ _ _ _) av.out.size (fun g e=>by have:=Option.some.inj e;omega)),hid (((Xv _ _ _ _ _).block _ (Qq aw.out) (fun e=>by have:=Option.some.inj e;omega)).trans aw.out),_,_,_,hid (by rw[y1a K _ s j ap,<-HX.out,<-HY.out,y1d HQ.out];simp),hid (Ym ae.out)⟩
    case measure=>simp[intOf];omega)
  ·have a0:decide ((j:Int)<(n:Int))=false:=by simp;omega
   have ax:s.take j=s:=List.take_of_length_le (by rw[<-HN.out];omega);rw[ax]at HX;obtain⟨⟨t0,t1,t2⟩,_⟩:=Zz G.out;obtain⟨⟨u0,u1,u2⟩,f0,f1,f2⟩:=Zz E.out;have la:=Qq G.out;have lr:=Qq E.out;have aE:=hid (D.out.grown (Xv wr w.heap.size (.bool x1) (.bool x2) (.bool x3)) D.out.size (fun g e=>by have:=Option.some.inj e;omega));obtain⟨⟨r0,r1,r2⟩,_⟩:=Zz (Ym (v0:=.bool x1) (v1:=.bool x2) (v2:=.bool x3) E.out);clear ax G E D
   go_wp2_with fail
   refine bodyPost_ret (v:=.agg #[.bool x1,.bool x2,.bool x3]) (by simp[results,Tryz.results228,go_sem,r0,r1,r2]) rfl ?_;exact⟨by rw[<-HX.out],aE⟩
theorem y1h{w h:World}{x1 x2 x3 y1 y2 y3:Bool}(y:Hid (zB w h))(A:Hid (h.heap[w.heap.size]? =some (.cells #[.bool false,.bool false,.bool false] 210)))(D:Hid (h.heap[w.heap.size+1]? =some (.cells #[.bool x1,.bool x2,.bool x3] 210))):
  (Hid (zB w (h.alloc (.cells #[.bool y1,.bool y2,.bool y3] 210)))/\Hid ((h.alloc (.cells #[.bool y1,.bool y2,.bool y3] 210)).heap[w.heap.size]? =some (.cells #[.bool false,.bool false,.bool false] 210))/\Hid ((h.alloc (.cells #[.bool y1,.bool y2,.bool y3] 210)).heap[w.heap.size+1]? =some (.cells #[.bool x1,.bool x2,.bool x3] 210)))/\
  w.heap.size+1<(h.alloc (.cells #[.bool y1,.bool y2,.bool y3] 210)).heap.size/\h.heap.size<(h.alloc (.cells #[.bool y1,.bool y2,.bool y3] 210)).heap.size/\
  ((h.alloc (.cells #[.bool y1,.bool y2,.bool y3] 210)).cell? ⟨w.heap.size+1,0,none⟩=some (.bool x1)/\(h.alloc (.cells #[.bool y1,.bool y2,.bool y3] 210)).cell? ⟨w.heap.size+1,1,none⟩=some (.bool x2)/\(h.alloc (.cells #[.bool y1,.bool y2,.bool y3] 210)).cell? ⟨w.heap.size+1,2,none⟩=some (.bool x3))/\
  ((h.alloc (.cells #[.bool y1,.bool y2,.bool y3] 210)).frozen? ⟨w.heap.size+1,0,none⟩=false/\(h.alloc (.cells #[.bool y1,.bool y2,.bool y3] 210)).frozen? ⟨w.heap.size+1,1,none⟩=false/\(h.alloc (.cells #[.bool y1,.bool y2,.bool y3] 210)).frozen? ⟨w.heap.size+1,2,none⟩=false)/\
  (h.alloc (.cells #[.bool y1,.bool y2,.bool y3] 210)).cell? ⟨h.heap.size,0,none⟩=some (.bool y1)/\(h.alloc (.cells #[.bool y1,.bool y2,.bool y3] 210)).cell? ⟨h.heap.size,1,none⟩=some (.bool y2)/\(h.alloc (.cells #[.bool y1,.bool y2,.bool y3] 210)).cell? ⟨h.heap.size,2,none⟩=some (.bool y3):=by
 have o:=(Below.refl _ h).alloc L0q (.cells #[.bool y1,.bool y2,.bool y3] 210);have r:=(o.block _ (Qq D.out)).trans D.out;obtain⟨t,f⟩:=Zz r;obtain⟨u,_⟩:=Zz (Qx h (.cells #[.bool y1,.bool y2,.bool y3] 210) rfl);exact⟨⟨hid (y.out.trans (o.mono y.out.size)),hid ((o.block _ (Qq A.out)).trans A.out),hid r⟩,Qq r,by simp,t,f,u⟩
theorem y1i(B:Nat)(K:zA->Ot)(so:Option Addr)(n ar:Nat)(s:List RT)(w:World)(hn:n<=9223372036854775807)(HN:Hid (n=s.length))
  (HC:Hid (∀j (hj:j<s.length),∃g o,so=some ⟨g,o,none⟩/\g<w.heap.size/\∃A D a1 E c1 G I U V p1,Rc w g (o+j*8) A D a1 E c1 G (.slice I U V) p1/\
    ∀W:World,zB w W->Calls prog 191 #[.map (some B),.agg (r8 A D a1 E c1 G I U V p1).toArray] W fun e w'=>e=.returned (ov (ofT K s[j]))/\Hid (zB W w'))):
  Calls prog 229 #[.map (some B),.slice so n ar] w fun e w'=>e=.returned (ov (ofA K (false,false,true) s))/\Hid (zB w w'):=by
 obtain⟨Y,Z⟩:∃Y,Y=(w.alloc (.cells #[.bool false,.bool false,.bool false] 210)).alloc (.cells #[.bool false,.bool false,.bool true] 210):=⟨_,rfl⟩;have au:Hid (zB w Y):=by rw[Z];exact((Below.refl _ w).alloc L0q _).alloc (by simp) _
 have av:Hid (Y.heap[w.heap.size]? =some (.cells #[.bool false,.bool false,.bool false] 210)):=by rw[Z];exact(Below.heap_alloc _ _ _ (by simp)).trans (Qx w _ rfl)
 have aw:Hid (Y.heap[w.heap.size+1]? =some (.cells #[.bool false,.bool false,.bool true] 210)):=by rw[Z];exact Qx _ _ (by simp)
 have ag:=hid Z;clear Z;go_enter func229,ntmps229
 go_wp2_with fail
 rw[<-ag.out];clear ag
 go_loopw [12] (fun i wr=>∃j:Nat,i=zI (j:Int)/\j<=n/\Hid (zB w wr)/\Hid (wr.heap[w.heap.size]? =some (.cells #[.bool false,.bool false,.bool false] 210))/\∃x1 x2 x3:Bool,Hid ((x1,x2,x3)=ofA K (false,false,true) (s.take j))/\Hid (wr.heap[w.heap.size+1]? =some (.cells #[.bool x1,.bool x2,.bool x3] 210))) (fun i _=>n-(intOf i).toNat)
 case atStart=>exact⟨0,rfl,Nat.zero_le _,au,av,_,_,_,hid (by rw[List.take_zero,ofA]),aw⟩
 case round=>
  obtain⟨j,rfl,hj,h,r,x1,x2,x3,HX,t⟩:=hrel;by_cases hjn:j<n
  ·have az:(j:Int)<(n:Int):=by omega
   have a0:decide ((j:Int)<(n:Int))=true:=by simp;omega
   have ah:j<s.length:=by rw[<-HN.out];exact hjn
   obtain⟨g,o,rfl,hg,A,D,a1,E,c1,G,I,U,V,p1,ai,aj⟩:=HC.out j ah;obtain⟨z0,z1,z2,z3,z4,z5,z6,z7⟩:=ai.below h.out hg;have aA:g<wr.heap.size:=World.block_lt_of_cell? wr _ z0;obtain⟨⟨y1,y2,y3⟩,hy⟩:∃y,y=ofT K s[j]:=⟨_,rfl⟩;have ab:zB w (wr.alloc (.cells #[zI A,zT D,zU a1,zU E,zU c1,zU G,.slice I U V,zI p1] 81)):=h.out.alloc h.out.size _;have ac:=(Below.refl _ wr).alloc L0q (.cells #[zI A,zT D,zU a1,zU E,zU c1,zU G,.slice I U V,zI p1] 81);have ad:=hid ((ac.block _ (Qq r.out)).trans r.out);have ae:=hid ((ac.block _ (Qq t.out)).trans t.out);have af:=hid ab;have HS:=hid (aj _ ab);rw[<-hy]at HS;have HY:=hid hy;clear aj ai hy ab ac;dsimp only[r8,ov]at HS;cases x1<;>cases x2<;>cases x3<;>(
    go_wp2_with(first
     |(go_at_call 191;refine HS.out.mono ?_;rintro e w4 ⟨rfl,aa⟩;have ak:=hid (af.out.trans (aa.out.mono af.out.size));have al:=hid ((aa.out.block _ (Qq ad.out)).trans ad.out);have am:=hid ((aa.out.block _ (Qq ae.out)).trans ae.out);obtain⟨⟨ao,ap,ax⟩,la,ln,⟨t0,t1,t2⟩,⟨f0,f1,f2⟩,u0,u1,u2⟩:=y1h (y1:=y1) (y2:=y2) (y3:=y3) ak al am;clear HS aa r t h af ad ae ak al am))
    go_roundw
    case rel=>exact⟨j+1,by go_num,by omega,hid (ao.out.grown (Xv _ _ _ _ _) ao.out.size (fun g e=>by have:=Option.some.inj e;omega)),hid (((Xv _ _ _ _ _).block _ (Qq ap.out) (fun e=>by have:=Option.some.inj e;omega)).trans ap.out),_,_,_,hid (by rw[y1b K _ s j ah,<-HX.out,<-HY.out];simp[Ux]),hid (Ym ax.out)⟩
    case measure=>simp[intOf];omega)
  ·have a0:decide ((j:Int)<(n:Int))=false:=by simp;omega
   have aq:s.take j=s:=List.take_of_length_le (by rw[<-HN.out];omega);rw[aq]at HX;obtain⟨⟨t0,t1,t2⟩,_⟩:=Zz t.out;obtain⟨⟨u0,u1,u2⟩,f0,f1,f2⟩:=Zz r.out;have la:=Qq t.out;have lr:=Qq r.out;have ay:=hid (h.out.grown (Xv wr w.heap.size (.bool x1) (.bool x2) (.bool x3)) h.out.size (fun g e=>by have:=Option.some.inj e;omega));obtain⟨⟨r0,r1,r2⟩,_⟩:=Zz (Ym (v0:=.bool x1) (v1:=.bool x2) (v2:=.bool x3) r.out);clear aq t r h
   go_wp2_with fail
   refine bodyPost_ret (v:=.agg #[.bool x1,.bool x2,.bool x3]) (by simp[results,Tryz.results229,go_sem,r0,r1,r2]) rfl ?_;exact⟨by rw[<-HX.out],ay⟩
theorem y1j(B:Nat)(x1 x2 x3:Bool)(T:zA)(a b c d:Int)(t:Option Addr)(n y:Nat)(p:Int)(w:World)
  (D:Hid (∀W:World,zB w W->Calls prog 228 #[.map (some B),.slice t n y] W fun e w'=>e=.returned (ov (x1,x2,x3))/\Hid (zB W w'))):
  Calls prog 191 #[.map (some B),.agg #[zI 6,zT T,zU a,zU b,zU c,zU d,.slice t n y,zI p]] w fun e w'=>e=.returned (ov (x1,x2,x3))/\Hid (zB w w'):=by
 obtain⟨h,o⟩:∃h,h=(w.alloc (.cells #[zI 6,zT T,zU a,zU b,zU c,zU d,.slice t n y,zI p] 81)).alloc (.cells #[.bool false,.bool false,.bool false] 210):=⟨_,rfl⟩;have A:zB w h:=by rw[o];exact((Below.refl _ w).alloc L0q _).alloc (by simp) _
 have E:Hid (h.heap[w.heap.size+1]? =some (.cells #[.bool false,.bool false,.bool false] 210)):=by rw[o];exact Qx _ _ (by simp)
 have G:=hid A;have I:=hid (D.out h A);have Y:=hid o;clear o A D;dsimp only[ov]at I;go_enter func191,ntmps191
 go_wp2_with(first
  |(go_at_call 228;rw[<-Y.out];refine I.out.mono ?_;rintro e w4 ⟨rfl,U⟩;have r:=(U.out.block _ (Qq E.out)).trans E.out;obtain⟨⟨u0,u1,u2⟩,f0,f1,f2⟩:=Zz r;have lr:=Qq r;have Z:=hid r;clear r))
 obtain⟨⟨r0,r1,r2⟩,_⟩:=Zz (Ym (v0:=.bool x1) (v1:=.bool x2) (v2:=.bool x3) Z.out);refine bodyPost_ret (v:=.agg #[.bool x1,.bool x2,.bool x3]) (by simp[results,Tryz.results191,go_sem,r0,r1,r2]) rfl ?_;have V:=G.out.trans (U.out.mono G.out.size);exact⟨rfl,hid (V.grown (Xv _ _ _ _ _) V.size (fun g e=>by have:=Option.some.inj e;omega))⟩
theorem y1k(B:Nat)(x1 x2 x3:Bool)(T:zA)(a b c d:Int)(t:Option Addr)(n y:Nat)(p:Int)(w:World)
  (D:Hid (∀W:World,zB w W->Calls prog 229 #[.map (some B),.slice t n y] W fun e w'=>e=.returned (ov (x1,x2,x3))/\Hid (zB W w'))):
  Calls prog 191 #[.map (some B),.agg #[zI 7,zT T,zU a,zU b,zU c,zU d,.slice t n y,zI p]] w fun e w'=>e=.returned (ov (x1,x2,x3))/\Hid (zB w w'):=by
 obtain⟨h,o⟩:∃h,h=(w.alloc (.cells #[zI 7,zT T,zU a,zU b,zU c,zU d,.slice t n y,zI p] 81)).alloc (.cells #[.bool false,.bool false,.bool false] 210):=⟨_,rfl⟩;have A:zB w h:=by rw[o];exact((Below.refl _ w).alloc L0q _).alloc (by simp) _
 have E:Hid (h.heap[w.heap.size+1]? =some (.cells #[.bool false,.bool false,.bool false] 210)):=by rw[o];exact Qx _ _ (by simp)
 have G:=hid A;have I:=hid (D.out h A);have Y:=hid o;clear o A D;dsimp only[ov]at I;go_enter func191,ntmps191
 go_wp2_with(first
  |(go_at_call 229;rw[<-Y.out];refine I.out.mono ?_;rintro e w4 ⟨rfl,U⟩;have r:=(U.out.block _ (Qq E.out)).trans E.out;obtain⟨⟨u0,u1,u2⟩,f0,f1,f2⟩:=Zz r;have lr:=Qq r;have Z:=hid r;clear r))
 obtain⟨⟨r0,r1,r2⟩,_⟩:=Zz (Ym (v0:=.bool x1) (v1:=.bool x2) (v2:=.bool x3) Z.out);refine bodyPost_ret (v:=.agg #[.bool x1,.bool x2,.bool x3]) (by simp[results,Tryz.results191,go_sem,r0,r1,r2]) rfl ?_;have V:=G.out.trans (U.out.mono G.out.size);exact⟨rfl,hid (V.grown (Xv _ _ _ _ _) V.size (fun g e=>by have:=Option.some.inj e;omega))⟩
theorem Fj{w W:World}{p:Prop}(h:Hid (zB w W)/\p):zB w W:=h.1.out
theorem Mc{w W W':World}{v0 v1:Value}{g o:Nat}{y0 y1 y2 y3 t y A D:Value}(h:Hid (zB w W)/\Hid (∃v0 v1 v2:Value,W.heap[w.heap.size+1]? =some (.cells #[v0,v1,v2] 210))/\zC W w.heap.size 0 v0/\zC W w.heap.size 6 v1/\zC W g o y0/\zC W g (o+1) y1/\zC W g (o+2) y2/\zC W g (o+3) y3/\zC W g (o+4) t/\zC W g (o+5) y/\zC W g (o+6) A/\zC W g (o+7) D)(r:zB W W'):Hid (zB w W')/\Hid (∃v0 v1 v2:Value,W'.heap[w.heap.size+1]? =some (.cells #[v0,v1,v2] 210))/\zC W' w.heap.size 0 v0/\zC W' w.heap.size 6 v1/\zC W' g o y0/\zC W' g (o+1) y1/\zC W' g (o+2) y2/\zC W' g (o+3) y3/\zC W' g (o+4) t/\zC W' g (o+5) y/\zC W' g (o+6) A/\zC W' g (o+7) D:=by
 obtain⟨E,I,U,V,Y,Z,z4,z5,z6,z7,z8,z9⟩:=h;have e:∀{a:Addr} {u:Value},W.cell? a=some u->W'.cell? a=some u:=fun{a u} h=>(r.cell (p:=a) (World.block_lt_of_cell? W _ h)).trans h
 obtain⟨r0,r1,r2,G⟩:=I.out;exact⟨hid (E.out.trans (r.mono E.out.size)),hid ⟨r0,r1,r2,(r.block _ (Qq G)).trans G⟩,e U,e V,e Y,e Z,e z4,e z5,e z6,e z7,e z8,e z9⟩
theorem Ml{w W:World}{v0 v1:Value}{g o:Nat}{y0 y1 y2 y3 t y A D:Value}{x1 x2 x3:Value}(hg:g<w.heap.size)(h:Hid (zB w W)/\Hid (∃v0 v1 v2:Value,W.heap[w.heap.size+1]? =some (.cells #[v0,v1,v2] 210))/\zC W w.heap.size 0 v0/\zC W w.heap.size 6 v1/\zC W g o y0/\zC W g (o+1) y1/\zC W g (o+2) y2/\zC W g (o+3) y3/\zC W g (o+4) t/\zC W g (o+5) y/\zC W g (o+6) A/\zC W g (o+7) D)(W':World)(e:W'=((W.setCell ⟨w.heap.size+1,0,none⟩ x1).setCell ⟨w.heap.size+1,1,none⟩ x2).setCell ⟨w.heap.size+1,2,none⟩ x3):Hid (zB w W')/\Hid (∃v0 v1 v2:Value,W'.heap[w.heap.size+1]? =some (.cells #[v0,v1,v2] 210))/\zC W' w.heap.size 0 v0/\zC W' w.heap.size 6 v1/\zC W' g o y0/\zC W' g (o+1) y1/\zC W' g (o+2) y2/\zC W' g (o+3) y3/\zC W' g (o+4) t/\zC W' g (o+5) y/\zC W' g (o+6) A/\zC W' g (o+7) D:=by
 obtain⟨E,I,U,V,Y,Z,z4,z5,z6,z7,z8,z9⟩:=h;have G:W.grownBy W' (some (w.heap.size+1)):=by rw[e];exact Xv _ _ _ _ _
 have k:∀{a:Addr} {u:Value},a.block≠w.heap.size+1->W.cell? a=some u->W'.cell? a=some u:=fun{a u} aa h=>(World.cell?_of_block (G.block a.block (World.block_lt_of_cell? W _ h) (fun e=>aa (Option.some.inj e)))).trans h
 obtain⟨r0,r1,r2,hr⟩:=I.out;have hl:∀j,(⟨w.heap.size,j,none⟩:Addr).block≠w.heap.size+1:=fun j=>by show w.heap.size≠_;omega
 have r:∀j,(⟨g,j,none⟩:Addr).block≠w.heap.size+1:=fun j=>by show g≠_;omega
 exact⟨hid (E.out.grown G E.out.size (fun g e=>by have:=Option.some.inj e;omega)),hid ⟨x1,x2,x3,by rw[e];exact Ym hr⟩,k (hl _) U,k (hl _) V,k (r _) Y,k (r _) Z,k (r _) z4,k (r _) z5,k (r _) z6,k (r _) z7,k (r _) z8,k (r _) z9⟩
theorem Az{w W W':World}{p:Prop}(h:Hid (zB w W)/\Hid (∃v0 v1 v2:Value,W.heap[w.heap.size+1]? =some (.cells #[v0,v1,v2] 210))/\p)(o:zB W W'):Hid (zB w W')/\Hid (∃v0 v1 v2:Value,W'.heap[w.heap.size+1]? =some (.cells #[v0,v1,v2] 210)):=by
 obtain⟨t,y,A,r⟩:=h.2.1.out;exact⟨hid (h.1.out.trans (o.mono h.1.out.size)),hid ⟨t,y,A,(o.block _ (Qq r)).trans r⟩⟩
theorem y1l(B:Nat)(y1 y2 y3:Bool)(T:zA)(a b c d:Int)(g o t:Nat)(p:Int)(y:Int)(A:zA)(a1 D c1 E:Int)(G:Option Addr)(I U:Nat)(p1:Int)(w:World)(Y:g<w.heap.size)(aa:Rc w g o y A a1 D c1 E (.slice G I U) p1)
  (HQ:Hid (∀W:World,zB w W->Calls prog 191 #[.map (some B),.agg (r8 y A a1 D c1 E G I U p1).toArray] W fun e w'=>e=.returned (ov (y1,y2,y3))/\Hid (zB W w'))):
  Calls prog 191 #[.map (some B),.agg #[zI 8,zT T,zU a,zU b,zU c,zU d,.slice (some ⟨g,o,none⟩) 1 t,zI p]] w fun e w'=>e=.returned (ov (Zy 8 (y1,y2,y3)))/\Hid (zB w w'):=by
 obtain⟨h,r⟩:∃h,h=(w.alloc (.cells #[zI 8,zT T,zU a,zU b,zU c,zU d,.slice (some ⟨g,o,none⟩) 1 t,zI p] 81)).alloc (.cells #[.bool false,.bool false,.bool false] 210):=⟨_,rfl⟩;have Z:zB w h:=by rw[r];exact((Below.refl _ w).alloc L0q _).alloc (by simp) _
 have ab:Hid (h.heap[w.heap.size+1]? =some (.cells #[.bool false,.bool false,.bool false] 210)):=by rw[r];exact Qx _ _ (by simp)
 obtain⟨⟨n0,-,-,-,-,-,n6,-⟩,-⟩:=Qg (show h.heap[w.heap.size]? =_ by rw[r];exact(Below.heap_alloc _ _ _ (by simp)).trans (Qx w _ rfl));obtain⟨z0,z1,z2,z3,z4,z5,z6,z7⟩:=aa.below Z Y;have S0:(fun W:World=>Hid (zB w W)/\Hid (∃v0 v1 v2:Value,W.heap[w.heap.size+1]? =some (.cells #[v0,v1,v2] 210))/\zC W w.heap.size 0 (zI 8)/\zC W w.heap.size 6 (.slice (some ⟨g,o,none⟩) 1 t)/\zC W g o (zI y)/\zC W g (o+1) (zT A)/\zC W g (o+2) (zU a1)/\zC W g (o+3) (zU D)/\zC W g (o+4) (zU c1)/\zC W g (o+5) (zU E)/\zC W g (o+6) (.slice G I U)/\zC W g (o+7) (zI p1)) h.drew:=⟨hid Z.drew,hid ⟨_,_,_,ab.out⟩,n0,n6,z0,z1,z2,z3,z4,z5,z6,z7⟩;have HU:=hid (y0K y1 y2 y3);have hl:w.heap.size<h.heap.size:=by rw[r];simp;omega
 have aj:g<h.heap.size:=Nat.lt_trans Y hl;have ac:=hid r;obtain⟨⟨x1,x2,x3⟩,hx⟩:∃x,x=Zy 8 (y1,y2,y3):=⟨_,rfl⟩;rw[<-hx]at HU ⊢;clear r Z ab aa hx n0 n6 z0 z1 z2 z3 z4 z5 z6 z7;dsimp only[ov,r8]at HQ HU;go_enter func191,ntmps191
 go_wp2_with fail
 rw[<-ac.out];clear ac
 go_region_held3 (fun W:World=>Hid (zB w W)/\Hid (∃v0 v1 v2:Value,W.heap[w.heap.size+1]? =some (.cells #[v0,v1,v2] 210))/\zC W w.heap.size 0 (zI 8)/\zC W w.heap.size 6 (.slice (some ⟨g,o,none⟩) 1 t)/\zC W g o (zI y)/\zC W g (o+1) (zT A)/\zC W g (o+2) (zU a1)/\zC W g (o+3) (zU D)/\zC W g (o+4) (zU c1)/\zC W g (o+5) (zU E)/\zC W g (o+6) (.slice G I U)/\zC W g (o+7) (zI p1)) (first|(with_reducible assumption)|(with_reducible exact Mc (by assumption) (by assumption))|(with_reducible exact Ml Y (by assumption) _ rfl)) (first
  |(go_at_call 191;refine(HQ.out _ (Fj (by assumption))).mono ?_;rintro e w4 ⟨rfl,ae⟩;have ak:=ae.out)
  |(go_at_call 230;refine(HU.out _).mono ?_;rintro e w5 ⟨rfl,af⟩;have ag:=af.out;obtain⟨ad,ah⟩:=Az (by assumption) ag;obtain⟨q0,q1,q2,V⟩:=ah.out;obtain⟨⟨u0,u1,u2⟩,f0,f1,f2⟩:=Zz V;have lr:=Qq V;have ai:=hid V;clear V))
 obtain⟨⟨r0,r1,r2⟩,_⟩:=Zz (Ym (v0:=.bool x1) (v1:=.bool x2) (v2:=.bool x3) ai.out)
 go_wp2_with fail
 refine bodyPost_ret (v:=.agg #[.bool x1,.bool x2,.bool x3]) (by simp[results,Tryz.results191,go_sem,r0,r1,r2]) rfl ?_;exact⟨rfl,hid (ad.out.grown (Xv _ _ _ _ _) ad.out.size (fun g e=>by have:=Option.some.inj e;omega))⟩
theorem y1m(B:Nat)(y1 y2 y3:Bool)(T:zA)(a b c d:Int)(g o t:Nat)(p:Int)(y:Int)(A:zA)(a1 D c1 E:Int)(G:Option Addr)(I U:Nat)(p1:Int)(w:World)(Y:g<w.heap.size)(aa:Rc w g o y A a1 D c1 E (.slice G I U) p1)
  (HQ:Hid (∀W:World,zB w W->Calls prog 191 #[.map (some B),.agg (r8 y A a1 D c1 E G I U p1).toArray] W fun e w'=>e=.returned (ov (y1,y2,y3))/\Hid (zB W w'))):
  Calls prog 191 #[.map (some B),.agg #[zI 9,zT T,zU a,zU b,zU c,zU d,.slice (some ⟨g,o,none⟩) 1 t,zI p]] w fun e w'=>e=.returned (ov (Zy 9 (y1,y2,y3)))/\Hid (zB w w'):=by
 obtain⟨h,r⟩:∃h,h=(w.alloc (.cells #[zI 9,zT T,zU a,zU b,zU c,zU d,.slice (some ⟨g,o,none⟩) 1 t,zI p] 81)).alloc (.cells #[.bool false,.bool false,.bool false] 210):=⟨_,rfl⟩;have Z:zB w h:=by rw[r];exact((Below.refl _ w).alloc L0q _).alloc (by simp) _
 have ab:Hid (h.heap[w.heap.size+1]? =some (.cells #[.bool false,.bool false,.bool false] 210)):=by rw[r];exact Qx _ _ (by simp)
 obtain⟨⟨n0,-,-,-,-,-,n6,-⟩,-⟩:=Qg (show h.heap[w.heap.size]? =_ by rw[r];exact(Below.heap_alloc _ _ _ (by simp)).trans (Qx w _ rfl));obtain⟨z0,z1,z2,z3,z4,z5,z6,z7⟩:=aa.below Z Y;have S0:(fun W:World=>Hid (zB w W)/\Hid (∃v0 v1 v2:Value,W.heap[w.heap.size+1]? =some (.cells #[v0,v1,v2] 210))/\zC W w.heap.size 0 (zI 9)/\zC W w.heap.size 6 (.slice (some ⟨g,o,none⟩) 1 t)/\zC W g o (zI y)/\zC W g (o+1) (zT A)/\zC W g (o+2) (zU a1)/\zC W g (o+3) (zU D)/\zC W g (o+4) (zU c1)/\zC W g (o+5) (zU E)/\zC W g (o+6) (.slice G I U)/\zC W g (o+7) (zI p1)) h.drew:=⟨hid Z.drew,hid ⟨_,_,_,ab.out⟩,n0,n6,z0,z1,z2,z3,z4,z5,z6,z7⟩;have HU:=hid (y0L y1 y2 y3);have hl:w.heap.size<h.heap.size:=by rw[r];simp;omega
 have aj:g<h.heap.size:=Nat.lt_trans Y hl;have ac:=hid r;obtain⟨⟨x1,x2,x3⟩,hx⟩:∃x,x=Zy 9 (y1,y2,y3):=⟨_,rfl⟩;rw[<-hx]at HU ⊢;clear r Z ab aa hx n0 n6 z0 z1 z2 z3 z4 z5 z6 z7;dsimp only[ov,r8]at HQ HU;go_enter func191,ntmps191
 go_wp2_with fail
 rw[<-ac.out];clear ac
 go_region_held3 (fun W:World=>Hid (zB w W)/\Hid (∃v0 v1 v2:Value,W.heap[w.heap.size+1]? =some (.cells #[v0,v1,v2] 210))/\zC W w.heap.size 0 (zI 9)/\zC W w.heap.size 6 (.slice (some ⟨g,o,none⟩) 1 t)/\zC W g o (zI y)/\zC W g (o+1) (zT A)/\zC W g (o+2) (zU a1)/\zC W g (o+3) (zU D)/\zC W g (o+4) (zU c1)/\zC W g (o+5) (zU E)/\zC W g (o+6) (.slice G I U)/\zC W g (o+7) (zI p1)) (first|(with_reducible assumption)|(with_reducible exact Mc (by assumption) (by assumption))|(with_reducible exact Ml Y (by assumption) _ rfl)) (first
  |(go_at_call 191;refine(HQ.out _ (Fj (by assumption))).mono ?_;rintro e w4 ⟨rfl,ae⟩;have ak:=ae.out)
  |(go_at_call 230;refine(HU.out _).mono ?_;rintro e w5 ⟨rfl,af⟩;have ag:=af.out;obtain⟨ad,ah⟩:=Az (by assumption) ag;obtain⟨q0,q1,q2,V⟩:=ah.out;obtain⟨⟨u0,u1,u2⟩,f0,f1,f2⟩:=Zz V;have lr:=Qq V;have ai:=hid V;clear V))
 obtain⟨⟨r0,r1,r2⟩,_⟩:=Zz (Ym (v0:=.bool x1) (v1:=.bool x2) (v2:=.bool x3) ai.out)
 go_wp2_with fail
 refine bodyPost_ret (v:=.agg #[.bool x1,.bool x2,.bool x3]) (by simp[results,Tryz.results191,go_sem,r0,r1,r2]) rfl ?_;exact⟨rfl,hid (ad.out.grown (Xv _ _ _ _ _) ad.out.size (fun g e=>by have:=Option.some.inj e;omega))⟩
theorem y1n(B:Nat)(y1 y2 y3:Bool)(T:zA)(a b c d:Int)(g o t:Nat)(p:Int)(y:Int)(A:zA)(a1 D c1 E:Int)(G:Option Addr)(I U:Nat)(p1:Int)(w:World)(Y:g<w.heap.size)(aa:Rc w g o y A a1 D c1 E (.slice G I U) p1)
  (HQ:Hid (∀W:World,zB w W->Calls prog 191 #[.map (some B),.agg (r8 y A a1 D c1 E G I U p1).toArray] W fun e w'=>e=.returned (ov (y1,y2,y3))/\Hid (zB W w'))):
  Calls prog 191 #[.map (some B),.agg #[zI 10,zT T,zU a,zU b,zU c,zU d,.slice (some ⟨g,o,none⟩) 1 t,zI p]] w fun e w'=>e=.returned (ov (Zy 10 (y1,y2,y3)))/\Hid (zB w w'):=by
 obtain⟨h,r⟩:∃h,h=(w.alloc (.cells #[zI 10,zT T,zU a,zU b,zU c,zU d,.slice (some ⟨g,o,none⟩) 1 t,zI p] 81)).alloc (.cells #[.bool false,.bool false,.bool false] 210):=⟨_,rfl⟩;have Z:zB w h:=by rw[r];exact((Below.refl _ w).alloc L0q _).alloc (by simp) _
 have ab:Hid (h.heap[w.heap.size+1]? =some (.cells #[.bool false,.bool false,.bool false] 210)):=by rw[r];exact Qx _ _ (by simp)
 obtain⟨⟨n0,-,-,-,-,-,n6,-⟩,-⟩:=Qg (show h.heap[w.heap.size]? =_ by rw[r];exact(Below.heap_alloc _ _ _ (by simp)).trans (Qx w _ rfl));obtain⟨z0,z1,z2,z3,z4,z5,z6,z7⟩:=aa.below Z Y;have S0:(fun W:World=>Hid (zB w W)/\Hid (∃v0 v1 v2:Value,W.heap[w.heap.size+1]? =some (.cells #[v0,v1,v2] 210))/\zC W w.heap.size 0 (zI 10)/\zC W w.heap.size 6 (.slice (some ⟨g,o,none⟩) 1 t)/\zC W g o (zI y)/\zC W g (o+1) (zT A)/\zC W g (o+2) (zU a1)/\zC W g (o+3) (zU D)/\zC W g (o+4) (zU c1)/\zC W g (o+5) (zU E)/\zC W g (o+6) (.slice G I U)/\zC W g (o+7) (zI p1)) h.drew:=⟨hid Z.drew,hid ⟨_,_,_,ab.out⟩,n0,n6,z0,z1,z2,z3,z4,z5,z6,z7⟩;have HU:=hid (y0M y1 y2 y3);have hl:w.heap.size<h.heap.size:=by rw[r];simp;omega
 have aj:g<h.heap.size:=Nat.lt_trans Y hl;have ac:=hid r;obtain⟨⟨x1,x2,x3⟩,hx⟩:∃x,x=Zy 10 (y1,y2,y3):=⟨_,rfl⟩;rw[<-hx]at HU ⊢;clear r Z ab aa hx n0 n6 z0 z1 z2 z3 z4 z5 z6 z7;dsimp only[ov,r8]at HQ HU;go_enter func191,ntmps191
 go_wp2_with fail
 rw[<-ac.out];clear ac
 go_region_held3 (fun W:World=>Hid (zB w W)/\Hid (∃v0 v1 v2:Value,W.heap[w.heap.size+1]? =some (.cells #[v0,v1,v2] 210))/\zC W w.heap.size 0 (zI 10)/\zC W w.heap.size 6 (.slice (some ⟨g,o,none⟩) 1 t)/\zC W g o (zI y)/\zC W g (o+1) (zT A)/\zC W g (o+2) (zU a1)/\zC W g (o+3) (zU D)/\zC W g (o+4) (zU c1)/\zC W g (o+5) (zU E)/\zC W g (o+6) (.slice G I U)/\zC W g (o+7) (zI p1)) (first|(with_reducible assumption)|(with_reducible exact Mc (by assumption) (by assumption))|(with_reducible exact Ml Y (by assumption) _ rfl)) (first
  |(go_at_call 191;refine(HQ.out _ (Fj (by assumption))).mono ?_;rintro e w4 ⟨rfl,ae⟩;have ak:=ae.out)
  |(go_at_call 230;refine(HU.out _).mono ?_;rintro e w5 ⟨rfl,af⟩;have ag:=af.out;obtain⟨ad,ah⟩:=Az (by assumption) ag;obtain⟨q0,q1,q2,V⟩:=ah.out;obtain⟨⟨u0,u1,u2⟩,f0,f1,f2⟩:=Zz V;have lr:=Qq V;have ai:=hid V;clear V))
 obtain⟨⟨r0,r1,r2⟩,_⟩:=Zz (Ym (v0:=.bool x1) (v1:=.bool x2) (v2:=.bool x3) ai.out)
 go_wp2_with fail
 refine bodyPost_ret (v:=.agg #[.bool x1,.bool x2,.bool x3]) (by simp[results,Tryz.results191,go_sem,r0,r1,r2]) rfl ?_;exact⟨rfl,hid (ad.out.grown (Xv _ _ _ _ _) ad.out.size (fun g e=>by have:=Option.some.inj e;omega))⟩
theorem y1o(B:Nat)(y1 y2 y3:Bool)(T:zA)(a b c d:Int)(g o t:Nat)(p:Int)(y:Int)(A:zA)(a1 D c1 E:Int)(G:Option Addr)(I U:Nat)(p1:Int)(w:World)(Y:g<w.heap.size)(aa:Rc w g o y A a1 D c1 E (.slice G I U) p1)
  (HQ:Hid (∀W:World,zB w W->Calls prog 191 #[.map (some B),.agg (r8 y A a1 D c1 E G I U p1).toArray] W fun e w'=>e=.returned (ov (y1,y2,y3))/\Hid (zB W w'))):
  Calls prog 191 #[.map (some B),.agg #[zI 11,zT T,zU a,zU b,zU c,zU d,.slice (some ⟨g,o,none⟩) 1 t,zI p]] w fun e w'=>e=.returned (ov (Zy 11 (y1,y2,y3)))/\Hid (zB w w'):=by
 obtain⟨h,r⟩:∃h,h=(w.alloc (.cells #[zI 11,zT T,zU a,zU b,zU c,zU d,.slice (some ⟨g,o,none⟩) 1 t,zI p] 81)).alloc (.cells #[.bool false,.bool false,.bool false] 210):=⟨_,rfl⟩;have Z:zB w h:=by rw[r];exact((Below.refl _ w).alloc L0q _).alloc (by simp) _
 have ab:Hid (h.heap[w.heap.size+1]? =some (.cells #[.bool false,.bool false,.bool false] 210)):=by rw[r];exact Qx _ _ (by simp)
 obtain⟨⟨n0,-,-,-,-,-,n6,-⟩,-⟩:=Qg (show h.heap[w.heap.size]? =_ by rw[r];exact(Below.heap_alloc _ _ _ (by simp)).trans (Qx w _ rfl));obtain⟨z0,z1,z2,z3,z4,z5,z6,z7⟩:=aa.below Z Y;have S0:(fun W:World=>Hid (zB w W)/\Hid (∃v0 v1 v2:Value,W.heap[w.heap.size+1]? =some (.cells #[v0,v1,v2] 210))/\zC W w.heap.size 0 (zI 11)/\zC W w.heap.size 6 (.slice (some ⟨g,o,none⟩) 1 t)/\zC W g o (zI y)/\zC W g (o+1) (zT A)/\zC W g (o+2) (zU a1)/\zC W g (o+3) (zU D)/\zC W g (o+4) (zU c1)/\zC W g (o+5) (zU E)/\zC W g (o+6) (.slice G I U)/\zC W g (o+7) (zI p1)) h.drew:=⟨hid Z.drew,hid ⟨_,_,_,ab.out⟩,n0,n6,z0,z1,z2,z3,z4,z5,z6,z7⟩;have HU:=hid (y0N y1 y2 y3);have hl:w.heap.size<h.heap.size:=by rw[r];simp;omega
 have aj:g<h.heap.size:=Nat.lt_trans Y hl;have ac:=hid r;obtain⟨⟨x1,x2,x3⟩,hx⟩:∃x,x=Zy 11 (y1,y2,y3):=⟨_,rfl⟩;rw[<-hx]at HU ⊢;clear r Z ab aa hx n0 n6 z0 z1 z2 z3 z4 z5 z6 z7;dsimp only[ov,r8]at HQ HU;go_enter func191,ntmps191
 go_wp2_with fail
 rw[<-ac.out];clear ac
 go_region_held3 (fun W:World=>Hid (zB w W)/\Hid (∃v0 v1 v2:Value,W.heap[w.heap.size+1]? =some (.cells #[v0,v1,v2] 210))/\zC W w.heap.size 0 (zI 11)/\zC W w.heap.size 6 (.slice (some ⟨g,o,none⟩) 1 t)/\zC W g o (zI y)/\zC W g (o+1) (zT A)/\zC W g (o+2) (zU a1)/\zC W g (o+3) (zU D)/\zC W g (o+4) (zU c1)/\zC W g (o+5) (zU E)/\zC W g (o+6) (.slice G I U)/\zC W g (o+7) (zI p1)) (first|(with_reducible assumption)|(with_reducible exact Mc (by assumption) (by assumption))|(with_reducible exact Ml Y (by assumption) _ rfl)) (first
  |(go_at_call 191;refine(HQ.out _ (Fj (by assumption))).mono ?_;rintro e w4 ⟨rfl,ae⟩;have ak:=ae.out)
  |(go_at_call 230;refine(HU.out _).mono ?_;rintro e w5 ⟨rfl,af⟩;have ag:=af.out;obtain⟨ad,ah⟩:=Az (by assumption) ag;obtain⟨q0,q1,q2,V⟩:=ah.out;obtain⟨⟨u0,u1,u2⟩,f0,f1,f2⟩:=Zz V;have lr:=Qq V;have ai:=hid V;clear V))
 obtain⟨⟨r0,r1,r2⟩,_⟩:=Zz (Ym (v0:=.bool x1) (v1:=.bool x2) (v2:=.bool x3) ai.out)
 go_wp2_with fail
 refine bodyPost_ret (v:=.agg #[.bool x1,.bool x2,.bool x3]) (by simp[results,Tryz.results191,go_sem,r0,r1,r2]) rfl ?_;exact⟨rfl,hid (ad.out.grown (Xv _ _ _ _ _) ad.out.size (fun g e=>by have:=Option.some.inj e;omega))⟩
theorem y1p(B:Nat)(y1 y2 y3:Bool)(T:zA)(a b c d:Int)(g o t:Nat)(p:Int)(y:Int)(A:zA)(a1 D c1 E:Int)(G:Option Addr)(I U:Nat)(p1:Int)(w:World)(Y:g<w.heap.size)(aa:Rc w g o y A a1 D c1 E (.slice G I U) p1)
  (HQ:Hid (∀W:World,zB w W->Calls prog 191 #[.map (some B),.agg (r8 y A a1 D c1 E G I U p1).toArray] W fun e w'=>e=.returned (ov (y1,y2,y3))/\Hid (zB W w'))):
  Calls prog 191 #[.map (some B),.agg #[zI 12,zT T,zU a,zU b,zU c,zU d,.slice (some ⟨g,o,none⟩) 1 t,zI p]] w fun e w'=>e=.returned (ov (Zy 12 (y1,y2,y3)))/\Hid (zB w w'):=by
 obtain⟨h,r⟩:∃h,h=(w.alloc (.cells #[zI 12,zT T,zU a,zU b,zU c,zU d,.slice (some ⟨g,o,none⟩) 1 t,zI p] 81)).alloc (.cells #[.bool false,.bool false,.bool false] 210):=⟨_,rfl⟩;have Z:zB w h:=by rw[r];exact((Below.refl _ w).alloc L0q _).alloc (by simp) _
 have ab:Hid (h.heap[w.heap.size+1]? =some (.cells #[.bool false,.bool false,.bool false] 210)):=by rw[r];exact Qx _ _ (by simp)
 obtain⟨⟨n0,-,-,-,-,-,n6,-⟩,-⟩:=Qg (show h.heap[w.heap.size]? =_ by rw[r];exact(Below.heap_alloc _ _ _ (by simp)).trans (Qx w _ rfl));obtain⟨z0,z1,z2,z3,z4,z5,z6,z7⟩:=aa.below Z Y;have S0:(fun W:World=>Hid (zB w W)/\Hid (∃v0 v1 v2:Value,W.heap[w.heap.size+1]? =some (.cells #[v0,v1,v2] 210))/\zC W w.heap.size 0 (zI 12)/\zC W w.heap.size 6 (.slice (some ⟨g,o,none⟩) 1 t)/\zC W g o (zI y)/\zC W g (o+1) (zT A)/\zC W g (o+2) (zU a1)/\zC W g (o+3) (zU D)/\zC W g (o+4) (zU c1)/\zC W g (o+5) (zU E)/\zC W g (o+6) (.slice G I U)/\zC W g (o+7) (zI p1)) h.drew:=⟨hid Z.drew,hid ⟨_,_,_,ab.out⟩,n0,n6,z0,z1,z2,z3,z4,z5,z6,z7⟩;have HU:=hid (y0O y1 y2 y3);have hl:w.heap.size<h.heap.size:=by rw[r];simp;omega
 have aj:g<h.heap.size:=Nat.lt_trans Y hl;have ac:=hid r;obtain⟨⟨x1,x2,x3⟩,hx⟩:∃x,x=Zy 12 (y1,y2,y3):=⟨_,rfl⟩;rw[<-hx]at HU ⊢;clear r Z ab aa hx n0 n6 z0 z1 z2 z3 z4 z5 z6 z7;dsimp only[ov,r8]at HQ HU;go_enter func191,ntmps191
 go_wp2_with fail
 rw[<-ac.out];clear ac
 go_region_held3 (fun W:World=>Hid (zB w W)/\Hid (∃v0 v1 v2:Value,W.heap[w.heap.size+1]? =some (.cells #[v0,v1,v2] 210))/\zC W w.heap.size 0 (zI 12)/\zC W w.heap.size 6 (.slice (some ⟨g,o,none⟩) 1 t)/\zC W g o (zI y)/\zC W g (o+1) (zT A)/\zC W g (o+2) (zU a1)/\zC W g (o+3) (zU D)/\zC W g (o+4) (zU c1)/\zC W g (o+5) (zU E)/\zC W g (o+6) (.slice G I U)/\zC W g (o+7) (zI p1)) (first|(with_reducible assumption)|(with_reducible exact Mc (by assumption) (by assumption))|(with_reducible exact Ml Y (by assumption) _ rfl)) (first
  |(go_at_call 191;refine(HQ.out _ (Fj (by assumption))).mono ?_;rintro e w4 ⟨rfl,ae⟩;have ak:=ae.out)
  |(go_at_call 230;refine(HU.out _).mono ?_;rintro e w5 ⟨rfl,af⟩;have ag:=af.out;obtain⟨ad,ah⟩:=Az (by assumption) ag;obtain⟨q0,q1,q2,V⟩:=ah.out;obtain⟨⟨u0,u1,u2⟩,f0,f1,f2⟩:=Zz V;have lr:=Qq V;have ai:=hid V;clear V))
 obtain⟨⟨r0,r1,r2⟩,_⟩:=Zz (Ym (v0:=.bool x1) (v1:=.bool x2) (v2:=.bool x3) ai.out)
 go_wp2_with fail
 refine bodyPost_ret (v:=.agg #[.bool x1,.bool x2,.bool x3]) (by simp[results,Tryz.results191,go_sem,r0,r1,r2]) rfl ?_;exact⟨rfl,hid (ad.out.grown (Xv _ _ _ _ _) ad.out.size (fun g e=>by have:=Option.some.inj e;omega))⟩
theorem Kw{w:World}{s0:Nat}{s:List RT}{G:Option Addr}(aa:s0<=w.heap.size)(U:s.isEmpty=true∨(s.isEmpty=false/\∃g o,G=some ⟨g,o,none⟩/\g<s0/\Qv s<=maxLen/\Zq w s0 g o s))(j:Nat)(I:j<s.length):
  ∃g o,G=some ⟨g,o,none⟩/\g<w.heap.size/\∃h r a1 t c1 y A D E p1,Rc w g (o+j*8) h r a1 t c1 y (.slice A D E) p1/\Qy w s0 s[j] (r8 h r a1 t c1 y A D E p1):=by
 rcases U with V|⟨_,g,o,Y,h3,_,Z⟩
 ·cases s
  ·simp at I
  ·simp at V
 ·obtain⟨h,r,a1,t,c1,y,A,D,E,p1,h6,h7⟩:=Mk Z j I
  exact⟨g,o,Y,by omega,h,r,a1,t,c1,y,A,D,E,p1,h7,h6⟩
theorem Ep{w:World}{s0:Nat}{s:List RT}{h:Option Addr}(r:s.isEmpty=true∨(s.isEmpty=false/\∃g o,h=some ⟨g,o,none⟩/\g<s0/\Qv s<=maxLen/\Zq w s0 g o s)):Qv s<=9223372036854775807:=by
 rcases r with t|⟨_,g,o,_,_,y,_⟩
 ·cases s
  ·rw[Qv];omega
  ·simp at t
 ·unfold maxLen at y
  omega
theorem Sj{k:Int}{T:zA}{a b c d:Int}{n:Nat}(h:okN k T a b c d n=true):(k=1∨k=2∨k=3∨k=4∨k=5∨k=6∨k=7)∨((k=8∨k=9∨k=10∨k=11∨k=12)/\n=1):=by
 unfold okN at h;by_cases h1:k=1∨k=4
 ·omega
 rw[if_neg h1]at h;by_cases h2:k=2
 ·omega
 rw[if_neg h2]at h;by_cases h3:k=3
 ·omega
 rw[if_neg h3]at h;by_cases h5:k=5
 ·omega
 rw[if_neg h5]at h;by_cases h6:k=6∨k=7
 ·omega
 rw[if_neg h6]at h;by_cases h8:8<=k/\k<=12
 ·rw[if_pos h8,Bool.and_eq_true,Bool.and_eq_true]at h
  have:=h.2.2;simp at this;refine .inr ⟨by omega,by omega⟩
 ·rw[if_neg h8]at h
  cases h
theorem z3g(B nn:Nat)(K:zA->Ot):∀(Q:Nat) (t:RT),SizeOf.sizeOf t<Q->∀(cs:List Value) (w:World) (s0:Nat),Qy w s0 t cs->s0<=w.heap.size->RtZ t->okT t=true->Nm w B nn K->Calls prog 191 #[.map (some B),.agg cs.toArray] w fun e w'=>e=.returned (ov (ofT K t))/\Hid (zB w w')
 |0,t,h=>by omega
 |Q+1,.mk k T a b c d s p,h=>by
  intro cs w s0 ht aa hz ab hM;rw[Qy]at ht;obtain⟨so,D,rfl,ad⟩:=ht;rw[RtZ]at hz;rw[okT,Bool.and_eq_true]at ab;have hT:=hz.1;have hl:=Ep ad;have hB:=hM.lt;have ac:∀j (hj:j<s.length),∃g o,so=some ⟨g,o,none⟩/\g<w.heap.size/\∃E G a1 I c1 U V Y Z p1,Rc w g (o+j*8) E G a1 I c1 U (.slice V Y Z) p1/\∀W:World,zB w W->Calls prog 191 #[.map (some B),.agg (r8 E G a1 I c1 U V Y Z p1).toArray] W fun e w'=>e=.returned (ov (ofT K s[j]))/\Hid (zB W w'):=fun j hj=>by
   obtain⟨g,o,h1,h2,E,G,a1,I,c1,U,V,Y,Z,p1,A,h4⟩:=Kw aa ad j hj;refine⟨g,o,h1,h2,E,G,a1,I,c1,U,V,Y,Z,p1,A,fun W hW=> ?_⟩;refine z3g B nn K Q s[j] ?_ _ W s0 (h4.below (hW.mono aa)) (Nat.le_trans aa hW.size) (hz.2.get j hj) (Ew ab.2 j hj) (hM.below hW hB);have h1:=List.sizeOf_lt_of_mem (List.getElem_mem hj);simp only[RT.mk.sizeOf_spec]at h;omega
  rw[ofT];dsimp only[r8];rcases Sj ab.1 with(rfl|rfl|rfl|rfl|rfl|rfl|rfl)|⟨hk,h1⟩
  ·exact y0P (some B) T a b c d so _ D p w
  ·by_cases h0:T.size=0
   ·have e:T={data:=#[]}:=by
     apply ByteArray.ext;exact Array.eq_empty_of_size_eq_zero h0
    rw[if_neg (by decide),if_pos rfl,if_pos h0];exact y0R (some B) T a b c d so _ D p w e
   ·rw[if_neg (by decide),if_pos rfl,if_neg h0]
    refine y0S (some B) T a b c d so _ D p w ?_;cases e:T.toList with
    |nil=>
     exfalso;apply h0;have:=congrArg List.length e;rw[ByteArray.toList_eq]at this;simpa using this
    |cons x r=>rfl
  ·rw[if_neg (by decide),if_neg (by decide),if_pos rfl]
   have A:=y1f (some B) T a b c d so (Qv s) D p w;by_cases hz:a=0/\b=0/\c=0/\d=0
   ·obtain⟨rfl,rfl,rfl,rfl⟩:=hz
    exact A
   ·rw[if_neg hz]
    rw[if_neg (by intro e;exact hz (by unfold zc at e;simpa using e))]at A;exact A
  ·exact y0Q (some B) T a b c d so _ D p w
  ·exact y1e B nn K T a b c d so _ D p w hM hT
  ·obtain⟨⟨x1,x2,x3⟩,hx⟩:∃x,x=ofS K (true,false,false) s:=⟨_,rfl⟩
   rw[if_neg (by decide),if_neg (by decide),if_neg (by decide),if_neg (by decide),if_neg (by decide),if_pos rfl,<-hx];refine y1j B x1 x2 x3 T a b c d so _ D p w fun W hW=> ?_
   rw[hx];refine y1g B K so _ D s W hl (Zm s) fun j hj=> ?_
   obtain⟨g,o,h1,h2,E,G,a1,I,c1,U,V,Y,Z,p1,A,h4⟩:=ac j hj;exact⟨g,o,h1,Nat.lt_of_lt_of_le h2 hW.size,E,G,a1,I,c1,U,V,Y,Z,p1,A.below hW h2,fun W2 h5=>h4 W2 (hW.trans (h5.mono hW.size))⟩
  ·obtain⟨⟨x1,x2,x3⟩,hx⟩:∃x,x=ofA K (false,false,true) s:=⟨_,rfl⟩
   rw[if_neg (by decide),if_neg (by decide),if_neg (by decide),if_neg (by decide),if_neg (by decide),if_neg (by decide),if_pos rfl,<-hx];refine y1k B x1 x2 x3 T a b c d so _ D p w fun W hW=> ?_
   rw[hx];refine y1i B K so _ D s W hl (Zm s) fun j hj=> ?_
   obtain⟨g,o,h1,h2,E,G,a1,I,c1,U,V,Y,Z,p1,A,h4⟩:=ac j hj;exact⟨g,o,h1,Nat.lt_of_lt_of_le h2 hW.size,E,G,a1,I,c1,U,V,Y,Z,p1,A.below hW h2,fun W2 h5=>h4 W2 (hW.trans (h5.mono hW.size))⟩
  ·rw[Zm]at h1
   obtain⟨u,rfl⟩:∃u,s=[u]:=by
    cases s with
    |nil=>simp at h1
    |cons u r=>cases r with
     |nil=>exact⟨u,rfl⟩
     |cons v r=>simp at h1
   obtain⟨g,o,rfl,h2,E,G,a1,I,c1,U,V,Y,Z,p1,A,h4⟩:=ac 0 (by simp);rw[Nat.zero_mul,Nat.add_zero]at A;obtain⟨⟨y1,y2,y3⟩,hy⟩:∃y,y=ofT K u:=⟨_,rfl⟩;have H4:Hid (∀W:World,zB w W->Calls prog 191 #[.map (some B),.agg (r8 E G a1 I c1 U V Y Z p1).toArray] W fun e w'=>e=.returned (ov (y1,y2,y3))/\Hid (zB W w')):=fun W hW=>by rw[hy];exact h4 W hW
   have eh:ofH K [u]=(y1,y2,y3):=by rw[ofH,hy]
   rw[eh];rcases hk with rfl|rfl|rfl|rfl|rfl
   ·exact y1l B y1 y2 y3 T a b c d g o D p E G a1 I c1 U V Y Z p1 w h2 A H4
   ·exact y1m B y1 y2 y3 T a b c d g o D p E G a1 I c1 U V Y Z p1 w h2 A H4
   ·exact y1n B y1 y2 y3 T a b c d g o D p E G a1 I c1 U V Y Z p1 w h2 A H4
   ·exact y1o B y1 y2 y3 T a b c d g o D p E G a1 I c1 U V Y Z p1 w h2 A H4
   ·exact y1p B y1 y2 y3 T a b c d g o D p E G a1 I c1 U V Y Z p1 w h2 A H4
theorem z3h(B o:Nat)(K:zA->Ot)(t:RT)(h:List Value)(w:World)(s0:Nat)(r:Qy w s0 t h)(y:s0<=w.heap.size)(A:RtZ t)(D:okT t=true)(E:Nm w B o K):Calls prog 191 #[.map (some B),.agg h.toArray] w fun e w'=>e=.returned (ov (ofT K t))/\Hid (zB w w'):=
 z3g B o K _ t (Nat.lt_succ_self _) h w s0 r y A D E
end Go.Proofs.YtgnkkgcgbeianaaGreatDoor
