/- Lemmas for the last text. Conditions: those that each names. -/
import Derived.Test.YtmelafeingcgnaaGreatDoorVO19ToU2
import Derived.Test.YtmelafeingcgnaaGreatDoorVF1ToO4
import Derived.Deep.RegionHeld3
import Derived.ProofKit
set_option linter.unusedVariables false
set_option maxRecDepth 100000
set_option maxHeartbeats 16000000
namespace Go.Proofs.YtmelafeingcgnaaGreatDoor
open Go.Proofs.Tryz
open Go.RowKit Go.Shelf
theorem y1b(m:Option Nat)(T:zA)(a b c d:Int)(r:Option Addr)(n y:Nat)(p:Int)(w:World):Calls prog 203 #[.map m,.agg #[zI 1,zT T,zU a,zU b,zU c,zU d,.slice r n y,zI p]] w fun e w'=>e=.returned (ov (true,false,false))/\Hid (zB w w'):=by
 have A:Hid (∀h o:Obj,zB w ((w.alloc h).alloc o)):=fun h o=>((Below.refl _ w).alloc L0q h).alloc (by simp) o
 go_enter func203,ntmps203
 go_wp2_with fail
 refine bodyPost_ret (v:=.agg #[.bool true,.bool false,.bool false]) (by simp[results,Tryz.results203,go_sem]) rfl ?_;exact⟨rfl,hid (A.out _ _)⟩
theorem y1c(m:Option Nat)(T:zA)(a b c d:Int)(r:Option Addr)(n y:Nat)(p:Int)(w:World):Calls prog 203 #[.map m,.agg #[zI 4,zT T,zU a,zU b,zU c,zU d,.slice r n y,zI p]] w fun e w'=>e=.returned (ov (false,true,true))/\Hid (zB w w'):=by
 have A:Hid (∀h o:Obj,zB w ((w.alloc h).alloc o)):=fun h o=>((Below.refl _ w).alloc L0q h).alloc (by simp) o
 go_enter func203,ntmps203
 go_wp2_with fail
 refine bodyPost_ret (v:=.agg #[.bool false,.bool true,.bool true]) (by simp[results,Tryz.results203,go_sem]) rfl ?_;exact⟨rfl,hid (A.out _ _)⟩
theorem y1d(m:Option Nat)(T:zA)(a b c d:Int)(r:Option Addr)(n y:Nat)(p:Int)(w:World)(A:T={data:=#[]}):Calls prog 203 #[.map m,.agg #[zI 2,zT T,zU a,zU b,zU c,zU d,.slice r n y,zI p]] w fun e w'=>e=.returned (ov (true,false,false))/\Hid (zB w w'):=by
 subst A;have D:Hid (∀h o:Obj,zB w ((w.alloc h).alloc o)):=fun h o=>((Below.refl _ w).alloc L0q h).alloc (by simp) o
 go_enter func203,ntmps203
 go_wp2_with fail
 refine bodyPost_ret (v:=.agg #[.bool true,.bool false,.bool false]) (by simp[results,Tryz.results203,go_sem]) rfl ?_;exact⟨rfl,hid (D.out _ _)⟩
theorem y1e(m:Option Nat)(T:zA)(a b c d:Int)(r:Option Addr)(n y:Nat)(p:Int)(w:World)(D:T.toList.isEmpty=false):Calls prog 203 #[.map m,.agg #[zI 2,zT T,zU a,zU b,zU c,zU d,.slice r n y,zI p]] w fun e w'=>e=.returned (ov (false,true,true))/\Hid (zB w w'):=by
 have A:Hid (∀h o:Obj,zB w ((w.alloc h).alloc o)):=fun h o=>((Below.refl _ w).alloc L0q h).alloc (by simp) o
 go_enter func203,ntmps203
 go_wp2_with fail
 refine bodyPost_ret (v:=.agg #[.bool false,.bool true,.bool true]) (by simp[results,Tryz.results203,go_sem]) rfl ?_;exact⟨rfl,hid (A.out _ _)⟩
open Go.Maps
def dO(x:Ot):DataW Unit:=.agg [.lit (.bool x.1),.lit (.bool x.2.1),.lit (.bool x.2.2)]
def oEl(v:Value):Option (DataW Unit×List MemPlace):=match v with
 | .agg cs=>match cs.toList with
   |[.bool a,.bool b,.bool c]=>some (dO (a,b,c),[])
   |_=>none
 |_=>none
theorem y1f{x y:Ot}(h:dO x=dO y):x=y:=by
 obtain⟨a,b,c⟩:=x;obtain⟨d,e,f⟩:=y;simp only[dO,DataW.agg.injEq,List.cons.injEq,DataW.lit.injEq,Lit.bool.injEq,and_true]at h;obtain⟨rfl,rfl,rfl⟩:=h;rfl
theorem z3c(x:Ot):oEl (ov x)=some (dO x,[]):=rfl
theorem y1g{v:Value}{x:Ot}{r:List MemPlace}(h:oEl v=some (dO x,r)):v=ov x:=by
 unfold oEl at h;split at h
 ·rename_i y
  split at h
  ·rename_i a b c o
   have e:=y1f (Prod.mk.inj (Option.some.inj h)).1;subst e;obtain⟨l⟩:=y;simp only at o;subst o;rfl
  ·cases h
 ·cases h
theorem y1h(w:World):(zeroValue 264).run prog w=.ok (ov (false,false,false)) w:=by kernel_rfl
theorem z3d:Tryz.prog.underlying 293=some (.map 9 264):=by kernel_rfl
def Nm(W:World)(B:Nat)(n:Nat)(K:zA->Ot):Prop:=∃D:DataW Unit,W.ownsMap prog 9 oEl B n D/\∀s,D.atKey (kls s) (dO (false,false,false))=dO (K s)
theorem Nm.made(w:World):Nm (w.alloc (.map #[] 0)) w.heap.size 0 z0O:=⟨.map [],World.ownsMap_made w _ _ _,fun s=>rfl⟩
theorem Nm.kept{W W':World}{B n:Nat}{K:zA->Ot}{row:Option Nat}(h:Nm W B n K)(o:W.grownBy W' row)(r:some B≠row):Nm W' B n K:=by
 obtain⟨D,y,A⟩:=h;exact⟨D,y.kept o r,A⟩
theorem Nm.below{W W':World}{B n base:Nat}{K:zA->Ot}(h:Nm W B n K)(o:Below base W W')(r:B<base):Nm W' B n K:=by
 obtain⟨D,⟨y,A,E,G,U,V⟩,Y⟩:=h;exact⟨D,⟨y,A,(o.block B r).trans E,G,U,V⟩,Y⟩
theorem Nm.look{W:World}{B n:Nat}{K:zA->Ot}(h:Nm W B n K){s:zA}(r:s.size<=maxLen):(Instr.lookup 293 (.map (some B)) (zT s) false).run prog W=.ok (ov (K s)) W:=by
 obtain⟨D,y,A⟩:=h;obtain⟨v,G,E,o⟩:=y.lookup Fc z3d (y1h W) (z3c (false,false,false)) (Fl r);rw[A s]at o;rw[E,y1g o]
theorem Nm.put{W:World}{B n:Nat}{K:zA->Ot}(h:Nm W B n K){s:zA}(r:s.size<=maxLen)(x:Ot)(y:n<maxLen):∃W',(Instr.mapUpdate 293 (.map (some B)) (zT s) (ov x)).run prog W=.ok () W'/\Nm W' B (n+1) (Jk K s x)/\W.grownBy W' (some B):=by
 obtain⟨D,o,A⟩:=h;obtain⟨W',E,G,U⟩:=o.update Fc z3d y (Fl r) (z3c x);refine⟨W',E,⟨_,G,fun t=> ?_⟩,U⟩;unfold Jk;by_cases e:t=s
 ·subst e
  rw[if_pos rfl,Maps.atKey_put_same o.isMap (Pp _)]
 ·rw[if_neg e,Maps.atKey_put_other (fun h=>e (z2n h)),A t]
section
section
variable {P:Program} {md:Region.Mode} {ops:Array Oper} {Q:Exit->Act->World->Prop} {S:World->Prop} {z:Nat}
def Xd(P:Program)(md:Region.Mode)(ops:Array Oper)(Q:Exit->Act->World->Prop)(S:World->Prop)(z:Nat):Nat->Array Bool->Act->World->Prop
 |0,l,a,w=>Region.ready md ops l=[]/\Q .normal a w
 |n+1,l,a,w=>(Region.ready md ops l=[]->Q .normal a w)/\∀i∈Region.ready md ops l,wpOp P ops Q i (fun a' w'=>(i≠z->S w')/\Xd P md ops Q S z n (l.setIfInBounds i true) a' w') a w
theorem z3e:∀(n:Nat) (l:Array Bool) (a:Act) (w:World),Xd P md ops Q S z n l a w->wpAny P md ops Q n l a w
 |0,_,_,_,h=>h
 |n+1,_,_,_,h=>⟨h.1,fun i o=>wpOp_mono (fun r w' k=>z3e n _ r w' k.2) (h.2 i o)⟩
def Mh(md:Region.Mode)(ops:Array Oper)(z i:Nat):Bool:=match ops[z]? with
 |some o=>o.after.any fun e=>Region.binds md e&&e.on == i
 |none=>true
theorem y1i{i:Nat}{l:Array Bool}(h:Mh md ops z i=true)(D:i∈Region.ready md ops l):z ∉ Region.ready md ops l:=fun E=>by
 obtain⟨_,Y,G,U⟩:=mem_ready.1 E;unfold Mh at h;rw[G]at h;simp only[Array.any_eq_true']at h;obtain⟨e,V,r⟩:=h;rw[Bool.and_eq_true,beq_iff_eq]at r;have o:=U e V r.1;have A:=(mem_ready.1 D).1;rw[r.2]at o;rcases Nat.lt_or_ge i l.size with y|y
 ·simp[y]at A o;rw[A]at o;cases o
 ·simp[Array.getElem?_eq_none y]at o
theorem y1j{i:Nat}{oi:Oper}{v:Value}(Z:ops[i]? =some oi)(ab:∀(j:Nat) (o:Oper) D b,ops[j]? =some o->o.op≠.select D b)(hz:Mh md ops z i=true)
  (hQ:∀c a w,Q (.panic c) (a.put oi.dst v) w->Q (.panic c) a w):
  ∀(n:Nat) (l:Array Bool) (a:Act) (w:World),
   (∀j y,ops[j]? =some y->j≠i->l.getD j true=false->(∀e∈y.after,Region.binds md e=true->e.on≠i)->oi.apart ops y=true)->
   i∈Region.ready md ops l->YieldsIf P ops S oi v a->S w->
   Xd P md ops Q S z n (l.setIfInBounds i true) (a.put oi.dst v) w->Xd P md ops Q S z (n+1) l a w:=by
 intro n
 induction n with
 |zero=>
  intro l a w _ r V E H;refine⟨fun h=>(by rw[h]at r;cases r),fun j G=> ?_⟩;by_cases hji:j=i
  ·subst hji;exact V.wpOp Z E ⟨fun _=>E,H⟩
  ·have:=ready_mono G hji
   rw[H.1]at this;cases this
 |succ n ih=>
  intro l a w ac r V E H;refine⟨fun h=>(by rw[h]at r;cases r),fun j G=> ?_⟩;by_cases hji:j=i
  ·subst hji;exact V.wpOp Z E ⟨fun _=>E,H⟩
  ·have A:=H.2 j (ready_mono G hji)
   have ad:j≠z:=fun e=>y1i hz r (e▸G)
   obtain⟨ae,y,aa,ag⟩:=mem_ready.1 G;have ah:∀e∈y.after,Region.binds md e=true->e.on≠i:=fun e he hb ai=>by
    have A:=ag e he hb;have h0:=(mem_ready.1 r).1;rw[ai]at A;rcases Nat.lt_or_ge i l.size with h'|h'
    ·simp[h']at h0 A;rw[h0]at A;cases A
    ·simp[Array.getElem?_eq_none h']at A
   have h2:=wpOp_putIf aa (ac j y aa hji ae ah) (fun D b=>ab i oi D b Z) (fun D b=>ab j y D b aa) hQ V A;have aj:∀k U,ops[k]? =some U->k≠i->(l.setIfInBounds j true).getD k true=false->
     (∀e∈U.after,Region.binds md e=true->e.on≠i)->oi.apart ops U=true:=fun k U hk ak af al=>by
    refine ac k U hk ak ?_ al;by_cases hjk:j=k
    ·subst hjk;exact ae
    ·rw[getD_set_ne true hjk]at af;exact af
   refine wpOp_mono (fun a' w' Y=>⟨fun _=>Y.2.1 ad,ih (l.setIfInBounds j true) a' w' aj (ready_mono r (Ne.symm hji)) Y.1 (Y.2.1 ad) ?_⟩) h2;rw[Array.setIfInBounds_comm _ _ hji];exact Y.2.2
theorem Kw{i:Nat}{oi:Oper}{v:Value}{n:Nat}{l:Array Bool}{a:Act}{w:World}(r:ops[i]? =some oi)
  (y:Region.noSelect ops=true)(o:(Region.free md ops l i&&Mh md ops z i)=true)(A:(Region.ready md ops l).contains i=true)
  (D:∀c a w,Q (.panic c) (a.put oi.dst v) w->Q (.panic c) a w)(E:YieldsIf P ops S oi v a)(G:S w)
  (h:Xd P md ops Q S z n (l.setIfInBounds i true) (a.put oi.dst v) w):Xd P md ops Q S z (n+1) l a w:=by
 rw[Bool.and_eq_true]at o;exact y1j r (Region.noSelect_spec y) o.2 D n l a w (Region.free_spec r o.1) (by simpa using A) E G h
def Jv:List Oper->Nat->Option Oper
 |[],_=>none
 |o::_,0=>some o
 |_::l,n+1=>Jv l n
theorem z3f:∀(l:List Oper) (i:Nat),Jv l i=l[i]?
 |[],_=>by simp[Jv]
 |_::_,0=>by simp[Jv]
 |_::l,n+1=>by simp[Jv,z3f l n]
theorem Md{ops:Array Oper}{i:Nat}{o:Oper}(h:Jv ops.toList i=some o):ops[i]? =some o:=by
 rw[z3f]at h;simpa using h
theorem Qz(i:Nat){oi:Oper}{v:Value}{n:Nat}{l l':Array Bool}{a o:Act}{w:World}(r:S w)(h:Xd P md ops Q S z n l' o w)
  (y:Jv ops.toList i=some oi:=by exact rfl)
  (A:Region.noSelect ops=true:=by kernel_rfl)(D:(Region.free md ops l i&&Mh md ops z i)=true:=by kernel_rfl)(E:(Region.ready md ops l).contains i=true:=by kernel_rfl)
  (G:YieldsIf P ops S oi v a:=by first|exact Or.inr ⟨by rfl,rfl⟩|(refine Or.inl ⟨by rfl,?_⟩;intro w U;(try dsimp only at U);go_simp;(try with_reducible rfl)))
  (V:∀c a w,Q (.panic c) (a.put oi.dst v) w->Q (.panic c) a w:=by first|exact fun _ _ _ h=>h|exact fun _ _ _ h=>by cases h.1)
  (hl:l.setIfInBounds i true=l':=by(try simp only[List.setIfInBounds_toArray,List.set_cons_zero,List.set_cons_succ]);exact rfl)
  (ha:a.put oi.dst v=o:=by(try simp only[Act.put,List.setIfInBounds_toArray,List.set_cons_zero,List.set_cons_succ]);exact rfl):Xd P md ops Q S z (n+1) l a w:=
 Kw (Md y) A D E V G r (by rw[hl,ha];exact h)
theorem y1k{i:Nat}{o:Oper}{n:Nat}{l:Array Bool}{a:Act}{w:World}(y:Region.ready md ops l=[i])(E:ops[i]? =some o)
  (h:∀r:Act->World->Prop,Shut (∀a w,S w->Xd P md ops Q S z n (l.setIfInBounds i true) a w->r a w)->if Region.wanted o (yielded ops a.tmps)=true then Oper.wp P o a w r Q else r (a.put o.dst undef) w):Xd P md ops Q S z (n+1) l a w:=by
 refine⟨(fun A=>by rw[y]at A;cases A),fun j D=> ?_⟩;rw[y,List.mem_singleton]at D;subst D;exact wpOp_step E fun r G=>h r fun a w U V=>G a w ⟨fun _=>U,V⟩
theorem y1l{o:Oper}{n:Nat}{l:Array Bool}{a:Act}{w:World}(y:Region.ready md ops l=[z])(hl:Region.ready md ops (l.setIfInBounds z true)=[])(U:ops[z]? =some o)
  (h:∀r:Act->World->Prop,Shut (∀a w,Q .normal a w->r a w)->if Region.wanted o (yielded ops a.tmps)=true then Oper.wp P o a w r Q else r (a.put o.dst undef) w):Xd P md ops Q S z (n+1) l a w:=by
 refine⟨(fun A=>by rw[y]at A;cases A),fun j D=> ?_⟩;rw[y,List.mem_singleton]at D;subst D;refine wpOp_step U fun r V=>h r fun a w E=>V a w ⟨fun Y=>absurd rfl Y,?_⟩
 cases n with
 |zero=>exact⟨hl,E⟩
 |succ n=>exact⟨fun _=>E,fun i G=>by rw[hl]at G;cases G⟩
theorem Qv(i:Nat){o:Oper}{n:Nat}{l:Array Bool}{a:Act}{w:World}
 (h:∀r:Act->World->Prop,Shut (∀a w,S w->Xd P md ops Q S z n (l.setIfInBounds i true) a w->r a w)->if Region.wanted o (yielded ops a.tmps)=true then Oper.wp P o a w r Q else r (a.put o.dst undef) w)
 (y:Jv ops.toList i=some o:=by exact rfl)(A:Region.ready md ops l=[i]:=by kernel_rfl):Xd P md ops Q S z (n+1) l a w:=y1k A (Md y) h
theorem Yj{o:Oper}{n:Nat}{l:Array Bool}{a:Act}{w:World}
 (h:∀r:Act->World->Prop,Shut (∀a w,Q .normal a w->r a w)->if Region.wanted o (yielded ops a.tmps)=true then Oper.wp P o a w r Q else r (a.put o.dst undef) w)
 (y:Jv ops.toList z=some o:=by exact rfl)(A:Region.ready md ops l=[z]:=by kernel_rfl)(hl:Region.ready md ops (l.setIfInBounds z true)=[]:=by kernel_rfl):Xd P md ops Q S z (n+1) l a w:=y1l A hl (Md y) h
theorem Qc{id:Nat}{a:Act}{w:World}(z:Nat)(S:World->Prop)(o:P.follows .mixedOrders=true)(r:S w.drew)
  (h:S w.drew->Xd P .any ops Q S z ops.size (Array.replicate ops.size false) a w.drew):(Code.region id ops true).wp P Q a w:=
 wp_region_any o (z3e _ _ _ _ (h r))
end
end
theorem Nm.lt{W:World}{B n:Nat}{K:zA->Ot}(h:Nm W B n K):B<W.heap.size:=by
 obtain⟨D,o,_⟩:=h;exact o.lt
theorem z3g(K:zA->Ot)(t:RT):∀(l:List RT) (x:Ot),ofS K x (l++[t])=Jq (ofS K x l) (ofT K t)
 |[],x=>by rw[List.nil_append,ofS,ofS,ofS]
 |a::r,x=>by rw[List.cons_append,ofS,ofS,z3g K t r]
theorem z3h(K:zA->Ot)(t:RT):∀(l:List RT) (x:Ot),ofA K x (l++[t])=Uf (ofA K x l) (ofT K t)
 |[],x=>by rw[List.nil_append,ofA,ofA,ofA]
 |a::r,x=>by rw[List.cons_append,ofA,ofA,z3h K t r]
theorem y1m(K:zA->Ot)(x:Ot)(s:List RT)(j:Nat)(h:j<s.length):ofS K x (s.take (j+1))=Jq (ofS K x (s.take j)) (ofT K s[j]):=by
 rw[show s.take (j+1)=s.take j++[s[j]] by simp,z3g]
theorem y1n(K:zA->Ot)(x:Ot)(s:List RT)(j:Nat)(h:j<s.length):ofA K x (s.take (j+1))=Uf (ofA K x (s.take j)) (ofT K s[j]):=by
 rw[show s.take (j+1)=s.take j++[s[j]] by simp,z3h]
theorem Vx{W:World}{R:Nat}{a b c v0 v1 v2:Value}{t:TypeId}(h:zH W R (.cells #[a,b,c] t)):(((W.setCell ⟨R,0,none⟩ v0).setCell ⟨R,1,none⟩ v1).setCell ⟨R,2,none⟩ v2).heap[R]? =some (.cells #[v0,v1,v2] t):=Qk (Qk (Qk h 0 _) 1 _) 2 _
theorem z3i{w o W W':World}{x1 x2 x3 y1 y2 y3:Bool}(h:Hid (zB w W)/\Hid (W.heap[w.heap.size]? =some (.cells #[.bool false,.bool false,.bool false] 264))/\Hid (W.heap[w.heap.size+1]? =some (.cells #[.bool x1,.bool x2,.bool x3] 264))/\zC W (w.heap.size+1) 0 (.bool x1)/\zC W (w.heap.size+1) 1 (.bool x2)/\zC W (w.heap.size+1) 2 (.bool x3)/\zC W o.heap.size 0 (.bool y1)/\zC W o.heap.size 1 (.bool y2)/\zC W o.heap.size 2 (.bool y3))(r:zB W W'):Hid (zB w W')/\Hid (W'.heap[w.heap.size]? =some (.cells #[.bool false,.bool false,.bool false] 264))/\Hid (W'.heap[w.heap.size+1]? =some (.cells #[.bool x1,.bool x2,.bool x3] 264))/\zC W' (w.heap.size+1) 0 (.bool x1)/\zC W' (w.heap.size+1) 1 (.bool x2)/\zC W' (w.heap.size+1) 2 (.bool x3)/\zC W' o.heap.size 0 (.bool y1)/\zC W' o.heap.size 1 (.bool y2)/\zC W' o.heap.size 2 (.bool y3):=by
 obtain⟨y,A,D,E,G,U,V,Y,Z⟩:=h;have e:∀(a:Addr) (u:Value),W.cell? a=some u->W'.cell? a=some u:=fun a u h=>(r.cell (p:=a) (World.block_lt_of_cell? W _ h)).trans h
 exact⟨hid (y.out.trans (r.mono y.out.size)),hid ((r.block _ (Qq A.out)).trans A.out),hid ((r.block _ (Qq D.out)).trans D.out),e _ _ E,e _ _ G,e _ _ U,e _ _ V,e _ _ Y,e _ _ Z⟩
theorem y1o(W:World)(a b c:Addr)(x y z:Value):(((W.setCell a x).setCell b y).setCell c z).drew=((W.drew.setCell a x).setCell b y).setCell c z:=rfl
theorem y1p{x1 x2 x3 y1 y2 y3 q:Bool}(h:q=suc (y1,y2,y3)):Jq (x1,x2,x3) (y1,y2,y3)=(x1&&y1,x2&&q||x1&&y2,x3||(x1||x2)&&y3):=by rw[h];rfl
theorem y1q(B E:Nat)(K:zA->Ot)(T:zA)(a b c d:Int)(r:Option Addr)(n y:Nat)(p:Int)(w:World)(A:Nm w B E K)(G:T.size<=maxLen):Calls prog 203 #[.map (some B),.agg #[zI 5,zT T,zU a,zU b,zU c,zU d,.slice r n y,zI p]] w fun e w'=>e=.returned (ov (K T))/\Hid (zB w w'):=by
 have U:Hid (∀h o:Obj,zB w ((w.alloc h).alloc o)):=fun h o=>((Below.refl _ w).alloc L0q h).alloc (by simp) o
 have D:=((A.kept (World.grownBy_alloc w (.cells #[zI 5,zT T,zU a,zU b,zU c,zU d,.slice r n y,zI p] 119) none) (by simp)).kept (World.grownBy_alloc _ (.cells #[.bool false,.bool false,.bool false] 264) none) (by simp)).look G;obtain⟨⟨x1,x2,x3⟩,hx⟩:∃x,x=K T:=⟨_,rfl⟩;rw[<-hx]at D ⊢;dsimp only[ov]at D;clear hx A;go_enter func203,ntmps203
 go_wp2_with fail
 refine bodyPost_ret (v:=.agg #[.bool x1,.bool x2,.bool x3]) (by simp[results,Tryz.results203,go_sem]) rfl ?_;exact⟨rfl,hid (U.out _ _)⟩
theorem y1r(m:Option Nat)(T:zA)(a b c d:Int)(A:Option Addr)(n D:Nat)(p:Int)(w:World):Calls prog 203 #[.map m,.agg #[zI 3,zT T,zU a,zU b,zU c,zU d,.slice A n D,zI p]] w fun e w'=>e=.returned (ov (if zc a b c d then(false,false,true)else(false,true,true)))/\Hid (zB w w'):=by
 have r:Hid (∀h o:Obj,zB w ((w.alloc h).alloc o)):=fun h o=>((Below.refl _ w).alloc L0q h).alloc (by simp) o
 have y:∀w:World,(Op.equalIn 10000 63 (.agg #[zU a,zU b,zU c,zU d]) (.agg #[zU 0,zU 0,zU 0,zU 0])).run prog w=.ok (zc a b c d) w:=fun w=>Ym 9998 w a b c d 0 0 0 0
 cases hz:zc a b c d with
 |true=>
  rw[hz]at y;clear hz;go_enter func203,ntmps203
  go_wp2_with fail
  refine bodyPost_ret (v:=.agg #[.bool false,.bool false,.bool true]) (by simp[results,Tryz.results203,go_sem]) rfl ?_;exact⟨rfl,hid (r.out _ _)⟩
 |false=>
  rw[hz]at y;clear hz;go_enter func203,ntmps203
  go_wp2_with fail
  refine bodyPost_ret (v:=.agg #[.bool false,.bool true,.bool true]) (by simp[results,Tryz.results203,go_sem]) rfl ?_;exact⟨rfl,hid (r.out _ _)⟩
theorem y1s(B:Nat)(K:zA->Ot)(so:Option Addr)(n az:Nat)(s:List RT)(w:World)(hn:n<=9223372036854775807)(HN:Hid (n=s.length))
  (HC:Hid (∀j (hj:j<s.length),∃g o,so=some ⟨g,o,none⟩/\g<w.heap.size/\∃V Y a1 Z c1 d1 aa n1 ab p1,Rc w g (o+j*8) V Y a1 Z c1 d1 (.slice aa n1 ab) p1/\
    ∀W:World,zB w W->Calls prog 203 #[.map (some B),.agg (r8 V Y a1 Z c1 d1 aa n1 ab p1).toArray] W fun e w'=>e=.returned (ov (ofT K s[j]))/\Hid (zB W w'))):
  Calls prog 239 #[.map (some B),.slice so n az] w fun e w'=>e=.returned (ov (ofS K (true,false,false) s))/\Hid (zB w w'):=by
 obtain⟨W1,ac⟩:∃W1,W1=(w.alloc (.cells #[.bool false,.bool false,.bool false] 264)).alloc (.cells #[.bool true,.bool false,.bool false] 264):=⟨_,rfl⟩;have aA:Hid (zB w W1):=by rw[ac];exact((Below.refl _ w).alloc L0q _).alloc (by simp) _
 have aB:Hid (W1.heap[w.heap.size]? =some (.cells #[.bool false,.bool false,.bool false] 264)):=by rw[ac];exact(Below.heap_alloc _ _ _ (by simp)).trans (Qx w _ rfl)
 have aC:Hid (W1.heap[w.heap.size+1]? =some (.cells #[.bool true,.bool false,.bool false] 264)):=by rw[ac];exact Qx _ _ (by simp)
 have ap:=hid ac;clear ac;go_enter func239,ntmps239
 go_wp2_with fail
 rw[<-ap.out];clear ap
 go_loopw [12] (fun i wr=>∃j:Nat,i=zI (j:Int)/\j<=n/\Hid (zB w wr)/\Hid (wr.heap[w.heap.size]? =some (.cells #[.bool false,.bool false,.bool false] 264))/\∃x1 x2 x3:Bool,Hid ((x1,x2,x3)=ofS K (true,false,false) (s.take j))/\Hid (wr.heap[w.heap.size+1]? =some (.cells #[.bool x1,.bool x2,.bool x3] 264))) (fun i _=>n-(intOf i).toNat)
 case atStart=>exact⟨0,rfl,Nat.zero_le _,aA,aB,_,_,_,hid (by rw[List.take_zero,ofS]),aC⟩
 case round=>
  obtain⟨j,rfl,hj,E,G,x1,x2,x3,HX,U⟩:=hrel;by_cases hjn:j<n
  ·have aG:(j:Int)<(n:Int):=by omega
   have a0:decide ((j:Int)<(n:Int))=true:=by simp;omega
   have aq:j<s.length:=by rw[<-HN.out];exact hjn
   obtain⟨g,o,rfl,hg,V,Y,a1,Z,c1,d1,aa,n1,ab,p1,ar,au⟩:=HC.out j aq;obtain⟨z0,z1,z2,z3,z4,z5,z6,z7⟩:=ar.below E.out hg;have aD:g<wr.heap.size:=World.block_lt_of_cell? wr _ z0;obtain⟨⟨y1,y2,y3⟩,hy⟩:∃y,y=ofT K s[j]:=⟨_,rfl⟩;have ag:zB w (wr.alloc (.cells #[zI V,zT Y,zU a1,zU Z,zU c1,zU d1,.slice aa n1 ab,zI p1] 119)):=E.out.alloc E.out.size _;have ah:=(Below.refl _ wr).alloc L0q (.cells #[zI V,zT Y,zU a1,zU Z,zU c1,zU d1,.slice aa n1 ab,zI p1] 119);have ai:=hid ((ah.block _ (Qq G.out)).trans G.out);have aj:=hid ((ah.block _ (Qq U.out)).trans U.out);have ak:=hid ag;have HS:=hid (au _ ag);rw[<-hy]at HS;have HY:=hid hy;clear au ar hy ag ah;dsimp only[r8,ov]at HS
   go_wp2_with(first
    |(go_at_call 203;refine HS.out.mono ?_;rintro e A ⟨rfl,ae⟩))
   have al:=hid (ak.out.trans (ae.out.mono ak.out.size));have am:=hid ((ae.out.block _ (Qq ai.out)).trans ai.out);have ao:=hid ((ae.out.block _ (Qq aj.out)).trans aj.out);clear HS ae z0 z1 z2 z3 z4 z5 z6 z7 G U E aD ak ai aj;obtain⟨q,hq⟩:∃q,q=suc (y1,y2,y3):=⟨_,rfl⟩;have aE:Hid (∀W:World,Calls prog 272 #[.agg #[.bool y1,.bool y2,.bool y3]] W fun e w'=>e=.returned (.bool q)/\Hid (zB W w')):=fun W=>by rw[hq];exact Ec y1 y2 y3 W
   have av:Hid (∀W:World,Calls prog 272 #[.agg #[.bool x1,.bool x2,.bool x3]] W fun e w'=>e=.returned (.bool (x1||x2))/\Hid (zB W w')):=fun W=>Ec x1 x2 x3 W
   have HQ:=hid hq;clear hq;have S0:(fun W:World=>Hid (zB w W)/\Hid (W.heap[w.heap.size]? =some (.cells #[.bool false,.bool false,.bool false] 264))/\Hid (W.heap[w.heap.size+1]? =some (.cells #[.bool x1,.bool x2,.bool x3] 264))/\zC W (w.heap.size+1) 0 (.bool x1)/\zC W (w.heap.size+1) 1 (.bool x2)/\zC W (w.heap.size+1) 2 (.bool x3)/\zC W A.heap.size 0 (.bool y1)/\zC W A.heap.size 1 (.bool y2)/\zC W A.heap.size 2 (.bool y3)) (A.alloc (.cells #[.bool y1,.bool y2,.bool y3] 264)).drew:=by
    have hb:=(Below.refl _ A).alloc L0q (.cells #[.bool y1,.bool y2,.bool y3] 264);have h1:=(hb.block _ (Qq ao.out)).trans ao.out;obtain⟨⟨t0,t1,t2⟩,_⟩:=Zz h1;obtain⟨⟨u0,u1,u2⟩,_⟩:=Zz (Qx A (.cells #[.bool y1,.bool y2,.bool y3] 264) rfl);exact⟨hid (al.out.trans (hb.mono al.out.size)).drew,hid ((hb.block _ (Qq am.out)).trans am.out),hid h1,t0,t1,t2,u0,u1,u2⟩
   clear al am ao;cases x1<;>cases x2<;>cases x3<;>cases q<;>(
    simp only[Bool.or_false,Bool.or_true]at av;refine Qc 31 (fun W:World=>Hid (zB w W)/\Hid (W.heap[w.heap.size]? =some (.cells #[.bool false,.bool false,.bool false] 264))/\Hid (W.heap[w.heap.size+1]? =some (.cells #[.bool _,.bool _,.bool _] 264))/\zC W (w.heap.size+1) 0 (.bool _)/\zC W (w.heap.size+1) 1 (.bool _)/\zC W (w.heap.size+1) 2 (.bool _)/\zC W A.heap.size 0 (.bool y1)/\zC W A.heap.size 1 (.bool y2)/\zC W A.heap.size 2 (.bool y3)) (by kernel_rfl) S0 (fun r=> ?_);refine Qz 0 r ?_;refine Qz 1 r ?_;refine Qz 2 r ?_;refine Qz 3 r ?_;refine Qz 4 r ?_;refine Qz 5 r ?_;refine Qz 6 r ?_;refine Qz 7 r ?_;refine Qz 8 r ?_;refine Qz 9 r ?_;refine Qz 20 r ?_;refine Qz 21 r ?_
    first
     |(refine Kw (i:=10) (oi:={dst:=Option.some 29,op:=Go.Op.call {callee:=Go.Callee.value (Go.Operand.func 272),args:=#[Go.Operand.tmp 28],argTypes:=#[264]},type:=4,pos:="nullable.go:104",after:=#[{on:=9,ground:=Go.Ground.data},{on:=8,ground:=Go.Ground.chain},{on:=8,ground:=Go.Ground.guard}],guard:=Option.some (8,Bool.true)}) (v:=undef) rfl (by kernel_rfl) (by kernel_rfl) (by kernel_rfl) (fun _ _ _ h=>h) (Or.inr ⟨by rfl,rfl⟩) r ?_)
     |(refine Qv 10 (fun K D=> ?_);go_simp;refine(aE.out _).mono ?_;rintro e w5 ⟨rfl,ad⟩;go_simp;replace r:=z3i r ad.out;refine D.out _ _ r ?_;clear D K ad)
    (try simp only[Act.put,zY])
    refine Qz 11 r ?_;refine Qz 12 r ?_;refine Qz 13 r ?_;refine Qz 14 r ?_;refine Qz 15 r ?_;refine Qz 16 r ?_;refine Qz 17 r ?_;refine Qz 18 r ?_;refine Qz 19 r ?_;refine Qz 22 r ?_;refine Qz 23 r ?_
    first
     |(refine Kw (i:=24) (oi:={dst:=Option.some 43,op:=Go.Op.call {callee:=Go.Callee.value (Go.Operand.func 272),args:=#[Go.Operand.tmp 42],argTypes:=#[264]},type:=4,pos:="nullable.go:105",after:=#[{on:=23,ground:=Go.Ground.data},{on:=22,ground:=Go.Ground.chain},{on:=22,ground:=Go.Ground.guard}],guard:=Option.some (22,Bool.false)}) (v:=undef) rfl (by kernel_rfl) (by kernel_rfl) (by kernel_rfl) (fun _ _ _ h=>h) (Or.inr ⟨by rfl,rfl⟩) r ?_)
     |(refine Qv 24 (fun K D=> ?_);go_simp;refine(av.out _).mono ?_;rintro e w5 ⟨rfl,ad⟩;go_simp;replace r:=z3i r ad.out;refine D.out _ _ r ?_;clear D K ad)
    (try simp only[Act.put,zY])
    refine Qz 25 r ?_;refine Qz 26 r ?_;refine Qz 27 r ?_;refine Qz 28 r ?_;refine Qz 29 r ?_;refine Qz 30 r ?_;refine Yj (fun K D=> ?_);obtain⟨aw,ax,af,-,-,-,-,-,-⟩:=r
    first
     |obtain⟨⟨t0,t1,t2⟩,f0,f1,f2⟩:=Zz (w:=A.alloc (.cells #[.bool y1,.bool y2,.bool y3] 264)) af.out
     |obtain⟨⟨t0,t1,t2⟩,f0,f1,f2⟩:=Zz af.out
    have la:=Qq af.out
    go_simp
    (try rw[y1o])
    refine D.out _ _ ?_;clear D K t0 t1 t2 f0 f1 f2
    go_wp2_with fail
    go_roundw
    case rel=>exact⟨j+1,by go_num,by omega,hid (aw.out.grown (Xj _ _ _ _ _) aw.out.size (fun g e=>by have:=Option.some.inj e;omega)),hid (((Xj _ _ _ _ _).block _ (Qq ax.out) (fun e=>by have:=Option.some.inj e;omega)).trans ax.out),_,_,_,hid (by rw[y1m K _ s j aq,<-HX.out,<-HY.out,y1p HQ.out];simp),hid (Vx af.out)⟩
    case measure=>simp[intOf];omega)
  ·have a0:decide ((j:Int)<(n:Int))=false:=by simp;omega
   have ay:s.take j=s:=List.take_of_length_le (by rw[<-HN.out];omega);rw[ay]at HX;obtain⟨⟨t0,t1,t2⟩,_⟩:=Zz U.out;obtain⟨⟨u0,u1,u2⟩,f0,f1,f2⟩:=Zz G.out;have la:=Qq U.out;have lr:=Qq G.out;have aF:=hid (E.out.grown (Xj wr w.heap.size (.bool x1) (.bool x2) (.bool x3)) E.out.size (fun g e=>by have:=Option.some.inj e;omega));obtain⟨⟨r0,r1,r2⟩,_⟩:=Zz (Vx (v0:=.bool x1) (v1:=.bool x2) (v2:=.bool x3) G.out);clear ay U G E
   go_wp2_with fail
   refine bodyPost_ret (v:=.agg #[.bool x1,.bool x2,.bool x3]) (by simp[results,Tryz.results239,go_sem,r0,r1,r2]) rfl ?_;exact⟨by rw[<-HX.out],aF⟩
theorem y1t{w h:World}{x1 x2 x3 y1 y2 y3:Bool}(y:Hid (zB w h))(A:Hid (h.heap[w.heap.size]? =some (.cells #[.bool false,.bool false,.bool false] 264)))(D:Hid (h.heap[w.heap.size+1]? =some (.cells #[.bool x1,.bool x2,.bool x3] 264))):
  (Hid (zB w (h.alloc (.cells #[.bool y1,.bool y2,.bool y3] 264)))/\Hid ((h.alloc (.cells #[.bool y1,.bool y2,.bool y3] 264)).heap[w.heap.size]? =some (.cells #[.bool false,.bool false,.bool false] 264))/\Hid ((h.alloc (.cells #[.bool y1,.bool y2,.bool y3] 264)).heap[w.heap.size+1]? =some (.cells #[.bool x1,.bool x2,.bool x3] 264)))/\
  w.heap.size+1<(h.alloc (.cells #[.bool y1,.bool y2,.bool y3] 264)).heap.size/\h.heap.size<(h.alloc (.cells #[.bool y1,.bool y2,.bool y3] 264)).heap.size/\
  ((h.alloc (.cells #[.bool y1,.bool y2,.bool y3] 264)).cell? ⟨w.heap.size+1,0,none⟩=some (.bool x1)/\(h.alloc (.cells #[.bool y1,.bool y2,.bool y3] 264)).cell? ⟨w.heap.size+1,1,none⟩=some (.bool x2)/\(h.alloc (.cells #[.bool y1,.bool y2,.bool y3] 264)).cell? ⟨w.heap.size+1,2,none⟩=some (.bool x3))/\
  ((h.alloc (.cells #[.bool y1,.bool y2,.bool y3] 264)).frozen? ⟨w.heap.size+1,0,none⟩=false/\(h.alloc (.cells #[.bool y1,.bool y2,.bool y3] 264)).frozen? ⟨w.heap.size+1,1,none⟩=false/\(h.alloc (.cells #[.bool y1,.bool y2,.bool y3] 264)).frozen? ⟨w.heap.size+1,2,none⟩=false)/\
  (h.alloc (.cells #[.bool y1,.bool y2,.bool y3] 264)).cell? ⟨h.heap.size,0,none⟩=some (.bool y1)/\(h.alloc (.cells #[.bool y1,.bool y2,.bool y3] 264)).cell? ⟨h.heap.size,1,none⟩=some (.bool y2)/\(h.alloc (.cells #[.bool y1,.bool y2,.bool y3] 264)).cell? ⟨h.heap.size,2,none⟩=some (.bool y3):=by
 have o:=(Below.refl _ h).alloc L0q (.cells #[.bool y1,.bool y2,.bool y3] 264);have r:=(o.block _ (Qq D.out)).trans D.out;obtain⟨t,f⟩:=Zz r;obtain⟨u,_⟩:=Zz (Qx h (.cells #[.bool y1,.bool y2,.bool y3] 264) rfl);exact⟨⟨hid (y.out.trans (o.mono y.out.size)),hid ((o.block _ (Qq A.out)).trans A.out),hid r⟩,Qq r,by simp,t,f,u⟩
theorem y1u(B:Nat)(K:zA->Ot)(so:Option Addr)(n au:Nat)(s:List RT)(w:World)(hn:n<=9223372036854775807)(HN:Hid (n=s.length))
  (HC:Hid (∀j (hj:j<s.length),∃g o,so=some ⟨g,o,none⟩/\g<w.heap.size/\∃D E a1 G c1 U V Y Z p1,Rc w g (o+j*8) D E a1 G c1 U (.slice V Y Z) p1/\
    ∀W:World,zB w W->Calls prog 203 #[.map (some B),.agg (r8 D E a1 G c1 U V Y Z p1).toArray] W fun e w'=>e=.returned (ov (ofT K s[j]))/\Hid (zB W w'))):
  Calls prog 240 #[.map (some B),.slice so n au] w fun e w'=>e=.returned (ov (ofA K (false,false,true) s))/\Hid (zB w w'):=by
 obtain⟨W1,aa⟩:∃W1,W1=(w.alloc (.cells #[.bool false,.bool false,.bool false] 264)).alloc (.cells #[.bool false,.bool false,.bool true] 264):=⟨_,rfl⟩;have av:Hid (zB w W1):=by rw[aa];exact((Below.refl _ w).alloc L0q _).alloc (by simp) _
 have aw:Hid (W1.heap[w.heap.size]? =some (.cells #[.bool false,.bool false,.bool false] 264)):=by rw[aa];exact(Below.heap_alloc _ _ _ (by simp)).trans (Qx w _ rfl)
 have ax:Hid (W1.heap[w.heap.size+1]? =some (.cells #[.bool false,.bool false,.bool true] 264)):=by rw[aa];exact Qx _ _ (by simp)
 have ah:=hid aa;clear aa;go_enter func240,ntmps240
 go_wp2_with fail
 rw[<-ah.out];clear ah
 go_loopw [12] (fun i wr=>∃j:Nat,i=zI (j:Int)/\j<=n/\Hid (zB w wr)/\Hid (wr.heap[w.heap.size]? =some (.cells #[.bool false,.bool false,.bool false] 264))/\∃x1 x2 x3:Bool,Hid ((x1,x2,x3)=ofA K (false,false,true) (s.take j))/\Hid (wr.heap[w.heap.size+1]? =some (.cells #[.bool x1,.bool x2,.bool x3] 264))) (fun i _=>n-(intOf i).toNat)
 case atStart=>exact⟨0,rfl,Nat.zero_le _,av,aw,_,_,_,hid (by rw[List.take_zero,ofA]),ax⟩
 case round=>
  obtain⟨j,rfl,hj,h,r,x1,x2,x3,HX,A⟩:=hrel;by_cases hjn:j<n
  ·have aA:(j:Int)<(n:Int):=by omega
   have a0:decide ((j:Int)<(n:Int))=true:=by simp;omega
   have ai:j<s.length:=by rw[<-HN.out];exact hjn
   obtain⟨g,o,rfl,hg,D,E,a1,G,c1,U,V,Y,Z,p1,aj,ak⟩:=HC.out j ai;obtain⟨z0,z1,z2,z3,z4,z5,z6,z7⟩:=aj.below h.out hg;have aB:g<wr.heap.size:=World.block_lt_of_cell? wr _ z0;obtain⟨⟨y1,y2,y3⟩,hy⟩:∃y,y=ofT K s[j]:=⟨_,rfl⟩;have ac:zB w (wr.alloc (.cells #[zI D,zT E,zU a1,zU G,zU c1,zU U,.slice V Y Z,zI p1] 119)):=h.out.alloc h.out.size _;have ad:=(Below.refl _ wr).alloc L0q (.cells #[zI D,zT E,zU a1,zU G,zU c1,zU U,.slice V Y Z,zI p1] 119);have ae:=hid ((ad.block _ (Qq r.out)).trans r.out);have af:=hid ((ad.block _ (Qq A.out)).trans A.out);have ag:=hid ac;have HS:=hid (ak _ ac);rw[<-hy]at HS;have HY:=hid hy;clear ak aj hy ac ad;dsimp only[r8,ov]at HS;cases x1<;>cases x2<;>cases x3<;>(
    go_wp2_with(first
     |(go_at_call 203;refine HS.out.mono ?_;rintro e w4 ⟨rfl,ab⟩;have al:=hid (ag.out.trans (ab.out.mono ag.out.size));have am:=hid ((ab.out.block _ (Qq ae.out)).trans ae.out);have ao:=hid ((ab.out.block _ (Qq af.out)).trans af.out);obtain⟨⟨ap,aq,ay⟩,la,ln,⟨t0,t1,t2⟩,⟨f0,f1,f2⟩,u0,u1,u2⟩:=y1t (y1:=y1) (y2:=y2) (y3:=y3) al am ao;clear HS ab r A h ag ae af al am ao))
    go_roundw
    case rel=>exact⟨j+1,by go_num,by omega,hid (ap.out.grown (Xj _ _ _ _ _) ap.out.size (fun g e=>by have:=Option.some.inj e;omega)),hid (((Xj _ _ _ _ _).block _ (Qq aq.out) (fun e=>by have:=Option.some.inj e;omega)).trans aq.out),_,_,_,hid (by rw[y1n K _ s j ai,<-HX.out,<-HY.out];simp[Uf]),hid (Vx ay.out)⟩
    case measure=>simp[intOf];omega)
  ·have a0:decide ((j:Int)<(n:Int))=false:=by simp;omega
   have ar:s.take j=s:=List.take_of_length_le (by rw[<-HN.out];omega);rw[ar]at HX;obtain⟨⟨t0,t1,t2⟩,_⟩:=Zz A.out;obtain⟨⟨u0,u1,u2⟩,f0,f1,f2⟩:=Zz r.out;have la:=Qq A.out;have lr:=Qq r.out;have az:=hid (h.out.grown (Xj wr w.heap.size (.bool x1) (.bool x2) (.bool x3)) h.out.size (fun g e=>by have:=Option.some.inj e;omega));obtain⟨⟨r0,r1,r2⟩,_⟩:=Zz (Vx (v0:=.bool x1) (v1:=.bool x2) (v2:=.bool x3) r.out);clear ar A r h
   go_wp2_with fail
   refine bodyPost_ret (v:=.agg #[.bool x1,.bool x2,.bool x3]) (by simp[results,Tryz.results240,go_sem,r0,r1,r2]) rfl ?_;exact⟨by rw[<-HX.out],az⟩
theorem y1v(B:Nat)(x1 x2 x3:Bool)(T:zA)(a b c d:Int)(y:Option Addr)(n A:Nat)(p:Int)(w:World)
  (E:Hid (∀W:World,zB w W->Calls prog 239 #[.map (some B),.slice y n A] W fun e w'=>e=.returned (ov (x1,x2,x3))/\Hid (zB W w'))):
  Calls prog 203 #[.map (some B),.agg #[zI 6,zT T,zU a,zU b,zU c,zU d,.slice y n A,zI p]] w fun e w'=>e=.returned (ov (x1,x2,x3))/\Hid (zB w w'):=by
 obtain⟨h,o⟩:∃h,h=(w.alloc (.cells #[zI 6,zT T,zU a,zU b,zU c,zU d,.slice y n A,zI p] 119)).alloc (.cells #[.bool false,.bool false,.bool false] 264):=⟨_,rfl⟩;have D:zB w h:=by rw[o];exact((Below.refl _ w).alloc L0q _).alloc (by simp) _
 have G:Hid (h.heap[w.heap.size+1]? =some (.cells #[.bool false,.bool false,.bool false] 264)):=by rw[o];exact Qx _ _ (by simp)
 have U:=hid D;have V:=hid (E.out h D);have aa:=hid o;clear o D E;dsimp only[ov]at V;go_enter func203,ntmps203
 go_wp2_with(first
  |(go_at_call 239;rw[<-aa.out];refine V.out.mono ?_;rintro e w4 ⟨rfl,Y⟩;have r:=(Y.out.block _ (Qq G.out)).trans G.out;obtain⟨⟨u0,u1,u2⟩,f0,f1,f2⟩:=Zz r;have lr:=Qq r;have ab:=hid r;clear r))
 obtain⟨⟨r0,r1,r2⟩,_⟩:=Zz (Vx (v0:=.bool x1) (v1:=.bool x2) (v2:=.bool x3) ab.out);refine bodyPost_ret (v:=.agg #[.bool x1,.bool x2,.bool x3]) (by simp[results,Tryz.results203,go_sem,r0,r1,r2]) rfl ?_;have Z:=U.out.trans (Y.out.mono U.out.size);exact⟨rfl,hid (Z.grown (Xj _ _ _ _ _) Z.size (fun g e=>by have:=Option.some.inj e;omega))⟩
theorem y1w(B:Nat)(x1 x2 x3:Bool)(T:zA)(a b c d:Int)(y:Option Addr)(n A:Nat)(p:Int)(w:World)
  (E:Hid (∀W:World,zB w W->Calls prog 240 #[.map (some B),.slice y n A] W fun e w'=>e=.returned (ov (x1,x2,x3))/\Hid (zB W w'))):
  Calls prog 203 #[.map (some B),.agg #[zI 7,zT T,zU a,zU b,zU c,zU d,.slice y n A,zI p]] w fun e w'=>e=.returned (ov (x1,x2,x3))/\Hid (zB w w'):=by
 obtain⟨h,o⟩:∃h,h=(w.alloc (.cells #[zI 7,zT T,zU a,zU b,zU c,zU d,.slice y n A,zI p] 119)).alloc (.cells #[.bool false,.bool false,.bool false] 264):=⟨_,rfl⟩;have D:zB w h:=by rw[o];exact((Below.refl _ w).alloc L0q _).alloc (by simp) _
 have G:Hid (h.heap[w.heap.size+1]? =some (.cells #[.bool false,.bool false,.bool false] 264)):=by rw[o];exact Qx _ _ (by simp)
 have U:=hid D;have V:=hid (E.out h D);have aa:=hid o;clear o D E;dsimp only[ov]at V;go_enter func203,ntmps203
 go_wp2_with(first
  |(go_at_call 240;rw[<-aa.out];refine V.out.mono ?_;rintro e w4 ⟨rfl,Y⟩;have r:=(Y.out.block _ (Qq G.out)).trans G.out;obtain⟨⟨u0,u1,u2⟩,f0,f1,f2⟩:=Zz r;have lr:=Qq r;have ab:=hid r;clear r))
 obtain⟨⟨r0,r1,r2⟩,_⟩:=Zz (Vx (v0:=.bool x1) (v1:=.bool x2) (v2:=.bool x3) ab.out);refine bodyPost_ret (v:=.agg #[.bool x1,.bool x2,.bool x3]) (by simp[results,Tryz.results203,go_sem,r0,r1,r2]) rfl ?_;have Z:=U.out.trans (Y.out.mono U.out.size);exact⟨rfl,hid (Z.grown (Xj _ _ _ _ _) Z.size (fun g e=>by have:=Option.some.inj e;omega))⟩
theorem Gp{w W:World}{p:Prop}(h:Hid (zB w W)/\p):zB w W:=h.1.out
theorem Mp{w W W':World}{v0 v1:Value}{g o:Nat}{y0 y1 y2 y3 y A D E:Value}(h:Hid (zB w W)/\Hid (∃v0 v1 v2:Value,W.heap[w.heap.size+1]? =some (.cells #[v0,v1,v2] 264))/\zC W w.heap.size 0 v0/\zC W w.heap.size 6 v1/\zC W g o y0/\zC W g (o+1) y1/\zC W g (o+2) y2/\zC W g (o+3) y3/\zC W g (o+4) y/\zC W g (o+5) A/\zC W g (o+6) D/\zC W g (o+7) E)(r:zB W W'):Hid (zB w W')/\Hid (∃v0 v1 v2:Value,W'.heap[w.heap.size+1]? =some (.cells #[v0,v1,v2] 264))/\zC W' w.heap.size 0 v0/\zC W' w.heap.size 6 v1/\zC W' g o y0/\zC W' g (o+1) y1/\zC W' g (o+2) y2/\zC W' g (o+3) y3/\zC W' g (o+4) y/\zC W' g (o+5) A/\zC W' g (o+6) D/\zC W' g (o+7) E:=by
 obtain⟨G,V,Y,Z,z2,z3,z4,z5,z6,z7,z8,z9⟩:=h;have e:∀{a:Addr} {u:Value},W.cell? a=some u->W'.cell? a=some u:=fun{a u} h=>(r.cell (p:=a) (World.block_lt_of_cell? W _ h)).trans h
 obtain⟨r0,r1,r2,U⟩:=V.out;exact⟨hid (G.out.trans (r.mono G.out.size)),hid ⟨r0,r1,r2,(r.block _ (Qq U)).trans U⟩,e Y,e Z,e z2,e z3,e z4,e z5,e z6,e z7,e z8,e z9⟩
theorem Mc{w W:World}{v0 v1:Value}{g o:Nat}{y0 y1 y2 y3 y A D E:Value}{x1 x2 x3:Value}(hg:g<w.heap.size)(h:Hid (zB w W)/\Hid (∃v0 v1 v2:Value,W.heap[w.heap.size+1]? =some (.cells #[v0,v1,v2] 264))/\zC W w.heap.size 0 v0/\zC W w.heap.size 6 v1/\zC W g o y0/\zC W g (o+1) y1/\zC W g (o+2) y2/\zC W g (o+3) y3/\zC W g (o+4) y/\zC W g (o+5) A/\zC W g (o+6) D/\zC W g (o+7) E)(W':World)(e:W'=((W.setCell ⟨w.heap.size+1,0,none⟩ x1).setCell ⟨w.heap.size+1,1,none⟩ x2).setCell ⟨w.heap.size+1,2,none⟩ x3):Hid (zB w W')/\Hid (∃v0 v1 v2:Value,W'.heap[w.heap.size+1]? =some (.cells #[v0,v1,v2] 264))/\zC W' w.heap.size 0 v0/\zC W' w.heap.size 6 v1/\zC W' g o y0/\zC W' g (o+1) y1/\zC W' g (o+2) y2/\zC W' g (o+3) y3/\zC W' g (o+4) y/\zC W' g (o+5) A/\zC W' g (o+6) D/\zC W' g (o+7) E:=by
 obtain⟨G,V,Y,Z,z2,z3,z4,z5,z6,z7,z8,z9⟩:=h;have U:W.grownBy W' (some (w.heap.size+1)):=by rw[e];exact Xj _ _ _ _ _
 have k:∀{a:Addr} {u:Value},a.block≠w.heap.size+1->W.cell? a=some u->W'.cell? a=some u:=fun{a u} aa h=>(World.cell?_of_block (U.block a.block (World.block_lt_of_cell? W _ h) (fun e=>aa (Option.some.inj e)))).trans h
 obtain⟨r0,r1,r2,hr⟩:=V.out;have hl:∀j,(⟨w.heap.size,j,none⟩:Addr).block≠w.heap.size+1:=fun j=>by show w.heap.size≠_;omega
 have r:∀j,(⟨g,j,none⟩:Addr).block≠w.heap.size+1:=fun j=>by show g≠_;omega
 exact⟨hid (G.out.grown U G.out.size (fun g e=>by have:=Option.some.inj e;omega)),hid ⟨x1,x2,x3,by rw[e];exact Vx hr⟩,k (hl _) Y,k (hl _) Z,k (r _) z2,k (r _) z3,k (r _) z4,k (r _) z5,k (r _) z6,k (r _) z7,k (r _) z8,k (r _) z9⟩
theorem Ml{w W W':World}{p:Prop}(h:Hid (zB w W)/\Hid (∃v0 v1 v2:Value,W.heap[w.heap.size+1]? =some (.cells #[v0,v1,v2] 264))/\p)(o:zB W W'):Hid (zB w W')/\Hid (∃v0 v1 v2:Value,W'.heap[w.heap.size+1]? =some (.cells #[v0,v1,v2] 264)):=by
 obtain⟨y,A,D,r⟩:=h.2.1.out;exact⟨hid (h.1.out.trans (o.mono h.1.out.size)),hid ⟨y,A,D,(o.block _ (Qq r)).trans r⟩⟩
theorem y1x(B:Nat)(y1 y2 y3:Bool)(T:zA)(a b c d:Int)(g o y:Nat)(p:Int)(A:Int)(D:zA)(a1 E c1 G:Int)(U:Option Addr)(V Y:Nat)(p1:Int)(w:World)(hg:g<w.heap.size)(ab:Rc w g o A D a1 E c1 G (.slice U V Y) p1)
  (HQ:Hid (∀W:World,zB w W->Calls prog 203 #[.map (some B),.agg (r8 A D a1 E c1 G U V Y p1).toArray] W fun e w'=>e=.returned (ov (y1,y2,y3))/\Hid (zB W w'))):
  Calls prog 203 #[.map (some B),.agg #[zI 8,zT T,zU a,zU b,zU c,zU d,.slice (some ⟨g,o,none⟩) 1 y,zI p]] w fun e w'=>e=.returned (ov (Zb 8 (y1,y2,y3)))/\Hid (zB w w'):=by
 obtain⟨h,r⟩:∃h,h=(w.alloc (.cells #[zI 8,zT T,zU a,zU b,zU c,zU d,.slice (some ⟨g,o,none⟩) 1 y,zI p] 119)).alloc (.cells #[.bool false,.bool false,.bool false] 264):=⟨_,rfl⟩;have aa:zB w h:=by rw[r];exact((Below.refl _ w).alloc L0q _).alloc (by simp) _
 have ac:Hid (h.heap[w.heap.size+1]? =some (.cells #[.bool false,.bool false,.bool false] 264)):=by rw[r];exact Qx _ _ (by simp)
 obtain⟨⟨n0,-,-,-,-,-,n6,-⟩,-⟩:=Qf (show h.heap[w.heap.size]? =_ by rw[r];exact(Below.heap_alloc _ _ _ (by simp)).trans (Qx w _ rfl));obtain⟨z0,z1,z2,z3,z4,z5,z6,z7⟩:=ab.below aa hg;have S0:(fun W:World=>Hid (zB w W)/\Hid (∃v0 v1 v2:Value,W.heap[w.heap.size+1]? =some (.cells #[v0,v1,v2] 264))/\zC W w.heap.size 0 (zI 8)/\zC W w.heap.size 6 (.slice (some ⟨g,o,none⟩) 1 y)/\zC W g o (zI A)/\zC W g (o+1) (zT D)/\zC W g (o+2) (zU a1)/\zC W g (o+3) (zU E)/\zC W g (o+4) (zU c1)/\zC W g (o+5) (zU G)/\zC W g (o+6) (.slice U V Y)/\zC W g (o+7) (zI p1)) h.drew:=⟨hid aa.drew,hid ⟨_,_,_,ac.out⟩,n0,n6,z0,z1,z2,z3,z4,z5,z6,z7⟩;have HU:=hid (y0W y1 y2 y3);have hl:w.heap.size<h.heap.size:=by rw[r];simp;omega
 have ak:g<h.heap.size:=Nat.lt_trans hg hl;have ad:=hid r;obtain⟨⟨x1,x2,x3⟩,hx⟩:∃x,x=Zb 8 (y1,y2,y3):=⟨_,rfl⟩;rw[<-hx]at HU ⊢;clear r aa ac ab hx n0 n6 z0 z1 z2 z3 z4 z5 z6 z7;dsimp only[ov,r8]at HQ HU;go_enter func203,ntmps203
 go_wp2_with fail
 rw[<-ad.out];clear ad
 go_region_held3 (fun W:World=>Hid (zB w W)/\Hid (∃v0 v1 v2:Value,W.heap[w.heap.size+1]? =some (.cells #[v0,v1,v2] 264))/\zC W w.heap.size 0 (zI 8)/\zC W w.heap.size 6 (.slice (some ⟨g,o,none⟩) 1 y)/\zC W g o (zI A)/\zC W g (o+1) (zT D)/\zC W g (o+2) (zU a1)/\zC W g (o+3) (zU E)/\zC W g (o+4) (zU c1)/\zC W g (o+5) (zU G)/\zC W g (o+6) (.slice U V Y)/\zC W g (o+7) (zI p1)) (first|(with_reducible assumption)|(with_reducible exact Mp (by assumption) (by assumption))|(with_reducible exact Mc hg (by assumption) _ rfl)) (first
  |(go_at_call 203;refine(HQ.out _ (Gp (by assumption))).mono ?_;rintro e w4 ⟨rfl,af⟩;have al:=af.out)
  |(go_at_call 241;refine(HU.out _).mono ?_;rintro e w5 ⟨rfl,ag⟩;have ah:=ag.out;obtain⟨ae,ai⟩:=Ml (by assumption) ah;obtain⟨q0,q1,q2,Z⟩:=ai.out;obtain⟨⟨u0,u1,u2⟩,f0,f1,f2⟩:=Zz Z;have lr:=Qq Z;have aj:=hid Z;clear Z))
 obtain⟨⟨r0,r1,r2⟩,_⟩:=Zz (Vx (v0:=.bool x1) (v1:=.bool x2) (v2:=.bool x3) aj.out)
 go_wp2_with fail
 refine bodyPost_ret (v:=.agg #[.bool x1,.bool x2,.bool x3]) (by simp[results,Tryz.results203,go_sem,r0,r1,r2]) rfl ?_;exact⟨rfl,hid (ae.out.grown (Xj _ _ _ _ _) ae.out.size (fun g e=>by have:=Option.some.inj e;omega))⟩
theorem y1y(B:Nat)(y1 y2 y3:Bool)(T:zA)(a b c d:Int)(g o y:Nat)(p:Int)(A:Int)(D:zA)(a1 E c1 G:Int)(U:Option Addr)(V Y:Nat)(p1:Int)(w:World)(hg:g<w.heap.size)(ab:Rc w g o A D a1 E c1 G (.slice U V Y) p1)
  (HQ:Hid (∀W:World,zB w W->Calls prog 203 #[.map (some B),.agg (r8 A D a1 E c1 G U V Y p1).toArray] W fun e w'=>e=.returned (ov (y1,y2,y3))/\Hid (zB W w'))):
  Calls prog 203 #[.map (some B),.agg #[zI 9,zT T,zU a,zU b,zU c,zU d,.slice (some ⟨g,o,none⟩) 1 y,zI p]] w fun e w'=>e=.returned (ov (Zb 9 (y1,y2,y3)))/\Hid (zB w w'):=by
 obtain⟨h,r⟩:∃h,h=(w.alloc (.cells #[zI 9,zT T,zU a,zU b,zU c,zU d,.slice (some ⟨g,o,none⟩) 1 y,zI p] 119)).alloc (.cells #[.bool false,.bool false,.bool false] 264):=⟨_,rfl⟩;have aa:zB w h:=by rw[r];exact((Below.refl _ w).alloc L0q _).alloc (by simp) _
 have ac:Hid (h.heap[w.heap.size+1]? =some (.cells #[.bool false,.bool false,.bool false] 264)):=by rw[r];exact Qx _ _ (by simp)
 obtain⟨⟨n0,-,-,-,-,-,n6,-⟩,-⟩:=Qf (show h.heap[w.heap.size]? =_ by rw[r];exact(Below.heap_alloc _ _ _ (by simp)).trans (Qx w _ rfl));obtain⟨z0,z1,z2,z3,z4,z5,z6,z7⟩:=ab.below aa hg;have S0:(fun W:World=>Hid (zB w W)/\Hid (∃v0 v1 v2:Value,W.heap[w.heap.size+1]? =some (.cells #[v0,v1,v2] 264))/\zC W w.heap.size 0 (zI 9)/\zC W w.heap.size 6 (.slice (some ⟨g,o,none⟩) 1 y)/\zC W g o (zI A)/\zC W g (o+1) (zT D)/\zC W g (o+2) (zU a1)/\zC W g (o+3) (zU E)/\zC W g (o+4) (zU c1)/\zC W g (o+5) (zU G)/\zC W g (o+6) (.slice U V Y)/\zC W g (o+7) (zI p1)) h.drew:=⟨hid aa.drew,hid ⟨_,_,_,ac.out⟩,n0,n6,z0,z1,z2,z3,z4,z5,z6,z7⟩;have HU:=hid (y0X y1 y2 y3);have hl:w.heap.size<h.heap.size:=by rw[r];simp;omega
 have ak:g<h.heap.size:=Nat.lt_trans hg hl;have ad:=hid r;obtain⟨⟨x1,x2,x3⟩,hx⟩:∃x,x=Zb 9 (y1,y2,y3):=⟨_,rfl⟩;rw[<-hx]at HU ⊢;clear r aa ac ab hx n0 n6 z0 z1 z2 z3 z4 z5 z6 z7;dsimp only[ov,r8]at HQ HU;go_enter func203,ntmps203
 go_wp2_with fail
 rw[<-ad.out];clear ad
 go_region_held3 (fun W:World=>Hid (zB w W)/\Hid (∃v0 v1 v2:Value,W.heap[w.heap.size+1]? =some (.cells #[v0,v1,v2] 264))/\zC W w.heap.size 0 (zI 9)/\zC W w.heap.size 6 (.slice (some ⟨g,o,none⟩) 1 y)/\zC W g o (zI A)/\zC W g (o+1) (zT D)/\zC W g (o+2) (zU a1)/\zC W g (o+3) (zU E)/\zC W g (o+4) (zU c1)/\zC W g (o+5) (zU G)/\zC W g (o+6) (.slice U V Y)/\zC W g (o+7) (zI p1)) (first|(with_reducible assumption)|(with_reducible exact Mp (by assumption) (by assumption))|(with_reducible exact Mc hg (by assumption) _ rfl)) (first
  |(go_at_call 203;refine(HQ.out _ (Gp (by assumption))).mono ?_;rintro e w4 ⟨rfl,af⟩;have al:=af.out)
  |(go_at_call 241;refine(HU.out _).mono ?_;rintro e w5 ⟨rfl,ag⟩;have ah:=ag.out;obtain⟨ae,ai⟩:=Ml (by assumption) ah;obtain⟨q0,q1,q2,Z⟩:=ai.out;obtain⟨⟨u0,u1,u2⟩,f0,f1,f2⟩:=Zz Z;have lr:=Qq Z;have aj:=hid Z;clear Z))
 obtain⟨⟨r0,r1,r2⟩,_⟩:=Zz (Vx (v0:=.bool x1) (v1:=.bool x2) (v2:=.bool x3) aj.out)
 go_wp2_with fail
 refine bodyPost_ret (v:=.agg #[.bool x1,.bool x2,.bool x3]) (by simp[results,Tryz.results203,go_sem,r0,r1,r2]) rfl ?_;exact⟨rfl,hid (ae.out.grown (Xj _ _ _ _ _) ae.out.size (fun g e=>by have:=Option.some.inj e;omega))⟩
theorem y1z(B:Nat)(y1 y2 y3:Bool)(T:zA)(a b c d:Int)(g o y:Nat)(p:Int)(A:Int)(D:zA)(a1 E c1 G:Int)(U:Option Addr)(V Y:Nat)(p1:Int)(w:World)(hg:g<w.heap.size)(ab:Rc w g o A D a1 E c1 G (.slice U V Y) p1)
  (HQ:Hid (∀W:World,zB w W->Calls prog 203 #[.map (some B),.agg (r8 A D a1 E c1 G U V Y p1).toArray] W fun e w'=>e=.returned (ov (y1,y2,y3))/\Hid (zB W w'))):
  Calls prog 203 #[.map (some B),.agg #[zI 10,zT T,zU a,zU b,zU c,zU d,.slice (some ⟨g,o,none⟩) 1 y,zI p]] w fun e w'=>e=.returned (ov (Zb 10 (y1,y2,y3)))/\Hid (zB w w'):=by
 obtain⟨h,r⟩:∃h,h=(w.alloc (.cells #[zI 10,zT T,zU a,zU b,zU c,zU d,.slice (some ⟨g,o,none⟩) 1 y,zI p] 119)).alloc (.cells #[.bool false,.bool false,.bool false] 264):=⟨_,rfl⟩;have aa:zB w h:=by rw[r];exact((Below.refl _ w).alloc L0q _).alloc (by simp) _
 have ac:Hid (h.heap[w.heap.size+1]? =some (.cells #[.bool false,.bool false,.bool false] 264)):=by rw[r];exact Qx _ _ (by simp)
 obtain⟨⟨n0,-,-,-,-,-,n6,-⟩,-⟩:=Qf (show h.heap[w.heap.size]? =_ by rw[r];exact(Below.heap_alloc _ _ _ (by simp)).trans (Qx w _ rfl));obtain⟨z0,z1,z2,z3,z4,z5,z6,z7⟩:=ab.below aa hg;have S0:(fun W:World=>Hid (zB w W)/\Hid (∃v0 v1 v2:Value,W.heap[w.heap.size+1]? =some (.cells #[v0,v1,v2] 264))/\zC W w.heap.size 0 (zI 10)/\zC W w.heap.size 6 (.slice (some ⟨g,o,none⟩) 1 y)/\zC W g o (zI A)/\zC W g (o+1) (zT D)/\zC W g (o+2) (zU a1)/\zC W g (o+3) (zU E)/\zC W g (o+4) (zU c1)/\zC W g (o+5) (zU G)/\zC W g (o+6) (.slice U V Y)/\zC W g (o+7) (zI p1)) h.drew:=⟨hid aa.drew,hid ⟨_,_,_,ac.out⟩,n0,n6,z0,z1,z2,z3,z4,z5,z6,z7⟩;have HU:=hid (y0Y y1 y2 y3);have hl:w.heap.size<h.heap.size:=by rw[r];simp;omega
 have ak:g<h.heap.size:=Nat.lt_trans hg hl;have ad:=hid r;obtain⟨⟨x1,x2,x3⟩,hx⟩:∃x,x=Zb 10 (y1,y2,y3):=⟨_,rfl⟩;rw[<-hx]at HU ⊢;clear r aa ac ab hx n0 n6 z0 z1 z2 z3 z4 z5 z6 z7;dsimp only[ov,r8]at HQ HU;go_enter func203,ntmps203
 go_wp2_with fail
 rw[<-ad.out];clear ad
 go_region_held3 (fun W:World=>Hid (zB w W)/\Hid (∃v0 v1 v2:Value,W.heap[w.heap.size+1]? =some (.cells #[v0,v1,v2] 264))/\zC W w.heap.size 0 (zI 10)/\zC W w.heap.size 6 (.slice (some ⟨g,o,none⟩) 1 y)/\zC W g o (zI A)/\zC W g (o+1) (zT D)/\zC W g (o+2) (zU a1)/\zC W g (o+3) (zU E)/\zC W g (o+4) (zU c1)/\zC W g (o+5) (zU G)/\zC W g (o+6) (.slice U V Y)/\zC W g (o+7) (zI p1)) (first|(with_reducible assumption)|(with_reducible exact Mp (by assumption) (by assumption))|(with_reducible exact Mc hg (by assumption) _ rfl)) (first
  |(go_at_call 203;refine(HQ.out _ (Gp (by assumption))).mono ?_;rintro e w4 ⟨rfl,af⟩;have al:=af.out)
  |(go_at_call 241;refine(HU.out _).mono ?_;rintro e w5 ⟨rfl,ag⟩;have ah:=ag.out;obtain⟨ae,ai⟩:=Ml (by assumption) ah;obtain⟨q0,q1,q2,Z⟩:=ai.out;obtain⟨⟨u0,u1,u2⟩,f0,f1,f2⟩:=Zz Z;have lr:=Qq Z;have aj:=hid Z;clear Z))
 obtain⟨⟨r0,r1,r2⟩,_⟩:=Zz (Vx (v0:=.bool x1) (v1:=.bool x2) (v2:=.bool x3) aj.out)
 go_wp2_with fail
 refine bodyPost_ret (v:=.agg #[.bool x1,.bool x2,.bool x3]) (by simp[results,Tryz.results203,go_sem,r0,r1,r2]) rfl ?_;exact⟨rfl,hid (ae.out.grown (Xj _ _ _ _ _) ae.out.size (fun g e=>by have:=Option.some.inj e;omega))⟩
theorem y1A(B:Nat)(y1 y2 y3:Bool)(T:zA)(a b c d:Int)(g o y:Nat)(p:Int)(A:Int)(D:zA)(a1 E c1 G:Int)(U:Option Addr)(V Y:Nat)(p1:Int)(w:World)(hg:g<w.heap.size)(ab:Rc w g o A D a1 E c1 G (.slice U V Y) p1)
  (HQ:Hid (∀W:World,zB w W->Calls prog 203 #[.map (some B),.agg (r8 A D a1 E c1 G U V Y p1).toArray] W fun e w'=>e=.returned (ov (y1,y2,y3))/\Hid (zB W w'))):
  Calls prog 203 #[.map (some B),.agg #[zI 11,zT T,zU a,zU b,zU c,zU d,.slice (some ⟨g,o,none⟩) 1 y,zI p]] w fun e w'=>e=.returned (ov (Zb 11 (y1,y2,y3)))/\Hid (zB w w'):=by
 obtain⟨h,r⟩:∃h,h=(w.alloc (.cells #[zI 11,zT T,zU a,zU b,zU c,zU d,.slice (some ⟨g,o,none⟩) 1 y,zI p] 119)).alloc (.cells #[.bool false,.bool false,.bool false] 264):=⟨_,rfl⟩;have aa:zB w h:=by rw[r];exact((Below.refl _ w).alloc L0q _).alloc (by simp) _
 have ac:Hid (h.heap[w.heap.size+1]? =some (.cells #[.bool false,.bool false,.bool false] 264)):=by rw[r];exact Qx _ _ (by simp)
 obtain⟨⟨n0,-,-,-,-,-,n6,-⟩,-⟩:=Qf (show h.heap[w.heap.size]? =_ by rw[r];exact(Below.heap_alloc _ _ _ (by simp)).trans (Qx w _ rfl));obtain⟨z0,z1,z2,z3,z4,z5,z6,z7⟩:=ab.below aa hg;have S0:(fun W:World=>Hid (zB w W)/\Hid (∃v0 v1 v2:Value,W.heap[w.heap.size+1]? =some (.cells #[v0,v1,v2] 264))/\zC W w.heap.size 0 (zI 11)/\zC W w.heap.size 6 (.slice (some ⟨g,o,none⟩) 1 y)/\zC W g o (zI A)/\zC W g (o+1) (zT D)/\zC W g (o+2) (zU a1)/\zC W g (o+3) (zU E)/\zC W g (o+4) (zU c1)/\zC W g (o+5) (zU G)/\zC W g (o+6) (.slice U V Y)/\zC W g (o+7) (zI p1)) h.drew:=⟨hid aa.drew,hid ⟨_,_,_,ac.out⟩,n0,n6,z0,z1,z2,z3,z4,z5,z6,z7⟩;have HU:=hid (y0Z y1 y2 y3);have hl:w.heap.size<h.heap.size:=by rw[r];simp;omega
 have ak:g<h.heap.size:=Nat.lt_trans hg hl;have ad:=hid r;obtain⟨⟨x1,x2,x3⟩,hx⟩:∃x,x=Zb 11 (y1,y2,y3):=⟨_,rfl⟩;rw[<-hx]at HU ⊢;clear r aa ac ab hx n0 n6 z0 z1 z2 z3 z4 z5 z6 z7;dsimp only[ov,r8]at HQ HU;go_enter func203,ntmps203
 go_wp2_with fail
 rw[<-ad.out];clear ad
 go_region_held3 (fun W:World=>Hid (zB w W)/\Hid (∃v0 v1 v2:Value,W.heap[w.heap.size+1]? =some (.cells #[v0,v1,v2] 264))/\zC W w.heap.size 0 (zI 11)/\zC W w.heap.size 6 (.slice (some ⟨g,o,none⟩) 1 y)/\zC W g o (zI A)/\zC W g (o+1) (zT D)/\zC W g (o+2) (zU a1)/\zC W g (o+3) (zU E)/\zC W g (o+4) (zU c1)/\zC W g (o+5) (zU G)/\zC W g (o+6) (.slice U V Y)/\zC W g (o+7) (zI p1)) (first|(with_reducible assumption)|(with_reducible exact Mp (by assumption) (by assumption))|(with_reducible exact Mc hg (by assumption) _ rfl)) (first
  |(go_at_call 203;refine(HQ.out _ (Gp (by assumption))).mono ?_;rintro e w4 ⟨rfl,af⟩;have al:=af.out)
  |(go_at_call 241;refine(HU.out _).mono ?_;rintro e w5 ⟨rfl,ag⟩;have ah:=ag.out;obtain⟨ae,ai⟩:=Ml (by assumption) ah;obtain⟨q0,q1,q2,Z⟩:=ai.out;obtain⟨⟨u0,u1,u2⟩,f0,f1,f2⟩:=Zz Z;have lr:=Qq Z;have aj:=hid Z;clear Z))
 obtain⟨⟨r0,r1,r2⟩,_⟩:=Zz (Vx (v0:=.bool x1) (v1:=.bool x2) (v2:=.bool x3) aj.out)
 go_wp2_with fail
 refine bodyPost_ret (v:=.agg #[.bool x1,.bool x2,.bool x3]) (by simp[results,Tryz.results203,go_sem,r0,r1,r2]) rfl ?_;exact⟨rfl,hid (ae.out.grown (Xj _ _ _ _ _) ae.out.size (fun g e=>by have:=Option.some.inj e;omega))⟩
theorem y1B(B:Nat)(y1 y2 y3:Bool)(T:zA)(a b c d:Int)(g o y:Nat)(p:Int)(A:Int)(D:zA)(a1 E c1 G:Int)(U:Option Addr)(V Y:Nat)(p1:Int)(w:World)(hg:g<w.heap.size)(ab:Rc w g o A D a1 E c1 G (.slice U V Y) p1)
  (HQ:Hid (∀W:World,zB w W->Calls prog 203 #[.map (some B),.agg (r8 A D a1 E c1 G U V Y p1).toArray] W fun e w'=>e=.returned (ov (y1,y2,y3))/\Hid (zB W w'))):
  Calls prog 203 #[.map (some B),.agg #[zI 12,zT T,zU a,zU b,zU c,zU d,.slice (some ⟨g,o,none⟩) 1 y,zI p]] w fun e w'=>e=.returned (ov (Zb 12 (y1,y2,y3)))/\Hid (zB w w'):=by
 obtain⟨h,r⟩:∃h,h=(w.alloc (.cells #[zI 12,zT T,zU a,zU b,zU c,zU d,.slice (some ⟨g,o,none⟩) 1 y,zI p] 119)).alloc (.cells #[.bool false,.bool false,.bool false] 264):=⟨_,rfl⟩;have aa:zB w h:=by rw[r];exact((Below.refl _ w).alloc L0q _).alloc (by simp) _
 have ac:Hid (h.heap[w.heap.size+1]? =some (.cells #[.bool false,.bool false,.bool false] 264)):=by rw[r];exact Qx _ _ (by simp)
 obtain⟨⟨n0,-,-,-,-,-,n6,-⟩,-⟩:=Qf (show h.heap[w.heap.size]? =_ by rw[r];exact(Below.heap_alloc _ _ _ (by simp)).trans (Qx w _ rfl));obtain⟨z0,z1,z2,z3,z4,z5,z6,z7⟩:=ab.below aa hg;have S0:(fun W:World=>Hid (zB w W)/\Hid (∃v0 v1 v2:Value,W.heap[w.heap.size+1]? =some (.cells #[v0,v1,v2] 264))/\zC W w.heap.size 0 (zI 12)/\zC W w.heap.size 6 (.slice (some ⟨g,o,none⟩) 1 y)/\zC W g o (zI A)/\zC W g (o+1) (zT D)/\zC W g (o+2) (zU a1)/\zC W g (o+3) (zU E)/\zC W g (o+4) (zU c1)/\zC W g (o+5) (zU G)/\zC W g (o+6) (.slice U V Y)/\zC W g (o+7) (zI p1)) h.drew:=⟨hid aa.drew,hid ⟨_,_,_,ac.out⟩,n0,n6,z0,z1,z2,z3,z4,z5,z6,z7⟩;have HU:=hid (y1a y1 y2 y3);have hl:w.heap.size<h.heap.size:=by rw[r];simp;omega
 have ak:g<h.heap.size:=Nat.lt_trans hg hl;have ad:=hid r;obtain⟨⟨x1,x2,x3⟩,hx⟩:∃x,x=Zb 12 (y1,y2,y3):=⟨_,rfl⟩;rw[<-hx]at HU ⊢;clear r aa ac ab hx n0 n6 z0 z1 z2 z3 z4 z5 z6 z7;dsimp only[ov,r8]at HQ HU;go_enter func203,ntmps203
 go_wp2_with fail
 rw[<-ad.out];clear ad
 go_region_held3 (fun W:World=>Hid (zB w W)/\Hid (∃v0 v1 v2:Value,W.heap[w.heap.size+1]? =some (.cells #[v0,v1,v2] 264))/\zC W w.heap.size 0 (zI 12)/\zC W w.heap.size 6 (.slice (some ⟨g,o,none⟩) 1 y)/\zC W g o (zI A)/\zC W g (o+1) (zT D)/\zC W g (o+2) (zU a1)/\zC W g (o+3) (zU E)/\zC W g (o+4) (zU c1)/\zC W g (o+5) (zU G)/\zC W g (o+6) (.slice U V Y)/\zC W g (o+7) (zI p1)) (first|(with_reducible assumption)|(with_reducible exact Mp (by assumption) (by assumption))|(with_reducible exact Mc hg (by assumption) _ rfl)) (first
  |(go_at_call 203;refine(HQ.out _ (Gp (by assumption))).mono ?_;rintro e w4 ⟨rfl,af⟩;have al:=af.out)
  |(go_at_call 241;refine(HU.out _).mono ?_;rintro e w5 ⟨rfl,ag⟩;have ah:=ag.out;obtain⟨ae,ai⟩:=Ml (by assumption) ah;obtain⟨q0,q1,q2,Z⟩:=ai.out;obtain⟨⟨u0,u1,u2⟩,f0,f1,f2⟩:=Zz Z;have lr:=Qq Z;have aj:=hid Z;clear Z))
 obtain⟨⟨r0,r1,r2⟩,_⟩:=Zz (Vx (v0:=.bool x1) (v1:=.bool x2) (v2:=.bool x3) aj.out)
 go_wp2_with fail
 refine bodyPost_ret (v:=.agg #[.bool x1,.bool x2,.bool x3]) (by simp[results,Tryz.results203,go_sem,r0,r1,r2]) rfl ?_;exact⟨rfl,hid (ae.out.grown (Xj _ _ _ _ _) ae.out.size (fun g e=>by have:=Option.some.inj e;omega))⟩
theorem Az{w:World}{s0:Nat}{s:List RT}{U:Option Addr}(aa:s0<=w.heap.size)(Y:s.isEmpty=true∨(s.isEmpty=false/\∃g o,U=some ⟨g,o,none⟩/\g<s0/\Qb s<=maxLen/\Zj w s0 g o s))(j:Nat)(V:j<s.length):
  ∃g o,U=some ⟨g,o,none⟩/\g<w.heap.size/\∃h r a1 y c1 A D E G p1,Rc w g (o+j*8) h r a1 y c1 A (.slice D E G) p1/\Qw w s0 s[j] (r8 h r a1 y c1 A D E G p1):=by
 rcases Y with Z|⟨_,g,o,h2,h3,_,h5⟩
 ·cases s
  ·simp at V
  ·simp at Z
 ·obtain⟨h,r,a1,y,c1,A,D,E,G,p1,h6,h7⟩:=Mx h5 j V
  exact⟨g,o,h2,by omega,h,r,a1,y,c1,A,D,E,G,p1,h7,h6⟩
theorem El{w:World}{s0:Nat}{s:List RT}{h:Option Addr}(r:s.isEmpty=true∨(s.isEmpty=false/\∃g o,h=some ⟨g,o,none⟩/\g<s0/\Qb s<=maxLen/\Zj w s0 g o s)):Qb s<=9223372036854775807:=by
 rcases r with y|⟨_,g,o,_,_,A,_⟩
 ·cases s
  ·rw[Qb];omega
  ·simp at y
 ·unfold maxLen at A
  omega
theorem y1C{k:Int}{T:zA}{a b c d:Int}{n:Nat}(h:okN k T a b c d n=true):(k=1∨k=2∨k=3∨k=4∨k=5∨k=6∨k=7)∨((k=8∨k=9∨k=10∨k=11∨k=12)/\n=1):=by
 unfold okN at h;by_cases h1:k=1∨k=4
 ·omega
 rw[if_neg h1]at h;by_cases h2:k=2
 ·omega
 rw[if_neg h2]at h;by_cases h3:k=3
 ·omega
 rw[if_neg h3]at h;by_cases h5:k=5
 ·omega
 rw[if_neg h5]at h;by_cases h6:k=6∨k=7
 ·omega
 rw[if_neg h6]at h;by_cases h8:8<=k/\k<=12
 ·rw[if_pos h8,Bool.and_eq_true,Bool.and_eq_true]at h
  have:=h.2.2;simp at this;refine .inr ⟨by omega,by omega⟩
 ·rw[if_neg h8]at h
  cases h
theorem z3j(B nn:Nat)(K:zA->Ot):∀(Q:Nat) (t:RT),SizeOf.sizeOf t<Q->∀(cs:List Value) (w:World) (s0:Nat),Qw w s0 t cs->s0<=w.heap.size->RtZ t->okT t=true->Nm w B nn K->Calls prog 203 #[.map (some B),.agg cs.toArray] w fun e w'=>e=.returned (ov (ofT K t))/\Hid (zB w w')
 |0,t,h=>by omega
 |Q+1,.mk k T a b c d s p,h=>by
  intro cs w s0 ht ab hz ac hM;rw[Qw]at ht;obtain⟨so,D,rfl,ae⟩:=ht;rw[RtZ]at hz;rw[okT,Bool.and_eq_true]at ac;have hT:=hz.1;have hl:=El ae;have hB:=hM.lt;have ad:∀j (hj:j<s.length),∃g o,so=some ⟨g,o,none⟩/\g<w.heap.size/\∃E G a1 U c1 V Y Z aa p1,Rc w g (o+j*8) E G a1 U c1 V (.slice Y Z aa) p1/\∀W:World,zB w W->Calls prog 203 #[.map (some B),.agg (r8 E G a1 U c1 V Y Z aa p1).toArray] W fun e w'=>e=.returned (ov (ofT K s[j]))/\Hid (zB W w'):=fun j hj=>by
   obtain⟨g,o,h1,h2,E,G,a1,U,c1,V,Y,Z,aa,p1,A,h4⟩:=Az ab ae j hj;refine⟨g,o,h1,h2,E,G,a1,U,c1,V,Y,Z,aa,p1,A,fun W hW=> ?_⟩;refine z3j B nn K Q s[j] ?_ _ W s0 (h4.below (hW.mono ab)) (Nat.le_trans ab hW.size) (hz.2.get j hj) (Eg ac.2 j hj) (hM.below hW hB);have h1:=List.sizeOf_lt_of_mem (List.getElem_mem hj);simp only[RT.mk.sizeOf_spec]at h;omega
  rw[ofT];dsimp only[r8];rcases y1C ac.1 with(rfl|rfl|rfl|rfl|rfl|rfl|rfl)|⟨hk,h1⟩
  ·exact y1b (some B) T a b c d so _ D p w
  ·by_cases h0:T.size=0
   ·have e:T={data:=#[]}:=by
     apply ByteArray.ext;exact Array.eq_empty_of_size_eq_zero h0
    rw[if_neg (by decide),if_pos rfl,if_pos h0];exact y1d (some B) T a b c d so _ D p w e
   ·rw[if_neg (by decide),if_pos rfl,if_neg h0]
    refine y1e (some B) T a b c d so _ D p w ?_;cases e:T.toList with
    |nil=>
     exfalso;apply h0;have:=congrArg List.length e;rw[ByteArray.toList_eq]at this;simpa using this
    |cons x r=>rfl
  ·rw[if_neg (by decide),if_neg (by decide),if_pos rfl]
   have A:=y1r (some B) T a b c d so (Qb s) D p w;by_cases hz:a=0/\b=0/\c=0/\d=0
   ·obtain⟨rfl,rfl,rfl,rfl⟩:=hz
    exact A
   ·rw[if_neg hz]
    rw[if_neg (by intro e;exact hz (by unfold zc at e;simpa using e))]at A;exact A
  ·exact y1c (some B) T a b c d so _ D p w
  ·exact y1q B nn K T a b c d so _ D p w hM hT
  ·obtain⟨⟨x1,x2,x3⟩,hx⟩:∃x,x=ofS K (true,false,false) s:=⟨_,rfl⟩
   rw[if_neg (by decide),if_neg (by decide),if_neg (by decide),if_neg (by decide),if_neg (by decide),if_pos rfl,<-hx];refine y1v B x1 x2 x3 T a b c d so _ D p w fun W hW=> ?_
   rw[hx];refine y1s B K so _ D s W hl (Xg s) fun j hj=> ?_
   obtain⟨g,o,h1,h2,E,G,a1,U,c1,V,Y,Z,aa,p1,A,h4⟩:=ad j hj;exact⟨g,o,h1,Nat.lt_of_lt_of_le h2 hW.size,E,G,a1,U,c1,V,Y,Z,aa,p1,A.below hW h2,fun W2 h5=>h4 W2 (hW.trans (h5.mono hW.size))⟩
  ·obtain⟨⟨x1,x2,x3⟩,hx⟩:∃x,x=ofA K (false,false,true) s:=⟨_,rfl⟩
   rw[if_neg (by decide),if_neg (by decide),if_neg (by decide),if_neg (by decide),if_neg (by decide),if_neg (by decide),if_pos rfl,<-hx];refine y1w B x1 x2 x3 T a b c d so _ D p w fun W hW=> ?_
   rw[hx];refine y1u B K so _ D s W hl (Xg s) fun j hj=> ?_
   obtain⟨g,o,h1,h2,E,G,a1,U,c1,V,Y,Z,aa,p1,A,h4⟩:=ad j hj;exact⟨g,o,h1,Nat.lt_of_lt_of_le h2 hW.size,E,G,a1,U,c1,V,Y,Z,aa,p1,A.below hW h2,fun W2 h5=>h4 W2 (hW.trans (h5.mono hW.size))⟩
  ·rw[Xg]at h1
   obtain⟨u,rfl⟩:∃u,s=[u]:=by
    cases s with
    |nil=>simp at h1
    |cons u r=>cases r with
     |nil=>exact⟨u,rfl⟩
     |cons v r=>simp at h1
   obtain⟨g,o,rfl,h2,E,G,a1,U,c1,V,Y,Z,aa,p1,A,h4⟩:=ad 0 (by simp);rw[Nat.zero_mul,Nat.add_zero]at A;obtain⟨⟨y1,y2,y3⟩,hy⟩:∃y,y=ofT K u:=⟨_,rfl⟩;have H4:Hid (∀W:World,zB w W->Calls prog 203 #[.map (some B),.agg (r8 E G a1 U c1 V Y Z aa p1).toArray] W fun e w'=>e=.returned (ov (y1,y2,y3))/\Hid (zB W w')):=fun W hW=>by rw[hy];exact h4 W hW
   have eh:ofH K [u]=(y1,y2,y3):=by rw[ofH,hy]
   rw[eh];rcases hk with rfl|rfl|rfl|rfl|rfl
   ·exact y1x B y1 y2 y3 T a b c d g o D p E G a1 U c1 V Y Z aa p1 w h2 A H4
   ·exact y1y B y1 y2 y3 T a b c d g o D p E G a1 U c1 V Y Z aa p1 w h2 A H4
   ·exact y1z B y1 y2 y3 T a b c d g o D p E G a1 U c1 V Y Z aa p1 w h2 A H4
   ·exact y1A B y1 y2 y3 T a b c d g o D p E G a1 U c1 V Y Z aa p1 w h2 A H4
   ·exact y1B B y1 y2 y3 T a b c d g o D p E G a1 U c1 V Y Z aa p1 w h2 A H4
theorem z3k(B o:Nat)(K:zA->Ot)(t:RT)(h:List Value)(w:World)(s0:Nat)(r:Qw w s0 t h)(y:s0<=w.heap.size)(A:RtZ t)(D:okT t=true)(E:Nm w B o K):Calls prog 203 #[.map (some B),.agg h.toArray] w fun e w'=>e=.returned (ov (ofT K t))/\Hid (zB w w'):=
 z3j B o K _ t (Nat.lt_succ_self _) h w s0 r y A D E
end Go.Proofs.YtmelafeingcgnaaGreatDoor
