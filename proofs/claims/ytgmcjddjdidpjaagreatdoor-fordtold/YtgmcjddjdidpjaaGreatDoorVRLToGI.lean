/- Lemmas for the last text. Conditions: those that each names. -/
import Derived.Deep.RegionHeld3
import Derived.ProofKit
import Derived.Test.YtgmcjddjdidpjaaGreatDoorVGBToGE
import Derived.Test.YtgmcjddjdidpjaaGreatDoorVHBToO4
set_option linter.unusedVariables false
set_option maxRecDepth 100000
set_option maxHeartbeats 8000000
namespace Go.Proofs.YtgmcjddjdidpjaaGreatDoor
open Go.Proofs.Tryz
section
open Go.RowKit
section
variable {P:Program} {md:Region.Mode} {ops:Array Oper} {Q:Exit->Act->World->Prop} {S:World->Prop} {z:Nat}
def Yg(P:Program)(md:Region.Mode)(ops:Array Oper)(Q:Exit->Act->World->Prop)(S:World->Prop)(z:Nat):Nat->Array Bool->Act->World->Prop
 |0,l,a,w=>Region.ready md ops l=[]/\Q .normal a w
 |n+1,l,a,w=>(Region.ready md ops l=[]->Q .normal a w)/\∀i∈Region.ready md ops l,wpOp P ops Q i (fun a' w'=>(i≠z->S w')/\Yg P md ops Q S z n (l.setIfInBounds i true) a' w') a w
theorem z0t:∀(n:Nat) (l:Array Bool) (a:Act) (w:World),Yg P md ops Q S z n l a w->wpAny P md ops Q n l a w
 |0,_,_,_,h=>h
 |n+1,_,_,_,h=>⟨h.1,fun i hi=>wpOp_mono (fun a' w' k=>z0t n _ a' w' k.2) (h.2 i hi)⟩
def Ex(md:Region.Mode)(ops:Array Oper)(z i:Nat):Bool:=match ops[z]? with
 |some o=>o.after.any fun e=>Region.binds md e&&e.on == i
 |none=>true
theorem y1P{i:Nat}{l:Array Bool}(h:Ex md ops z i=true)(hr:i∈Region.ready md ops l):z ∉ Region.ready md ops l:=fun hz=>by
 obtain⟨_,oz,hoz,hall⟩:=mem_ready.1 hz;unfold Ex at h;rw[hoz]at h;simp only[Array.any_eq_true']at h;obtain⟨e,he,hb⟩:=h;rw[Bool.and_eq_true,beq_iff_eq]at hb;have h1:=hall e he hb.1;have h0:=(mem_ready.1 hr).1;rw[hb.2]at h1;rcases Nat.lt_or_ge i l.size with h'|h'
 ·simp[h']at h0 h1;rw[h0]at h1;cases h1
 ·simp[Array.getElem?_eq_none h']at h1
theorem y1Q{i:Nat}{oi:Oper}{v:Value}(hi:ops[i]? =some oi)(hsel:∀(j:Nat) (o:Oper) cs b,ops[j]? =some o->o.op≠.select cs b)(hz:Ex md ops z i=true)
  (hQ:∀c a w,Q (.panic c) (a.put oi.dst v) w->Q (.panic c) a w):
  ∀(n:Nat) (l:Array Bool) (a:Act) (w:World),
   (∀j oj,ops[j]? =some oj->j≠i->l.getD j true=false->(∀e∈oj.after,Region.binds md e=true->e.on≠i)->oi.apart ops oj=true)->
   i∈Region.ready md ops l->YieldsIf P ops S oi v a->S w->
   Yg P md ops Q S z n (l.setIfInBounds i true) (a.put oi.dst v) w->Yg P md ops Q S z (n+1) l a w:=by
 intro n
 induction n with
 |zero=>
  intro l a w _ hr hy hS H;refine⟨fun h=>(by rw[h]at hr;cases hr),fun j hj=> ?_⟩;by_cases hji:j=i
  ·subst hji;exact hy.wpOp hi hS ⟨fun _=>hS,H⟩
  ·have:=ready_mono hj hji
   rw[H.1]at this;cases this
 |succ n ih=>
  intro l a w hfree hr hy hS H;refine⟨fun h=>(by rw[h]at hr;cases hr),fun j hj=> ?_⟩;by_cases hji:j=i
  ·subst hji;exact hy.wpOp hi hS ⟨fun _=>hS,H⟩
  ·have h1:=H.2 j (ready_mono hj hji)
   have hjz:j≠z:=fun e=>y1P hz hr (e▸hj)
   obtain⟨hjun,oj,hoj,hall⟩:=mem_ready.1 hj;have hnot:∀e∈oj.after,Region.binds md e=true->e.on≠i:=fun e he hb heq=>by
    have h1:=hall e he hb;have h0:=(mem_ready.1 hr).1;rw[heq]at h1;rcases Nat.lt_or_ge i l.size with h'|h'
    ·simp[h']at h0 h1;rw[h0]at h1;cases h1
    ·simp[Array.getElem?_eq_none h']at h1
   have h2:=wpOp_putIf hoj (hfree j oj hoj hji hjun hnot) (fun cs b=>hsel i oi cs b hi) (fun cs b=>hsel j oj cs b hoj) hQ hy h1;have hfree':∀k ok,ops[k]? =some ok->k≠i->(l.setIfInBounds j true).getD k true=false->
     (∀e∈ok.after,Region.binds md e=true->e.on≠i)->oi.apart ops ok=true:=fun k ok hk hki hun hno=>by
    refine hfree k ok hk hki ?_ hno;by_cases hjk:j=k
    ·subst hjk;exact hjun
    ·rw[getD_set_ne true hjk]at hun;exact hun
   refine wpOp_mono (fun a' w' h3=>⟨fun _=>h3.2.1 hjz,ih (l.setIfInBounds j true) a' w' hfree' (ready_mono hr (Ne.symm hji)) h3.1 (h3.2.1 hjz) ?_⟩) h2;rw[Array.setIfInBounds_comm _ _ hji];exact h3.2.2
theorem Kz{i:Nat}{oi:Oper}{v:Value}{n:Nat}{l:Array Bool}{a:Act}{w:World}(hi:ops[i]? =some oi)
  (hs:Region.noSelect ops=true)(hf:(Region.free md ops l i&&Ex md ops z i)=true)(hr:(Region.ready md ops l).contains i=true)
  (hQ:∀c a w,Q (.panic c) (a.put oi.dst v) w->Q (.panic c) a w)(hy:YieldsIf P ops S oi v a)(hS:S w)
  (h:Yg P md ops Q S z n (l.setIfInBounds i true) (a.put oi.dst v) w):Yg P md ops Q S z (n+1) l a w:=by
 rw[Bool.and_eq_true]at hf;exact y1Q hi (Region.noSelect_spec hs) hf.2 hQ n l a w (Region.free_spec hi hf.1) (by simpa using hr) hy hS h
def Dw:List Oper->Nat->Option Oper
 |[],_=>none
 |o::_,0=>some o
 |_::l,n+1=>Dw l n
theorem z4x:∀(l:List Oper) (i:Nat),Dw l i=l[i]?
 |[],_=>by simp[Dw]
 |_::_,0=>by simp[Dw]
 |_::l,n+1=>by simp[Dw,z4x l n]
theorem z0u{ops:Array Oper}{i:Nat}{o:Oper}(h:Dw ops.toList i=some o):ops[i]? =some o:=by
 rw[z4x]at h;simpa using h
theorem Qx(i:Nat){oi:Oper}{v:Value}{n:Nat}{l l':Array Bool}{a a':Act}{w:World}(hS:S w)(h:Yg P md ops Q S z n l' a' w)
  (hi:Dw ops.toList i=some oi:=by exact rfl)
  (hs:Region.noSelect ops=true:=by kernel_rfl)(hf:(Region.free md ops l i&&Ex md ops z i)=true:=by kernel_rfl)(hr:(Region.ready md ops l).contains i=true:=by kernel_rfl)
  (hy:YieldsIf P ops S oi v a:=by first|exact Or.inr ⟨by rfl,rfl⟩|(refine Or.inl ⟨by rfl,?_⟩;intro w hSw;(try dsimp only at hSw);go_simp;(try with_reducible rfl)))
  (hQ:∀c a w,Q (.panic c) (a.put oi.dst v) w->Q (.panic c) a w:=by first|exact fun _ _ _ h=>h|exact fun _ _ _ h=>by cases h.1)
  (hl:l.setIfInBounds i true=l':=by(try simp only[List.setIfInBounds_toArray,List.set_cons_zero,List.set_cons_succ]);exact rfl)
  (ha:a.put oi.dst v=a':=by(try simp only[Act.put,List.setIfInBounds_toArray,List.set_cons_zero,List.set_cons_succ]);exact rfl):Yg P md ops Q S z (n+1) l a w:=
 Kz (z0u hi) hs hf hr hQ hy hS (by rw[hl,ha];exact h)
theorem y1R{i:Nat}{o:Oper}{n:Nat}{l:Array Bool}{a:Act}{w:World}(hr:Region.ready md ops l=[i])(ho:ops[i]? =some o)
  (h:∀K':Act->World->Prop,Shut (∀a w,S w->Yg P md ops Q S z n (l.setIfInBounds i true) a w->K' a w)->if Region.wanted o (yielded ops a.tmps)=true then Oper.wp P o a w K' Q else K' (a.put o.dst undef) w):Yg P md ops Q S z (n+1) l a w:=by
 refine⟨(fun h0=>by rw[hr]at h0;cases h0),fun j hj=> ?_⟩;rw[hr,List.mem_singleton]at hj;subst hj;exact wpOp_step ho fun K' hK=>h K' fun a w hS hW=>hK a w ⟨fun _=>hS,hW⟩
theorem y1S{o:Oper}{n:Nat}{l:Array Bool}{a:Act}{w:World}(hr:Region.ready md ops l=[z])(hl:Region.ready md ops (l.setIfInBounds z true)=[])(ho:ops[z]? =some o)
  (h:∀K':Act->World->Prop,Shut (∀a w,Q .normal a w->K' a w)->if Region.wanted o (yielded ops a.tmps)=true then Oper.wp P o a w K' Q else K' (a.put o.dst undef) w):Yg P md ops Q S z (n+1) l a w:=by
 refine⟨(fun h0=>by rw[hr]at h0;cases h0),fun j hj=> ?_⟩;rw[hr,List.mem_singleton]at hj;subst hj;refine wpOp_step ho fun K' hK=>h K' fun a w hW=>hK a w ⟨fun hne=>absurd rfl hne,?_⟩
 cases n with
 |zero=>exact⟨hl,hW⟩
 |succ n=>exact⟨fun _=>hW,fun i hi=>by rw[hl]at hi;cases hi⟩
theorem Zy(i:Nat){o:Oper}{n:Nat}{l:Array Bool}{a:Act}{w:World}
 (h:∀K':Act->World->Prop,Shut (∀a w,S w->Yg P md ops Q S z n (l.setIfInBounds i true) a w->K' a w)->if Region.wanted o (yielded ops a.tmps)=true then Oper.wp P o a w K' Q else K' (a.put o.dst undef) w)
 (hi:Dw ops.toList i=some o:=by exact rfl)(hr:Region.ready md ops l=[i]:=by kernel_rfl):Yg P md ops Q S z (n+1) l a w:=y1R hr (z0u hi) h
theorem Kq{o:Oper}{n:Nat}{l:Array Bool}{a:Act}{w:World}
 (h:∀K':Act->World->Prop,Shut (∀a w,Q .normal a w->K' a w)->if Region.wanted o (yielded ops a.tmps)=true then Oper.wp P o a w K' Q else K' (a.put o.dst undef) w)
 (hi:Dw ops.toList z=some o:=by exact rfl)(hr:Region.ready md ops l=[z]:=by kernel_rfl)(hl:Region.ready md ops (l.setIfInBounds z true)=[]:=by kernel_rfl):Yg P md ops Q S z (n+1) l a w:=y1S hr hl (z0u hi) h
theorem Vw{id:Nat}{a:Act}{w:World}(z:Nat)(S:World->Prop)(hm:P.follows .mixedOrders=true)(hS:S w.drew)
  (h:S w.drew->Yg P .any ops Q S z ops.size (Array.replicate ops.size false) a w.drew):(Code.region id ops true).wp P Q a w:=
 wp_region_any hm (z0t _ _ _ _ (h hS))
end
end
section
open Go.RowKit Go.Shelf
section
variable {rs:List Rr} {T:ByteArray} {mB:Nat} {L:Nat->Prop} {pv sv:Value} {M:Nat}
theorem y1T{N:ByteArray}{a b c d:Int}{s:List RT}{p:Int}(i k c1 c2:Nat)(w:World)(h1:Hm w mB L c1)(h2:Hb w mB L c2 #[.string N] 9)(hs:Smn w mB T pv sv (k+1) M)(hk:k+1<=M)(hi:i<=T.size)(hT:T.size<=4096):
  Calls prog 162 #[.int .i64 i,.pointer (some ⟨c1,0,none⟩),.pointer (some ⟨c2,0,none⟩)] w (Po rs T mB pv sv M (.one (.mk 2 N a b c d s p)) i k w):=by
 obtain⟨x0,_⟩:=Qk h1.2;obtain⟨y0,_⟩:=Qk h2.2;obtain⟨⟨m0,_⟩,_⟩:=Jz hs;have l1:=Qz h1.2;have l2:=Qz h2.2;have lm:=Qz hs;have S0:(fun W:World=>W.cell? ⟨c1,0,none⟩=some (.pointer (some ⟨mB,0,none⟩))/\W.cell? ⟨mB,0,none⟩=some (.string T)/\W.cell? ⟨c2,0,none⟩=some (.string N)) w.drew:=⟨x0,m0,y0⟩;have HF:=hid (Po.ok (rs:=rs) (T:=T) (pv:=pv) (sv:=sv) (k:=k) (G.below (Below.refl _ w).drew) (Mt.lit (B:=bdR rs) (T:=T) (N:=N) (a:=a) (b:=b) (c:=c) (d:=d) (s:=s) (p:=p) (i:=i)) rfl hk hs);have HL:=hid (fun h=>z3K (N:=N) (T:=T) hi h);have HPf:Hid (∀w:World,Calls prog 102 #[.string (T.extract i T.size),.string N] w fun e w'=>e=.returned (.bool (Gd N T i))/\w'=w):=fun w=>z1r _ _ w
 obtain⟨q,hq⟩:∃q,q=Gd N T i:=⟨_,rfl⟩;rw[<-hq]at HF HPf HL;have hiI:(i:Int)<=(T.size:Int):=by omega
 clear hs h1 h2 hq hk;go_enter func162,ntmps162
 go_wp2_with fail
 go_region_held3 (fun W:World=>W.cell? ⟨c1,0,none⟩=some (.pointer (some ⟨mB,0,none⟩))/\W.cell? ⟨mB,0,none⟩=some (.string T)/\W.cell? ⟨c2,0,none⟩=some (.string N)) (with_reducible assumption) (first
  |(go_at_call 102;refine(HPf.out _).mono ?_;rintro e w4 ⟨rfl,rfl⟩))
 cases q with
 |false=>
  dsimp only[eI,Yj]at HF
  go_wp2_with fail
  go_ret;exact HF.out
 |true=>
  have hl:=HL.out rfl;have hwr:IntKind.i64.wrap ((i:Int)+(N.size:Int))=(i:Int)+(N.size:Int):=by rw[IntKind.wrap_i64];omega
  have e1:eI (Yj true (i+N.size))=(i:Int)+(N.size:Int):=rfl;rw[e1]at HF;clear HL hl
  go_wp2_with fail
  go_ret;exact HF.out
theorem y1U{W W':World}{a0 a1 a2 a3 a4 a5:Addr}{v0 v1 v2 v3 v4 v5:Value}(h:W.cell? a0=some v0/\W.cell? a1=some v1/\W.cell? a2=some v2/\W.cell? a3=some v3/\W.cell? a4=some v4/\W.cell? a5=some v5)(hb:Below W.heap.size W W'):W'.cell? a0=some v0/\W'.cell? a1=some v1/\W'.cell? a2=some v2/\W'.cell? a3=some v3/\W'.cell? a4=some v4/\W'.cell? a5=some v5:=by
 obtain⟨z0,z1,z2,z3,z4,z5⟩:=h;have e:∀{a:Addr} {u:Value},W.cell? a=some u->W'.cell? a=some u:=fun{a u} h=>(hb.cell (p:=a) (World.block_lt_of_cell? W _ h)).trans h
 exact⟨e z0,e z1,e z2,e z3,e z4,e z5⟩
theorem z4y{J:Jb}(C i k c1 c2:Nat)(w:World)(hm:Mt (bdR rs) T J i (Yj (Yw C T i) (i+1)) 1)(h1:Hm w mB L c1)(h2:Hb w mB L c2 (cA C) 51)(hs:Smn w mB T pv sv (k+1) M)(hk:k+1<=M)(hi:i<=T.size)(hT:T.size<=4096):
  Calls prog 163 #[.int .i64 i,.pointer (some ⟨c1,0,none⟩),.pointer (some ⟨c2,0,none⟩)] w (Po rs T mB pv sv M J i k w):=by
 obtain⟨x0,_⟩:=Qk h1.2;have y0:=(Qf h2.2 0 _ rfl).1;have y1:=(Qf h2.2 1 _ rfl).1;have y2:=(Qf h2.2 2 _ rfl).1;have y3:=(Qf h2.2 3 _ rfl).1;obtain⟨⟨m0,_⟩,_⟩:=Jz hs;have l1:=Qz h1.2;have l2:=Qz h2.2;have lm:=Qz hs;have HS0:Hid (w.drew.cell? ⟨c1,0,none⟩=some (.pointer (some ⟨mB,0,none⟩))/\w.drew.cell? ⟨mB,0,none⟩=some (.string T)/\w.drew.cell? ⟨c2,0,none⟩=some (.int .u64 (wd C 0))/\w.drew.cell? ⟨c2,1,none⟩=some (.int .u64 (wd C 1))/\w.drew.cell? ⟨c2,2,none⟩=some (.int .u64 (wd C 2))/\w.drew.cell? ⟨c2,3,none⟩=some (.int .u64 (wd C 3))):=⟨x0,m0,y0,y1,y2,y3⟩;have HF:=hid (fun(w':World) (hb:Below w.drew.heap.size w.drew w')=>Po.ok (rs:=rs) (T:=T) (pv:=pv) (sv:=sv) (k:=k) (G.below (((Below.refl _ w).drew).trans hb)) hm rfl hk ((hb.block mB lm).trans hs));have hTI:(T.size:Int)<=4096:=by omega
 clear hs h1 h2 hm hk;cases hx:bt T i with
 |none=>
  have hge:=Xj hx;obtain rfl:i=T.size:=by omega
  have e1:Yw C T T.size=false:=by
   cases e:Yw C T T.size with
   |false=>rfl
   |true=>have:=z3L e;omega
  have HG:=hid (HF.out _ B0q);rw[e1]at HG;dsimp only[eI,Yj]at HG;clear HF hx hge e1 hi;go_enter func163,ntmps163
  go_wp2_with fail
  refine Vw 99 (fun W:World=>W.cell? ⟨c1,0,none⟩=some (.pointer (some ⟨mB,0,none⟩))/\W.cell? ⟨mB,0,none⟩=some (.string T)/\W.cell? ⟨c2,0,none⟩=some (.int .u64 (wd C 0))/\W.cell? ⟨c2,1,none⟩=some (.int .u64 (wd C 1))/\W.cell? ⟨c2,2,none⟩=some (.int .u64 (wd C 2))/\W.cell? ⟨c2,3,none⟩=some (.int .u64 (wd C 3))) (by kernel_rfl) HS0.out (fun hHeld=> ?_);refine Qx 0 hHeld ?_;refine Qx 1 hHeld ?_;refine Qx 2 hHeld ?_;refine Qx 3 hHeld ?_;refine Qx 4 hHeld ?_;refine Qx 5 hHeld ?_;refine Qx 6 hHeld ?_;refine Qx 7 hHeld ?_;refine Qx 8 hHeld ?_;refine Qx 9 hHeld ?_;refine Qx 10 hHeld ?_;refine Qx 11 hHeld ?_;refine Qx 12 hHeld ?_;refine Qx 13 hHeld ?_;refine Qx 14 hHeld ?_
  first
   |(refine Kz (i:=15) (oi:=({dst:=some 20,op:=Op.call {callee:=Callee.value (Operand.func 36),args:=#[Operand.tmp 13,Operand.tmp 19],argTypes:=#[51,5]},type:=4,pos:="ford.go:144",after:=#[{on:=8,ground:=Ground.data},{on:=14,ground:=Ground.data},{on:=7,ground:=Ground.chain},{on:=7,ground:=Ground.guard}],guard:=some (7,false)}:Oper)) (v:=undef) rfl (by kernel_rfl) (by kernel_rfl) (by kernel_rfl) (fun _ _ _ h=>h) (Or.inr ⟨by rfl,rfl⟩) hHeld ?_)
   |(refine Zy 15 (fun K hK=> ?_);fail)
  (try simp only[Act.put,List.setIfInBounds_toArray,List.set_cons_zero,List.set_cons_succ])
  refine Qx 16 hHeld ?_;refine Qx 17 hHeld ?_;refine⟨by kernel_rfl,?_⟩;clear hHeld HS0
  go_wp2_with fail
  go_ret;exact HG.out
 |some x=>
  have hxl:=(Qb hx).2;obtain⟨hk',hxx⟩:=Zd hx;have e1:Yw C T i=C.testBit x:=by
   unfold Yw;rw[Array.getElem?_eq_getElem (show i<T.data.size from hk')];show C.testBit (T[i]).toNat=_;rw[hxx]
  have hne:((i:Int) == (T.size:Int))=false:=by simp;omega
  have hkI:(i:Int)<(T.size:Int):=by omega
  have hwr:IntKind.i64.wrap ((i:Int)+1)=(i:Int)+1:=by rw[IntKind.wrap_i64];omega
  rw[e1]at HF;obtain⟨q,hq⟩:∃q,q=C.testBit x:=⟨_,rfl⟩;have HH:Hid (∀W:World,Calls prog 36 #[.agg (cA C),.int .u8 x] W fun e w'=>e=.returned (.bool q)/\Below W.heap.size W w'):=fun W=>by rw[hq];exact z4s C x W hxl
  rw[<-hq]at HF;dsimp only[cA]at HH;clear hx e1 hq hi;go_enter func163,ntmps163
  go_wp2_with fail
  refine Vw 99 (fun W:World=>W.cell? ⟨c1,0,none⟩=some (.pointer (some ⟨mB,0,none⟩))/\W.cell? ⟨mB,0,none⟩=some (.string T)/\W.cell? ⟨c2,0,none⟩=some (.int .u64 (wd C 0))/\W.cell? ⟨c2,1,none⟩=some (.int .u64 (wd C 1))/\W.cell? ⟨c2,2,none⟩=some (.int .u64 (wd C 2))/\W.cell? ⟨c2,3,none⟩=some (.int .u64 (wd C 3))) (by kernel_rfl) HS0.out (fun hHeld=> ?_);refine Qx 0 hHeld ?_;refine Qx 1 hHeld ?_;refine Qx 2 hHeld ?_;refine Qx 3 hHeld ?_;refine Qx 4 hHeld ?_;refine Qx 5 hHeld ?_;refine Qx 6 hHeld ?_;refine Qx 7 hHeld ?_;refine Qx 8 hHeld ?_;refine Qx 9 hHeld ?_;refine Qx 10 hHeld ?_;refine Qx 11 hHeld ?_;refine Qx 12 hHeld ?_;refine Qx 13 hHeld ?_;refine Qx 14 hHeld ?_
  first
   |(refine Kz (i:=15) (oi:=({dst:=some 20,op:=Op.call {callee:=Callee.value (Operand.func 36),args:=#[Operand.tmp 13,Operand.tmp 19],argTypes:=#[51,5]},type:=4,pos:="ford.go:144",after:=#[{on:=8,ground:=Ground.data},{on:=14,ground:=Ground.data},{on:=7,ground:=Ground.chain},{on:=7,ground:=Ground.guard}],guard:=some (7,false)}:Oper)) (v:=undef) rfl (by kernel_rfl) (by kernel_rfl) (by kernel_rfl) (fun _ _ _ h=>h) (Or.inr ⟨by rfl,rfl⟩) hHeld ?_)
   |(refine Zy 15 (fun K hK=> ?_);go_simp;refine(HH.out _).mono ?_;rintro e w4 ⟨rfl,hb4⟩;go_simp;replace hHeld:=y1U hHeld hb4;have HB4:=hid hb4;clear hb4;refine hK.out _ _ hHeld ?_;clear hK K)
  (try simp only[Act.put,List.setIfInBounds_toArray,List.set_cons_zero,List.set_cons_succ])
  refine Qx 16 hHeld ?_;refine Qx 17 hHeld ?_;refine⟨by kernel_rfl,?_⟩;clear hHeld HS0;have HG:=hid (HF.out _ HB4.out);clear HF;cases q with
  |false=>
   dsimp only[eI,Yj]at HG
   go_wp2_with fail
   go_ret;exact HG.out
  |true=>
   have e2:eI (Yj true (i+1))=(i:Int)+1:=rfl;rw[e2]at HG
   go_wp2_with fail
   go_ret;exact HG.out
end
end
open Go.RowKit Go.Shelf Go.Maps
theorem y1V{W W':World}{g:Nat}{a b c d e:Value}(h:W.cell? ⟨g,0,none⟩=some a/\W.cell? ⟨g,1,none⟩=some b/\W.cell? ⟨g,2,none⟩=some c/\W.cell? ⟨g,3,none⟩=some d/\W.cell? ⟨g,4,none⟩=some e)(hb:Below W.heap.size W W'):W'.cell? ⟨g,0,none⟩=some a/\W'.cell? ⟨g,1,none⟩=some b/\W'.cell? ⟨g,2,none⟩=some c/\W'.cell? ⟨g,3,none⟩=some d/\W'.cell? ⟨g,4,none⟩=some e:=by
 have k:∀{p:Addr} {u:Value},W.cell? p=some u->W'.cell? p=some u:=fun{p u} hp=>(hb.cell (p:=p) (World.block_lt_of_cell? W _ hp)).trans hp
 exact⟨k h.1,k h.2.1,k h.2.2.1,k h.2.2.2.1,k h.2.2.2.2⟩
theorem y1W(C:Nat)(T:ByteArray)(w:World)(hT:T.size<=9223372036854775807):
  Calls prog 19 #[.agg #[.int .u64 (wd C 0),.int .u64 (wd C 1),.int .u64 (wd C 2),.int .u64 (wd C 3),.bool true],.string T,.int .i64 (T.size:Int)] w fun e w'=>e=.returned (.bool true)/\Below w.heap.size w w':=by
 have a1:decide ((T.size:Int)<0)=false:=by simp
 have a2:decide ((T.size:Int)<(T.size:Int))=false:=by simp
 have HB:Hid (Below w.heap.size w (w.alloc (.cells #[.int .u64 (wd C 0),.int .u64 (wd C 1),.int .u64 (wd C 2),.int .u64 (wd C 3),.bool true] 53))):=(Below.refl _ w).alloc L0q _;go_enter func19,ntmps19
 go_wp2_with fail
 go_ret;exact⟨rfl,HB.out⟩
theorem y1X(C:Nat)(en:Bool)(T:ByteArray)(i x:Nat)(w:World)(hx:bt T i=some x)(hc:C.testBit x=true)(hT:T.size<=9223372036854775807):
  Calls prog 19 #[.agg #[.int .u64 (wd C 0),.int .u64 (wd C 1),.int .u64 (wd C 2),.int .u64 (wd C 3),.bool en],.string T,.int .i64 i] w fun e w'=>e=.returned (.bool true)/\Below w.heap.size w w':=by
 have hxl:=(Qb hx).2;obtain⟨hk',hxx⟩:=Zd hx;have a1:decide ((i:Int)<0)=false:=by simp
 have a2:decide ((T.size:Int)<(i:Int))=false:=by simp;omega
 have hne:((i:Int) == (T.size:Int))=false:=by simp;omega
 have hkI:(i:Int)<(T.size:Int):=by omega
 have HH:Hid (∀W:World,Calls prog 36 #[.agg (cA C),.int .u8 x] W fun e w'=>e=.returned (.bool true)/\Below W.heap.size W w'):=fun W=>by rw[<-hc];exact z4s C x W hxl
 dsimp only[cA]at HH;obtain⟨W,hW⟩:∃W,W=w.alloc (.cells #[.int .u64 (wd C 0),.int .u64 (wd C 1),.int .u64 (wd C 2),.int .u64 (wd C 3),.bool en] 53):=⟨_,rfl⟩;obtain⟨g,hg⟩:∃g,g=w.heap.size:=⟨_,rfl⟩;have h0:W.heap[g]? =some (.cells #[.int .u64 (wd C 0),.int .u64 (wd C 1),.int .u64 (wd C 2),.int .u64 (wd C 3),.bool en] 53):=by rw[hW,hg];exact Qq w _ rfl
 have HB:Hid (Below w.heap.size w W.drew):=by rw[hW];exact((Below.refl _ w).alloc L0q _).drew
 have lg:=Qz h0;have HS0:Hid (W.drew.cell? ⟨g,0,none⟩=some (.int .u64 (wd C 0))/\W.drew.cell? ⟨g,1,none⟩=some (.int .u64 (wd C 1))/\W.drew.cell? ⟨g,2,none⟩=some (.int .u64 (wd C 2))/\W.drew.cell? ⟨g,3,none⟩=some (.int .u64 (wd C 3))/\W.drew.cell? ⟨g,4,none⟩=some (.bool en)):=⟨(Qf h0 0 _ rfl).1,(Qf h0 1 _ rfl).1,(Qf h0 2 _ rfl).1,(Qf h0 3 _ rfl).1,(Qf h0 4 _ rfl).1⟩;have HW:=hid hW;have HG:=hid hg;clear hx hc h0 hW hg;go_enter func19,ntmps19
 go_wp2_with fail
 rw[<-HW.out,<-HG.out];refine Vw 99 (fun W:World=>W.cell? ⟨g,0,none⟩=some (.int .u64 (wd C 0))/\W.cell? ⟨g,1,none⟩=some (.int .u64 (wd C 1))/\W.cell? ⟨g,2,none⟩=some (.int .u64 (wd C 2))/\W.cell? ⟨g,3,none⟩=some (.int .u64 (wd C 3))/\W.cell? ⟨g,4,none⟩=some (.bool en)) (by kernel_rfl) HS0.out (fun hHeld=> ?_);refine Qx 0 hHeld ?_;refine Qx 1 hHeld ?_;refine Qx 2 hHeld ?_;refine Qx 3 hHeld ?_;refine Qx 4 hHeld ?_
 (refine Zy 5 (fun K hK=> ?_);go_simp;refine(HH.out _).mono ?_;rintro e w4 ⟨rfl,hb4⟩;go_simp;replace hHeld:=y1V hHeld hb4;have HB4:=hid (HB.out.trans (hb4.mono HB.out.size));clear hb4;refine hK.out _ _ hHeld ?_;clear hK K)
 (try simp only[Act.put,List.setIfInBounds_toArray,List.set_cons_zero,List.set_cons_succ])
 refine Qx 6 hHeld ?_;refine⟨by kernel_rfl,?_⟩;clear hHeld HS0
 go_wp2_with fail
 go_ret;exact⟨rfl,HB4.out⟩
theorem y1Y(C:Nat)(en:Bool)(T:ByteArray)(i:Nat)(w:World)(hm:Jf T (C,en) i)(hi:i<=T.size)(hT:T.size<=9223372036854775807):
  Calls prog 19 #[.agg #[.int .u64 (wd C 0),.int .u64 (wd C 1),.int .u64 (wd C 2),.int .u64 (wd C 3),.bool en],.string T,.int .i64 i] w fun e w'=>e=.returned (.bool true)/\Below w.heap.size w w':=by
 cases hx:bt T i with
 |none=>
  have hge:=Xj hx;obtain rfl:i=T.size:=by omega
  have he:en=true:=hm.2 L0q;subst he;exact y1W C T w hT
 |some x=>
  obtain⟨hk',hxx⟩:=Zd hx;refine y1X C en T i x w hx ?_ hT;have h:=hm.1 T[i] (Array.getElem?_eq_getElem (show i<T.data.size from hk'));rw[hxx]at h;exact h
section
section
variable {rs:List Rr} {T:ByteArray} {mB:Nat} {L:Nat->Prop} {pv sv:Value} {M:Nat}
theorem Po.ends{J:Jb}{i k:Nat}{w w':World}{e:Ending}(h:Po rs T mB pv sv M J i k w e w'):(∃x,e=.returned (.int .i64 x))∨e=.panicked bud:=by
 rcases h with⟨_,⟨x,_,_,_,h,_⟩|⟨_,h,_⟩⟩
 ·exact .inl ⟨_,h⟩
 ·exact .inr h
theorem Po.bod{J:Jb}{i k:Nat}{w w':World}{e:Ending}(h:Po rs T mB pv sv M J i k w e w'):w'.cell? ⟨mB,2,none⟩=some sv:=by
 rcases h with⟨_,⟨x,_,_,_,_,h⟩|⟨_,_,_,h⟩⟩
 ·exact(Jz h).1.2.2.1
 ·exact(Jz h).1.2.2.1
theorem y1Z{W W':World}{b1 b3 b4 o3:Nat}{v0 v1 v2 v3:Value}(h:W.cell? ⟨b1,0,none⟩=some v0/\W.cell? ⟨mB,2,none⟩=some v1/\W.cell? ⟨b3,0,none⟩=some v2/\W.cell? ⟨b4,o3,none⟩=some v3)(hg:W.grownBy W' (some mB))(n1:b1≠mB)(n2:b3≠mB)(n3:b4≠mB)(h2:W'.cell? ⟨mB,2,none⟩=some v1):W'.cell? ⟨b1,0,none⟩=some v0/\W'.cell? ⟨mB,2,none⟩=some v1/\W'.cell? ⟨b3,0,none⟩=some v2/\W'.cell? ⟨b4,o3,none⟩=some v3:=
 ⟨hg.cell h.1 (fun e=>n1 (Option.some.inj e)),h2,hg.cell h.2.2.1 (fun e=>n2 (Option.some.inj e)),hg.cell h.2.2.2 (fun e=>n3 (Option.some.inj e))⟩
theorem y2a{N:ByteArray}{a b c d:Int}{s:List RT}{p:Int}(i k j g o n cap c1 c2 b1 b2:Nat)(w:World)(h1:Hm w mB L c1)(h2:Hb w mB L c2 #[.int .i64 j] 3)(hsv:sv=.slice (some ⟨g,o,none⟩) n cap)(hg:g≠mB)(hj:j<n)(hn:n<=1048576)(hc:w.cell? ⟨g,o+j,none⟩=some (fq2 72 b1 b2))(hs:Smn w mB T pv sv (k+1) M)
  (HP:Hid (Calls prog 72 #[.int .i64 i,.pointer (some ⟨b1,0,none⟩),.pointer (some ⟨b2,0,none⟩)] w.drew (Po rs T mB pv sv M (.one (.mk 5 N a b c d s p)) i k w.drew))):
  Calls prog 164 #[.int .i64 i,.pointer (some ⟨c1,0,none⟩),.pointer (some ⟨c2,0,none⟩)] w (Po rs T mB pv sv M (.one (.mk 5 N a b c d s p)) i k w):=by
 subst hsv;obtain⟨x0,_⟩:=Qk h1.2;obtain⟨y0,_⟩:=Qk h2.2;obtain⟨⟨_,_,m2,_⟩,_⟩:=Jz hs;have l1:=Qz h1.2;have l2:=Qz h2.2;have lm:=Qz hs;have lg:g<w.heap.size:=World.block_lt_of_cell? w _ hc;have HS0:Hid (w.drew.cell? ⟨c1,0,none⟩=some (.pointer (some ⟨mB,0,none⟩))/\w.drew.cell? ⟨mB,2,none⟩=some (.slice (some ⟨g,o,none⟩) n cap)/\w.drew.cell? ⟨c2,0,none⟩=some (.int .i64 j)/\w.drew.cell? ⟨g,o+j,none⟩=some (fq2 72 b1 b2)):=⟨x0,m2,y0,hc⟩;have HN1:=hid h1.1;have HN2:=hid h2.1;have HN3:=hid hg;have HDr:Hid (w.grownBy w.drew (some mB)):=G.below (Below.refl _ w).drew;have hjI:(j:Int)<(n:Int):=by omega
 clear h1 h2 hg hc hs;dsimp only[fq2]at HS0;go_enter func164,ntmps164
 go_wp2_with fail
 refine Vw 99 (fun W:World=>W.cell? ⟨c1,0,none⟩=some (.pointer (some ⟨mB,0,none⟩))/\W.cell? ⟨mB,2,none⟩=some (.slice (some ⟨g,o,none⟩) n cap)/\W.cell? ⟨c2,0,none⟩=some (.int .i64 j)/\W.cell? ⟨g,o+j,none⟩=some (fq2 72 b1 b2)) (by kernel_rfl) HS0.out (fun hHeld=> ?_);refine Qx 0 hHeld ?_;refine Qx 1 hHeld ?_;refine Qx 2 hHeld ?_;refine Qx 3 hHeld ?_;refine Qx 4 hHeld ?_;refine Qx 5 hHeld ?_;refine Qx 6 hHeld ?_;refine Qx 7 hHeld ?_
 (refine Zy 8 (fun K hK=> ?_);go_simp;refine HP.out.mono ?_;rintro e w4 he;obtain⟨x,hx⟩|hx:=he.ends;rotate_left;(subst hx;have HF:=hid (Po.from HDr.out he);clear he;go_simp;exact⟨rfl,HF.out⟩);subst hx;have HF:=hid (Po.from HDr.out he);go_simp;replace hHeld:=y1Z hHeld he.1 HN1.out HN2.out HN3.out he.bod;refine hK.out _ _ hHeld ?_;clear hK K he)
 (try simp only[Act.put,List.setIfInBounds_toArray,List.set_cons_zero,List.set_cons_succ])
 refine Qx 9 hHeld ?_;refine⟨by kernel_rfl,?_⟩;clear hHeld HS0
 go_wp2_with fail
 go_ret;exact HF.out
end
end
section
section
variable {rs:List Rr} {T:ByteArray} {mB:Nat} {L:Nat->Prop} {pv sv:Value} {M:Nat}
theorem y2b{N:ByteArray}{a b c d:Int}{s:List RT}{p:Int}(i k g o n cap c1:Nat)(w:World)(hc:w.heap[c1]? =some (.cells #[.slice (some ⟨g,o,none⟩) n cap] 103))(hn:n=s.length)(hn1:n<=1048576)(hg:g≠mB)(hi:i<=T.size)(hs:Smn w mB T pv sv (k+1) M)(hk:k+1<=M)
  (HP:Hid (∀j (hj:j<s.length),∃b1 b2,w.cell? ⟨g,o+j,none⟩=some (fq2 72 b1 b2)/\∀(W:World) (i' k':Nat),w.grownBy W (some mB)->Smn W mB T pv sv k' M->k+1<=k'->k'<=M->i'<=T.size->Calls prog 72 #[.int .i64 i',.pointer (some ⟨b1,0,none⟩),.pointer (some ⟨b2,0,none⟩)] W (Po rs T mB pv sv M (.one s[j]) i' k' W))):
  Calls prog 165 #[.int .i64 i,.pointer (some ⟨c1,0,none⟩)] w (Po rs T mB pv sv M (.one (.mk 6 N a b c d s p)) i k w):=by
 obtain⟨x0,_⟩:=Qk hc;have l0:=Qz hc;have HSm:=hid hs;have HNl:Hid (n=s.length):=hn;clear hc hs hn;go_enter func165,ntmps165
 go_wp2_with fail
 go_loopw [0,8] (fun u v wr=>∃j i' k':Nat,u=.int .i64 i'/\v=.int .i64 j/\j<=n/\i'<=T.size/\k'<=M/\k+1<=k'/\Hid (Ri (bdR rs) T (.one (.mk 6 N a b c d s p)) i k (.row (s.drop j)) i' k')/\Hid (w.grownBy wr (some mB))/\Hid (Smn wr mB T pv sv k' M)) (fun _ v _=>n-(intOf v).toNat)
 case atStart=>exact⟨0,i,k+1,rfl,rfl,Nat.zero_le _,hi,hk,Nat.le_refl _,hid (by rw[List.drop_zero];exact Ri.seq),hid (G.refl _ _),HSm⟩
 case round=>
  obtain⟨j,i',k',rfl,rfl,hj,hi',hk',hkk,HR,HG,HSr⟩:=hrel;by_cases hjn:j<n
  ·have hjI:(j:Int)<(n:Int):=by omega
   have a0:decide ((j:Int)<(n:Int))=true:=by simp;omega
   have hjs:j<s.length:=by have:=HNl.out;omega
   obtain⟨b1,b2,hcell,hcal⟩:=HP.out j hjs;have y0:=HG.out.cell hcell (fun e=>hg (Option.some.inj e));have lg:g<wr.heap.size:=World.block_lt_of_cell? wr _ y0;have HC:=hid (hcal wr i' k' HG.out HSr.out hkk hk' hi');rw[List.drop_eq_getElem_cons hjs]at HR;clear hcell hcal x0;dsimp only[fq2]at y0
   go_wp2_with fail
   refine HC.out.mono ?_;rintro e w1 ⟨hg1,⟨x,m,hm,hk1,rfl,hs1⟩|⟨hno,rfl,hs1⟩⟩
   rotate_left
   ·have HF:=hid (Po.no (rs:=rs) (T:=T) (pv:=pv) (sv:=sv) (k:=k) (G.trans HG.out hg1) (HR.out.over (y1D hno)) hs1)
    clear hno hs1 hg1
    go_wp2_with fail
    exact⟨rfl,HF.out⟩
   have hdone:=fun{x c}=>HR.out.done (x:=x) (c:=c)
   cases x with
   |none=>
    obtain⟨c0,hc0,ec0⟩:=hdone (.row_no hm);have HF:=hid (Po.ok (rs:=rs) (T:=T) (pv:=pv) (sv:=sv) (k:=k) (G.trans HG.out hg1) hc0 ec0.symm hk1 hs1);dsimp only[eI]at HF ⊢;clear hm hs1 hg1 hdone hc0 ec0
    go_wp2_with fail
    go_ret;exact HF.out
   |some y=>
    have hy:¬(y:Int)= -1:=by omega
    have hly:=(Cp hm hi' y rfl).2;have HR1:=hid (HR.out.row hm);have HG1:=hid (G.trans HG.out hg1);have HS1:=hid hs1;dsimp only[eI]at ⊢;clear hm hs1 hg1 hdone
    go_wp2_with fail
    exact⟨⟨j+1,y,k'+m,rfl,by go_num,by omega,hly,hk1,by omega,HR1,HG1,HS1⟩,by simp[intOf];omega⟩
  ·have a0:decide ((j:Int)<(n:Int))=false:=by simp;omega
   have hjI:¬(j:Int)<(n:Int):=by omega
   have hnl:=HNl.out;obtain⟨c0,hc0,ec0⟩:=HR.out.done (x:=some i') (c:=0) (by rw[List.drop_of_length_le (by omega)];exact Mt.row_nil);rw[Nat.add_zero]at ec0;have HF:=hid (Po.ok (rs:=rs) (T:=T) (pv:=pv) (sv:=sv) (k:=k) HG.out hc0 ec0.symm hk' HSr.out);dsimp only[eI]at HF;clear hc0 ec0 hnl x0
   go_wp2_with fail
   go_ret;exact HF.out
theorem y2c{N:ByteArray}{a b c d:Int}{s:List RT}{p:Int}(i k g o n cap c1:Nat)(w:World)(hc:w.heap[c1]? =some (.cells #[.slice (some ⟨g,o,none⟩) n cap] 103))(hn:n=s.length)(hn1:n<=1048576)(hg:g≠mB)(hi:i<=T.size)(hs:Smn w mB T pv sv (k+1) M)(hk:k+1<=M)
  (HP:Hid (∀j (hj:j<s.length),∃b1 b2,w.cell? ⟨g,o+j,none⟩=some (fq2 72 b1 b2)/\∀(W:World) (i' k':Nat),w.grownBy W (some mB)->Smn W mB T pv sv k' M->k+1<=k'->k'<=M->i'<=T.size->Calls prog 72 #[.int .i64 i',.pointer (some ⟨b1,0,none⟩),.pointer (some ⟨b2,0,none⟩)] W (Po rs T mB pv sv M (.one s[j]) i' k' W))):
  Calls prog 166 #[.int .i64 i,.pointer (some ⟨c1,0,none⟩)] w (Po rs T mB pv sv M (.one (.mk 7 N a b c d s p)) i k w):=by
 obtain⟨x0,_⟩:=Qk hc;have l0:=Qz hc;have HSm:=hid hs;have HNl:Hid (n=s.length):=hn;clear hc hs hn;go_enter func166,ntmps166
 go_wp2_with fail
 go_loopw [9] (fun v wr=>∃j k':Nat,v=.int .i64 j/\j<=n/\k'<=M/\k+1<=k'/\Hid (Ri (bdR rs) T (.one (.mk 7 N a b c d s p)) i k (.alt (s.drop j)) i k')/\Hid (w.grownBy wr (some mB))/\Hid (Smn wr mB T pv sv k' M)) (fun v _=>n-(intOf v).toNat)
 case atStart=>exact⟨0,k+1,rfl,Nat.zero_le _,hk,Nat.le_refl _,hid (by rw[List.drop_zero];exact Ri.cho),hid (G.refl _ _),HSm⟩
 case round=>
  obtain⟨j,k',rfl,hj,hk',hkk,HR,HG,HSr⟩:=hrel;by_cases hjn:j<n
  ·have hjI:(j:Int)<(n:Int):=by omega
   have a0:decide ((j:Int)<(n:Int))=true:=by simp;omega
   have hjs:j<s.length:=by have:=HNl.out;omega
   obtain⟨b1,b2,hcell,hcal⟩:=HP.out j hjs;have y0:=HG.out.cell hcell (fun e=>hg (Option.some.inj e));have lg:g<wr.heap.size:=World.block_lt_of_cell? wr _ y0;have HC:=hid (hcal wr i k' HG.out HSr.out hkk hk' hi);rw[List.drop_eq_getElem_cons hjs]at HR;clear hcell hcal x0;dsimp only[fq2]at y0
   go_wp2_with fail
   refine HC.out.mono ?_;rintro e w1 ⟨hg1,⟨x,m,hm,hk1,rfl,hs1⟩|⟨hno,rfl,hs1⟩⟩
   rotate_left
   ·have HF:=hid (Po.no (rs:=rs) (T:=T) (pv:=pv) (sv:=sv) (k:=k) (G.trans HG.out hg1) (HR.out.over (y1E hno)) hs1)
    clear hno hs1 hg1
    go_wp2_with fail
    exact⟨rfl,HF.out⟩
   have hdone:=fun{x c}=>HR.out.done (x:=x) (c:=c)
   cases x with
   |some y=>
    obtain⟨c0,hc0,ec0⟩:=hdone (.alt_ok hm);have HF:=hid (Po.ok (rs:=rs) (T:=T) (pv:=pv) (sv:=sv) (k:=k) (G.trans HG.out hg1) hc0 ec0.symm hk1 hs1);have hy:¬(y:Int)= -1:=by omega
    dsimp only[eI]at HF ⊢;clear hm hs1 hg1 hdone hc0 ec0
    go_wp2_with fail
    go_ret;exact HF.out
   |none=>
    have HR1:=hid (HR.out.alt hm);have HG1:=hid (G.trans HG.out hg1);have HS1:=hid hs1;dsimp only[eI]at ⊢;clear hm hs1 hg1 hdone
    go_wp2_with fail
    exact⟨⟨j+1,k'+m,by go_num,by omega,hk1,by omega,HR1,HG1,HS1⟩,by simp[intOf];omega⟩
  ·have a0:decide ((j:Int)<(n:Int))=false:=by simp;omega
   have hjI:¬(j:Int)<(n:Int):=by omega
   have hnl:=HNl.out;obtain⟨c0,hc0,ec0⟩:=HR.out.done (x:=none) (c:=0) (by rw[List.drop_of_length_le (by omega)];exact Mt.alt_nil);rw[Nat.add_zero]at ec0;have HF:=hid (Po.ok (rs:=rs) (T:=T) (pv:=pv) (sv:=sv) (k:=k) HG.out hc0 ec0.symm hk' HSr.out);dsimp only[eI]at HF;clear hc0 ec0 hnl x0
   go_wp2_with fail
   go_ret;exact HF.out
end
end
section
section
variable {rs:List Rr} {T:ByteArray} {mB:Nat} {L:Nat->Prop} {pv sv:Value} {M:Nat}
theorem z4z{J0:Jb}{t:RT}(i0 k0 i k c1 b1 b2:Nat)(w:World)(hc:w.heap[c1]? =some (.cells #[fq2 72 b1 b2] 107))(hne:c1≠mB)(hi:i<=T.size)(hs:Smn w mB T pv sv k M)(hk:k<=M)(hR:Ri (bdR rs) T J0 i0 k0 (.rep t) i k)
  (HP:Hid (∀(W:World) (i' k':Nat),w.grownBy W (some mB)->Smn W mB T pv sv k' M->k<=k'->k'<=M->i'<=T.size->Calls prog 72 #[.int .i64 i',.pointer (some ⟨b1,0,none⟩),.pointer (some ⟨b2,0,none⟩)] W (Po rs T mB pv sv M (.one t) i' k' W))):
  Calls prog 168 #[.int .i64 i,.pointer (some ⟨c1,0,none⟩)] w (Po rs T mB pv sv M J0 i0 k0 w):=by
 have HCe:=hid (Qk hc).1;have HSm:=hid hs;have HR0:=hid hR;clear hc hs hR;go_enter func168,ntmps168
 go_wp2_with fail
 go_loopw [0] (fun u wr=>∃i' k':Nat,u=.int .i64 i'/\i'<=T.size/\k'<=M/\k<=k'/\Hid (Ri (bdR rs) T J0 i0 k0 (.rep t) i' k')/\Hid (w.grownBy wr (some mB))/\Hid (Smn wr mB T pv sv k' M)) (fun _ wr=>M-(intOf ((wr.cell? ⟨mB,3,none⟩).getD undef)).toNat)
 case atStart=>exact⟨i,k,rfl,hi,hk,Nat.le_refl _,HR0,hid (G.refl _ _),HSm⟩
 case round=>
  obtain⟨i',k',rfl,hi',hk',hkk,HR,HG,HSr⟩:=hrel;have x0:=HG.out.cell HCe.out (fun e=>hne (Option.some.inj e));have l0:c1<wr.heap.size:=World.block_lt_of_cell? wr _ x0;have HC:=hid (HP.out wr i' k' HG.out HSr.out hkk hk' hi');have HM3:=hid (Jz HSr.out).1.2.2.2.1;dsimp only[fq2]at x0
  go_wp2_with fail
  refine HC.out.mono ?_;rintro e w1 ⟨hg1,⟨x,m,hm,hk1,rfl,hs1⟩|⟨hno,rfl,hs1⟩⟩
  rotate_left
  ·have HF:=hid (Po.no (rs:=rs) (T:=T) (pv:=pv) (sv:=sv) (k:=k0) (G.trans HG.out hg1) (HR.out.over (y1F hno)) hs1)
   clear hno hs1 hg1
   go_wp2_with fail
   exact⟨rfl,HF.out⟩
  cases x with
  |none=>
   obtain⟨c0,hc0,ec0⟩:=HR.out.done (.rep_end hm);have HF:=hid (Po.ok (rs:=rs) (T:=T) (pv:=pv) (sv:=sv) (k:=k0) (G.trans HG.out hg1) hc0 ec0.symm hk1 hs1);dsimp only[eI]at HF ⊢;clear hm hs1 hg1 hc0 ec0
   go_wp2_with fail
   go_ret;exact HF.out
  |some y=>
   have hy:¬(y:Int)= -1:=by omega
   have hly:=(Cp hm hi' y rfl).2;have HR1:=hid (HR.out.rep hm);have HG1:=hid (G.trans HG.out hg1);have HS1:=hid hs1;have hm1:=z3J hm;have HMn:=hid (Jz hs1).1.2.2.2.1;dsimp only[eI]at ⊢;clear hm hs1 hg1
   go_wp2_with fail
   refine⟨⟨y,k'+m,rfl,hly,hk1,by omega,HR1,HG1,HS1⟩,?_⟩;rw[HM3.out,HMn.out];simp[intOf];omega
theorem y2d{N:ByteArray}{a b c d:Int}{t:RT}{r:List RT}{p:Int}(i k c1 c2 c3 b1 b2:Nat)(w:World)(hc:w.heap[c1]? =some (.cells #[fq2 72 b1 b2] 107))(hc2:w.heap[c2]? =some (.cells #[fq1 168 c3] 107))(hn2:c2≠mB)
  (HP:Hid (Calls prog 72 #[.int .i64 i,.pointer (some ⟨b1,0,none⟩),.pointer (some ⟨b2,0,none⟩)] w (Po rs T mB pv sv M (.one t) i (k+1) w)))
  (HR:Hid (∀(W:World) (y n:Nat),w.grownBy W (some mB)->Smn W mB T pv sv (k+1+n) M->k+1+n<=M->Mt (bdR rs) T (.one t) i (some y) n->Calls prog 168 #[.int .i64 y,.pointer (some ⟨c3,0,none⟩)] W (Po rs T mB pv sv M (.one (.mk 10 N a b c d (t::r) p)) i k W))):
  Calls prog 169 #[.int .i64 i,.pointer (some ⟨c1,0,none⟩),.pointer (some ⟨c2,0,none⟩)] w (Po rs T mB pv sv M (.one (.mk 10 N a b c d (t::r) p)) i k w):=by
 obtain⟨x0,_⟩:=Qk hc;have l0:=Qz hc;have HX2:=hid (Qk hc2).1;dsimp only[fq2]at x0;clear hc hc2;go_enter func169,ntmps169
 go_wp2_with fail
 refine HP.out.mono ?_;rintro e w1 ⟨hg,⟨x,n,hm,hk,rfl,hs⟩|⟨hn,rfl,hs⟩⟩
 rotate_left
 ·have HF:=hid (Po.no (rs:=rs) (T:=T) (pv:=pv) (sv:=sv) (k:=k) hg (y1J (N:=N) (a:=a) (b:=b) (c:=c) (d:=d) (r:=r) (p:=p) hn) hs)
  clear hn hg hs
  go_wp2_with fail
  exact⟨rfl,HF.out⟩
 cases x with
 |none=>
  have HF:=hid (Po.ok (rs:=rs) (T:=T) (pv:=pv) (sv:=sv) (k:=k) hg (Mt.plus_no (N:=N) (a:=a) (b:=b) (c:=c) (d:=d) (r:=r) (p:=p) hm) (by omega) hk hs);dsimp only[eI]at HF ⊢;clear hm hk hs hg
  go_wp2_with fail
  go_ret;exact HF.out
 |some y=>
  have hy:¬(y:Int)= -1:=by omega
  have y2:=hg.cell HX2.out (fun e=>hn2 (Option.some.inj e));have l2:c2<w1.heap.size:=World.block_lt_of_cell? w1 _ y2;have HC:=hid (HR.out w1 y n hg hs hk hm);have HG:=hid hg;dsimp only[eI]at ⊢;dsimp only[fq1]at y2;clear hm hk hs hg
  go_wp2_with fail
  refine HC.out.mono ?_;rintro e w2 he;obtain⟨z,hz⟩|hz:=he.ends
  ·subst hz
   have HF:=hid (Po.from HG.out he);clear he
   go_wp2_with fail
   go_ret;exact HF.out
  ·subst hz
   have HF:=hid (Po.from HG.out he);clear he
   go_wp2_with fail
   exact⟨rfl,HF.out⟩
end
end
end Go.Proofs.YtgmcjddjdidpjaaGreatDoor
