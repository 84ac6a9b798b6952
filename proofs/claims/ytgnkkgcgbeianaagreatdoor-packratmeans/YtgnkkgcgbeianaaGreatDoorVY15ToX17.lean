/- Lemmas for the last text. Conditions: those that each names. -/
import Derived.Test.YtgnkkgcgbeianaaGreatDoorVY13ToY14
import Derived.Defers
import Derived.Recover
import Derived.ChangeKeysEq
import Derived.Laws.StructEq
import Derived.Test.YtgnkkgcgbeianaaGreatDoorVX3ToX16
import Derived.Deep.RegionHeld3
import Derived.Laws.MakeOwn
import Derived.Laws.IdiomStrings
set_option linter.unusedVariables false
set_option maxRecDepth 100000
set_option maxHeartbeats 8000000
namespace Go.Proofs.YtgnkkgcgbeianaaGreatDoor
open Go.Proofs.Tryz
open Go.RowKit
theorem Tryz.asFlt(v:Value)(h:TypeId)(w:World):(Instr.typeAssert (.iface 134 v) h 134 true).run prog w=.ok (.tuple #[v,.bool true]) w:=by kernel_rfl
theorem z8c(p q:Nat)(w:World):
  CallsD prog 59 #[zP p 0,zP q 0] .returning w fun e h w'=>e=.returned (.tuple #[])/\h=.returning/\w'=w:=by
 refine callsD_of_wpS func59 rfl fun o t r=> ?_
 apply wpS_seq;apply wpS_region;simp[wpOpsS,go_sem,recoverD,r,ntmps59,Exit.thenS];refine wpS_of_wp ?_
 go_wp2
 cases o;simp_all[bodyPostS,results,Tryz.results59]
theorem z8d(p q f:Nat)(h:List PanicEntry)(w:World)(t:p≠q)(y:zC w p 0 (.slice none 0 0))(A:w.cell? ⟨q,0,none⟩=some .nilIface)(D:w.frozen? ⟨p,0,none⟩=false)(E:w.frozen? ⟨q,0,none⟩=false):
  CallsD prog 59 #[zP p 0,zP q 0] (.panicking ({v:=.iface 134 (zP f 0),recovered:=false}::h)) w fun e r w'=>
   e=.returned (.tuple #[])/\r=.panicking ({v:=.iface 134 (zP f 0),recovered:=true}::h)/\w'=(w.setCell ⟨p,0,none⟩ (.slice none 0 0)).setCell ⟨q,0,none⟩ (.iface 134 (zP f 0)):=by
 refine callsD_of_wpS func59 rfl fun G I o=> ?_
 apply wpS_seq;apply wpS_region;simp[wpOpsS,go_sem,recoverD,o,ntmps59,Exit.thenS];have U:=Tryz.asFlt;refine wpS_of_wp ?_;rw[show(#[Value.pointer (some ⟨p,0,none⟩),Value.pointer (some ⟨q,0,none⟩)]++(Array.replicate 12 undef).setIfInBounds 3 (Value.iface 134 (Value.pointer (some ⟨f,0,none⟩))))=#[Value.pointer (some ⟨p,0,none⟩),Value.pointer (some ⟨q,0,none⟩),undef,undef,undef,Value.iface 134 (Value.pointer (some ⟨f,0,none⟩)),undef,undef,undef,undef,undef,undef,undef,undef]from rfl];clear o
 go_wp2_with fail
 simp[bodyPostS,results,Tryz.results59]
def Kz(r:(Nat×Nat) ⊕ List Rl)(w:World)(e:Ending)(w':World):Prop:=
 match r with
 | .inr rs=>∃g cap,e=.returned (.tuple #[.agg #[zS g rs.length cap],.nilIface])/\Hid (RoR w.heap.size (zS g rs.length cap) rs w')/\Hid (zB w w')
 | .inl c=>∃f,e=.returned (.tuple #[.agg #[.slice none 0 0],flv f])/\Hid (w.heap.size<=f/\Flt w' f c/\zB w w')
theorem RoR.low{B B':Nat}{pv:Value}{acc:List Rl}{W:World}(h:RoR B pv acc W)(G:B'<=B):RoR B' pv acc W:=by
 obtain⟨xs,⟨a,o⟩,y⟩:=h;refine⟨xs,⟨a,?_⟩,Zb.kept (fun g r A t=>⟨rfl,show B'<=g by have I:B<=g:=A;omega⟩) _ _ y⟩;rcases o with o|⟨D,E,r,t,U,rest⟩
 ·exact .inl o
 ·exact .inr ⟨D,E,r,t,by omega,rest⟩
theorem Below.setNew{w W:World}{g j:Nat}{u:Value}(h:zB w W)(o:w.heap.size<=g):zB w (W.setCell ⟨g,j,none⟩ u):=
 h.grown (G.setR (G.refl W g)) h.size (fun k e=>by have:=Option.some.inj e;omega)
@[reducible] def w3R (w:World) (v:Value):World:=((w.alloc Zg).alloc (.cells #[.nilIface] 30)).alloc (.cells #[v,zI 0,zI 0,zI 0] 144)
theorem z1d(w:World)(v:Value):(w3R w v).heap[w.heap.size]? =some Zg:=
 (Below.heap_alloc _ _ _ (by simp;omega)).trans ((Below.heap_alloc _ _ _ (by simp)).trans (Qx w _ rfl))
theorem z1e(w:World)(v:Value):(w3R w v).heap[w.heap.size+1]? =some (.cells #[.nilIface] 30):=
 (Below.heap_alloc _ _ _ (by simp)).trans (Qx _ _ (by simp))
theorem Qk{w:World}{g:Nat}{a:Value}{t:TypeId}(h:w.heap[g]? =some (.cells #[a] t)):w.cell? ⟨g,0,none⟩=some a/\w.frozen? ⟨g,0,none⟩=false:=by
 constructor<;>simp[World.cell?,World.frozen?,h]
theorem z1f{w:World}{p:Nat}{a b:Value}{s t:TypeId}(h:zH w p (.cells #[a] s))(o:w.heap[p+1]? =some (.cells #[b] t))(x y:Value):
  ((w.setCell ⟨p,0,none⟩ x).setCell ⟨p+1,0,none⟩ y).cell? ⟨p,0,none⟩=some x/\((w.setCell ⟨p,0,none⟩ x).setCell ⟨p+1,0,none⟩ y).cell? ⟨p+1,0,none⟩=some y:=by
 constructor
 ·simp[World.cell?,World.setCell,Array.getElem?_modify,h]
 ·simp[World.cell?,World.setCell,Array.getElem?_modify,o]
theorem z8e(b:Nat)(v:Value)(L:List Tok)(w:World)(Y:w.ownsRow b 139 7 v L.length (tvs L))(hg:Ql L)(ab:0<L.length):
  Calls prog 35 #[v] w fun e w'=>Kz (Dl L) w e w':=by
 have ad:∀(fn:Fn) (first A:Array Value) (w:World),(Instr.makeFunc fn first A).run prog w=.ok (.func fn first A) w:=fun _ _ _ _=>rfl
 obtain⟨g,A,rfl⟩:=Jv Y (by omega);have hR:Rd (w3R w (zS g L.length A)) (w.heap.size+2) b (zS g L.length A) L 0 0 0:=⟨Qx _ _ (by simp),((Y.alloc _).alloc _).alloc _⟩;have r:=hid (z8b (w.heap.size+2) b (w.heap.size+3) _ L _ hg hR ab (by simp));have t:Hid (zB w (w3R w (zS g L.length A))):=((B0q.alloc L0q _).alloc (by simp) _).alloc (by simp<;>omega) _;obtain⟨n,hn⟩:∃n,n=L.length:=⟨_,rfl⟩;rw[<-hn]at r t ⊢;clear hn hR Y;cases hs:Dl L with
 |inl c=>
  rw[hs]at r;clear hs
  go_enter_defers func35,ntmps35
  go_wp2_with fail
  refine r.out.mono ?_;rintro e h ⟨f,rfl,Z,o⟩;have D:Hid (h.heap[w.heap.size]? =some Zg):=(o.out.block _ (by simp;omega) (fun e=>by have:=Option.some.inj e;omega)).trans (z1d w _);have y:Hid (h.heap[w.heap.size+1]? =some (.cells #[.nilIface] 30)):=(o.out.block _ (by simp) (fun e=>by have:=Option.some.inj e;omega)).trans (z1e w _);have E:Hid (zB w h):=t.out.grown o.out t.out.size (fun k e=>by have:=Option.some.inj e;omega);have hf:w.heap.size+3<=f:=by have:=Z.out.1;simp at this;omega
  have HA:Hid (Kz (.inl c) w (.returned (.tuple #[.agg #[.slice none 0 0],.iface 134 (zP f 0)])) ((h.setCell ⟨w.heap.size,0,none⟩ (.slice none 0 0)).setCell ⟨w.heap.size+1,0,none⟩ (.iface 134 (zP f 0)))):=
   ⟨f,rfl,hid ⟨by omega,(Below.heap_setCell _ _ _ _ (show f≠w.heap.size+1 by omega)).trans ((Below.heap_setCell _ _ _ _ (show f≠w.heap.size by omega)).trans Z.out.2),Below.setNew (Below.setNew E.out L0q) (by omega)⟩⟩
  clear r Z o t E
  go_wp2_with fail
  refine leaves_cons (f:=59) (args:=#[zP w.heap.size 0,zP (w.heap.size+1) 0]) (by simp) (by simp[go_sem]) ?_;refine(z8d w.heap.size (w.heap.size+1) f [] h (by omega) (Qk D.out).1 (Qk y.out).1 (Qk D.out).2 (Qk y.out).2).mono ?_;rintro e u' ac ⟨rfl,rfl,rfl⟩;obtain⟨c0,c1⟩:=z1f D.out y.out (.slice none 0 0) (.iface 134 (zP f 0));simp[Leaves,settle,results,Tryz.results35,go_sem,c0,c1];exact HA.out
 |inr rs=>
  rw[hs]at r;clear hs;obtain⟨m,V⟩:∃m,m=rs.length:=⟨_,rfl⟩;have HM:Hid (m=rs.length):=V;clear V
  go_enter_defers func35,ntmps35
  go_wp2_with fail
  refine r.out.mono ?_;rintro e h ⟨I,U,rfl,aa,o⟩;rw[<-HM.out]at aa ⊢;have D:Hid (h.heap[w.heap.size]? =some Zg):=(o.out.block _ (by simp;omega) (fun e=>by have:=Option.some.inj e;omega)).trans (z1d w _);have y:Hid (h.heap[w.heap.size+1]? =some (.cells #[.nilIface] 30)):=(o.out.block _ (by simp) (fun e=>by have:=Option.some.inj e;omega)).trans (z1e w _);have E:Hid (zB w h):=t.out.grown o.out t.out.size (fun k e=>by have:=Option.some.inj e;omega);have ae:w.heap.size+1<h.heap.size:=Qq y.out;have HA:Hid (Kz (.inr rs) w (.returned (.tuple #[.agg #[zS I m U],.nilIface])) ((h.setCell ⟨w.heap.size,0,none⟩ (zS I m U)).setCell ⟨w.heap.size+1,0,none⟩ .nilIface)):=by
   have hr:=(aa.out.grown (G.setR (u:=zS I m U) (j:=0) (G.refl h w.heap.size)) (by omega)).grown (G.setR (u:=.nilIface) (j:=0) (G.refl _ (w.heap.size+1))) (by omega);have V:=HM.out;subst V;exact⟨I,U,rfl,hid (hr.low (by omega)),hid (Below.setNew (Below.setNew E.out L0q) (by omega))⟩
  obtain⟨e0,y0⟩:=Qk D.out;obtain⟨e1,y1⟩:=Qk y.out;clear r aa o t E
  go_wp2_with fail
  refine leaves_cons (f:=59) (args:=#[zP w.heap.size 0,zP (w.heap.size+1) 0]) (by simp) (by simp[go_sem]) ?_;refine(z8c w.heap.size (w.heap.size+1) _).mono ?_;rintro e u' ac ⟨rfl,rfl,rfl⟩;obtain⟨c0,c1⟩:=z1f D.out y.out (zS I m U) .nilIface;simp[Leaves,settle,results,Tryz.results35,go_sem,c0,c1];exact HA.out
def Cf(t:Tok):Prop:=t.1<=5/\(t.1=5->∃x,x<256/\t.2.1=nb [x])
theorem z8f{S:zA}{p x n:Nat}{t:Tok}(r:bt S p=some x)(h:Um S p x=.inr (t,n)):Cf t:=by
 have hx:=(Zj r).2;refine⟨(Nv r h).2.2.2.2.2.1,fun o=> ?_⟩;unfold Um at h;split at h
 ·split at h
  ·cases h
  ·simp only[Sum.inr.injEq,Prod.mk.injEq]at h
   rw[<-h.1]at o;exact absurd o (by show ¬(1:Nat)=5;decide)
 ·split at h
  ·split at h
   ·cases h
   ·simp only[Sum.inr.injEq,Prod.mk.injEq]at h
    rw[<-h.1]at o;exact absurd o (by show ¬(3:Nat)=5;decide)
  ·split at h
   ·split at h
    ·cases h
    ·simp only[Sum.inr.injEq,Prod.mk.injEq]at h
     rw[<-h.1]at o;exact absurd o (by show ¬(4:Nat)=5;decide)
   ·split at h
    ·simp only[Sum.inr.injEq,Prod.mk.injEq]at h
     rw[<-h.1]at o;exact absurd o (by show ¬(2:Nat)=5;decide)
    ·split at h
     ·simp only[Sum.inr.injEq,Prod.mk.injEq]at h
      exact⟨x,hx,by rw[<-h.1]⟩
     ·cases h
theorem z1g(S:zA):∀(f k:Nat) (acc L:List Tok),tkl S f k acc=.inr L->(∀t∈acc,Cf t)->(∀t∈L,Cf t)/\L.length<=acc.length+(S.size-k)
 |0,k,acc,L,h,ha=>by
  rw[tkl]at h;simp only[Sum.inr.injEq]at h;subst h;exact⟨ha,by omega⟩
 |f+1,k,acc,L,h,ha=>by
  rw[tkl]at h;split at h
  ·simp only[Sum.inr.injEq]at h
   subst h;exact⟨ha,by omega⟩
  ·rename_i x o
   split at h
   ·cases h
   ·rename_i t n r
    have y:=Nv o r;have E:=Nw (S:=S) (n:=n) y.2.1;have G:=(Zj o).1;have:=z1g S f (sb S n) (acc++[t]) L h (fun u A=>by
     rcases List.mem_append.1 A with h|h
     ·exact ha u h
     ·simp at h;rw[h];exact z8f o r)
    refine⟨this.1,?_⟩;have D:=this.2;simp at D;omega
theorem z8g{a b:List Tok}{k:Nat}(h:k<a.length):gL (a++b) k=a[k]:=by
 unfold gL;rw[List.getElem?_append_left h,List.getElem?_eq_getElem h];rfl
theorem z8h{a b:List Tok}{k:Nat}(h:a.length<=k):gL (a++b) k=gL b (k-a.length):=by
 unfold gL;rw[List.getElem?_append_right h]
theorem z8i{m:List Tok}{p:Nat}(A:∀t∈m,Cf t)(hl:m.length<=9000):Ql (m++[(6,{data:=#[]},0,p)]):=by
 have r:∀k,m.length<=k->(gL (m++[(6,{data:=#[]},0,p)]) k).1=6:=fun k y=>by
  rw[z8h y]
  match k-m.length with
  |0=>rfl
  |j+1=>rfl
 refine⟨by simp;omega,fun k y D=> ?_,fun k o=> ?_⟩
 ·rcases Nat.lt_or_ge k m.length with h|h
  ·simp;omega
  ·exact absurd (r k h) D
 ·rcases Nat.lt_or_ge k m.length with h|h
  ·rw[z8g h]at o ⊢
   exact(A _ (List.getElem_mem h)).2 o
  ·rw[r k h]at o
   cases o
theorem z8j{S:zA}{L:List Tok}(h:tkS S=.inr L)(y:S.size<=8192):Ql L/\0<L.length:=by
 unfold tkS at h;cases hm:tks S (sb S 0) []with
 |inl c=>rw[hm]at h;cases h
 |inr m=>
  rw[hm]at h;simp only[tkE,Sum.inr.injEq]at h;subst h;have:=z1g S _ _ _ _ hm (fun t o=>by simp at o);exact⟨z8i this.1 (by have r:=this.2;simp at r;omega),by simp⟩
def z8k(r:Tr):(Nat×Nat) ⊕ List Rl:=match r with
 | .inl c=>.inl c
 | .inr L=>Dl L
def Nb(S:zA):(Nat×Nat) ⊕ List Rl:=z8k (tkS S)
theorem z1h{w W:World}{x:Value}(h:Below (w.heap.size+1) (w.alloc Zg) W):W.heap[w.heap.size]? =some Zg/\zB w W/\zB w (W.setCell ⟨w.heap.size,0,none⟩ x):=by
 have r:W.heap[w.heap.size]? =some Zg:=(h.block _ (by omega)).trans (Qx w _ rfl);have o:zB w W:=((Below.refl _ w).alloc L0q Zg).trans (h.mono (by omega));exact⟨r,o,Below.setNew o L0q⟩
def Nd.kd:Nd->Nat
 | .mk k _ _ _ _=>k
theorem Zb.get{w:World}{P:Nat->Prop}:∀(l:List Rl) (vs:List Value) (k:Nat) (o:k<l.length),Zb w P l vs->∃c,Yv w P l[k] c/\∀j u,c[j]? =some u->vs[k*10+j]? =some u
 |[],vs,k,o,_=>by simp at o
 |x::r,vs,0,o,h=>by
  rw[Zb]at h;obtain⟨c,rest,rfl,y,A⟩:=h;refine⟨c,y,fun j u t=> ?_⟩;have hl:j<c.length:=by
   rcases Nat.lt_or_ge j c.length with h|h
   ·exact h
   ·rw[List.getElem?_eq_none h]at t;cases t
  rw[show 0*10+j=j by omega,List.getElem?_append_left hl];exact t
 |x::r,vs,k+1,o,h=>by
  rw[Zb]at h;obtain⟨c,rest,rfl,y,A⟩:=h;have G:=y.len;obtain⟨d,D,E⟩:=Zb.get r rest k (by simp at o;omega) A;refine⟨d,D,fun j u t=> ?_⟩;rw[List.getElem?_append_right (by omega),show(k+1)*10+j-c.length=k*10+j by omega];exact E j u t
theorem RoR.get{B g n A:Nat}{rs:List Rl}{W:World}(h:RoR B (.slice (some ⟨g,0,none⟩) n A) rs W)(k:Nat)(D:k<rs.length):
  ∃c,Yv W (fun g=>B<=g) rs[k] c/\∀j u,c[j]? =some u->W.cell? ⟨g,k*10+j,none⟩=some u:=by
 obtain⟨xs,t,E⟩:=h;obtain⟨c,y,G⟩:=Zb.get rs xs k D E;have U:=y.len;have I:n=rs.length:=by
  obtain⟨_,⟨o,_⟩|⟨V,Y,Z,o,_⟩⟩:=t
  ·cases o
  ·injection o
 subst I;refine⟨c,y,fun j u r=> ?_⟩;have hl:j<c.length:=by
  rcases Nat.lt_or_ge j c.length with h|h
  ·exact h
  ·rw[List.getElem?_eq_none h]at r;cases r
 rw[t.cellAt _ (by omega)];exact G j u r
theorem Tryz.cellsOf52:Tryz.prog.cellsOf 52=1:=by kernel_rfl
theorem Tryz.info52:(Tryz.prog.info? 52).map (fun i=>(i.zero,i.size,i.bytes))=some (some (zU 0),1,8):=by kernel_rfl
theorem Yg(n:Nat)(w:World)(a b c d o r A D:Int):
  (Op.equalIn (n+2) 54 (.agg #[zU a,zU b,zU c,zU d]) (.agg #[zU o,zU r,zU A,zU D])).run prog w=.ok (a == o&&(b == r&&(c == A&&d == D))) w:=by
 obtain⟨i,E⟩:∃i,Tryz.prog.info? 52=some i:=by
  cases h:Tryz.prog.info? 52 with
  |none=>have:=Tryz.info52;rw[h]at this;cases this
  |some i=>exact⟨i,rfl⟩
 have G:Tryz.prog.underlying 54=some (.array 4 52):=by kernel_rfl
 rw[run_equalIn_array w (n+1) _ _ G E,Tryz.cellsOf52];have p:∀(x y z t:Value) (w:World),(part 52 #[x,y,z,t] 0).run prog w=.ok x w:=fun _ _ _ _ _=>by kernel_rfl
 have p1:∀(x y z t:Value) (w:World),(part 52 #[x,y,z,t] 1).run prog w=.ok y w:=fun _ _ _ _ _=>by kernel_rfl
 have p2:∀(x y z t:Value) (w:World),(part 52 #[x,y,z,t] 2).run prog w=.ok z w:=fun _ _ _ _ _=>by kernel_rfl
 have I:∀(x y z t:Value) (w:World),(part 52 #[x,y,z,t] 3).run prog w=.ok t w:=fun _ _ _ _ _=>by kernel_rfl
 have e:∀(x y:Int) (w:World),(Op.equalIn (n+1) 52 (zU x) (zU y)).run prog w=.ok (x == y) w:=fun x y w=>run_equalIn_int w n 52 .u64 .u64 x y Tryz.underlying52
 rw[show List.range 4=[0,1,2,3]from rfl];simp only[Op.eqItems,Sem.run_bind,Nat.mul_one,p,e,Result.andThen_ok];cases h1:a == o<;>cases h2:b == r<;>cases h3:c == A<;>cases h4:d == D<;>simp[Result.andThen,p1,p2,I,e,h2,h3,h4,-beq_iff_eq,-beq_eq_false_iff_ne]
mutual
def Sm:Nd->Nd->Prop
 | .mk kd T C s _,.mk kd' T' C' s' _=>kd'=kd/\T'=T/\C'=C/\SmL s s'/\s.length<=1000000
def SmL:List Nd->List Nd->Prop
 |[],[]=>True
 |a::r,b::q=>Sm a b/\SmL r q
 |_,_=>False
end
section
section
variable {L1 L2:List Tok} {e:Nat}
end
end
section
section
variable {L1 L2:List Tok} {e:Nat}
end
end
section
section
variable {L1 L3:List Tok} {d e:Nat}
end
end
section
def wr(over kd:Nat):Bool:=
 if over=8∨over=9∨over=10 then decide (6<=kd)
 else if over=11∨over=12 then decide (kd=6∨kd=7∨kd=11∨kd=12)
 else if over=6 then decide (kd=6∨kd=7)
 else if over=7 then decide (kd=7)else false
def rpS(kd:Nat):UInt8:=if kd=8 then 63 else if kd=9 then 42 else 43
mutual
def dN:Nd->Nat
 | .mk kd T C s p=>if kd=1 then 1 else dS kd s
def dS(over:Nat):List Nd->Nat
 |[]=>0
 |n::r=>max (if wr over n.kd=true then dN n+1 else dN n) (dS over r)
end
def dP(over:Nat)(n:Nd):Nat:=if wr over n.kd=true then dN n+1 else dN n
mutual
def Vk:Nd->Prop
 | .mk kd T C s p=>((kd=1/\T={data:=#[]}/\C=0/\s=[])∨(kd=2/\C=0/\s=[])∨(kd=3/\T={data:=#[]}/\s=[])∨(kd=4/\T={data:=#[]}/\C=0/\s=[])∨(kd=5/\C=0/\s=[])∨
    ((kd=6∨kd=7)/\T={data:=#[]}/\C=0/\2<=s.length)∨(8<=kd/\kd<=12/\T={data:=#[]}/\C=0/\s.length=1))/\VkL s
def VkL:List Nd->Prop
 |[]=>True
 |n::r=>Vk n/\VkL r
end
theorem VkL.mem:∀{s:List Nd},VkL s->∀n∈s,Vk n
 |[],_,n,h=>by simp at h
 |a::r,h,n,o=>by
  rw[VkL]at h;rcases List.mem_cons.1 o with rfl|o
  ·exact h.1
  ·exact VkL.mem h.2 n o
theorem Ob(over:Nat)(n:Nd)(r:List Nd):dS over (n::r)=max (dP over n) (dS over r):=by rw[dS];rfl
section
variable {L:List Tok} {k:Nat}
end
theorem Vk.kd{n:Nd}(h:Vk n):1<=n.kd/\n.kd<=12:=by
 obtain⟨kd,T,C,s,p⟩:=n;rw[Vk]at h;show 1<=kd/\kd<=12;omega
end
theorem z8l(over kd:Nat)(w:World)(h:6<=over)(o:over<=12)(r:1<=kd)(t:kd<=12):
  Calls prog 314 #[zI (over:Int),zI (kd:Int)] w fun e w'=>e=.returned (.bool (wr over kd))/\w'=w:=by
 have y:over=6∨over=7∨over=8∨over=9∨over=10∨over=11∨over=12:=by omega
 have A:kd=1∨kd=2∨kd=3∨kd=4∨kd=5∨kd=6∨kd=7∨kd=8∨kd=9∨kd=10∨kd=11∨kd=12:=by omega
 clear h o r t;rcases y with rfl|rfl|rfl|rfl|rfl|rfl|rfl<;>rcases A with rfl|rfl|rfl|rfl|rfl|rfl|rfl|rfl|rfl|rfl|rfl|rfl<;>
  (go_enter func314,ntmps314
   go_wp2_with fail
   go_ret;exact⟨rfl,rfl⟩)
def lq(b:Nat):List Nat:=if b=10 then [92,110]else if b=13 then [92,114]else if b=9 then [92,116]else if b=39∨b=92 then [92,b]else if plB b then [b]else [92,120,Xl (b/16),Xl (b%16)]
def NB(w w':World):Prop:=w.heap.size<=w'.heap.size/\∀j,j<w.heap.size->(∀cur,w.heap[j]? ≠some (.cells cur 5 (0,0)))->w'.heap[j]? =w.heap[j]?
theorem NB.trans{a b c:World}(h:NB a b)(k:NB b c):NB a c:=
 ⟨Nat.le_trans h.1 k.1,fun j o r=>(k.2 j (Nat.lt_of_lt_of_le o h.1) (fun t=>by rw[h.2 j o r];exact r t)).trans (h.2 j o r)⟩
theorem NB.below{w w':World}(h:zB w w'):NB w w':=⟨h.size,fun j o _=>h.block j o⟩
theorem NB.alloc(w:World)(o:Obj):NB w (w.alloc o):=.below (B0q.alloc L0q _)
theorem NB.grown{w w':World}{base n:Nat}{v:Value}{xs:List Value}(h:w.ownsRow base 5 1 v n xs)(o:w.grownBy w' v.ownBlock):NB w w':=
 ⟨o.size,fun j r t=>o.block j r (fun e=>by
   obtain⟨_,h|⟨g,D,y,rfl,_,A,_⟩⟩:=h
   ·rw[h.1]at e;simp[Value.ownBlock]at e
   ·simp[Value.ownBlock]at e
    subst e;exact t y A)⟩
def App(base:Nat)(w:World)(n:Nat)(xs:List Value)(l:List Nat)(v':Value)(w':World):Prop:=
 w'.ownsRow base 5 1 v' (n+l.length) (xs++nv l)/\Below base w w'/\NB w w'
theorem App.mk{base n m:Nat}{w w':World}{o:Obj}{v r:Value}{xs t:List Value}{l:List Nat}(y:w.ownsRow base 5 1 v n xs)(D:base<=w.heap.size)(E:m=l.length)(hl:t=nv l)
  (h:w'.ownsRow base 5 1 r (n+m) (xs++t))(A:(w.alloc o).grownBy w' v.ownBlock):App base w n xs l r w':=by
 subst E;subst hl;refine⟨h,(B0q.alloc D _).grown A (by simp;omega) (fun k e=>(y.lt k e).1),(NB.alloc w o).trans (NB.grown (y.alloc o) A)⟩
theorem App.trans{base n:Nat}{w o r:World}{xs:List Value}{l m:List Nat}{v1 v2:Value}(h:App base w n xs l v1 o)(k:App base o (n+l.length) (xs++nv l) m v2 r):App base w n xs (l++m) v2 r:=by
 refine⟨?_,h.2.1.trans k.2.1,h.2.2.trans k.2.2⟩;have:=k.1;rw[Fg,List.length_append,<-List.append_assoc,<-Nat.add_assoc];exact this
theorem App.of_drew{base n:Nat}{w o:World}{xs:List Value}{l:List Nat}{v1:Value}(h:App base w.drew n xs l v1 o):App base w n xs l v1 o:=⟨h.1,B0q.drew.trans h.2.1,h.2.2⟩
theorem App.base{base n:Nat}{w o:World}{xs:List Value}{l:List Nat}{v1:Value}(h:App base w n xs l v1 o)(r:base<=w.heap.size):base<=o.heap.size:=Nat.le_trans r h.2.1.size
theorem z8m(base n b:Nat)(v:Value)(xs:List Value)(w:World)(hb:b<256)(ho:w.ownsRow base 5 1 v n xs)(hn:n<=9000000)(h:base<=w.heap.size):
  Calls prog 308 #[v,.int .u8 b] w fun e w'=>∃v',e=.returned v'/\Hid (App base w n xs (lq b) v' w'):=by
 obtain⟨i0,E,G,I,U⟩:=info_parts Tryz.infoByte;have A:Hid (w.ownsRow base 5 1 v n xs):=ho;have HP:Hid (∀w:World,Calls prog 172 #[.int .u8 b] w fun e w'=>e=.returned (.bool (plB b))/\w'=w):=fun w=>z0w b _ rfl w hb
 clear ho;by_cases h10:b=10
 ·have D:Hid (lq b=[92,110]):=by rw[h10];rfl
  have ac:((b:Int) == 10)=true:=by simp;omega
  clear h10;go_enter func308,ntmps308
  go_wp2_with(first|(at_builtin;refine wpList_append_own _ rfl (.tmp 24) (.tmp 25) 185 rfl base 5 i0 (.int .u8 0) 1 1 Tryz.underlying185 E G I U rfl (by decide) _ _ _ rfl (A.out.alloc _) ⟨w.heap.size,0,none⟩ 2 2 [.int .u8 92,.int .u8 110] rfl rfl (Fb _ _ _ _) (Xw [92,110]) (by unfold maxLen;omega) (by omega) (by have:=h;simp;omega) ?_;intro v2 y o t Y))
  go_ret;rw[D.out];exact⟨_,rfl,hid (App.mk A.out h rfl rfl o t)⟩
 by_cases h13:b=13
 ·have D:Hid (lq b=[92,114]):=by rw[h13];rfl
  have ac:((b:Int) == 10)=false:=by simp;omega
  have ah:((b:Int) == 13)=true:=by simp;omega
  clear h13;go_enter func308,ntmps308
  go_wp2_with(first|(at_builtin;refine wpList_append_own _ rfl (.tmp 27) (.tmp 28) 185 rfl base 5 i0 (.int .u8 0) 1 1 Tryz.underlying185 E G I U rfl (by decide) _ _ _ rfl (A.out.alloc _) ⟨w.heap.size,0,none⟩ 2 2 [.int .u8 92,.int .u8 114] rfl rfl (Fb _ _ _ _) (Xw [92,114]) (by unfold maxLen;omega) (by omega) (by have:=h;simp;omega) ?_;intro v2 y o t Y))
  go_ret;rw[D.out];exact⟨_,rfl,hid (App.mk A.out h rfl rfl o t)⟩
 by_cases h9:b=9
 ·have D:Hid (lq b=[92,116]):=by rw[h9];rfl
  have ac:((b:Int) == 10)=false:=by simp;omega
  have ah:((b:Int) == 13)=false:=by simp;omega
  have a9:((b:Int) == 9)=true:=by simp;omega
  clear h9;go_enter func308,ntmps308
  go_wp2_with(first|(at_builtin;refine wpList_append_own _ rfl (.tmp 30) (.tmp 31) 185 rfl base 5 i0 (.int .u8 0) 1 1 Tryz.underlying185 E G I U rfl (by decide) _ _ _ rfl (A.out.alloc _) ⟨w.heap.size,0,none⟩ 2 2 [.int .u8 92,.int .u8 116] rfl rfl (Fb _ _ _ _) (Xw [92,116]) (by unfold maxLen;omega) (by omega) (by have:=h;simp;omega) ?_;intro v2 y o t Y))
  go_ret;rw[D.out];exact⟨_,rfl,hid (App.mk A.out h rfl rfl o t)⟩
 have ac:((b:Int) == 10)=false:=by simp;omega
 have ah:((b:Int) == 13)=false:=by simp;omega
 have a9:((b:Int) == 9)=false:=by simp;omega
 have V:Hid (b≠10/\b≠13/\b≠9):=⟨h10,h13,h9⟩;clear h10 h13 h9;by_cases hm:b=39∨b=92
 ·have D:Hid (lq b=[92]++[b]):=by
   show lq b=[92,b];rw[lq,if_neg V.out.1,if_neg V.out.2.1,if_neg V.out.2.2,if_pos hm]
  rcases hm with ak|al
  ·have ai:((b:Int) == 39)=true:=by simp;omega
   clear ak;go_enter func308,ntmps308
   go_wp2_with(first
    |(at_builtin;refine wpList_append_own _ rfl (.tmp 33) (.tmp 34) 185 rfl base 5 i0 (.int .u8 0) 1 1 Tryz.underlying185 E G I U rfl (by decide) _ _ _ rfl (A.out.alloc _) ⟨w.heap.size,0,none⟩ 1 1 [.int .u8 92] rfl rfl (Vj _ _ _) (Xw [92]) (by unfold maxLen;omega) (by omega) (by have:=h;simp;omega) ?_;intro v2 y o t Y;have Z:Hid (App base _ n xs [92] v2 y):=App.mk A.out h rfl rfl o t;have aa:base<=y.heap.size:=Z.out.base h;have ab:Hid (y.ownsRow base 5 1 v2 (n+1) (xs++nv [92])):=Z.out.1;clear o t Y)
    |(at_builtin;refine wpList_append_own _ rfl (.tmp 36) (.tmp 38) 185 rfl base 5 i0 (.int .u8 0) 1 1 Tryz.underlying185 E G I U rfl (by decide) _ _ _ rfl (ab.out.alloc _) ⟨y.heap.size,0,none⟩ 1 1 [.int .u8 b] rfl rfl (Vj _ _ _) (Xw [(b:Int)]) (by unfold maxLen;omega) (by omega) (by have:=aa;simp;omega) ?_;intro v3 w3 ad ae am))
   go_ret;rw[D.out];exact⟨_,rfl,hid (Z.out.trans (App.mk ab.out aa rfl rfl ad ae))⟩
  ·have ai:((b:Int) == 39)=false:=by simp;omega
   have ao:((b:Int) == 92)=true:=by simp;omega
   clear al;go_enter func308,ntmps308
   go_wp2_with(first
    |(at_builtin;refine wpList_append_own _ rfl (.tmp 33) (.tmp 34) 185 rfl base 5 i0 (.int .u8 0) 1 1 Tryz.underlying185 E G I U rfl (by decide) _ _ _ rfl (A.out.alloc _) ⟨w.heap.size,0,none⟩ 1 1 [.int .u8 92] rfl rfl (Vj _ _ _) (Xw [92]) (by unfold maxLen;omega) (by omega) (by have:=h;simp;omega) ?_;intro v2 y o t Y;have Z:Hid (App base _ n xs [92] v2 y):=App.mk A.out h rfl rfl o t;have aa:base<=y.heap.size:=Z.out.base h;have ab:Hid (y.ownsRow base 5 1 v2 (n+1) (xs++nv [92])):=Z.out.1;clear o t Y)
    |(at_builtin;refine wpList_append_own _ rfl (.tmp 36) (.tmp 38) 185 rfl base 5 i0 (.int .u8 0) 1 1 Tryz.underlying185 E G I U rfl (by decide) _ _ _ rfl (ab.out.alloc _) ⟨y.heap.size,0,none⟩ 1 1 [.int .u8 b] rfl rfl (Vj _ _ _) (Xw [(b:Int)]) (by unfold maxLen;omega) (by omega) (by have:=aa;simp;omega) ?_;intro v3 w3 ad ae am))
   go_ret;rw[D.out];exact⟨_,rfl,hid (Z.out.trans (App.mk ab.out aa rfl rfl ad ae))⟩
 ·have ai:((b:Int) == 39)=false:=by simp;omega
  have ao:((b:Int) == 92)=false:=by simp;omega
  cases hp:plB b
  ·rw[hp]at HP
   have D:Hid (lq b=[92,120,Xl (b/16),Xl (b%16)]):=by
    show lq b=_;rw[lq,if_neg V.out.1,if_neg V.out.2.1,if_neg V.out.2.2,if_neg hm,hp,if_neg (by simp)]
   clear hp hm;obtain⟨q,hq⟩:∃q,q=b/16:=⟨_,rfl⟩;obtain⟨r,hr⟩:∃r,r=b%16:=⟨_,rfl⟩;have d1:=Bp q (by omega);have d2:=Bp r (by omega);obtain⟨dq,af⟩:∃d,d=Xl q:=⟨_,rfl⟩;obtain⟨dr,ag⟩:∃d,d=Xl r:=⟨_,rfl⟩;rw[<-hq,<-hr,<-af,<-ag]at D;rw[<-af]at d1;rw[<-ag]at d2;have e1:(b:Int)/16=(q:Int):=by omega
   have e2:bits BinOp.and IntKind.u8 (b:Int) 15=(r:Int):=by
    have:=u8_and15 (x:=(b:Int)) (by omega) (by omega);rw[this];omega
   clear hq hr af ag;go_enter func308,ntmps308
   go_wp2_with fail
   refine(HP.out _).mono ?_;rintro e w1 ⟨rfl,rfl⟩
   go_wp2_with fail
   have aj:Hid (w1.drew.ownsRow base 5 1 v n xs):=A.out.kept (row:=none) ⟨rfl,rfl,rfl,Nat.le_refl _,fun j hj _=>rfl⟩ (by cases hq:v.ownBlock<;>simp)
   go_region_held3 (fun _=>True) (trivial) (first
    |(rw[if_pos (by rfl)];refine wp_append_own _ (.tmp 40) (.tmp 47) 185 rfl base 5 i0 (.int .u8 0) 1 1 Tryz.underlying185 E G I U rfl (by decide) _ _ _ rfl (aj.out.alloc _) ⟨w1.heap.size,0,none⟩ 4 4 [.int .u8 92,.int .u8 120,.int .u8 dq,.int .u8 dr] rfl rfl (z0y _ _ _ _ _ _) (Xw [92,120,(dq:Int),(dr:Int)]) (by unfold maxLen;omega) (by omega) (by have:=h;simp;omega) ?_;intro v2 y o t Y))
   all_goals
    go_wp2_with fail
    go_ret;rw[D.out];exact⟨_,rfl,hid (App.of_drew (App.mk aj.out h rfl rfl o t))⟩
  ·rw[hp]at HP
   have D:Hid (lq b=[b]):=by
    show lq b=[b];rw[lq,if_neg V.out.1,if_neg V.out.2.1,if_neg V.out.2.2,if_neg hm,hp,if_pos rfl]
   clear hp hm;go_enter func308,ntmps308
   go_wp2_with fail
   refine(HP.out _).mono ?_;rintro e w1 ⟨rfl,rfl⟩
   go_wp2_with(first|(at_builtin;refine wpList_append_own _ rfl (.tmp 36) (.tmp 38) 185 rfl base 5 i0 (.int .u8 0) 1 1 Tryz.underlying185 E G I U rfl (by decide) _ _ _ rfl (A.out.alloc _) ⟨w1.heap.size,0,none⟩ 1 1 [.int .u8 b] rfl rfl (Vj _ _ _) (Xw [(b:Int)]) (by unfold maxLen;omega) (by omega) (by have:=h;simp;omega) ?_;intro v2 y o t Y))
   go_ret;rw[D.out];exact⟨_,rfl,hid (App.mk A.out h rfl rfl o t)⟩
theorem Cg(n:Nat)(h:n<16):Xl n<256:=by unfold Xl;split<;>omega
theorem z8n(b:Nat):1<=(lq b).length/\(lq b).length<=4:=by
 unfold lq
 repeat(split;(· simp))
 simp
theorem z8o(b:Nat)(h:b<256):∀x∈lq b,x<256:=by
 have o:=Cg (b/16) (by omega);have r:=Cg (b%16) (by omega);unfold lq
 repeat(split;(· intro x hx;simp at hx;omega))
 intro x hx;simp at hx;omega
def qp(S:zA):Nat->List Nat
 |0=>[39]
 |k+1=>qp S k++(match bt S k with|some x=>lq x|none=>[])
def qt(S:zA):List Nat:=qp S S.size++[39]
theorem Ch(S:zA):∀k,(qp S k).length<=4*k+1/\∀x∈qp S k,x<256
 |0=>by simp[qp]
 |k+1=>by
  have o:=Ch S k;rw[qp];cases hb:bt S k with
  |none=>simp only[List.append_nil];exact⟨by omega,o.2⟩
  |some x=>
   have t:=z8n x;simp only[List.length_append];refine⟨by omega,fun y r=> ?_⟩;rcases List.mem_append.1 r with h|h
   ·exact o.2 y h
   ·exact z8o x (Zj hb).2 y h
theorem z1i{S:zA}{k x:Nat}(h:bt S k=some x):qp S (k+1)=qp S k++lq x:=by rw[qp,h]
theorem z1j(S:zA):∀x∈qt S,x<256:=by
 intro x hx;unfold qt at hx;rcases List.mem_append.1 hx with h|h
 ·exact(Ch S _).2 x h
 ·simp at h;omega
def Lq(w:World)(v:Value)(l:List Nat)(w':World):Prop:=Hid (zB w w')/\Hid (w'.ownsRow w.heap.size 5 1 v l.length (nv l))
theorem z8p(S:zA)(w:World)(hS:S.size<=1048576):
  Calls prog 302 #[zT S] w fun e w'=>e=.returned (zT (nb (qt S)))/\zB w w':=by
 obtain⟨i0,t,y,A,D⟩:=info_parts Tryz.infoByte;obtain⟨o,E,V,Y⟩:=run_make_own (P:=prog) w w.heap.size 185 5 i0 (.int .u8 0) 1 Tryz.underlying185 t y A .i64 .i64 (S.size+2) (by rw[D];omega) (by unfold maxLen;omega) L0q;have Z:((S.size+2:Nat):Int)=(S.size:Int)+2:=by omega
 rw[Z]at E;have G:Hid (zB w o):=B0q.grown Y L0q (fun k e=>by cases e);have r:Hid (o.ownsRow w.heap.size 5 1 (zS w.heap.size 0 (S.size+2)) 0 []):=V;have ag:w.heap.size<=o.heap.size:=G.out.size;obtain⟨n2,aa⟩:∃n,n=S.size+2:=⟨_,rfl⟩;rw[<-aa]at E r;clear V Y Z aa;go_enter func302,ntmps302
 go_wp2_with(first|(at_builtin;refine wpList_append_own _ rfl (.tmp 9) (.tmp 10) 185 rfl w.heap.size 5 i0 (.int .u8 0) 1 1 Tryz.underlying185 t y A D rfl (by decide) _ _ _ rfl (r.out.alloc _) ⟨o.heap.size,0,none⟩ 1 1 [.int .u8 39] rfl rfl (Vj _ _ _) (Xw [39]) (by unfold maxLen;omega) (by omega) (by simp;omega) ?_;intro v2 w2 ab ac ah))
 have ai:Hid (Lq w v2 [39] w2):=⟨hid ((G.out.alloc ag _).grown ac (by simp;omega) (fun k e=>(r.out.lt k e).1)),hid ab⟩;clear ab ac ah r G E
 go_loopw [3,14] (fun v i wr=>∃k:Nat,i=zI (k:Int)/\k<=S.size/\Hid (Lq w v (qp S k) wr)) (fun _ i _=>S.size-(intOf i).toNat)
 case atStart=>exact⟨0,rfl,Nat.zero_le _,ai⟩
 case round=>
  obtain⟨k,rfl,hk,h⟩:=hrel;have hl:=(Ch S k).1;have ad:w.heap.size<=wr.heap.size:=h.out.1.out.size;cases hb:bt S k with
  |none=>
   have am:=Yy hb;have I:k=S.size:=by omega
   have a0:decide ((k:Int)<(S.size:Int))=false:=by simp;omega
   have HF:Hid (qt S=qp S k++[39]):=by show qt S=_;rw[I];rfl
   clear hb I
   go_wp2_with(first|(at_builtin;refine wpList_append_own _ rfl (.tmp 23) (.tmp 24) 185 rfl w.heap.size 5 i0 (.int .u8 0) 1 1 Tryz.underlying185 t y A D rfl (by decide) _ _ _ rfl (h.out.2.out.alloc _) ⟨wr.heap.size,0,none⟩ 1 1 [.int .u8 39] rfl rfl (Vj _ _ _) (Xw [39]) (by unfold maxLen;omega) (by omega) (by simp;omega) ?_;intro v9 w9 ae af aj;have ao:=Bl (l:=qp S k++[39]) (by rw[Fg];exact ae) (by rw[<-HF.out];exact z1j S);have ak:Hid (zB w w9):=(h.out.1.out.alloc ad _).grown af (by simp;omega) (fun k e=>(h.out.2.out.lt k e).1);clear ae af aj))
   (try simp only[Exit.inBlock,Exit.then])
   refine bodyPost_ret (v:=zT (nb (qp S k++[39]))) (by simp[results,Tryz.results302,go_sem]) rfl ?_;exact⟨by rw[HF.out],ak.out⟩
  |some x=>
   obtain⟨I,ap⟩:=Yz hb;have hx:=(Zj hb).2;have a0:decide ((k:Int)<(S.size:Int))=true:=by simp;omega
   have aq:(k:Int)<(S.size:Int):=by omega
   have HQ:Hid (qp S (k+1)=qp S k++lq x):=z1i hb;have HN:Hid (((k+1:Nat):Int)=(k:Int)+1):=by show _=_;omega
   have HC:=hid (z8m w.heap.size (qp S k).length x u3 (nv (qp S k)) wr hx h.out.2.out (by omega) ad);clear hb
   go_wp2_with fail
   refine HC.out.mono ?_;rintro e w3 ⟨v3,rfl,U⟩;have al:Hid (Lq w v3 (qp S (k+1)) w3):=⟨hid (h.out.1.out.trans U.out.2.1),hid (by rw[HQ.out,List.length_append,Fg];exact U.out.1)⟩;clear U HC h
   go_wp2_with fail
   go_roundw
   case rel=>exact⟨k+1,by rw[HN.out],by omega,al⟩
   case measure=>simp[intOf];omega
end Go.Proofs.YtgnkkgcgbeianaaGreatDoor
