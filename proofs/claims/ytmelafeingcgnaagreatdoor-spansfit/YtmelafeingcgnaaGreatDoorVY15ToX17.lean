/- Lemmas for the last text. Conditions: those that each names. -/
import Derived.Test.YtmelafeingcgnaaGreatDoorVY13ToY14
import Derived.Defers
import Derived.Recover
import Derived.ChangeKeysEq
import Derived.Laws.StructEq
import Derived.Test.YtmelafeingcgnaaGreatDoorVX6ToX16
import Derived.Deep.RegionHeld3
import Derived.Laws.MakeOwn
import Derived.Laws.IdiomStrings
set_option linter.unusedVariables false
set_option maxRecDepth 100000
set_option maxHeartbeats 8000000
namespace Go.Proofs.YtmelafeingcgnaaGreatDoor
open Go.Proofs.Tryz
open Go.RowKit
theorem Tryz.asFlt(v:Value)(h:TypeId)(w:World):(Instr.typeAssert (.iface 181 v) h 181 true).run prog w=.ok (.tuple #[v,.bool true]) w:=by kernel_rfl
theorem z8n(p q:Nat)(w:World):
  CallsD prog 86 #[zP p 0,zP q 0] .returning w fun e h w'=>e=.returned (.tuple #[])/\h=.returning/\w'=w:=by
 refine callsD_of_wpS func86 rfl fun o y r=> ?_
 apply wpS_seq;apply wpS_region;simp[wpOpsS,go_sem,recoverD,r,ntmps86,Exit.thenS];refine wpS_of_wp ?_
 go_wp2
 cases o;simp_all[bodyPostS,results,Tryz.results86]
theorem z8o(p q f:Nat)(h:List PanicEntry)(w:World)(y:p≠q)(A:zC w p 0 (.slice none 0 0))(D:w.cell? ⟨q,0,none⟩=some .nilIface)(E:w.frozen? ⟨p,0,none⟩=false)(G:w.frozen? ⟨q,0,none⟩=false):
  CallsD prog 86 #[zP p 0,zP q 0] (.panicking ({v:=.iface 181 (zP f 0),recovered:=false}::h)) w fun e r w'=>
   e=.returned (.tuple #[])/\r=.panicking ({v:=.iface 181 (zP f 0),recovered:=true}::h)/\w'=(w.setCell ⟨p,0,none⟩ (.slice none 0 0)).setCell ⟨q,0,none⟩ (.iface 181 (zP f 0)):=by
 refine callsD_of_wpS func86 rfl fun U V o=> ?_
 apply wpS_seq;apply wpS_region;simp[wpOpsS,go_sem,recoverD,o,ntmps86,Exit.thenS];have Y:=Tryz.asFlt;refine wpS_of_wp ?_;rw[show(#[Value.pointer (some ⟨p,0,none⟩),Value.pointer (some ⟨q,0,none⟩)]++(Array.replicate 12 undef).setIfInBounds 3 (Value.iface 181 (Value.pointer (some ⟨f,0,none⟩))))=#[Value.pointer (some ⟨p,0,none⟩),Value.pointer (some ⟨q,0,none⟩),undef,undef,undef,Value.iface 181 (Value.pointer (some ⟨f,0,none⟩)),undef,undef,undef,undef,undef,undef,undef,undef]from rfl];clear o
 go_wp2_with fail
 simp[bodyPostS,results,Tryz.results86]
def Kz(r:(Nat×Nat) ⊕ List Rl)(w:World)(e:Ending)(w':World):Prop:=
 match r with
 | .inr rs=>∃g cap,e=.returned (.tuple #[.agg #[zS g rs.length cap],.nilIface])/\Hid (RoR w.heap.size (zS g rs.length cap) rs w')/\Hid (zB w w')
 | .inl c=>∃f,e=.returned (.tuple #[.agg #[.slice none 0 0],flv f])/\Hid (w.heap.size<=f/\Flt w' f c/\zB w w')
theorem RoR.low{B B':Nat}{pv:Value}{acc:List Rl}{W:World}(h:RoR B pv acc W)(U:B'<=B):RoR B' pv acc W:=by
 obtain⟨xs,⟨a,o⟩,A⟩:=h;refine⟨xs,⟨a,?_⟩,Zh.kept (fun g r D y=>⟨rfl,show B'<=g by have V:B<=g:=D;omega⟩) _ _ A⟩;rcases o with o|⟨E,G,r,y,Y,rest⟩
 ·exact .inl o
 ·exact .inr ⟨E,G,r,y,by omega,rest⟩
theorem Below.setNew{w W:World}{g j:Nat}{u:Value}(h:zB w W)(o:w.heap.size<=g):zB w (W.setCell ⟨g,j,none⟩ u):=
 h.grown (G.setR (G.refl W g)) h.size (fun k e=>by have:=Option.some.inj e;omega)
@[reducible] def w3R (w:World) (v:Value):World:=((w.alloc Zg).alloc (.cells #[.nilIface] 31)).alloc (.cells #[v,zI 0,zI 0,zI 0] 191)
theorem z1i(w:World)(v:Value):(w3R w v).heap[w.heap.size]? =some Zg:=
 (Below.heap_alloc _ _ _ (by simp;omega)).trans ((Below.heap_alloc _ _ _ (by simp)).trans (Qx w _ rfl))
theorem z1j(w:World)(v:Value):(w3R w v).heap[w.heap.size+1]? =some (.cells #[.nilIface] 31):=
 (Below.heap_alloc _ _ _ (by simp)).trans (Qx _ _ (by simp))
theorem Qy{w:World}{g:Nat}{a:Value}{t:TypeId}(h:w.heap[g]? =some (.cells #[a] t)):w.cell? ⟨g,0,none⟩=some a/\w.frozen? ⟨g,0,none⟩=false:=by
 constructor<;>simp[World.cell?,World.frozen?,h]
theorem z1k{w:World}{p:Nat}{a b:Value}{s t:TypeId}(h:zH w p (.cells #[a] s))(o:w.heap[p+1]? =some (.cells #[b] t))(x y:Value):
  ((w.setCell ⟨p,0,none⟩ x).setCell ⟨p+1,0,none⟩ y).cell? ⟨p,0,none⟩=some x/\((w.setCell ⟨p,0,none⟩ x).setCell ⟨p+1,0,none⟩ y).cell? ⟨p+1,0,none⟩=some y:=by
 constructor
 ·simp[World.cell?,World.setCell,Array.getElem?_modify,h]
 ·simp[World.cell?,World.setCell,Array.getElem?_modify,o]
theorem z8p(b:Nat)(v:Value)(L:List Tok)(w:World)(ho:w.ownsRow b 186 7 v L.length (tvs L))(hg:Ql L)(ab:0<L.length):
  Calls prog 51 #[v] w fun e w'=>Kz (Dl L) w e w':=by
 have ad:∀(fn:Fn) (first D:Array Value) (w:World),(Instr.makeFunc fn first D).run prog w=.ok (.func fn first D) w:=fun _ _ _ _=>rfl
 obtain⟨g,D,rfl⟩:=Vc ho (by omega);have hR:Rd (w3R w (zS g L.length D)) (w.heap.size+2) b (zS g L.length D) L 0 0 0:=⟨Qx _ _ (by simp),((ho.alloc _).alloc _).alloc _⟩;have r:=hid (z8m (w.heap.size+2) b (w.heap.size+3) _ L _ hg hR ab (by simp));have y:Hid (zB w (w3R w (zS g L.length D))):=((B0q.alloc L0q _).alloc (by simp) _).alloc (by simp<;>omega) _;obtain⟨n,hn⟩:∃n,n=L.length:=⟨_,rfl⟩;rw[<-hn]at r y ⊢;clear hn hR ho;cases hs:Dl L with
 |inl c=>
  rw[hs]at r;clear hs
  go_enter_defers func51,ntmps51
  go_wp2_with fail
  refine r.out.mono ?_;rintro e h ⟨f,rfl,HF,o⟩;have E:Hid (h.heap[w.heap.size]? =some Zg):=(o.out.block _ (by simp;omega) (fun e=>by have:=Option.some.inj e;omega)).trans (z1i w _);have A:Hid (h.heap[w.heap.size+1]? =some (.cells #[.nilIface] 31)):=(o.out.block _ (by simp) (fun e=>by have:=Option.some.inj e;omega)).trans (z1j w _);have U:Hid (zB w h):=y.out.grown o.out y.out.size (fun k e=>by have:=Option.some.inj e;omega);have hf:w.heap.size+3<=f:=by have:=HF.out.1;simp at this;omega
  have HA:Hid (Kz (.inl c) w (.returned (.tuple #[.agg #[.slice none 0 0],.iface 181 (zP f 0)])) ((h.setCell ⟨w.heap.size,0,none⟩ (.slice none 0 0)).setCell ⟨w.heap.size+1,0,none⟩ (.iface 181 (zP f 0)))):=
   ⟨f,rfl,hid ⟨by omega,(Below.heap_setCell _ _ _ _ (show f≠w.heap.size+1 by omega)).trans ((Below.heap_setCell _ _ _ _ (show f≠w.heap.size by omega)).trans HF.out.2),Below.setNew (Below.setNew U.out L0q) (by omega)⟩⟩
  clear r HF o y U
  go_wp2_with fail
  refine leaves_cons (f:=86) (args:=#[zP w.heap.size 0,zP (w.heap.size+1) 0]) (by simp) (by simp[go_sem]) ?_;refine(z8o w.heap.size (w.heap.size+1) f [] h (by omega) (Qy E.out).1 (Qy A.out).1 (Qy E.out).2 (Qy A.out).2).mono ?_;rintro e u' ac ⟨rfl,rfl,rfl⟩;obtain⟨c0,c1⟩:=z1k E.out A.out (.slice none 0 0) (.iface 181 (zP f 0));simp[Leaves,settle,results,Tryz.results51,go_sem,c0,c1];exact HA.out
 |inr rs=>
  rw[hs]at r;clear hs;obtain⟨m,Z⟩:∃m,m=rs.length:=⟨_,rfl⟩;have HM:Hid (m=rs.length):=Z;clear Z
  go_enter_defers func51,ntmps51
  go_wp2_with fail
  refine r.out.mono ?_;rintro e h ⟨V,Y,rfl,aa,o⟩;rw[<-HM.out]at aa ⊢;have E:Hid (h.heap[w.heap.size]? =some Zg):=(o.out.block _ (by simp;omega) (fun e=>by have:=Option.some.inj e;omega)).trans (z1i w _);have A:Hid (h.heap[w.heap.size+1]? =some (.cells #[.nilIface] 31)):=(o.out.block _ (by simp) (fun e=>by have:=Option.some.inj e;omega)).trans (z1j w _);have U:Hid (zB w h):=y.out.grown o.out y.out.size (fun k e=>by have:=Option.some.inj e;omega);have ae:w.heap.size+1<h.heap.size:=Qq A.out;have HA:Hid (Kz (.inr rs) w (.returned (.tuple #[.agg #[zS V m Y],.nilIface])) ((h.setCell ⟨w.heap.size,0,none⟩ (zS V m Y)).setCell ⟨w.heap.size+1,0,none⟩ .nilIface)):=by
   have hr:=(aa.out.grown (G.setR (u:=zS V m Y) (j:=0) (G.refl h w.heap.size)) (by omega)).grown (G.setR (u:=.nilIface) (j:=0) (G.refl _ (w.heap.size+1))) (by omega);have Z:=HM.out;subst Z;exact⟨V,Y,rfl,hid (hr.low (by omega)),hid (Below.setNew (Below.setNew U.out L0q) (by omega))⟩
  obtain⟨e0,y0⟩:=Qy E.out;obtain⟨e1,y1⟩:=Qy A.out;clear r aa o y U
  go_wp2_with fail
  refine leaves_cons (f:=86) (args:=#[zP w.heap.size 0,zP (w.heap.size+1) 0]) (by simp) (by simp[go_sem]) ?_;refine(z8n w.heap.size (w.heap.size+1) _).mono ?_;rintro e u' ac ⟨rfl,rfl,rfl⟩;obtain⟨c0,c1⟩:=z1k E.out A.out (zS V m Y) .nilIface;simp[Leaves,settle,results,Tryz.results51,go_sem,c0,c1];exact HA.out
def Cd(t:Tok):Prop:=t.1<=5/\(t.1=5->∃x,x<256/\t.2.1=nb [x])
theorem z8q{S:zA}{p x n:Nat}{t:Tok}(r:bt S p=some x)(h:Ul S p x=.inr (t,n)):Cd t:=by
 have hx:=(Zq r).2;refine⟨(Nj r h).2.2.2.2.2.1,fun o=> ?_⟩;unfold Ul at h;split at h
 ·split at h
  ·cases h
  ·simp only[Sum.inr.injEq,Prod.mk.injEq]at h
   rw[<-h.1]at o;exact absurd o (by show ¬(1:Nat)=5;decide)
 ·split at h
  ·split at h
   ·cases h
   ·simp only[Sum.inr.injEq,Prod.mk.injEq]at h
    rw[<-h.1]at o;exact absurd o (by show ¬(3:Nat)=5;decide)
  ·split at h
   ·split at h
    ·cases h
    ·simp only[Sum.inr.injEq,Prod.mk.injEq]at h
     rw[<-h.1]at o;exact absurd o (by show ¬(4:Nat)=5;decide)
   ·split at h
    ·simp only[Sum.inr.injEq,Prod.mk.injEq]at h
     rw[<-h.1]at o;exact absurd o (by show ¬(2:Nat)=5;decide)
    ·split at h
     ·simp only[Sum.inr.injEq,Prod.mk.injEq]at h
      exact⟨x,hx,by rw[<-h.1]⟩
     ·cases h
theorem z1l(S:zA):∀(f k:Nat) (acc L:List Tok),tkl S f k acc=.inr L->(∀t∈acc,Cd t)->(∀t∈L,Cd t)/\L.length<=acc.length+(S.size-k)
 |0,k,acc,L,h,ha=>by
  rw[tkl]at h;simp only[Sum.inr.injEq]at h;subst h;exact⟨ha,by omega⟩
 |f+1,k,acc,L,h,ha=>by
  rw[tkl]at h;split at h
  ·simp only[Sum.inr.injEq]at h
   subst h;exact⟨ha,by omega⟩
  ·rename_i x o
   split at h
   ·cases h
   ·rename_i t n r
    have y:=Nj o r;have E:=Nk (S:=S) (n:=n) y.2.1;have G:=(Zq o).1;have:=z1l S f (sb S n) (acc++[t]) L h (fun u A=>by
     rcases List.mem_append.1 A with h|h
     ·exact ha u h
     ·simp at h;rw[h];exact z8q o r)
    refine⟨this.1,?_⟩;have D:=this.2;simp at D;omega
theorem z8r{a b:List Tok}{k:Nat}(h:k<a.length):gL (a++b) k=a[k]:=by
 unfold gL;rw[List.getElem?_append_left h,List.getElem?_eq_getElem h];rfl
theorem z8s{a b:List Tok}{k:Nat}(h:a.length<=k):gL (a++b) k=gL b (k-a.length):=by
 unfold gL;rw[List.getElem?_append_right h]
theorem z8t{m:List Tok}{p:Nat}(A:∀t∈m,Cd t)(hl:m.length<=9000):Ql (m++[(6,{data:=#[]},0,p)]):=by
 have r:∀k,m.length<=k->(gL (m++[(6,{data:=#[]},0,p)]) k).1=6:=fun k y=>by
  rw[z8s y]
  match k-m.length with
  |0=>rfl
  |j+1=>rfl
 refine⟨by simp;omega,fun k y D=> ?_,fun k o=> ?_⟩
 ·rcases Nat.lt_or_ge k m.length with h|h
  ·simp;omega
  ·exact absurd (r k h) D
 ·rcases Nat.lt_or_ge k m.length with h|h
  ·rw[z8r h]at o ⊢
   exact(A _ (List.getElem_mem h)).2 o
  ·rw[r k h]at o
   cases o
theorem z8u{S:zA}{L:List Tok}(h:tkS S=.inr L)(y:S.size<=8192):Ql L/\0<L.length:=by
 unfold tkS at h;cases hm:tks S (sb S 0) []with
 |inl c=>rw[hm]at h;cases h
 |inr m=>
  rw[hm]at h;simp only[tkE,Sum.inr.injEq]at h;subst h;have:=z1l S _ _ _ _ hm (fun t o=>by simp at o);exact⟨z8t this.1 (by have r:=this.2;simp at r;omega),by simp⟩
def z8v(r:Tr):(Nat×Nat) ⊕ List Rl:=match r with
 | .inl c=>.inl c
 | .inr L=>Dl L
def Nf(S:zA):(Nat×Nat) ⊕ List Rl:=z8v (tkS S)
theorem z1m{w W:World}{x:Value}(h:Below (w.heap.size+1) (w.alloc Zg) W):W.heap[w.heap.size]? =some Zg/\zB w W/\zB w (W.setCell ⟨w.heap.size,0,none⟩ x):=by
 have r:W.heap[w.heap.size]? =some Zg:=(h.block _ (by omega)).trans (Qx w _ rfl);have o:zB w W:=((Below.refl _ w).alloc L0q Zg).trans (h.mono (by omega));exact⟨r,o,Below.setNew o L0q⟩
def Nd.kd:Nd->Nat
 | .mk k _ _ _ _=>k
theorem Zh.get{w:World}{P:Nat->Prop}:∀(l:List Rl) (vs:List Value) (k:Nat) (o:k<l.length),Zh w P l vs->∃c,Yw w P l[k] c/\∀j u,c[j]? =some u->vs[k*10+j]? =some u
 |[],vs,k,o,_=>by simp at o
 |x::r,vs,0,o,h=>by
  rw[Zh]at h;obtain⟨c,rest,rfl,A,D⟩:=h;refine⟨c,A,fun j u y=> ?_⟩;have hl:j<c.length:=by
   rcases Nat.lt_or_ge j c.length with h|h
   ·exact h
   ·rw[List.getElem?_eq_none h]at y;cases y
  rw[show 0*10+j=j by omega,List.getElem?_append_left hl];exact y
 |x::r,vs,k+1,o,h=>by
  rw[Zh]at h;obtain⟨c,rest,rfl,A,D⟩:=h;have U:=A.len;obtain⟨d,E,G⟩:=Zh.get r rest k (by simp at o;omega) D;refine⟨d,E,fun j u y=> ?_⟩;rw[List.getElem?_append_right (by omega),show(k+1)*10+j-c.length=k*10+j by omega];exact G j u y
theorem RoR.get{B g n D:Nat}{rs:List Rl}{W:World}(h:RoR B (.slice (some ⟨g,0,none⟩) n D) rs W)(k:Nat)(E:k<rs.length):
  ∃c,Yw W (fun g=>B<=g) rs[k] c/\∀j u,c[j]? =some u->W.cell? ⟨g,k*10+j,none⟩=some u:=by
 obtain⟨xs,y,G⟩:=h;obtain⟨c,A,U⟩:=Zh.get rs xs k E G;have Y:=A.len;have V:n=rs.length:=by
  obtain⟨_,⟨o,_⟩|⟨Z,aa,ab,o,_⟩⟩:=y
  ·cases o
  ·injection o
 subst V;refine⟨c,A,fun j u r=> ?_⟩;have hl:j<c.length:=by
  rcases Nat.lt_or_ge j c.length with h|h
  ·exact h
  ·rw[List.getElem?_eq_none h]at r;cases r
 rw[y.cellAt _ (by omega)];exact U j u r
theorem Tryz.cellsOf61:Tryz.prog.cellsOf 61=1:=by kernel_rfl
theorem Tryz.info61:(Tryz.prog.info? 61).map (fun i=>(i.zero,i.size,i.bytes))=some (some (zU 0),1,8):=by kernel_rfl
theorem Ym(n:Nat)(w:World)(a b c d o r A D:Int):
  (Op.equalIn (n+2) 63 (.agg #[zU a,zU b,zU c,zU d]) (.agg #[zU o,zU r,zU A,zU D])).run prog w=.ok (a == o&&(b == r&&(c == A&&d == D))) w:=by
 obtain⟨i,E⟩:∃i,Tryz.prog.info? 61=some i:=by
  cases h:Tryz.prog.info? 61 with
  |none=>have:=Tryz.info61;rw[h]at this;cases this
  |some i=>exact⟨i,rfl⟩
 have G:Tryz.prog.underlying 63=some (.array 4 61):=by kernel_rfl
 rw[run_equalIn_array w (n+1) _ _ G E,Tryz.cellsOf61];have p:∀(x y z t:Value) (w:World),(part 61 #[x,y,z,t] 0).run prog w=.ok x w:=fun _ _ _ _ _=>by kernel_rfl
 have p1:∀(x y z t:Value) (w:World),(part 61 #[x,y,z,t] 1).run prog w=.ok y w:=fun _ _ _ _ _=>by kernel_rfl
 have p2:∀(x y z t:Value) (w:World),(part 61 #[x,y,z,t] 2).run prog w=.ok z w:=fun _ _ _ _ _=>by kernel_rfl
 have U:∀(x y z t:Value) (w:World),(part 61 #[x,y,z,t] 3).run prog w=.ok t w:=fun _ _ _ _ _=>by kernel_rfl
 have e:∀(x y:Int) (w:World),(Op.equalIn (n+1) 61 (zU x) (zU y)).run prog w=.ok (x == y) w:=fun x y w=>run_equalIn_int w n 61 .u64 .u64 x y Tryz.underlying61
 rw[show List.range 4=[0,1,2,3]from rfl];simp only[Op.eqItems,Sem.run_bind,Nat.mul_one,p,e,Result.andThen_ok];cases h1:a == o<;>cases h2:b == r<;>cases h3:c == A<;>cases h4:d == D<;>simp[Result.andThen,p1,p2,U,e,h2,h3,h4,-beq_iff_eq,-beq_eq_false_iff_ne]
mutual
def Sm:Nd->Nd->Prop
 | .mk kd T C s _,.mk kd' T' C' s' _=>kd'=kd/\T'=T/\C'=C/\SmL s s'/\s.length<=1000000
def SmL:List Nd->List Nd->Prop
 |[],[]=>True
 |a::r,b::q=>Sm a b/\SmL r q
 |_,_=>False
end
section
section
variable {L1 L2:List Tok} {e:Nat}
end
end
section
section
variable {L1 L2:List Tok} {e:Nat}
end
end
section
section
variable {L1 L3:List Tok} {d e:Nat}
end
end
section
def wr(over kd:Nat):Bool:=
 if over=8∨over=9∨over=10 then decide (6<=kd)
 else if over=11∨over=12 then decide (kd=6∨kd=7∨kd=11∨kd=12)
 else if over=6 then decide (kd=6∨kd=7)
 else if over=7 then decide (kd=7)else false
def rpS(kd:Nat):UInt8:=if kd=8 then 63 else if kd=9 then 42 else 43
mutual
def dN:Nd->Nat
 | .mk kd T C s p=>if kd=1 then 1 else dS kd s
def dS(over:Nat):List Nd->Nat
 |[]=>0
 |n::r=>max (if wr over n.kd=true then dN n+1 else dN n) (dS over r)
end
def dP(over:Nat)(n:Nd):Nat:=if wr over n.kd=true then dN n+1 else dN n
mutual
def Vk:Nd->Prop
 | .mk kd T C s p=>((kd=1/\T={data:=#[]}/\C=0/\s=[])∨(kd=2/\C=0/\s=[])∨(kd=3/\T={data:=#[]}/\s=[])∨(kd=4/\T={data:=#[]}/\C=0/\s=[])∨(kd=5/\C=0/\s=[])∨
    ((kd=6∨kd=7)/\T={data:=#[]}/\C=0/\2<=s.length)∨(8<=kd/\kd<=12/\T={data:=#[]}/\C=0/\s.length=1))/\VkL s
def VkL:List Nd->Prop
 |[]=>True
 |n::r=>Vk n/\VkL r
end
theorem VkL.mem:∀{s:List Nd},VkL s->∀n∈s,Vk n
 |[],_,n,h=>by simp at h
 |a::r,h,n,o=>by
  rw[VkL]at h;rcases List.mem_cons.1 o with rfl|o
  ·exact h.1
  ·exact VkL.mem h.2 n o
theorem Oy(h:Nat)(n:Nd)(r:List Nd):dS h (n::r)=max (dP h n) (dS h r):=by rw[dS];rfl
section
variable {L:List Tok} {k:Nat}
end
theorem Vk.kd{n:Nd}(h:Vk n):1<=n.kd/\n.kd<=12:=by
 obtain⟨kd,T,C,s,p⟩:=n;rw[Vk]at h;show 1<=kd/\kd<=12;omega
end
theorem z8w(h kd:Nat)(w:World)(o:6<=h)(r:h<=12)(y:1<=kd)(A:kd<=12):
  Calls prog 322 #[zI (h:Int),zI (kd:Int)] w fun e w'=>e=.returned (.bool (wr h kd))/\w'=w:=by
 have D:h=6∨h=7∨h=8∨h=9∨h=10∨h=11∨h=12:=by omega
 have E:kd=1∨kd=2∨kd=3∨kd=4∨kd=5∨kd=6∨kd=7∨kd=8∨kd=9∨kd=10∨kd=11∨kd=12:=by omega
 clear o r y A;rcases D with rfl|rfl|rfl|rfl|rfl|rfl|rfl<;>rcases E with rfl|rfl|rfl|rfl|rfl|rfl|rfl|rfl|rfl|rfl|rfl|rfl<;>
  (go_enter func322,ntmps322
   go_wp2_with fail
   go_ret;exact⟨rfl,rfl⟩)
def lq(b:Nat):List Nat:=if b=10 then [92,110]else if b=13 then [92,114]else if b=9 then [92,116]else if b=39∨b=92 then [92,b]else if plB b then [b]else [92,120,Yz (b/16),Yz (b%16)]
def NB(w w':World):Prop:=w.heap.size<=w'.heap.size/\∀j,j<w.heap.size->(∀cur,w.heap[j]? ≠some (.cells cur 5 (0,0)))->w'.heap[j]? =w.heap[j]?
theorem NB.trans{a b c:World}(h:NB a b)(k:NB b c):NB a c:=
 ⟨Nat.le_trans h.1 k.1,fun j o r=>(k.2 j (Nat.lt_of_lt_of_le o h.1) (fun y=>by rw[h.2 j o r];exact r y)).trans (h.2 j o r)⟩
theorem NB.below{w w':World}(h:zB w w'):NB w w':=⟨h.size,fun j o _=>h.block j o⟩
theorem NB.alloc(w:World)(o:Obj):NB w (w.alloc o):=.below (B0q.alloc L0q _)
theorem NB.grown{w w':World}{base n:Nat}{v:Value}{xs:List Value}(h:w.ownsRow base 5 1 v n xs)(o:w.grownBy w' v.ownBlock):NB w w':=
 ⟨o.size,fun j r y=>o.block j r (fun e=>by
   obtain⟨_,h|⟨g,E,A,rfl,_,D,_⟩⟩:=h
   ·rw[h.1]at e;simp[Value.ownBlock]at e
   ·simp[Value.ownBlock]at e
    subst e;exact y A D)⟩
def App(base:Nat)(w:World)(n:Nat)(xs:List Value)(l:List Nat)(v':Value)(w':World):Prop:=
 w'.ownsRow base 5 1 v' (n+l.length) (xs++nv l)/\Below base w w'/\NB w w'
theorem App.mk{base n m:Nat}{w w':World}{o:Obj}{v r:Value}{xs y:List Value}{l:List Nat}(A:w.ownsRow base 5 1 v n xs)(E:base<=w.heap.size)(G:m=l.length)(hl:y=nv l)
  (h:w'.ownsRow base 5 1 r (n+m) (xs++y))(D:(w.alloc o).grownBy w' v.ownBlock):App base w n xs l r w':=by
 subst G;subst hl;refine⟨h,(B0q.alloc E _).grown D (by simp;omega) (fun k e=>(A.lt k e).1),(NB.alloc w o).trans (NB.grown (A.alloc o) D)⟩
theorem App.trans{base n:Nat}{w w1 o:World}{xs:List Value}{l m:List Nat}{v1 v2:Value}(h:App base w n xs l v1 w1)(k:App base w1 (n+l.length) (xs++nv l) m v2 o):App base w n xs (l++m) v2 o:=by
 refine⟨?_,h.2.1.trans k.2.1,h.2.2.trans k.2.2⟩;have:=k.1;rw[Fj,List.length_append,<-List.append_assoc,<-Nat.add_assoc];exact this
theorem App.of_drew{base n:Nat}{w w1:World}{xs:List Value}{l:List Nat}{v1:Value}(h:App base w.drew n xs l v1 w1):App base w n xs l v1 w1:=⟨h.1,B0q.drew.trans h.2.1,h.2.2⟩
theorem App.base{base n:Nat}{w w1:World}{xs:List Value}{l:List Nat}{v1:Value}(h:App base w n xs l v1 w1)(o:base<=w.heap.size):base<=w1.heap.size:=Nat.le_trans o h.2.1.size
theorem z8x(base n b:Nat)(v:Value)(xs:List Value)(w:World)(hb:b<256)(ho:w.ownsRow base 5 1 v n xs)(hn:n<=9000000)(h:base<=w.heap.size):
  Calls prog 73 #[v,.int .u8 b] w fun e w'=>∃v',e=.returned v'/\Hid (App base w n xs (lq b) v' w'):=by
 obtain⟨G,U,V,Y,Z⟩:=info_parts Tryz.infoByte;have D:Hid (w.ownsRow base 5 1 v n xs):=ho;have HP:Hid (∀w:World,Calls prog 115 #[.int .u8 b] w fun e w'=>e=.returned (.bool (plB b))/\w'=w):=fun w=>z0A b _ rfl w hb
 clear ho;by_cases h10:b=10
 ·have E:Hid (lq b=[92,110]):=by rw[h10];rfl
  have ad:((b:Int) == 10)=true:=by simp;omega
  clear h10;go_enter func73,ntmps73
  go_wp2_with(first|(at_builtin;refine wpList_append_own _ rfl (.tmp 24) (.tmp 25) 102 rfl base 5 G (.int .u8 0) 1 1 Tryz.underlying102 U V Y Z rfl (by decide) _ _ _ rfl (D.out.alloc _) ⟨w.heap.size,0,none⟩ 2 2 [.int .u8 92,.int .u8 110] rfl rfl (Fk _ _ _ _) (Xk [92,110]) (by unfold maxLen;omega) (by omega) (by have:=h;simp;omega) ?_;intro v2 A o y aa))
  go_ret;rw[E.out];exact⟨_,rfl,hid (App.mk D.out h rfl rfl o y)⟩
 by_cases h13:b=13
 ·have E:Hid (lq b=[92,114]):=by rw[h13];rfl
  have ad:((b:Int) == 10)=false:=by simp;omega
  have ai:((b:Int) == 13)=true:=by simp;omega
  clear h13;go_enter func73,ntmps73
  go_wp2_with(first|(at_builtin;refine wpList_append_own _ rfl (.tmp 27) (.tmp 28) 102 rfl base 5 G (.int .u8 0) 1 1 Tryz.underlying102 U V Y Z rfl (by decide) _ _ _ rfl (D.out.alloc _) ⟨w.heap.size,0,none⟩ 2 2 [.int .u8 92,.int .u8 114] rfl rfl (Fk _ _ _ _) (Xk [92,114]) (by unfold maxLen;omega) (by omega) (by have:=h;simp;omega) ?_;intro v2 A o y aa))
  go_ret;rw[E.out];exact⟨_,rfl,hid (App.mk D.out h rfl rfl o y)⟩
 by_cases h9:b=9
 ·have E:Hid (lq b=[92,116]):=by rw[h9];rfl
  have ad:((b:Int) == 10)=false:=by simp;omega
  have ai:((b:Int) == 13)=false:=by simp;omega
  have a9:((b:Int) == 9)=true:=by simp;omega
  clear h9;go_enter func73,ntmps73
  go_wp2_with(first|(at_builtin;refine wpList_append_own _ rfl (.tmp 30) (.tmp 31) 102 rfl base 5 G (.int .u8 0) 1 1 Tryz.underlying102 U V Y Z rfl (by decide) _ _ _ rfl (D.out.alloc _) ⟨w.heap.size,0,none⟩ 2 2 [.int .u8 92,.int .u8 116] rfl rfl (Fk _ _ _ _) (Xk [92,116]) (by unfold maxLen;omega) (by omega) (by have:=h;simp;omega) ?_;intro v2 A o y aa))
  go_ret;rw[E.out];exact⟨_,rfl,hid (App.mk D.out h rfl rfl o y)⟩
 have ad:((b:Int) == 10)=false:=by simp;omega
 have ai:((b:Int) == 13)=false:=by simp;omega
 have a9:((b:Int) == 9)=false:=by simp;omega
 have H3:Hid (b≠10/\b≠13/\b≠9):=⟨h10,h13,h9⟩;clear h10 h13 h9;by_cases hm:b=39∨b=92
 ·have E:Hid (lq b=[92]++[b]):=by
   show lq b=[92,b];rw[lq,if_neg H3.out.1,if_neg H3.out.2.1,if_neg H3.out.2.2,if_pos hm]
  rcases hm with al|am
  ·have aj:((b:Int) == 39)=true:=by simp;omega
   clear al;go_enter func73,ntmps73
   go_wp2_with(first
    |(at_builtin;refine wpList_append_own _ rfl (.tmp 33) (.tmp 34) 102 rfl base 5 G (.int .u8 0) 1 1 Tryz.underlying102 U V Y Z rfl (by decide) _ _ _ rfl (D.out.alloc _) ⟨w.heap.size,0,none⟩ 1 1 [.int .u8 92] rfl rfl (Vy _ _ _) (Xk [92]) (by unfold maxLen;omega) (by omega) (by have:=h;simp;omega) ?_;intro v2 A o y aa;have HA:Hid (App base _ n xs [92] v2 A):=App.mk D.out h rfl rfl o y;have ab:base<=A.heap.size:=HA.out.base h;have ac:Hid (A.ownsRow base 5 1 v2 (n+1) (xs++nv [92])):=HA.out.1;clear o y aa)
    |(at_builtin;refine wpList_append_own _ rfl (.tmp 36) (.tmp 38) 102 rfl base 5 G (.int .u8 0) 1 1 Tryz.underlying102 U V Y Z rfl (by decide) _ _ _ rfl (ac.out.alloc _) ⟨A.heap.size,0,none⟩ 1 1 [.int .u8 b] rfl rfl (Vy _ _ _) (Xk [(b:Int)]) (by unfold maxLen;omega) (by omega) (by have:=ab;simp;omega) ?_;intro v3 w3 ae af ao))
   go_ret;rw[E.out];exact⟨_,rfl,hid (HA.out.trans (App.mk ac.out ab rfl rfl ae af))⟩
  ·have aj:((b:Int) == 39)=false:=by simp;omega
   have ap:((b:Int) == 92)=true:=by simp;omega
   clear am;go_enter func73,ntmps73
   go_wp2_with(first
    |(at_builtin;refine wpList_append_own _ rfl (.tmp 33) (.tmp 34) 102 rfl base 5 G (.int .u8 0) 1 1 Tryz.underlying102 U V Y Z rfl (by decide) _ _ _ rfl (D.out.alloc _) ⟨w.heap.size,0,none⟩ 1 1 [.int .u8 92] rfl rfl (Vy _ _ _) (Xk [92]) (by unfold maxLen;omega) (by omega) (by have:=h;simp;omega) ?_;intro v2 A o y aa;have HA:Hid (App base _ n xs [92] v2 A):=App.mk D.out h rfl rfl o y;have ab:base<=A.heap.size:=HA.out.base h;have ac:Hid (A.ownsRow base 5 1 v2 (n+1) (xs++nv [92])):=HA.out.1;clear o y aa)
    |(at_builtin;refine wpList_append_own _ rfl (.tmp 36) (.tmp 38) 102 rfl base 5 G (.int .u8 0) 1 1 Tryz.underlying102 U V Y Z rfl (by decide) _ _ _ rfl (ac.out.alloc _) ⟨A.heap.size,0,none⟩ 1 1 [.int .u8 b] rfl rfl (Vy _ _ _) (Xk [(b:Int)]) (by unfold maxLen;omega) (by omega) (by have:=ab;simp;omega) ?_;intro v3 w3 ae af ao))
   go_ret;rw[E.out];exact⟨_,rfl,hid (HA.out.trans (App.mk ac.out ab rfl rfl ae af))⟩
 ·have aj:((b:Int) == 39)=false:=by simp;omega
  have ap:((b:Int) == 92)=false:=by simp;omega
  cases hp:plB b
  ·rw[hp]at HP
   have E:Hid (lq b=[92,120,Yz (b/16),Yz (b%16)]):=by
    show lq b=_;rw[lq,if_neg H3.out.1,if_neg H3.out.2.1,if_neg H3.out.2.2,if_neg hm,hp,if_neg (by simp)]
   clear hp hm;obtain⟨q,hq⟩:∃q,q=b/16:=⟨_,rfl⟩;obtain⟨r,hr⟩:∃r,r=b%16:=⟨_,rfl⟩;have d1:=Cz q (by omega);have d2:=Cz r (by omega);obtain⟨dq,ag⟩:∃d,d=Yz q:=⟨_,rfl⟩;obtain⟨dr,ah⟩:∃d,d=Yz r:=⟨_,rfl⟩;rw[<-hq,<-hr,<-ag,<-ah]at E;rw[<-ag]at d1;rw[<-ah]at d2;have e1:(b:Int)/16=(q:Int):=by omega
   have e2:bits BinOp.and IntKind.u8 (b:Int) 15=(r:Int):=by
    have:=u8_and15 (x:=(b:Int)) (by omega) (by omega);rw[this];omega
   clear hq hr ag ah;go_enter func73,ntmps73
   go_wp2_with fail
   refine(HP.out _).mono ?_;rintro e w1 ⟨rfl,rfl⟩
   go_wp2_with fail
   have ak:Hid (w1.drew.ownsRow base 5 1 v n xs):=D.out.kept (row:=none) ⟨rfl,rfl,rfl,Nat.le_refl _,fun j hj _=>rfl⟩ (by cases hq:v.ownBlock<;>simp)
   go_region_held3 (fun _=>True) (trivial) (first
    |(rw[if_pos (by rfl)];refine wp_append_own _ (.tmp 40) (.tmp 47) 102 rfl base 5 G (.int .u8 0) 1 1 Tryz.underlying102 U V Y Z rfl (by decide) _ _ _ rfl (ak.out.alloc _) ⟨w1.heap.size,0,none⟩ 4 4 [.int .u8 92,.int .u8 120,.int .u8 dq,.int .u8 dr] rfl rfl (z0C _ _ _ _ _ _) (Xk [92,120,(dq:Int),(dr:Int)]) (by unfold maxLen;omega) (by omega) (by have:=h;simp;omega) ?_;intro v2 A o y aa))
   all_goals
    go_wp2_with fail
    go_ret;rw[E.out];exact⟨_,rfl,hid (App.of_drew (App.mk ak.out h rfl rfl o y))⟩
  ·rw[hp]at HP
   have E:Hid (lq b=[b]):=by
    show lq b=[b];rw[lq,if_neg H3.out.1,if_neg H3.out.2.1,if_neg H3.out.2.2,if_neg hm,hp,if_pos rfl]
   clear hp hm;go_enter func73,ntmps73
   go_wp2_with fail
   refine(HP.out _).mono ?_;rintro e w1 ⟨rfl,rfl⟩
   go_wp2_with(first|(at_builtin;refine wpList_append_own _ rfl (.tmp 36) (.tmp 38) 102 rfl base 5 G (.int .u8 0) 1 1 Tryz.underlying102 U V Y Z rfl (by decide) _ _ _ rfl (D.out.alloc _) ⟨w1.heap.size,0,none⟩ 1 1 [.int .u8 b] rfl rfl (Vy _ _ _) (Xk [(b:Int)]) (by unfold maxLen;omega) (by omega) (by have:=h;simp;omega) ?_;intro v2 A o y aa))
   go_ret;rw[E.out];exact⟨_,rfl,hid (App.mk D.out h rfl rfl o y)⟩
theorem Cm(n:Nat)(h:n<16):Yz n<256:=by unfold Yz;split<;>omega
theorem z8y(b:Nat):1<=(lq b).length/\(lq b).length<=4:=by
 unfold lq
 repeat(split;(· simp))
 simp
theorem z8z(b:Nat)(h:b<256):∀x∈lq b,x<256:=by
 have o:=Cm (b/16) (by omega);have r:=Cm (b%16) (by omega);unfold lq
 repeat(split;(· intro x hx;simp at hx;omega))
 intro x hx;simp at hx;omega
def qp(S:zA):Nat->List Nat
 |0=>[39]
 |k+1=>qp S k++(match bt S k with|some x=>lq x|none=>[])
def qt(S:zA):List Nat:=qp S S.size++[39]
theorem Cp(S:zA):∀k,(qp S k).length<=4*k+1/\∀x∈qp S k,x<256
 |0=>by simp[qp]
 |k+1=>by
  have o:=Cp S k;rw[qp];cases hb:bt S k with
  |none=>simp only[List.append_nil];exact⟨by omega,o.2⟩
  |some x=>
   have A:=z8y x;simp only[List.length_append];refine⟨by omega,fun y r=> ?_⟩;rcases List.mem_append.1 r with h|h
   ·exact o.2 y h
   ·exact z8z x (Zq hb).2 y h
theorem z1n{S:zA}{k x:Nat}(h:bt S k=some x):qp S (k+1)=qp S k++lq x:=by rw[qp,h]
theorem z1o(S:zA):∀x∈qt S,x<256:=by
 intro x hx;unfold qt at hx;rcases List.mem_append.1 hx with h|h
 ·exact(Cp S _).2 x h
 ·simp at h;omega
def Lq(w:World)(v:Value)(l:List Nat)(w':World):Prop:=Hid (zB w w')/\Hid (w'.ownsRow w.heap.size 5 1 v l.length (nv l))
theorem z8A(S:zA)(w:World)(hS:S.size<=1048576):
  Calls prog 40 #[zT S] w fun e w'=>e=.returned (zT (nb (qt S)))/\zB w w':=by
 obtain⟨r,y,A,D,E⟩:=info_parts Tryz.infoByte;obtain⟨w1,G,Z,aa⟩:=run_make_own (P:=prog) w w.heap.size 102 5 r (.int .u8 0) 1 Tryz.underlying102 y A D .i64 .i64 (S.size+2) (by rw[E];omega) (by unfold maxLen;omega) L0q;have e1:((S.size+2:Nat):Int)=(S.size:Int)+2:=by omega
 rw[e1]at G;have U:Hid (zB w w1):=B0q.grown aa L0q (fun k e=>by cases e);have o:Hid (w1.ownsRow w.heap.size 5 1 (zS w.heap.size 0 (S.size+2)) 0 []):=Z;have ah:w.heap.size<=w1.heap.size:=U.out.size;obtain⟨n2,ab⟩:∃n,n=S.size+2:=⟨_,rfl⟩;rw[<-ab]at G o;clear Z aa e1 ab;go_enter func40,ntmps40
 go_wp2_with(first|(at_builtin;refine wpList_append_own _ rfl (.tmp 9) (.tmp 10) 102 rfl w.heap.size 5 r (.int .u8 0) 1 1 Tryz.underlying102 y A D E rfl (by decide) _ _ _ rfl (o.out.alloc _) ⟨w1.heap.size,0,none⟩ 1 1 [.int .u8 39] rfl rfl (Vy _ _ _) (Xk [39]) (by unfold maxLen;omega) (by omega) (by simp;omega) ?_;intro v2 w2 ac ad ai))
 have aj:Hid (Lq w v2 [39] w2):=⟨hid ((U.out.alloc ah _).grown ad (by simp;omega) (fun k e=>(o.out.lt k e).1)),hid ac⟩;clear ac ad ai o U G
 go_loopw [3,14] (fun v i wr=>∃k:Nat,i=zI (k:Int)/\k<=S.size/\Hid (Lq w v (qp S k) wr)) (fun _ i _=>S.size-(intOf i).toNat)
 case atStart=>exact⟨0,rfl,Nat.zero_le _,aj⟩
 case round=>
  obtain⟨k,rfl,hk,h⟩:=hrel;have hl:=(Cp S k).1;have ae:w.heap.size<=wr.heap.size:=h.out.1.out.size;cases hb:bt S k with
  |none=>
   have ao:=Yg hb;have V:k=S.size:=by omega
   have a0:decide ((k:Int)<(S.size:Int))=false:=by simp;omega
   have HF:Hid (qt S=qp S k++[39]):=by show qt S=_;rw[V];rfl
   clear hb V
   go_wp2_with(first|(at_builtin;refine wpList_append_own _ rfl (.tmp 23) (.tmp 24) 102 rfl w.heap.size 5 r (.int .u8 0) 1 1 Tryz.underlying102 y A D E rfl (by decide) _ _ _ rfl (h.out.2.out.alloc _) ⟨wr.heap.size,0,none⟩ 1 1 [.int .u8 39] rfl rfl (Vy _ _ _) (Xk [39]) (by unfold maxLen;omega) (by omega) (by simp;omega) ?_;intro v9 w9 af ag ak;have ap:=Cx (l:=qp S k++[39]) (by rw[Fj];exact af) (by rw[<-HF.out];exact z1o S);have al:Hid (zB w w9):=(h.out.1.out.alloc ae _).grown ag (by simp;omega) (fun k e=>(h.out.2.out.lt k e).1);clear af ag ak))
   (try simp only[Exit.inBlock,Exit.then])
   refine bodyPost_ret (v:=zT (nb (qp S k++[39]))) (by simp[results,Tryz.results40,go_sem]) rfl ?_;exact⟨by rw[HF.out],al.out⟩
  |some x=>
   obtain⟨V,aq⟩:=Xy hb;have hx:=(Zq hb).2;have a0:decide ((k:Int)<(S.size:Int))=true:=by simp;omega
   have ar:(k:Int)<(S.size:Int):=by omega
   have HQ:Hid (qp S (k+1)=qp S k++lq x):=z1n hb;have HN:Hid (((k+1:Nat):Int)=(k:Int)+1):=by show _=_;omega
   have HC:=hid (z8x w.heap.size (qp S k).length x u3 (nv (qp S k)) wr hx h.out.2.out (by omega) ae);clear hb
   go_wp2_with fail
   refine HC.out.mono ?_;rintro e w3 ⟨v3,rfl,Y⟩;have am:Hid (Lq w v3 (qp S (k+1)) w3):=⟨hid (h.out.1.out.trans Y.out.2.1),hid (by rw[HQ.out,List.length_append,Fj];exact Y.out.1)⟩;clear Y HC h
   go_wp2_with fail
   go_roundw
   case rel=>exact⟨k+1,by rw[HN.out],by omega,am⟩
   case measure=>simp[intOf];omega
end Go.Proofs.YtmelafeingcgnaaGreatDoor
