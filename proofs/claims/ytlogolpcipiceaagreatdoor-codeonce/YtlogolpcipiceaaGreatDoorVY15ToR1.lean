/- Lemmas for the last text. Conditions: those that each names. -/
import Derived.Test.YtlogolpcipiceaaGreatDoorVY13ToY14
import Derived.Defers
import Derived.Recover
import Derived.ChangeKeysEq
import Derived.Laws.StructEq
set_option linter.unusedVariables false
set_option maxRecDepth 100000
set_option maxHeartbeats 8000000
namespace Go.Proofs.YtlogolpcipiceaaGreatDoor
open Go.Proofs.Tryz
open Go.RowKit
theorem Tryz.asFlt(v:Value)(xT:TypeId)(w:World):(Instr.typeAssert (.iface 95 v) xT 95 true).run prog w=.ok (.tuple #[v,.bool true]) w:=by kernel_rfl
theorem z6R(p q:Nat)(w:World):
  CallsD prog 98 #[.pointer (some ⟨p,0,none⟩),.pointer (some ⟨q,0,none⟩)] .returning w fun e u' w'=>e=.returned (.tuple #[])/\u'=.returning/\w'=w:=by
 refine callsD_of_wpS func98 rfl fun c₀ cs hu=> ?_
 apply wpS_seq;apply wpS_region;simp[wpOpsS,go_sem,recoverD,hu,ntmps98,Exit.thenS];refine wpS_of_wp ?_
 go_wp2
 cases c₀;simp_all[bodyPostS,results,Tryz.results98]
theorem z6S(p q f:Nat)(older:List PanicEntry)(w:World)(hne:p≠q)(hp:w.cell? ⟨p,0,none⟩=some (.slice none 0 0))(hq:w.cell? ⟨q,0,none⟩=some .nilIface)(hp2:w.frozen? ⟨p,0,none⟩=false)(hq2:w.frozen? ⟨q,0,none⟩=false):
  CallsD prog 98 #[.pointer (some ⟨p,0,none⟩),.pointer (some ⟨q,0,none⟩)] (.panicking ({v:=.iface 95 (.pointer (some ⟨f,0,none⟩)),recovered:=false}::older)) w fun e u' w'=>
   e=.returned (.tuple #[])/\u'=.panicking ({v:=.iface 95 (.pointer (some ⟨f,0,none⟩)),recovered:=true}::older)/\w'=(w.setCell ⟨p,0,none⟩ (.slice none 0 0)).setCell ⟨q,0,none⟩ (.iface 95 (.pointer (some ⟨f,0,none⟩))):=by
 refine callsD_of_wpS func98 rfl fun c₀ cs hu=> ?_
 apply wpS_seq;apply wpS_region;simp[wpOpsS,go_sem,recoverD,hu,ntmps98,Exit.thenS];have hta:=Tryz.asFlt;refine wpS_of_wp ?_;rw[show(#[Value.pointer (some ⟨p,0,none⟩),Value.pointer (some ⟨q,0,none⟩)]++(Array.replicate 12 undef).setIfInBounds 3 (Value.iface 95 (Value.pointer (some ⟨f,0,none⟩))))=#[Value.pointer (some ⟨p,0,none⟩),Value.pointer (some ⟨q,0,none⟩),undef,undef,undef,Value.iface 95 (Value.pointer (some ⟨f,0,none⟩)),undef,undef,undef,undef,undef,undef,undef,undef]from rfl];clear hu
 go_wp2_with fail
 simp[bodyPostS,results,Tryz.results98]
def Dp(r:(Nat×Nat) ⊕ List Rl)(w:World)(e:Ending)(w':World):Prop:=
 match r with
 | .inr rs=>∃g cap,e=.returned (.tuple #[.agg #[.slice (some ⟨g,0,none⟩) rs.length cap],.nilIface])/\Hid (RoR w.heap.size (.slice (some ⟨g,0,none⟩) rs.length cap) rs w')/\Hid (Below w.heap.size w w')
 | .inl c=>∃f,e=.returned (.tuple #[.agg #[.slice none 0 0],flv f])/\Hid (w.heap.size<=f/\Flt w' f c/\Below w.heap.size w w')
theorem RoR.low{B B':Nat}{pv:Value}{acc:List Rl}{W:World}(h:RoR B pv acc W)(hB:B'<=B):RoR B' pv acc W:=by
 obtain⟨xs,⟨a,h1⟩,h2⟩:=h;refine⟨xs,⟨a,?_⟩,Zk.kept (fun g cur hp hq=>⟨rfl,show B'<=g by have hp':B<=g:=hp;omega⟩) _ _ h2⟩;rcases h1 with h1|⟨g',cap',cur,hq,hb,rest⟩
 ·exact .inl h1
 ·exact .inr ⟨g',cap',cur,hq,by omega,rest⟩
theorem Below.setNew{w W:World}{g j:Nat}{u:Value}(h:Below w.heap.size w W)(hg:w.heap.size<=g):Below w.heap.size w (W.setCell ⟨g,j,none⟩ u):=
 h.grown (G.setR (G.refl W g)) h.size (fun k e=>by have:=Option.some.inj e;omega)
@[reducible] def w3R (w:World) (v:Value):World:=((w.alloc Zg).alloc (.cells #[.nilIface] 33)).alloc (.cells #[v,.int .i64 0,.int .i64 0,.int .i64 0] 188)
theorem z0H(w:World)(v:Value):(w3R w v).heap[w.heap.size]? =some Zg:=
 (Below.heap_alloc _ _ _ (by simp;omega)).trans ((Below.heap_alloc _ _ _ (by simp)).trans (Qx w _ rfl))
theorem z0I(w:World)(v:Value):(w3R w v).heap[w.heap.size+1]? =some (.cells #[.nilIface] 33):=
 (Below.heap_alloc _ _ _ (by simp)).trans (Qx _ _ (by simp))
theorem Qk{w:World}{g:Nat}{a:Value}{t:TypeId}(h:w.heap[g]? =some (.cells #[a] t)):w.cell? ⟨g,0,none⟩=some a/\w.frozen? ⟨g,0,none⟩=false:=by
 constructor<;>simp[World.cell?,World.frozen?,h]
theorem z0J{w:World}{p:Nat}{a b:Value}{s t:TypeId}(hp:w.heap[p]? =some (.cells #[a] s))(hq:w.heap[p+1]? =some (.cells #[b] t))(x y:Value):
  ((w.setCell ⟨p,0,none⟩ x).setCell ⟨p+1,0,none⟩ y).cell? ⟨p,0,none⟩=some x/\((w.setCell ⟨p,0,none⟩ x).setCell ⟨p+1,0,none⟩ y).cell? ⟨p+1,0,none⟩=some y:=by
 constructor
 ·simp[World.cell?,World.setCell,Array.getElem?_modify,hp]
 ·simp[World.cell?,World.setCell,Array.getElem?_modify,hq]
theorem z6T(b:Nat)(v:Value)(L:List Tok)(w:World)(ho:w.ownsRow b 183 7 v L.length (tvs L))(hg:Qc L)(hl0:0<L.length):
  Calls prog 57 #[v] w fun e w'=>Dp (Vx L) w e w':=by
 have hmf:∀(fn:Fn) (first cap:Array Value) (w:World),(Instr.makeFunc fn first cap).run prog w=.ok (.func fn first cap) w:=fun _ _ _ _=>rfl
 obtain⟨g,cap,rfl⟩:=Jk ho (by omega);have hR:Rd (w3R w (.slice (some ⟨g,0,none⟩) L.length cap)) (w.heap.size+2) b (.slice (some ⟨g,0,none⟩) L.length cap) L 0 0 0:=⟨Qx _ _ (by simp),((ho.alloc _).alloc _).alloc _⟩;have HC:=hid (z6Q (w.heap.size+2) b (w.heap.size+3) _ L _ hg hR hl0 (by simp));have HB:Hid (Below w.heap.size w (w3R w (.slice (some ⟨g,0,none⟩) L.length cap))):=((B0q.alloc L0q _).alloc (by simp) _).alloc (by simp<;>omega) _;obtain⟨n,hn⟩:∃n,n=L.length:=⟨_,rfl⟩;rw[<-hn]at HC HB ⊢;clear hn hR ho;cases hs:Vx L with
 |inl c=>
  rw[hs]at HC;clear hs
  go_enter_defers func57,ntmps57
  go_wp2_with fail
  refine HC.out.mono ?_;rintro e w4 ⟨f,rfl,HF,HG⟩;have HP:Hid (w4.heap[w.heap.size]? =some Zg):=(HG.out.block _ (by simp;omega) (fun e=>by have:=Option.some.inj e;omega)).trans (z0H w _);have HQ:Hid (w4.heap[w.heap.size+1]? =some (.cells #[.nilIface] 33)):=(HG.out.block _ (by simp) (fun e=>by have:=Option.some.inj e;omega)).trans (z0I w _);have HB4:Hid (Below w.heap.size w w4):=HB.out.grown HG.out HB.out.size (fun k e=>by have:=Option.some.inj e;omega);have hf:w.heap.size+3<=f:=by have:=HF.out.1;simp at this;omega
  have HA:Hid (Dp (.inl c) w (.returned (.tuple #[.agg #[.slice none 0 0],.iface 95 (.pointer (some ⟨f,0,none⟩))])) ((w4.setCell ⟨w.heap.size,0,none⟩ (.slice none 0 0)).setCell ⟨w.heap.size+1,0,none⟩ (.iface 95 (.pointer (some ⟨f,0,none⟩))))):=
   ⟨f,rfl,hid ⟨by omega,(Below.heap_setCell _ _ _ _ (show f≠w.heap.size+1 by omega)).trans ((Below.heap_setCell _ _ _ _ (show f≠w.heap.size by omega)).trans HF.out.2),Below.setNew (Below.setNew HB4.out L0q) (by omega)⟩⟩
  clear HC HF HG HB HB4
  go_wp2_with fail
  refine leaves_cons (f:=98) (args:=#[.pointer (some ⟨w.heap.size,0,none⟩),.pointer (some ⟨w.heap.size+1,0,none⟩)]) (by simp) (by simp[go_sem]) ?_;refine(z6S w.heap.size (w.heap.size+1) f [] w4 (by omega) (Qk HP.out).1 (Qk HQ.out).1 (Qk HP.out).2 (Qk HQ.out).2).mono ?_;rintro e u' w'' ⟨rfl,rfl,rfl⟩;obtain⟨c0,c1⟩:=z0J HP.out HQ.out (.slice none 0 0) (.iface 95 (.pointer (some ⟨f,0,none⟩)));simp[Leaves,settle,results,Tryz.results57,go_sem,c0,c1];exact HA.out
 |inr rs=>
  rw[hs]at HC;clear hs;obtain⟨m,hm⟩:∃m,m=rs.length:=⟨_,rfl⟩;have HM:Hid (m=rs.length):=hm;clear hm
  go_enter_defers func57,ntmps57
  go_wp2_with fail
  refine HC.out.mono ?_;rintro e w4 ⟨g4,cap4,rfl,HRo,HG⟩;rw[<-HM.out]at HRo ⊢;have HP:Hid (w4.heap[w.heap.size]? =some Zg):=(HG.out.block _ (by simp;omega) (fun e=>by have:=Option.some.inj e;omega)).trans (z0H w _);have HQ:Hid (w4.heap[w.heap.size+1]? =some (.cells #[.nilIface] 33)):=(HG.out.block _ (by simp) (fun e=>by have:=Option.some.inj e;omega)).trans (z0I w _);have HB4:Hid (Below w.heap.size w w4):=HB.out.grown HG.out HB.out.size (fun k e=>by have:=Option.some.inj e;omega);have hs4:w.heap.size+1<w4.heap.size:=Qz HQ.out;have HA:Hid (Dp (.inr rs) w (.returned (.tuple #[.agg #[.slice (some ⟨g4,0,none⟩) m cap4],.nilIface])) ((w4.setCell ⟨w.heap.size,0,none⟩ (.slice (some ⟨g4,0,none⟩) m cap4)).setCell ⟨w.heap.size+1,0,none⟩ .nilIface)):=by
   have hr:=(HRo.out.grown (G.setR (u:=.slice (some ⟨g4,0,none⟩) m cap4) (j:=0) (G.refl w4 w.heap.size)) (by omega)).grown (G.setR (u:=.nilIface) (j:=0) (G.refl _ (w.heap.size+1))) (by omega);have hm:=HM.out;subst hm;exact⟨g4,cap4,rfl,hid (hr.low (by omega)),hid (Below.setNew (Below.setNew HB4.out L0q) (by omega))⟩
  obtain⟨e0,y0⟩:=Qk HP.out;obtain⟨e1,y1⟩:=Qk HQ.out;clear HC HRo HG HB HB4
  go_wp2_with fail
  refine leaves_cons (f:=98) (args:=#[.pointer (some ⟨w.heap.size,0,none⟩),.pointer (some ⟨w.heap.size+1,0,none⟩)]) (by simp) (by simp[go_sem]) ?_;refine(z6R w.heap.size (w.heap.size+1) _).mono ?_;rintro e u' w'' ⟨rfl,rfl,rfl⟩;obtain⟨c0,c1⟩:=z0J HP.out HQ.out (.slice (some ⟨g4,0,none⟩) m cap4) .nilIface;simp[Leaves,settle,results,Tryz.results57,go_sem,c0,c1];exact HA.out
def Nh(t:Tok):Prop:=t.1<=5/\(t.1=5->∃x,x<256/\t.2.1=nb [x])
theorem z6U{S:ByteArray}{p x n:Nat}{t:Tok}(hb:bt S p=some x)(h:Yz S p x=.inr (t,n)):Nh t:=by
 have hx:=(Qh hb).2;refine⟨(Db hb h).2.2.2.2.2.1,fun h5=> ?_⟩;unfold Yz at h;split at h
 ·split at h
  ·cases h
  ·simp only[Sum.inr.injEq,Prod.mk.injEq]at h
   rw[<-h.1]at h5;exact absurd h5 (by show ¬(1:Nat)=5;decide)
 ·split at h
  ·split at h
   ·cases h
   ·simp only[Sum.inr.injEq,Prod.mk.injEq]at h
    rw[<-h.1]at h5;exact absurd h5 (by show ¬(3:Nat)=5;decide)
  ·split at h
   ·split at h
    ·cases h
    ·simp only[Sum.inr.injEq,Prod.mk.injEq]at h
     rw[<-h.1]at h5;exact absurd h5 (by show ¬(4:Nat)=5;decide)
   ·split at h
    ·simp only[Sum.inr.injEq,Prod.mk.injEq]at h
     rw[<-h.1]at h5;exact absurd h5 (by show ¬(2:Nat)=5;decide)
    ·split at h
     ·simp only[Sum.inr.injEq,Prod.mk.injEq]at h
      exact⟨x,hx,by rw[<-h.1]⟩
     ·cases h
theorem Lx(S:ByteArray):∀(f k:Nat) (acc L:List Tok),tkl S f k acc=.inr L->(∀t∈acc,Nh t)->(∀t∈L,Nh t)/\L.length<=acc.length+(S.size-k)
 |0,k,acc,L,h,ha=>by
  rw[tkl]at h;simp only[Sum.inr.injEq]at h;subst h;exact⟨ha,by omega⟩
 |f+1,k,acc,L,h,ha=>by
  rw[tkl]at h;split at h
  ·simp only[Sum.inr.injEq]at h
   subst h;exact⟨ha,by omega⟩
  ·rename_i x hb
   split at h
   ·cases h
   ·rename_i t n ht
    have h1:=Db hb ht;have h2:=Nw (S:=S) (n:=n) h1.2.1;have h3:=(Qh hb).1;have:=Lx S f (sb S n) (acc++[t]) L h (fun u hu=>by
     rcases List.mem_append.1 hu with h|h
     ·exact ha u h
     ·simp at h;rw[h];exact z6U hb ht)
    refine⟨this.1,?_⟩;have h4:=this.2;simp at h4;omega
theorem z0K{a b:List Tok}{k:Nat}(h:k<a.length):gL (a++b) k=a[k]:=by
 unfold gL;rw[List.getElem?_append_left h,List.getElem?_eq_getElem h];rfl
theorem z0L{a b:List Tok}{k:Nat}(h:a.length<=k):gL (a++b) k=gL b (k-a.length):=by
 unfold gL;rw[List.getElem?_append_right h]
theorem z6V{m:List Tok}{p:Nat}(hm:∀t∈m,Nh t)(hl:m.length<=9000):Qc (m++[(6,{data:=#[]},0,p)]):=by
 have hr:∀k,m.length<=k->(gL (m++[(6,{data:=#[]},0,p)]) k).1=6:=fun k hk=>by
  rw[z0L hk]
  match k-m.length with
  |0=>rfl
  |j+1=>rfl
 refine⟨by simp;omega,fun k hk h6=> ?_,fun k h5=> ?_⟩
 ·rcases Nat.lt_or_ge k m.length with h|h
  ·simp;omega
  ·exact absurd (hr k h) h6
 ·rcases Nat.lt_or_ge k m.length with h|h
  ·rw[z0K h]at h5 ⊢
   exact(hm _ (List.getElem_mem h)).2 h5
  ·rw[hr k h]at h5
   cases h5
theorem z6W{S:ByteArray}{L:List Tok}(h:tkS S=.inr L)(hS:S.size<=8192):Qc L/\0<L.length:=by
 unfold tkS at h;cases hm:tks S (sb S 0) []with
 |inl c=>rw[hm]at h;cases h
 |inr m=>
  rw[hm]at h;simp only[tkE,Sum.inr.injEq]at h;subst h;have:=Lx S _ _ _ _ hm (fun t ht=>by simp at ht);exact⟨z6V this.1 (by have h2:=this.2;simp at h2;omega),by simp⟩
def z6X(r:Tr):(Nat×Nat) ⊕ List Rl:=match r with
 | .inl c=>.inl c
 | .inr L=>Vx L
def Vj(S:ByteArray):(Nat×Nat) ⊕ List Rl:=z6X (tkS S)
theorem z0M{w W:World}{x:Value}(hb:Below (w.heap.size+1) (w.alloc Zg) W):W.heap[w.heap.size]? =some Zg/\Below w.heap.size w W/\Below w.heap.size w (W.setCell ⟨w.heap.size,0,none⟩ x):=by
 have h1:W.heap[w.heap.size]? =some Zg:=(hb.block _ (by omega)).trans (Qx w _ rfl);have h2:Below w.heap.size w W:=((Below.refl _ w).alloc L0q Zg).trans (hb.mono (by omega));exact⟨h1,h2,Below.setNew h2 L0q⟩
def Nd.kd:Nd->Nat
 | .mk k _ _ _ _=>k
theorem Zk.get{w:World}{P:Nat->Prop}:∀(l:List Rl) (vs:List Value) (k:Nat) (hk:k<l.length),Zk w P l vs->∃c,Yx w P l[k] c/\∀j u,c[j]? =some u->vs[k*10+j]? =some u
 |[],vs,k,hk,_=>by simp at hk
 |x::r,vs,0,hk,h=>by
  rw[Zk]at h;obtain⟨c,rest,rfl,h1,h2⟩:=h;refine⟨c,h1,fun j u hj=> ?_⟩;have hl:j<c.length:=by
   rcases Nat.lt_or_ge j c.length with h|h
   ·exact h
   ·rw[List.getElem?_eq_none h]at hj;cases hj
  rw[show 0*10+j=j by omega,List.getElem?_append_left hl];exact hj
 |x::r,vs,k+1,hk,h=>by
  rw[Zk]at h;obtain⟨c,rest,rfl,h1,h2⟩:=h;have hc:=h1.len;obtain⟨d,h3,h4⟩:=Zk.get r rest k (by simp at hk;omega) h2;refine⟨d,h3,fun j u hj=> ?_⟩;rw[List.getElem?_append_right (by omega),show(k+1)*10+j-c.length=k*10+j by omega];exact h4 j u hj
theorem RoR.get{B g n cap:Nat}{rs:List Rl}{W:World}(h:RoR B (.slice (some ⟨g,0,none⟩) n cap) rs W)(k:Nat)(hk:k<rs.length):
  ∃c,Yx W (fun g=>B<=g) rs[k] c/\∀j u,c[j]? =some u->W.cell? ⟨g,k*10+j,none⟩=some u:=by
 obtain⟨xs,h1,h2⟩:=h;obtain⟨c,h3,h4⟩:=Zk.get rs xs k hk h2;have hc:=h3.len;have hn:n=rs.length:=by
  obtain⟨_,⟨hq,_⟩|⟨g',cap',cur,hq,_⟩⟩:=h1
  ·cases hq
  ·injection hq
 subst hn;refine⟨c,h3,fun j u hj=> ?_⟩;have hl:j<c.length:=by
  rcases Nat.lt_or_ge j c.length with h|h
  ·exact h
  ·rw[List.getElem?_eq_none h]at hj;cases hj
 rw[h1.cellAt _ (by omega)];exact h4 j u hj
theorem Tryz.cellsOf66:Tryz.prog.cellsOf 66=1:=by kernel_rfl
theorem Tryz.info66:(Tryz.prog.info? 66).map (fun i=>(i.zero,i.size,i.bytes))=some (some (.int .u64 0),1,8):=by kernel_rfl
theorem Lj(n:Nat)(w:World)(a b c d a' b' c' d':Int):
  (Op.equalIn (n+2) 68 (.agg #[.int .u64 a,.int .u64 b,.int .u64 c,.int .u64 d]) (.agg #[.int .u64 a',.int .u64 b',.int .u64 c',.int .u64 d'])).run prog w=.ok (a == a'&&(b == b'&&(c == c'&&d == d'))) w:=by
 obtain⟨i,hi⟩:∃i,Tryz.prog.info? 66=some i:=by
  cases h:Tryz.prog.info? 66 with
  |none=>have:=Tryz.info66;rw[h]at this;cases this
  |some i=>exact⟨i,rfl⟩
 have hu:Tryz.prog.underlying 68=some (.array 4 66):=by kernel_rfl
 rw[run_equalIn_array w (n+1) _ _ hu hi,Tryz.cellsOf66];have p:∀(x y z t:Value) (w:World),(part 66 #[x,y,z,t] 0).run prog w=.ok x w:=fun _ _ _ _ _=>by kernel_rfl
 have p1:∀(x y z t:Value) (w:World),(part 66 #[x,y,z,t] 1).run prog w=.ok y w:=fun _ _ _ _ _=>by kernel_rfl
 have p2:∀(x y z t:Value) (w:World),(part 66 #[x,y,z,t] 2).run prog w=.ok z w:=fun _ _ _ _ _=>by kernel_rfl
 have p3:∀(x y z t:Value) (w:World),(part 66 #[x,y,z,t] 3).run prog w=.ok t w:=fun _ _ _ _ _=>by kernel_rfl
 have e:∀(x y:Int) (w:World),(Op.equalIn (n+1) 66 (.int .u64 x) (.int .u64 y)).run prog w=.ok (x == y) w:=fun x y w=>run_equalIn_int w n 66 .u64 .u64 x y Tryz.underlying66
 rw[show List.range 4=[0,1,2,3]from rfl];simp only[Op.eqItems,Sem.run_bind,Nat.mul_one,p,e,Result.andThen_ok];cases h1:a == a'<;>cases h2:b == b'<;>cases h3:c == c'<;>cases h4:d == d'<;>simp[Result.andThen,p1,p2,p3,e,h2,h3,h4,-beq_iff_eq,-beq_eq_false_iff_ne]
mutual
def Sm:Nd->Nd->Prop
 | .mk kd T C s _,.mk kd' T' C' s' _=>kd'=kd/\T'=T/\C'=C/\SmL s s'/\s.length<=1000000
def SmL:List Nd->List Nd->Prop
 |[],[]=>True
 |a::r,b::q=>Sm a b/\SmL r q
 |_,_=>False
end
theorem SmL.len:∀{s t:List Nd},SmL s t->t.length=s.length
 |[],[],_=>rfl
 |[],_::_,h=>by simp[SmL]at h
 |_::_,[],h=>by simp[SmL]at h
 |a::r,b::q,h=>by
  rw[SmL]at h;simp[SmL.len h.2]
def Cn(w:World)(g o:Nat)(kd:Nat)(T:ByteArray)(C:Nat)(sv:Value)(p:Nat):Prop:=w.cell? ⟨g,o,none⟩=some (.int .i64 kd)/\w.cell? ⟨g,o+1,none⟩=some (.string T)/\w.cell? ⟨g,o+2,none⟩=some (.int .u64 (wd C 0))/\w.cell? ⟨g,o+3,none⟩=some (.int .u64 (wd C 1))/\w.cell? ⟨g,o+4,none⟩=some (.int .u64 (wd C 2))/\w.cell? ⟨g,o+5,none⟩=some (.int .u64 (wd C 3))/\w.cell? ⟨g,o+6,none⟩=some sv/\w.cell? ⟨g,o+7,none⟩=some (.int .i64 p)
theorem Cn.below{w W:World}{B g o kd C p:Nat}{T:ByteArray}{sv:Value}(h:Cn w g o kd T C sv p)(hb:Below B w W)(hg:g<B):Cn W g o kd T C sv p:=by
 obtain⟨h0,h1,h2,h3,h4,h5,h6,h7⟩:=h;have e:∀j,W.cell? ⟨g,j,none⟩=w.cell? ⟨g,j,none⟩:=fun j=>hb.cell (p:=⟨g,j,none⟩) hg
 exact⟨(e _).trans h0,(e _).trans h1,(e _).trans h2,(e _).trans h3,(e _).trans h4,(e _).trans h5,(e _).trans h6,(e _).trans h7⟩
def SN(w:World)(g n cap g' cap':Nat)(W:World):Prop:=Below w.heap.size w W/\W.cell? ⟨w.heap.size,6,none⟩=some (.slice (some ⟨g,0,none⟩) n cap)/\W.cell? ⟨w.heap.size+1,6,none⟩=some (.slice (some ⟨g',0,none⟩) n cap')/\w.heap.size+2<=W.heap.size
theorem SN.below{w W W':World}{g n cap g' cap':Nat}(h:SN w g n cap g' cap' W)(hb:Below W.heap.size W W'):SN w g n cap g' cap' W':=by
 obtain⟨h1,h2,h3,h4⟩:=h;exact⟨h1.trans (hb.mono h1.size),(hb.cell (p:=⟨w.heap.size,6,none⟩) (show w.heap.size<_ by omega)).trans h2,(hb.cell (p:=⟨w.heap.size+1,6,none⟩) (show w.heap.size+1<_ by omega)).trans h3,Nat.le_trans h4 hb.size⟩
section
theorem Gh{kd:Nat}{T:ByteArray}{C p p':Nat}{s s':List Nd}(h:SmL s s')(hl:s.length<=1000000):Sm (.mk kd T C s p) (.mk kd T C s' p'):=by
 rw[Sm];exact⟨rfl,rfl,rfl,h,hl⟩
theorem Gd:SmL [] []:=by rw[SmL];trivial
theorem Bh{a b:Nd}(h:Sm a b):SmL [a] [b]:=by rw[SmL];exact⟨h,Gd⟩
theorem Lv:∀{s t:List Nd} {a b:Nd},SmL s t->Sm a b->SmL (s++[a]) (t++[b])
 |[],[],a,b,_,h=>Bh h
 |[],_::_,_,_,h,_=>by simp[SmL]at h
 |_::_,[],_,_,h,_=>by simp[SmL]at h
 |x::s,y::t,a,b,h,h2=>by
  rw[SmL]at h;rw[List.cons_append,List.cons_append,SmL];exact⟨h.1,Lv h.2 h2⟩
theorem z0N(kd:Nat):∀{s t:List Nd},SmL s t->s.length<=1000000->s≠[]->Sm (Yy kd s) (Yy kd t)
 |[],_,_,_,h=>absurd rfl h
 |_::_,[],h,_,_=>by simp[SmL]at h
 |[a],[b],h,_,_=>by rw[SmL]at h;exact h.1
 |[a],b::c::t,h,_,_=>by simp[SmL]at h
 |a::x::s,[b],h,_,_=>by simp[SmL]at h
 |a::x::s,b::y::t,h,hl,_=>Gh h hl
def tk3(t:Tok):Nat×ByteArray×Nat:=(t.1,t.2.1,t.2.2.1)
structure Lk (L1 L2:List Tok) (e:Nat):Prop where
 low:2<=e
 big:e<=10000
 same:∀k,2<=k->k<e->tk3 (gL L2 (k+1))=tk3 (gL L1 k)
 end1:(gL L1 e).1=6
 end2:tk3 (gL L2 (e+1))=(5,{data:=#[41]},0)
theorem z6Y{t u:Tok}(h:tk3 u=tk3 t):sgT u=sgT t:=by
 unfold tk3 at h;simp only[Prod.mk.injEq]at h;unfold sgT;rw[h.1,h.2.1]
section
variable {L1 L2:List Tok} {e:Nat}
theorem Lk.kd(h:Lk L1 L2 e){k:Nat}(h2:2<=k)(hk:k<e):(gL L2 (k+1)).1=(gL L1 k).1/\(gL L2 (k+1)).2.1=(gL L1 k).2.1/\(gL L2 (k+1)).2.2.1=(gL L1 k).2.2.1:=by
 have:=h.same k h2 hk;unfold tk3 at this;simp only[Prod.mk.injEq]at this;exact this
theorem Dc(L:List Tok)(k:Nat)(h:k+1<L.length):hdB L k=((gL L k).1 == 1&&(gL L (k+1)).1 == 2):=by
 unfold hdB;rw[Vz (show k<L.length by omega),Vz h,List.getElem?_eq_getElem (show k<L.length by omega),List.getElem?_eq_getElem h]
theorem Lk.hd(h:Lk L1 L2 e)(g1:e+1=L1.length)(g2:e+1<L2.length){k:Nat}(h2:2<=k)(hk:k<e):hdB L2 (k+1)=hdB L1 k:=by
 rw[Dc L1 k (by omega),Dc L2 (k+1) (by omega),(h.kd h2 hk).1];congr 1;rcases Nat.lt_or_ge (k+1) e with hl|hl
 ·rw[(h.kd (k:=k+1) (by omega) hl).1]
 ·have hke:k+1=e:=by omega
  rw[hke,h.end1];have:=h.end2;unfold tk3 at this;simp only[Prod.mk.injEq]at this;rw[this.1];rfl
theorem Lk.pt(h:Lk L1 L2 e)(g1:e+1=L1.length)(g2:e+1<L2.length){k:Nat}(h2:2<=k)(hk:k<=e):ptB L2 (k+1) (gL L2 (k+1))=ptB L1 k (gL L1 k):=by
 rcases Nat.lt_or_ge k e with hl|hl
 ·unfold ptB
  rw[(h.kd h2 hl).1,(h.kd h2 hl).2.1,h.hd g1 g2 h2 hl]
 ·have:k=e:=by omega
  subst this;have hq:=h.end2;unfold tk3 at hq;simp only[Prod.mk.injEq]at hq;unfold ptB;rw[h.end1,hq.1,hq.2.1];rfl
end
end
section
section
variable {L1 L2:List Tok} {e:Nat}
end
end
theorem z0P{L:List Tok}{ru k k':Nat}{x:Rl}(h:ruS L ru k=.inr (x,k')):chS L (Zy L 24) (k+2)=.inr (x.2.1,k')/\x.1=(gL L k).2.1:=by
 unfold ruS at h;split at h
 ·cases h
 ·split at h
  ·cases h
  ·split at h
   ·cases h
   ·cases hs:chS L (Zy L 24) (k+2)with
    |inl e=>rw[hs]at h;cases h
    |inr q=>
     obtain⟨n,j⟩:=q;rw[hs]at h;simp only[ruE,Sum.inr.injEq,Prod.mk.injEq]at h;obtain⟨rfl,rfl⟩:=h;exact⟨rfl,rfl⟩
section
structure LIn (L1 L3:List Tok) (d e:Nat):Prop where
 big:e<=10000
 same:∀k,k<e->tk3 (gL L3 (k+d))=tk3 (gL L1 k)
 len1:e+1=L1.length
 len3:e+d<L3.length
 end1:(gL L1 e).1=6
 only:∀k,k<e->(gL L1 k).1≠6
 sg3:sgT (gL L3 (e+d))={data:=#[]}
 pt3:ptB L3 (e+d) (gL L3 (e+d))=false
 ar3:(gL L3 (e+d)).1≠2
section
variable {L1 L3:List Tok} {d e:Nat}
theorem LIn.kd(h:LIn L1 L3 d e){k:Nat}(hk:k<e):(gL L3 (k+d)).1=(gL L1 k).1/\(gL L3 (k+d)).2.1=(gL L1 k).2.1/\(gL L3 (k+d)).2.2.1=(gL L1 k).2.2.1:=by
 have:=h.same k hk;unfold tk3 at this;simp only[Prod.mk.injEq]at this;exact this
theorem LIn.sg1(h:LIn L1 L3 d e):sgT (gL L1 e)={data:=#[]}:=by unfold sgT;rw[h.end1];rfl
theorem LIn.hd(h:LIn L1 L3 d e){k:Nat}(hk:k<e):hdB L3 (k+d)=hdB L1 k:=by
 have g1:=h.len1;have g3:=h.len3;rw[Dc L1 k (by omega),Dc L3 (k+d) (by omega),(h.kd hk).1];congr 1;rcases Nat.lt_or_ge (k+1) e with hl|hl
 ·rw[show k+d+1=k+1+d by omega,(h.kd hl).1]
 ·have hke:k+1=e:=by omega
  have:=h.ar3;rw[show k+d+1=e+d by omega,hke,h.end1];simp[this]
theorem LIn.pt(h:LIn L1 L3 d e){k:Nat}(hk:k<=e):ptB L3 (k+d) (gL L3 (k+d))=ptB L1 k (gL L1 k):=by
 rcases Nat.lt_or_ge k e with hl|hl
 ·unfold ptB
  rw[(h.kd hl).1,(h.kd hl).2.1,h.hd hl]
 ·obtain rfl:k=e:=by omega
  rw[h.pt3];unfold ptB;rw[h.end1];rfl
theorem LIn.lt(h:LIn L1 L3 d e){k:Nat}(hk:k<=e){x:UInt8}(hs:sgT (gL L1 k)={data:=#[x]}):k<e:=by
 rcases Nat.lt_or_ge k e with hl|hl
 ·exact hl
 ·obtain rfl:k=e:=by omega
  rw[h.sg1]at hs;have:=congrArg (fun a:ByteArray=>a.data.size) hs;simp at this
def RlS(x y:Rl):Prop:=y.1=x.1/\Sm x.2.1 y.2.1
def RlL:List Rl->List Rl->Prop
 |[],[]=>True
 |a::r,b::q=>RlS a b/\RlL r q
 |_,_=>False
theorem RlL.len:∀{s t:List Rl},RlL s t->t.length=s.length
 |[],[],_=>rfl
 |[],_::_,h=>by simp[RlL]at h
 |_::_,[],h=>by simp[RlL]at h
 |a::r,b::q,h=>by
  rw[RlL]at h;simp[RlL.len h.2]
theorem RlL.app:∀{s t u v:List Rl},RlL s t->RlL u v->RlL (s++u) (t++v)
 |[],[],u,v,_,h=>h
 |[],_::_,_,_,h,_=>by simp[RlL]at h
 |_::_,[],_,_,h,_=>by simp[RlL]at h
 |a::r,b::q,u,v,h,h2=>by
  rw[RlL]at h;rw[List.cons_append,List.cons_append,RlL];exact⟨h.1,RlL.app h.2 h2⟩
end
end
section
def sgc(x:UInt8):Nat×ByteArray×Nat:=(5,{data:=#[x]},0)
def wr(over kd:Nat):Bool:=
 if over=8∨over=9∨over=10 then decide (6<=kd)
 else if over=11∨over=12 then decide (kd=6∨kd=7∨kd=11∨kd=12)
 else if over=6 then decide (kd=6∨kd=7)
 else if over=7 then decide (kd=7)else false
def rpS(kd:Nat):UInt8:=if kd=8 then 63 else if kd=9 then 42 else 43
mutual
def kN:Nd->List (Nat×ByteArray×Nat)
 | .mk kd T C s p=>if kd=1 then [sgc 40,sgc 41]else if kd=2 then [(3,T,C)]else if kd=3 then [(4,T,C)]else if kd=4 then [sgc 46]else if kd=5 then [(1,T,C)]else if kd=6 then kS 6 s else if kd=7 then kA s
   else if kd=11 then sgc 38::kS 11 s else if kd=12 then sgc 33::kS 12 s else kS kd s++[sgc (rpS kd)]
def kS(over:Nat):List Nd->List (Nat×ByteArray×Nat)
 |[]=>[]
 |n::r=>(if wr over n.kd=true then sgc 40::(kN n++[sgc 41])else kN n)++kS over r
def kA:List Nd->List (Nat×ByteArray×Nat)
 |[]=>[]
 |n::r=>(if wr 7 n.kd=true then sgc 40::(kN n++[sgc 41])else kN n)++kB r
def kB:List Nd->List (Nat×ByteArray×Nat)
 |[]=>[]
 |n::r=>sgc 47::((if wr 7 n.kd=true then sgc 40::(kN n++[sgc 41])else kN n)++kB r)
end
def kP(over:Nat)(n:Nd):List (Nat×ByteArray×Nat):=if wr over n.kd=true then sgc 40::(kN n++[sgc 41])else kN n
mutual
def dN:Nd->Nat
 | .mk kd T C s p=>if kd=1 then 1 else dS kd s
def dS(over:Nat):List Nd->Nat
 |[]=>0
 |n::r=>max (if wr over n.kd=true then dN n+1 else dN n) (dS over r)
end
def dP(over:Nat)(n:Nd):Nat:=if wr over n.kd=true then dN n+1 else dN n
mutual
def Vk:Nd->Prop
 | .mk kd T C s p=>((kd=1/\T={data:=#[]}/\C=0/\s=[])∨(kd=2/\C=0/\s=[])∨(kd=3/\T={data:=#[]}/\s=[])∨(kd=4/\T={data:=#[]}/\C=0/\s=[])∨(kd=5/\C=0/\s=[])∨
    ((kd=6∨kd=7)/\T={data:=#[]}/\C=0/\2<=s.length)∨(8<=kd/\kd<=12/\T={data:=#[]}/\C=0/\s.length=1))/\VkL s
def VkL:List Nd->Prop
 |[]=>True
 |n::r=>Vk n/\VkL r
end
theorem VkL.mem:∀{s:List Nd},VkL s->∀n∈s,Vk n
 |[],_,n,h=>by simp at h
 |a::r,h,n,hn=>by
  rw[VkL]at h;rcases List.mem_cons.1 hn with rfl|hn
  ·exact h.1
  ·exact VkL.mem h.2 n hn
theorem Lw(over:Nat)(n:Nd)(r:List Nd):kS over (n::r)=kP over n++kS over r:=by rw[kS];rfl
theorem Lf(over:Nat):kS over []=[]:=by rw[kS]
theorem Uk(over:Nat)(n:Nd)(r:List Nd):dS over (n::r)=max (dP over n) (dS over r):=by rw[dS];rfl
section
variable {L:List Tok} {k:Nat}
end
theorem z0Q{over:Nat}(h:over=8∨over=9∨over=10)(kd:Nat):wr over kd=wr 8 kd:=by
 unfold wr;rw[if_pos h,if_pos (.inl rfl)]
theorem z0R{over:Nat}(h:over=11∨over=12)(kd:Nat):wr over kd=wr 11 kd:=by
 unfold wr;rw[if_neg (by omega),if_pos h,if_neg (by decide),if_pos (.inl rfl)]
theorem z6Z{over:Nat}(h:over=8∨over=9∨over=10)(n:Nd):kP over n=kP 8 n:=by unfold kP;rw[z0Q h]
theorem z7a{over:Nat}(h:over=11∨over=12)(n:Nd):kP over n=kP 11 n:=by unfold kP;rw[z0R h]
theorem z7b{over:Nat}(h:over=8∨over=9∨over=10)(n:Nd):dP over n=dP 8 n:=by unfold dP;rw[z0Q h]
theorem z7c{over:Nat}(h:over=11∨over=12)(n:Nd):dP over n=dP 11 n:=by unfold dP;rw[z0R h]
theorem wr8(kd:Nat):wr 8 kd=decide (6<=kd):=by unfold wr;rw[if_pos (.inl rfl)]
theorem Lg(kd:Nat):wr 11 kd=decide (kd=6∨kd=7∨kd=11∨kd=12):=by unfold wr;rw[if_neg (by decide),if_pos (.inl rfl)]
theorem wr6(kd:Nat):wr 6 kd=decide (kd=6∨kd=7):=by unfold wr;rw[if_neg (by decide),if_neg (by decide),if_pos rfl]
theorem wr7(kd:Nat):wr 7 kd=decide (kd=7):=by unfold wr;rw[if_neg (by decide),if_neg (by decide),if_neg (by decide),if_pos rfl]
theorem Vk.kd{n:Nd}(h:Vk n):1<=n.kd/\n.kd<=12:=by
 obtain⟨kd,T,C,s,p⟩:=n;rw[Vk]at h;show 1<=kd/\kd<=12;omega
theorem z7d{n:Nd}(h:n.kd≠7):kP 7 n=kN n/\dP 7 n=dN n:=by
 unfold kP dP;rw[wr7,decide_eq_false h];exact⟨rfl,rfl⟩
theorem z7e{kd:Nat}{T:ByteArray}{C p:Nat}{m:Nd}(h:kd=8∨kd=9∨kd=10):kN (.mk kd T C [m] p)=kP 8 m++[sgc (rpS kd)]/\dN (.mk kd T C [m] p)=dP 8 m:=by
 constructor
 ·rw[kN,if_neg (by omega),if_neg (by omega),if_neg (by omega),if_neg (by omega),if_neg (by omega),if_neg (by omega),if_neg (by omega),if_neg (by omega),if_neg (by omega),Lw,Lf,List.append_nil,z6Z h]
 ·rw[dN,if_neg (by omega),Uk,dS,z7b h]
  exact Nat.max_eq_left (Nat.zero_le _)
theorem z7f{kd:Nat}{T:ByteArray}{C p:Nat}{m:Nd}(h:kd=11∨kd=12):kN (.mk kd T C [m] p)=sgc (if kd=11 then 38 else 33)::kP 11 m/\dN (.mk kd T C [m] p)=dP 11 m:=by
 constructor
 ·rw[kN,if_neg (by omega),if_neg (by omega),if_neg (by omega),if_neg (by omega),if_neg (by omega),if_neg (by omega),if_neg (by omega)]
  rcases h with rfl|rfl
  ·rw[if_pos rfl,Lw,Lf,List.append_nil];rfl
  ·rw[if_neg (by decide),if_pos rfl,Lw,Lf,List.append_nil,z7a (.inr rfl)];rfl
 ·rw[dN,if_neg (by omega),Uk,dS,z7c h]
  exact Nat.max_eq_left (Nat.zero_le _)
end
theorem z7g(over kd:Nat)(w:World)(h1:6<=over)(h2:over<=12)(h3:1<=kd)(h4:kd<=12):
  Calls prog 311 #[.int .i64 over,.int .i64 kd] w fun e w'=>e=.returned (.bool (wr over kd))/\w'=w:=by
 have ho:over=6∨over=7∨over=8∨over=9∨over=10∨over=11∨over=12:=by omega
 have hk:kd=1∨kd=2∨kd=3∨kd=4∨kd=5∨kd=6∨kd=7∨kd=8∨kd=9∨kd=10∨kd=11∨kd=12:=by omega
 clear h1 h2 h3 h4;rcases ho with rfl|rfl|rfl|rfl|rfl|rfl|rfl<;>rcases hk with rfl|rfl|rfl|rfl|rfl|rfl|rfl|rfl|rfl|rfl|rfl|rfl<;>
  (go_enter func311,ntmps311
   go_wp2_with fail
   go_ret;exact⟨rfl,rfl⟩)
end Go.Proofs.YtlogolpcipiceaaGreatDoor
