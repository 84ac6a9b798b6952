/- Lemmas for the last text. Conditions: those that each names. -/
import Derived.Test.YtgmcjddjdidpjaaGreatDoorVS1ToHA
import Derived.Test.YtgmcjddjdidpjaaGreatDoorVY5ToY7
import Derived.Test.YtgmcjddjdidpjaaGreatDoorVHBToO4
import Derived.Deep.RegionHeld3
set_option linter.unusedVariables false
set_option maxRecDepth 100000
set_option maxHeartbeats 4000000
namespace Go.Proofs.YtgmcjddjdidpjaaGreatDoor
open Go.Proofs.Tryz
section
open Go.RowKit Go.Shelf
@[reducible] def fq1 (F b1:Nat):Value:=.func (.func F) #[] #[.pointer (some ⟨b1,0,none⟩)]
@[reducible] def fq2 (F b1 b2:Nat):Value:=.func (.func F) #[] #[.pointer (some ⟨b1,0,none⟩),.pointer (some ⟨b2,0,none⟩)]
@[reducible] def cA (C:Nat):Array Value:=#[.int .u64 (wd C 0),.int .u64 (wd C 1),.int .u64 (wd C 2),.int .u64 (wd C 3)]
structure Hb (w:World) (mB:Nat) (L:Nat->Prop) (b:Nat) (xs:Array Value) (t:TypeId):Prop where
 ne:b≠mB
 hp:w.heap[b]? =some (.cells xs t)
 lo:L b
def Hm(w:World)(mB:Nat)(L:Nat->Prop)(b:Nat):Prop:=Hb w mB L b #[.pointer (some ⟨mB,0,none⟩)] 69
theorem Hb.keep{w w':World}{mB b:Nat}{L L':Nat->Prop}{xs:Array Value}{t:TypeId}(h:Hb w mB L b xs t)(hL:∀b,L b->b<w.heap.size->L' b)(hk:∀b,b≠mB->L b->b<w.heap.size->w'.heap[b]? =w.heap[b]?):Hb w' mB L' b xs t:=
 ⟨h.ne,(hk b h.ne h.lo (Qz h.hp)).trans h.hp,hL b h.lo (Qz h.hp)⟩
theorem Hb.kept{w w':World}{mB b:Nat}{L:Nat->Prop}{xs:Array Value}{t:TypeId}(h:Hb w mB L b xs t)(hg:w.grownBy w' (some mB)):Hb w' mB L b xs t:=
 ⟨h.1,(hg.block b (Qz h.2) (fun e=>h.1 (Option.some.inj e))).trans h.2,h.3⟩
theorem Hm.kept{w w':World}{mB b:Nat}{L:Nat->Prop}(h:Hm w mB L b)(hg:w.grownBy w' (some mB)):Hm w' mB L b:=Hb.kept h hg
mutual
def Mv(w:World)(mB:Nat)(L:Nat->Prop)(ix:ByteArray->Nat):RT->Value->Prop
 | .mk k N a b c d s p,v=>∃b1 b2 u,v=fq2 72 b1 b2/\Hm w mB L b1/\Hb w mB L b2 #[u] 107/\
   (if k=2 then ∃c1 c2,u=fq2 162 c1 c2/\Hm w mB L c1/\Hb w mB L c2 #[.string N] 9
    else if k=3 then ∃c1 c2,u=fq2 163 c1 c2/\Hm w mB L c1/\Hb w mB L c2 (cA (cl4 a b c d)) 51
    else if k=4 then ∃c1 c2,u=fq2 163 c1 c2/\Hm w mB L c1/\Hb w mB L c2 (cA Qj) 51
    else if k=5 then ∃c1 c2,u=fq2 164 c1 c2/\Hm w mB L c1/\Hb w mB L c2 #[.int .i64 (ix N:Nat)] 3
    else if k=6 then ∃c1 so cap,u=fq1 165 c1/\Hb w mB L c1 #[.slice so (Qw s) cap] 103/\Mvs w mB L ix so 0 s
    else if k=7 then ∃c1 so cap,u=fq1 166 c1/\Hb w mB L c1 #[.slice so (Qw s) cap] 103/\Mvs w mB L ix so 0 s
    else if k=8 then ∃c1 x,u=fq1 167 c1/\Hb w mB L c1 #[x] 107/\MvH w mB L ix s x
    else if k=9 then ∃c1 x,u=fq1 168 c1/\Hb w mB L c1 #[x] 107/\MvH w mB L ix s x
    else if k=10 then ∃c1 c2 c3 x,u=fq2 169 c1 c2/\Hb w mB L c1 #[x] 107/\Hb w mB L c2 #[fq1 168 c3] 107/\Hb w mB L c3 #[x] 107/\MvH w mB L ix s x
    else if k=11 then ∃c1 x,u=fq1 170 c1/\Hb w mB L c1 #[x] 107/\MvH w mB L ix s x
    else if k=12 then ∃c1 x,u=fq1 171 c1/\Hb w mB L c1 #[x] 107/\MvH w mB L ix s x
    else u=.func (.func 132) #[] #[])
def Mvs(w:World)(mB:Nat)(L:Nat->Prop)(ix:ByteArray->Nat)(so:Option Addr):Nat->List RT->Prop
 |_,[]=>True
 |j,t::r=>(∃g o x,so=some ⟨g,o,none⟩/\(g≠mB/\L g)/\w.cell? ⟨g,o+j,none⟩=some x/\Mv w mB L ix t x)/\Mvs w mB L ix so (j+1) r
def MvH(w:World)(mB:Nat)(L:Nat->Prop)(ix:ByteArray->Nat):List RT->Value->Prop
 |[],_=>False
 |t::_,x=>Mv w mB L ix t x
end
variable {w w':World} {mB:Nat} {L L':Nat->Prop} {ix:ByteArray->Nat}
mutual
theorem Fy(hL:∀b,L b->b<w.heap.size->L' b)(hk:∀b,b≠mB->L b->b<w.heap.size->w'.heap[b]? =w.heap[b]?):∀(t:RT) (v:Value),Mv w mB L ix t v->Mv w' mB L' ix t v
 | .mk k N a b c d s p,v,h=>by
   rw[Mv]at h ⊢;obtain⟨b1,b2,u,e,h1,h2,h3⟩:=h;refine⟨b1,b2,u,e,h1.keep hL hk,h2.keep hL hk,?_⟩;by_cases hk2:k=2
   ·rw[if_pos hk2]at h3 ⊢
    obtain⟨c1,c2,e,x1,x2⟩:=h3;exact⟨c1,c2,e,x1.keep hL hk,x2.keep hL hk⟩
   rw[if_neg hk2]at h3 ⊢;by_cases hk3:k=3
   ·rw[if_pos hk3]at h3 ⊢
    obtain⟨c1,c2,e,x1,x2⟩:=h3;exact⟨c1,c2,e,x1.keep hL hk,x2.keep hL hk⟩
   rw[if_neg hk3]at h3 ⊢;by_cases hk4:k=4
   ·rw[if_pos hk4]at h3 ⊢
    obtain⟨c1,c2,e,x1,x2⟩:=h3;exact⟨c1,c2,e,x1.keep hL hk,x2.keep hL hk⟩
   rw[if_neg hk4]at h3 ⊢;by_cases hk5:k=5
   ·rw[if_pos hk5]at h3 ⊢
    obtain⟨c1,c2,e,x1,x2⟩:=h3;exact⟨c1,c2,e,x1.keep hL hk,x2.keep hL hk⟩
   rw[if_neg hk5]at h3 ⊢;by_cases hk6:k=6
   ·rw[if_pos hk6]at h3 ⊢
    obtain⟨c1,so,cap,e,x1,x2⟩:=h3;exact⟨c1,so,cap,e,x1.keep hL hk,Lb hL hk s 0 x2⟩
   rw[if_neg hk6]at h3 ⊢;by_cases hk7:k=7
   ·rw[if_pos hk7]at h3 ⊢
    obtain⟨c1,so,cap,e,x1,x2⟩:=h3;exact⟨c1,so,cap,e,x1.keep hL hk,Lb hL hk s 0 x2⟩
   rw[if_neg hk7]at h3 ⊢;by_cases hk8:k=8
   ·rw[if_pos hk8]at h3 ⊢
    obtain⟨c1,x,e,x1,x2⟩:=h3;exact⟨c1,x,e,x1.keep hL hk,Aj hL hk s x x2⟩
   rw[if_neg hk8]at h3 ⊢;by_cases hk9:k=9
   ·rw[if_pos hk9]at h3 ⊢
    obtain⟨c1,x,e,x1,x2⟩:=h3;exact⟨c1,x,e,x1.keep hL hk,Aj hL hk s x x2⟩
   rw[if_neg hk9]at h3 ⊢;by_cases hk10:k=10
   ·rw[if_pos hk10]at h3 ⊢
    obtain⟨c1,c2,c3,x,e,x1,x2,x3,x4⟩:=h3;exact⟨c1,c2,c3,x,e,x1.keep hL hk,x2.keep hL hk,x3.keep hL hk,Aj hL hk s x x4⟩
   rw[if_neg hk10]at h3 ⊢;by_cases hk11:k=11
   ·rw[if_pos hk11]at h3 ⊢
    obtain⟨c1,x,e,x1,x2⟩:=h3;exact⟨c1,x,e,x1.keep hL hk,Aj hL hk s x x2⟩
   rw[if_neg hk11]at h3 ⊢;by_cases hk12:k=12
   ·rw[if_pos hk12]at h3 ⊢
    obtain⟨c1,x,e,x1,x2⟩:=h3;exact⟨c1,x,e,x1.keep hL hk,Aj hL hk s x x2⟩
   rw[if_neg hk12]at h3 ⊢;exact h3
theorem Lb(hL:∀b,L b->b<w.heap.size->L' b)(hk:∀b,b≠mB->L b->b<w.heap.size->w'.heap[b]? =w.heap[b]?){so:Option Addr}:∀(s:List RT) (j:Nat),Mvs w mB L ix so j s->Mvs w' mB L' ix so j s
 |[],j,_=>by rw[Mvs];trivial
 |t::r,j,h=>by
  rw[Mvs]at h ⊢;obtain⟨⟨g,o,x,e,hn,hc,hv⟩,h2⟩:=h;exact⟨⟨g,o,x,e,⟨hn.1,hL g hn.2 (World.block_lt_of_cell? w _ hc)⟩,(World.cell?_of_block (hk g hn.1 hn.2 (World.block_lt_of_cell? w _ hc))).trans hc,Fy hL hk t x hv⟩,Lb hL hk r (j+1) h2⟩
theorem Aj(hL:∀b,L b->b<w.heap.size->L' b)(hk:∀b,b≠mB->L b->b<w.heap.size->w'.heap[b]? =w.heap[b]?):∀(s:List RT) (v:Value),MvH w mB L ix s v->MvH w' mB L' ix s v
 |[],_,h=>by rw[MvH]at h;exact h.elim
 |t::_,x,h=>by
  rw[MvH]at h ⊢;exact Fy hL hk t x h
end
theorem Uk(hg:w.grownBy w' (some mB))(t:RT)(v:Value)(h:Mv w mB L ix t v):Mv w' mB L ix t v:=Fy (fun _ h _=>h) (fun b h1 _ h3=>hg.block b h3 (fun e=>h1 (Option.some.inj e))) t v h
theorem Ny(hg:w.grownBy w' (some mB)){so:Option Addr}(s:List RT)(j:Nat)(h:Mvs w mB L ix so j s):Mvs w' mB L ix so j s:=Lb (fun _ h _=>h) (fun b h1 _ h3=>hg.block b h3 (fun e=>h1 (Option.some.inj e))) s j h
theorem Eq(hg:w.grownBy w' (some mB))(s:List RT)(v:Value)(h:MvH w mB L ix s v):MvH w' mB L ix s v:=Aj (fun _ h _=>h) (fun b h1 _ h3=>hg.block b h3 (fun e=>h1 (Option.some.inj e))) s v h
theorem Gj{so:Option Addr}:∀{s:List RT} {j:Nat},Mvs w mB L ix so j s->∀(i:Nat) (hi:i<s.length),∃g o x,so=some ⟨g,o,none⟩/\g≠mB/\w.cell? ⟨g,o+(j+i),none⟩=some x/\Mv w mB L ix s[i] x
 |[],j,_,i,hi=>by simp at hi
 |t::r,j,h,0,_=>by
  rw[Mvs]at h;obtain⟨g,o,x,h1,h2,h3,h4⟩:=h.1;exact⟨g,o,x,h1,h2.1,h3,h4⟩
 |t::r,j,h,i+1,hi=>by
  rw[Mvs]at h;have:=Gj h.2 i (by simpa using hi);rw[Nat.add_assoc,Nat.add_comm 1 i]at this;exact this
def Smn(w:World)(mB:Nat)(T:ByteArray)(pv sv:Value)(k M:Nat):Prop:=w.heap[mB]? =some (.cells #[.string T,pv,sv,.int .i64 k,.int .i64 M] 105)
def bdR(rs:List Rr)(N:ByteArray):Option RT:=(rs[ixN N (nmL rs)]?).map (·.2.1)
def Bd(w:World)(mB:Nat)(L:Nat->Prop)(rs:List Rr)(sv:Value):Prop:=∃so cap,sv=.slice so rs.length cap/\Mvs w mB L (fun N=>ixN N (nmL rs)) so 0 (rs.map (·.2.1))
theorem Bd.kept{rs:List Rr}{sv:Value}(h:Bd w mB L rs sv)(hg:w.grownBy w' (some mB)):Bd w' mB L rs sv:=by
 obtain⟨so,cap,e,h⟩:=h;exact⟨so,cap,e,Ny hg _ _ h⟩
def eI:Option Nat->Int
 |some n=>n
 |none=> -1
def bud:List PanicEntry:=[{v:=.iface 34 (.int .i64 50),recovered:=false}]
def Po(rs:List Rr)(T:ByteArray)(mB:Nat)(pv sv:Value)(M:Nat)(j:Jb)(i k:Nat)(w:World)(e:Ending)(w':World):Prop:=w.grownBy w' (some mB)/\
 ((∃x c,Mt (bdR rs) T j i x c/\k+c<=M/\e=.returned (.int .i64 (eI x))/\Smn w' mB T pv sv (k+c) M)∨
  ((∀x c,Mt (bdR rs) T j i x c->M<k+c)/\e=.panicked bud/\∃k',Smn w' mB T pv sv k' M))
end
section
open Go.RowKit Go.Shelf
section
variable {B:ByteArray->Option RT} {T:ByteArray}
structure Ri (B:ByteArray->Option RT) (T:ByteArray) (J0:Jb) (i0 k0:Nat) (J:Jb) (i k:Nat):Prop where
 le:k0<=k
 on:∀x c,Mt B T J i x c->Mt B T J0 i0 x (c+(k-k0))
 back:∀x c,Mt B T J0 i0 x c->∃c',Mt B T J i x c'/\c=c'+(k-k0)
variable {J0 J:Jb} {i0 k0 i k M:Nat}
theorem Ri.over(h:Ri B T J0 i0 k0 J i k)(hn:∀x c,Mt B T J i x c->M<k+c):∀x c,Mt B T J0 i0 x c->M<k0+c:=fun x c hc=>by
 obtain⟨c',h1,h2⟩:=h.back x c hc;have:=hn x c' h1;have:=h.le;omega
theorem Ri.done(h:Ri B T J0 i0 k0 J i k){x:Option Nat}{c:Nat}(hm:Mt B T J i x c):∃c0,Mt B T J0 i0 x c0/\k0+c0=k+c:=⟨_,h.on x c hm,by have:=h.le;omega⟩
theorem Ri.seq{N a b c d s p i k}:Ri B T (.one (.mk 6 N a b c d s p)) i k (.row s) i (k+1):=⟨by omega,fun x c h=>by rw[Nat.add_sub_cancel_left];exact .seq h,fun x c h=>by cases h with|seq h=>exact⟨_,h,by omega⟩⟩
theorem Ri.cho{N a b c d s p i k}:Ri B T (.one (.mk 7 N a b c d s p)) i k (.alt s) i (k+1):=⟨by omega,fun x c h=>by rw[Nat.add_sub_cancel_left];exact .cho h,fun x c h=>by cases h with|cho h=>exact⟨_,h,by omega⟩⟩
theorem Ri.star{N a b c d t r p i k}:Ri B T (.one (.mk 9 N a b c d (t::r) p)) i k (.rep t) i (k+1):=⟨by omega,fun x c h=>by rw[Nat.add_sub_cancel_left];exact .star h,fun x c h=>by cases h with|star h=>exact⟨_,h,by omega⟩⟩
theorem Ri.plus{N a b c d t r p i k y n}(hy:Mt B T (.one t) i (some y) n):Ri B T (.one (.mk 10 N a b c d (t::r) p)) i k (.rep t) y (k+1+n):=by
 refine⟨by omega,fun x c h=> ?_,fun x c h=> ?_⟩
 ·have:=Mt.plus_ok (N:=N) (a:=a) (b:=b) (c:= ‹_›) (d:=d) (r:=r) (p:=p) hy h
  rw[show c+(k+1+n-k)=n+c+1 by omega];exact .plus_ok hy h
 ·cases h with
  |plus_no h=>cases(Dx hy h).1
  |plus_ok h1 h2=>
   obtain⟨e1,e2⟩:=Dx hy h1;cases e1;exact⟨_,h2,by omega⟩
theorem Ri.ref{N a b c d s p i k t}(hB:B N=some t):Ri B T (.one (.mk 5 N a b c d s p)) i k (.one t) i (k+1):=⟨by omega,fun x c h=>by rw[Nat.add_sub_cancel_left];exact .ref hB h,fun x c h=>by cases h with|ref h1 h=>rw[hB]at h1;cases h1;exact⟨_,h,by omega⟩⟩
theorem Ri.row{t r y n}(h:Ri B T J0 i0 k0 (.row (t::r)) i k)(hy:Mt B T (.one t) i (some y) n):Ri B T J0 i0 k0 (.row r) y (k+n):=by
 have hl:=h.le;refine⟨by omega,fun x c hc=> ?_,fun x c hc=> ?_⟩
 ·have:=h.on x _ (.row_ok hy hc)
  rw[show c+(k+n-k0)=n+c+(k-k0) by omega];exact this
 ·obtain⟨c',h1,h2⟩:=h.back x c hc
  cases h1 with
  |row_no h1=>cases(Dx hy h1).1
  |row_ok h1 h3=>
   obtain⟨e1,e2⟩:=Dx hy h1;cases e1;exact⟨_,h3,by omega⟩
theorem Ri.alt{t r n}(h:Ri B T J0 i0 k0 (.alt (t::r)) i k)(hy:Mt B T (.one t) i none n):Ri B T J0 i0 k0 (.alt r) i (k+n):=by
 have hl:=h.le;refine⟨by omega,fun x c hc=> ?_,fun x c hc=> ?_⟩
 ·have:=h.on x _ (.alt_no hy hc)
  rw[show c+(k+n-k0)=n+c+(k-k0) by omega];exact this
 ·obtain⟨c',h1,h2⟩:=h.back x c hc
  cases h1 with
  |alt_ok h1=>cases(Dx hy h1).1
  |alt_no h1 h3=>
   obtain⟨e1,e2⟩:=Dx hy h1;exact⟨_,h3,by omega⟩
theorem Ri.rep{t y n}(h:Ri B T J0 i0 k0 (.rep t) i k)(hy:Mt B T (.one t) i (some y) n):Ri B T J0 i0 k0 (.rep t) y (k+n):=by
 have hl:=h.le;refine⟨by omega,fun x c hc=> ?_,fun x c hc=> ?_⟩
 ·have:=h.on x _ (.rep_go hy hc)
  rw[show c+(k+n-k0)=n+c+(k-k0) by omega];exact this
 ·obtain⟨c',h1,h2⟩:=h.back x c hc
  cases h1 with
  |rep_end h1=>cases(Dx hy h1).1
  |rep_go h1 h3=>
   obtain⟨e1,e2⟩:=Dx hy h1;cases e1;exact⟨_,h3,by omega⟩
theorem y1D{t r}(hn:∀x c,Mt B T (.one t) i x c->M<k+c):∀x c,Mt B T (.row (t::r)) i x c->M<k+c:=fun x c h=>by
 cases h with
 |row_no h=>exact hn _ _ h
 |row_ok h _=>have:=hn _ _ h;omega
theorem y1E{t r}(hn:∀x c,Mt B T (.one t) i x c->M<k+c):∀x c,Mt B T (.alt (t::r)) i x c->M<k+c:=fun x c h=>by
 cases h with
 |alt_ok h=>exact hn _ _ h
 |alt_no h _=>have:=hn _ _ h;omega
theorem y1F{t}(hn:∀x c,Mt B T (.one t) i x c->M<k+c):∀x c,Mt B T (.rep t) i x c->M<k+c:=fun x c h=>by
 cases h with
 |rep_end h=>exact hn _ _ h
 |rep_go h _=>have:=hn _ _ h;omega
theorem y1G{N a b c d t r p}(hn:∀x c,Mt B T (.one t) i x c->M<k+1+c):∀x c',Mt B T (.one (.mk 8 N a b c d (t::r) p)) i x c'->M<k+c':=fun x c' h=>by
 cases h with|opt h=>have:=hn _ _ h;omega
theorem y1H{N a b c d t r p}(hn:∀x c,Mt B T (.one t) i x c->M<k+1+c):∀x c',Mt B T (.one (.mk 11 N a b c d (t::r) p)) i x c'->M<k+c':=fun x c' h=>by
 cases h with|and h=>have:=hn _ _ h;omega
theorem y1I{N a b c d t r p}(hn:∀x c,Mt B T (.one t) i x c->M<k+1+c):∀x c',Mt B T (.one (.mk 12 N a b c d (t::r) p)) i x c'->M<k+c':=fun x c' h=>by
 cases h with|not h=>have:=hn _ _ h;omega
theorem y1J{N a b c d t r p}(hn:∀x c,Mt B T (.one t) i x c->M<k+1+c):∀x c',Mt B T (.one (.mk 10 N a b c d (t::r) p)) i x c'->M<k+c':=fun x c' h=>by
 cases h with
 |plus_no h=>have:=hn _ _ h;omega
 |plus_ok h _=>have:=hn _ _ h;omega
theorem y1K{N a b c d s p t}(hB:B N=some t)(hn:∀x c,Mt B T (.one t) i x c->M<k+1+c):∀x c',Mt B T (.one (.mk 5 N a b c d s p)) i x c'->M<k+c':=(Ri.ref (k:=k) hB).over hn
end
end
section
open Go.RowKit Go.Shelf
section
variable {rs:List Rr} {T:ByteArray} {mB:Nat} {L:Nat->Prop} {pv sv:Value} {M:Nat}
theorem Po.ok{J:Jb}{i k:Nat}{w w':World}{x:Option Nat}{c k':Nat}(hg:w.grownBy w' (some mB))(hm:Mt (bdR rs) T J i x c)(e:k'=k+c)(hk:k'<=M)(hs:Smn w' mB T pv sv k' M):Po rs T mB pv sv M J i k w (.returned (.int .i64 (eI x))) w':=by
 subst e;exact⟨hg,.inl ⟨x,c,hm,hk,rfl,hs⟩⟩
theorem Po.no{J:Jb}{i k:Nat}{w w':World}(hg:w.grownBy w' (some mB))(hm:∀x c,Mt (bdR rs) T J i x c->M<k+c)(hs:∃k',Smn w' mB T pv sv k' M):Po rs T mB pv sv M J i k w (.panicked bud) w':=⟨hg,.inr ⟨hm,rfl,hs⟩⟩
theorem Po.from{J:Jb}{i k:Nat}{w w1 w':World}{e:Ending}(hg:w.grownBy w1 (some mB))(h:Po rs T mB pv sv M J i k w1 e w'):Po rs T mB pv sv M J i k w e w':=⟨G.trans hg h.1,h.2⟩
theorem y1L{N:ByteArray}{a b c d:Int}{s:List RT}{p:Int}(i k:Nat)(w:World)(hs:Smn w mB T pv sv (k+1) M)(hk:k+1<=M):
  Calls prog 132 #[.int .i64 i] w (Po rs T mB pv sv M (.one (.mk 1 N a b c d s p)) i k w):=by
 have HF:=hid (Po.ok (rs:=rs) (T:=T) (pv:=pv) (sv:=sv) (k:=k) (G.refl w mB) (Mt.emp (B:=bdR rs) (T:=T) (N:=N) (a:=a) (b:=b) (c:=c) (d:=d) (s:=s) (p:=p) (i:=i)) rfl hk hs);dsimp only[eI]at HF;clear hs hk;go_enter func132,ntmps132
 go_wp2_with fail
 go_ret;exact HF.out
theorem y1M{N:ByteArray}{a b c d:Int}{t:RT}{r:List RT}{p:Int}(i k c1 b1 b2:Nat)(w:World)(hc:w.heap[c1]? =some (.cells #[fq2 72 b1 b2] 107))
  (HP:Hid (Calls prog 72 #[.int .i64 i,.pointer (some ⟨b1,0,none⟩),.pointer (some ⟨b2,0,none⟩)] w (Po rs T mB pv sv M (.one t) i (k+1) w))):
  Calls prog 167 #[.int .i64 i,.pointer (some ⟨c1,0,none⟩)] w (Po rs T mB pv sv M (.one (.mk 8 N a b c d (t::r) p)) i k w):=by
 obtain⟨x0,_⟩:=Qk hc;have l0:=Qz hc;dsimp only[fq2]at x0;clear hc;go_enter func167,ntmps167
 go_wp2_with fail
 refine HP.out.mono ?_;rintro e w1 ⟨hg,⟨x,n,hm,hk,rfl,hs⟩|⟨hn,rfl,hs⟩⟩
 ·have HF:=hid (Po.ok (rs:=rs) (T:=T) (pv:=pv) (sv:=sv) (k:=k) hg (Mt.opt (N:=N) (a:=a) (b:=b) (c:=c) (d:=d) (r:=r) (p:=p) hm) (by omega) hk hs)
  clear hm hk hs hg;cases x with
  |none=>
   dsimp only[eI]at HF ⊢
   go_wp2_with fail
   go_ret;exact HF.out
  |some y=>
   dsimp only[eI]at HF ⊢;have hy:¬(y:Int)= -1:=by omega
   go_wp2_with fail
   go_ret;exact HF.out
 ·have HF:=hid (Po.no (rs:=rs) (T:=T) (pv:=pv) (sv:=sv) (k:=k) hg (y1G (N:=N) (a:=a) (b:=b) (c:=c) (d:=d) (r:=r) (p:=p) hn) hs)
  clear hn hg hs
  go_wp2_with fail
  exact⟨rfl,HF.out⟩
theorem y1N{N:ByteArray}{a b c d:Int}{t:RT}{r:List RT}{p:Int}(i k c1 b1 b2:Nat)(w:World)(hc:w.heap[c1]? =some (.cells #[fq2 72 b1 b2] 107))
  (HP:Hid (Calls prog 72 #[.int .i64 i,.pointer (some ⟨b1,0,none⟩),.pointer (some ⟨b2,0,none⟩)] w (Po rs T mB pv sv M (.one t) i (k+1) w))):
  Calls prog 170 #[.int .i64 i,.pointer (some ⟨c1,0,none⟩)] w (Po rs T mB pv sv M (.one (.mk 11 N a b c d (t::r) p)) i k w):=by
 obtain⟨x0,_⟩:=Qk hc;have l0:=Qz hc;dsimp only[fq2]at x0;clear hc;go_enter func170,ntmps170
 go_wp2_with fail
 refine HP.out.mono ?_;rintro e w1 ⟨hg,⟨x,n,hm,hk,rfl,hs⟩|⟨hn,rfl,hs⟩⟩
 ·have HF:=hid (Po.ok (rs:=rs) (T:=T) (pv:=pv) (sv:=sv) (k:=k) hg (Mt.and (N:=N) (a:=a) (b:=b) (c:=c) (d:=d) (r:=r) (p:=p) hm) (by omega) hk hs)
  clear hm hk hs hg;cases x with
  |none=>
   dsimp only[eI]at HF ⊢
   go_wp2_with fail
   go_ret;exact HF.out
  |some y=>
   dsimp only[eI]at HF ⊢;have hy:¬(y:Int)= -1:=by omega
   go_wp2_with fail
   go_ret;exact HF.out
 ·have HF:=hid (Po.no (rs:=rs) (T:=T) (pv:=pv) (sv:=sv) (k:=k) hg (y1H (N:=N) (a:=a) (b:=b) (c:=c) (d:=d) (r:=r) (p:=p) hn) hs)
  clear hn hg hs
  go_wp2_with fail
  exact⟨rfl,HF.out⟩
theorem y1O{N:ByteArray}{a b c d:Int}{t:RT}{r:List RT}{p:Int}(i k c1 b1 b2:Nat)(w:World)(hc:w.heap[c1]? =some (.cells #[fq2 72 b1 b2] 107))
  (HP:Hid (Calls prog 72 #[.int .i64 i,.pointer (some ⟨b1,0,none⟩),.pointer (some ⟨b2,0,none⟩)] w (Po rs T mB pv sv M (.one t) i (k+1) w))):
  Calls prog 171 #[.int .i64 i,.pointer (some ⟨c1,0,none⟩)] w (Po rs T mB pv sv M (.one (.mk 12 N a b c d (t::r) p)) i k w):=by
 obtain⟨x0,_⟩:=Qk hc;have l0:=Qz hc;dsimp only[fq2]at x0;clear hc;go_enter func171,ntmps171
 go_wp2_with fail
 refine HP.out.mono ?_;rintro e w1 ⟨hg,⟨x,n,hm,hk,rfl,hs⟩|⟨hn,rfl,hs⟩⟩
 ·have HF:=hid (Po.ok (rs:=rs) (T:=T) (pv:=pv) (sv:=sv) (k:=k) hg (Mt.not (N:=N) (a:=a) (b:=b) (c:=c) (d:=d) (r:=r) (p:=p) hm) (by omega) hk hs)
  clear hm hk hs hg;cases x with
  |none=>
   dsimp only[eI]at HF ⊢
   go_wp2_with fail
   go_ret;exact HF.out
  |some y=>
   dsimp only[eI]at HF ⊢;have hy:¬(y:Int)= -1:=by omega
   go_wp2_with fail
   go_ret;exact HF.out
 ·have HF:=hid (Po.no (rs:=rs) (T:=T) (pv:=pv) (sv:=sv) (k:=k) hg (y1I (N:=N) (a:=a) (b:=b) (c:=c) (d:=d) (r:=r) (p:=p) hn) hs)
  clear hn hg hs
  go_wp2_with fail
  exact⟨rfl,HF.out⟩
end
end
section
open Go.RowKit Go.Shelf
section
variable {rs:List Rr} {T:ByteArray} {mB:Nat} {L:Nat->Prop} {pv sv:Value} {M:Nat}
theorem Jz{W:World}{R:Nat}{v0 v1 v2 v3 v4:Value}{t:TypeId}(h:W.heap[R]? =some (.cells #[v0,v1,v2,v3,v4] t)):(W.cell? ⟨R,0,none⟩=some v0/\W.cell? ⟨R,1,none⟩=some v1/\W.cell? ⟨R,2,none⟩=some v2/\W.cell? ⟨R,3,none⟩=some v3/\W.cell? ⟨R,4,none⟩=some v4)/\W.frozen? ⟨R,2,none⟩=false/\W.frozen? ⟨R,3,none⟩=false:=
 ⟨⟨(Qf h 0 v0 rfl).1,(Qf h 1 v1 rfl).1,(Qf h 2 v2 rfl).1,(Qf h 3 v3 rfl).1,(Qf h 4 v4 rfl).1⟩,(Qf h 2 v2 rfl).2,(Qf h 3 v3 rfl).2⟩
theorem Gk{t:RT}(i k b1 b2 F:Nat)(caps:Array Value)(w:World)(h1:Hm w mB L b1)(h2:Hb w mB L b2 #[.func (.func F) #[] caps] 107)(hs:Smn w mB T pv sv k M)(hk:k<=M)(hM:M<=1048576)(hcf:∀(xs:Array Value) (w:World),(callFunc F xs).run prog w=.ok (.enter F xs) w)
  (HP:Hid (∀W:World,w.grownBy W (some mB)->Smn W mB T pv sv (k+1) M->k+1<=M->Calls prog F (#[.int .i64 i]++caps) W (Po rs T mB pv sv M (.one t) i k W))):
  Calls prog 72 #[.int .i64 i,.pointer (some ⟨b1,0,none⟩),.pointer (some ⟨b2,0,none⟩)] w (Po rs T mB pv sv M (.one t) i k w):=by
 obtain⟨x0,_⟩:=Qk h1.2;obtain⟨y0,_⟩:=Qk h2.2;obtain⟨⟨m0,m1,m2,m3,m4⟩,_,f3⟩:=Jz hs;have l1:=Qz h1.2;have l2:=Qz h2.2;have lm:=Qz hs;have hne1:=h1.1;have hne2:=h2.1;have S0:(fun W:World=>W.cell? ⟨b1,0,none⟩=some (.pointer (some ⟨mB,0,none⟩))/\W.cell? ⟨mB,3,none⟩=some (.int .i64 k)/\W.cell? ⟨mB,4,none⟩=some (.int .i64 M)) w.drew:=⟨x0,m3,m4⟩;have hg0:w.grownBy w.drew (some mB):=G.below (Below.refl _ w).drew;by_cases hkM:k=M
 ·have HF:=hid (Po.no (rs:=rs) (T:=T) (pv:=pv) (sv:=sv) (J:=.one t) (i:=i) (k:=k) hg0 (fun x c hm=>by have:=z3J hm;omega) ⟨k,hs⟩)
  subst hkM;clear hs h1 h2 HP hg0 hk hM;unfold bud at HF;go_enter func72,ntmps72
  go_wp2_with fail
  go_region_held3 (fun W:World=>W.cell? ⟨b1,0,none⟩=some (.pointer (some ⟨mB,0,none⟩))/\W.cell? ⟨mB,3,none⟩=some (.int .i64 k)/\W.cell? ⟨mB,4,none⟩=some (.int .i64 k)) (with_reducible assumption) (fail)
  go_wp2_with fail
  exact⟨rfl,HF.out⟩
 ·have hkI:¬(k:Int)=(M:Int):=by omega
  have hS1:Smn ((w.setCell ⟨mB,3,none⟩ (.int .i64 ((k:Int)+1))).drew) mB T pv sv (k+1) M:=Qy hs 3 _;have hg1:w.grownBy ((w.setCell ⟨mB,3,none⟩ (.int .i64 ((k:Int)+1))).drew) (some mB):=G.to (G.setR (G.refl w mB)) B0q.drew;have HC:=hid ((HP.out _ hg1 hS1 (by omega)).mono fun e w' he=>Po.from hg1 he);have hwr:IntKind.i64.wrap ((k:Int)+1)=(k:Int)+1:=by rw[IntKind.wrap_i64];omega
  clear hs h1 h2 HP hg0 hS1 hg1;go_enter func72,ntmps72
  go_wp2_with fail
  go_region_held3 (fun W:World=>W.cell? ⟨b1,0,none⟩=some (.pointer (some ⟨mB,0,none⟩))/\W.cell? ⟨mB,3,none⟩=some (.int .i64 k)/\W.cell? ⟨mB,4,none⟩=some (.int .i64 M)) (with_reducible assumption) (fail)
  go_wp2_with fail
  refine HC.out.mono ?_;rintro e w1 he;obtain⟨x,hx⟩|hx:(∃x,e=.returned (.int .i64 x))∨e=.panicked bud:=by
   rcases he with⟨_,⟨x,_,_,_,h,_⟩|⟨_,h,_⟩⟩
   ·exact .inl ⟨_,h⟩
   ·exact .inr h
  ·subst hx
   have HF:=hid he;clear he
   go_wp2_with fail
   go_ret;exact HF.out
  ·subst hx
   have HF:=hid he;clear he
   go_wp2_with fail
   exact⟨rfl,HF.out⟩
end
end
end Go.Proofs.YtgmcjddjdidpjaaGreatDoor
