/- Lemmas for the last text. Conditions: those that each names. -/
import Derived.Test.YtgnkkgcgbeianaaGreatDoorVC9ToHA
import Derived.Test.YtgnkkgcgbeianaaGreatDoorVXSnToGB
import Derived.Deep.RegionHeld3
import Derived.Test.YtgnkkgcgbeianaaGreatDoorVLBToLE
import Derived.Test.YtgnkkgcgbeianaaGreatDoorVU3ToU8
import Derived.Test.YtgnkkgcgbeianaaGreatDoorVT13ToT15
import Derived.Laws.EntriesVeiled
set_option linter.unusedVariables false
set_option maxRecDepth 100000
set_option maxHeartbeats 4000000
namespace Go.Proofs.YtgnkkgcgbeianaaGreatDoor
open Go.Proofs.Tryz
section
open Go.RowKit Go.Shelf
section
variable {B:ByteArray->Option RT} {T:ByteArray}
structure Ri (B:zA->Option RT) (T:zA) (J0:Jb) (i0 k0:Nat) (J:Jb) (i k:Nat):Prop where
 le:k0<=k
 on:∀x c,Mt B T J i x c->Mt B T J0 i0 x (c+(k-k0))
 back:∀x c,Mt B T J0 i0 x c->∃c',Mt B T J i x c'/\c=c'+(k-k0)
variable {J0 J:Jb} {i0 k0 i k M:Nat}
theorem Ri.over(h:Ri B T J0 i0 k0 J i k)(o:∀x c,Mt B T J i x c->M<k+c):∀x c,Mt B T J0 i0 x c->M<k0+c:=fun x c r=>by
 obtain⟨t,y,A⟩:=h.back x c r;have:=o x t y;have:=h.le;omega
theorem Ri.done(h:Ri B T J0 i0 k0 J i k){x:Option Nat}{c:Nat}(o:Mt B T J i x c):∃c0,Mt B T J0 i0 x c0/\k0+c0=k+c:=⟨_,h.on x c o,by have:=h.le;omega⟩
theorem Ri.seq{N a b c d s p i k}:Ri B T (.one (.mk 6 N a b c d s p)) i k (.row s) i (k+1):=⟨by omega,fun x c h=>by rw[Nat.add_sub_cancel_left];exact .seq h,fun x c h=>by cases h with|seq h=>exact⟨_,h,by omega⟩⟩
theorem Ri.cho{N a b c d s p i k}:Ri B T (.one (.mk 7 N a b c d s p)) i k (.alt s) i (k+1):=⟨by omega,fun x c h=>by rw[Nat.add_sub_cancel_left];exact .cho h,fun x c h=>by cases h with|cho h=>exact⟨_,h,by omega⟩⟩
theorem Ri.star{N a b c d t r p i k}:Ri B T (.one (.mk 9 N a b c d (t::r) p)) i k (.rep t) i (k+1):=⟨by omega,fun x c h=>by rw[Nat.add_sub_cancel_left];exact .star h,fun x c h=>by cases h with|star h=>exact⟨_,h,by omega⟩⟩
theorem Ri.plus{N a b c d t r p i k y n}(o:Mt B T (.one t) i (some y) n):Ri B T (.one (.mk 10 N a b c d (t::r) p)) i k (.rep t) y (k+1+n):=by
 refine⟨by omega,fun x c h=> ?_,fun x c h=> ?_⟩
 ·have:=Mt.plus_ok (N:=N) (a:=a) (b:=b) (c:= ‹_›) (d:=d) (r:=r) (p:=p) o h
  rw[show c+(k+1+n-k)=n+c+1 by omega];exact .plus_ok o h
 ·cases h with
  |plus_no h=>cases(Gg o h).1
  |plus_ok h1 h2=>
   obtain⟨A,D⟩:=Gg o h1;cases A;exact⟨_,h2,by omega⟩
theorem Ri.ref{N a b c d s p i k t}(o:B N=some t):Ri B T (.one (.mk 5 N a b c d s p)) i k (.one t) i (k+1):=⟨by omega,fun x c h=>by rw[Nat.add_sub_cancel_left];exact .ref o h,fun x c h=>by cases h with|ref h1 h=>rw[o]at h1;cases h1;exact⟨_,h,by omega⟩⟩
theorem Ri.row{t r y n}(h:Ri B T J0 i0 k0 (.row (t::r)) i k)(A:Mt B T (.one t) i (some y) n):Ri B T J0 i0 k0 (.row r) y (k+n):=by
 have hl:=h.le;refine⟨by omega,fun x c D=> ?_,fun x c D=> ?_⟩
 ·have:=h.on x _ (.row_ok A D)
  rw[show c+(k+n-k0)=n+c+(k-k0) by omega];exact this
 ·obtain⟨G,o,I⟩:=h.back x c D
  cases o with
  |row_no o=>cases(Gg A o).1
  |row_ok o h3=>
   obtain⟨E,U⟩:=Gg A o;cases E;exact⟨_,h3,by omega⟩
theorem Ri.alt{t r n}(h:Ri B T J0 i0 k0 (.alt (t::r)) i k)(y:Mt B T (.one t) i none n):Ri B T J0 i0 k0 (.alt r) i (k+n):=by
 have hl:=h.le;refine⟨by omega,fun x c A=> ?_,fun x c A=> ?_⟩
 ·have:=h.on x _ (.alt_no y A)
  rw[show c+(k+n-k0)=n+c+(k-k0) by omega];exact this
 ·obtain⟨D,o,E⟩:=h.back x c A
  cases o with
  |alt_ok o=>cases(Gg y o).1
  |alt_no o h3=>
   obtain⟨G,I⟩:=Gg y o;exact⟨_,h3,by omega⟩
theorem Ri.rep{t y n}(h:Ri B T J0 i0 k0 (.rep t) i k)(r:Mt B T (.one t) i (some y) n):Ri B T J0 i0 k0 (.rep t) y (k+n):=by
 have hl:=h.le;refine⟨by omega,fun x c A=> ?_,fun x c A=> ?_⟩
 ·have:=h.on x _ (.rep_go r A)
  rw[show c+(k+n-k0)=n+c+(k-k0) by omega];exact this
 ·obtain⟨E,o,G⟩:=h.back x c A
  cases o with
  |rep_end o=>cases(Gg r o).1
  |rep_go o h3=>
   obtain⟨D,I⟩:=Gg r o;cases D;exact⟨_,h3,by omega⟩
theorem y6t{t r}(o:∀x c,Mt B T (.one t) i x c->M<k+c):∀x c,Mt B T (.row (t::r)) i x c->M<k+c:=fun x c h=>by
 cases h with
 |row_no h=>exact o _ _ h
 |row_ok h _=>have:=o _ _ h;omega
theorem y6u{t r}(o:∀x c,Mt B T (.one t) i x c->M<k+c):∀x c,Mt B T (.alt (t::r)) i x c->M<k+c:=fun x c h=>by
 cases h with
 |alt_ok h=>exact o _ _ h
 |alt_no h _=>have:=o _ _ h;omega
theorem y6v{t}(o:∀x c,Mt B T (.one t) i x c->M<k+c):∀x c,Mt B T (.rep t) i x c->M<k+c:=fun x c h=>by
 cases h with
 |rep_end h=>exact o _ _ h
 |rep_go h _=>have:=o _ _ h;omega
theorem y6w{N a b c d t r p}(y:∀x c,Mt B T (.one t) i x c->M<k+1+c):∀x o,Mt B T (.one (.mk 8 N a b c d (t::r) p)) i x o->M<k+o:=fun x o h=>by
 cases h with|opt h=>have:=y _ _ h;omega
theorem y6x{N a b c d t r p}(y:∀x c,Mt B T (.one t) i x c->M<k+1+c):∀x o,Mt B T (.one (.mk 11 N a b c d (t::r) p)) i x o->M<k+o:=fun x o h=>by
 cases h with|and h=>have:=y _ _ h;omega
theorem y6y{N a b c d t r p}(y:∀x c,Mt B T (.one t) i x c->M<k+1+c):∀x o,Mt B T (.one (.mk 12 N a b c d (t::r) p)) i x o->M<k+o:=fun x o h=>by
 cases h with|not h=>have:=y _ _ h;omega
theorem y6z{N a b c d t r p}(y:∀x c,Mt B T (.one t) i x c->M<k+1+c):∀x o,Mt B T (.one (.mk 10 N a b c d (t::r) p)) i x o->M<k+o:=fun x o h=>by
 cases h with
 |plus_no h=>have:=y _ _ h;omega
 |plus_ok h _=>have:=y _ _ h;omega
theorem y6A{N a b c d s p t}(o:B N=some t)(r:∀x c,Mt B T (.one t) i x c->M<k+1+c):∀x h,Mt B T (.one (.mk 5 N a b c d s p)) i x h->M<k+h:=(Ri.ref (k:=k) o).over r
end
end
section
open Go.RowKit Go.Shelf
section
variable {rs:List Rr} {T:ByteArray} {mB:Nat} {L:Nat->Prop} {pv sv:Value} {M:Nat}
theorem Po.ok{J:Jb}{i k:Nat}{w w':World}{x:Option Nat}{c k':Nat}(h:w.grownBy w' (some mB))(o:Mt (bdR rs) T J i x c)(e:k'=k+c)(r:k'<=M)(t:Smn w' mB T pv sv k' M):Po rs T mB pv sv M J i k w (.returned (zI (eI x))) w':=by
 subst e;exact⟨h,.inl ⟨x,c,o,r,rfl,t⟩⟩
theorem Po.no{J:Jb}{i k:Nat}{w w':World}(h:w.grownBy w' (some mB))(o:∀x c,Mt (bdR rs) T J i x c->M<k+c)(r:∃k',Smn w' mB T pv sv k' M):Po rs T mB pv sv M J i k w (.panicked bud) w':=⟨h,.inr ⟨o,rfl,r⟩⟩
theorem Po.from{J:Jb}{i k:Nat}{w o w':World}{e:Ending}(r:w.grownBy o (some mB))(h:Po rs T mB pv sv M J i k o e w'):Po rs T mB pv sv M J i k w e w':=⟨G.trans r h.1,h.2⟩
theorem y6B{N:zA}{a b c d:Int}{s:List RT}{p:Int}(i k:Nat)(w:World)(h:Smn w mB T pv sv (k+1) M)(o:k+1<=M):
  Calls prog 137 #[zI (i:Int)] w (Po rs T mB pv sv M (.one (.mk 1 N a b c d s p)) i k w):=by
 have r:=hid (Po.ok (rs:=rs) (T:=T) (pv:=pv) (sv:=sv) (k:=k) (G.refl w mB) (Mt.emp (B:=bdR rs) (T:=T) (N:=N) (a:=a) (b:=b) (c:=c) (d:=d) (s:=s) (p:=p) (i:=i)) rfl o h);dsimp only[eI]at r;clear h o;go_enter func137,ntmps137
 go_wp2_with fail
 go_ret;exact r.out
theorem y6C{N:zA}{a b c d:Int}{t:RT}{r:List RT}{p:Int}(i k c1 E G:Nat)(w:World)(D:zH w c1 (.cells #[fq2 88 E G] 132))
  (Y:Hid (Calls prog 88 #[zI (i:Int),zP E 0,zP G 0] w (Po rs T mB pv sv M (.one t) i (k+1) w))):
  Calls prog 166 #[zI (i:Int),zP c1 0] w (Po rs T mB pv sv M (.one (.mk 8 N a b c d (t::r) p)) i k w):=by
 obtain⟨x0,_⟩:=Qk D;have Z:=Qq D;dsimp only[fq2]at x0;clear D;go_enter func166,ntmps166
 go_wp2_with fail
 refine Y.out.mono ?_;rintro e w1 ⟨A,⟨x,n,I,U,rfl,o⟩|⟨V,rfl,o⟩⟩
 ·have h:=hid (Po.ok (rs:=rs) (T:=T) (pv:=pv) (sv:=sv) (k:=k) A (Mt.opt (N:=N) (a:=a) (b:=b) (c:=c) (d:=d) (r:=r) (p:=p) I) (by omega) U o)
  clear I U o A;cases x with
  |none=>
   dsimp only[eI]at h ⊢
   go_wp2_with fail
   go_ret;exact h.out
  |some y=>
   dsimp only[eI]at h ⊢;have hy:¬(y:Int)= -1:=by omega
   go_wp2_with fail
   go_ret;exact h.out
 ·have h:=hid (Po.no (rs:=rs) (T:=T) (pv:=pv) (sv:=sv) (k:=k) A (y6w (N:=N) (a:=a) (b:=b) (c:=c) (d:=d) (r:=r) (p:=p) V) o)
  clear V A o
  go_wp2_with fail
  exact⟨rfl,h.out⟩
theorem y6D{N:zA}{a b c d:Int}{t:RT}{r:List RT}{p:Int}(i k c1 E G:Nat)(w:World)(D:zH w c1 (.cells #[fq2 88 E G] 132))
  (Y:Hid (Calls prog 88 #[zI (i:Int),zP E 0,zP G 0] w (Po rs T mB pv sv M (.one t) i (k+1) w))):
  Calls prog 169 #[zI (i:Int),zP c1 0] w (Po rs T mB pv sv M (.one (.mk 11 N a b c d (t::r) p)) i k w):=by
 obtain⟨x0,_⟩:=Qk D;have Z:=Qq D;dsimp only[fq2]at x0;clear D;go_enter func169,ntmps169
 go_wp2_with fail
 refine Y.out.mono ?_;rintro e w1 ⟨A,⟨x,n,I,U,rfl,o⟩|⟨V,rfl,o⟩⟩
 ·have h:=hid (Po.ok (rs:=rs) (T:=T) (pv:=pv) (sv:=sv) (k:=k) A (Mt.and (N:=N) (a:=a) (b:=b) (c:=c) (d:=d) (r:=r) (p:=p) I) (by omega) U o)
  clear I U o A;cases x with
  |none=>
   dsimp only[eI]at h ⊢
   go_wp2_with fail
   go_ret;exact h.out
  |some y=>
   dsimp only[eI]at h ⊢;have hy:¬(y:Int)= -1:=by omega
   go_wp2_with fail
   go_ret;exact h.out
 ·have h:=hid (Po.no (rs:=rs) (T:=T) (pv:=pv) (sv:=sv) (k:=k) A (y6x (N:=N) (a:=a) (b:=b) (c:=c) (d:=d) (r:=r) (p:=p) V) o)
  clear V A o
  go_wp2_with fail
  exact⟨rfl,h.out⟩
theorem y6E{N:zA}{a b c d:Int}{t:RT}{r:List RT}{p:Int}(i k c1 E G:Nat)(w:World)(D:zH w c1 (.cells #[fq2 88 E G] 132))
  (Y:Hid (Calls prog 88 #[zI (i:Int),zP E 0,zP G 0] w (Po rs T mB pv sv M (.one t) i (k+1) w))):
  Calls prog 170 #[zI (i:Int),zP c1 0] w (Po rs T mB pv sv M (.one (.mk 12 N a b c d (t::r) p)) i k w):=by
 obtain⟨x0,_⟩:=Qk D;have Z:=Qq D;dsimp only[fq2]at x0;clear D;go_enter func170,ntmps170
 go_wp2_with fail
 refine Y.out.mono ?_;rintro e w1 ⟨A,⟨x,n,I,U,rfl,o⟩|⟨V,rfl,o⟩⟩
 ·have h:=hid (Po.ok (rs:=rs) (T:=T) (pv:=pv) (sv:=sv) (k:=k) A (Mt.not (N:=N) (a:=a) (b:=b) (c:=c) (d:=d) (r:=r) (p:=p) I) (by omega) U o)
  clear I U o A;cases x with
  |none=>
   dsimp only[eI]at h ⊢
   go_wp2_with fail
   go_ret;exact h.out
  |some y=>
   dsimp only[eI]at h ⊢;have hy:¬(y:Int)= -1:=by omega
   go_wp2_with fail
   go_ret;exact h.out
 ·have h:=hid (Po.no (rs:=rs) (T:=T) (pv:=pv) (sv:=sv) (k:=k) A (y6y (N:=N) (a:=a) (b:=b) (c:=c) (d:=d) (r:=r) (p:=p) V) o)
  clear V A o
  go_wp2_with fail
  exact⟨rfl,h.out⟩
end
end
section
open Go.RowKit Go.Shelf
section
variable {rs:List Rr} {T:ByteArray} {mB:Nat} {L:Nat->Prop} {pv sv:Value} {M:Nat}
theorem Vg{W:World}{R:Nat}{v0 v1 v2 v3 v4:Value}{t:TypeId}(h:zH W R (.cells #[v0,v1,v2,v3,v4] t)):(zC W R 0 v0/\zC W R 1 v1/\zC W R 2 v2/\zC W R 3 v3/\zC W R 4 v4)/\W.frozen? ⟨R,2,none⟩=false/\W.frozen? ⟨R,3,none⟩=false:=
 ⟨⟨(Qj h 0 v0 rfl).1,(Qj h 1 v1 rfl).1,(Qj h 2 v2 rfl).1,(Qj h 3 v3 rfl).1,(Qj h 4 v4 rfl).1⟩,(Qj h 2 v2 rfl).2,(Qj h 3 v3 rfl).2⟩
theorem Ub{t:RT}(i k A Y F:Nat)(Z:Array Value)(w:World)(D:Hm w mB L A)(E:Hb w mB L Y #[.func (.func F) #[] Z] 132)(r:Smn w mB T pv sv k M)(hk:k<=M)(hM:M<=1048576)(ab:∀(xs:Array Value) (w:World),(callFunc F xs).run prog w=.ok (.enter F xs) w)
  (I:Hid (∀W:World,w.grownBy W (some mB)->Smn W mB T pv sv (k+1) M->k+1<=M->Calls prog F (#[zI (i:Int)]++Z) W (Po rs T mB pv sv M (.one t) i k W))):
  Calls prog 88 #[zI (i:Int),zP A 0,zP Y 0] w (Po rs T mB pv sv M (.one t) i k w):=by
 obtain⟨x0,_⟩:=Qk D.2;obtain⟨y0,_⟩:=Qk E.2;obtain⟨⟨m0,m1,m2,m3,m4⟩,_,f3⟩:=Vg r;have l1:=Qq D.2;have l2:=Qq E.2;have lm:=Qq r;have ac:=D.1;have ad:=E.1;have S0:(fun W:World=>zC W A 0 (zP mB 0)/\zC W mB 3 (zI (k:Int))/\zC W mB 4 (zI (M:Int))) w.drew:=⟨x0,m3,m4⟩;have U:w.grownBy w.drew (some mB):=G.below (Below.refl _ w).drew;by_cases hkM:k=M
 ·have y:=hid (Po.no (rs:=rs) (T:=T) (pv:=pv) (sv:=sv) (J:=.one t) (i:=i) (k:=k) U (fun x c hm=>by have:=z4L hm;omega) ⟨k,r⟩)
  subst hkM;clear r D E I U hk hM;unfold bud at y;go_enter func88,ntmps88
  go_wp2_with fail
  go_region_held3 (fun W:World=>zC W A 0 (zP mB 0)/\zC W mB 3 (zI (k:Int))/\zC W mB 4 (zI (k:Int))) (with_reducible assumption) (fail)
  go_wp2_with fail
  exact⟨rfl,y.out⟩
 ·have ae:¬(k:Int)=(M:Int):=by omega
  have aa:Smn ((w.setCell ⟨mB,3,none⟩ (zI ((k:Int)+1))).drew) mB T pv sv (k+1) M:=Qw r 3 _;have V:w.grownBy ((w.setCell ⟨mB,3,none⟩ (zI ((k:Int)+1))).drew) (some mB):=G.to (G.setR (G.refl w mB)) B0q.drew;have HC:=hid ((I.out _ V aa (by omega)).mono fun e w' o=>Po.from V o);have af:IntKind.i64.wrap ((k:Int)+1)=(k:Int)+1:=by rw[IntKind.wrap_i64];omega
  clear r D E I U aa V;go_enter func88,ntmps88
  go_wp2_with fail
  go_region_held3 (fun W:World=>zC W A 0 (zP mB 0)/\zC W mB 3 (zI (k:Int))/\zC W mB 4 (zI (M:Int))) (with_reducible assumption) (fail)
  go_wp2_with fail
  refine HC.out.mono ?_;rintro e w1 o;obtain⟨x,hx⟩|hx:(∃x,e=.returned (zI x))∨e=.panicked bud:=by
   rcases o with⟨_,⟨x,_,_,_,h,_⟩|⟨_,h,_⟩⟩
   ·exact .inl ⟨_,h⟩
   ·exact .inr h
  ·subst hx
   have y:=hid o;clear o
   go_wp2_with fail
   go_ret;exact y.out
  ·subst hx
   have y:=hid o;clear o
   go_wp2_with fail
   exact⟨rfl,y.out⟩
end
end
section
open Go.RowKit Go.Shelf
section
variable {rs:List Rr} {T:ByteArray} {mB:Nat} {L:Nat->Prop} {pv sv:Value} {M:Nat}
theorem y6F{N:zA}{a b c d:Int}{s:List RT}{p:Int}(i k c1 c2:Nat)(w:World)(t:Hm w mB L c1)(y:Hb w mB L c2 #[zT N] 9)(r:Smn w mB T pv sv (k+1) M)(D:k+1<=M)(U:i<=T.size)(Z:T.size<=4096):
  Calls prog 161 #[zI (i:Int),zP c1 0,zP c2 0] w (Po rs T mB pv sv M (.one (.mk 2 N a b c d s p)) i k w):=by
 obtain⟨x0,_⟩:=Qk t.2;obtain⟨y0,_⟩:=Qk y.2;obtain⟨⟨V,_⟩,_⟩:=Vg r;have l1:=Qq t.2;have l2:=Qq y.2;have lm:=Qq r;have S0:(fun W:World=>zC W c1 0 (zP mB 0)/\zC W mB 0 (zT T)/\zC W c2 0 (zT N)) w.drew:=⟨x0,V,y0⟩;have o:=hid (Po.ok (rs:=rs) (T:=T) (pv:=pv) (sv:=sv) (k:=k) (G.below (Below.refl _ w).drew) (Mt.lit (B:=bdR rs) (T:=T) (N:=N) (a:=a) (b:=b) (c:=c) (d:=d) (s:=s) (p:=p) (i:=i)) rfl D r);have A:=hid (fun h=>Aw (N:=N) (T:=T) U h);have E:Hid (∀w:World,Calls prog 94 #[zT (T.extract i T.size),zT N] w fun e w'=>e=.returned (.bool (Vc N T i))/\w'=w):=fun w=>Oz _ _ w
 obtain⟨q,I⟩:∃q,q=Vc N T i:=⟨_,rfl⟩;rw[<-I]at o E A;have aa:(i:Int)<=(T.size:Int):=by omega
 clear r t y I D;go_enter func161,ntmps161
 go_wp2_with fail
 go_region_held3 (fun W:World=>zC W c1 0 (zP mB 0)/\zC W mB 0 (zT T)/\zC W c2 0 (zT N)) (with_reducible assumption) (first
  |(go_at_call 94;refine(E.out _).mono ?_;rintro e w4 ⟨rfl,rfl⟩))
 cases q with
 |false=>
  dsimp only[eI,Zd]at o
  go_wp2_with fail
  go_ret;exact o.out
 |true=>
  have hl:=A.out rfl;have ab:IntKind.i64.wrap ((i:Int)+(N.size:Int))=(i:Int)+(N.size:Int):=by rw[IntKind.wrap_i64];omega
  have Y:eI (Zd true (i+N.size))=(i:Int)+(N.size:Int):=rfl;rw[Y]at o;clear A hl
  go_wp2_with fail
  go_ret;exact o.out
theorem y6G{W W':World}{o a1 a2 a3 a4 r:Addr}{v0 v1 v2 v3 v4 v5:Value}(h:W.cell? o=some v0/\W.cell? a1=some v1/\W.cell? a2=some v2/\W.cell? a3=some v3/\W.cell? a4=some v4/\W.cell? r=some v5)(t:zB W W'):W'.cell? o=some v0/\W'.cell? a1=some v1/\W'.cell? a2=some v2/\W'.cell? a3=some v3/\W'.cell? a4=some v4/\W'.cell? r=some v5:=by
 obtain⟨y,A,D,E,G,I⟩:=h;have e:∀{a:Addr} {u:Value},W.cell? a=some u->W'.cell? a=some u:=fun{a u} h=>(t.cell (p:=a) (World.block_lt_of_cell? W _ h)).trans h
 exact⟨e y,e A,e D,e E,e G,e I⟩
theorem z6t{J:Jb}(C i k c1 c2:Nat)(w:World)(Z:Mt (bdR rs) T J i (Zd (Xq C T i) (i+1)) 1)(I:Hm w mB L c1)(t:Hb w mB L c2 (cA C) 54)(D:Smn w mB T pv sv (k+1) M)(hk:k+1<=M)(hi:i<=T.size)(hT:T.size<=4096):
  Calls prog 162 #[zI (i:Int),zP c1 0,zP c2 0] w (Po rs T mB pv sv M J i k w):=by
 obtain⟨x0,_⟩:=Qk I.2;have y0:=(Qj t.2 0 _ rfl).1;have y1:=(Qj t.2 1 _ rfl).1;have y2:=(Qj t.2 2 _ rfl).1;have y3:=(Qj t.2 3 _ rfl).1;obtain⟨⟨m0,_⟩,_⟩:=Vg D;have l1:=Qq I.2;have l2:=Qq t.2;have lm:=Qq D;have E:Hid (zC w.drew c1 0 (zP mB 0)/\zC w.drew mB 0 (zT T)/\zC w.drew c2 0 (zU (wd C 0:Nat))/\zC w.drew c2 1 (zU (wd C 1:Nat))/\zC w.drew c2 2 (zU (wd C 2:Nat))/\zC w.drew c2 3 (zU (wd C 3:Nat))):=⟨x0,m0,y0,y1,y2,y3⟩;have y:=hid (fun(w':World) (hb:Below w.drew.heap.size w.drew w')=>Po.ok (rs:=rs) (T:=T) (pv:=pv) (sv:=sv) (k:=k) (G.below (((Below.refl _ w).drew).trans hb)) Z rfl hk ((hb.block mB lm).trans D));have af:(T.size:Int)<=4096:=by omega
 clear D I t Z hk;cases hx:bt T i with
 |none=>
  have aa:=Yy hx;obtain rfl:i=T.size:=by omega
  have A:Xq C T T.size=false:=by
   cases e:Xq C T T.size with
   |false=>rfl
   |true=>have:=Kg e;omega
  have r:=hid (y.out _ B0q);rw[A]at r;dsimp only[eI,Zd]at r;clear y hx aa A hi;go_enter func162,ntmps162
  go_wp2_with fail
  refine Qc 99 (fun W:World=>zC W c1 0 (zP mB 0)/\zC W mB 0 (zT T)/\zC W c2 0 (zU (wd C 0:Nat))/\zC W c2 1 (zU (wd C 1:Nat))/\zC W c2 2 (zU (wd C 2:Nat))/\zC W c2 3 (zU (wd C 3:Nat))) (by kernel_rfl) E.out (fun o=> ?_);refine Qz 0 o ?_;refine Qz 1 o ?_;refine Qz 2 o ?_;refine Qz 3 o ?_;refine Qz 4 o ?_;refine Qz 5 o ?_;refine Qz 6 o ?_;refine Qz 7 o ?_;refine Qz 8 o ?_;refine Qz 9 o ?_;refine Qz 10 o ?_;refine Qz 11 o ?_;refine Qz 12 o ?_;refine Qz 13 o ?_;refine Qz 14 o ?_
  first
   |(refine Fx (i:=15) (oi:=({dst:=some 20,op:=Op.call {callee:=Callee.value (Operand.func 101),args:=#[Operand.tmp 13,Operand.tmp 19],argTypes:=#[54,5]},type:=4,pos:="ford.go:144",after:=#[{on:=8,ground:=Ground.data},{on:=14,ground:=Ground.data},{on:=7,ground:=Ground.chain},{on:=7,ground:=Ground.guard}],guard:=some (7,false)}:Oper)) (v:=undef) rfl (by kernel_rfl) (by kernel_rfl) (by kernel_rfl) (fun _ _ _ h=>h) (Or.inr ⟨by rfl,rfl⟩) o ?_)
   |(refine Qf 15 (fun K U=> ?_);fail)
  (try simp only[Act.put,zY])
  refine Qz 16 o ?_;refine Qz 17 o ?_;refine⟨by kernel_rfl,?_⟩;clear o E
  go_wp2_with fail
  go_ret;exact r.out
 |some x=>
  have ab:=(Zj hx).2;obtain⟨ac,ad⟩:=Yz hx;have A:Xq C T i=C.testBit x:=by
   unfold Xq;rw[Array.getElem?_eq_getElem (show i<T.data.size from ac)];show C.testBit (T[i]).toNat=_;rw[ad]
  have ag:((i:Int) == (T.size:Int))=false:=by simp;omega
  have ah:(i:Int)<(T.size:Int):=by omega
  have ai:IntKind.i64.wrap ((i:Int)+1)=(i:Int)+1:=by rw[IntKind.wrap_i64];omega
  rw[A]at y;obtain⟨q,V⟩:∃q,q=C.testBit x:=⟨_,rfl⟩;have HH:Hid (∀W:World,Calls prog 101 #[.agg (cA C),.int .u8 x] W (zR W (.bool q))):=fun W=>by rw[V];exact z6f C x W ab
  rw[<-V]at y;dsimp only[cA]at HH;clear hx A V hi;go_enter func162,ntmps162
  go_wp2_with fail
  refine Qc 99 (fun W:World=>zC W c1 0 (zP mB 0)/\zC W mB 0 (zT T)/\zC W c2 0 (zU (wd C 0:Nat))/\zC W c2 1 (zU (wd C 1:Nat))/\zC W c2 2 (zU (wd C 2:Nat))/\zC W c2 3 (zU (wd C 3:Nat))) (by kernel_rfl) E.out (fun o=> ?_);refine Qz 0 o ?_;refine Qz 1 o ?_;refine Qz 2 o ?_;refine Qz 3 o ?_;refine Qz 4 o ?_;refine Qz 5 o ?_;refine Qz 6 o ?_;refine Qz 7 o ?_;refine Qz 8 o ?_;refine Qz 9 o ?_;refine Qz 10 o ?_;refine Qz 11 o ?_;refine Qz 12 o ?_;refine Qz 13 o ?_;refine Qz 14 o ?_
  first
   |(refine Fx (i:=15) (oi:=({dst:=some 20,op:=Op.call {callee:=Callee.value (Operand.func 101),args:=#[Operand.tmp 13,Operand.tmp 19],argTypes:=#[54,5]},type:=4,pos:="ford.go:144",after:=#[{on:=8,ground:=Ground.data},{on:=14,ground:=Ground.data},{on:=7,ground:=Ground.chain},{on:=7,ground:=Ground.guard}],guard:=some (7,false)}:Oper)) (v:=undef) rfl (by kernel_rfl) (by kernel_rfl) (by kernel_rfl) (fun _ _ _ h=>h) (Or.inr ⟨by rfl,rfl⟩) o ?_)
   |(refine Qf 15 (fun K U=> ?_);go_simp;refine(HH.out _).mono ?_;rintro e w4 ⟨rfl,Y⟩;go_simp;replace o:=y6G o Y;have ae:=hid Y;clear Y;refine U.out _ _ o ?_;clear U K)
  (try simp only[Act.put,zY])
  refine Qz 16 o ?_;refine Qz 17 o ?_;refine⟨by kernel_rfl,?_⟩;clear o E;have r:=hid (y.out _ ae.out);clear y;cases q with
  |false=>
   dsimp only[eI,Zd]at r
   go_wp2_with fail
   go_ret;exact r.out
  |true=>
   have e2:eI (Zd true (i+1))=(i:Int)+1:=rfl;rw[e2]at r
   go_wp2_with fail
   go_ret;exact r.out
end
end
section
open Go.RowKit Go.Shelf
section
variable {rs:List Rr} {T:ByteArray} {mB:Nat} {L:Nat->Prop} {pv sv:Value} {M:Nat}
theorem Po.ends{J:Jb}{i k:Nat}{w w':World}{e:Ending}(h:Po rs T mB pv sv M J i k w e w'):(∃x,e=.returned (zI x))∨e=.panicked bud:=by
 rcases h with⟨_,⟨x,_,_,_,h,_⟩|⟨_,h,_⟩⟩
 ·exact .inl ⟨_,h⟩
 ·exact .inr h
theorem Po.bod{J:Jb}{i k:Nat}{w w':World}{e:Ending}(h:Po rs T mB pv sv M J i k w e w'):zC w' mB 2 sv:=by
 rcases h with⟨_,⟨x,_,_,_,_,h⟩|⟨_,_,_,h⟩⟩
 ·exact(Vg h).1.2.2.1
 ·exact(Vg h).1.2.2.1
theorem y6H{W W':World}{o r t A:Nat}{v0 v1 v2 v3:Value}(h:zC W o 0 v0/\zC W mB 2 v1/\zC W r 0 v2/\zC W t A v3)(y:W.grownBy W' (some mB))(D:o≠mB)(E:r≠mB)(G:t≠mB)(I:zC W' mB 2 v1):zC W' o 0 v0/\zC W' mB 2 v1/\zC W' r 0 v2/\zC W' t A v3:=
 ⟨y.cell h.1 (fun e=>D (Option.some.inj e)),I,y.cell h.2.2.1 (fun e=>E (Option.some.inj e)),y.cell h.2.2.2 (fun e=>G (Option.some.inj e))⟩
theorem y6I{N:zA}{a b c d:Int}{s:List RT}{p:Int}(i k j g o n E c1 c2 t y:Nat)(w:World)(A:Hm w mB L c1)(D:Hb w mB L c2 #[zI (j:Int)] 3)(ab:sv=.slice (some ⟨g,o,none⟩) n E)(Z:g≠mB)(hj:j<n)(hn:n<=1048576)(I:zC w g (o+j) (fq2 88 t y))(U:Smn w mB T pv sv (k+1) M)
  (HP:Hid (Calls prog 88 #[zI (i:Int),zP t 0,zP y 0] w.drew (Po rs T mB pv sv M (.one (.mk 5 N a b c d s p)) i k w.drew))):
  Calls prog 163 #[zI (i:Int),zP c1 0,zP c2 0] w (Po rs T mB pv sv M (.one (.mk 5 N a b c d s p)) i k w):=by
 subst ab;obtain⟨x0,_⟩:=Qk A.2;obtain⟨y0,_⟩:=Qk D.2;obtain⟨⟨_,_,m2,_⟩,_⟩:=Vg U;have l1:=Qq A.2;have l2:=Qq D.2;have lm:=Qq U;have lg:g<w.heap.size:=World.block_lt_of_cell? w _ I;have V:Hid (zC w.drew c1 0 (zP mB 0)/\zC w.drew mB 2 (.slice (some ⟨g,o,none⟩) n E)/\zC w.drew c2 0 (zI (j:Int))/\zC w.drew g (o+j) (fq2 88 t y)):=⟨x0,m2,y0,I⟩;have ac:=hid A.1;have ad:=hid D.1;have ae:=hid Z;have aa:Hid (w.grownBy w.drew (some mB)):=G.below (Below.refl _ w).drew;have af:(j:Int)<(n:Int):=by omega
 clear A D Z I U;dsimp only[fq2]at V;go_enter func163,ntmps163
 go_wp2_with fail
 refine Qc 99 (fun W:World=>zC W c1 0 (zP mB 0)/\zC W mB 2 (.slice (some ⟨g,o,none⟩) n E)/\zC W c2 0 (zI (j:Int))/\zC W g (o+j) (fq2 88 t y)) (by kernel_rfl) V.out (fun h=> ?_);refine Qz 0 h ?_;refine Qz 1 h ?_;refine Qz 2 h ?_;refine Qz 3 h ?_;refine Qz 4 h ?_;refine Qz 5 h ?_;refine Qz 6 h ?_;refine Qz 7 h ?_
 (refine Qf 8 (fun K hK=> ?_);go_simp;refine HP.out.mono ?_;rintro e w4 r;obtain⟨x,hx⟩|hx:=r.ends;rotate_left;(subst hx;have Y:=hid (Po.from aa.out r);clear r;go_simp;exact⟨rfl,Y.out⟩);subst hx;have Y:=hid (Po.from aa.out r);go_simp;replace h:=y6H h r.1 ac.out ad.out ae.out r.bod;refine hK.out _ _ h ?_;clear hK K r)
 (try simp only[Act.put,zY])
 refine Qz 9 h ?_;refine⟨by kernel_rfl,?_⟩;clear h V
 go_wp2_with fail
 go_ret;exact Y.out
end
end
section
open Go.RowKit Go.Shelf
section
variable {rs:List Rr} {T:ByteArray} {mB:Nat} {L:Nat->Prop} {pv sv:Value} {M:Nat}
theorem y6J{N:zA}{a b c d:Int}{s:List RT}{p:Int}(i k g o n ak c1:Nat)(w:World)(Y:zH w c1 (.cells #[.slice (some ⟨g,o,none⟩) n ak] 128))(hn:n=s.length)(aw:n<=1048576)(hg:g≠mB)(hi:i<=T.size)(hs:Smn w mB T pv sv (k+1) M)(hk:k+1<=M)
  (HP:Hid (∀j (hj:j<s.length),∃Z b2,zC w g (o+j) (fq2 88 Z b2)/\∀(W:World) (h k':Nat),w.grownBy W (some mB)->Smn W mB T pv sv k' M->k+1<=k'->k'<=M->h<=T.size->Calls prog 88 #[zI (h:Int),zP Z 0,zP b2 0] W (Po rs T mB pv sv M (.one s[j]) h k' W))):
  Calls prog 164 #[zI (i:Int),zP c1 0] w (Po rs T mB pv sv M (.one (.mk 6 N a b c d s p)) i k w):=by
 obtain⟨x0,_⟩:=Qk Y;have l0:=Qq Y;have al:=hid hs;have ab:Hid (n=s.length):=hn;clear Y hs hn;go_enter func164,ntmps164
 go_wp2_with fail
 go_loopw [0,8] (fun u v wr=>∃j h k':Nat,u=zI (h:Int)/\v=zI (j:Int)/\j<=n/\h<=T.size/\k'<=M/\k+1<=k'/\Hid (Ri (bdR rs) T (.one (.mk 6 N a b c d s p)) i k (.row (s.drop j)) h k')/\Hid (w.grownBy wr (some mB))/\Hid (Smn wr mB T pv sv k' M)) (fun _ v _=>n-(intOf v).toNat)
 case atStart=>exact⟨0,i,k+1,rfl,rfl,Nat.zero_le _,hi,hk,Nat.le_refl _,hid (by rw[List.drop_zero];exact Ri.seq),hid (G.refl _ _),al⟩
 case round=>
  obtain⟨j,h,k',rfl,rfl,hj,ac,ad,am,I,A,ae⟩:=hrel;by_cases hjn:j<n
  ·have ao:(j:Int)<(n:Int):=by omega
   have a0:decide ((j:Int)<(n:Int))=true:=by simp;omega
   have af:j<s.length:=by have:=ab.out;omega
   obtain⟨Z,b2,ag,ah⟩:=HP.out j af;have y0:=A.out.cell ag (fun e=>hg (Option.some.inj e));have lg:g<wr.heap.size:=World.block_lt_of_cell? wr _ y0;have HC:=hid (ah wr h k' A.out ae.out am ad ac);rw[List.drop_eq_getElem_cons af]at I;clear ag ah x0;dsimp only[fq2]at y0
   go_wp2_with fail
   refine HC.out.mono ?_;rintro e w1 ⟨D,⟨x,m,U,ai,rfl,r⟩|⟨aj,rfl,r⟩⟩
   rotate_left
   ·have t:=hid (Po.no (rs:=rs) (T:=T) (pv:=pv) (sv:=sv) (k:=k) (G.trans A.out D) (I.out.over (y6t aj)) r)
    clear aj r D
    go_wp2_with fail
    exact⟨rfl,t.out⟩
   have aa:=fun{x c}=>I.out.done (x:=x) (c:=c)
   cases x with
   |none=>
    obtain⟨c0,V,E⟩:=aa (.row_no U);have t:=hid (Po.ok (rs:=rs) (T:=T) (pv:=pv) (sv:=sv) (k:=k) (G.trans A.out D) V E.symm ai r);dsimp only[eI]at t ⊢;clear U r D aa V E
    go_wp2_with fail
    go_ret;exact t.out
   |some y=>
    have hy:¬(y:Int)= -1:=by omega
    have ap:=(Kh U ac y rfl).2;have aq:=hid (I.out.row U);have ar:=hid (G.trans A.out D);have au:=hid r;dsimp only[eI]at ⊢;clear U r D aa
    go_wp2_with fail
    exact⟨⟨j+1,y,k'+m,rfl,by go_num,by omega,ap,ai,by omega,aq,ar,au⟩,by simp[intOf];omega⟩
  ·have a0:decide ((j:Int)<(n:Int))=false:=by simp;omega
   have ao:¬(j:Int)<(n:Int):=by omega
   have av:=ab.out;obtain⟨c0,V,E⟩:=I.out.done (x:=some h) (c:=0) (by rw[List.drop_of_length_le (by omega)];exact Mt.row_nil);rw[Nat.add_zero]at E;have t:=hid (Po.ok (rs:=rs) (T:=T) (pv:=pv) (sv:=sv) (k:=k) A.out V E.symm ad ae.out);dsimp only[eI]at t;clear V E av x0
   go_wp2_with fail
   go_ret;exact t.out
theorem y6K{N:zA}{a b c d:Int}{s:List RT}{p:Int}(i k g o n aj c1:Nat)(w:World)(V:zH w c1 (.cells #[.slice (some ⟨g,o,none⟩) n aj] 128))(hn:n=s.length)(au:n<=1048576)(hg:g≠mB)(hi:i<=T.size)(hs:Smn w mB T pv sv (k+1) M)(hk:k+1<=M)
  (HP:Hid (∀j (hj:j<s.length),∃Y Z,zC w g (o+j) (fq2 88 Y Z)/\∀(W:World) (i' k':Nat),w.grownBy W (some mB)->Smn W mB T pv sv k' M->k+1<=k'->k'<=M->i'<=T.size->Calls prog 88 #[zI (i':Int),zP Y 0,zP Z 0] W (Po rs T mB pv sv M (.one s[j]) i' k' W))):
  Calls prog 165 #[zI (i:Int),zP c1 0] w (Po rs T mB pv sv M (.one (.mk 7 N a b c d s p)) i k w):=by
 obtain⟨x0,_⟩:=Qk V;have l0:=Qq V;have ak:=hid hs;have ab:Hid (n=s.length):=hn;clear V hs hn;go_enter func165,ntmps165
 go_wp2_with fail
 go_loopw [9] (fun v wr=>∃j k':Nat,v=zI (j:Int)/\j<=n/\k'<=M/\k+1<=k'/\Hid (Ri (bdR rs) T (.one (.mk 7 N a b c d s p)) i k (.alt (s.drop j)) i k')/\Hid (w.grownBy wr (some mB))/\Hid (Smn wr mB T pv sv k' M)) (fun v _=>n-(intOf v).toNat)
 case atStart=>exact⟨0,k+1,rfl,Nat.zero_le _,hk,Nat.le_refl _,hid (by rw[List.drop_zero];exact Ri.cho),hid (G.refl _ _),ak⟩
 case round=>
  obtain⟨j,k',rfl,hj,ac,al,E,t,ad⟩:=hrel;by_cases hjn:j<n
  ·have am:(j:Int)<(n:Int):=by omega
   have a0:decide ((j:Int)<(n:Int))=true:=by simp;omega
   have ae:j<s.length:=by have:=ab.out;omega
   obtain⟨Y,Z,af,ag⟩:=HP.out j ae;have y0:=t.out.cell af (fun e=>hg (Option.some.inj e));have lg:g<wr.heap.size:=World.block_lt_of_cell? wr _ y0;have HC:=hid (ag wr i k' t.out ad.out al ac hi);rw[List.drop_eq_getElem_cons ae]at E;clear af ag x0;dsimp only[fq2]at y0
   go_wp2_with fail
   refine HC.out.mono ?_;rintro e w1 ⟨A,⟨x,m,U,ah,rfl,h⟩|⟨ai,rfl,h⟩⟩
   rotate_left
   ·have r:=hid (Po.no (rs:=rs) (T:=T) (pv:=pv) (sv:=sv) (k:=k) (G.trans t.out A) (E.out.over (y6u ai)) h)
    clear ai h A
    go_wp2_with fail
    exact⟨rfl,r.out⟩
   have aa:=fun{x c}=>E.out.done (x:=x) (c:=c)
   cases x with
   |some y=>
    obtain⟨c0,I,D⟩:=aa (.alt_ok U);have r:=hid (Po.ok (rs:=rs) (T:=T) (pv:=pv) (sv:=sv) (k:=k) (G.trans t.out A) I D.symm ah h);have hy:¬(y:Int)= -1:=by omega
    dsimp only[eI]at r ⊢;clear U h A aa I D
    go_wp2_with fail
    go_ret;exact r.out
   |none=>
    have ao:=hid (E.out.alt U);have ap:=hid (G.trans t.out A);have aq:=hid h;dsimp only[eI]at ⊢;clear U h A aa
    go_wp2_with fail
    exact⟨⟨j+1,k'+m,by go_num,by omega,ah,by omega,ao,ap,aq⟩,by simp[intOf];omega⟩
  ·have a0:decide ((j:Int)<(n:Int))=false:=by simp;omega
   have am:¬(j:Int)<(n:Int):=by omega
   have ar:=ab.out;obtain⟨c0,I,D⟩:=E.out.done (x:=none) (c:=0) (by rw[List.drop_of_length_le (by omega)];exact Mt.alt_nil);rw[Nat.add_zero]at D;have r:=hid (Po.ok (rs:=rs) (T:=T) (pv:=pv) (sv:=sv) (k:=k) t.out I D.symm ac ad.out);dsimp only[eI]at r;clear I D ar x0
   go_wp2_with fail
   go_ret;exact r.out
end
end
section
open Go.RowKit Go.Shelf
section
variable {rs:List Rr} {T:ByteArray} {mB:Nat} {L:Nat->Prop} {pv sv:Value} {M:Nat}
theorem z6u{J0:Jb}{t:RT}(i0 k0 i k c1 U V:Nat)(w:World)(Y:zH w c1 (.cells #[fq2 88 U V] 132))(ag:c1≠mB)(hi:i<=T.size)(Z:Smn w mB T pv sv k M)(hk:k<=M)(hR:Ri (bdR rs) T J0 i0 k0 (.rep t) i k)
  (HP:Hid (∀(W:World) (h k':Nat),w.grownBy W (some mB)->Smn W mB T pv sv k' M->k<=k'->k'<=M->h<=T.size->Calls prog 88 #[zI (h:Int),zP U 0,zP V 0] W (Po rs T mB pv sv M (.one t) h k' W))):
  Calls prog 167 #[zI (i:Int),zP c1 0] w (Po rs T mB pv sv M J0 i0 k0 w):=by
 have ah:=hid (Qk Y).1;have ai:=hid Z;have aj:=hid hR;clear Y Z hR;go_enter func167,ntmps167
 go_wp2_with fail
 go_loopw [0] (fun u wr=>∃h k':Nat,u=zI (h:Int)/\h<=T.size/\k'<=M/\k<=k'/\Hid (Ri (bdR rs) T J0 i0 k0 (.rep t) h k')/\Hid (w.grownBy wr (some mB))/\Hid (Smn wr mB T pv sv k' M)) (fun _ wr=>M-(intOf ((wr.cell? ⟨mB,3,none⟩).getD undef)).toNat)
 case atStart=>exact⟨i,k,rfl,hi,hk,Nat.le_refl _,aj,hid (G.refl _ _),ai⟩
 case round=>
  obtain⟨h,k',rfl,aa,ak,al,I,D,ab⟩:=hrel;have x0:=D.out.cell ah.out (fun e=>ag (Option.some.inj e));have l0:c1<wr.heap.size:=World.block_lt_of_cell? wr _ x0;have HC:=hid (HP.out wr h k' D.out ab.out al ak aa);have am:=hid (Vg ab.out).1.2.2.2.1;dsimp only[fq2]at x0
  go_wp2_with fail
  refine HC.out.mono ?_;rintro e w1 ⟨r,⟨x,m,A,ac,rfl,o⟩|⟨ad,rfl,o⟩⟩
  rotate_left
  ·have E:=hid (Po.no (rs:=rs) (T:=T) (pv:=pv) (sv:=sv) (k:=k0) (G.trans D.out r) (I.out.over (y6v ad)) o)
   clear ad o r
   go_wp2_with fail
   exact⟨rfl,E.out⟩
  cases x with
  |none=>
   obtain⟨c0,ae,af⟩:=I.out.done (.rep_end A);have E:=hid (Po.ok (rs:=rs) (T:=T) (pv:=pv) (sv:=sv) (k:=k0) (G.trans D.out r) ae af.symm ac o);dsimp only[eI]at E ⊢;clear A o r ae af
   go_wp2_with fail
   go_ret;exact E.out
  |some y=>
   have hy:¬(y:Int)= -1:=by omega
   have ao:=(Kh A aa y rfl).2;have ap:=hid (I.out.rep A);have aq:=hid (G.trans D.out r);have ar:=hid o;have av:=z4L A;have au:=hid (Vg o).1.2.2.2.1;dsimp only[eI]at ⊢;clear A o r
   go_wp2_with fail
   refine⟨⟨y,k'+m,rfl,ao,ac,by omega,ap,aq,ar⟩,?_⟩;rw[am.out,au.out];simp[intOf];omega
theorem y6L{N:zA}{a b c d:Int}{t:RT}{r:List RT}{p:Int}(i k c1 c2 c3 Y Z:Nat)(w:World)(I:zH w c1 (.cells #[fq2 88 Y Z] 132))(aa:zH w c2 (.cells #[fq1 167 c3] 132))(ab:c2≠mB)
  (HP:Hid (Calls prog 88 #[zI (i:Int),zP Y 0,zP Z 0] w (Po rs T mB pv sv M (.one t) i (k+1) w)))
  (HR:Hid (∀(W:World) (y n:Nat),w.grownBy W (some mB)->Smn W mB T pv sv (k+1+n) M->k+1+n<=M->Mt (bdR rs) T (.one t) i (some y) n->Calls prog 167 #[zI (y:Int),zP c3 0] W (Po rs T mB pv sv M (.one (.mk 10 N a b c d (t::r) p)) i k W))):
  Calls prog 168 #[zI (i:Int),zP c1 0,zP c2 0] w (Po rs T mB pv sv M (.one (.mk 10 N a b c d (t::r) p)) i k w):=by
 obtain⟨x0,_⟩:=Qk I;have l0:=Qq I;have ac:=hid (Qk aa).1;dsimp only[fq2]at x0;clear I aa;go_enter func168,ntmps168
 go_wp2_with fail
 refine HP.out.mono ?_;rintro e U ⟨h,⟨x,n,E,G,rfl,A⟩|⟨hn,rfl,A⟩⟩
 rotate_left
 ·have o:=hid (Po.no (rs:=rs) (T:=T) (pv:=pv) (sv:=sv) (k:=k) h (y6z (N:=N) (a:=a) (b:=b) (c:=c) (d:=d) (r:=r) (p:=p) hn) A)
  clear hn h A
  go_wp2_with fail
  exact⟨rfl,o.out⟩
 cases x with
 |none=>
  have o:=hid (Po.ok (rs:=rs) (T:=T) (pv:=pv) (sv:=sv) (k:=k) h (Mt.plus_no (N:=N) (a:=a) (b:=b) (c:=c) (d:=d) (r:=r) (p:=p) E) (by omega) G A);dsimp only[eI]at o ⊢;clear E G A h
  go_wp2_with fail
  go_ret;exact o.out
 |some y=>
  have hy:¬(y:Int)= -1:=by omega
  have y2:=h.cell ac.out (fun e=>ab (Option.some.inj e));have l2:c2<U.heap.size:=World.block_lt_of_cell? U _ y2;have HC:=hid (HR.out U y n h A G E);have HG:=hid h;dsimp only[eI]at ⊢;dsimp only[fq1]at y2;clear E G A h
  go_wp2_with fail
  refine HC.out.mono ?_;rintro e w2 D;obtain⟨z,V⟩|V:=D.ends
  ·subst V
   have o:=hid (Po.from HG.out D);clear D
   go_wp2_with fail
   go_ret;exact o.out
  ·subst V
   have o:=hid (Po.from HG.out D);clear D
   go_wp2_with fail
   exact⟨rfl,o.out⟩
end
end
section
open Go.RowKit Go.Shelf
section
variable {rs:List Rr} {T:ByteArray} {mB:Nat} {L:Nat->Prop} {pv sv:Value} {M:Nat}
theorem Fit.lenG{l:List ByteArray}{k a b c d p:Int}{T:zA}{s:List RT}(h:Fit l (.mk k T a b c d s p)):s.length<=8192:=by
 obtain⟨G,I,⟨A,t,y,U,o,V⟩,Y⟩:=h;obtain⟨kd,Z,C,r,p'⟩:=A;rw[Tq]at t;obtain⟨_,_,_,_,_,_,hl⟩:=t;rw[Vk]at y;have D:r.length=s.length:=hl.length';rw[<-D];rw[pN]at o;rcases y.1 with⟨rfl,_,_,rfl⟩|⟨rfl,_,rfl⟩|⟨rfl,_,rfl⟩|⟨rfl,_,_,rfl⟩|⟨rfl,_,rfl⟩|⟨E,_,_,h2⟩|⟨h8,aa,_,_,h1⟩
 ·simp
 ·simp
 ·simp
 ·simp
 ·simp
 ·rcases E with rfl|rfl
  ·simp only[Nat.reduceEqDiff,if_false,if_true]at o
   have:=Hz 6 bSp (by decide) r;omega
  ·simp only[Nat.reduceEqDiff,if_false,if_true]at o
   have:=Hz 7 bSl (by decide) r;omega
 ·omega
theorem z6v{k a b c d p:Int}{T:zA}{s:List RT}(h:okT (.mk k T a b c d s p)=true)(o:k=6∨k=7):2<=s.length:=by
 rw[okT,Bool.and_eq_true]at h;have:=h.1;unfold okN at this;rw[if_neg (by omega),if_neg (by omega),if_neg (by omega),if_neg (by omega),if_pos o]at this;simp only[Bool.and_eq_true,decide_eq_true_eq]at this;have:=this.2.2;rw[Zm]at this;omega
theorem Vb{w:World}{ix:zA->Nat}{t:RT}{x:Value}(h:Mv w mB L ix t x):∃o r,x=fq2 88 o r:=by
 obtain⟨k,N,a,b,c,d,s,p⟩:=t;rw[Mv]at h;obtain⟨y,A,_,e,_⟩:=h;exact⟨y,A,e⟩
theorem z6w(hT:T.size<=4096)(hM:M<=1048576)(hF:∀x∈rs,Fit (nmL rs) x.2.1)(ap:rs.length<=1048576):∀(f:Nat) (t:RT) (b1 b2:Nat) (w:World) (i k:Nat),Mv w mB L (fun N=>ixN N (nmL rs)) t (fq2 88 b1 b2)->Fit (nmL rs) t->Bd w mB L rs sv->Smn w mB T pv sv k M->k<=M->M-k<f->i<=T.size->
  Calls prog 88 #[zI (i:Int),zP b1 0,zP b2 0] w (Po rs T mB pv sv M (.one t) i k w)
 |0,_,_,_,_,_,_,_,_,_,_,_,h,_=>by omega
 |f+1,.mk kd N a b c d s p,b1,b2,w,i,k,hv,hf,hB,hS,hk,hfu,hi=>by
  have ih:=z6w hT hM hF ap f;rw[Mv]at hv;obtain⟨ax,ay,u,e,aa,ab,o⟩:=hv;obtain⟨rfl,rfl⟩:b1=ax/\b2=ay:=by simpa using e
  clear e;have al:=hf.ok;rw[okT,Bool.and_eq_true]at al;have U:=Sj al.1;clear al;rcases(by omega:kd=1∨kd=2∨kd=3∨kd=4∨kd=5∨kd=6∨kd=7∨kd=8∨kd=9∨kd=10∨kd=11∨kd=12)with U|U|U|U|U|U|U|U|U|U|U|U
  ·subst U
   rw[if_neg (by decide)]at o;rw[if_neg (by decide)]at o;rw[if_neg (by decide)]at o;rw[if_neg (by decide)]at o;rw[if_neg (by decide)]at o;rw[if_neg (by decide)]at o;rw[if_neg (by decide)]at o;rw[if_neg (by decide)]at o;rw[if_neg (by decide)]at o;rw[if_neg (by decide)]at o;rw[if_neg (by decide)]at o;subst o;refine Ub i k b1 b2 137 _ w aa ab hS hk hM (fun _ _=>by kernel_rfl) (hid fun W A V Y=> ?_);exact y6B i k W V Y
  ·subst U
   rw[if_pos rfl]at o;obtain⟨c1,c2,rfl,Z,D⟩:=o;refine Ub i k b1 b2 161 _ w aa ab hS hk hM (fun _ _=>by kernel_rfl) (hid fun W A V Y=> ?_);rw[show(#[Value.int .i64 i]++#[Value.pointer (some ⟨c1,0,none⟩),Value.pointer (some ⟨c2,0,none⟩)]:Array Value)=#[zI (i:Int),zP c1 0,zP c2 0] by simp];exact y6F i k c1 c2 W (Z.kept A) (D.kept A) V Y hi hT
  ·subst U
   rw[if_neg (by decide)]at o;rw[if_pos rfl]at o;obtain⟨c1,c2,rfl,Z,D⟩:=o;refine Ub i k b1 b2 162 _ w aa ab hS hk hM (fun _ _=>by kernel_rfl) (hid fun W A V Y=> ?_);rw[show(#[Value.int .i64 i]++#[Value.pointer (some ⟨c1,0,none⟩),Value.pointer (some ⟨c2,0,none⟩)]:Array Value)=#[zI (i:Int),zP c1 0,zP c2 0] by simp];exact z6t _ i k c1 c2 W .set (Z.kept A) (D.kept A) V Y hi hT
  ·subst U
   rw[if_neg (by decide)]at o;rw[if_neg (by decide)]at o;rw[if_pos rfl]at o;obtain⟨c1,c2,rfl,Z,D⟩:=o;refine Ub i k b1 b2 162 _ w aa ab hS hk hM (fun _ _=>by kernel_rfl) (hid fun W A V Y=> ?_);rw[show(#[Value.int .i64 i]++#[Value.pointer (some ⟨c1,0,none⟩),Value.pointer (some ⟨c2,0,none⟩)]:Array Value)=#[zI (i:Int),zP c1 0,zP c2 0] by simp];exact z6t _ i k c1 c2 W .any (Z.kept A) (D.kept A) V Y hi hT
  ·subst U
   rw[if_neg (by decide)]at o;rw[if_neg (by decide)]at o;rw[if_neg (by decide)]at o;rw[if_pos rfl]at o;obtain⟨c1,c2,rfl,Z,D⟩:=o;have az:inN N (nmL rs)=true:=by
    have:=hf.rf (N,p) (by rw[rfT,if_pos rfl];simp);exact this
   have ag:=Gk N (nmL rs) az;have aA:(nmL rs).length=rs.length:=List.length_map _;rw[aA]at ag;obtain⟨so,ah,aq,ar⟩:=hB;obtain⟨g0,o0,x,aj,ai,hc,am⟩:=Ug ar (ixN N (nmL rs)) (by simpa using ag);subst aj;rw[Nat.zero_add]at hc;obtain⟨E,I,rfl⟩:=Vb am;have aB:(rs.map (fun x=>x.2.1))[ixN N (nmL rs)]'(by simpa using ag)=rs[ixN N (nmL rs)].2.1:=by simp
   rw[aB]at am;have au:bdR rs N=some rs[ixN N (nmL rs)].2.1:=by
    unfold bdR;rw[List.getElem?_eq_getElem ag];rfl
   refine Ub i k b1 b2 163 _ w aa ab hS hk hM (fun _ _=>by kernel_rfl) (hid fun W A V Y=> ?_);rw[show(#[Value.int .i64 i]++#[Value.pointer (some ⟨c1,0,none⟩),Value.pointer (some ⟨c2,0,none⟩)]:Array Value)=#[zI (i:Int),zP c1 0,zP c2 0] by simp];refine y6I i k (ixN N (nmL rs)) g0 o0 rs.length ah c1 c2 E I W (Z.kept A) (D.kept A) aq ai ag ap (A.cell hc (fun e=>ai (Option.some.inj e))) V (hid ?_);have av:w.grownBy W.drew (some mB):=G.to A (Below.refl _ W).drew;refine(ih _ E I W.drew i (k+1) (Vq av _ _ am) (hF _ (List.getElem_mem ag)) (Bd.kept ⟨_,ah,aq,ar⟩ av) V Y (by omega) hi).mono fun e w' he=> ?_
   rcases he with⟨q1,⟨x,m,q2,q3,q4,q5⟩|⟨q2,q4,q5⟩⟩
   ·obtain⟨c0,aC,aD⟩:=(Ri.ref (k:=k) au).done q2
    rw[q4];exact Po.ok q1 aC aD.symm q3 q5
   ·rw[q4]
    exact Po.no q1 (y6A au q2) q5
  ·subst U
   rw[if_neg (by decide)]at o;rw[if_neg (by decide)]at o;rw[if_neg (by decide)]at o;rw[if_neg (by decide)]at o;rw[if_pos rfl]at o;obtain⟨c1,so,ah,rfl,Z,D⟩:=o;have aE:=z6v hf.ok (by decide);have aF:=hf.lenG;obtain⟨g0,o0,_,aj,ai,_⟩:=Ug D 0 (by omega);subst aj;refine Ub i k b1 b2 164 _ w aa ab hS hk hM (fun _ _=>by kernel_rfl) (hid fun W A V Y=> ?_);rw[show(#[Value.int .i64 i]++#[Value.pointer (some ⟨c1,0,none⟩)]:Array Value)=#[zI (i:Int),zP c1 0] by simp];refine y6J i k g0 o0 (Qv s) ah c1 W (Z.kept A).2 (Zm s) (by rw[Zm];omega) ai hi V Y (hid fun j hj=> ?_);obtain⟨g',o',x,e,_,hc,hv⟩:=Ug (Dg A _ _ D) j hj;cases e;rw[Nat.zero_add]at hc;obtain⟨E,I,rfl⟩:=Vb hv;exact⟨E,I,hc,fun W' i' k' ac ae ao af ak=>ih s[j] E I W' i' k' (Vq ac _ _ hv) (hf.sub j hj) (hB.kept (G.trans A ac)) ae af (by omega) ak⟩
  ·subst U
   rw[if_neg (by decide)]at o;rw[if_neg (by decide)]at o;rw[if_neg (by decide)]at o;rw[if_neg (by decide)]at o;rw[if_neg (by decide)]at o;rw[if_pos rfl]at o;obtain⟨c1,so,ah,rfl,Z,D⟩:=o;have aE:=z6v hf.ok (by decide);have aF:=hf.lenG;obtain⟨g0,o0,_,aj,ai,_⟩:=Ug D 0 (by omega);subst aj;refine Ub i k b1 b2 165 _ w aa ab hS hk hM (fun _ _=>by kernel_rfl) (hid fun W A V Y=> ?_);rw[show(#[Value.int .i64 i]++#[Value.pointer (some ⟨c1,0,none⟩)]:Array Value)=#[zI (i:Int),zP c1 0] by simp];refine y6K i k g0 o0 (Qv s) ah c1 W (Z.kept A).2 (Zm s) (by rw[Zm];omega) ai hi V Y (hid fun j hj=> ?_);obtain⟨g',o',x,e,_,hc,hv⟩:=Ug (Dg A _ _ D) j hj;cases e;rw[Nat.zero_add]at hc;obtain⟨E,I,rfl⟩:=Vb hv;exact⟨E,I,hc,fun W' i' k' ac ae ao af ak=>ih s[j] E I W' i' k' (Vq ac _ _ hv) (hf.sub j hj) (hB.kept (G.trans A ac)) ae af (by omega) ak⟩
  ·subst U
   rw[if_neg (by decide)]at o;rw[if_neg (by decide)]at o;rw[if_neg (by decide)]at o;rw[if_neg (by decide)]at o;rw[if_neg (by decide)]at o;rw[if_neg (by decide)]at o;rw[if_pos rfl]at o;obtain⟨c1,x,rfl,Z,D⟩:=o;obtain⟨t0,r,rfl⟩:∃t0 r,s=t0::r:=by cases s with|nil=>rw[MvH]at D;exact D.elim|cons t0 r=>exact⟨t0,r,rfl⟩
   rw[MvH]at D;obtain⟨E,I,rfl⟩:=Vb D;have ad:=hf.sub 0 (by simp);refine Ub i k b1 b2 166 _ w aa ab hS hk hM (fun _ _=>by kernel_rfl) (hid fun W A V Y=> ?_);rw[show(#[Value.int .i64 i]++#[Value.pointer (some ⟨c1,0,none⟩)]:Array Value)=#[zI (i:Int),zP c1 0] by simp];exact y6C i k c1 E I W (Z.kept A).2 (hid (ih t0 E I W i (k+1) (Vq A _ _ D) ad (hB.kept A) V Y (by omega) hi))
  ·subst U
   rw[if_neg (by decide)]at o;rw[if_neg (by decide)]at o;rw[if_neg (by decide)]at o;rw[if_neg (by decide)]at o;rw[if_neg (by decide)]at o;rw[if_neg (by decide)]at o;rw[if_neg (by decide)]at o;rw[if_pos rfl]at o;obtain⟨c1,x,rfl,Z,D⟩:=o;obtain⟨t0,r,rfl⟩:∃t0 r,s=t0::r:=by cases s with|nil=>rw[MvH]at D;exact D.elim|cons t0 r=>exact⟨t0,r,rfl⟩
   rw[MvH]at D;obtain⟨E,I,rfl⟩:=Vb D;have ad:=hf.sub 0 (by simp);refine Ub i k b1 b2 167 _ w aa ab hS hk hM (fun _ _=>by kernel_rfl) (hid fun W A V Y=> ?_);rw[show(#[Value.int .i64 i]++#[Value.pointer (some ⟨c1,0,none⟩)]:Array Value)=#[zI (i:Int),zP c1 0] by simp];exact z6u i k i (k+1) c1 E I W (Z.kept A).2 Z.1 hi V Y Ri.star (hid fun W' i' k' ac ae ao af ak=>ih t0 E I W' i' k' (Vq (G.trans A ac) _ _ D) ad (hB.kept (G.trans A ac)) ae af (by omega) ak)
  ·subst U
   rw[if_neg (by decide)]at o;rw[if_neg (by decide)]at o;rw[if_neg (by decide)]at o;rw[if_neg (by decide)]at o;rw[if_neg (by decide)]at o;rw[if_neg (by decide)]at o;rw[if_neg (by decide)]at o;rw[if_neg (by decide)]at o;rw[if_pos rfl]at o;obtain⟨c1,c2,c3,x,rfl,Z,D,h3,h4⟩:=o;obtain⟨t0,r,rfl⟩:∃t0 r,s=t0::r:=by cases s with|nil=>rw[MvH]at h4;exact h4.elim|cons t0 r=>exact⟨t0,r,rfl⟩
   rw[MvH]at h4;obtain⟨E,I,rfl⟩:=Vb h4;have ad:=hf.sub 0 (by simp);refine Ub i k b1 b2 168 _ w aa ab hS hk hM (fun _ _=>by kernel_rfl) (hid fun W A V Y=> ?_);rw[show(#[Value.int .i64 i]++#[Value.pointer (some ⟨c1,0,none⟩),Value.pointer (some ⟨c2,0,none⟩)]:Array Value)=#[zI (i:Int),zP c1 0,zP c2 0] by simp];refine y6L i k c1 c2 c3 E I W (Z.kept A).2 (D.kept A).2 D.1 (hid (ih t0 E I W i (k+1) (Vq A _ _ h4) ad (hB.kept A) V Y (by omega) hi)) (hid fun W' y n ac ae aG hm=> ?_);exact z6u i k y (k+1+n) c3 E I W' (h3.kept (G.trans A ac)).2 h3.1 (Kh hm hi y rfl).2 ae aG (Ri.plus hm) (hid fun W2 i2 k2 aw aH ao af aI=>ih t0 E I W2 i2 k2 (Vq (G.trans (G.trans A ac) aw) _ _ h4) ad (hB.kept (G.trans (G.trans A ac) aw)) aH af (by omega) aI)
  ·subst U
   rw[if_neg (by decide)]at o;rw[if_neg (by decide)]at o;rw[if_neg (by decide)]at o;rw[if_neg (by decide)]at o;rw[if_neg (by decide)]at o;rw[if_neg (by decide)]at o;rw[if_neg (by decide)]at o;rw[if_neg (by decide)]at o;rw[if_neg (by decide)]at o;rw[if_pos rfl]at o;obtain⟨c1,x,rfl,Z,D⟩:=o;obtain⟨t0,r,rfl⟩:∃t0 r,s=t0::r:=by cases s with|nil=>rw[MvH]at D;exact D.elim|cons t0 r=>exact⟨t0,r,rfl⟩
   rw[MvH]at D;obtain⟨E,I,rfl⟩:=Vb D;have ad:=hf.sub 0 (by simp);refine Ub i k b1 b2 169 _ w aa ab hS hk hM (fun _ _=>by kernel_rfl) (hid fun W A V Y=> ?_);rw[show(#[Value.int .i64 i]++#[Value.pointer (some ⟨c1,0,none⟩)]:Array Value)=#[zI (i:Int),zP c1 0] by simp];exact y6D i k c1 E I W (Z.kept A).2 (hid (ih t0 E I W i (k+1) (Vq A _ _ D) ad (hB.kept A) V Y (by omega) hi))
  ·subst U
   rw[if_neg (by decide)]at o;rw[if_neg (by decide)]at o;rw[if_neg (by decide)]at o;rw[if_neg (by decide)]at o;rw[if_neg (by decide)]at o;rw[if_neg (by decide)]at o;rw[if_neg (by decide)]at o;rw[if_neg (by decide)]at o;rw[if_neg (by decide)]at o;rw[if_neg (by decide)]at o;rw[if_pos rfl]at o;obtain⟨c1,x,rfl,Z,D⟩:=o;obtain⟨t0,r,rfl⟩:∃t0 r,s=t0::r:=by cases s with|nil=>rw[MvH]at D;exact D.elim|cons t0 r=>exact⟨t0,r,rfl⟩
   rw[MvH]at D;obtain⟨E,I,rfl⟩:=Vb D;have ad:=hf.sub 0 (by simp);refine Ub i k b1 b2 170 _ w aa ab hS hk hM (fun _ _=>by kernel_rfl) (hid fun W A V Y=> ?_);rw[show(#[Value.int .i64 i]++#[Value.pointer (some ⟨c1,0,none⟩)]:Array Value)=#[zI (i:Int),zP c1 0] by simp];exact y6E i k c1 E I W (Z.kept A).2 (hid (ih t0 E I W i (k+1) (Vq A _ _ D) ad (hB.kept A) V Y (by omega) hi))
end
end
section
open Go.RowKit Go.Shelf Go.Maps
section
variable {mB:Nat} {L:Nat->Prop}
theorem y6M(N:zA)(W:World):
  Calls prog 125 #[zP mB 0,zT N] W fun e w'=>e=.returned (fq2 161 W.heap.size (W.heap.size+1))/\w'=(W.alloc (.cells #[zP mB 0] 86)).alloc (.cells #[zT N] 9):=by
 have r:∀(h:Fn) (first o:Array Value) (w:World),(Instr.makeFunc h first o).run prog w=.ok (.func h first o) w:=fun _ _ _ _=>rfl
 go_enter func125,ntmps125
 go_wp2_with fail
 go_ret;exact⟨rfl,rfl⟩
theorem y6N(j:Nat)(W:World):
  Calls prog 128 #[zP mB 0,zI (j:Int)] W fun e w'=>e=.returned (fq2 163 W.heap.size (W.heap.size+1))/\w'=(W.alloc (.cells #[zP mB 0] 86)).alloc (.cells #[zI (j:Int)] 3):=by
 have r:∀(h:Fn) (first o:Array Value) (w:World),(Instr.makeFunc h first o).run prog w=.ok (.func h first o) w:=fun _ _ _ _=>rfl
 go_enter func128,ntmps128
 go_wp2_with fail
 go_ret;exact⟨rfl,rfl⟩
theorem y6O(a b c d:Int)(W:World):
  Calls prog 126 #[zP mB 0,.agg #[zU a,zU b,zU c,zU d]] W fun e w'=>e=.returned (fq2 162 W.heap.size (W.heap.size+1))/\w'=(W.alloc (.cells #[zP mB 0] 86)).alloc (.cells #[zU a,zU b,zU c,zU d] 54):=by
 have r:∀(h:Fn) (first o:Array Value) (w:World),(Instr.makeFunc h first o).run prog w=.ok (.func h first o) w:=fun _ _ _ _=>rfl
 go_enter func126,ntmps126
 go_wp2_with fail
 go_ret;exact⟨rfl,rfl⟩
theorem y6P(o:Option Addr)(n h:Nat)(W:World):
  Calls prog 129 #[.slice o n h] W fun e w'=>e=.returned (fq1 164 W.heap.size)/\w'=W.alloc (.cells #[.slice o n h] 128):=by
 have t:∀(r:Fn) (first h:Array Value) (w:World),(Instr.makeFunc r first h).run prog w=.ok (.func r first h) w:=fun _ _ _ _=>rfl
 go_enter func129,ntmps129
 go_wp2_with fail
 go_ret;exact⟨rfl,rfl⟩
theorem y6Q(o:Option Addr)(n h:Nat)(W:World):
  Calls prog 131 #[.slice o n h] W fun e w'=>e=.returned (fq1 165 W.heap.size)/\w'=W.alloc (.cells #[.slice o n h] 128):=by
 have t:∀(r:Fn) (first h:Array Value) (w:World),(Instr.makeFunc r first h).run prog w=.ok (.func r first h) w:=fun _ _ _ _=>rfl
 go_enter func131,ntmps131
 go_wp2_with fail
 go_ret;exact⟨rfl,rfl⟩
theorem y6R(h o:Nat)(W:World):
  Calls prog 132 #[fq2 88 h o] W fun e w'=>e=.returned (fq1 166 W.heap.size)/\w'=W.alloc (.cells #[fq2 88 h o] 132):=by
 have y:∀(r:Fn) (first t:Array Value) (w:World),(Instr.makeFunc r first t).run prog w=.ok (.func r first t) w:=fun _ _ _ _=>rfl
 go_enter func132,ntmps132
 go_wp2_with fail
 go_ret;exact⟨rfl,rfl⟩
theorem z6x(h o:Nat)(W:World):
  Calls prog 133 #[fq2 88 h o] W fun e w'=>e=.returned (fq1 167 W.heap.size)/\w'=W.alloc (.cells #[fq2 88 h o] 132):=by
 have y:∀(r:Fn) (first t:Array Value) (w:World),(Instr.makeFunc r first t).run prog w=.ok (.func r first t) w:=fun _ _ _ _=>rfl
 go_enter func133,ntmps133
 go_wp2_with fail
 go_ret;exact⟨rfl,rfl⟩
theorem y6S(h o:Nat)(W:World):
  Calls prog 135 #[fq2 88 h o] W fun e w'=>e=.returned (fq1 169 W.heap.size)/\w'=W.alloc (.cells #[fq2 88 h o] 132):=by
 have y:∀(r:Fn) (first t:Array Value) (w:World),(Instr.makeFunc r first t).run prog w=.ok (.func r first t) w:=fun _ _ _ _=>rfl
 go_enter func135,ntmps135
 go_wp2_with fail
 go_ret;exact⟨rfl,rfl⟩
theorem y6T(h o:Nat)(W:World):
  Calls prog 136 #[fq2 88 h o] W fun e w'=>e=.returned (fq1 170 W.heap.size)/\w'=W.alloc (.cells #[fq2 88 h o] 132):=by
 have y:∀(r:Fn) (first t:Array Value) (w:World),(Instr.makeFunc r first t).run prog w=.ok (.func r first t) w:=fun _ _ _ _=>rfl
 go_enter func136,ntmps136
 go_wp2_with fail
 go_ret;exact⟨rfl,rfl⟩
theorem y6U(h o:Nat)(W:World):
  Calls prog 134 #[fq2 88 h o] W fun e w'=>e=.returned (fq2 168 W.heap.size (W.heap.size+1+1))/\w'=((W.alloc (.cells #[fq2 88 h o] 132)).alloc (.cells #[fq2 88 h o] 132)).alloc (.cells #[fq1 167 (W.heap.size+1)] 132):=by
 have A:∀(r:Fn) (first t:Array Value) (w:World),(Instr.makeFunc r first t).run prog w=.ok (.func r first t) w:=fun _ _ _ _=>rfl
 have y:=hid (z6x h o);dsimp only[fq1,fq2]at y ⊢;go_enter func134,ntmps134
 go_wp2_with fail
 refine(y.out _).mono ?_;rintro e D ⟨rfl,rfl⟩
 go_wp2_with fail
 go_ret;exact⟨by simp,by simp⟩
theorem Vl{w:World}{xs:Array Value}{t:TypeId}(h:mB<w.heap.size)(o:∀b,w.heap.size<=b->L b):Hb (w.alloc (.cells xs t)) mB L w.heap.size xs t:=⟨fun e=>by omega,Qx w _ rfl,o _ L0q⟩
theorem Al{w:World}{xs:Array Value}{t:TypeId}{b:Nat}(h:mB<w.heap.size)(o:∀b,w.heap.size<=b->L b)(r:b=w.heap.size):Hb (w.alloc (.cells xs t)) mB L b xs t:=by subst r;exact Vl h o
theorem Db{w:World}{b:Nat}{xs:Array Value}{t:TypeId}(o:Obj)(h:Hb w mB L b xs t):Hb (w.alloc o) mB L b xs t:=h.kept (G.alloc (G.refl _ _))
theorem be2(W:World)(h o:Obj):zB W ((W.alloc h).alloc o):=((Below.refl _ W).alloc L0q _).alloc (by simp) _
theorem y6V(N:zA){W:World}(h:mB<W.heap.size)(o:∀b,W.heap.size<=b->L b):Calls prog 125 #[zP mB 0,zT N] W fun e w'=>∃c1 c2,e=.returned (.func (.func 161) #[] #[zP c1 0,zP c2 0])/\Hid (Hm w' mB L c1/\Hb w' mB L c2 #[zT N] 9/\zB W w'):=
 (y6M N W).mono fun e w' ⟨r,t⟩=>⟨_,_,r,by rw[t];exact⟨Db _ (Vl h o),Al (by simp;omega) (fun b y=>o b (by simp at y;omega)) (by simp),be2 _ _ _⟩⟩
theorem y6W(j:Nat){W:World}(h:mB<W.heap.size)(o:∀b,W.heap.size<=b->L b):Calls prog 128 #[zP mB 0,zI (j:Int)] W fun e w'=>∃c1 c2,e=.returned (.func (.func 163) #[] #[zP c1 0,zP c2 0])/\Hid (Hm w' mB L c1/\Hb w' mB L c2 #[zI (j:Int)] 3/\zB W w'):=
 (y6N j W).mono fun e w' ⟨r,t⟩=>⟨_,_,r,by rw[t];exact⟨Db _ (Vl h o),Al (by simp;omega) (fun b y=>o b (by simp at y;omega)) (by simp),be2 _ _ _⟩⟩
theorem z6y(a b c d:Int){W:World}(h:mB<W.heap.size)(o:∀b,W.heap.size<=b->L b):Calls prog 126 #[zP mB 0,.agg #[zU a,zU b,zU c,zU d]] W fun e w'=>∃c1 c2,e=.returned (.func (.func 162) #[] #[zP c1 0,zP c2 0])/\Hid (Hm w' mB L c1/\Hb w' mB L c2 #[zU a,zU b,zU c,zU d] 54/\zB W w'):=
 (y6O a b c d W).mono fun e w' ⟨r,t⟩=>⟨_,_,r,by rw[t];exact⟨Db _ (Vl h o),Al (by simp;omega) (fun b y=>o b (by simp at y;omega)) (by simp),be2 _ _ _⟩⟩
theorem y6X(o:Option Addr)(n r:Nat){W:World}(h:mB<W.heap.size)(t:∀b,W.heap.size<=b->L b):Calls prog 129 #[.slice o n r] W fun e w'=>∃c1,e=.returned (.func (.func 164) #[] #[zP c1 0])/\Hid (Hb w' mB L c1 #[.slice o n r] 128/\zB W w'):=
 (y6P o n r W).mono fun e w' ⟨y,A⟩=>⟨_,y,by rw[A];exact⟨Vl h t,(Below.refl _ W).alloc L0q _⟩⟩
theorem y6Y(o:Option Addr)(n r:Nat){W:World}(h:mB<W.heap.size)(t:∀b,W.heap.size<=b->L b):Calls prog 131 #[.slice o n r] W fun e w'=>∃c1,e=.returned (.func (.func 165) #[] #[zP c1 0])/\Hid (Hb w' mB L c1 #[.slice o n r] 128/\zB W w'):=
 (y6Q o n r W).mono fun e w' ⟨y,A⟩=>⟨_,y,by rw[A];exact⟨Vl h t,(Below.refl _ W).alloc L0q _⟩⟩
theorem y6Z(o r:Nat){W:World}(h:mB<W.heap.size)(t:∀b,W.heap.size<=b->L b):Calls prog 132 #[.func (.func 88) #[] #[zP o 0,zP r 0]] W fun e w'=>∃c1,e=.returned (.func (.func 166) #[] #[zP c1 0])/\Hid (Hb w' mB L c1 #[.func (.func 88) #[] #[zP o 0,zP r 0]] 132/\zB W w'):=
 (y6R o r W).mono fun e w' ⟨y,A⟩=>⟨_,y,by rw[A];exact⟨Vl h t,(Below.refl _ W).alloc L0q _⟩⟩
theorem y7a(o r:Nat){W:World}(h:mB<W.heap.size)(t:∀b,W.heap.size<=b->L b):Calls prog 133 #[.func (.func 88) #[] #[zP o 0,zP r 0]] W fun e w'=>∃c1,e=.returned (.func (.func 167) #[] #[zP c1 0])/\Hid (Hb w' mB L c1 #[.func (.func 88) #[] #[zP o 0,zP r 0]] 132/\zB W w'):=
 (z6x o r W).mono fun e w' ⟨y,A⟩=>⟨_,y,by rw[A];exact⟨Vl h t,(Below.refl _ W).alloc L0q _⟩⟩
theorem y7b(o r:Nat){W:World}(h:mB<W.heap.size)(t:∀b,W.heap.size<=b->L b):Calls prog 135 #[.func (.func 88) #[] #[zP o 0,zP r 0]] W fun e w'=>∃c1,e=.returned (.func (.func 169) #[] #[zP c1 0])/\Hid (Hb w' mB L c1 #[.func (.func 88) #[] #[zP o 0,zP r 0]] 132/\zB W w'):=
 (y6S o r W).mono fun e w' ⟨y,A⟩=>⟨_,y,by rw[A];exact⟨Vl h t,(Below.refl _ W).alloc L0q _⟩⟩
theorem y7c(o r:Nat){W:World}(h:mB<W.heap.size)(t:∀b,W.heap.size<=b->L b):Calls prog 136 #[.func (.func 88) #[] #[zP o 0,zP r 0]] W fun e w'=>∃c1,e=.returned (.func (.func 170) #[] #[zP c1 0])/\Hid (Hb w' mB L c1 #[.func (.func 88) #[] #[zP o 0,zP r 0]] 132/\zB W w'):=
 (y6T o r W).mono fun e w' ⟨y,A⟩=>⟨_,y,by rw[A];exact⟨Vl h t,(Below.refl _ W).alloc L0q _⟩⟩
theorem y7d(o r:Nat){W:World}(h:mB<W.heap.size)(t:∀b,W.heap.size<=b->L b):Calls prog 134 #[.func (.func 88) #[] #[zP o 0,zP r 0]] W fun e w'=>∃c1 c2 c3,e=.returned (.func (.func 168) #[] #[zP c1 0,zP c2 0])/\Hid (Hb w' mB L c1 #[.func (.func 88) #[] #[zP o 0,zP r 0]] 132/\Hb w' mB L c2 #[fq1 167 c3] 132/\Hb w' mB L c3 #[.func (.func 88) #[] #[zP o 0,zP r 0]] 132/\zB W w'):=
 (y6U o r W).mono fun e w' ⟨A,D⟩=>⟨_,_,W.heap.size+1,A,by rw[D];exact⟨Db _ (Db _ (Vl h t)),Al (by simp;omega) (fun b y=>t b (by simp at y;omega)) (by simp),Db _ (Al (by simp;omega) (fun b y=>t b (by simp at y;omega)) (by simp)),(be2 _ _ _).alloc (by simp;omega) _⟩⟩
end
end
end Go.Proofs.YtgnkkgcgbeianaaGreatDoor
