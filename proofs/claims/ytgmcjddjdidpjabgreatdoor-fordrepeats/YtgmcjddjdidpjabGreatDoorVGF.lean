/- Lemmas for the last text. Conditions: those that each names. -/
import Derived.Test.YtgmcjddjdidpjabGreatDoorVO2ToRL
set_option linter.unusedVariables false
set_option maxRecDepth 100000
set_option maxHeartbeats 4000000
namespace Go.Proofs.YtgmcjddjdidpjabGreatDoor
open Go.Proofs.Tryz
section
open Go.RowKit Go.Shelf
section
variable {rs:List Rr} {T:ByteArray} {mB:Nat} {L:Nat->Prop} {pv sv:Value} {M:Nat}
theorem y0F{N:ByteArray}{a b c d:Int}{s:List RT}{p:Int}(i k c1 c2:Nat)(w:World)(h1:Hm w mB L c1)(h2:Hb w mB L c2 #[.string N] 9)(hs:Smn w mB T pv sv (k+1) M)(hk:k+1<=M)(hi:i<=T.size)(hT:T.size<=4096):
  Calls prog 110 #[.int .i64 i,.pointer (some ⟨c1,0,none⟩),.pointer (some ⟨c2,0,none⟩)] w (Po rs T mB pv sv M (.one (.mk 2 N a b c d s p)) i k w):=by
 obtain⟨x0,_⟩:=Qj h1.2;obtain⟨y0,_⟩:=Qj h2.2;obtain⟨⟨m0,_⟩,_⟩:=Uj hs;have l1:=Qz h1.2;have l2:=Qz h2.2;have lm:=Qz hs;have S0:(fun W:World=>W.cell? ⟨c1,0,none⟩=some (.pointer (some ⟨mB,0,none⟩))/\W.cell? ⟨mB,0,none⟩=some (.string T)/\W.cell? ⟨c2,0,none⟩=some (.string N)) w.drew:=⟨x0,m0,y0⟩;have HF:=hid (Po.ok (rs:=rs) (T:=T) (pv:=pv) (sv:=sv) (k:=k) (G.below (Below.refl _ w).drew) (Mt.lit (B:=bdR rs) (T:=T) (N:=N) (a:=a) (b:=b) (c:=c) (d:=d) (s:=s) (p:=p) (i:=i)) rfl hk hs);have HL:=hid (fun h=>z3b (N:=N) (T:=T) hi h);have HPf:Hid (∀w:World,Calls prog 32 #[.string (T.extract i T.size),.string N] w fun e w'=>e=.returned (.bool (Nb N T i))/\w'=w):=fun w=>z0L _ _ w
 obtain⟨q,hq⟩:∃q,q=Nb N T i:=⟨_,rfl⟩;rw[<-hq]at HF HPf HL;have hiI:(i:Int)<=(T.size:Int):=by omega
 clear hs h1 h2 hq hk;go_enter func110,ntmps110
 go_wp2_with fail
 go_region_held3 (fun W:World=>W.cell? ⟨c1,0,none⟩=some (.pointer (some ⟨mB,0,none⟩))/\W.cell? ⟨mB,0,none⟩=some (.string T)/\W.cell? ⟨c2,0,none⟩=some (.string N)) (with_reducible assumption) (first
  |(go_at_call 32;refine(HPf.out _).mono ?_;rintro e w4 ⟨rfl,rfl⟩))
 cases q with
 |false=>
  dsimp only[eI,Xb]at HF
  go_wp2_with fail
  go_ret;exact HF.out
 |true=>
  have hl:=HL.out rfl;have hwr:IntKind.i64.wrap ((i:Int)+(N.size:Int))=(i:Int)+(N.size:Int):=by rw[IntKind.wrap_i64];omega
  have e1:eI (Xb true (i+N.size))=(i:Int)+(N.size:Int):=rfl;rw[e1]at HF;clear HL hl
  go_wp2_with fail
  go_ret;exact HF.out
theorem y0G{W W':World}{a0 a1 a2 a3 a4 a5:Addr}{v0 v1 v2 v3 v4 v5:Value}(h:W.cell? a0=some v0/\W.cell? a1=some v1/\W.cell? a2=some v2/\W.cell? a3=some v3/\W.cell? a4=some v4/\W.cell? a5=some v5)(hb:Below W.heap.size W W'):W'.cell? a0=some v0/\W'.cell? a1=some v1/\W'.cell? a2=some v2/\W'.cell? a3=some v3/\W'.cell? a4=some v4/\W'.cell? a5=some v5:=by
 obtain⟨z0,z1,z2,z3,z4,z5⟩:=h;have e:∀{a:Addr} {u:Value},W.cell? a=some u->W'.cell? a=some u:=fun{a u} h=>(hb.cell (p:=a) (World.block_lt_of_cell? W _ h)).trans h
 exact⟨e z0,e z1,e z2,e z3,e z4,e z5⟩
theorem z3j{J:Jb}(C i k c1 c2:Nat)(w:World)(hm:Mt (bdR rs) T J i (Xb (Jd C T i) (i+1)) 1)(h1:Hm w mB L c1)(h2:Hb w mB L c2 (cA C) 27)(hs:Smn w mB T pv sv (k+1) M)(hk:k+1<=M)(hi:i<=T.size)(hT:T.size<=4096):
  Calls prog 111 #[.int .i64 i,.pointer (some ⟨c1,0,none⟩),.pointer (some ⟨c2,0,none⟩)] w (Po rs T mB pv sv M J i k w):=by
 obtain⟨x0,_⟩:=Qj h1.2;have y0:=(Ql h2.2 0 _ rfl).1;have y1:=(Ql h2.2 1 _ rfl).1;have y2:=(Ql h2.2 2 _ rfl).1;have y3:=(Ql h2.2 3 _ rfl).1;obtain⟨⟨m0,_⟩,_⟩:=Uj hs;have l1:=Qz h1.2;have l2:=Qz h2.2;have lm:=Qz hs;have HS0:Hid (w.drew.cell? ⟨c1,0,none⟩=some (.pointer (some ⟨mB,0,none⟩))/\w.drew.cell? ⟨mB,0,none⟩=some (.string T)/\w.drew.cell? ⟨c2,0,none⟩=some (.int .u64 (wd C 0))/\w.drew.cell? ⟨c2,1,none⟩=some (.int .u64 (wd C 1))/\w.drew.cell? ⟨c2,2,none⟩=some (.int .u64 (wd C 2))/\w.drew.cell? ⟨c2,3,none⟩=some (.int .u64 (wd C 3))):=⟨x0,m0,y0,y1,y2,y3⟩;have HF:=hid (fun(w':World) (hb:Below w.drew.heap.size w.drew w')=>Po.ok (rs:=rs) (T:=T) (pv:=pv) (sv:=sv) (k:=k) (G.below (((Below.refl _ w).drew).trans hb)) hm rfl hk ((hb.block mB lm).trans hs));have hTI:(T.size:Int)<=4096:=by omega
 clear hs h1 h2 hm hk;cases hx:bt T i with
 |none=>
  have hge:=Zp hx;obtain rfl:i=T.size:=by omega
  have e1:Jd C T T.size=false:=by
   cases e:Jd C T T.size with
   |false=>rfl
   |true=>have:=z3c e;omega
  have HG:=hid (HF.out _ B0q);rw[e1]at HG;dsimp only[eI,Xb]at HG;clear HF hx hge e1 hi;go_enter func111,ntmps111
  go_wp2_with fail
  refine Vq 99 (fun W:World=>W.cell? ⟨c1,0,none⟩=some (.pointer (some ⟨mB,0,none⟩))/\W.cell? ⟨mB,0,none⟩=some (.string T)/\W.cell? ⟨c2,0,none⟩=some (.int .u64 (wd C 0))/\W.cell? ⟨c2,1,none⟩=some (.int .u64 (wd C 1))/\W.cell? ⟨c2,2,none⟩=some (.int .u64 (wd C 2))/\W.cell? ⟨c2,3,none⟩=some (.int .u64 (wd C 3))) (by kernel_rfl) HS0.out (fun hHeld=> ?_)
  (refine Qq (i:=0) (oi:=({dst:=some 5,op:=Op.move (Operand.tmp 0),type:=3,pos:="ford.go:144",after:=#[],guard:=none}:Oper)) (v:= ?_) rfl (by kernel_rfl) (by kernel_rfl) (by kernel_rfl) (fun _ _ _ h=>h) (Or.inl ⟨by rfl,?_⟩) hHeld ?_;rotate_left;(intro w hSw;(try dsimp only at hSw);go_simp;(try with_reducible rfl));skip)
  (try simp only[Act.put,List.setIfInBounds_toArray,List.set_cons_zero,List.set_cons_succ])
  (refine Qq (i:=1) (oi:=({dst:=some 6,op:=Op.load 55 (Operand.tmp 1),type:=55,pos:="ford.go:144",after:=#[],guard:=none}:Oper)) (v:= ?_) rfl (by kernel_rfl) (by kernel_rfl) (by kernel_rfl) (fun _ _ _ h=>h) (Or.inl ⟨by rfl,?_⟩) hHeld ?_;rotate_left;(intro w hSw;(try dsimp only at hSw);go_simp;(try with_reducible rfl));skip)
  (try simp only[Act.put,List.setIfInBounds_toArray,List.set_cons_zero,List.set_cons_succ])
  (refine Qq (i:=2) (oi:=({dst:=some 7,op:=Op.nilCheck (Operand.tmp 6),type:=0,pos:="ford.go:144",after:=#[{on:=1,ground:=Ground.data}],guard:=none}:Oper)) (v:= ?_) rfl (by kernel_rfl) (by kernel_rfl) (by kernel_rfl) (fun _ _ _ h=>h) (Or.inl ⟨by rfl,?_⟩) hHeld ?_;rotate_left;(intro w hSw;(try dsimp only at hSw);go_simp;(try with_reducible rfl));skip)
  (try simp only[Act.put,List.setIfInBounds_toArray,List.set_cons_zero,List.set_cons_succ])
  (refine Qq (i:=3) (oi:=({dst:=some 8,op:=Op.fieldAddr 77 (Operand.tmp 7) 0,type:=0,pos:="ford.go:144",after:=#[{on:=2,ground:=Ground.data}],guard:=none}:Oper)) (v:= ?_) rfl (by kernel_rfl) (by kernel_rfl) (by kernel_rfl) (fun _ _ _ h=>h) (Or.inl ⟨by rfl,?_⟩) hHeld ?_;rotate_left;(intro w hSw;(try dsimp only at hSw);go_simp;(try with_reducible rfl));skip)
  (try simp only[Act.put,List.setIfInBounds_toArray,List.set_cons_zero,List.set_cons_succ])
  (refine Qq (i:=4) (oi:=({dst:=some 9,op:=Op.load 9 (Operand.tmp 8),type:=9,pos:="ford.go:144",after:=#[{on:=3,ground:=Ground.data}],guard:=none}:Oper)) (v:= ?_) rfl (by kernel_rfl) (by kernel_rfl) (by kernel_rfl) (fun _ _ _ h=>h) (Or.inl ⟨by rfl,?_⟩) hHeld ?_;rotate_left;(intro w hSw;(try dsimp only at hSw);go_simp;(try with_reducible rfl));skip)
  (try simp only[Act.put,List.setIfInBounds_toArray,List.set_cons_zero,List.set_cons_succ])
  (refine Qq (i:=5) (oi:=({dst:=some 10,op:=Op.call {callee:=Callee.builtin Builtin.len,args:=#[Operand.tmp 9],argTypes:=#[9]},type:=3,pos:="ford.go:144",after:=#[{on:=4,ground:=Ground.data}],guard:=none}:Oper)) (v:= ?_) rfl (by kernel_rfl) (by kernel_rfl) (by kernel_rfl) (fun _ _ _ h=>h) (Or.inl ⟨by rfl,?_⟩) hHeld ?_;rotate_left;(intro w hSw;(try dsimp only at hSw);go_simp;(try with_reducible rfl));skip)
  (try simp only[Act.put,List.setIfInBounds_toArray,List.set_cons_zero,List.set_cons_succ])
  (refine Qq (i:=6) (oi:=({dst:=some 11,op:=Op.binOp BinOp.eql 3 (Operand.tmp 5) (Operand.tmp 10) 3,type:=4,pos:="ford.go:144",after:=#[{on:=0,ground:=Ground.data},{on:=5,ground:=Ground.data}],guard:=none}:Oper)) (v:= ?_) rfl (by kernel_rfl) (by kernel_rfl) (by kernel_rfl) (fun _ _ _ h=>h) (Or.inl ⟨by rfl,?_⟩) hHeld ?_;rotate_left;(intro w hSw;(try dsimp only at hSw);go_simp;(try with_reducible rfl));skip)
  (try simp only[Act.put,List.setIfInBounds_toArray,List.set_cons_zero,List.set_cons_succ])
  (refine Qq (i:=7) (oi:=({dst:=some 12,op:=Op.move (Operand.tmp 11),type:=4,pos:="ford.go:144",after:=#[{on:=6,ground:=Ground.data}],guard:=none}:Oper)) (v:= ?_) rfl (by kernel_rfl) (by kernel_rfl) (by kernel_rfl) (fun _ _ _ h=>h) (Or.inl ⟨by rfl,?_⟩) hHeld ?_;rotate_left;(intro w hSw;(try dsimp only at hSw);go_simp;(try with_reducible rfl));skip)
  (try simp only[Act.put,List.setIfInBounds_toArray,List.set_cons_zero,List.set_cons_succ])
  first
   |(refine Qq (i:=8) (oi:=({dst:=some 13,op:=Op.load 27 (Operand.tmp 2),type:=27,pos:="ford.go:144",after:=#[{on:=7,ground:=Ground.guard}],guard:=some (7,false)}:Oper)) (v:=undef) rfl (by kernel_rfl) (by kernel_rfl) (by kernel_rfl) (fun _ _ _ h=>h) (Or.inr ⟨by rfl,rfl⟩) hHeld ?_)
   |(refine Qq (i:=8) (oi:=({dst:=some 13,op:=Op.load 27 (Operand.tmp 2),type:=27,pos:="ford.go:144",after:=#[{on:=7,ground:=Ground.guard}],guard:=some (7,false)}:Oper)) (v:= ?_) rfl (by kernel_rfl) (by kernel_rfl) (by kernel_rfl) (fun _ _ _ h=>h) (Or.inl ⟨by rfl,?_⟩) hHeld ?_;rotate_left;(intro w hSw;(try dsimp only at hSw);go_simp;(try with_reducible rfl));skip)
  (try simp only[Act.put,List.setIfInBounds_toArray,List.set_cons_zero,List.set_cons_succ])
  first
   |(refine Qq (i:=9) (oi:=({dst:=some 14,op:=Op.load 55 (Operand.tmp 1),type:=55,pos:="ford.go:144",after:=#[{on:=7,ground:=Ground.guard}],guard:=some (7,false)}:Oper)) (v:=undef) rfl (by kernel_rfl) (by kernel_rfl) (by kernel_rfl) (fun _ _ _ h=>h) (Or.inr ⟨by rfl,rfl⟩) hHeld ?_)
   |(refine Qq (i:=9) (oi:=({dst:=some 14,op:=Op.load 55 (Operand.tmp 1),type:=55,pos:="ford.go:144",after:=#[{on:=7,ground:=Ground.guard}],guard:=some (7,false)}:Oper)) (v:= ?_) rfl (by kernel_rfl) (by kernel_rfl) (by kernel_rfl) (fun _ _ _ h=>h) (Or.inl ⟨by rfl,?_⟩) hHeld ?_;rotate_left;(intro w hSw;(try dsimp only at hSw);go_simp;(try with_reducible rfl));skip)
  (try simp only[Act.put,List.setIfInBounds_toArray,List.set_cons_zero,List.set_cons_succ])
  first
   |(refine Qq (i:=10) (oi:=({dst:=some 15,op:=Op.nilCheck (Operand.tmp 14),type:=0,pos:="ford.go:144",after:=#[{on:=9,ground:=Ground.data},{on:=7,ground:=Ground.guard}],guard:=some (7,false)}:Oper)) (v:=undef) rfl (by kernel_rfl) (by kernel_rfl) (by kernel_rfl) (fun _ _ _ h=>h) (Or.inr ⟨by rfl,rfl⟩) hHeld ?_)
   |(refine Qq (i:=10) (oi:=({dst:=some 15,op:=Op.nilCheck (Operand.tmp 14),type:=0,pos:="ford.go:144",after:=#[{on:=9,ground:=Ground.data},{on:=7,ground:=Ground.guard}],guard:=some (7,false)}:Oper)) (v:= ?_) rfl (by kernel_rfl) (by kernel_rfl) (by kernel_rfl) (fun _ _ _ h=>h) (Or.inl ⟨by rfl,?_⟩) hHeld ?_;rotate_left;(intro w hSw;(try dsimp only at hSw);go_simp;(try with_reducible rfl));skip)
  (try simp only[Act.put,List.setIfInBounds_toArray,List.set_cons_zero,List.set_cons_succ])
  first
   |(refine Qq (i:=11) (oi:=({dst:=some 16,op:=Op.fieldAddr 77 (Operand.tmp 15) 0,type:=0,pos:="ford.go:144",after:=#[{on:=10,ground:=Ground.data},{on:=7,ground:=Ground.guard}],guard:=some (7,false)}:Oper)) (v:=undef) rfl (by kernel_rfl) (by kernel_rfl) (by kernel_rfl) (fun _ _ _ h=>h) (Or.inr ⟨by rfl,rfl⟩) hHeld ?_)
   |(refine Qq (i:=11) (oi:=({dst:=some 16,op:=Op.fieldAddr 77 (Operand.tmp 15) 0,type:=0,pos:="ford.go:144",after:=#[{on:=10,ground:=Ground.data},{on:=7,ground:=Ground.guard}],guard:=some (7,false)}:Oper)) (v:= ?_) rfl (by kernel_rfl) (by kernel_rfl) (by kernel_rfl) (fun _ _ _ h=>h) (Or.inl ⟨by rfl,?_⟩) hHeld ?_;rotate_left;(intro w hSw;(try dsimp only at hSw);go_simp;(try with_reducible rfl));skip)
  (try simp only[Act.put,List.setIfInBounds_toArray,List.set_cons_zero,List.set_cons_succ])
  first
   |(refine Qq (i:=12) (oi:=({dst:=some 17,op:=Op.load 9 (Operand.tmp 16),type:=9,pos:="ford.go:144",after:=#[{on:=11,ground:=Ground.data},{on:=7,ground:=Ground.guard}],guard:=some (7,false)}:Oper)) (v:=undef) rfl (by kernel_rfl) (by kernel_rfl) (by kernel_rfl) (fun _ _ _ h=>h) (Or.inr ⟨by rfl,rfl⟩) hHeld ?_)
   |(refine Qq (i:=12) (oi:=({dst:=some 17,op:=Op.load 9 (Operand.tmp 16),type:=9,pos:="ford.go:144",after:=#[{on:=11,ground:=Ground.data},{on:=7,ground:=Ground.guard}],guard:=some (7,false)}:Oper)) (v:= ?_) rfl (by kernel_rfl) (by kernel_rfl) (by kernel_rfl) (fun _ _ _ h=>h) (Or.inl ⟨by rfl,?_⟩) hHeld ?_;rotate_left;(intro w hSw;(try dsimp only at hSw);go_simp;(try with_reducible rfl));skip)
  (try simp only[Act.put,List.setIfInBounds_toArray,List.set_cons_zero,List.set_cons_succ])
  first
   |(refine Qq (i:=13) (oi:=({dst:=some 18,op:=Op.move (Operand.tmp 0),type:=3,pos:="ford.go:144",after:=#[{on:=7,ground:=Ground.guard}],guard:=some (7,false)}:Oper)) (v:=undef) rfl (by kernel_rfl) (by kernel_rfl) (by kernel_rfl) (fun _ _ _ h=>h) (Or.inr ⟨by rfl,rfl⟩) hHeld ?_)
   |(refine Qq (i:=13) (oi:=({dst:=some 18,op:=Op.move (Operand.tmp 0),type:=3,pos:="ford.go:144",after:=#[{on:=7,ground:=Ground.guard}],guard:=some (7,false)}:Oper)) (v:= ?_) rfl (by kernel_rfl) (by kernel_rfl) (by kernel_rfl) (fun _ _ _ h=>h) (Or.inl ⟨by rfl,?_⟩) hHeld ?_;rotate_left;(intro w hSw;(try dsimp only at hSw);go_simp;(try with_reducible rfl));skip)
  (try simp only[Act.put,List.setIfInBounds_toArray,List.set_cons_zero,List.set_cons_succ])
  first
   |(refine Qq (i:=14) (oi:=({dst:=some 19,op:=Op.index 9 (Operand.tmp 17) (Operand.tmp 18),type:=5,pos:="ford.go:144",after:=#[{on:=12,ground:=Ground.data},{on:=13,ground:=Ground.data},{on:=7,ground:=Ground.guard}],guard:=some (7,false)}:Oper)) (v:=undef) rfl (by kernel_rfl) (by kernel_rfl) (by kernel_rfl) (fun _ _ _ h=>h) (Or.inr ⟨by rfl,rfl⟩) hHeld ?_)
   |(refine Qq (i:=14) (oi:=({dst:=some 19,op:=Op.index 9 (Operand.tmp 17) (Operand.tmp 18),type:=5,pos:="ford.go:144",after:=#[{on:=12,ground:=Ground.data},{on:=13,ground:=Ground.data},{on:=7,ground:=Ground.guard}],guard:=some (7,false)}:Oper)) (v:= ?_) rfl (by kernel_rfl) (by kernel_rfl) (by kernel_rfl) (fun _ _ _ h=>h) (Or.inl ⟨by rfl,?_⟩) hHeld ?_;rotate_left;(intro w hSw;(try dsimp only at hSw);go_simp;(try with_reducible rfl));skip)
  (try simp only[Act.put,List.setIfInBounds_toArray,List.set_cons_zero,List.set_cons_succ])
  first
   |(refine Qq (i:=15) (oi:=({dst:=some 20,op:=Op.call {callee:=Callee.value (Operand.func 112),args:=#[Operand.tmp 13,Operand.tmp 19],argTypes:=#[27,5]},type:=4,pos:="ford.go:144",after:=#[{on:=8,ground:=Ground.data},{on:=14,ground:=Ground.data},{on:=7,ground:=Ground.chain},{on:=7,ground:=Ground.guard}],guard:=some (7,false)}:Oper)) (v:=undef) rfl (by kernel_rfl) (by kernel_rfl) (by kernel_rfl) (fun _ _ _ h=>h) (Or.inr ⟨by rfl,rfl⟩) hHeld ?_)
   |(refine Zf (i:=15) (o:=({dst:=some 20,op:=Op.call {callee:=Callee.value (Operand.func 112),args:=#[Operand.tmp 13,Operand.tmp 19],argTypes:=#[27,5]},type:=4,pos:="ford.go:144",after:=#[{on:=8,ground:=Ground.data},{on:=14,ground:=Ground.data},{on:=7,ground:=Ground.chain},{on:=7,ground:=Ground.guard}],guard:=some (7,false)}:Oper)) (by kernel_rfl) rfl (fun K hK=> ?_);fail)
  (try simp only[Act.put,List.setIfInBounds_toArray,List.set_cons_zero,List.set_cons_succ])
  first
   |(refine Qq (i:=16) (oi:=({dst:=some 21,op:=Op.unOp UnOp.not 4 (Operand.tmp 20),type:=4,pos:="ford.go:144",after:=#[{on:=15,ground:=Ground.data},{on:=7,ground:=Ground.guard}],guard:=some (7,false)}:Oper)) (v:=undef) rfl (by kernel_rfl) (by kernel_rfl) (by kernel_rfl) (fun _ _ _ h=>h) (Or.inr ⟨by rfl,rfl⟩) hHeld ?_)
   |(refine Qq (i:=16) (oi:=({dst:=some 21,op:=Op.unOp UnOp.not 4 (Operand.tmp 20),type:=4,pos:="ford.go:144",after:=#[{on:=15,ground:=Ground.data},{on:=7,ground:=Ground.guard}],guard:=some (7,false)}:Oper)) (v:= ?_) rfl (by kernel_rfl) (by kernel_rfl) (by kernel_rfl) (fun _ _ _ h=>h) (Or.inl ⟨by rfl,?_⟩) hHeld ?_;rotate_left;(intro w hSw;(try dsimp only at hSw);go_simp;(try with_reducible rfl));skip)
  (try simp only[Act.put,List.setIfInBounds_toArray,List.set_cons_zero,List.set_cons_succ])
  (refine Qq (i:=17) (oi:=({dst:=some 22,op:=Op.pick (Operand.tmp 12) (Operand.const (Value.bool true)) (Operand.tmp 21),type:=4,pos:="ford.go:144",after:=#[{on:=7,ground:=Ground.data},{on:=16,ground:=Ground.data}],guard:=none}:Oper)) (v:= ?_) rfl (by kernel_rfl) (by kernel_rfl) (by kernel_rfl) (fun _ _ _ h=>h) (Or.inl ⟨by rfl,?_⟩) hHeld ?_;rotate_left;(intro w hSw;(try dsimp only at hSw);go_simp;(try with_reducible rfl));skip)
  (try simp only[Act.put,List.setIfInBounds_toArray,List.set_cons_zero,List.set_cons_succ])
  refine⟨by kernel_rfl,?_⟩;clear hHeld HS0
  go_wp2_with fail
  go_ret;exact HG.out
 |some x=>
  have hxl:=(Qf hx).2;obtain⟨hk',hxx⟩:=Zy hx;have e1:Jd C T i=C.testBit x:=by
   unfold Jd;rw[Array.getElem?_eq_getElem (show i<T.data.size from hk')];show C.testBit (T[i]).toNat=_;rw[hxx]
  have hne:((i:Int) == (T.size:Int))=false:=by simp;omega
  have hkI:(i:Int)<(T.size:Int):=by omega
  have hwr:IntKind.i64.wrap ((i:Int)+1)=(i:Int)+1:=by rw[IntKind.wrap_i64];omega
  rw[e1]at HF;obtain⟨q,hq⟩:∃q,q=C.testBit x:=⟨_,rfl⟩;have HH:Hid (∀W:World,Calls prog 112 #[.agg (cA C),.int .u8 x] W fun e w'=>e=.returned (.bool q)/\Below W.heap.size W w'):=fun W=>by rw[hq];exact y0C C x W hxl
  rw[<-hq]at HF;dsimp only[cA]at HH;clear hx e1 hq hi;go_enter func111,ntmps111
  go_wp2_with fail
  refine Vq 99 (fun W:World=>W.cell? ⟨c1,0,none⟩=some (.pointer (some ⟨mB,0,none⟩))/\W.cell? ⟨mB,0,none⟩=some (.string T)/\W.cell? ⟨c2,0,none⟩=some (.int .u64 (wd C 0))/\W.cell? ⟨c2,1,none⟩=some (.int .u64 (wd C 1))/\W.cell? ⟨c2,2,none⟩=some (.int .u64 (wd C 2))/\W.cell? ⟨c2,3,none⟩=some (.int .u64 (wd C 3))) (by kernel_rfl) HS0.out (fun hHeld=> ?_)
  (refine Qq (i:=0) (oi:=({dst:=some 5,op:=Op.move (Operand.tmp 0),type:=3,pos:="ford.go:144",after:=#[],guard:=none}:Oper)) (v:= ?_) rfl (by kernel_rfl) (by kernel_rfl) (by kernel_rfl) (fun _ _ _ h=>h) (Or.inl ⟨by rfl,?_⟩) hHeld ?_;rotate_left;(intro w hSw;(try dsimp only at hSw);go_simp;(try with_reducible rfl));skip)
  (try simp only[Act.put,List.setIfInBounds_toArray,List.set_cons_zero,List.set_cons_succ])
  (refine Qq (i:=1) (oi:=({dst:=some 6,op:=Op.load 55 (Operand.tmp 1),type:=55,pos:="ford.go:144",after:=#[],guard:=none}:Oper)) (v:= ?_) rfl (by kernel_rfl) (by kernel_rfl) (by kernel_rfl) (fun _ _ _ h=>h) (Or.inl ⟨by rfl,?_⟩) hHeld ?_;rotate_left;(intro w hSw;(try dsimp only at hSw);go_simp;(try with_reducible rfl));skip)
  (try simp only[Act.put,List.setIfInBounds_toArray,List.set_cons_zero,List.set_cons_succ])
  (refine Qq (i:=2) (oi:=({dst:=some 7,op:=Op.nilCheck (Operand.tmp 6),type:=0,pos:="ford.go:144",after:=#[{on:=1,ground:=Ground.data}],guard:=none}:Oper)) (v:= ?_) rfl (by kernel_rfl) (by kernel_rfl) (by kernel_rfl) (fun _ _ _ h=>h) (Or.inl ⟨by rfl,?_⟩) hHeld ?_;rotate_left;(intro w hSw;(try dsimp only at hSw);go_simp;(try with_reducible rfl));skip)
  (try simp only[Act.put,List.setIfInBounds_toArray,List.set_cons_zero,List.set_cons_succ])
  (refine Qq (i:=3) (oi:=({dst:=some 8,op:=Op.fieldAddr 77 (Operand.tmp 7) 0,type:=0,pos:="ford.go:144",after:=#[{on:=2,ground:=Ground.data}],guard:=none}:Oper)) (v:= ?_) rfl (by kernel_rfl) (by kernel_rfl) (by kernel_rfl) (fun _ _ _ h=>h) (Or.inl ⟨by rfl,?_⟩) hHeld ?_;rotate_left;(intro w hSw;(try dsimp only at hSw);go_simp;(try with_reducible rfl));skip)
  (try simp only[Act.put,List.setIfInBounds_toArray,List.set_cons_zero,List.set_cons_succ])
  (refine Qq (i:=4) (oi:=({dst:=some 9,op:=Op.load 9 (Operand.tmp 8),type:=9,pos:="ford.go:144",after:=#[{on:=3,ground:=Ground.data}],guard:=none}:Oper)) (v:= ?_) rfl (by kernel_rfl) (by kernel_rfl) (by kernel_rfl) (fun _ _ _ h=>h) (Or.inl ⟨by rfl,?_⟩) hHeld ?_;rotate_left;(intro w hSw;(try dsimp only at hSw);go_simp;(try with_reducible rfl));skip)
  (try simp only[Act.put,List.setIfInBounds_toArray,List.set_cons_zero,List.set_cons_succ])
  (refine Qq (i:=5) (oi:=({dst:=some 10,op:=Op.call {callee:=Callee.builtin Builtin.len,args:=#[Operand.tmp 9],argTypes:=#[9]},type:=3,pos:="ford.go:144",after:=#[{on:=4,ground:=Ground.data}],guard:=none}:Oper)) (v:= ?_) rfl (by kernel_rfl) (by kernel_rfl) (by kernel_rfl) (fun _ _ _ h=>h) (Or.inl ⟨by rfl,?_⟩) hHeld ?_;rotate_left;(intro w hSw;(try dsimp only at hSw);go_simp;(try with_reducible rfl));skip)
  (try simp only[Act.put,List.setIfInBounds_toArray,List.set_cons_zero,List.set_cons_succ])
  (refine Qq (i:=6) (oi:=({dst:=some 11,op:=Op.binOp BinOp.eql 3 (Operand.tmp 5) (Operand.tmp 10) 3,type:=4,pos:="ford.go:144",after:=#[{on:=0,ground:=Ground.data},{on:=5,ground:=Ground.data}],guard:=none}:Oper)) (v:= ?_) rfl (by kernel_rfl) (by kernel_rfl) (by kernel_rfl) (fun _ _ _ h=>h) (Or.inl ⟨by rfl,?_⟩) hHeld ?_;rotate_left;(intro w hSw;(try dsimp only at hSw);go_simp;(try with_reducible rfl));skip)
  (try simp only[Act.put,List.setIfInBounds_toArray,List.set_cons_zero,List.set_cons_succ])
  (refine Qq (i:=7) (oi:=({dst:=some 12,op:=Op.move (Operand.tmp 11),type:=4,pos:="ford.go:144",after:=#[{on:=6,ground:=Ground.data}],guard:=none}:Oper)) (v:= ?_) rfl (by kernel_rfl) (by kernel_rfl) (by kernel_rfl) (fun _ _ _ h=>h) (Or.inl ⟨by rfl,?_⟩) hHeld ?_;rotate_left;(intro w hSw;(try dsimp only at hSw);go_simp;(try with_reducible rfl));skip)
  (try simp only[Act.put,List.setIfInBounds_toArray,List.set_cons_zero,List.set_cons_succ])
  first
   |(refine Qq (i:=8) (oi:=({dst:=some 13,op:=Op.load 27 (Operand.tmp 2),type:=27,pos:="ford.go:144",after:=#[{on:=7,ground:=Ground.guard}],guard:=some (7,false)}:Oper)) (v:=undef) rfl (by kernel_rfl) (by kernel_rfl) (by kernel_rfl) (fun _ _ _ h=>h) (Or.inr ⟨by rfl,rfl⟩) hHeld ?_)
   |(refine Qq (i:=8) (oi:=({dst:=some 13,op:=Op.load 27 (Operand.tmp 2),type:=27,pos:="ford.go:144",after:=#[{on:=7,ground:=Ground.guard}],guard:=some (7,false)}:Oper)) (v:= ?_) rfl (by kernel_rfl) (by kernel_rfl) (by kernel_rfl) (fun _ _ _ h=>h) (Or.inl ⟨by rfl,?_⟩) hHeld ?_;rotate_left;(intro w hSw;(try dsimp only at hSw);go_simp;(try with_reducible rfl));skip)
  (try simp only[Act.put,List.setIfInBounds_toArray,List.set_cons_zero,List.set_cons_succ])
  first
   |(refine Qq (i:=9) (oi:=({dst:=some 14,op:=Op.load 55 (Operand.tmp 1),type:=55,pos:="ford.go:144",after:=#[{on:=7,ground:=Ground.guard}],guard:=some (7,false)}:Oper)) (v:=undef) rfl (by kernel_rfl) (by kernel_rfl) (by kernel_rfl) (fun _ _ _ h=>h) (Or.inr ⟨by rfl,rfl⟩) hHeld ?_)
   |(refine Qq (i:=9) (oi:=({dst:=some 14,op:=Op.load 55 (Operand.tmp 1),type:=55,pos:="ford.go:144",after:=#[{on:=7,ground:=Ground.guard}],guard:=some (7,false)}:Oper)) (v:= ?_) rfl (by kernel_rfl) (by kernel_rfl) (by kernel_rfl) (fun _ _ _ h=>h) (Or.inl ⟨by rfl,?_⟩) hHeld ?_;rotate_left;(intro w hSw;(try dsimp only at hSw);go_simp;(try with_reducible rfl));skip)
  (try simp only[Act.put,List.setIfInBounds_toArray,List.set_cons_zero,List.set_cons_succ])
  first
   |(refine Qq (i:=10) (oi:=({dst:=some 15,op:=Op.nilCheck (Operand.tmp 14),type:=0,pos:="ford.go:144",after:=#[{on:=9,ground:=Ground.data},{on:=7,ground:=Ground.guard}],guard:=some (7,false)}:Oper)) (v:=undef) rfl (by kernel_rfl) (by kernel_rfl) (by kernel_rfl) (fun _ _ _ h=>h) (Or.inr ⟨by rfl,rfl⟩) hHeld ?_)
   |(refine Qq (i:=10) (oi:=({dst:=some 15,op:=Op.nilCheck (Operand.tmp 14),type:=0,pos:="ford.go:144",after:=#[{on:=9,ground:=Ground.data},{on:=7,ground:=Ground.guard}],guard:=some (7,false)}:Oper)) (v:= ?_) rfl (by kernel_rfl) (by kernel_rfl) (by kernel_rfl) (fun _ _ _ h=>h) (Or.inl ⟨by rfl,?_⟩) hHeld ?_;rotate_left;(intro w hSw;(try dsimp only at hSw);go_simp;(try with_reducible rfl));skip)
  (try simp only[Act.put,List.setIfInBounds_toArray,List.set_cons_zero,List.set_cons_succ])
  first
   |(refine Qq (i:=11) (oi:=({dst:=some 16,op:=Op.fieldAddr 77 (Operand.tmp 15) 0,type:=0,pos:="ford.go:144",after:=#[{on:=10,ground:=Ground.data},{on:=7,ground:=Ground.guard}],guard:=some (7,false)}:Oper)) (v:=undef) rfl (by kernel_rfl) (by kernel_rfl) (by kernel_rfl) (fun _ _ _ h=>h) (Or.inr ⟨by rfl,rfl⟩) hHeld ?_)
   |(refine Qq (i:=11) (oi:=({dst:=some 16,op:=Op.fieldAddr 77 (Operand.tmp 15) 0,type:=0,pos:="ford.go:144",after:=#[{on:=10,ground:=Ground.data},{on:=7,ground:=Ground.guard}],guard:=some (7,false)}:Oper)) (v:= ?_) rfl (by kernel_rfl) (by kernel_rfl) (by kernel_rfl) (fun _ _ _ h=>h) (Or.inl ⟨by rfl,?_⟩) hHeld ?_;rotate_left;(intro w hSw;(try dsimp only at hSw);go_simp;(try with_reducible rfl));skip)
  (try simp only[Act.put,List.setIfInBounds_toArray,List.set_cons_zero,List.set_cons_succ])
  first
   |(refine Qq (i:=12) (oi:=({dst:=some 17,op:=Op.load 9 (Operand.tmp 16),type:=9,pos:="ford.go:144",after:=#[{on:=11,ground:=Ground.data},{on:=7,ground:=Ground.guard}],guard:=some (7,false)}:Oper)) (v:=undef) rfl (by kernel_rfl) (by kernel_rfl) (by kernel_rfl) (fun _ _ _ h=>h) (Or.inr ⟨by rfl,rfl⟩) hHeld ?_)
   |(refine Qq (i:=12) (oi:=({dst:=some 17,op:=Op.load 9 (Operand.tmp 16),type:=9,pos:="ford.go:144",after:=#[{on:=11,ground:=Ground.data},{on:=7,ground:=Ground.guard}],guard:=some (7,false)}:Oper)) (v:= ?_) rfl (by kernel_rfl) (by kernel_rfl) (by kernel_rfl) (fun _ _ _ h=>h) (Or.inl ⟨by rfl,?_⟩) hHeld ?_;rotate_left;(intro w hSw;(try dsimp only at hSw);go_simp;(try with_reducible rfl));skip)
  (try simp only[Act.put,List.setIfInBounds_toArray,List.set_cons_zero,List.set_cons_succ])
  first
   |(refine Qq (i:=13) (oi:=({dst:=some 18,op:=Op.move (Operand.tmp 0),type:=3,pos:="ford.go:144",after:=#[{on:=7,ground:=Ground.guard}],guard:=some (7,false)}:Oper)) (v:=undef) rfl (by kernel_rfl) (by kernel_rfl) (by kernel_rfl) (fun _ _ _ h=>h) (Or.inr ⟨by rfl,rfl⟩) hHeld ?_)
   |(refine Qq (i:=13) (oi:=({dst:=some 18,op:=Op.move (Operand.tmp 0),type:=3,pos:="ford.go:144",after:=#[{on:=7,ground:=Ground.guard}],guard:=some (7,false)}:Oper)) (v:= ?_) rfl (by kernel_rfl) (by kernel_rfl) (by kernel_rfl) (fun _ _ _ h=>h) (Or.inl ⟨by rfl,?_⟩) hHeld ?_;rotate_left;(intro w hSw;(try dsimp only at hSw);go_simp;(try with_reducible rfl));skip)
  (try simp only[Act.put,List.setIfInBounds_toArray,List.set_cons_zero,List.set_cons_succ])
  first
   |(refine Qq (i:=14) (oi:=({dst:=some 19,op:=Op.index 9 (Operand.tmp 17) (Operand.tmp 18),type:=5,pos:="ford.go:144",after:=#[{on:=12,ground:=Ground.data},{on:=13,ground:=Ground.data},{on:=7,ground:=Ground.guard}],guard:=some (7,false)}:Oper)) (v:=undef) rfl (by kernel_rfl) (by kernel_rfl) (by kernel_rfl) (fun _ _ _ h=>h) (Or.inr ⟨by rfl,rfl⟩) hHeld ?_)
   |(refine Qq (i:=14) (oi:=({dst:=some 19,op:=Op.index 9 (Operand.tmp 17) (Operand.tmp 18),type:=5,pos:="ford.go:144",after:=#[{on:=12,ground:=Ground.data},{on:=13,ground:=Ground.data},{on:=7,ground:=Ground.guard}],guard:=some (7,false)}:Oper)) (v:= ?_) rfl (by kernel_rfl) (by kernel_rfl) (by kernel_rfl) (fun _ _ _ h=>h) (Or.inl ⟨by rfl,?_⟩) hHeld ?_;rotate_left;(intro w hSw;(try dsimp only at hSw);go_simp;(try with_reducible rfl));skip)
  (try simp only[Act.put,List.setIfInBounds_toArray,List.set_cons_zero,List.set_cons_succ])
  first
   |(refine Qq (i:=15) (oi:=({dst:=some 20,op:=Op.call {callee:=Callee.value (Operand.func 112),args:=#[Operand.tmp 13,Operand.tmp 19],argTypes:=#[27,5]},type:=4,pos:="ford.go:144",after:=#[{on:=8,ground:=Ground.data},{on:=14,ground:=Ground.data},{on:=7,ground:=Ground.chain},{on:=7,ground:=Ground.guard}],guard:=some (7,false)}:Oper)) (v:=undef) rfl (by kernel_rfl) (by kernel_rfl) (by kernel_rfl) (fun _ _ _ h=>h) (Or.inr ⟨by rfl,rfl⟩) hHeld ?_)
   |(refine Zf (i:=15) (o:=({dst:=some 20,op:=Op.call {callee:=Callee.value (Operand.func 112),args:=#[Operand.tmp 13,Operand.tmp 19],argTypes:=#[27,5]},type:=4,pos:="ford.go:144",after:=#[{on:=8,ground:=Ground.data},{on:=14,ground:=Ground.data},{on:=7,ground:=Ground.chain},{on:=7,ground:=Ground.guard}],guard:=some (7,false)}:Oper)) (by kernel_rfl) rfl (fun K hK=> ?_);go_simp;refine(HH.out _).mono ?_;rintro e w4 ⟨rfl,hb4⟩;go_simp;replace hHeld:=y0G hHeld hb4;have HB4:=hid hb4;clear hb4;refine hK.out _ _ hHeld ?_;clear hK K)
  (try simp only[Act.put,List.setIfInBounds_toArray,List.set_cons_zero,List.set_cons_succ])
  first
   |(refine Qq (i:=16) (oi:=({dst:=some 21,op:=Op.unOp UnOp.not 4 (Operand.tmp 20),type:=4,pos:="ford.go:144",after:=#[{on:=15,ground:=Ground.data},{on:=7,ground:=Ground.guard}],guard:=some (7,false)}:Oper)) (v:=undef) rfl (by kernel_rfl) (by kernel_rfl) (by kernel_rfl) (fun _ _ _ h=>h) (Or.inr ⟨by rfl,rfl⟩) hHeld ?_)
   |(refine Qq (i:=16) (oi:=({dst:=some 21,op:=Op.unOp UnOp.not 4 (Operand.tmp 20),type:=4,pos:="ford.go:144",after:=#[{on:=15,ground:=Ground.data},{on:=7,ground:=Ground.guard}],guard:=some (7,false)}:Oper)) (v:= ?_) rfl (by kernel_rfl) (by kernel_rfl) (by kernel_rfl) (fun _ _ _ h=>h) (Or.inl ⟨by rfl,?_⟩) hHeld ?_;rotate_left;(intro w hSw;(try dsimp only at hSw);go_simp;(try with_reducible rfl));skip)
  (try simp only[Act.put,List.setIfInBounds_toArray,List.set_cons_zero,List.set_cons_succ])
  (refine Qq (i:=17) (oi:=({dst:=some 22,op:=Op.pick (Operand.tmp 12) (Operand.const (Value.bool true)) (Operand.tmp 21),type:=4,pos:="ford.go:144",after:=#[{on:=7,ground:=Ground.data},{on:=16,ground:=Ground.data}],guard:=none}:Oper)) (v:= ?_) rfl (by kernel_rfl) (by kernel_rfl) (by kernel_rfl) (fun _ _ _ h=>h) (Or.inl ⟨by rfl,?_⟩) hHeld ?_;rotate_left;(intro w hSw;(try dsimp only at hSw);go_simp;(try with_reducible rfl));skip)
  (try simp only[Act.put,List.setIfInBounds_toArray,List.set_cons_zero,List.set_cons_succ])
  refine⟨by kernel_rfl,?_⟩;clear hHeld HS0;have HG:=hid (HF.out _ HB4.out);clear HF;cases q with
  |false=>
   dsimp only[eI,Xb]at HG
   go_wp2_with fail
   go_ret;exact HG.out
  |true=>
   have e2:eI (Xb true (i+1))=(i:Int)+1:=rfl;rw[e2]at HG
   go_wp2_with fail
   go_ret;exact HG.out
end
end
end Go.Proofs.YtgmcjddjdidpjabGreatDoor
