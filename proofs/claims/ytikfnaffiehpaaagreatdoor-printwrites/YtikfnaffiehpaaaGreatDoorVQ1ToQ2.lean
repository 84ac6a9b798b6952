/- Lemmas for the last text. Conditions: those that each names. -/
import Derived.Test.YtikfnaffiehpaaaGreatDoorVP2ToX17
import Derived.WalkKit
import Derived.WalkLawsBesides
import Derived.Deep.QuietTactic
import Derived.BigQuiet
import Derived.BigRegion
import Derived.Deep.RegionHeld3
import Derived.ChangeKeysEq
import Derived.Lib.TrailingZeros
import Derived.Deep.RegionWith
set_option linter.unusedVariables false
set_option maxRecDepth 100000
set_option maxHeartbeats 4000000
namespace Go.Proofs.YtikfnaffiehpaaaGreatDoor
open Go.Proofs.Tryz
open Go.RowKit
variable {w w':World} {C R base g gb n:Nat} {v:Value} {xs:List Value}
theorem z1U(C D:Nat)(w:World):
  Calls prog 126 #[cv C,cv D] w fun e w'=>e=.returned (cv (C&&&D))/\Below w.heap.size w w':=by
 have b0:bits BinOp.and IntKind.u64 (wd C 0:Nat) (wd D 0:Nat)=(wd (C&&&D) 0:Nat):=by rw[Hj];exact Go.bits_and_u64_nat _ _ (Zm _ _) (Zm _ _)
 have b1:bits BinOp.and IntKind.u64 (wd C 1:Nat) (wd D 1:Nat)=(wd (C&&&D) 1:Nat):=by rw[Hj];exact Go.bits_and_u64_nat _ _ (Zm _ _) (Zm _ _)
 have b2:bits BinOp.and IntKind.u64 (wd C 2:Nat) (wd D 2:Nat)=(wd (C&&&D) 2:Nat):=by rw[Hj];exact Go.bits_and_u64_nat _ _ (Zm _ _) (Zm _ _)
 have b3:bits BinOp.and IntKind.u64 (wd C 3:Nat) (wd D 3:Nat)=(wd (C&&&D) 3:Nat):=by rw[Hj];exact Go.bits_and_u64_nat _ _ (Zm _ _) (Zm _ _)
 unfold cv;go_enter func126,ntmps126
 go_wp2
 refine wp_loop_rounds 5 ?_;rw[rounds_succ]
 go_wp2
 go_region
 go_wp2
 rw[rounds_succ]
 go_wp2
 go_region
 go_wp2
 rw[rounds_succ]
 go_wp2
 go_region
 go_wp2
 rw[rounds_succ]
 go_wp2
 go_region
 go_wp2
 rw[rounds_succ]
 go_wp2
 refine bodyPost_ret (v:=.agg #[.int .u64 (wd (C&&&D) 0:Nat),.int .u64 (wd (C&&&D) 1:Nat),.int .u64 (wd (C&&&D) 2:Nat),.int .u64 (wd (C&&&D) 3:Nat)]) (by simp[results,Tryz.results126,go_sem]) rfl ⟨rfl,?_⟩;exact(((B0q.alloc L0q _).alloc (by simp) _).alloc (by simp;omega) _).drew.drew.drew.drew
def Cl(w:World)(g C:Nat):Prop:=w.cell? ⟨g,0,none⟩=some (.int .u64 (wd C 0))/\w.cell? ⟨g,1,none⟩=some (.int .u64 (wd C 1))/\w.cell? ⟨g,2,none⟩=some (.int .u64 (wd C 2))/\w.cell? ⟨g,3,none⟩=some (.int .u64 (wd C 3))
theorem Cl.lt(h:Cl w g C):g<w.heap.size:=World.block_lt_of_cell? w _ h.1
theorem Cl.below(h:Cl w g C)(hb:Below w.heap.size w w'):Cl w' g C:=by
 have hl:=h.lt;unfold Cl at*;rw[hb.cell (p:=⟨g,0,none⟩) hl,hb.cell (p:=⟨g,1,none⟩) hl,hb.cell (p:=⟨g,2,none⟩) hl,hb.cell (p:=⟨g,3,none⟩) hl];exact h
theorem Cl.alloc{w:World}{g C:Nat}(h:Cl w g C)(o:Obj):Cl (w.alloc o) g C:=h.below (B0q.alloc L0q _)
theorem Cl.new(w:World)(C:Nat){n:Nat}(hn:n=w.heap.size):Cl (w.alloc (.cells #[.int .u64 (wd C 0),.int .u64 (wd C 1),.int .u64 (wd C 2),.int .u64 (wd C 3)] 27)) n C:=by subst hn;exact(Blk.new w C).cells
theorem Cl.st4{w:World}{g g' C:Nat}(h:Cl w g C)(hne:g≠g')(D:Nat):Cl (st4 w g' D) g C:=by
 have e:(Proofs.YtikfnaffiehpaaaGreatDoor.st4 w g' D).heap[g]? =w.heap[g]? :=by
  unfold Proofs.YtikfnaffiehpaaaGreatDoor.st4;rw[Below.heap_setCell _ _ _ _ hne,Below.heap_setCell _ _ _ _ hne,Below.heap_setCell _ _ _ _ hne,Below.heap_setCell _ _ _ _ hne]
 have c:∀k,(Proofs.YtikfnaffiehpaaaGreatDoor.st4 w g' D).cell? ⟨g,k,none⟩=w.cell? ⟨g,k,none⟩:=fun k=>by simp only[World.cell?];rw[e]
 unfold Cl at*;rw[c,c,c,c];exact h
theorem Tryz.cellsOfK:Tryz.prog.cellsOf 25=1:=by kernel_rfl
theorem Tryz.infoK:(Tryz.prog.info? 25).map (fun i=>(i.zero,i.size,i.bytes))=some (some (.int .u64 0),1,8):=by kernel_rfl
theorem z7g(w:World)(a b c d a' b' c' d':Int):
  (Op.equalIn 10000 27 (.agg #[.int .u64 a,.int .u64 b,.int .u64 c,.int .u64 d]) (.agg #[.int .u64 a',.int .u64 b',.int .u64 c',.int .u64 d'])).run prog w=.ok (a == a'&&(b == b'&&(c == c'&&d == d'))) w:=by
 obtain⟨i,hi⟩:∃i,Tryz.prog.info? 25=some i:=by
  cases h:Tryz.prog.info? 25 with
  |none=>have:=Tryz.infoK;rw[h]at this;cases this
  |some i=>exact⟨i,rfl⟩
 have hu:Tryz.prog.underlying 27=some (.array 4 25):=by kernel_rfl
 rw[run_equalIn_array w 9999 _ _ hu hi,Tryz.cellsOfK];have p:∀(x y z t:Value) (w:World),(part 25 #[x,y,z,t] 0).run prog w=.ok x w:=fun _ _ _ _ _=>by kernel_rfl
 have p1:∀(x y z t:Value) (w:World),(part 25 #[x,y,z,t] 1).run prog w=.ok y w:=fun _ _ _ _ _=>by kernel_rfl
 have p2:∀(x y z t:Value) (w:World),(part 25 #[x,y,z,t] 2).run prog w=.ok z w:=fun _ _ _ _ _=>by kernel_rfl
 have p3:∀(x y z t:Value) (w:World),(part 25 #[x,y,z,t] 3).run prog w=.ok t w:=fun _ _ _ _ _=>by kernel_rfl
 have e:∀(x y:Int) (w:World),(Op.equalIn 9999 25 (.int .u64 x) (.int .u64 y)).run prog w=.ok (x == y) w:=fun x y w=>run_equalIn_int w 9998 25 .u64 .u64 x y Tryz.underlying25
 rw[show List.range 4=[0,1,2,3]from rfl];simp only[Op.eqItems,Sem.run_bind,Nat.mul_one,p,e,Result.andThen_ok];cases h1:a == a'<;>cases h2:b == b'<;>cases h3:c == c'<;>cases h4:d == d'<;>simp[Result.andThen,p1,p2,p3,e,h2,h3,h4,-beq_iff_eq,-beq_eq_false_iff_ne]
theorem z7h(C D:Nat)(hC:C<2^256)(hD:D<2^256)(w:World):
  (Op.equalIn 10000 27 (.agg #[.int .u64 (wd C 0),.int .u64 (wd C 1),.int .u64 (wd C 2),.int .u64 (wd C 3)]) (.agg #[.int .u64 (wd D 0),.int .u64 (wd D 1),.int .u64 (wd D 2),.int .u64 (wd D 3)])).run prog w=.ok (decide (C=D)) w:=by
 rw[z7g];congr 1;by_cases h:C=D
 ·subst h;simp
 ·rw[decide_eq_false h]
  cases h0:((wd C 0:Nat):Int) == (wd D 0:Nat)<;>cases h1:((wd C 1:Nat):Int) == (wd D 1:Nat)<;>cases h2:((wd C 2:Nat):Int) == (wd D 2:Nat)<;>cases h3:((wd C 3:Nat):Int) == (wd D 3:Nat)<;>try rfl
  simp at h0 h1 h2 h3;exact absurd (z0C C D hC hD (by omega) (by omega) (by omega) (by omega)) h
def TabIs(w:World):Prop:=∀j,j<64->w.cell? ⟨2,j,none⟩=some (.int .u8 ((Lib.deBruijn64tab.getD j 0:Nat):Int))
theorem TabIs.lt(h:TabIs w):2<w.heap.size:=World.block_lt_of_cell? w _ (h 0 (by omega))
theorem TabIs.below{B:Nat}(h:TabIs w)(hb:Below B w w')(hB:2<B):TabIs w':=fun j hj=>(hb.cell (p:=⟨2,j,none⟩) hB).trans (h j hj)
theorem TabIs.alloc{w:World}(h:TabIs w)(o:Obj):TabIs (w.alloc o):=h.below (B0q.alloc L0q o) h.lt
theorem z7i(x a:Nat)(hx:x<18446744073709551616)(hx0:x≠0)(hlow:x&&&(18446744073709551616-x)=a):
  IntKind.u64.wrap (bits BinOp.and IntKind.u64 (x:Int) (IntKind.u64.wrap (-(x:Int)))*285870213051353865)/288230376151711744=((a*285870213051353865%18446744073709551616/288230376151711744:Nat):Int):=by
 have e1:IntKind.u64.wrap (-(x:Int))=((18446744073709551616-x:Nat):Int):=by rw[IntKind.wrap_u64];omega
 rw[e1,Go.bits_and_u64_nat x _ hx (by omega),hlow,IntKind.wrap_u64];omega
theorem z7j(x k idx:Nat)(w:World)(hx0:((x:Int) == 0)=false)
  (key:IntKind.u64.wrap (bits BinOp.and IntKind.u64 (x:Int) (IntKind.u64.wrap (-(x:Int)))*285870213051353865)/288230376151711744=(idx:Int))
  (hi:idx<64)(hk:k<64)(hcell:w.cell? ⟨2,idx,none⟩=some (.int .u8 k)):
  Calls prog 138 #[.int .u64 x] w fun e w'=>e=.returned (.int .i64 k)/\w'=w:=by
 go_enter func138,ntmps138
 go_wp2_with(simp only[key])
 go_ret;exact⟨rfl,rfl⟩
theorem Lk(x:Nat)(w:World)(hx:x<18446744073709551616)(hx0:x≠0)(hT:TabIs w):
  Calls prog 138 #[.int .u64 x] w fun e w'=>e=.returned (.int .i64 ((Lib.ctz 64 x:Nat):Int))/\w'=w:=by
 obtain⟨hlow,hk⟩:=Lib.lowest_bit 64 x hx0 hx;obtain⟨hi,htab⟩:=Lib.deBruijn64_at _ hk;have hcell:=hT _ hi;rw[htab]at hcell;exact z7j x _ _ w (by simp;omega) (z7i x _ hx hx0 hlow) hi hk hcell
theorem Cp(x:Nat)(hx:x<18446744073709551616)(hx0:x≠0):Lib.ctz 64 x<64/\x.testBit (Lib.ctz 64 x)=true/\∀j,j<Lib.ctz 64 x->x.testBit j=false:=by
 obtain⟨m,hm,hk⟩:=Lib.ctzFrom_spec 64 x (by omega) hx;have e:Lib.ctz 64 x=Lib.ctzFrom 64 x:=by simp[Lib.ctz,hx0]
 rw[<-e]at hm hk;obtain⟨k,hkd⟩:∃k,k=Lib.ctz 64 x:=⟨_,rfl⟩;rw[<-hkd]at hm hk ⊢;clear hkd e;refine⟨hk,?_,fun j hj=> ?_⟩
 ·rw[hm,Nat.testBit_two_pow_mul]
  simp
 ·rw[hm,Nat.testBit_two_pow_mul]
  simp;omega
def Km(C n:Nat):Prop:=n<256/\C.testBit n=true/\∀j,j<n->C.testBit j=false
def z1V(C n:Nat):Prop:=(C=0/\n=256)∨Km C n
theorem Lv(C i:Nat)(hi:i<4)(hz:∀q,q<i->wd C q=0)(hn:wd C i≠0):Km C (64*i+Lib.ctz 64 (wd C i)):=by
 obtain⟨h1,h2,h3⟩:=Cp (wd C i) (Zm C i) hn;refine⟨by omega,?_,fun j hj=> ?_⟩
 ·rw[Vj]at h2
  simpa [h1]using h2
 ·by_cases hq:j/64<i
  ·have:=Vj C (j/64) (j%64)
   rw[hz _ hq,Nat.zero_testBit,show 64*(j/64)+j%64=j by omega]at this;simpa [show j%64<64 by omega]using this.symm
  ·have e:j=64*i+j%64:=by omega
   have:=h3 (j%64) (by omega);rw[Vj,<-e]at this;simpa [show j%64<64 by omega]using this
theorem z1W(C:Nat)(w:World)(hC:C<2^256)(hT:TabIs w):
  Calls prog 125 #[cv C] w fun e w'=>(∃n:Nat,e=.returned (.int .i64 n)/\z1V C n)/\Below w.heap.size w w':=by
 have HT:Hid (TabIs w):=hT;clear hT;have i0:∀w:World,(Instr.index 27 (.agg #[.int .u64 (wd C 0),.int .u64 (wd C 1),.int .u64 (wd C 2),.int .u64 (wd C 3)]) (.int .i64 0)).run prog w=.ok (.int .u64 (wd C 0)) w:=fun _=>by kernel_rfl
 have i1:∀w:World,(Instr.index 27 (.agg #[.int .u64 (wd C 0),.int .u64 (wd C 1),.int .u64 (wd C 2),.int .u64 (wd C 3)]) (.int .i64 1)).run prog w=.ok (.int .u64 (wd C 1)) w:=fun _=>by kernel_rfl
 have i2:∀w:World,(Instr.index 27 (.agg #[.int .u64 (wd C 0),.int .u64 (wd C 1),.int .u64 (wd C 2),.int .u64 (wd C 3)]) (.int .i64 2)).run prog w=.ok (.int .u64 (wd C 2)) w:=fun _=>by kernel_rfl
 have i3:∀w:World,(Instr.index 27 (.agg #[.int .u64 (wd C 0),.int .u64 (wd C 1),.int .u64 (wd C 2),.int .u64 (wd C 3)]) (.int .i64 3)).run prog w=.ok (.int .u64 (wd C 3)) w:=fun _=>by kernel_rfl
 by_cases z0:wd C 0=0
 ·have b0:((wd C 0:Int) == 0)=true:=by simp;omega
  by_cases z1:wd C 1=0
  ·have b1:((wd C 1:Int) == 0)=true:=by simp;omega
   by_cases z2:wd C 2=0
   ·have b2:((wd C 2:Int) == 0)=true:=by simp;omega
    by_cases z3:wd C 3=0
    ·have b3:((wd C 3:Int) == 0)=true:=by simp;omega
     have HZ:Hid (C=0):=z0C C 0 hC (by decide+kernel) (by rw[z0];decide+kernel) (by rw[z1];decide+kernel) (by rw[z2];decide+kernel) (by rw[z3];decide+kernel);clear z0 z1 z2 z3;go_enter func125,ntmps125
     go_wp2_with fail
     refine wp_loop_rounds 5 ?_;rw[rounds_succ]
     go_wp2_with fail
     rw[rounds_succ]
     go_wp2_with fail
     rw[rounds_succ]
     go_wp2_with fail
     rw[rounds_succ]
     go_wp2_with fail
     rw[rounds_succ]
     go_wp2_with fail
     go_ret;exact⟨⟨256,rfl,.inl ⟨HZ.out,rfl⟩⟩,B0q.alloc L0q _⟩
    ·have b3:((wd C 3:Int) == 0)=false:=by simp;omega
     have HL:Hid (Km C (64*3+Lib.ctz 64 (wd C 3))):=Lv C 3 (by omega) (fun q hq=>by have:q=0∨q=1∨q=2:=(by omega);rcases this with rfl|rfl|rfl<;>assumption) z3;have hk:=(Cp (wd C 3) (Zm C 3) z3).1;clear z0;clear z1;clear z2;have Z:Hid (wd C 3≠0):=z3;clear z3;go_enter func125,ntmps125
     go_wp2_with fail
     refine wp_loop_rounds 4 ?_;rw[rounds_succ]
     go_wp2_with fail
     rw[rounds_succ]
     go_wp2_with fail
     rw[rounds_succ]
     go_wp2_with fail
     rw[rounds_succ]
     go_wp2_with fail
     refine(Lk _ _ (Zm C 3) Z.out (HT.out.alloc _)).mono ?_;rintro e w1 ⟨rfl,rfl⟩
     go_wp2_with fail
     go_ret;exact⟨⟨_,congrArg (fun n=>Ending.returned (Value.int .i64 n)) (by first|rfl|(push_cast;omega)),.inr HL.out⟩,B0q.alloc L0q _⟩
   ·have b2:((wd C 2:Int) == 0)=false:=by simp;omega
    have HL:Hid (Km C (64*2+Lib.ctz 64 (wd C 2))):=Lv C 2 (by omega) (fun q hq=>by have:q=0∨q=1:=(by omega);rcases this with rfl|rfl<;>assumption) z2;have hk:=(Cp (wd C 2) (Zm C 2) z2).1;clear z0;clear z1;have Z:Hid (wd C 2≠0):=z2;clear z2;go_enter func125,ntmps125
    go_wp2_with fail
    refine wp_loop_rounds 3 ?_;rw[rounds_succ]
    go_wp2_with fail
    rw[rounds_succ]
    go_wp2_with fail
    rw[rounds_succ]
    go_wp2_with fail
    refine(Lk _ _ (Zm C 2) Z.out (HT.out.alloc _)).mono ?_;rintro e w1 ⟨rfl,rfl⟩
    go_wp2_with fail
    go_ret;exact⟨⟨_,congrArg (fun n=>Ending.returned (Value.int .i64 n)) (by first|rfl|(push_cast;omega)),.inr HL.out⟩,B0q.alloc L0q _⟩
  ·have b1:((wd C 1:Int) == 0)=false:=by simp;omega
   have HL:Hid (Km C (64*1+Lib.ctz 64 (wd C 1))):=Lv C 1 (by omega) (fun q hq=>by obtain rfl:q=0:=(by omega);assumption) z1;have hk:=(Cp (wd C 1) (Zm C 1) z1).1;clear z0;have Z:Hid (wd C 1≠0):=z1;clear z1;go_enter func125,ntmps125
   go_wp2_with fail
   refine wp_loop_rounds 2 ?_;rw[rounds_succ]
   go_wp2_with fail
   rw[rounds_succ]
   go_wp2_with fail
   refine(Lk _ _ (Zm C 1) Z.out (HT.out.alloc _)).mono ?_;rintro e w1 ⟨rfl,rfl⟩
   go_wp2_with fail
   go_ret;exact⟨⟨_,congrArg (fun n=>Ending.returned (Value.int .i64 n)) (by first|rfl|(push_cast;omega)),.inr HL.out⟩,B0q.alloc L0q _⟩
 ·have b0:((wd C 0:Int) == 0)=false:=by simp;omega
  have HL:Hid (Km C (64*0+Lib.ctz 64 (wd C 0))):=Lv C 0 (by omega) (fun q hq=>by omega) z0;have hk:=(Cp (wd C 0) (Zm C 0) z0).1;have Z:Hid (wd C 0≠0):=z0;clear z0;go_enter func125,ntmps125
  go_wp2_with fail
  refine wp_loop_rounds 1 ?_;rw[rounds_succ]
  go_wp2_with fail
  refine(Lk _ _ (Zm C 0) Z.out (HT.out.alloc _)).mono ?_;rintro e w1 ⟨rfl,rfl⟩
  go_wp2_with fail
  go_ret;exact⟨⟨_,congrArg (fun n=>Ending.returned (Value.int .i64 n)) (by first|rfl|(push_cast;omega)),.inr HL.out⟩,B0q.alloc L0q _⟩
def rs(C:Nat):Nat->List (Nat×Nat)
 |0=>[]
 |b+1=>if C.testBit b then(match rs C b with
   |[]=>[(b,b)]
   |p::t=>if p.2+1=b then(p.1,b)::t else(b,b)::p::t)else rs C b
theorem Sc(C a:Nat):∀b,a<=b->(∀j,a<=j->j<b->C.testBit j=false)->rs C b=rs C a
 |0,h,_=>by rw[Nat.le_zero.1 h]
 |b+1,h,hz=>by
  by_cases e:a=b+1
  ·subst e;rfl
  ·rw[rs,hz b (by omega) (by omega)]
   simpa using Sc C a b (by omega) (fun j h1 h2=>hz j h1 (by omega))
theorem Fc(C:Nat):∀b p,p∈rs C b->p.1<=p.2/\p.2<b
 |0,p,h=>by simp[rs]at h
 |b+1,p,h=>by
  rw[rs]at h;split at h
  ·split at h
   ·simp at h;subst h;simp
   ·rename_i q t hq
    have ih:=Fc C b;rw[hq]at ih;split at h
    ·rename_i hb
     rcases List.mem_cons.1 h with rfl|h
     ·have:=ih q (List.mem_cons_self ..)
      simp;omega
     ·have:=ih p (List.mem_cons_of_mem _ h)
      omega
    ·rcases List.mem_cons.1 h with rfl|h
     ·simp
     ·have:=ih p h
      omega
  ·have:=Fc C b p h
   omega
theorem z1X(C lo:Nat)(hne:∀p t,rs C lo=p::t->p.2+1≠lo):∀n,(∀j,lo<=j->j<=lo+n->C.testBit j=true)->rs C (lo+n+1)=(lo,lo+n)::rs C lo
 |0,h=>by
  rw[Nat.add_zero,rs,h lo L0q (by omega),if_pos rfl];split
  ·rename_i e;rw[e];rfl
  ·rename_i p t e
   rw[if_neg (hne p t e),e];rfl
 |n+1,h=>by
  have ih:=z1X C lo hne n (fun j h1 h2=>h j h1 (by omega));rw[show lo+(n+1)+1=(lo+n+1)+1 by omega,rs,h (lo+n+1) (by omega) (by omega),if_pos rfl,ih];simp[Nat.add_assoc]
def y3e:List (Nat×Nat)->Prop
 |[]=>True
 |[p]=>p.1<=p.2
 |p::q::t=>p.1<=p.2/\q.2+1<p.1/\y3e (q::t)
theorem z7k(C:Nat):∀b,y3e (rs C b)
 |0=>trivial
 |b+1=>by
  have ih:=z7k C b;have lt:=Fc C b;rw[rs];split
  ·split
   ·exact Nat.le_refl b
   ·rename_i q t hq
    rw[hq]at ih lt;have hq2:=lt q (List.mem_cons_self ..);split
    ·rename_i hb
     match t,ih with
     |[],ih=>simp only[y3e]at ih ⊢;omega
     |r::t,ih=>simp only[y3e]at ih ⊢;exact⟨by omega,ih.2.1,ih.2.2⟩
    ·exact⟨Nat.le_refl b,by omega,ih⟩
  ·exact ih
def un:List (Nat×Nat)->Nat
 |[]=>0
 |p::t=>un t|||seg p.1 (p.2+1)
theorem z7l(C b:Nat):C%2^(b+1)=if C.testBit b then C%2^b|||2^b else C%2^b:=by
 apply Nat.eq_of_testBit_eq;intro j;split
 ·rename_i h
  rw[Nat.testBit_or,Nat.testBit_mod_two_pow,Nat.testBit_mod_two_pow,Nat.testBit_two_pow];by_cases h1:b=j
  ·subst h1;simp[h]
  ·by_cases h2:j<b
   ·simp[h1,h2,show j<b+1 by omega]
   ·simp[h1,h2,show ¬j<b+1 by omega]
 ·rename_i h
  rw[Nat.testBit_mod_two_pow,Nat.testBit_mod_two_pow];by_cases h1:b=j
  ·subst h1;simp[h]
  ·by_cases h2:j<b
   ·simp[h2,show j<b+1 by omega]
   ·simp[h2,show ¬j<b+1 by omega]
theorem z1Y(C:Nat):∀b,un (rs C b)=C%2^b
 |0=>by simp[rs,un,Nat.mod_one]
 |b+1=>by
  have ih:=z1Y C b;have lt:=Fc C b;rw[z7l,rs];split
  ·split
   ·rename_i hq
    rw[hq]at ih;rw[<-ih];simp only[un];rw[Nat.zero_or,Nat.zero_or,Ky b b L0q,Dk,Nat.zero_or]
   ·rename_i q t hq
    rw[hq]at ih lt;have hq2:=lt q (List.mem_cons_self ..);split
    ·rename_i hb
     rw[un,<-ih,un,Ky q.1 b (by omega),<-hb,Nat.or_assoc]
    ·rw[un,ih,Ky b b L0q,Dk,Nat.zero_or]
  ·exact ih
theorem z7m(C:Nat)(hC:C<2^256):un (rs C 256)=C:=by rw[z1Y,Nat.mod_eq_of_lt hC]
theorem z7n(C R g lo gap:Nat)(hR:∀j,R.testBit j=(decide (g<=j)&&C.testBit j))(hg:g=0∨C.testBit g=false)(hl:R.testBit lo=true)(hlm:∀j,j<lo->R.testBit j=false)
  (hgap:lo<gap)(hb:∀j,lo<=j->j<gap->C.testBit j=true):rs C gap=(lo,gap-1)::rs C g:=by
 have h1:=hR lo;rw[hl]at h1;simp at h1;have e:rs C lo=rs C g:=Sc C g lo h1.1 (fun j h2 h3=>by
  have:=hR j;rw[hlm j h3]at this;simpa [h2]using this.symm)
 have hne:∀p t,rs C lo=p::t->p.2+1≠lo:=by
  intro p t hp;rw[e]at hp;have hlt:=Fc C g p (by rw[hp];exact List.mem_cons_self ..);rcases hg with rfl|hg
  ·simp[rs]at hp
  ·have:lo≠g:=fun h=>by subst h;rw[hg]at h1;simp at h1
   omega
 have h2:=z1X C lo hne (gap-1-lo) (fun j h3 h4=>hb j h3 (by omega));rw[show lo+(gap-1-lo)+1=gap by omega,show lo+(gap-1-lo)=gap-1 by omega]at h2;rw[h2,e]
theorem Mx(C:Nat):∀b,(rs C b).length<=b
 |0=>by simp[rs]
 |b+1=>by
  have:=Mx C b;rw[rs];split
  ·split
   ·simp
   ·rename_i q t hq
    rw[hq]at this;simp at this;split<;>simp<;>omega
  ·omega
def pv:List (Nat×Nat)->List Value
 |[]=>[]
 |p::t=>.int .i64 (p.1:Int):: .int .i64 (p.2:Int)::pv t
theorem Am:∀(a b:List (Nat×Nat)),pv (a++b)=pv a++pv b
 |[],b=>rfl
 |p::t,b=>by simp only[List.cons_append,pv,Am t b]
theorem Sl:∀(a:List (Nat×Nat)),(pv a).length=a.length*2
 |[]=>rfl
 |p::t=>by simp only[pv,List.length_cons,Sl t];omega
def Jf(C R g:Nat):Prop:=g<=256/\(∀j,R.testBit j=(decide (g<=j)&&C.testBit j))/\(g=0∨C.testBit g=false)
theorem Jf.start(C:Nat):Jf C C 0:=⟨by omega,fun j=>by simp,.inl rfl⟩
theorem Jf.lt(h:Jf C R g)(hC:C<2^256):R<2^256:=by
 apply Nat.lt_pow_two_of_testBit;intro j hj;rw[h.2.1 j,Nat.testBit_lt_two_pow (Nat.lt_of_lt_of_le hC (Nat.pow_le_pow_right (by decide) hj))];simp
theorem Jf.done(h:Jf C 0 g):rs C 256=rs C g:=Sc C g 256 h.1 (fun j h1 _=>by
 have:=h.2.1 j;rw[Nat.zero_testBit]at this;simpa [h1]using this.symm)
theorem Jf.step{lo gap:Nat}(h:Jf C R g)(hC:C<2^256)(hl:Km R lo)(hg:z1V (Zz R&&&seg lo 256) gap):
  lo<gap/\gap<=256/\rs C gap=(lo,gap-1)::rs C g/\Jf C (R&&&Zz (seg lo gap)) gap:=by
 have hR:=h.lt hC;have hx:∀j,(Zz R&&&seg lo 256).testBit j=(decide (j<256)&&decide (lo<=j)&& !R.testBit j):=by
  intro j;rw[Nat.testBit_and,Hw R hR,Nv];cases decide (j<256)<;>cases decide (lo<=j)<;>cases R.testBit j<;>rfl
 obtain⟨l1,l2,l3⟩:=hl;have key:lo<gap/\gap<=256/\(∀j,lo<=j->j<gap->R.testBit j=true)/\R.testBit gap=false:=by
  rcases hg with⟨h0,rfl⟩|⟨g1,g2,g3⟩
  ·refine⟨l1,Nat.le_refl _,fun j h1 h2=> ?_,?_⟩
   ·have:=hx j
    rw[h0,Nat.zero_testBit]at this;simpa [h1,h2]using this.symm
   ·rw[Nat.testBit_lt_two_pow hR]
  ·have e2:=hx gap
   rw[g2]at e2;simp at e2;have hlg:lo≠gap:=fun e=>by rw[<-e]at e2;rw[l2]at e2;simp at e2
   refine⟨by omega,by omega,fun j h1 h2=> ?_,e2.2⟩;have:=hx j;rw[g3 j h2]at this;simpa [h1,show j<256 by omega]using this.symm
 obtain⟨k1,k2,k3,k4⟩:=key;have hgl:g<=lo:=by
  have:=h.2.1 lo;rw[l2]at this;simp at this;exact this.1
 have kC:∀j,lo<=j->j<gap->C.testBit j=true:=fun j h1 h2=>by
  have:=h.2.1 j;rw[k3 j h1 h2]at this;simp at this;exact this.2
 refine⟨k1,k2,z7n C R g lo gap h.2.1 h.2.2 l2 l3 k1 kC,k2,fun j=> ?_,.inr ?_⟩
 ·rw[Nat.testBit_and,Hw _ (Bf lo gap k2),Nv]
  by_cases h1:gap<=j
  ·have e:=h.2.1 j
   rw[e];by_cases h2:j<256
   ·simp[h1,h2,show ¬j<gap by omega,show g<=j by omega]
   ·rw[Nat.testBit_lt_two_pow (Nat.lt_of_lt_of_le hC (Nat.pow_le_pow_right (by decide) (by omega)))]
    simp
  ·by_cases h2:lo<=j
   ·simp[h1,h2,show j<gap by omega]
   ·rw[l3 j (by omega)]
    simp[h1]
 ·have:=h.2.1 gap
  rw[k4]at this;simpa [show g<=gap by omega]using this.symm
theorem Blk.ne_own(h:Blk w gb R)(ho:w.ownsRow base 114 2 v n xs):some gb≠v.ownBlock:=by
 obtain⟨_,ho|⟨g,cap,cur,rfl,_,hh,_⟩⟩:=ho
 ·rw[ho.1];simp[Value.ownBlock]
 ·intro e
  simp[Value.ownBlock]at e;subst e;unfold Blk at h;rw[h]at hh;simp at hh
theorem z7o{D:Nat}(h:Blk w gb R)(ho:w.ownsRow base 114 2 v n xs):(st4 w gb D).ownsRow base 114 2 v n xs:=
 ho.kept (row:=some gb) ⟨rfl,rfl,rfl,by rw[Ph];exact Nat.le_refl _,fun j hj hne=>by
  have hne':j≠gb:=fun e=>hne (by rw[e])
  unfold st4;rw[Below.heap_setCell _ _ _ _ hne',Below.heap_setCell _ _ _ _ hne',Below.heap_setCell _ _ _ _ hne',Below.heap_setCell _ _ _ _ hne']⟩ (.inr (Ne.symm (h.ne_own ho)))
def Vq(w:World)(v:Value)(n gb R:Nat)(xs:List Value)(w':World):Prop:=
 Hid (Below w.heap.size w w')/\Hid (w'.ownsRow w.heap.size 114 2 v n xs)/\Hid (Blk w' gb R)
theorem Vq.keep{W:World}(hb:Below W.heap.size W w')(h:Vq w v n gb R xs W):Vq w v n gb R xs w':=
 ⟨h.1.out.trans (hb.mono h.1.out.size),h.2.1.out.kept (row:=none) ⟨hb.os,hb.tape,hb.output,hb.size,fun j hj _=>hb.block j hj⟩ (by cases hq:v.ownBlock<;>simp),h.2.2.out.below hb h.2.2.out.lt⟩
theorem Vq.cells{w w':World}{v:Value}{n gb R:Nat}{xs:List Value}(h:Vq w v n gb R xs w'):
  w'.cell? ⟨gb,0,none⟩=some (.int .u64 (wd R 0))/\w'.cell? ⟨gb,1,none⟩=some (.int .u64 (wd R 1))/\w'.cell? ⟨gb,2,none⟩=some (.int .u64 (wd R 2))/\w'.cell? ⟨gb,3,none⟩=some (.int .u64 (wd R 3))/\
  w'.frozen? ⟨gb,0,none⟩=false/\w'.frozen? ⟨gb,1,none⟩=false/\w'.frozen? ⟨gb,2,none⟩=false/\w'.frozen? ⟨gb,3,none⟩=false/\gb<w'.heap.size:=
 have c:=h.2.2.out.cells;have t:=h.2.2.out.thaw
 ⟨c.1,c.2.1,c.2.2.1,c.2.2.2,t.1,t.2.1,t.2.2.1,t.2.2.2,h.2.2.out.lt⟩
theorem z7p(R:Nat)(hR:R<2^256)(w:World):(Op.equalIn 10000 27 (.agg #[.int .u64 (wd R 0),.int .u64 (wd R 1),.int .u64 (wd R 2),.int .u64 (wd R 3)]) (.agg #[.int .u64 0,.int .u64 0,.int .u64 0,.int .u64 0])).run prog w=.ok (decide (R=0)) w:=by
 have h:=z7h R 0 hR (by decide+kernel) w;simpa [Yz]using h
theorem Tryz.infoPair:(Tryz.prog.info? 114).map (fun i=>(i.zero,i.size,i.bytes))=some (some (.agg #[.int .i64 0,.int .i64 0]),2,16):=by kernel_rfl
def Tz:Value->Nat
 | .slice _ n _=>n
 |_=>0
theorem z1Z{e size:Nat}(h:w.ownsRow base e size v n xs):Tz v=n:=by
 obtain⟨_,h|⟨g,cap,cur,rfl,_⟩⟩:=h
 ·rw[h.1,h.2];rfl
 ·rfl
theorem Tj(a b:Int):∀u∈[Value.int .i64 a,Value.int .i64 b],u.oneCell'=true:=by
 intro u hu;simp at hu;rcases hu with rfl|rfl<;>rfl
theorem z7q(C:Nat)(w:World)(hC:C<2^256)(hT:TabIs w):
  Calls prog 104 #[cv C] w fun e w'=>∃v,e=.returned v/\Hid (w'.ownsRow w.heap.size 114 2 v (rs C 256).length (pv (rs C 256).reverse))/\Hid (Below w.heap.size w w'):=by
 obtain⟨iP,hiP,hzP0,hzP1,hzP2⟩:=info_parts Tryz.infoPair;have HT:Hid (TabIs w):=hT;clear hT;unfold cv;go_enter func104,ntmps104
 go_wp2_with fail
 go_loopw [3,4] (fun v p wr=>∃g R gb:Nat,p=.pointer (some ⟨gb,0,none⟩)/\w.heap.size<=gb/\Hid (Jf C R g)/\Hid (Vq w v (rs C g).length gb R (pv (rs C g).reverse) wr)) (fun v _ _=>256-Tz v)
 case atStart=>
  refine⟨0,C,w.heap.size+1,rfl,by omega,hid (Jf.start C),hid ⟨hid ((B0q.alloc L0q _).alloc (by simp) _),hid (World.ownsRow_nil _ _ _ _),hid ?_⟩⟩;simpa using Blk.new (w.alloc (.cells #[.int .u64 (wd C 0),.int .u64 (wd C 1),.int .u64 (wd C 2),.int .u64 (wd C 3)] 27)) C
 case round=>
  obtain⟨g,R,gb,rfl,hgb,HL,HI⟩:=hrel;have hR:R<2^256:=HL.out.lt hC;have heq:=z7p R hR;obtain⟨c0,c1,c2,c3,f0,f1,f2,f3,hl⟩:=HI.out.cells;by_cases hz:R=0
  ·rw[decide_eq_true hz]at heq
   have HZ:Hid (R=0):=hz;clear hz
   go_wp2_with fail
   go_ret;have hL:=HL.out;rw[HZ.out]at hL;rw[hL.done];exact⟨_,rfl,HI.out.2.1,HI.out.1⟩
  ·rw[decide_eq_false hz]at heq
   have HZ:Hid (R≠0):=hz;clear hz
   go_wp2_with fail
   refine(z1W R _ hR (HT.out.below HI.out.1.out HT.out.lt)).mono ?_;rintro e w1 ⟨⟨lo,rfl,hlo⟩,hb1⟩;have HLo:Hid (Km R lo):=by
    rcases hlo with⟨h0,_⟩|h0
    ·exact absurd h0 HZ.out
    ·exact h0
   have hlo2:lo<256:=HLo.out.1;have HI1:Hid (Vq w u3 (rs C g).length gb R (pv (rs C g).reverse) w1):=HI.out.keep hb1;clear hlo hb1 HI c0 c1 c2 c3 f0 f1 f2 f3 hl heq HZ;obtain⟨c0,c1,c2,c3,f0,f1,f2,f3,hl⟩:=HI1.out.cells;have HSp:Hid (∀w:World,Calls prog 127 #[.int .i64 lo,.int .i64 255] w fun e w'=>e=.returned (cv (seg lo 256))/\Below w.heap.size w w'):=fun w=>Hg lo 255 w (by omega) (by omega)
   go_wp2_with fail
   refine(Pf _ hR _).mono ?_;rintro e w2 ⟨rfl,hb2⟩;have HI2:Hid (Vq w u3 (rs C g).length gb R (pv (rs C g).reverse) w2):=HI1.out.keep hb2;clear hb2 HI1 c0 c1 c2 c3 f0 f1 f2 f3 hl;dsimp only[cv]
   go_wp2_with fail
   refine(HSp.out _).mono ?_;rintro e w3 ⟨rfl,hb3⟩;have HI3:Hid (Vq w u3 (rs C g).length gb R (pv (rs C g).reverse) w3):=HI2.out.keep hb3;clear hb3 HI2;dsimp only[cv]
   go_wp2_with fail
   refine(z1U _ _ _).mono ?_;rintro e w4 ⟨rfl,hb4⟩;have HI4:Hid (Vq w u3 (rs C g).length gb R (pv (rs C g).reverse) w4):=HI3.out.keep hb4;clear hb4 HI3;dsimp only[cv]
   go_wp2_with fail
   refine(z1W _ _ (Nat.and_lt_two_pow _ (Bf lo 256 L0q)) (HT.out.below HI4.out.1.out HT.out.lt)).mono ?_;rintro e w5 ⟨⟨gap,rfl,hgap⟩,hb5⟩;obtain⟨k1,k2,k3,k4⟩:=HL.out.step hC HLo.out hgap;obtain⟨hi,rfl⟩:∃hi,gap=hi+1:=⟨gap-1,by omega⟩;have HRs:Hid (rs C (hi+1)=(lo,hi)::rs C g):=k3;have HL2:Hid (Jf C (R&&&Zz (seg lo (hi+1))) (hi+1)):=k4;have HI5:Hid (Vq w u3 (rs C g).length gb R (pv (rs C g).reverse) w5):=HI4.out.keep hb5;have hlen:=Mx C g;have hg6:=HL.out.1;clear hb5 HI4 hgap k3 k4
   go_wp2_with(first
    |(at_builtin;refine wpList_append_own _ rfl (.tmp 19) (.tmp 24) 112 rfl w.heap.size 114 iP (.agg #[.int .i64 0,.int .i64 0]) 2 16 Tryz.underlying112 hiP hzP0 hzP1 hzP2 rfl (by decide) _ _ _ rfl (HI5.out.2.1.out.alloc _) ⟨w5.heap.size,0,none⟩ 1 1 [.int .i64 lo,.int .i64 hi] rfl rfl (Gy _ _ _ _) (Tj _ _) (by unfold maxLen;omega) (by omega) (by have:=HI5.out.1.out.size;simp;omega) ?_;intro v2 w6 hown6 hgr6 hnil6))
   have hb6:Below w.heap.size w w6:=(HI5.out.1.out.alloc HI5.out.1.out.size _).grown hgr6 (by have:=HI5.out.1.out.size;simp;omega) (fun k e=>(HI5.out.2.1.out.lt k e).1);have hk6:Blk w6 gb R:=(hgr6.block gb (by have:=HI5.out.2.2.out.lt;simp;omega) (HI5.out.2.2.out.ne_own HI5.out.2.1.out)).trans (HI5.out.2.2.out.alloc _);have hn6:(rs C (hi+1)).length=(rs C g).length+1:=by rw[HRs.out];rfl
   have hx6:pv (rs C (hi+1)).reverse=pv (rs C g).reverse++[.int .i64 lo,.int .i64 hi]:=by rw[HRs.out,List.reverse_cons,Am];rfl
   have HI6:Hid (Vq w v2 (rs C (hi+1)).length gb R (pv (rs C (hi+1)).reverse) w6):=⟨hid hb6,hid (by rw[hn6,hx6];exact hown6),hid hk6⟩;have hT:Vq w v2 (rs C (hi+1)).length gb R (pv (rs C (hi+1)).reverse) w6.drew:=HI6.out.keep B0q.drew;have hLn:Hid ((rs C (hi+1)).length<=hi+1):=Mx C (hi+1);have hS3:Hid (Tz u3=(rs C g).length):=z1Z HI5.out.2.1.out;have hN6:Hid ((rs C (hi+1)).length=(rs C g).length+1):=hn6;have HSq:Hid (∀w:World,Calls prog 127 #[.int .i64 lo,.int .i64 hi] w fun e w'=>e=.returned (cv (seg lo (hi+1)))/\Below w.heap.size w w'):=fun w=>Hg lo hi w (by omega) (by omega)
   have hwh:IntKind.i64.wrap (hi:Int)=(hi:Int):=by rw[IntKind.wrap_i64];omega
   have hsg:seg lo (hi+1)<2^256:=Bf lo (hi+1) k2;clear hown6 hgr6 hnil6 HI5 hb6 hk6 hn6 hx6;obtain⟨c0,c1,c2,c3,f0,f1,f2,f3,hl⟩:=HI6.out.cells
   first|go_region_with (first
    |(go_at_call 127;refine(HSq.out _).mono ?_;rintro e wq ⟨rfl,hbr⟩;have hT:=Vq.keep hbr (by assumption);obtain⟨c0,c1,c2,c3,f0,f1,f2,f3,hl⟩:=hT.cells;dsimp only[cv])
    |(go_at_call 120;refine(Pf _ ?hh _).mono ?_;(case hh=>assumption);rintro e wq ⟨rfl,hbr⟩;have hT:=Vq.keep hbr (by assumption);obtain⟨c0,c1,c2,c3,f0,f1,f2,f3,hl⟩:=hT.cells;dsimp only[cv])
    |(go_at_call 126;refine(z1U _ _ _).mono ?_;rintro e wq ⟨rfl,hbr⟩;have hT:=Vq.keep hbr (by assumption);obtain⟨c0,c1,c2,c3,f0,f1,f2,f3,hl⟩:=hT.cells;dsimp only[cv]))|skip
   all_goals
    have HQ:Hid (Vq w v2 (rs C (hi+1)).length gb R (pv (rs C (hi+1)).reverse) wq):=hT;have HQ2:Hid (Vq w v2 (rs C (hi+1)).length gb (R&&&Zz (seg lo (hi+1))) (pv (rs C (hi+1)).reverse) (st4 wq gb (R&&&Zz (seg lo (hi+1))))):=⟨hid (Below.st4 HQ.out.1.out hgb _),hid (z7o HQ.out.2.2.out HQ.out.2.1.out),hid (HQ.out.2.2.out.st4 _)⟩;clear hT HI6
    go_wp2_with fail
    go_roundw
    case rel=>
     refine⟨hi+1,R&&&Zz (seg lo (hi+1)),wq.heap.size,rfl,Nat.le_trans HQ.out.1.out.size L0q,HL2,hid ⟨?_,?_,?_⟩⟩
     ·exact(HQ2.out.1.out.alloc (by rw[Ph];exact HQ.out.1.out.size) _)
     ·exact HQ2.out.2.1.out.alloc _
     ·have hb:=Blk.new (st4 wq gb (R&&&Zz (seg lo (hi+1)))) (R&&&Zz (seg lo (hi+1)))
      rw[Ph]at hb;exact hb
    case measure=>
     have e2:=z1Z HQ.out.2.1.out;have e3:=hS3.out;have e4:=hN6.out;have e5:=hLn.out;simp;omega
end Go.Proofs.YtikfnaffiehpaaaGreatDoor
