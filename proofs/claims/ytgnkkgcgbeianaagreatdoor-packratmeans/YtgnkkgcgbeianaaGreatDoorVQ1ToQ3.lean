/- Lemmas for the last text. Conditions: those that each names. -/
import Derived.Test.YtgnkkgcgbeianaaGreatDoorVY15ToX17
import Derived.WalkKit
import Derived.WalkLawsBesides
import Derived.Deep.QuietTactic
import Derived.BigQuiet
import Derived.BigRegion
import Derived.Deep.RegionHeld3
import Derived.ChangeKeysEq
import Derived.Lib.TrailingZeros
import Derived.Deep.RegionWith
import Derived.Laws.IdiomStrings
set_option linter.unusedVariables false
set_option maxRecDepth 100000
set_option maxHeartbeats 4000000
namespace Go.Proofs.YtgnkkgcgbeianaaGreatDoor
open Go.Proofs.Tryz
open Go.RowKit
variable {W w w':World} {R base gb n:Nat} {v:Value} {xs:List Value}
theorem z1k(C D:Nat)(w:World):
  Calls prog 313 #[cv C,cv D] w fun e w'=>e=.returned (cv (C&&&D))/\zB w w':=by
 have h:bits BinOp.and IntKind.u64 (wd C 0:Nat) (wd D 0:Nat)=(wd (C&&&D) 0:Nat):=by rw[Bz];exact Go.bits_and_u64_nat _ _ (Xx _ _) (Xx _ _)
 have o:bits BinOp.and IntKind.u64 (wd C 1:Nat) (wd D 1:Nat)=(wd (C&&&D) 1:Nat):=by rw[Bz];exact Go.bits_and_u64_nat _ _ (Xx _ _) (Xx _ _)
 have r:bits BinOp.and IntKind.u64 (wd C 2:Nat) (wd D 2:Nat)=(wd (C&&&D) 2:Nat):=by rw[Bz];exact Go.bits_and_u64_nat _ _ (Xx _ _) (Xx _ _)
 have t:bits BinOp.and IntKind.u64 (wd C 3:Nat) (wd D 3:Nat)=(wd (C&&&D) 3:Nat):=by rw[Bz];exact Go.bits_and_u64_nat _ _ (Xx _ _) (Xx _ _)
 unfold cv;go_enter func313,ntmps313
 go_wp2
 refine wp_loop_rounds 5 ?_;rw[rounds_succ]
 go_wp2
 go_region
 go_wp2
 rw[rounds_succ]
 go_wp2
 go_region
 go_wp2
 rw[rounds_succ]
 go_wp2
 go_region
 go_wp2
 rw[rounds_succ]
 go_wp2
 go_region
 go_wp2
 rw[rounds_succ]
 go_wp2
 refine bodyPost_ret (v:=.agg #[zU (wd (C&&&D) 0:Nat),zU (wd (C&&&D) 1:Nat),zU (wd (C&&&D) 2:Nat),zU (wd (C&&&D) 3:Nat)]) (by simp[results,Tryz.results313,go_sem]) rfl ⟨rfl,?_⟩;exact(((B0q.alloc L0q _).alloc (by simp) _).alloc (by simp;omega) _).drew.drew.drew.drew
theorem Tryz.cellsOfK:Tryz.prog.cellsOf 52=1:=by kernel_rfl
theorem Tryz.infoK:(Tryz.prog.info? 52).map (fun i=>(i.zero,i.size,i.bytes))=some (some (zU 0),1,8):=by kernel_rfl
theorem z8q(w:World)(a b c d o r A D:Int):
  (Op.equalIn 10000 54 (.agg #[zU a,zU b,zU c,zU d]) (.agg #[zU o,zU r,zU A,zU D])).run prog w=.ok (a == o&&(b == r&&(c == A&&d == D))) w:=by
 obtain⟨i,E⟩:∃i,Tryz.prog.info? 52=some i:=by
  cases h:Tryz.prog.info? 52 with
  |none=>have:=Tryz.infoK;rw[h]at this;cases this
  |some i=>exact⟨i,rfl⟩
 have G:Tryz.prog.underlying 54=some (.array 4 52):=by kernel_rfl
 rw[run_equalIn_array w 9999 _ _ G E,Tryz.cellsOfK];have p:∀(x y z t:Value) (w:World),(part 52 #[x,y,z,t] 0).run prog w=.ok x w:=fun _ _ _ _ _=>by kernel_rfl
 have p1:∀(x y z t:Value) (w:World),(part 52 #[x,y,z,t] 1).run prog w=.ok y w:=fun _ _ _ _ _=>by kernel_rfl
 have p2:∀(x y z t:Value) (w:World),(part 52 #[x,y,z,t] 2).run prog w=.ok z w:=fun _ _ _ _ _=>by kernel_rfl
 have I:∀(x y z t:Value) (w:World),(part 52 #[x,y,z,t] 3).run prog w=.ok t w:=fun _ _ _ _ _=>by kernel_rfl
 have e:∀(x y:Int) (w:World),(Op.equalIn 9999 52 (zU x) (zU y)).run prog w=.ok (x == y) w:=fun x y w=>run_equalIn_int w 9998 52 .u64 .u64 x y Tryz.underlying52
 rw[show List.range 4=[0,1,2,3]from rfl];simp only[Op.eqItems,Sem.run_bind,Nat.mul_one,p,e,Result.andThen_ok];cases h1:a == o<;>cases h2:b == r<;>cases h3:c == A<;>cases h4:d == D<;>simp[Result.andThen,p1,p2,I,e,h2,h3,h4,-beq_iff_eq,-beq_eq_false_iff_ne]
theorem z8r(C D:Nat)(o:C<2^256)(r:D<2^256)(w:World):
  (Op.equalIn 10000 54 (.agg #[zU (wd C 0:Nat),zU (wd C 1:Nat),zU (wd C 2:Nat),zU (wd C 3:Nat)]) (.agg #[zU (wd D 0:Nat),zU (wd D 1:Nat),zU (wd D 2:Nat),zU (wd D 3:Nat)])).run prog w=.ok (decide (C=D)) w:=by
 rw[z8q];congr 1;by_cases h:C=D
 ·subst h;simp
 ·rw[decide_eq_false h]
  cases h0:((wd C 0:Nat):Int) == (wd D 0:Nat)<;>cases h1:((wd C 1:Nat):Int) == (wd D 1:Nat)<;>cases h2:((wd C 2:Nat):Int) == (wd D 2:Nat)<;>cases h3:((wd C 3:Nat):Int) == (wd D 3:Nat)<;>try rfl
  simp at h0 h1 h2 h3;exact absurd (z0p C D o r (by omega) (by omega) (by omega) (by omega)) h
def TabIs(w:World):Prop:=∀j,j<64->w.cell? ⟨5,j,none⟩=some (.int .u8 ((Lib.deBruijn64tab.getD j 0:Nat):Int))
theorem TabIs.lt(h:TabIs w):5<w.heap.size:=World.block_lt_of_cell? w _ (h 0 (by omega))
theorem TabIs.below{B:Nat}(h:TabIs w)(o:Below B w w')(r:5<B):TabIs w':=fun j t=>(o.cell (p:=⟨5,j,none⟩) r).trans (h j t)
theorem TabIs.alloc{w:World}(h:TabIs w)(o:Obj):TabIs (w.alloc o):=h.below (B0q.alloc L0q o) h.lt
theorem z8s(x a:Nat)(hx:x<18446744073709551616)(r:x≠0)(h:x&&&(18446744073709551616-x)=a):
  IntKind.u64.wrap (bits BinOp.and IntKind.u64 (x:Int) (IntKind.u64.wrap (-(x:Int)))*285870213051353865)/288230376151711744=((a*285870213051353865%18446744073709551616/288230376151711744:Nat):Int):=by
 have o:IntKind.u64.wrap (-(x:Int))=((18446744073709551616-x:Nat):Int):=by rw[IntKind.wrap_u64];omega
 rw[o,Go.bits_and_u64_nat x _ hx (by omega),h,IntKind.wrap_u64];omega
theorem z8t(x k h:Nat)(w:World)(r:((x:Int) == 0)=false)
  (o:IntKind.u64.wrap (bits BinOp.and IntKind.u64 (x:Int) (IntKind.u64.wrap (-(x:Int)))*285870213051353865)/288230376151711744=(h:Int))
  (t:h<64)(y:k<64)(A:zC w (5) h (.int .u8 k)):
  Calls prog 267 #[zU x] w fun e w'=>e=.returned (zI k)/\w'=w:=by
 go_enter func267,ntmps267
 go_wp2_with(simp only[o])
 go_ret;exact⟨rfl,rfl⟩
theorem Cd(x:Nat)(w:World)(hx:x<18446744073709551616)(h:x≠0)(y:TabIs w):
  Calls prog 267 #[zU x] w fun e w'=>e=.returned (zI ((Lib.ctz 64 x:Nat):Int))/\w'=w:=by
 obtain⟨A,o⟩:=Lib.lowest_bit 64 x h hx;obtain⟨r,D⟩:=Lib.deBruijn64_at _ o;have t:=y _ r;rw[D]at t;exact z8t x _ _ w (by simp;omega) (z8s x _ hx h A) r o t
theorem Nh(x:Nat)(hx:x<18446744073709551616)(t:x≠0):Lib.ctz 64 x<64/\x.testBit (Lib.ctz 64 x)=true/\∀j,j<Lib.ctz 64 x->x.testBit j=false:=by
 obtain⟨m,h,o⟩:=Lib.ctzFrom_spec 64 x (by omega) hx;have e:Lib.ctz 64 x=Lib.ctzFrom 64 x:=by simp[Lib.ctz,t]
 rw[<-e]at h o;obtain⟨k,r⟩:∃k,k=Lib.ctz 64 x:=⟨_,rfl⟩;rw[<-r]at h o ⊢;clear r e;refine⟨o,?_,fun j y=> ?_⟩
 ·rw[h,Nat.testBit_two_pow_mul]
  simp
 ·rw[h,Nat.testBit_two_pow_mul]
  simp;omega
def Gl(C n:Nat):Prop:=n<256/\C.testBit n=true/\∀j,j<n->C.testBit j=false
def z1l(C n:Nat):Prop:=(C=0/\n=256)∨Gl C n
theorem Cm(C i:Nat)(A:i<4)(o:∀q,q<i->wd C q=0)(r:wd C i≠0):Gl C (64*i+Lib.ctz 64 (wd C i)):=by
 obtain⟨t,h,y⟩:=Nh (wd C i) (Xx C i) r;refine⟨by omega,?_,fun j D=> ?_⟩
 ·rw[Vx]at h
  simpa [t]using h
 ·by_cases hq:j/64<i
  ·have:=Vx C (j/64) (j%64)
   rw[o _ hq,Nat.zero_testBit,show 64*(j/64)+j%64=j by omega]at this;simpa [show j%64<64 by omega]using this.symm
  ·have e:j=64*i+j%64:=by omega
   have:=y (j%64) (by omega);rw[Vx,<-e]at this;simpa [show j%64<64 by omega]using this
theorem z1m(C:Nat)(w:World)(D:C<2^256)(A:TabIs w):
  Calls prog 312 #[cv C] w fun e w'=>(∃n:Nat,e=.returned (zI (n:Int))/\z1l C n)/\zB w w':=by
 have o:Hid (TabIs w):=A;clear A;have i0:∀w:World,(Instr.index 54 (.agg #[zU (wd C 0:Nat),zU (wd C 1:Nat),zU (wd C 2:Nat),zU (wd C 3:Nat)]) (zI 0)).run prog w=.ok (zU (wd C 0:Nat)) w:=fun _=>by kernel_rfl
 have Y:∀w:World,(Instr.index 54 (.agg #[zU (wd C 0:Nat),zU (wd C 1:Nat),zU (wd C 2:Nat),zU (wd C 3:Nat)]) (zI 1)).run prog w=.ok (zU (wd C 1:Nat)) w:=fun _=>by kernel_rfl
 have i2:∀w:World,(Instr.index 54 (.agg #[zU (wd C 0:Nat),zU (wd C 1:Nat),zU (wd C 2:Nat),zU (wd C 3:Nat)]) (zI 2)).run prog w=.ok (zU (wd C 2:Nat)) w:=fun _=>by kernel_rfl
 have i3:∀w:World,(Instr.index 54 (.agg #[zU (wd C 0:Nat),zU (wd C 1:Nat),zU (wd C 2:Nat),zU (wd C 3:Nat)]) (zI 3)).run prog w=.ok (zU (wd C 3:Nat)) w:=fun _=>by kernel_rfl
 by_cases z0:wd C 0=0
 ·have E:((wd C 0:Int) == 0)=true:=by simp;omega
  by_cases z1:wd C 1=0
  ·have G:((wd C 1:Int) == 0)=true:=by simp;omega
   by_cases z2:wd C 2=0
   ·have I:((wd C 2:Int) == 0)=true:=by simp;omega
    by_cases z3:wd C 3=0
    ·have U:((wd C 3:Int) == 0)=true:=by simp;omega
     have V:Hid (C=0):=z0p C 0 D (by decide+kernel) (by rw[z0];decide+kernel) (by rw[z1];decide+kernel) (by rw[z2];decide+kernel) (by rw[z3];decide+kernel);clear z0 z1 z2 z3;go_enter func312,ntmps312
     go_wp2_with fail
     refine wp_loop_rounds 5 ?_;rw[rounds_succ]
     go_wp2_with fail
     rw[rounds_succ]
     go_wp2_with fail
     rw[rounds_succ]
     go_wp2_with fail
     rw[rounds_succ]
     go_wp2_with fail
     rw[rounds_succ]
     go_wp2_with fail
     go_ret;exact⟨⟨256,rfl,.inl ⟨V.out,rfl⟩⟩,B0q.alloc L0q _⟩
    ·have U:((wd C 3:Int) == 0)=false:=by simp;omega
     have h:Hid (Gl C (64*3+Lib.ctz 64 (wd C 3))):=Cm C 3 (by omega) (fun q r=>by have:q=0∨q=1∨q=2:=(by omega);rcases this with rfl|rfl|rfl<;>assumption) z3;have t:=(Nh (wd C 3) (Xx C 3) z3).1;clear z0;clear z1;clear z2;have Z:Hid (wd C 3≠0):=z3;clear z3;go_enter func312,ntmps312
     go_wp2_with fail
     refine wp_loop_rounds 4 ?_;rw[rounds_succ]
     go_wp2_with fail
     rw[rounds_succ]
     go_wp2_with fail
     rw[rounds_succ]
     go_wp2_with fail
     rw[rounds_succ]
     go_wp2_with fail
     refine(Cd _ _ (Xx C 3) Z.out (o.out.alloc _)).mono ?_;rintro e y ⟨rfl,rfl⟩
     go_wp2_with fail
     go_ret;exact⟨⟨_,congrArg (fun n=>Ending.returned (Value.int .i64 n)) (by first|rfl|(push_cast;omega)),.inr h.out⟩,B0q.alloc L0q _⟩
   ·have I:((wd C 2:Int) == 0)=false:=by simp;omega
    have h:Hid (Gl C (64*2+Lib.ctz 64 (wd C 2))):=Cm C 2 (by omega) (fun q r=>by have:q=0∨q=1:=(by omega);rcases this with rfl|rfl<;>assumption) z2;have t:=(Nh (wd C 2) (Xx C 2) z2).1;clear z0;clear z1;have Z:Hid (wd C 2≠0):=z2;clear z2;go_enter func312,ntmps312
    go_wp2_with fail
    refine wp_loop_rounds 3 ?_;rw[rounds_succ]
    go_wp2_with fail
    rw[rounds_succ]
    go_wp2_with fail
    rw[rounds_succ]
    go_wp2_with fail
    refine(Cd _ _ (Xx C 2) Z.out (o.out.alloc _)).mono ?_;rintro e y ⟨rfl,rfl⟩
    go_wp2_with fail
    go_ret;exact⟨⟨_,congrArg (fun n=>Ending.returned (Value.int .i64 n)) (by first|rfl|(push_cast;omega)),.inr h.out⟩,B0q.alloc L0q _⟩
  ·have G:((wd C 1:Int) == 0)=false:=by simp;omega
   have h:Hid (Gl C (64*1+Lib.ctz 64 (wd C 1))):=Cm C 1 (by omega) (fun q r=>by obtain rfl:q=0:=(by omega);assumption) z1;have t:=(Nh (wd C 1) (Xx C 1) z1).1;clear z0;have Z:Hid (wd C 1≠0):=z1;clear z1;go_enter func312,ntmps312
   go_wp2_with fail
   refine wp_loop_rounds 2 ?_;rw[rounds_succ]
   go_wp2_with fail
   rw[rounds_succ]
   go_wp2_with fail
   refine(Cd _ _ (Xx C 1) Z.out (o.out.alloc _)).mono ?_;rintro e y ⟨rfl,rfl⟩
   go_wp2_with fail
   go_ret;exact⟨⟨_,congrArg (fun n=>Ending.returned (Value.int .i64 n)) (by first|rfl|(push_cast;omega)),.inr h.out⟩,B0q.alloc L0q _⟩
 ·have E:((wd C 0:Int) == 0)=false:=by simp;omega
  have h:Hid (Gl C (64*0+Lib.ctz 64 (wd C 0))):=Cm C 0 (by omega) (fun q r=>by omega) z0;have t:=(Nh (wd C 0) (Xx C 0) z0).1;have Z:Hid (wd C 0≠0):=z0;clear z0;go_enter func312,ntmps312
  go_wp2_with fail
  refine wp_loop_rounds 1 ?_;rw[rounds_succ]
  go_wp2_with fail
  refine(Cd _ _ (Xx C 0) Z.out (o.out.alloc _)).mono ?_;rintro e y ⟨rfl,rfl⟩
  go_wp2_with fail
  go_ret;exact⟨⟨_,congrArg (fun n=>Ending.returned (Value.int .i64 n)) (by first|rfl|(push_cast;omega)),.inr h.out⟩,B0q.alloc L0q _⟩
def rs(C:Nat):Nat->List (Nat×Nat)
 |0=>[]
 |b+1=>if C.testBit b then(match rs C b with
   |[]=>[(b,b)]
   |p::t=>if p.2+1=b then(p.1,b)::t else(b,b)::p::t)else rs C b
theorem Oh(C a:Nat):∀b,a<=b->(∀j,a<=j->j<b->C.testBit j=false)->rs C b=rs C a
 |0,h,_=>by rw[Nat.le_zero.1 h]
 |b+1,h,hz=>by
  by_cases e:a=b+1
  ·subst e;rfl
  ·rw[rs,hz b (by omega) (by omega)]
   simpa using Oh C a b (by omega) (fun j o r=>hz j o (by omega))
theorem Np(C:Nat):∀b p,p∈rs C b->p.1<=p.2/\p.2<b
 |0,p,h=>by simp[rs]at h
 |b+1,p,h=>by
  rw[rs]at h;split at h
  ·split at h
   ·simp at h;subst h;simp
   ·rename_i q t r
    have o:=Np C b;rw[r]at o;split at h
    ·rename_i y
     rcases List.mem_cons.1 h with rfl|h
     ·have:=o q (List.mem_cons_self ..)
      simp;omega
     ·have:=o p (List.mem_cons_of_mem _ h)
      omega
    ·rcases List.mem_cons.1 h with rfl|h
     ·simp
     ·have:=o p h
      omega
  ·have:=Np C b p h
   omega
theorem z1n(C lo:Nat)(o:∀p t,rs C lo=p::t->p.2+1≠lo):∀n,(∀j,lo<=j->j<=lo+n->C.testBit j=true)->rs C (lo+n+1)=(lo,lo+n)::rs C lo
 |0,h=>by
  rw[Nat.add_zero,rs,h lo L0q (by omega),if_pos rfl];split
  ·rename_i e;rw[e];rfl
  ·rename_i p t e
   rw[if_neg (o p t e),e];rfl
 |n+1,h=>by
  have r:=z1n C lo o n (fun j y A=>h j y (by omega));rw[show lo+(n+1)+1=(lo+n+1)+1 by omega,rs,h (lo+n+1) (by omega) (by omega),if_pos rfl,r];simp[Nat.add_assoc]
def z8u:List (Nat×Nat)->Prop
 |[]=>True
 |[p]=>p.1<=p.2
 |p::q::t=>p.1<=p.2/\q.2+1<p.1/\z8u (q::t)
theorem z8v(C R g lo o:Nat)(G:∀j,R.testBit j=(decide (g<=j)&&C.testBit j))(A:g=0∨C.testBit g=false)(hl:R.testBit lo=true)(I:∀j,j<lo->R.testBit j=false)
  (Y:lo<o)(U:∀j,lo<=j->j<o->C.testBit j=true):rs C o=(lo,o-1)::rs C g:=by
 have r:=G lo;rw[hl]at r;simp at r;have e:rs C lo=rs C g:=Oh C g lo r.1 (fun j y D=>by
  have:=G j;rw[I j D]at this;simpa [y]using this.symm)
 have V:∀p t,rs C lo=p::t->p.2+1≠lo:=by
  intro p t E;rw[e]at E;have Z:=Np C g p (by rw[E];exact List.mem_cons_self ..);rcases A with rfl|A
  ·simp[rs]at E
  ·have:lo≠g:=fun h=>by subst h;rw[A]at r;simp at r
   omega
 have y:=z1n C lo V (o-1-lo) (fun j D h4=>U j D (by omega));rw[show lo+(o-1-lo)+1=o by omega,show lo+(o-1-lo)=o-1 by omega]at y;rw[y,e]
theorem Nc(C:Nat):∀b,(rs C b).length<=b
 |0=>by simp[rs]
 |b+1=>by
  have:=Nc C b;rw[rs];split
  ·split
   ·simp
   ·rename_i q t h
    rw[h]at this;simp at this;split<;>simp<;>omega
  ·omega
def pv:List (Nat×Nat)->List Value
 |[]=>[]
 |p::t=>zI (p.1:Int)::zI (p.2:Int)::pv t
theorem Od:∀(a b:List (Nat×Nat)),pv (a++b)=pv a++pv b
 |[],b=>rfl
 |p::t,b=>by simp only[List.cons_append,pv,Od t b]
theorem z1o:∀(a:List (Nat×Nat)),(pv a).length=a.length*2
 |[]=>rfl
 |p::t=>by simp only[pv,List.length_cons,z1o t];omega
def Uz(C R g:Nat):Prop:=g<=256/\(∀j,R.testBit j=(decide (g<=j)&&C.testBit j))/\(g=0∨C.testBit g=false)
theorem Uz.start(C:Nat):Uz C C 0:=⟨by omega,fun j=>by simp,.inl rfl⟩
theorem Uz.lt{C g:Nat}(h:Uz C R g)(o:C<2^256):R<2^256:=by
 apply Nat.lt_pow_two_of_testBit;intro j r;rw[h.2.1 j,Nat.testBit_lt_two_pow (Nat.lt_of_lt_of_le o (Nat.pow_le_pow_right (by decide) r))];simp
theorem Uz.done{C g:Nat}(h:Uz C 0 g):rs C 256=rs C g:=Oh C g 256 h.1 (fun j o _=>by
 have:=h.2.1 j;rw[Nat.zero_testBit]at this;simpa [o]using this.symm)
theorem Uz.step{C R g lo o:Nat}(h:Uz C R g)(E:C<2^256)(hl:Gl R lo)(V:z1l (Zl R&&&seg lo 256) o):
  lo<o/\o<=256/\rs C o=(lo,o-1)::rs C g/\Uz C (R&&&Zl (seg lo o)) o:=by
 have G:=h.lt E;have hx:∀j,(Zl R&&&seg lo 256).testBit j=(decide (j<256)&&decide (lo<=j)&& !R.testBit j):=by
  intro j;rw[Nat.testBit_and,Lx R G,Bk];cases decide (j<256)<;>cases decide (lo<=j)<;>cases R.testBit j<;>rfl
 obtain⟨Y,A,I⟩:=hl;have Z:lo<o/\o<=256/\(∀j,lo<=j->j<o->R.testBit j=true)/\R.testBit o=false:=by
  rcases V with⟨h0,rfl⟩|⟨g1,g2,g3⟩
  ·refine⟨Y,Nat.le_refl _,fun j r t=> ?_,?_⟩
   ·have:=hx j
    rw[h0,Nat.zero_testBit]at this;simpa [r,t]using this.symm
   ·rw[Nat.testBit_lt_two_pow G]
  ·have y:=hx o
   rw[g2]at y;simp at y;have aa:lo≠o:=fun e=>by rw[<-e]at y;rw[A]at y;simp at y
   refine⟨by omega,by omega,fun j r t=> ?_,y.2⟩;have:=hx j;rw[g3 j t]at this;simpa [r,show j<256 by omega]using this.symm
 obtain⟨U,D,k3,k4⟩:=Z;have ab:g<=lo:=by
  have:=h.2.1 lo;rw[A]at this;simp at this;exact this.1
 have kC:∀j,lo<=j->j<o->C.testBit j=true:=fun j r t=>by
  have:=h.2.1 j;rw[k3 j r t]at this;simp at this;exact this.2
 refine⟨U,D,z8v C R g lo o h.2.1 h.2.2 A I U kC,D,fun j=> ?_,.inr ?_⟩
 ·rw[Nat.testBit_and,Lx _ (Nj lo o D),Bk]
  by_cases r:o<=j
  ·have e:=h.2.1 j
   rw[e];by_cases t:j<256
   ·simp[r,t,show ¬j<o by omega,show g<=j by omega]
   ·rw[Nat.testBit_lt_two_pow (Nat.lt_of_lt_of_le E (Nat.pow_le_pow_right (by decide) (by omega)))]
    simp
  ·by_cases t:lo<=j
   ·simp[r,t,show j<o by omega]
   ·rw[I j (by omega)]
    simp[r]
 ·have:=h.2.1 o
  rw[k4]at this;simpa [show g<=o by omega]using this.symm
theorem Blk.ne_own(h:Blk w gb R)(o:w.ownsRow base 329 2 v n xs):some gb≠v.ownBlock:=by
 obtain⟨_,o|⟨g,t,y,rfl,_,r,_⟩⟩:=o
 ·rw[o.1];simp[Value.ownBlock]
 ·intro e
  simp[Value.ownBlock]at e;subst e;unfold Blk at h;rw[h]at r;simp at r
theorem z8w{D:Nat}(h:Blk w gb R)(r:w.ownsRow base 329 2 v n xs):(st4 w gb D).ownsRow base 329 2 v n xs:=
 r.kept (row:=some gb) ⟨rfl,rfl,rfl,by rw[Lv];exact Nat.le_refl _,fun j y t=>by
  have o:j≠gb:=fun e=>t (by rw[e])
  unfold st4;rw[Below.heap_setCell _ _ _ _ o,Below.heap_setCell _ _ _ _ o,Below.heap_setCell _ _ _ _ o,Below.heap_setCell _ _ _ _ o]⟩ (.inr (Ne.symm (h.ne_own r)))
def Yx(w:World)(v:Value)(n gb R:Nat)(xs:List Value)(w':World):Prop:=
 Hid (zB w w')/\Hid (w'.ownsRow w.heap.size 329 2 v n xs)/\Hid (Blk w' gb R)
theorem Yx.keep(o:zB W w')(h:Yx w v n gb R xs W):Yx w v n gb R xs w':=
 ⟨h.1.out.trans (o.mono h.1.out.size),h.2.1.out.kept (row:=none) ⟨o.os,o.tape,o.output,o.size,fun j r _=>o.block j r⟩ (by cases hq:v.ownBlock<;>simp),h.2.2.out.below o h.2.2.out.lt⟩
theorem Yx.cells{w w':World}{v:Value}{n gb R:Nat}{xs:List Value}(h:Yx w v n gb R xs w'):
  zC w' gb 0 (zU (wd R 0:Nat))/\zC w' gb 1 (zU (wd R 1:Nat))/\zC w' gb 2 (zU (wd R 2:Nat))/\zC w' gb 3 (zU (wd R 3:Nat))/\
  w'.frozen? ⟨gb,0,none⟩=false/\w'.frozen? ⟨gb,1,none⟩=false/\w'.frozen? ⟨gb,2,none⟩=false/\w'.frozen? ⟨gb,3,none⟩=false/\gb<w'.heap.size:=
 have c:=h.2.2.out.cells;have t:=h.2.2.out.thaw
 ⟨c.1,c.2.1,c.2.2.1,c.2.2.2,t.1,t.2.1,t.2.2.1,t.2.2.2,h.2.2.out.lt⟩
theorem z8x(R:Nat)(o:R<2^256)(w:World):(Op.equalIn 10000 54 (.agg #[zU (wd R 0:Nat),zU (wd R 1:Nat),zU (wd R 2:Nat),zU (wd R 3:Nat)]) (.agg #[zU 0,zU 0,zU 0,zU 0])).run prog w=.ok (decide (R=0)) w:=by
 have h:=z8r R 0 o (by decide+kernel) w;simpa [Jk]using h
theorem Tryz.infoPair:(Tryz.prog.info? 329).map (fun i=>(i.zero,i.size,i.bytes))=some (some (.agg #[zI 0,zI 0]),2,16):=by kernel_rfl
def Om:Value->Nat
 | .slice _ n _=>n
 |_=>0
theorem z1p{e size:Nat}(h:w.ownsRow base e size v n xs):Om v=n:=by
 obtain⟨_,h|⟨g,o,r,rfl,_⟩⟩:=h
 ·rw[h.1,h.2];rfl
 ·rfl
theorem z8y(a b:Int):∀u∈[Value.int .i64 a,Value.int .i64 b],u.oneCell'=true:=by
 intro u h;simp at h;rcases h with rfl|rfl<;>rfl
theorem z8z(C:Nat)(w:World)(hC:C<2^256)(r:TabIs w):
  Calls prog 309 #[cv C] w fun e w'=>∃v,e=.returned v/\Hid (w'.ownsRow w.heap.size 329 2 v (rs C 256).length (pv (rs C 256).reverse))/\Hid (zB w w'):=by
 obtain⟨iP,aA,aB,aC,aD⟩:=info_parts Tryz.infoPair;have V:Hid (TabIs w):=r;clear r;unfold cv;go_enter func309,ntmps309
 go_wp2_with fail
 go_loopw [3,4] (fun v p wr=>∃g R gb:Nat,p=zP gb 0/\w.heap.size<=gb/\Hid (Uz C R g)/\Hid (Yx w v (rs C g).length gb R (pv (rs C g).reverse) wr)) (fun v _ _=>256-Om v)
 case atStart=>
  refine⟨0,C,w.heap.size+1,rfl,by omega,hid (Uz.start C),hid ⟨hid ((B0q.alloc L0q _).alloc (by simp) _),hid (World.ownsRow_nil _ _ _ _),hid ?_⟩⟩;simpa using Blk.new (w.alloc (.cells #[zU (wd C 0:Nat),zU (wd C 1:Nat),zU (wd C 2:Nat),zU (wd C 3:Nat)] 54)) C
 case round=>
  obtain⟨g,R,gb,rfl,aE,Y,G⟩:=hrel;have hR:R<2^256:=Y.out.lt hC;have aa:=z8x R hR;obtain⟨c0,c1,c2,c3,t,y,A,D,hl⟩:=G.out.cells;by_cases hz:R=0
  ·rw[decide_eq_true hz]at aa
   have Z:Hid (R=0):=hz;clear hz
   go_wp2_with fail
   go_ret;have hL:=Y.out;rw[Z.out]at hL;rw[hL.done];exact⟨_,rfl,G.out.2.1,G.out.1⟩
  ·rw[decide_eq_false hz]at aa
   have Z:Hid (R≠0):=hz;clear hz
   go_wp2_with fail
   refine(z1m R _ hR (V.out.below G.out.1.out V.out.lt)).mono ?_;rintro e w1 ⟨⟨lo,rfl,ag⟩,ah⟩;have ai:Hid (Gl R lo):=by
    rcases ag with⟨h0,_⟩|h0
    ·exact absurd h0 Z.out
    ·exact h0
   have aM:lo<256:=ai.out.1;have ab:Hid (Yx w u3 (rs C g).length gb R (pv (rs C g).reverse) w1):=G.out.keep ah;clear ag ah G c0 c1 c2 c3 t y A D hl aa Z;obtain⟨c0,c1,c2,c3,t,y,A,D,hl⟩:=ab.out.cells;have aF:Hid (∀w:World,Calls prog 211 #[zI (lo:Int),zI 255] w (zR w (cv (seg lo 256)))):=fun w=>z0q lo 255 w (by omega) (by omega)
   go_wp2_with fail
   refine(Lk _ hR _).mono ?_;rintro e w2 ⟨rfl,aj⟩;have ak:Hid (Yx w u3 (rs C g).length gb R (pv (rs C g).reverse) w2):=ab.out.keep aj;clear aj ab c0 c1 c2 c3 t y A D hl;dsimp only[cv]
   go_wp2_with fail
   refine(aF.out _).mono ?_;rintro e w3 ⟨rfl,al⟩;have am:Hid (Yx w u3 (rs C g).length gb R (pv (rs C g).reverse) w3):=ak.out.keep al;clear al ak;dsimp only[cv]
   go_wp2_with fail
   refine(z1k _ _ _).mono ?_;rintro e w4 ⟨rfl,ao⟩;have ac:Hid (Yx w u3 (rs C g).length gb R (pv (rs C g).reverse) w4):=am.out.keep ao;clear ao am;dsimp only[cv]
   go_wp2_with fail
   refine(z1m _ _ (Nat.and_lt_two_pow _ (Nj lo 256 L0q)) (V.out.below ac.out.1.out V.out.lt)).mono ?_;rintro e w5 ⟨⟨ap,rfl,aq⟩,ar⟩;obtain⟨k1,k2,k3,k4⟩:=Y.out.step hC ai.out aq;obtain⟨h,rfl⟩:∃h,ap=h+1:=⟨ap-1,by omega⟩;have au:Hid (rs C (h+1)=(lo,h)::rs C g):=k3;have aG:Hid (Uz C (R&&&Zl (seg lo (h+1))) (h+1)):=k4;have o:Hid (Yx w u3 (rs C g).length gb R (pv (rs C g).reverse) w5):=ac.out.keep ar;have aN:=Nc C g;have aO:=Y.out.1;clear ar ac aq k3 k4
   go_wp2_with(first
    |(at_builtin;refine wpList_append_own _ rfl (.tmp 19) (.tmp 24) 327 rfl w.heap.size 329 iP (.agg #[zI 0,zI 0]) 2 16 Tryz.underlying327 aA aB aC aD rfl (by decide) _ _ _ rfl (o.out.2.1.out.alloc _) ⟨w5.heap.size,0,none⟩ 1 1 [zI (lo:Int),zI (h:Int)] rfl rfl (Fb _ _ _ _) (z8y _ _) (by unfold maxLen;omega) (by omega) (by have:=o.out.1.out.size;simp;omega) ?_;intro v2 w6 av ad aH))
   have aw:zB w w6:=(o.out.1.out.alloc o.out.1.out.size _).grown ad (by have:=o.out.1.out.size;simp;omega) (fun k e=>(o.out.2.1.out.lt k e).1);have ax:Blk w6 gb R:=(ad.block gb (by have:=o.out.2.2.out.lt;simp;omega) (o.out.2.2.out.ne_own o.out.2.1.out)).trans (o.out.2.2.out.alloc _);have ae:(rs C (h+1)).length=(rs C g).length+1:=by rw[au.out];rfl
   have ay:pv (rs C (h+1)).reverse=pv (rs C g).reverse++[zI (lo:Int),zI (h:Int)]:=by rw[au.out,List.reverse_cons,Od];rfl
   have af:Hid (Yx w v2 (rs C (h+1)).length gb R (pv (rs C (h+1)).reverse) w6):=⟨hid aw,hid (by rw[ae,ay];exact av),hid ax⟩;have r:Yx w v2 (rs C (h+1)).length gb R (pv (rs C (h+1)).reverse) w6.drew:=af.out.keep B0q.drew;have aI:Hid ((rs C (h+1)).length<=h+1):=Nc C (h+1);have aJ:Hid (Om u3=(rs C g).length):=z1p o.out.2.1.out;have aK:Hid ((rs C (h+1)).length=(rs C g).length+1):=ae;have aL:Hid (∀w:World,Calls prog 211 #[zI (lo:Int),zI (h:Int)] w (zR w (cv (seg lo (h+1))))):=fun w=>z0q lo h w (by omega) (by omega)
   have aP:IntKind.i64.wrap (h:Int)=(h:Int):=by rw[IntKind.wrap_i64];omega
   have aQ:seg lo (h+1)<2^256:=Nj lo (h+1) k2;clear av ad aH o aw ax ae ay;obtain⟨c0,c1,c2,c3,t,y,A,D,hl⟩:=af.out.cells
   first|go_region_with (first
    |(go_at_call 211;refine(aL.out _).mono ?_;rintro e I ⟨rfl,U⟩;have r:=Yx.keep U (by assumption);obtain⟨c0,c1,c2,c3,t,y,A,D,hl⟩:=r.cells;dsimp only[cv])
    |(go_at_call 127;refine(Lk _ ?hh _).mono ?_;(case hh=>assumption);rintro e I ⟨rfl,U⟩;have r:=Yx.keep U (by assumption);obtain⟨c0,c1,c2,c3,t,y,A,D,hl⟩:=r.cells;dsimp only[cv])
    |(go_at_call 313;refine(z1k _ _ _).mono ?_;rintro e I ⟨rfl,U⟩;have r:=Yx.keep U (by assumption);obtain⟨c0,c1,c2,c3,t,y,A,D,hl⟩:=r.cells;dsimp only[cv]))|skip
   all_goals
    have E:Hid (Yx w v2 (rs C (h+1)).length gb R (pv (rs C (h+1)).reverse) I):=r;have az:Hid (Yx w v2 (rs C (h+1)).length gb (R&&&Zl (seg lo (h+1))) (pv (rs C (h+1)).reverse) (st4 I gb (R&&&Zl (seg lo (h+1))))):=⟨hid (Below.st4 E.out.1.out aE _),hid (z8w E.out.2.2.out E.out.2.1.out),hid (E.out.2.2.out.st4 _)⟩;clear r af
    go_wp2_with fail
    go_roundw
    case rel=>
     refine⟨h+1,R&&&Zl (seg lo (h+1)),I.heap.size,rfl,Nat.le_trans E.out.1.out.size L0q,aG,hid ⟨?_,?_,?_⟩⟩
     ·exact(az.out.1.out.alloc (by rw[Lv];exact E.out.1.out.size) _)
     ·exact az.out.2.1.out.alloc _
     ·have hb:=Blk.new (st4 I gb (R&&&Zl (seg lo (h+1)))) (R&&&Zl (seg lo (h+1)))
      rw[Lv]at hb;exact hb
    case measure=>
     have e2:=z1p E.out.2.1.out;have e3:=aJ.out;have e4:=aK.out;have e5:=aI.out;simp;omega
def sgn(b:Nat):List Nat:=if b=10 then [92,110]else if b=13 then [92,114]else if b=9 then [92,116]else if mark b then [92,b]else if 32<=b/\b<=126 then [b]else [92,120,Xl (b/16),Xl (b%16)]
theorem Nl(base n b:Nat)(v:Value)(xs:List Value)(w:World)(hb:b<256)(ho:w.ownsRow base 5 1 v n xs)(hn:n<=100000)(h:base<=w.heap.size):
  Calls prog 310 #[v,.int .u8 b] w fun e w'=>∃v',e=.returned v'/\Hid (App base w n xs (sgn b) v' w'):=by
 obtain⟨i0,I,U,V,Y⟩:=info_parts Tryz.infoByte;have A:Hid (w.ownsRow base 5 1 v n xs):=ho;have HM:Hid (∀w:World,Calls prog 244 #[.int .u8 b] w fun e w'=>e=.returned (.bool (mark b))/\w'=w):=fun w=>z6J b w hb
 have HP:Hid (∀w:World,Calls prog 245 #[.int .u8 b] w fun e w'=>e=.returned (.bool (decide (32<=b)&&decide (b<=126)))/\w'=w):=fun w=>z6K b w hb
 clear ho;by_cases h10:b=10
 ·have o:Hid (sgn b=[92,110]):=by rw[h10];rfl
  have aa:((b:Int) == 10)=true:=by simp;omega
  clear h10;go_enter func310,ntmps310
  go_wp2_with(first|(at_builtin;refine wpList_append_own _ rfl (.tmp 20) (.tmp 21) 185 rfl base 5 i0 (.int .u8 0) 1 1 Tryz.underlying185 I U V Y rfl (by decide) _ _ _ rfl (A.out.alloc _) ⟨w.heap.size,0,none⟩ 2 2 [.int .u8 92,.int .u8 110] rfl rfl (Fb _ _ _ _) (Xw [92,110]) (by unfold maxLen;omega) (by omega) (by have:=h;simp;omega) ?_;intro v2 D t y Z))
  go_ret;rw[o.out];exact⟨_,rfl,hid (App.mk A.out h rfl rfl t y)⟩
 by_cases h13:b=13
 ·have o:Hid (sgn b=[92,114]):=by rw[h13];rfl
  have aa:((b:Int) == 10)=false:=by simp;omega
  have ae:((b:Int) == 13)=true:=by simp;omega
  clear h13;go_enter func310,ntmps310
  go_wp2_with(first|(at_builtin;refine wpList_append_own _ rfl (.tmp 23) (.tmp 24) 185 rfl base 5 i0 (.int .u8 0) 1 1 Tryz.underlying185 I U V Y rfl (by decide) _ _ _ rfl (A.out.alloc _) ⟨w.heap.size,0,none⟩ 2 2 [.int .u8 92,.int .u8 114] rfl rfl (Fb _ _ _ _) (Xw [92,114]) (by unfold maxLen;omega) (by omega) (by have:=h;simp;omega) ?_;intro v2 D t y Z))
  go_ret;rw[o.out];exact⟨_,rfl,hid (App.mk A.out h rfl rfl t y)⟩
 by_cases h9:b=9
 ·have o:Hid (sgn b=[92,116]):=by rw[h9];rfl
  have aa:((b:Int) == 10)=false:=by simp;omega
  have ae:((b:Int) == 13)=false:=by simp;omega
  have a9:((b:Int) == 9)=true:=by simp;omega
  clear h9;go_enter func310,ntmps310
  go_wp2_with(first|(at_builtin;refine wpList_append_own _ rfl (.tmp 26) (.tmp 27) 185 rfl base 5 i0 (.int .u8 0) 1 1 Tryz.underlying185 I U V Y rfl (by decide) _ _ _ rfl (A.out.alloc _) ⟨w.heap.size,0,none⟩ 2 2 [.int .u8 92,.int .u8 116] rfl rfl (Fb _ _ _ _) (Xw [92,116]) (by unfold maxLen;omega) (by omega) (by have:=h;simp;omega) ?_;intro v2 D t y Z))
  go_ret;rw[o.out];exact⟨_,rfl,hid (App.mk A.out h rfl rfl t y)⟩
 have aa:((b:Int) == 10)=false:=by simp;omega
 have ae:((b:Int) == 13)=false:=by simp;omega
 have a9:((b:Int) == 9)=false:=by simp;omega
 have E:Hid (b≠10/\b≠13/\b≠9):=⟨h10,h13,h9⟩;clear h10 h13 h9;cases hm:mark b
 ·rw[hm]at HM
  cases hp:(decide (32<=b)&&decide (b<=126))
  ·rw[hp]at HP
   have o:Hid (sgn b=[92,120,Xl (b/16),Xl (b%16)]):=by
    have ab:¬(32<=b/\b<=126):=by simp at hp;omega
    show sgn b=_;rw[sgn,if_neg E.out.1,if_neg E.out.2.1,if_neg E.out.2.2,hm,if_neg (by simp),if_neg ab]
   clear hp hm;obtain⟨q,hq⟩:∃q,q=b/16:=⟨_,rfl⟩;obtain⟨r,hr⟩:∃r,r=b%16:=⟨_,rfl⟩;have d1:=Bp q (by omega);have d2:=Bp r (by omega);obtain⟨dq,ac⟩:∃d,d=Xl q:=⟨_,rfl⟩;obtain⟨dr,ad⟩:∃d,d=Xl r:=⟨_,rfl⟩;rw[<-hq,<-hr,<-ac,<-ad]at o;rw[<-ac]at d1;rw[<-ad]at d2;have e1:(b:Int)/16=(q:Int):=by omega
   have e2:bits BinOp.and IntKind.u8 (b:Int) 15=(r:Int):=by
    have:=u8_and15 (x:=(b:Int)) (by omega) (by omega);rw[this];omega
   clear hq hr ac ad;go_enter func310,ntmps310
   go_wp2_with fail
   refine(HM.out _).mono ?_;rintro e G ⟨rfl,rfl⟩
   go_wp2_with fail
   refine(HP.out _).mono ?_;rintro e G ⟨rfl,rfl⟩
   go_wp2_with fail
   have af:Hid (G.drew.ownsRow base 5 1 v n xs):=A.out.kept (row:=none) ⟨rfl,rfl,rfl,Nat.le_refl _,fun j hj _=>rfl⟩ (by cases hq:v.ownBlock<;>simp)
   go_region_held3 (fun _=>True) (trivial) (first
    |(rw[if_pos (by rfl)];refine wp_append_own _ (.tmp 36) (.tmp 43) 185 rfl base 5 i0 (.int .u8 0) 1 1 Tryz.underlying185 I U V Y rfl (by decide) _ _ _ rfl (af.out.alloc _) ⟨G.heap.size,0,none⟩ 4 4 [.int .u8 92,.int .u8 120,.int .u8 dq,.int .u8 dr] rfl rfl (z0y _ _ _ _ _ _) (Xw [92,120,(dq:Int),(dr:Int)]) (by unfold maxLen;omega) (by omega) (by have:=h;simp;omega) ?_;intro v2 D t y Z))
   all_goals
    go_wp2_with fail
    go_ret;rw[o.out];exact⟨_,rfl,hid (App.of_drew (App.mk af.out h rfl rfl t y))⟩
  ·rw[hp]at HP
   have o:Hid (sgn b=[b]):=by
    have ab:32<=b/\b<=126:=by simpa using hp
    show sgn b=[b];rw[sgn,if_neg E.out.1,if_neg E.out.2.1,if_neg E.out.2.2,hm,if_neg (by simp),if_pos ab]
   clear hp hm;go_enter func310,ntmps310
   go_wp2_with fail
   refine(HM.out _).mono ?_;rintro e G ⟨rfl,rfl⟩
   go_wp2_with fail
   refine(HP.out _).mono ?_;rintro e G ⟨rfl,rfl⟩
   go_wp2_with(first|(at_builtin;refine wpList_append_own _ rfl (.tmp 32) (.tmp 34) 185 rfl base 5 i0 (.int .u8 0) 1 1 Tryz.underlying185 I U V Y rfl (by decide) _ _ _ rfl (A.out.alloc _) ⟨G.heap.size,0,none⟩ 1 1 [.int .u8 b] rfl rfl (Vj _ _ _) (Xw [(b:Int)]) (by unfold maxLen;omega) (by omega) (by have:=h;simp;omega) ?_;intro v2 D t y Z))
   go_ret;rw[o.out];exact⟨_,rfl,hid (App.mk A.out h rfl rfl t y)⟩
 ·rw[hm]at HM
  have o:Hid (sgn b=[92]++[b]):=by
   show sgn b=[92,b];rw[sgn,if_neg E.out.1,if_neg E.out.2.1,if_neg E.out.2.2,hm,if_pos rfl]
  clear hm;go_enter func310,ntmps310
  go_wp2_with fail
  refine(HM.out _).mono ?_;rintro e G ⟨rfl,rfl⟩
  go_wp2_with(first
   |(at_builtin;refine wpList_append_own _ rfl (.tmp 29) (.tmp 30) 185 rfl base 5 i0 (.int .u8 0) 1 1 Tryz.underlying185 I U V Y rfl (by decide) _ _ _ rfl (A.out.alloc _) ⟨G.heap.size,0,none⟩ 1 1 [.int .u8 92] rfl rfl (Vj _ _ _) (Xw [92]) (by unfold maxLen;omega) (by omega) (by have:=h;simp;omega) ?_;intro v2 D t y Z;have HA:Hid (App base _ n xs [92] v2 D):=App.mk A.out h rfl rfl t y;have ag:base<=D.heap.size:=HA.out.base h;have ah:Hid (D.ownsRow base 5 1 v2 (n+1) (xs++nv [92])):=HA.out.1;clear t y Z)
   |(at_builtin;refine wpList_append_own _ rfl (.tmp 32) (.tmp 34) 185 rfl base 5 i0 (.int .u8 0) 1 1 Tryz.underlying185 I U V Y rfl (by decide) _ _ _ rfl (ah.out.alloc _) ⟨D.heap.size,0,none⟩ 1 1 [.int .u8 b] rfl rfl (Vj _ _ _) (Xw [(b:Int)]) (by unfold maxLen;omega) (by omega) (by have:=ag;simp;omega) ?_;intro v3 w3 ai aj ak))
  go_ret;rw[o.out];exact⟨_,rfl,hid (HA.out.trans (App.mk ah.out ag rfl rfl ai aj))⟩
def Yh(p:Nat×Nat):List Nat:=sgn p.1++((if 1<p.2-p.1 then [45]else [])++(if p.1<p.2 then sgn p.2 else []))
def Qm:List (Nat×Nat)->List Nat
 |[]=>[]
 |p::t=>Yh p++Qm t
theorem Cp:∀(a:List (Nat×Nat)) (p:Nat×Nat),Qm (a++[p])=Qm a++Yh p
 |[],p=>by simp[Qm]
 |q::t,p=>by simp only[List.cons_append,Qm,Cp t p,List.append_assoc]
theorem Mz(b:Nat):1<=(sgn b).length/\(sgn b).length<=4:=by
 unfold sgn;split
 ·simp
 ·split
  ·simp
  ·split
   ·simp
   ·split
    ·simp
    ·split<;>simp
theorem z1q(b:Nat)(h:b<256):∀x∈sgn b,x<256:=by
 have o:=Cg (b/16) (by omega);have r:=Cg (b%16) (by omega);unfold sgn;split
 ·intro x hx;simp at hx;omega
 ·split
  ·intro x hx;simp at hx;omega
  ·split
   ·intro x hx;simp at hx;omega
   ·split
    ·intro x hx;simp at hx;omega
    ·split
     ·intro x hx;simp at hx;omega
     ·intro x hx;simp at hx;omega
theorem z8A(p:Nat×Nat):(Yh p).length<=9:=by
 have h:=Mz p.1;have o:=Mz p.2;unfold Yh;simp only[List.length_append];split<;>split<;>simp<;>omega
theorem z8B(p:Nat×Nat)(h:p.1<256)(o:p.2<256):∀x∈Yh p,x<256:=by
 intro x hx;unfold Yh at hx;simp only[List.mem_append]at hx;rcases hx with hx|hx|hx
 ·exact z1q p.1 h x hx
 ·split at hx
  ·simp at hx;omega
  ·simp at hx
 ·split at hx
  ·exact z1q p.2 o x hx
  ·simp at hx
theorem Oc:∀(a:List (Nat×Nat)),(Qm a).length<=9*a.length
 |[]=>by simp[Qm]
 |p::t=>by have:=Oc t;have:=z8A p;simp only[Qm,List.length_append,List.length_cons];omega
theorem z1r:∀(a:List (Nat×Nat)),(∀p∈a,p.1<256/\p.2<256)->∀x∈Qm a,x<256
 |[],_,x,hx=>by simp[Qm]at hx
 |p::t,h,x,hx=>by
  simp only[Qm,List.mem_append]at hx;rcases hx with hx|hx
  ·exact z8B p (h p (List.mem_cons_self ..)).1 (h p (List.mem_cons_self ..)).2 x hx
  ·exact z1r t (fun q o=>h q (List.mem_cons_of_mem _ o)) x hx
def txt(C:Nat):List Nat:=([91]++Qm (rs C 256).reverse)++[93]
theorem z1s(C:Nat):∀x∈txt C,x<256:=by
 intro x hx;unfold txt at hx;simp only[List.mem_append,List.mem_singleton]at hx;rcases hx with(rfl|hx)|rfl
 ·omega
 ·exact z1r _ (fun p h=>by have:=Np C 256 p (List.mem_reverse.1 h);omega) x hx
 ·omega
theorem z8C(a:List (Nat×Nat))(p:Nat×Nat)(b:List (Nat×Nat)):(pv (a++p::b))[a.length*2]? =some (zI (p.1:Int))/\(pv (a++p::b))[a.length*2+1]? =some (zI (p.2:Int)):=by
 rw[Od];have:=z1o a;constructor
 ·rw[List.getElem?_append_right (by omega),this,Nat.sub_self];rfl
 ·rw[List.getElem?_append_right (by omega),this,show a.length*2+1-a.length*2=1 by omega];rfl
theorem z8D(h:w.ownsRow base 329 2 v n xs)(y:NB w w'):w'.ownsRow base 329 2 v n xs:=by
 refine⟨h.1,?_⟩;rcases h.2 with A|⟨g,D,E,rfl,G,o,rest⟩
 ·exact .inl A
 ·refine .inr ⟨g,D,E,rfl,G,?_,rest⟩
  have I:g<w.heap.size:=by
   rcases Nat.lt_or_ge g w.heap.size with r|r
   ·exact r
   ·rw[Array.getElem?_eq_none r]at o;cases o
  rw[y.2 g I (fun c t=>by rw[o]at t;simp at t)];exact o
def Tx(w:World)(base2:Nat)(rv:Value)(L:List (Nat×Nat))(v:Value)(l:List Nat)(w':World):Prop:=
 Hid (zB w w')/\Hid (w'.ownsRow base2 329 2 rv L.length (pv L))/\Hid (w'.ownsRow w.heap.size 5 1 v l.length (nv l))
theorem Tx.app{o:Nat}{r t:Value}{L:List (Nat×Nat)}{l m:List Nat}(h:Tx w o r L v l W)(k:App w.heap.size W l.length (nv l) m t w'):Tx w o r L t (l++m) w':=
 ⟨hid (h.1.out.trans k.2.1),hid (z8D h.2.1.out k.2.2),hid (by rw[List.length_append,Fg];exact k.1)⟩
theorem Tx.keep{r:Nat}{t:Value}{L:List (Nat×Nat)}{l:List Nat}(h:Tx w r t L v l W)(o:zB W w'):Tx w r t L v l w':=
 ⟨hid (h.1.out.trans (o.mono h.1.out.size)),hid (Xh h.2.1.out o),hid (Xh h.2.2.out o)⟩
theorem z8E(C:Nat)(w:World)(hC:C<2^256)(hT:TabIs w):
  Calls prog 303 #[cv C] w fun e w'=>e=.returned (zT (nb (txt C)))/\zB w w':=by
 obtain⟨i0,aj,ak,al,am⟩:=info_parts Tryz.infoByte;have HT:Hid (TabIs w):=hT;clear hT;unfold cv;go_enter func303,ntmps303
 go_wp2_with fail
 refine(z8z C _ hC ((HT.out.alloc _).alloc _)).mono ?_;rintro e w2 ⟨rv,rfl,aB,ao⟩;obtain⟨L,hL⟩:∃L,L=(rs C 256).reverse:=⟨_,rfl⟩;have ap:L.length=(rs C 256).length:=by rw[hL];simp
 have a0:L.length<=256:=by rw[ap];exact Nc C 256
 have aL:Hid (∀p∈L,p.1<=p.2/\p.2<256):=by rw[hL];exact fun p hp=>Np C 256 p (List.mem_reverse.1 hp)
 have HF:Hid (txt C=([91]++Qm L)++[93]):=by rw[hL];rfl
 have aC:Hid (∀x∈([91]++Qm L)++[93],x<256):=by rw[<-HF.out];exact z1s C
 have aD:((w.alloc (.cells #[zU (wd C 0:Nat),zU (wd C 1:Nat),zU (wd C 2:Nat),zU (wd C 3:Nat)] 54)).alloc (.cells #[.int .u8 91] 5)).ownsRow w.heap.size 5 1 (zS (w.heap.size+1) 1 1) 1 (nv [91]):=
  ⟨rfl,.inr ⟨w.heap.size+1,1,#[.int .u8 91],rfl,by omega,Qx _ _ (by simp),Nat.le_refl _,by unfold maxLen;omega,rfl,rfl⟩⟩
 obtain⟨D,aE⟩:∃b,b=((w.alloc (.cells #[zU (wd C 0:Nat),zU (wd C 1:Nat),zU (wd C 2:Nat),zU (wd C 3:Nat)] 54)).alloc (.cells #[.int .u8 91] 5)).heap.size:=⟨_,rfl⟩;have Y:Hid (Tx w D rv L (zS (w.heap.size+1) 1 1) [91] w2):=
  ⟨hid (((B0q.alloc L0q _).alloc (by simp) _).trans (ao.out.mono (by simp;omega))),hid (by rw[aE,ap,hL];exact aB.out),hid (Xh aD ao.out)⟩
 clear aD aB ao hL ap aE;rcases Y.out.2.1.out.2 with⟨rfl,aM⟩|⟨E,I,aN,rfl,aO,aP,a1,aQ,aR,aS⟩
 ·have aq:L=[]:=List.eq_nil_of_length_eq_zero aM
  obtain⟨l,hl⟩:∃l:List Nat,l=[91]:=⟨_,rfl⟩;have aT:l.length<=2305:=by rw[hl];simp
  have ar:Hid (∀x∈l++[93],x<256):=by have:=aC.out;rw[aq]at this;rw[hl];exact this
  have au:Hid (txt C=l++[93]):=by have:=HF.out;rw[aq]at this;rw[hl];exact this
  rw[<-hl]at Y;clear aq hl
  go_wp2_with fail
  refine wp_loop_rounds 1 ?_;rw[rounds_succ];have av:w.heap.size<=w2.heap.size:=Y.out.1.out.size
  go_wp2_with(first|(at_builtin;refine wpList_append_own _ rfl (.tmp 39) (.tmp 40) 185 rfl w.heap.size 5 i0 (.int .u8 0) 1 1 Tryz.underlying185 aj ak al am rfl (by decide) _ _ _ rfl (Y.out.2.2.out.alloc _) ⟨w2.heap.size,0,none⟩ 1 1 [.int .u8 93] rfl rfl (Vj _ _ _) (Xw [93]) (by unfold maxLen;omega) (by omega) (by simp;omega) ?_;intro v9 w9 ac aw aU;obtain⟨g9,c9,rfl⟩:=Jv ac (by omega);have aV:=Bc (l:=l++[93]) (by rw[Fg];exact ac) ar.out))
  go_ret;have ax:zB w w9:=(Y.out.1.out.alloc av _).grown aw (by simp;omega) (fun k e=>(Y.out.2.2.out.lt k e).1);exact⟨by rw[au.out];rfl,ax⟩
 ·clear aO aP aR aS aN
  unfold maxLen at aQ
  go_wp2_with fail
  go_loopw [3,12] (fun v i wr=>∃(A B:List (Nat×Nat)) (l:List Nat),i=zI ((A.length:Nat):Int)/\Hid (L=A++B)/\Hid (l=[91]++Qm A)/\A.length<=L.length/\Hid (Tx w D (zS E L.length I) L v l wr)) (fun _ i _=>L.length-(intOf i).toNat)
  case atStart=>exact⟨[],L,[91],rfl,hid rfl,hid rfl,by simp,Y⟩
  case round=>
   obtain⟨A,B,l,rfl,U,HL,a2,Z⟩:=hrel;have aT:l.length<=2305:=by rw[HL.out];have:=Oc A;simp;omega
   cases B with
   |nil=>
    have hk:((A.length:Nat):Int)=(L.length:Int):=by have:=congrArg List.length U.out;simp at this;omega
    have ar:Hid (∀x∈l++[93],x<256):=by have:=aC.out;rw[U.out,List.append_nil]at this;rw[HL.out];exact this
    have au:Hid (txt C=l++[93]):=by have:=HF.out;rw[U.out,List.append_nil]at this;rw[HL.out];exact this
    have av:w.heap.size<=wr.heap.size:=Z.out.1.out.size
    go_wp2_with(first|(at_builtin;refine wpList_append_own _ rfl (.tmp 39) (.tmp 40) 185 rfl w.heap.size 5 i0 (.int .u8 0) 1 1 Tryz.underlying185 aj ak al am rfl (by decide) _ _ _ rfl (Z.out.2.2.out.alloc _) ⟨wr.heap.size,0,none⟩ 1 1 [.int .u8 93] rfl rfl (Vj _ _ _) (Xw [93]) (by unfold maxLen;omega) (by omega) (by simp;omega) ?_;intro v9 w9 ac aw aU;obtain⟨g9,c9,rfl⟩:=Jv ac (by omega);have aV:=Bc (l:=l++[93]) (by rw[Fg];exact ac) ar.out))
    go_ret;have ax:zB w w9:=(Z.out.1.out.alloc av _).grown aw (by simp;omega) (fun k e=>(Z.out.2.2.out.lt k e).1);exact⟨by rw[au.out];rfl,ax⟩
   |cons p B'=>
    have ay:Hid (L=(A++[p])++B'):=by show L=_;rw[U.out];simp
    obtain⟨p1,p2⟩:=aL.out p (by rw[U.out];simp);have ag:=z8C A p B';rw[<-U.out]at ag;have a3:A.length<L.length:=by rw[U.out];simp
    have a4:((A.length:Nat):Int)<(L.length:Int):=by omega
    have e0:=Z.out.2.1.out.cellAt (A.length*2) (by omega);have e1:=Z.out.2.1.out.cellAt (A.length*2+1) (by omega);rw[ag.1]at e0;rw[ag.2]at e1;obtain⟨lo,aa⟩:∃lo,lo=p.1:=⟨_,rfl⟩;obtain⟨h,ab⟩:∃h,h=p.2:=⟨_,rfl⟩;rw[<-aa]at e0 p1;rw[<-ab]at e1 p1 p2;have a5:E<wr.heap.size:=World.block_lt_of_cell? wr _ e0;have t:Hid (Tx w D (zS E L.length I) L u3 l (wr.alloc (.cells #[zI (lo:Int),zI (h:Int)] 329)).drew):=Z.out.keep (B0q.alloc L0q _).drew;clear ag U;by_cases hv:lo=h
    ·have aW:¬lo<h:=by omega
     have HM:Hid (Yh p=sgn lo):=by
      show Yh p=_;rw[Yh,<-aa,<-ab,if_neg (by omega),if_neg (by omega)];simp
     have d1:decide (1<(h:Int)-(lo:Int))=false:=by simp;omega
     have d2:decide ((lo:Int)<(h:Int))=false:=by simp;omega
     have aF:decide (lo<h)=false:=by simp;omega
     have aG:IntKind.u8.wrap (lo:Int)=(lo:Int):=by rw[IntKind.wrap_u8];omega
     have aH:IntKind.u8.wrap (h:Int)=(h:Int):=by rw[IntKind.wrap_u8];omega
     clear aa ab hv aW
     go_wp2_with fail
     go_region
     go_wp2_with fail
     refine(Nl w.heap.size l.length lo _ (nv l) _ (by omega) t.out.2.2.out (by omega) t.out.1.out.size).mono ?_;rintro e G ⟨v3,rfl,V⟩;have r:Hid (Tx w D (zS E L.length I) L v3 (l++sgn lo) G):=t.out.app V.out;clear V e0 e1 t;have aI:=Mz lo;have ad:(l++sgn lo).length<=2309:=by rw[List.length_append];omega
     obtain⟨o,y⟩:∃o,o=l++sgn lo:=⟨_,rfl⟩;have ae:Hid (o=l++sgn lo):=y;rw[<-y]at r ad;clear y;have ah:w.heap.size<=G.heap.size:=r.out.1.out.size
     go_wp2_with fail
     go_roundw
     case rel=>exact⟨A++[p],B',o,by simp,ay,hid (by rw[ae.out,HL.out,Cp,HM.out];simp),by simp;omega,r⟩
     case measure=>simp[intOf];omega
    ·by_cases hv2:h=lo+1
     ·have HM:Hid (Yh p=sgn lo++sgn h):=by
       show Yh p=_;rw[Yh,<-aa,<-ab,if_neg (by omega),if_pos (by omega)];simp
      have d1:decide (1<(h:Int)-(lo:Int))=false:=by simp;omega
      have d2:decide ((lo:Int)<(h:Int))=true:=by simp;omega
      have aF:decide (lo<h)=true:=by simp;omega
      have aG:IntKind.u8.wrap (lo:Int)=(lo:Int):=by rw[IntKind.wrap_u8];omega
      have aH:IntKind.u8.wrap (h:Int)=(h:Int):=by rw[IntKind.wrap_u8];omega
      clear aa ab hv hv2
      go_wp2_with fail
      go_region
      go_wp2_with fail
      refine(Nl w.heap.size l.length lo _ (nv l) _ (by omega) t.out.2.2.out (by omega) t.out.1.out.size).mono ?_;rintro e G ⟨v3,rfl,V⟩;have r:Hid (Tx w D (zS E L.length I) L v3 (l++sgn lo) G):=t.out.app V.out;clear V e0 e1 t;have aI:=Mz lo;have ad:(l++sgn lo).length<=2309:=by rw[List.length_append];omega
      obtain⟨o,y⟩:∃o,o=l++sgn lo:=⟨_,rfl⟩;have ae:Hid (o=l++sgn lo):=y;rw[<-y]at r ad;clear y;have ah:w.heap.size<=G.heap.size:=r.out.1.out.size
      go_wp2_with fail
      refine(Nl w.heap.size o.length h _ (nv o) _ (by omega) r.out.2.2.out (by omega) ah).mono ?_;rintro e w5 ⟨v5,rfl,af⟩;have az:Hid (Tx w D (zS E L.length I) L v5 (o++sgn h) w5):=r.out.app af.out;clear af
      go_wp2_with fail
      go_roundw
      case rel=>exact⟨A++[p],B',o++sgn h,by simp,ay,hid (by rw[ae.out,HL.out,Cp,HM.out];simp),by simp;omega,az⟩
      case measure=>simp[intOf];omega
     ·have HM:Hid (Yh p=sgn lo++[45]++sgn h):=by
       show Yh p=_;rw[Yh,<-aa,<-ab,if_pos (by omega),if_pos (by omega)];simp
      have d1:decide (1<(h:Int)-(lo:Int))=true:=by simp;omega
      have d2:decide ((lo:Int)<(h:Int))=true:=by simp;omega
      have aF:decide (lo<h)=true:=by simp;omega
      have aG:IntKind.u8.wrap (lo:Int)=(lo:Int):=by rw[IntKind.wrap_u8];omega
      have aH:IntKind.u8.wrap (h:Int)=(h:Int):=by rw[IntKind.wrap_u8];omega
      clear aa ab hv hv2
      go_wp2_with fail
      go_region
      go_wp2_with fail
      refine(Nl w.heap.size l.length lo _ (nv l) _ (by omega) t.out.2.2.out (by omega) t.out.1.out.size).mono ?_;rintro e G ⟨v3,rfl,V⟩;have r:Hid (Tx w D (zS E L.length I) L v3 (l++sgn lo) G):=t.out.app V.out;clear V e0 e1 t;have aI:=Mz lo;have ad:(l++sgn lo).length<=2309:=by rw[List.length_append];omega
      obtain⟨o,y⟩:∃o,o=l++sgn lo:=⟨_,rfl⟩;have ae:Hid (o=l++sgn lo):=y;rw[<-y]at r ad;clear y;have ah:w.heap.size<=G.heap.size:=r.out.1.out.size
      go_wp2_with(first|(at_builtin;refine wpList_append_own _ rfl (.tmp 28) (.tmp 29) 185 rfl w.heap.size 5 i0 (.int .u8 0) 1 1 Tryz.underlying185 aj ak al am rfl (by decide) _ _ _ rfl (r.out.2.2.out.alloc _) ⟨G.heap.size,0,none⟩ 1 1 [.int .u8 45] rfl rfl (Vj _ _ _) (Xw [45]) (by unfold maxLen;omega) (by omega) (by simp;omega) ?_;intro v4 w4 aJ aK aX;have ai:Hid (Tx w D (zS E L.length I) L v4 (o++[45]) w4):=r.out.app (App.mk r.out.2.2.out ah rfl rfl aJ aK);clear aJ aK aX))
      have aY:(o++[45]).length<=2310:=by rw[List.length_append];simp;omega
      obtain⟨l4,aA⟩:∃l4,l4=o++[45]:=⟨_,rfl⟩;have aZ:Hid (l4=o++[45]):=aA;rw[<-aA]at ai aY;clear aA;refine(Nl w.heap.size l4.length h _ (nv l4) _ (by omega) ai.out.2.2.out (by omega) ai.out.1.out.size).mono ?_;rintro e w5 ⟨v5,rfl,af⟩;have az:Hid (Tx w D (zS E L.length I) L v5 (l4++sgn h) w5):=ai.out.app af.out;clear af
      go_wp2_with fail
      go_roundw
      case rel=>exact⟨A++[p],B',l4++sgn h,by simp,ay,hid (by rw[aZ.out,ae.out,HL.out,Cp,HM.out];simp),by simp;omega,az⟩
      case measure=>simp[intOf];omega
end Go.Proofs.YtgnkkgcgbeianaaGreatDoor
