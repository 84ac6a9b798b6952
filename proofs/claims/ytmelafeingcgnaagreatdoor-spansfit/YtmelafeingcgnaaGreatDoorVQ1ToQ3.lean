/- Lemmas for the last text. Conditions: those that each names. -/
import Derived.Test.YtmelafeingcgnaaGreatDoorVY15ToX17
import Derived.WalkKit
import Derived.WalkLawsBesides
import Derived.Deep.QuietTactic
import Derived.BigQuiet
import Derived.BigRegion
import Derived.Deep.RegionHeld3
import Derived.ChangeKeysEq
import Derived.Lib.TrailingZeros
import Derived.Deep.RegionWith
import Derived.Laws.IdiomStrings
set_option linter.unusedVariables false
set_option maxRecDepth 100000
set_option maxHeartbeats 4000000
namespace Go.Proofs.YtmelafeingcgnaaGreatDoor
open Go.Proofs.Tryz
open Go.RowKit
variable {W w w':World} {R base gb n:Nat} {v:Value} {xs:List Value}
theorem z1p(C D:Nat)(w:World):
  Calls prog 321 #[cv C,cv D] w fun e w'=>e=.returned (cv (C&&&D))/\zB w w':=by
 have h:bits BinOp.and IntKind.u64 (wd C 0:Nat) (wd D 0:Nat)=(wd (C&&&D) 0:Nat):=by rw[Bq];exact Go.bits_and_u64_nat _ _ (Zf _ _) (Zf _ _)
 have o:bits BinOp.and IntKind.u64 (wd C 1:Nat) (wd D 1:Nat)=(wd (C&&&D) 1:Nat):=by rw[Bq];exact Go.bits_and_u64_nat _ _ (Zf _ _) (Zf _ _)
 have r:bits BinOp.and IntKind.u64 (wd C 2:Nat) (wd D 2:Nat)=(wd (C&&&D) 2:Nat):=by rw[Bq];exact Go.bits_and_u64_nat _ _ (Zf _ _) (Zf _ _)
 have y:bits BinOp.and IntKind.u64 (wd C 3:Nat) (wd D 3:Nat)=(wd (C&&&D) 3:Nat):=by rw[Bq];exact Go.bits_and_u64_nat _ _ (Zf _ _) (Zf _ _)
 unfold cv;go_enter func321,ntmps321
 go_wp2
 refine wp_loop_rounds 5 ?_;rw[rounds_succ]
 go_wp2
 go_region
 go_wp2
 rw[rounds_succ]
 go_wp2
 go_region
 go_wp2
 rw[rounds_succ]
 go_wp2
 go_region
 go_wp2
 rw[rounds_succ]
 go_wp2
 go_region
 go_wp2
 rw[rounds_succ]
 go_wp2
 refine bodyPost_ret (v:=.agg #[zU (wd (C&&&D) 0:Nat),zU (wd (C&&&D) 1:Nat),zU (wd (C&&&D) 2:Nat),zU (wd (C&&&D) 3:Nat)]) (by simp[results,Tryz.results321,go_sem]) rfl ⟨rfl,?_⟩;exact(((B0q.alloc L0q _).alloc (by simp) _).alloc (by simp;omega) _).drew.drew.drew.drew
theorem Tryz.cellsOfK:Tryz.prog.cellsOf 61=1:=by kernel_rfl
theorem Tryz.infoK:(Tryz.prog.info? 61).map (fun i=>(i.zero,i.size,i.bytes))=some (some (zU 0),1,8):=by kernel_rfl
theorem z8B(w:World)(a b c d o r A D:Int):
  (Op.equalIn 10000 63 (.agg #[zU a,zU b,zU c,zU d]) (.agg #[zU o,zU r,zU A,zU D])).run prog w=.ok (a == o&&(b == r&&(c == A&&d == D))) w:=by
 obtain⟨i,E⟩:∃i,Tryz.prog.info? 61=some i:=by
  cases h:Tryz.prog.info? 61 with
  |none=>have:=Tryz.infoK;rw[h]at this;cases this
  |some i=>exact⟨i,rfl⟩
 have G:Tryz.prog.underlying 63=some (.array 4 61):=by kernel_rfl
 rw[run_equalIn_array w 9999 _ _ G E,Tryz.cellsOfK];have p:∀(x y z t:Value) (w:World),(part 61 #[x,y,z,t] 0).run prog w=.ok x w:=fun _ _ _ _ _=>by kernel_rfl
 have p1:∀(x y z t:Value) (w:World),(part 61 #[x,y,z,t] 1).run prog w=.ok y w:=fun _ _ _ _ _=>by kernel_rfl
 have p2:∀(x y z t:Value) (w:World),(part 61 #[x,y,z,t] 2).run prog w=.ok z w:=fun _ _ _ _ _=>by kernel_rfl
 have U:∀(x y z t:Value) (w:World),(part 61 #[x,y,z,t] 3).run prog w=.ok t w:=fun _ _ _ _ _=>by kernel_rfl
 have e:∀(x y:Int) (w:World),(Op.equalIn 9999 61 (zU x) (zU y)).run prog w=.ok (x == y) w:=fun x y w=>run_equalIn_int w 9998 61 .u64 .u64 x y Tryz.underlying61
 rw[show List.range 4=[0,1,2,3]from rfl];simp only[Op.eqItems,Sem.run_bind,Nat.mul_one,p,e,Result.andThen_ok];cases h1:a == o<;>cases h2:b == r<;>cases h3:c == A<;>cases h4:d == D<;>simp[Result.andThen,p1,p2,U,e,h2,h3,h4,-beq_iff_eq,-beq_eq_false_iff_ne]
theorem z8C(C D:Nat)(o:C<2^256)(r:D<2^256)(w:World):
  (Op.equalIn 10000 63 (.agg #[zU (wd C 0:Nat),zU (wd C 1:Nat),zU (wd C 2:Nat),zU (wd C 3:Nat)]) (.agg #[zU (wd D 0:Nat),zU (wd D 1:Nat),zU (wd D 2:Nat),zU (wd D 3:Nat)])).run prog w=.ok (decide (C=D)) w:=by
 rw[z8B];congr 1;by_cases h:C=D
 ·subst h;simp
 ·rw[decide_eq_false h]
  cases h0:((wd C 0:Nat):Int) == (wd D 0:Nat)<;>cases h1:((wd C 1:Nat):Int) == (wd D 1:Nat)<;>cases h2:((wd C 2:Nat):Int) == (wd D 2:Nat)<;>cases h3:((wd C 3:Nat):Int) == (wd D 3:Nat)<;>try rfl
  simp at h0 h1 h2 h3;exact absurd (z0p C D o r (by omega) (by omega) (by omega) (by omega)) h
def TabIs(w:World):Prop:=∀j,j<64->w.cell? ⟨5,j,none⟩=some (.int .u8 ((Lib.deBruijn64tab.getD j 0:Nat):Int))
theorem TabIs.lt(h:TabIs w):5<w.heap.size:=World.block_lt_of_cell? w _ (h 0 (by omega))
theorem TabIs.below{B:Nat}(h:TabIs w)(o:Below B w w')(r:5<B):TabIs w':=fun j y=>(o.cell (p:=⟨5,j,none⟩) r).trans (h j y)
theorem TabIs.alloc{w:World}(h:TabIs w)(o:Obj):TabIs (w.alloc o):=h.below (B0q.alloc L0q o) h.lt
theorem z8D(x a:Nat)(hx:x<18446744073709551616)(r:x≠0)(h:x&&&(18446744073709551616-x)=a):
  IntKind.u64.wrap (bits BinOp.and IntKind.u64 (x:Int) (IntKind.u64.wrap (-(x:Int)))*285870213051353865)/288230376151711744=((a*285870213051353865%18446744073709551616/288230376151711744:Nat):Int):=by
 have o:IntKind.u64.wrap (-(x:Int))=((18446744073709551616-x:Nat):Int):=by rw[IntKind.wrap_u64];omega
 rw[o,Go.bits_and_u64_nat x _ hx (by omega),h,IntKind.wrap_u64];omega
theorem z8E(x k h:Nat)(w:World)(r:((x:Int) == 0)=false)
  (o:IntKind.u64.wrap (bits BinOp.and IntKind.u64 (x:Int) (IntKind.u64.wrap (-(x:Int)))*285870213051353865)/288230376151711744=(h:Int))
  (y:h<64)(A:k<64)(D:zC w (5) h (.int .u8 k)):
  Calls prog 277 #[zU x] w fun e w'=>e=.returned (zI k)/\w'=w:=by
 go_enter func277,ntmps277
 go_wp2_with(simp only[o])
 go_ret;exact⟨rfl,rfl⟩
theorem Cc(x:Nat)(w:World)(hx:x<18446744073709551616)(h:x≠0)(A:TabIs w):
  Calls prog 277 #[zU x] w fun e w'=>e=.returned (zI ((Lib.ctz 64 x:Nat):Int))/\w'=w:=by
 obtain⟨D,o⟩:=Lib.lowest_bit 64 x h hx;obtain⟨r,E⟩:=Lib.deBruijn64_at _ o;have y:=A _ r;rw[E]at y;exact z8E x _ _ w (by simp;omega) (z8D x _ hx h D) r o y
theorem Ng(x:Nat)(hx:x<18446744073709551616)(y:x≠0):Lib.ctz 64 x<64/\x.testBit (Lib.ctz 64 x)=true/\∀j,j<Lib.ctz 64 x->x.testBit j=false:=by
 obtain⟨m,h,o⟩:=Lib.ctzFrom_spec 64 x (by omega) hx;have e:Lib.ctz 64 x=Lib.ctzFrom 64 x:=by simp[Lib.ctz,y]
 rw[<-e]at h o;obtain⟨k,r⟩:∃k,k=Lib.ctz 64 x:=⟨_,rfl⟩;rw[<-r]at h o ⊢;clear r e;refine⟨o,?_,fun j A=> ?_⟩
 ·rw[h,Nat.testBit_two_pow_mul]
  simp
 ·rw[h,Nat.testBit_two_pow_mul]
  simp;omega
def Gg(C n:Nat):Prop:=n<256/\C.testBit n=true/\∀j,j<n->C.testBit j=false
def z1q(C n:Nat):Prop:=(C=0/\n=256)∨Gg C n
theorem Cl(C i:Nat)(D:i<4)(o:∀q,q<i->wd C q=0)(r:wd C i≠0):Gg C (64*i+Lib.ctz 64 (wd C i)):=by
 obtain⟨y,h,A⟩:=Ng (wd C i) (Zf C i) r;refine⟨by omega,?_,fun j E=> ?_⟩
 ·rw[Yv]at h
  simpa [y]using h
 ·by_cases hq:j/64<i
  ·have:=Yv C (j/64) (j%64)
   rw[o _ hq,Nat.zero_testBit,show 64*(j/64)+j%64=j by omega]at this;simpa [show j%64<64 by omega]using this.symm
  ·have e:j=64*i+j%64:=by omega
   have:=A (j%64) (by omega);rw[Yv,<-e]at this;simpa [show j%64<64 by omega]using this
theorem z1r(C:Nat)(w:World)(D:C<2^256)(A:TabIs w):
  Calls prog 320 #[cv C] w fun e w'=>(∃n:Nat,e=.returned (zI (n:Int))/\z1q C n)/\zB w w':=by
 have o:Hid (TabIs w):=A;clear A;have i0:∀w:World,(Instr.index 63 (.agg #[zU (wd C 0:Nat),zU (wd C 1:Nat),zU (wd C 2:Nat),zU (wd C 3:Nat)]) (zI 0)).run prog w=.ok (zU (wd C 0:Nat)) w:=fun _=>by kernel_rfl
 have i1:∀w:World,(Instr.index 63 (.agg #[zU (wd C 0:Nat),zU (wd C 1:Nat),zU (wd C 2:Nat),zU (wd C 3:Nat)]) (zI 1)).run prog w=.ok (zU (wd C 1:Nat)) w:=fun _=>by kernel_rfl
 have i2:∀w:World,(Instr.index 63 (.agg #[zU (wd C 0:Nat),zU (wd C 1:Nat),zU (wd C 2:Nat),zU (wd C 3:Nat)]) (zI 2)).run prog w=.ok (zU (wd C 2:Nat)) w:=fun _=>by kernel_rfl
 have i3:∀w:World,(Instr.index 63 (.agg #[zU (wd C 0:Nat),zU (wd C 1:Nat),zU (wd C 2:Nat),zU (wd C 3:Nat)]) (zI 3)).run prog w=.ok (zU (wd C 3:Nat)) w:=fun _=>by kernel_rfl
 by_cases z0:wd C 0=0
 ·have E:((wd C 0:Int) == 0)=true:=by simp;omega
  by_cases z1:wd C 1=0
  ·have G:((wd C 1:Int) == 0)=true:=by simp;omega
   by_cases z2:wd C 2=0
   ·have U:((wd C 2:Int) == 0)=true:=by simp;omega
    by_cases z3:wd C 3=0
    ·have V:((wd C 3:Int) == 0)=true:=by simp;omega
     have Y:Hid (C=0):=z0p C 0 D (by decide+kernel) (by rw[z0];decide+kernel) (by rw[z1];decide+kernel) (by rw[z2];decide+kernel) (by rw[z3];decide+kernel);clear z0 z1 z2 z3;go_enter func320,ntmps320
     go_wp2_with fail
     refine wp_loop_rounds 5 ?_;rw[rounds_succ]
     go_wp2_with fail
     rw[rounds_succ]
     go_wp2_with fail
     rw[rounds_succ]
     go_wp2_with fail
     rw[rounds_succ]
     go_wp2_with fail
     rw[rounds_succ]
     go_wp2_with fail
     go_ret;exact⟨⟨256,rfl,.inl ⟨Y.out,rfl⟩⟩,B0q.alloc L0q _⟩
    ·have V:((wd C 3:Int) == 0)=false:=by simp;omega
     have h:Hid (Gg C (64*3+Lib.ctz 64 (wd C 3))):=Cl C 3 (by omega) (fun q r=>by have:q=0∨q=1∨q=2:=(by omega);rcases this with rfl|rfl|rfl<;>assumption) z3;have y:=(Ng (wd C 3) (Zf C 3) z3).1;clear z0;clear z1;clear z2;have Z:Hid (wd C 3≠0):=z3;clear z3;go_enter func320,ntmps320
     go_wp2_with fail
     refine wp_loop_rounds 4 ?_;rw[rounds_succ]
     go_wp2_with fail
     rw[rounds_succ]
     go_wp2_with fail
     rw[rounds_succ]
     go_wp2_with fail
     rw[rounds_succ]
     go_wp2_with fail
     refine(Cc _ _ (Zf C 3) Z.out (o.out.alloc _)).mono ?_;rintro e w1 ⟨rfl,rfl⟩
     go_wp2_with fail
     go_ret;exact⟨⟨_,congrArg (fun n=>Ending.returned (Value.int .i64 n)) (by first|rfl|(push_cast;omega)),.inr h.out⟩,B0q.alloc L0q _⟩
   ·have U:((wd C 2:Int) == 0)=false:=by simp;omega
    have h:Hid (Gg C (64*2+Lib.ctz 64 (wd C 2))):=Cl C 2 (by omega) (fun q r=>by have:q=0∨q=1:=(by omega);rcases this with rfl|rfl<;>assumption) z2;have y:=(Ng (wd C 2) (Zf C 2) z2).1;clear z0;clear z1;have Z:Hid (wd C 2≠0):=z2;clear z2;go_enter func320,ntmps320
    go_wp2_with fail
    refine wp_loop_rounds 3 ?_;rw[rounds_succ]
    go_wp2_with fail
    rw[rounds_succ]
    go_wp2_with fail
    rw[rounds_succ]
    go_wp2_with fail
    refine(Cc _ _ (Zf C 2) Z.out (o.out.alloc _)).mono ?_;rintro e w1 ⟨rfl,rfl⟩
    go_wp2_with fail
    go_ret;exact⟨⟨_,congrArg (fun n=>Ending.returned (Value.int .i64 n)) (by first|rfl|(push_cast;omega)),.inr h.out⟩,B0q.alloc L0q _⟩
  ·have G:((wd C 1:Int) == 0)=false:=by simp;omega
   have h:Hid (Gg C (64*1+Lib.ctz 64 (wd C 1))):=Cl C 1 (by omega) (fun q r=>by obtain rfl:q=0:=(by omega);assumption) z1;have y:=(Ng (wd C 1) (Zf C 1) z1).1;clear z0;have Z:Hid (wd C 1≠0):=z1;clear z1;go_enter func320,ntmps320
   go_wp2_with fail
   refine wp_loop_rounds 2 ?_;rw[rounds_succ]
   go_wp2_with fail
   rw[rounds_succ]
   go_wp2_with fail
   refine(Cc _ _ (Zf C 1) Z.out (o.out.alloc _)).mono ?_;rintro e w1 ⟨rfl,rfl⟩
   go_wp2_with fail
   go_ret;exact⟨⟨_,congrArg (fun n=>Ending.returned (Value.int .i64 n)) (by first|rfl|(push_cast;omega)),.inr h.out⟩,B0q.alloc L0q _⟩
 ·have E:((wd C 0:Int) == 0)=false:=by simp;omega
  have h:Hid (Gg C (64*0+Lib.ctz 64 (wd C 0))):=Cl C 0 (by omega) (fun q r=>by omega) z0;have y:=(Ng (wd C 0) (Zf C 0) z0).1;have Z:Hid (wd C 0≠0):=z0;clear z0;go_enter func320,ntmps320
  go_wp2_with fail
  refine wp_loop_rounds 1 ?_;rw[rounds_succ]
  go_wp2_with fail
  refine(Cc _ _ (Zf C 0) Z.out (o.out.alloc _)).mono ?_;rintro e w1 ⟨rfl,rfl⟩
  go_wp2_with fail
  go_ret;exact⟨⟨_,congrArg (fun n=>Ending.returned (Value.int .i64 n)) (by first|rfl|(push_cast;omega)),.inr h.out⟩,B0q.alloc L0q _⟩
def rs(C:Nat):Nat->List (Nat×Nat)
 |0=>[]
 |b+1=>if C.testBit b then(match rs C b with
   |[]=>[(b,b)]
   |p::t=>if p.2+1=b then(p.1,b)::t else(b,b)::p::t)else rs C b
theorem Of(C a:Nat):∀b,a<=b->(∀j,a<=j->j<b->C.testBit j=false)->rs C b=rs C a
 |0,h,_=>by rw[Nat.le_zero.1 h]
 |b+1,h,hz=>by
  by_cases e:a=b+1
  ·subst e;rfl
  ·rw[rs,hz b (by omega) (by omega)]
   simpa using Of C a b (by omega) (fun j o r=>hz j o (by omega))
theorem Nb(C:Nat):∀b p,p∈rs C b->p.1<=p.2/\p.2<b
 |0,p,h=>by simp[rs]at h
 |b+1,p,h=>by
  rw[rs]at h;split at h
  ·split at h
   ·simp at h;subst h;simp
   ·rename_i q t r
    have o:=Nb C b;rw[r]at o;split at h
    ·rename_i y
     rcases List.mem_cons.1 h with rfl|h
     ·have:=o q (List.mem_cons_self ..)
      simp;omega
     ·have:=o p (List.mem_cons_of_mem _ h)
      omega
    ·rcases List.mem_cons.1 h with rfl|h
     ·simp
     ·have:=o p h
      omega
  ·have:=Nb C b p h
   omega
theorem z1s(C lo:Nat)(o:∀p t,rs C lo=p::t->p.2+1≠lo):∀n,(∀j,lo<=j->j<=lo+n->C.testBit j=true)->rs C (lo+n+1)=(lo,lo+n)::rs C lo
 |0,h=>by
  rw[Nat.add_zero,rs,h lo L0q (by omega),if_pos rfl];split
  ·rename_i e;rw[e];rfl
  ·rename_i p t e
   rw[if_neg (o p t e),e];rfl
 |n+1,h=>by
  have r:=z1s C lo o n (fun j y A=>h j y (by omega));rw[show lo+(n+1)+1=(lo+n+1)+1 by omega,rs,h (lo+n+1) (by omega) (by omega),if_pos rfl,r];simp[Nat.add_assoc]
def z8F:List (Nat×Nat)->Prop
 |[]=>True
 |[p]=>p.1<=p.2
 |p::q::t=>p.1<=p.2/\q.2+1<p.1/\z8F (q::t)
theorem z8G(C R g lo o:Nat)(G:∀j,R.testBit j=(decide (g<=j)&&C.testBit j))(A:g=0∨C.testBit g=false)(hl:R.testBit lo=true)(U:∀j,j<lo->R.testBit j=false)
  (Z:lo<o)(V:∀j,lo<=j->j<o->C.testBit j=true):rs C o=(lo,o-1)::rs C g:=by
 have r:=G lo;rw[hl]at r;simp at r;have e:rs C lo=rs C g:=Of C g lo r.1 (fun j y D=>by
  have:=G j;rw[U j D]at this;simpa [y]using this.symm)
 have Y:∀p t,rs C lo=p::t->p.2+1≠lo:=by
  intro p t E;rw[e]at E;have aa:=Nb C g p (by rw[E];exact List.mem_cons_self ..);rcases A with rfl|A
  ·simp[rs]at E
  ·have:lo≠g:=fun h=>by subst h;rw[A]at r;simp at r
   omega
 have y:=z1s C lo Y (o-1-lo) (fun j D h4=>V j D (by omega));rw[show lo+(o-1-lo)+1=o by omega,show lo+(o-1-lo)=o-1 by omega]at y;rw[y,e]
theorem Nh(C:Nat):∀b,(rs C b).length<=b
 |0=>by simp[rs]
 |b+1=>by
  have:=Nh C b;rw[rs];split
  ·split
   ·simp
   ·rename_i q t h
    rw[h]at this;simp at this;split<;>simp<;>omega
  ·omega
def pv:List (Nat×Nat)->List Value
 |[]=>[]
 |p::t=>zI (p.1:Int)::zI (p.2:Int)::pv t
theorem Og:∀(a b:List (Nat×Nat)),pv (a++b)=pv a++pv b
 |[],b=>rfl
 |p::t,b=>by simp only[List.cons_append,pv,Og t b]
theorem z1t:∀(a:List (Nat×Nat)),(pv a).length=a.length*2
 |[]=>rfl
 |p::t=>by simp only[pv,List.length_cons,z1t t];omega
def Uv(C R g:Nat):Prop:=g<=256/\(∀j,R.testBit j=(decide (g<=j)&&C.testBit j))/\(g=0∨C.testBit g=false)
theorem Uv.start(C:Nat):Uv C C 0:=⟨by omega,fun j=>by simp,.inl rfl⟩
theorem Uv.lt{C g:Nat}(h:Uv C R g)(o:C<2^256):R<2^256:=by
 apply Nat.lt_pow_two_of_testBit;intro j r;rw[h.2.1 j,Nat.testBit_lt_two_pow (Nat.lt_of_lt_of_le o (Nat.pow_le_pow_right (by decide) r))];simp
theorem Uv.done{C g:Nat}(h:Uv C 0 g):rs C 256=rs C g:=Of C g 256 h.1 (fun j o _=>by
 have:=h.2.1 j;rw[Nat.zero_testBit]at this;simpa [o]using this.symm)
theorem Uv.step{C R g lo o:Nat}(h:Uv C R g)(G:C<2^256)(hl:Gg R lo)(Z:z1q (Zl R&&&seg lo 256) o):
  lo<o/\o<=256/\rs C o=(lo,o-1)::rs C g/\Uv C (R&&&Zl (seg lo o)) o:=by
 have U:=h.lt G;have hx:∀j,(Zl R&&&seg lo 256).testBit j=(decide (j<256)&&decide (lo<=j)&& !R.testBit j):=by
  intro j;rw[Nat.testBit_and,Ic R U,Bw];cases decide (j<256)<;>cases decide (lo<=j)<;>cases R.testBit j<;>rfl
 obtain⟨l1,D,V⟩:=hl;have aa:lo<o/\o<=256/\(∀j,lo<=j->j<o->R.testBit j=true)/\R.testBit o=false:=by
  rcases Z with⟨h0,rfl⟩|⟨g1,g2,g3⟩
  ·refine⟨l1,Nat.le_refl _,fun j r y=> ?_,?_⟩
   ·have:=hx j
    rw[h0,Nat.zero_testBit]at this;simpa [r,y]using this.symm
   ·rw[Nat.testBit_lt_two_pow U]
  ·have A:=hx o
   rw[g2]at A;simp at A;have ab:lo≠o:=fun e=>by rw[<-e]at A;rw[D]at A;simp at A
   refine⟨by omega,by omega,fun j r y=> ?_,A.2⟩;have:=hx j;rw[g3 j y]at this;simpa [r,show j<256 by omega]using this.symm
 obtain⟨Y,E,k3,k4⟩:=aa;have ac:g<=lo:=by
  have:=h.2.1 lo;rw[D]at this;simp at this;exact this.1
 have kC:∀j,lo<=j->j<o->C.testBit j=true:=fun j r y=>by
  have:=h.2.1 j;rw[k3 j r y]at this;simp at this;exact this.2
 refine⟨Y,E,z8G C R g lo o h.2.1 h.2.2 D V Y kC,E,fun j=> ?_,.inr ?_⟩
 ·rw[Nat.testBit_and,Ic _ (Nz lo o E),Bw]
  by_cases r:o<=j
  ·have e:=h.2.1 j
   rw[e];by_cases y:j<256
   ·simp[r,y,show ¬j<o by omega,show g<=j by omega]
   ·rw[Nat.testBit_lt_two_pow (Nat.lt_of_lt_of_le G (Nat.pow_le_pow_right (by decide) (by omega)))]
    simp
  ·by_cases y:lo<=j
   ·simp[r,y,show j<o by omega]
   ·rw[V j (by omega)]
    simp[r]
 ·have:=h.2.1 o
  rw[k4]at this;simpa [show g<=o by omega]using this.symm
theorem Blk.ne_own(h:Blk w gb R)(o:w.ownsRow base 373 2 v n xs):some gb≠v.ownBlock:=by
 obtain⟨_,o|⟨g,y,A,rfl,_,r,_⟩⟩:=o
 ·rw[o.1];simp[Value.ownBlock]
 ·intro e
  simp[Value.ownBlock]at e;subst e;unfold Blk at h;rw[h]at r;simp at r
theorem z8H{D:Nat}(h:Blk w gb R)(r:w.ownsRow base 373 2 v n xs):(st4 w gb D).ownsRow base 373 2 v n xs:=
 r.kept (row:=some gb) ⟨rfl,rfl,rfl,by rw[Il];exact Nat.le_refl _,fun j A y=>by
  have o:j≠gb:=fun e=>y (by rw[e])
  unfold st4;rw[Below.heap_setCell _ _ _ _ o,Below.heap_setCell _ _ _ _ o,Below.heap_setCell _ _ _ _ o,Below.heap_setCell _ _ _ _ o]⟩ (.inr (Ne.symm (h.ne_own r)))
def Yx(w:World)(v:Value)(n gb R:Nat)(xs:List Value)(w':World):Prop:=
 Hid (zB w w')/\Hid (w'.ownsRow w.heap.size 373 2 v n xs)/\Hid (Blk w' gb R)
theorem Yx.keep(o:zB W w')(h:Yx w v n gb R xs W):Yx w v n gb R xs w':=
 ⟨h.1.out.trans (o.mono h.1.out.size),h.2.1.out.kept (row:=none) ⟨o.os,o.tape,o.output,o.size,fun j r _=>o.block j r⟩ (by cases hq:v.ownBlock<;>simp),h.2.2.out.below o h.2.2.out.lt⟩
theorem Yx.cells{w w':World}{v:Value}{n gb R:Nat}{xs:List Value}(h:Yx w v n gb R xs w'):
  zC w' gb 0 (zU (wd R 0:Nat))/\zC w' gb 1 (zU (wd R 1:Nat))/\zC w' gb 2 (zU (wd R 2:Nat))/\zC w' gb 3 (zU (wd R 3:Nat))/\
  w'.frozen? ⟨gb,0,none⟩=false/\w'.frozen? ⟨gb,1,none⟩=false/\w'.frozen? ⟨gb,2,none⟩=false/\w'.frozen? ⟨gb,3,none⟩=false/\gb<w'.heap.size:=
 have c:=h.2.2.out.cells;have t:=h.2.2.out.thaw
 ⟨c.1,c.2.1,c.2.2.1,c.2.2.2,t.1,t.2.1,t.2.2.1,t.2.2.2,h.2.2.out.lt⟩
theorem z8I(R:Nat)(o:R<2^256)(w:World):(Op.equalIn 10000 63 (.agg #[zU (wd R 0:Nat),zU (wd R 1:Nat),zU (wd R 2:Nat),zU (wd R 3:Nat)]) (.agg #[zU 0,zU 0,zU 0,zU 0])).run prog w=.ok (decide (R=0)) w:=by
 have h:=z8C R 0 o (by decide+kernel) w;simpa [Um]using h
theorem Tryz.infoPair:(Tryz.prog.info? 373).map (fun i=>(i.zero,i.size,i.bytes))=some (some (.agg #[zI 0,zI 0]),2,16):=by kernel_rfl
def Ob:Value->Nat
 | .slice _ n _=>n
 |_=>0
theorem z1u{e size:Nat}(h:w.ownsRow base e size v n xs):Ob v=n:=by
 obtain⟨_,h|⟨g,o,r,rfl,_⟩⟩:=h
 ·rw[h.1,h.2];rfl
 ·rfl
theorem z8J(a b:Int):∀u∈[Value.int .i64 a,Value.int .i64 b],u.oneCell'=true:=by
 intro u h;simp at h;rcases h with rfl|rfl<;>rfl
theorem z8K(C:Nat)(w:World)(hC:C<2^256)(r:TabIs w):
  Calls prog 317 #[cv C] w fun e w'=>∃v,e=.returned v/\Hid (w'.ownsRow w.heap.size 373 2 v (rs C 256).length (pv (rs C 256).reverse))/\Hid (zB w w'):=by
 obtain⟨iP,aA,aB,aC,aD⟩:=info_parts Tryz.infoPair;have Z:Hid (TabIs w):=r;clear r;unfold cv;go_enter func317,ntmps317
 go_wp2_with fail
 go_loopw [3,4] (fun v p wr=>∃g R gb:Nat,p=zP gb 0/\w.heap.size<=gb/\Hid (Uv C R g)/\Hid (Yx w v (rs C g).length gb R (pv (rs C g).reverse) wr)) (fun v _ _=>256-Ob v)
 case atStart=>
  refine⟨0,C,w.heap.size+1,rfl,by omega,hid (Uv.start C),hid ⟨hid ((B0q.alloc L0q _).alloc (by simp) _),hid (World.ownsRow_nil _ _ _ _),hid ?_⟩⟩;simpa using Blk.new (w.alloc (.cells #[zU (wd C 0:Nat),zU (wd C 1:Nat),zU (wd C 2:Nat),zU (wd C 3:Nat)] 63)) C
 case round=>
  obtain⟨g,R,gb,rfl,aE,HL,U⟩:=hrel;have hR:R<2^256:=HL.out.lt hC;have aa:=z8I R hR;obtain⟨c0,c1,c2,c3,y,A,D,E,hl⟩:=U.out.cells;by_cases hz:R=0
  ·rw[decide_eq_true hz]at aa
   have HZ:Hid (R=0):=hz;clear hz
   go_wp2_with fail
   go_ret;have hL:=HL.out;rw[HZ.out]at hL;rw[hL.done];exact⟨_,rfl,U.out.2.1,U.out.1⟩
  ·rw[decide_eq_false hz]at aa
   have HZ:Hid (R≠0):=hz;clear hz
   go_wp2_with fail
   refine(z1r R _ hR (Z.out.below U.out.1.out Z.out.lt)).mono ?_;rintro e w1 ⟨⟨lo,rfl,ag⟩,ah⟩;have ai:Hid (Gg R lo):=by
    rcases ag with⟨h0,_⟩|h0
    ·exact absurd h0 HZ.out
    ·exact h0
   have aM:lo<256:=ai.out.1;have ab:Hid (Yx w u3 (rs C g).length gb R (pv (rs C g).reverse) w1):=U.out.keep ah;clear ag ah U c0 c1 c2 c3 y A D E hl aa HZ;obtain⟨c0,c1,c2,c3,y,A,D,E,hl⟩:=ab.out.cells;have aF:Hid (∀w:World,Calls prog 223 #[zI (lo:Int),zI 255] w (zR w (cv (seg lo 256)))):=fun w=>Bb lo 255 w (by omega) (by omega)
   go_wp2_with fail
   refine(z0r _ hR _).mono ?_;rintro e w2 ⟨rfl,aj⟩;have ak:Hid (Yx w u3 (rs C g).length gb R (pv (rs C g).reverse) w2):=ab.out.keep aj;clear aj ab c0 c1 c2 c3 y A D E hl;dsimp only[cv]
   go_wp2_with fail
   refine(aF.out _).mono ?_;rintro e w3 ⟨rfl,al⟩;have am:Hid (Yx w u3 (rs C g).length gb R (pv (rs C g).reverse) w3):=ak.out.keep al;clear al ak;dsimp only[cv]
   go_wp2_with fail
   refine(z1p _ _ _).mono ?_;rintro e w4 ⟨rfl,ao⟩;have ac:Hid (Yx w u3 (rs C g).length gb R (pv (rs C g).reverse) w4):=am.out.keep ao;clear ao am;dsimp only[cv]
   go_wp2_with fail
   refine(z1r _ _ (Nat.and_lt_two_pow _ (Nz lo 256 L0q)) (Z.out.below ac.out.1.out Z.out.lt)).mono ?_;rintro e w5 ⟨⟨ap,rfl,aq⟩,ar⟩;obtain⟨k1,k2,k3,k4⟩:=HL.out.step hC ai.out aq;obtain⟨h,rfl⟩:∃h,ap=h+1:=⟨ap-1,by omega⟩;have au:Hid (rs C (h+1)=(lo,h)::rs C g):=k3;have aG:Hid (Uv C (R&&&Zl (seg lo (h+1))) (h+1)):=k4;have o:Hid (Yx w u3 (rs C g).length gb R (pv (rs C g).reverse) w5):=ac.out.keep ar;have aN:=Nh C g;have aO:=HL.out.1;clear ar ac aq k3 k4
   go_wp2_with(first
    |(at_builtin;refine wpList_append_own _ rfl (.tmp 19) (.tmp 24) 371 rfl w.heap.size 373 iP (.agg #[zI 0,zI 0]) 2 16 Tryz.underlying371 aA aB aC aD rfl (by decide) _ _ _ rfl (o.out.2.1.out.alloc _) ⟨w5.heap.size,0,none⟩ 1 1 [zI (lo:Int),zI (h:Int)] rfl rfl (Fk _ _ _ _) (z8J _ _) (by unfold maxLen;omega) (by omega) (by have:=o.out.1.out.size;simp;omega) ?_;intro v2 w6 av ad aH))
   have aw:zB w w6:=(o.out.1.out.alloc o.out.1.out.size _).grown ad (by have:=o.out.1.out.size;simp;omega) (fun k e=>(o.out.2.1.out.lt k e).1);have ax:Blk w6 gb R:=(ad.block gb (by have:=o.out.2.2.out.lt;simp;omega) (o.out.2.2.out.ne_own o.out.2.1.out)).trans (o.out.2.2.out.alloc _);have ae:(rs C (h+1)).length=(rs C g).length+1:=by rw[au.out];rfl
   have ay:pv (rs C (h+1)).reverse=pv (rs C g).reverse++[zI (lo:Int),zI (h:Int)]:=by rw[au.out,List.reverse_cons,Og];rfl
   have af:Hid (Yx w v2 (rs C (h+1)).length gb R (pv (rs C (h+1)).reverse) w6):=⟨hid aw,hid (by rw[ae,ay];exact av),hid ax⟩;have r:Yx w v2 (rs C (h+1)).length gb R (pv (rs C (h+1)).reverse) w6.drew:=af.out.keep B0q.drew;have aI:Hid ((rs C (h+1)).length<=h+1):=Nh C (h+1);have aJ:Hid (Ob u3=(rs C g).length):=z1u o.out.2.1.out;have aK:Hid ((rs C (h+1)).length=(rs C g).length+1):=ae;have aL:Hid (∀w:World,Calls prog 223 #[zI (lo:Int),zI (h:Int)] w (zR w (cv (seg lo (h+1))))):=fun w=>Bb lo h w (by omega) (by omega)
   have aP:IntKind.i64.wrap (h:Int)=(h:Int):=by rw[IntKind.wrap_i64];omega
   have aQ:seg lo (h+1)<2^256:=Nz lo (h+1) k2;clear av ad aH o aw ax ae ay;obtain⟨c0,c1,c2,c3,y,A,D,E,hl⟩:=af.out.cells
   first|go_region_with (first
    |(go_at_call 223;refine(aL.out _).mono ?_;rintro e V ⟨rfl,Y⟩;have r:=Yx.keep Y (by assumption);obtain⟨c0,c1,c2,c3,y,A,D,E,hl⟩:=r.cells;dsimp only[cv])
    |(go_at_call 189;refine(z0r _ ?hh _).mono ?_;(case hh=>assumption);rintro e V ⟨rfl,Y⟩;have r:=Yx.keep Y (by assumption);obtain⟨c0,c1,c2,c3,y,A,D,E,hl⟩:=r.cells;dsimp only[cv])
    |(go_at_call 321;refine(z1p _ _ _).mono ?_;rintro e V ⟨rfl,Y⟩;have r:=Yx.keep Y (by assumption);obtain⟨c0,c1,c2,c3,y,A,D,E,hl⟩:=r.cells;dsimp only[cv]))|skip
   all_goals
    have G:Hid (Yx w v2 (rs C (h+1)).length gb R (pv (rs C (h+1)).reverse) V):=r;have az:Hid (Yx w v2 (rs C (h+1)).length gb (R&&&Zl (seg lo (h+1))) (pv (rs C (h+1)).reverse) (st4 V gb (R&&&Zl (seg lo (h+1))))):=⟨hid (Below.st4 G.out.1.out aE _),hid (z8H G.out.2.2.out G.out.2.1.out),hid (G.out.2.2.out.st4 _)⟩;clear r af
    go_wp2_with fail
    go_roundw
    case rel=>
     refine⟨h+1,R&&&Zl (seg lo (h+1)),V.heap.size,rfl,Nat.le_trans G.out.1.out.size L0q,aG,hid ⟨?_,?_,?_⟩⟩
     ·exact(az.out.1.out.alloc (by rw[Il];exact G.out.1.out.size) _)
     ·exact az.out.2.1.out.alloc _
     ·have hb:=Blk.new (st4 V gb (R&&&Zl (seg lo (h+1)))) (R&&&Zl (seg lo (h+1)))
      rw[Il]at hb;exact hb
    case measure=>
     have e2:=z1u G.out.2.1.out;have e3:=aJ.out;have e4:=aK.out;have e5:=aI.out;simp;omega
def sgn(b:Nat):List Nat:=if b=10 then [92,110]else if b=13 then [92,114]else if b=9 then [92,116]else if mark b then [92,b]else if 32<=b/\b<=126 then [b]else [92,120,Yz (b/16),Yz (b%16)]
theorem Np(base n b:Nat)(v:Value)(xs:List Value)(w:World)(hb:b<256)(ho:w.ownsRow base 5 1 v n xs)(hn:n<=100000)(h:base<=w.heap.size):
  Calls prog 318 #[v,.int .u8 b] w fun e w'=>∃v',e=.returned v'/\Hid (App base w n xs (sgn b) v' w'):=by
 obtain⟨U,V,Y,Z,aa⟩:=info_parts Tryz.infoByte;have D:Hid (w.ownsRow base 5 1 v n xs):=ho;have HM:Hid (∀w:World,Calls prog 255 #[.int .u8 b] w fun e w'=>e=.returned (.bool (mark b))/\w'=w):=fun w=>z0s b w hb
 have HP:Hid (∀w:World,Calls prog 256 #[.int .u8 b] w fun e w'=>e=.returned (.bool (decide (32<=b)&&decide (b<=126)))/\w'=w):=fun w=>z0t b w hb
 clear ho;by_cases h10:b=10
 ·have o:Hid (sgn b=[92,110]):=by rw[h10];rfl
  have ac:((b:Int) == 10)=true:=by simp;omega
  clear h10;go_enter func318,ntmps318
  go_wp2_with(first|(at_builtin;refine wpList_append_own _ rfl (.tmp 20) (.tmp 21) 102 rfl base 5 U (.int .u8 0) 1 1 Tryz.underlying102 V Y Z aa rfl (by decide) _ _ _ rfl (D.out.alloc _) ⟨w.heap.size,0,none⟩ 2 2 [.int .u8 92,.int .u8 110] rfl rfl (Fk _ _ _ _) (Xk [92,110]) (by unfold maxLen;omega) (by omega) (by have:=h;simp;omega) ?_;intro v2 E y A ab))
  go_ret;rw[o.out];exact⟨_,rfl,hid (App.mk D.out h rfl rfl y A)⟩
 by_cases h13:b=13
 ·have o:Hid (sgn b=[92,114]):=by rw[h13];rfl
  have ac:((b:Int) == 10)=false:=by simp;omega
  have ag:((b:Int) == 13)=true:=by simp;omega
  clear h13;go_enter func318,ntmps318
  go_wp2_with(first|(at_builtin;refine wpList_append_own _ rfl (.tmp 23) (.tmp 24) 102 rfl base 5 U (.int .u8 0) 1 1 Tryz.underlying102 V Y Z aa rfl (by decide) _ _ _ rfl (D.out.alloc _) ⟨w.heap.size,0,none⟩ 2 2 [.int .u8 92,.int .u8 114] rfl rfl (Fk _ _ _ _) (Xk [92,114]) (by unfold maxLen;omega) (by omega) (by have:=h;simp;omega) ?_;intro v2 E y A ab))
  go_ret;rw[o.out];exact⟨_,rfl,hid (App.mk D.out h rfl rfl y A)⟩
 by_cases h9:b=9
 ·have o:Hid (sgn b=[92,116]):=by rw[h9];rfl
  have ac:((b:Int) == 10)=false:=by simp;omega
  have ag:((b:Int) == 13)=false:=by simp;omega
  have a9:((b:Int) == 9)=true:=by simp;omega
  clear h9;go_enter func318,ntmps318
  go_wp2_with(first|(at_builtin;refine wpList_append_own _ rfl (.tmp 26) (.tmp 27) 102 rfl base 5 U (.int .u8 0) 1 1 Tryz.underlying102 V Y Z aa rfl (by decide) _ _ _ rfl (D.out.alloc _) ⟨w.heap.size,0,none⟩ 2 2 [.int .u8 92,.int .u8 116] rfl rfl (Fk _ _ _ _) (Xk [92,116]) (by unfold maxLen;omega) (by omega) (by have:=h;simp;omega) ?_;intro v2 E y A ab))
  go_ret;rw[o.out];exact⟨_,rfl,hid (App.mk D.out h rfl rfl y A)⟩
 have ac:((b:Int) == 10)=false:=by simp;omega
 have ag:((b:Int) == 13)=false:=by simp;omega
 have a9:((b:Int) == 9)=false:=by simp;omega
 have G:Hid (b≠10/\b≠13/\b≠9):=⟨h10,h13,h9⟩;clear h10 h13 h9;cases hm:mark b
 ·rw[hm]at HM
  cases hp:(decide (32<=b)&&decide (b<=126))
  ·rw[hp]at HP
   have o:Hid (sgn b=[92,120,Yz (b/16),Yz (b%16)]):=by
    have ad:¬(32<=b/\b<=126):=by simp at hp;omega
    show sgn b=_;rw[sgn,if_neg G.out.1,if_neg G.out.2.1,if_neg G.out.2.2,hm,if_neg (by simp),if_neg ad]
   clear hp hm;obtain⟨q,hq⟩:∃q,q=b/16:=⟨_,rfl⟩;obtain⟨r,hr⟩:∃r,r=b%16:=⟨_,rfl⟩;have d1:=Cz q (by omega);have d2:=Cz r (by omega);obtain⟨dq,ae⟩:∃d,d=Yz q:=⟨_,rfl⟩;obtain⟨dr,af⟩:∃d,d=Yz r:=⟨_,rfl⟩;rw[<-hq,<-hr,<-ae,<-af]at o;rw[<-ae]at d1;rw[<-af]at d2;have e1:(b:Int)/16=(q:Int):=by omega
   have e2:bits BinOp.and IntKind.u8 (b:Int) 15=(r:Int):=by
    have:=u8_and15 (x:=(b:Int)) (by omega) (by omega);rw[this];omega
   clear hq hr ae af;go_enter func318,ntmps318
   go_wp2_with fail
   refine(HM.out _).mono ?_;rintro e w1 ⟨rfl,rfl⟩
   go_wp2_with fail
   refine(HP.out _).mono ?_;rintro e w1 ⟨rfl,rfl⟩
   go_wp2_with fail
   have ah:Hid (w1.drew.ownsRow base 5 1 v n xs):=D.out.kept (row:=none) ⟨rfl,rfl,rfl,Nat.le_refl _,fun j hj _=>rfl⟩ (by cases hq:v.ownBlock<;>simp)
   go_region_held3 (fun _=>True) (trivial) (first
    |(rw[if_pos (by rfl)];refine wp_append_own _ (.tmp 36) (.tmp 43) 102 rfl base 5 U (.int .u8 0) 1 1 Tryz.underlying102 V Y Z aa rfl (by decide) _ _ _ rfl (ah.out.alloc _) ⟨w1.heap.size,0,none⟩ 4 4 [.int .u8 92,.int .u8 120,.int .u8 dq,.int .u8 dr] rfl rfl (z0C _ _ _ _ _ _) (Xk [92,120,(dq:Int),(dr:Int)]) (by unfold maxLen;omega) (by omega) (by have:=h;simp;omega) ?_;intro v2 E y A ab))
   all_goals
    go_wp2_with fail
    go_ret;rw[o.out];exact⟨_,rfl,hid (App.of_drew (App.mk ah.out h rfl rfl y A))⟩
  ·rw[hp]at HP
   have o:Hid (sgn b=[b]):=by
    have ad:32<=b/\b<=126:=by simpa using hp
    show sgn b=[b];rw[sgn,if_neg G.out.1,if_neg G.out.2.1,if_neg G.out.2.2,hm,if_neg (by simp),if_pos ad]
   clear hp hm;go_enter func318,ntmps318
   go_wp2_with fail
   refine(HM.out _).mono ?_;rintro e w1 ⟨rfl,rfl⟩
   go_wp2_with fail
   refine(HP.out _).mono ?_;rintro e w1 ⟨rfl,rfl⟩
   go_wp2_with(first|(at_builtin;refine wpList_append_own _ rfl (.tmp 32) (.tmp 34) 102 rfl base 5 U (.int .u8 0) 1 1 Tryz.underlying102 V Y Z aa rfl (by decide) _ _ _ rfl (D.out.alloc _) ⟨w1.heap.size,0,none⟩ 1 1 [.int .u8 b] rfl rfl (Vy _ _ _) (Xk [(b:Int)]) (by unfold maxLen;omega) (by omega) (by have:=h;simp;omega) ?_;intro v2 E y A ab))
   go_ret;rw[o.out];exact⟨_,rfl,hid (App.mk D.out h rfl rfl y A)⟩
 ·rw[hm]at HM
  have o:Hid (sgn b=[92]++[b]):=by
   show sgn b=[92,b];rw[sgn,if_neg G.out.1,if_neg G.out.2.1,if_neg G.out.2.2,hm,if_pos rfl]
  clear hm;go_enter func318,ntmps318
  go_wp2_with fail
  refine(HM.out _).mono ?_;rintro e w1 ⟨rfl,rfl⟩
  go_wp2_with(first
   |(at_builtin;refine wpList_append_own _ rfl (.tmp 29) (.tmp 30) 102 rfl base 5 U (.int .u8 0) 1 1 Tryz.underlying102 V Y Z aa rfl (by decide) _ _ _ rfl (D.out.alloc _) ⟨w1.heap.size,0,none⟩ 1 1 [.int .u8 92] rfl rfl (Vy _ _ _) (Xk [92]) (by unfold maxLen;omega) (by omega) (by have:=h;simp;omega) ?_;intro v2 E y A ab;have HA:Hid (App base _ n xs [92] v2 E):=App.mk D.out h rfl rfl y A;have ai:base<=E.heap.size:=HA.out.base h;have aj:Hid (E.ownsRow base 5 1 v2 (n+1) (xs++nv [92])):=HA.out.1;clear y A ab)
   |(at_builtin;refine wpList_append_own _ rfl (.tmp 32) (.tmp 34) 102 rfl base 5 U (.int .u8 0) 1 1 Tryz.underlying102 V Y Z aa rfl (by decide) _ _ _ rfl (aj.out.alloc _) ⟨E.heap.size,0,none⟩ 1 1 [.int .u8 b] rfl rfl (Vy _ _ _) (Xk [(b:Int)]) (by unfold maxLen;omega) (by omega) (by have:=ai;simp;omega) ?_;intro v3 w3 ak al am))
  go_ret;rw[o.out];exact⟨_,rfl,hid (HA.out.trans (App.mk aj.out ai rfl rfl ak al))⟩
def Yc(p:Nat×Nat):List Nat:=sgn p.1++((if 1<p.2-p.1 then [45]else [])++(if p.1<p.2 then sgn p.2 else []))
def Qm:List (Nat×Nat)->List Nat
 |[]=>[]
 |p::t=>Yc p++Qm t
theorem Ez:∀(a:List (Nat×Nat)) (p:Nat×Nat),Qm (a++[p])=Qm a++Yc p
 |[],p=>by simp[Qm]
 |q::t,p=>by simp only[List.cons_append,Qm,Ez t p,List.append_assoc]
theorem Nc(b:Nat):1<=(sgn b).length/\(sgn b).length<=4:=by
 unfold sgn;split
 ·simp
 ·split
  ·simp
  ·split
   ·simp
   ·split
    ·simp
    ·split<;>simp
theorem z1v(b:Nat)(h:b<256):∀x∈sgn b,x<256:=by
 have o:=Cm (b/16) (by omega);have r:=Cm (b%16) (by omega);unfold sgn;split
 ·intro x hx;simp at hx;omega
 ·split
  ·intro x hx;simp at hx;omega
  ·split
   ·intro x hx;simp at hx;omega
   ·split
    ·intro x hx;simp at hx;omega
    ·split
     ·intro x hx;simp at hx;omega
     ·intro x hx;simp at hx;omega
theorem z8L(p:Nat×Nat):(Yc p).length<=9:=by
 have h:=Nc p.1;have o:=Nc p.2;unfold Yc;simp only[List.length_append];split<;>split<;>simp<;>omega
theorem z8M(p:Nat×Nat)(h:p.1<256)(o:p.2<256):∀x∈Yc p,x<256:=by
 intro x hx;unfold Yc at hx;simp only[List.mem_append]at hx;rcases hx with hx|hx|hx
 ·exact z1v p.1 h x hx
 ·split at hx
  ·simp at hx;omega
  ·simp at hx
 ·split at hx
  ·exact z1v p.2 o x hx
  ·simp at hx
theorem Oh:∀(a:List (Nat×Nat)),(Qm a).length<=9*a.length
 |[]=>by simp[Qm]
 |p::t=>by have:=Oh t;have:=z8L p;simp only[Qm,List.length_append,List.length_cons];omega
theorem z1w:∀(a:List (Nat×Nat)),(∀p∈a,p.1<256/\p.2<256)->∀x∈Qm a,x<256
 |[],_,x,hx=>by simp[Qm]at hx
 |p::t,h,x,hx=>by
  simp only[Qm,List.mem_append]at hx;rcases hx with hx|hx
  ·exact z8M p (h p (List.mem_cons_self ..)).1 (h p (List.mem_cons_self ..)).2 x hx
  ·exact z1w t (fun q o=>h q (List.mem_cons_of_mem _ o)) x hx
def txt(C:Nat):List Nat:=([91]++Qm (rs C 256).reverse)++[93]
theorem z1x(C:Nat):∀x∈txt C,x<256:=by
 intro x hx;unfold txt at hx;simp only[List.mem_append,List.mem_singleton]at hx;rcases hx with(rfl|hx)|rfl
 ·omega
 ·exact z1w _ (fun p h=>by have:=Nb C 256 p (List.mem_reverse.1 h);omega) x hx
 ·omega
theorem z8N(a:List (Nat×Nat))(p:Nat×Nat)(b:List (Nat×Nat)):(pv (a++p::b))[a.length*2]? =some (zI (p.1:Int))/\(pv (a++p::b))[a.length*2+1]? =some (zI (p.2:Int)):=by
 rw[Og];have:=z1t a;constructor
 ·rw[List.getElem?_append_right (by omega),this,Nat.sub_self];rfl
 ·rw[List.getElem?_append_right (by omega),this,show a.length*2+1-a.length*2=1 by omega];rfl
theorem z8O(h:w.ownsRow base 373 2 v n xs)(A:NB w w'):w'.ownsRow base 373 2 v n xs:=by
 refine⟨h.1,?_⟩;rcases h.2 with D|⟨g,E,G,rfl,U,o,rest⟩
 ·exact .inl D
 ·refine .inr ⟨g,E,G,rfl,U,?_,rest⟩
  have V:g<w.heap.size:=by
   rcases Nat.lt_or_ge g w.heap.size with r|r
   ·exact r
   ·rw[Array.getElem?_eq_none r]at o;cases o
  rw[A.2 g V (fun c y=>by rw[o]at y;simp at y)];exact o
def Tx(w:World)(base2:Nat)(rv:Value)(L:List (Nat×Nat))(v:Value)(l:List Nat)(w':World):Prop:=
 Hid (zB w w')/\Hid (w'.ownsRow base2 373 2 rv L.length (pv L))/\Hid (w'.ownsRow w.heap.size 5 1 v l.length (nv l))
theorem Tx.app{o:Nat}{r y:Value}{L:List (Nat×Nat)}{l m:List Nat}(h:Tx w o r L v l W)(k:App w.heap.size W l.length (nv l) m y w'):Tx w o r L y (l++m) w':=
 ⟨hid (h.1.out.trans k.2.1),hid (z8O h.2.1.out k.2.2),hid (by rw[List.length_append,Fj];exact k.1)⟩
theorem Tx.keep{r:Nat}{y:Value}{L:List (Nat×Nat)}{l:List Nat}(h:Tx w r y L v l W)(o:zB W w'):Tx w r y L v l w':=
 ⟨hid (h.1.out.trans (o.mono h.1.out.size)),hid (Xf h.2.1.out o),hid (Xf h.2.2.out o)⟩
theorem z8P(C:Nat)(w:World)(hC:C<2^256)(hT:TabIs w):
  Calls prog 312 #[cv C] w fun e w'=>e=.returned (zT (nb (txt C)))/\zB w w':=by
 obtain⟨i0,ak,al,am,ao⟩:=info_parts Tryz.infoByte;have HT:Hid (TabIs w):=hT;clear hT;unfold cv;go_enter func312,ntmps312
 go_wp2_with fail
 refine(z8K C _ hC ((HT.out.alloc _).alloc _)).mono ?_;rintro e w2 ⟨rv,rfl,aC,ap⟩;obtain⟨L,hL⟩:∃L,L=(rs C 256).reverse:=⟨_,rfl⟩;have aq:L.length=(rs C 256).length:=by rw[hL];simp
 have a1:L.length<=256:=by rw[aq];exact Nh C 256
 have aM:Hid (∀p∈L,p.1<=p.2/\p.2<256):=by rw[hL];exact fun p hp=>Nb C 256 p (List.mem_reverse.1 hp)
 have HF:Hid (txt C=([91]++Qm L)++[93]):=by rw[hL];rfl
 have aD:Hid (∀x∈([91]++Qm L)++[93],x<256):=by rw[<-HF.out];exact z1x C
 have aE:((w.alloc (.cells #[zU (wd C 0:Nat),zU (wd C 1:Nat),zU (wd C 2:Nat),zU (wd C 3:Nat)] 63)).alloc (.cells #[.int .u8 91] 5)).ownsRow w.heap.size 5 1 (zS (w.heap.size+1) 1 1) 1 (nv [91]):=
  ⟨rfl,.inr ⟨w.heap.size+1,1,#[.int .u8 91],rfl,by omega,Qx _ _ (by simp),Nat.le_refl _,by unfold maxLen;omega,rfl,rfl⟩⟩
 obtain⟨E,aF⟩:∃b,b=((w.alloc (.cells #[zU (wd C 0:Nat),zU (wd C 1:Nat),zU (wd C 2:Nat),zU (wd C 3:Nat)] 63)).alloc (.cells #[.int .u8 91] 5)).heap.size:=⟨_,rfl⟩;have aa:Hid (Tx w E rv L (zS (w.heap.size+1) 1 1) [91] w2):=
  ⟨hid (((B0q.alloc L0q _).alloc (by simp) _).trans (ap.out.mono (by simp;omega))),hid (by rw[aF,aq,hL];exact aC.out),hid (Xf aE ap.out)⟩
 clear aE aC ap hL aq aF;rcases aa.out.2.1.out.2 with⟨rfl,aN⟩|⟨G,V,aO,rfl,aP,aQ,a2,aR,aS,aT⟩
 ·have ar:L=[]:=List.eq_nil_of_length_eq_zero aN
  obtain⟨l,hl⟩:∃l:List Nat,l=[91]:=⟨_,rfl⟩;have aU:l.length<=2305:=by rw[hl];simp
  have au:Hid (∀x∈l++[93],x<256):=by have:=aD.out;rw[ar]at this;rw[hl];exact this
  have av:Hid (txt C=l++[93]):=by have:=HF.out;rw[ar]at this;rw[hl];exact this
  rw[<-hl]at aa;clear ar hl
  go_wp2_with fail
  refine wp_loop_rounds 1 ?_;rw[rounds_succ];have aw:w.heap.size<=w2.heap.size:=aa.out.1.out.size
  go_wp2_with(first|(at_builtin;refine wpList_append_own _ rfl (.tmp 39) (.tmp 40) 102 rfl w.heap.size 5 i0 (.int .u8 0) 1 1 Tryz.underlying102 ak al am ao rfl (by decide) _ _ _ rfl (aa.out.2.2.out.alloc _) ⟨w2.heap.size,0,none⟩ 1 1 [.int .u8 93] rfl rfl (Vy _ _ _) (Xk [93]) (by unfold maxLen;omega) (by omega) (by simp;omega) ?_;intro v9 w9 ad ax aV;obtain⟨g9,c9,rfl⟩:=Vc ad (by omega);have aW:=Cq (l:=l++[93]) (by rw[Fj];exact ad) au.out))
  go_ret;have ay:zB w w9:=(aa.out.1.out.alloc aw _).grown ax (by simp;omega) (fun k e=>(aa.out.2.2.out.lt k e).1);exact⟨by rw[av.out];rfl,ay⟩
 ·clear aP aQ aS aT aO
  unfold maxLen at aR
  go_wp2_with fail
  go_loopw [3,12] (fun v i wr=>∃(A B:List (Nat×Nat)) (l:List Nat),i=zI ((A.length:Nat):Int)/\Hid (L=A++B)/\Hid (l=[91]++Qm A)/\A.length<=L.length/\Hid (Tx w E (zS G L.length V) L v l wr)) (fun _ i _=>L.length-(intOf i).toNat)
  case atStart=>exact⟨[],L,[91],rfl,hid rfl,hid rfl,by simp,aa⟩
  case round=>
   obtain⟨A,B,l,rfl,Y,HL,a3,HX⟩:=hrel;have aU:l.length<=2305:=by rw[HL.out];have:=Oh A;simp;omega
   cases B with
   |nil=>
    have hk:((A.length:Nat):Int)=(L.length:Int):=by have:=congrArg List.length Y.out;simp at this;omega
    have au:Hid (∀x∈l++[93],x<256):=by have:=aD.out;rw[Y.out,List.append_nil]at this;rw[HL.out];exact this
    have av:Hid (txt C=l++[93]):=by have:=HF.out;rw[Y.out,List.append_nil]at this;rw[HL.out];exact this
    have aw:w.heap.size<=wr.heap.size:=HX.out.1.out.size
    go_wp2_with(first|(at_builtin;refine wpList_append_own _ rfl (.tmp 39) (.tmp 40) 102 rfl w.heap.size 5 i0 (.int .u8 0) 1 1 Tryz.underlying102 ak al am ao rfl (by decide) _ _ _ rfl (HX.out.2.2.out.alloc _) ⟨wr.heap.size,0,none⟩ 1 1 [.int .u8 93] rfl rfl (Vy _ _ _) (Xk [93]) (by unfold maxLen;omega) (by omega) (by simp;omega) ?_;intro v9 w9 ad ax aV;obtain⟨g9,c9,rfl⟩:=Vc ad (by omega);have aW:=Cq (l:=l++[93]) (by rw[Fj];exact ad) au.out))
    go_ret;have ay:zB w w9:=(HX.out.1.out.alloc aw _).grown ax (by simp;omega) (fun k e=>(HX.out.2.2.out.lt k e).1);exact⟨by rw[av.out];rfl,ay⟩
   |cons p B'=>
    have az:Hid (L=(A++[p])++B'):=by show L=_;rw[Y.out];simp
    obtain⟨p1,p2⟩:=aM.out p (by rw[Y.out];simp);have ah:=z8N A p B';rw[<-Y.out]at ah;have a4:A.length<L.length:=by rw[Y.out];simp
    have a5:((A.length:Nat):Int)<(L.length:Int):=by omega
    have e0:=HX.out.2.1.out.cellAt (A.length*2) (by omega);have e1:=HX.out.2.1.out.cellAt (A.length*2+1) (by omega);rw[ah.1]at e0;rw[ah.2]at e1;obtain⟨lo,ab⟩:∃lo,lo=p.1:=⟨_,rfl⟩;obtain⟨h,ac⟩:∃h,h=p.2:=⟨_,rfl⟩;rw[<-ab]at e0 p1;rw[<-ac]at e1 p1 p2;have a6:G<wr.heap.size:=World.block_lt_of_cell? wr _ e0;have y:Hid (Tx w E (zS G L.length V) L u3 l (wr.alloc (.cells #[zI (lo:Int),zI (h:Int)] 373)).drew):=HX.out.keep (B0q.alloc L0q _).drew;clear ah Y;by_cases hv:lo=h
    ·have aX:¬lo<h:=by omega
     have HM:Hid (Yc p=sgn lo):=by
      show Yc p=_;rw[Yc,<-ab,<-ac,if_neg (by omega),if_neg (by omega)];simp
     have d1:decide (1<(h:Int)-(lo:Int))=false:=by simp;omega
     have d2:decide ((lo:Int)<(h:Int))=false:=by simp;omega
     have aG:decide (lo<h)=false:=by simp;omega
     have aH:IntKind.u8.wrap (lo:Int)=(lo:Int):=by rw[IntKind.wrap_u8];omega
     have aI:IntKind.u8.wrap (h:Int)=(h:Int):=by rw[IntKind.wrap_u8];omega
     clear ab ac hv aX
     go_wp2_with fail
     go_region
     go_wp2_with fail
     refine(Np w.heap.size l.length lo _ (nv l) _ (by omega) y.out.2.2.out (by omega) y.out.1.out.size).mono ?_;rintro e U ⟨v3,rfl,Z⟩;have r:Hid (Tx w E (zS G L.length V) L v3 (l++sgn lo) U):=y.out.app Z.out;clear Z e0 e1 y;have aJ:=Nc lo;have ae:(l++sgn lo).length<=2309:=by rw[List.length_append];omega
     obtain⟨o,D⟩:∃o,o=l++sgn lo:=⟨_,rfl⟩;have af:Hid (o=l++sgn lo):=D;rw[<-D]at r ae;clear D;have ai:w.heap.size<=U.heap.size:=r.out.1.out.size
     go_wp2_with fail
     go_roundw
     case rel=>exact⟨A++[p],B',o,by simp,az,hid (by rw[af.out,HL.out,Ez,HM.out];simp),by simp;omega,r⟩
     case measure=>simp[intOf];omega
    ·by_cases hv2:h=lo+1
     ·have HM:Hid (Yc p=sgn lo++sgn h):=by
       show Yc p=_;rw[Yc,<-ab,<-ac,if_neg (by omega),if_pos (by omega)];simp
      have d1:decide (1<(h:Int)-(lo:Int))=false:=by simp;omega
      have d2:decide ((lo:Int)<(h:Int))=true:=by simp;omega
      have aG:decide (lo<h)=true:=by simp;omega
      have aH:IntKind.u8.wrap (lo:Int)=(lo:Int):=by rw[IntKind.wrap_u8];omega
      have aI:IntKind.u8.wrap (h:Int)=(h:Int):=by rw[IntKind.wrap_u8];omega
      clear ab ac hv hv2
      go_wp2_with fail
      go_region
      go_wp2_with fail
      refine(Np w.heap.size l.length lo _ (nv l) _ (by omega) y.out.2.2.out (by omega) y.out.1.out.size).mono ?_;rintro e U ⟨v3,rfl,Z⟩;have r:Hid (Tx w E (zS G L.length V) L v3 (l++sgn lo) U):=y.out.app Z.out;clear Z e0 e1 y;have aJ:=Nc lo;have ae:(l++sgn lo).length<=2309:=by rw[List.length_append];omega
      obtain⟨o,D⟩:∃o,o=l++sgn lo:=⟨_,rfl⟩;have af:Hid (o=l++sgn lo):=D;rw[<-D]at r ae;clear D;have ai:w.heap.size<=U.heap.size:=r.out.1.out.size
      go_wp2_with fail
      refine(Np w.heap.size o.length h _ (nv o) _ (by omega) r.out.2.2.out (by omega) ai).mono ?_;rintro e w5 ⟨v5,rfl,ag⟩;have aA:Hid (Tx w E (zS G L.length V) L v5 (o++sgn h) w5):=r.out.app ag.out;clear ag
      go_wp2_with fail
      go_roundw
      case rel=>exact⟨A++[p],B',o++sgn h,by simp,az,hid (by rw[af.out,HL.out,Ez,HM.out];simp),by simp;omega,aA⟩
      case measure=>simp[intOf];omega
     ·have HM:Hid (Yc p=sgn lo++[45]++sgn h):=by
       show Yc p=_;rw[Yc,<-ab,<-ac,if_pos (by omega),if_pos (by omega)];simp
      have d1:decide (1<(h:Int)-(lo:Int))=true:=by simp;omega
      have d2:decide ((lo:Int)<(h:Int))=true:=by simp;omega
      have aG:decide (lo<h)=true:=by simp;omega
      have aH:IntKind.u8.wrap (lo:Int)=(lo:Int):=by rw[IntKind.wrap_u8];omega
      have aI:IntKind.u8.wrap (h:Int)=(h:Int):=by rw[IntKind.wrap_u8];omega
      clear ab ac hv hv2
      go_wp2_with fail
      go_region
      go_wp2_with fail
      refine(Np w.heap.size l.length lo _ (nv l) _ (by omega) y.out.2.2.out (by omega) y.out.1.out.size).mono ?_;rintro e U ⟨v3,rfl,Z⟩;have r:Hid (Tx w E (zS G L.length V) L v3 (l++sgn lo) U):=y.out.app Z.out;clear Z e0 e1 y;have aJ:=Nc lo;have ae:(l++sgn lo).length<=2309:=by rw[List.length_append];omega
      obtain⟨o,D⟩:∃o,o=l++sgn lo:=⟨_,rfl⟩;have af:Hid (o=l++sgn lo):=D;rw[<-D]at r ae;clear D;have ai:w.heap.size<=U.heap.size:=r.out.1.out.size
      go_wp2_with(first|(at_builtin;refine wpList_append_own _ rfl (.tmp 28) (.tmp 29) 102 rfl w.heap.size 5 i0 (.int .u8 0) 1 1 Tryz.underlying102 ak al am ao rfl (by decide) _ _ _ rfl (r.out.2.2.out.alloc _) ⟨U.heap.size,0,none⟩ 1 1 [.int .u8 45] rfl rfl (Vy _ _ _) (Xk [45]) (by unfold maxLen;omega) (by omega) (by simp;omega) ?_;intro v4 w4 aK aL aY;have aj:Hid (Tx w E (zS G L.length V) L v4 (o++[45]) w4):=r.out.app (App.mk r.out.2.2.out ai rfl rfl aK aL);clear aK aL aY))
      have aZ:(o++[45]).length<=2310:=by rw[List.length_append];simp;omega
      obtain⟨l4,aB⟩:∃l4,l4=o++[45]:=⟨_,rfl⟩;have a0:Hid (l4=o++[45]):=aB;rw[<-aB]at aj aZ;clear aB;refine(Np w.heap.size l4.length h _ (nv l4) _ (by omega) aj.out.2.2.out (by omega) aj.out.1.out.size).mono ?_;rintro e w5 ⟨v5,rfl,ag⟩;have aA:Hid (Tx w E (zS G L.length V) L v5 (l4++sgn h) w5):=aj.out.app ag.out;clear ag
      go_wp2_with fail
      go_roundw
      case rel=>exact⟨A++[p],B',l4++sgn h,by simp,az,hid (by rw[a0.out,af.out,HL.out,Ez,HM.out];simp),by simp;omega,aA⟩
      case measure=>simp[intOf];omega
end Go.Proofs.YtmelafeingcgnaaGreatDoor
