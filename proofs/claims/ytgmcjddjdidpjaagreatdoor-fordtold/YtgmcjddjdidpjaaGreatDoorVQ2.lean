/- Lemmas for the last text. Conditions: those that each names. -/
import Derived.Test.YtgmcjddjdidpjaaGreatDoorVX17ToQ1
import Derived.Deep.RegionWith
set_option linter.unusedVariables false
set_option maxRecDepth 100000
set_option maxHeartbeats 4000000
namespace Go.Proofs.YtgmcjddjdidpjaaGreatDoor
open Go.Proofs.Tryz
open Go.RowKit
variable {R base gb n:Nat} {w:World} {v:Value} {xs:List Value}
def rs(C:Nat):Nat->List (Nat×Nat)
 |0=>[]
 |b+1=>if C.testBit b then(match rs C b with
   |[]=>[(b,b)]
   |p::t=>if p.2+1=b then(p.1,b)::t else(b,b)::p::t)else rs C b
theorem Sl(C a:Nat):∀b,a<=b->(∀j,a<=j->j<b->C.testBit j=false)->rs C b=rs C a
 |0,h,_=>by rw[Nat.le_zero.1 h]
 |b+1,h,hz=>by
  by_cases e:a=b+1
  ·subst e;rfl
  ·rw[rs,hz b (by omega) (by omega)]
   simpa using Sl C a b (by omega) (fun j h1 h2=>hz j h1 (by omega))
theorem Nz(C:Nat):∀b p,p∈rs C b->p.1<=p.2/\p.2<b
 |0,p,h=>by simp[rs]at h
 |b+1,p,h=>by
  rw[rs]at h;split at h
  ·split at h
   ·simp at h;subst h;simp
   ·rename_i q t hq
    have ih:=Nz C b;rw[hq]at ih;split at h
    ·rename_i hb
     rcases List.mem_cons.1 h with rfl|h
     ·have:=ih q (List.mem_cons_self ..)
      simp;omega
     ·have:=ih p (List.mem_cons_of_mem _ h)
      omega
    ·rcases List.mem_cons.1 h with rfl|h
     ·simp
     ·have:=ih p h
      omega
  ·have:=Nz C b p h
   omega
theorem z2j(C lo:Nat)(hne:∀p t,rs C lo=p::t->p.2+1≠lo):∀n,(∀j,lo<=j->j<=lo+n->C.testBit j=true)->rs C (lo+n+1)=(lo,lo+n)::rs C lo
 |0,h=>by
  rw[Nat.add_zero,rs,h lo L0q (by omega),if_pos rfl];split
  ·rename_i e;rw[e];rfl
  ·rename_i p t e
   rw[if_neg (hne p t e),e];rfl
 |n+1,h=>by
  have ih:=z2j C lo hne n (fun j h1 h2=>h j h1 (by omega));rw[show lo+(n+1)+1=(lo+n+1)+1 by omega,rs,h (lo+n+1) (by omega) (by omega),if_pos rfl,ih];simp[Nat.add_assoc]
def z8V:List (Nat×Nat)->Prop
 |[]=>True
 |[p]=>p.1<=p.2
 |p::q::t=>p.1<=p.2/\q.2+1<p.1/\z8V (q::t)
def un:List (Nat×Nat)->Nat
 |[]=>0
 |p::t=>un t|||seg p.1 (p.2+1)
theorem z8W(C b:Nat):C%2^(b+1)=if C.testBit b then C%2^b|||2^b else C%2^b:=by
 apply Nat.eq_of_testBit_eq;intro j;split
 ·rename_i h
  rw[Nat.testBit_or,Nat.testBit_mod_two_pow,Nat.testBit_mod_two_pow,Nat.testBit_two_pow];by_cases h1:b=j
  ·subst h1;simp[h]
  ·by_cases h2:j<b
   ·simp[h1,h2,show j<b+1 by omega]
   ·simp[h1,h2,show ¬j<b+1 by omega]
 ·rename_i h
  rw[Nat.testBit_mod_two_pow,Nat.testBit_mod_two_pow];by_cases h1:b=j
  ·subst h1;simp[h]
  ·by_cases h2:j<b
   ·simp[h2,show j<b+1 by omega]
   ·simp[h2,show ¬j<b+1 by omega]
theorem z2k(C:Nat):∀b,un (rs C b)=C%2^b
 |0=>by simp[rs,un,Nat.mod_one]
 |b+1=>by
  have ih:=z2k C b;have lt:=Nz C b;rw[z8W,rs];split
  ·split
   ·rename_i hq
    rw[hq]at ih;rw[<-ih];simp only[un];rw[Nat.zero_or,Nat.zero_or,Kw b b L0q,Pf,Nat.zero_or]
   ·rename_i q t hq
    rw[hq]at ih lt;have hq2:=lt q (List.mem_cons_self ..);split
    ·rename_i hb
     rw[un,<-ih,un,Kw q.1 b (by omega),<-hb,Nat.or_assoc]
    ·rw[un,ih,Kw b b L0q,Pf,Nat.zero_or]
  ·exact ih
theorem z8X(C:Nat)(hC:C<2^256):un (rs C 256)=C:=by rw[z2k,Nat.mod_eq_of_lt hC]
theorem z8Y(C R g lo gap:Nat)(hR:∀j,R.testBit j=(decide (g<=j)&&C.testBit j))(hg:g=0∨C.testBit g=false)(hl:R.testBit lo=true)(hlm:∀j,j<lo->R.testBit j=false)
  (hgap:lo<gap)(hb:∀j,lo<=j->j<gap->C.testBit j=true):rs C gap=(lo,gap-1)::rs C g:=by
 have h1:=hR lo;rw[hl]at h1;simp at h1;have e:rs C lo=rs C g:=Sl C g lo h1.1 (fun j h2 h3=>by
  have:=hR j;rw[hlm j h3]at this;simpa [h2]using this.symm)
 have hne:∀p t,rs C lo=p::t->p.2+1≠lo:=by
  intro p t hp;rw[e]at hp;have hlt:=Nz C g p (by rw[hp];exact List.mem_cons_self ..);rcases hg with rfl|hg
  ·simp[rs]at hp
  ·have:lo≠g:=fun h=>by subst h;rw[hg]at h1;simp at h1
   omega
 have h2:=z2j C lo hne (gap-1-lo) (fun j h3 h4=>hb j h3 (by omega));rw[show lo+(gap-1-lo)+1=gap by omega,show lo+(gap-1-lo)=gap-1 by omega]at h2;rw[h2,e]
theorem Cz(C:Nat):∀b,(rs C b).length<=b
 |0=>by simp[rs]
 |b+1=>by
  have:=Cz C b;rw[rs];split
  ·split
   ·simp
   ·rename_i q t hq
    rw[hq]at this;simp at this;split<;>simp<;>omega
  ·omega
def pv:List (Nat×Nat)->List Value
 |[]=>[]
 |p::t=>.int .i64 (p.1:Int):: .int .i64 (p.2:Int)::pv t
theorem Tz:∀(a b:List (Nat×Nat)),pv (a++b)=pv a++pv b
 |[],b=>rfl
 |p::t,b=>by simp only[List.cons_append,pv,Tz t b]
theorem z2l:∀(a:List (Nat×Nat)),(pv a).length=a.length*2
 |[]=>rfl
 |p::t=>by simp only[pv,List.length_cons,z2l t];omega
def Jd(C R g:Nat):Prop:=g<=256/\(∀j,R.testBit j=(decide (g<=j)&&C.testBit j))/\(g=0∨C.testBit g=false)
theorem Jd.start(C:Nat):Jd C C 0:=⟨by omega,fun j=>by simp,.inl rfl⟩
theorem Jd.lt{C g:Nat}(h:Jd C R g)(hC:C<2^256):R<2^256:=by
 apply Nat.lt_pow_two_of_testBit;intro j hj;rw[h.2.1 j,Nat.testBit_lt_two_pow (Nat.lt_of_lt_of_le hC (Nat.pow_le_pow_right (by decide) hj))];simp
theorem Jd.done{C g:Nat}(h:Jd C 0 g):rs C 256=rs C g:=Sl C g 256 h.1 (fun j h1 _=>by
 have:=h.2.1 j;rw[Nat.zero_testBit]at this;simpa [h1]using this.symm)
theorem Jd.step{C R g lo gap:Nat}(h:Jd C R g)(hC:C<2^256)(hl:Dc R lo)(hg:z2h (Zj R&&&seg lo 256) gap):
  lo<gap/\gap<=256/\rs C gap=(lo,gap-1)::rs C g/\Jd C (R&&&Zj (seg lo gap)) gap:=by
 have hR:=h.lt hC;have hx:∀j,(Zj R&&&seg lo 256).testBit j=(decide (j<256)&&decide (lo<=j)&& !R.testBit j):=by
  intro j;rw[Nat.testBit_and,Ag R hR,Kv];cases decide (j<256)<;>cases decide (lo<=j)<;>cases R.testBit j<;>rfl
 obtain⟨l1,l2,l3⟩:=hl;have key:lo<gap/\gap<=256/\(∀j,lo<=j->j<gap->R.testBit j=true)/\R.testBit gap=false:=by
  rcases hg with⟨h0,rfl⟩|⟨g1,g2,g3⟩
  ·refine⟨l1,Nat.le_refl _,fun j h1 h2=> ?_,?_⟩
   ·have:=hx j
    rw[h0,Nat.zero_testBit]at this;simpa [h1,h2]using this.symm
   ·rw[Nat.testBit_lt_two_pow hR]
  ·have e2:=hx gap
   rw[g2]at e2;simp at e2;have hlg:lo≠gap:=fun e=>by rw[<-e]at e2;rw[l2]at e2;simp at e2
   refine⟨by omega,by omega,fun j h1 h2=> ?_,e2.2⟩;have:=hx j;rw[g3 j h2]at this;simpa [h1,show j<256 by omega]using this.symm
 obtain⟨k1,k2,k3,k4⟩:=key;have hgl:g<=lo:=by
  have:=h.2.1 lo;rw[l2]at this;simp at this;exact this.1
 have kC:∀j,lo<=j->j<gap->C.testBit j=true:=fun j h1 h2=>by
  have:=h.2.1 j;rw[k3 j h1 h2]at this;simp at this;exact this.2
 refine⟨k1,k2,z8Y C R g lo gap h.2.1 h.2.2 l2 l3 k1 kC,k2,fun j=> ?_,.inr ?_⟩
 ·rw[Nat.testBit_and,Ag _ (Ab lo gap k2),Kv]
  by_cases h1:gap<=j
  ·have e:=h.2.1 j
   rw[e];by_cases h2:j<256
   ·simp[h1,h2,show ¬j<gap by omega,show g<=j by omega]
   ·rw[Nat.testBit_lt_two_pow (Nat.lt_of_lt_of_le hC (Nat.pow_le_pow_right (by decide) (by omega)))]
    simp
  ·by_cases h2:lo<=j
   ·simp[h1,h2,show j<gap by omega]
   ·rw[l3 j (by omega)]
    simp[h1]
 ·have:=h.2.1 gap
  rw[k4]at this;simpa [show g<=gap by omega]using this.symm
theorem Blk.ne_own(h:Blk w gb R)(ho:w.ownsRow base 285 2 v n xs):some gb≠v.ownBlock:=by
 obtain⟨_,ho|⟨g,cap,cur,rfl,_,hh,_⟩⟩:=ho
 ·rw[ho.1];simp[Value.ownBlock]
 ·intro e
  simp[Value.ownBlock]at e;subst e;unfold Blk at h;rw[h]at hh;simp at hh
theorem z8Z{D:Nat}(h:Blk w gb R)(ho:w.ownsRow base 285 2 v n xs):(st4 w gb D).ownsRow base 285 2 v n xs:=
 ho.kept (row:=some gb) ⟨rfl,rfl,rfl,by rw[Pb];exact Nat.le_refl _,fun j hj hne=>by
  have hne':j≠gb:=fun e=>hne (by rw[e])
  unfold st4;rw[Below.heap_setCell _ _ _ _ hne',Below.heap_setCell _ _ _ _ hne',Below.heap_setCell _ _ _ _ hne',Below.heap_setCell _ _ _ _ hne']⟩ (.inr (Ne.symm (h.ne_own ho)))
def Vz(w:World)(v:Value)(n gb R:Nat)(xs:List Value)(w':World):Prop:=
 Hid (Below w.heap.size w w')/\Hid (w'.ownsRow w.heap.size 285 2 v n xs)/\Hid (Blk w' gb R)
theorem Vz.keep{W w':World}(hb:Below W.heap.size W w')(h:Vz w v n gb R xs W):Vz w v n gb R xs w':=
 ⟨h.1.out.trans (hb.mono h.1.out.size),h.2.1.out.kept (row:=none) ⟨hb.os,hb.tape,hb.output,hb.size,fun j hj _=>hb.block j hj⟩ (by cases hq:v.ownBlock<;>simp),h.2.2.out.below hb h.2.2.out.lt⟩
theorem Vz.cells{w w':World}{v:Value}{n gb R:Nat}{xs:List Value}(h:Vz w v n gb R xs w'):
  w'.cell? ⟨gb,0,none⟩=some (.int .u64 (wd R 0))/\w'.cell? ⟨gb,1,none⟩=some (.int .u64 (wd R 1))/\w'.cell? ⟨gb,2,none⟩=some (.int .u64 (wd R 2))/\w'.cell? ⟨gb,3,none⟩=some (.int .u64 (wd R 3))/\
  w'.frozen? ⟨gb,0,none⟩=false/\w'.frozen? ⟨gb,1,none⟩=false/\w'.frozen? ⟨gb,2,none⟩=false/\w'.frozen? ⟨gb,3,none⟩=false/\gb<w'.heap.size:=
 have c:=h.2.2.out.cells;have t:=h.2.2.out.thaw
 ⟨c.1,c.2.1,c.2.2.1,c.2.2.2,t.1,t.2.1,t.2.2.1,t.2.2.2,h.2.2.out.lt⟩
theorem z9a(R:Nat)(hR:R<2^256)(w:World):(Op.equalIn 10000 51 (.agg #[.int .u64 (wd R 0),.int .u64 (wd R 1),.int .u64 (wd R 2),.int .u64 (wd R 3)]) (.agg #[.int .u64 0,.int .u64 0,.int .u64 0,.int .u64 0])).run prog w=.ok (decide (R=0)) w:=by
 have h:=z8S R 0 hR (by decide+kernel) w;simpa [Vx]using h
theorem Tryz.infoPair:(Tryz.prog.info? 285).map (fun i=>(i.zero,i.size,i.bytes))=some (some (.agg #[.int .i64 0,.int .i64 0]),2,16):=by kernel_rfl
def Tj:Value->Nat
 | .slice _ n _=>n
 |_=>0
theorem z2m{e size:Nat}(h:w.ownsRow base e size v n xs):Tj v=n:=by
 obtain⟨_,h|⟨g,cap,cur,rfl,_⟩⟩:=h
 ·rw[h.1,h.2];rfl
 ·rfl
theorem z9b(a b:Int):∀u∈[Value.int .i64 a,Value.int .i64 b],u.oneCell'=true:=by
 intro u hu;simp at hu;rcases hu with rfl|rfl<;>rfl
theorem z9c(C:Nat)(w:World)(hC:C<2^256)(hT:TabIs w):
  Calls prog 271 #[cv C] w fun e w'=>∃v,e=.returned v/\Hid (w'.ownsRow w.heap.size 285 2 v (rs C 256).length (pv (rs C 256).reverse))/\Hid (Below w.heap.size w w'):=by
 obtain⟨iP,hiP,hzP0,hzP1,hzP2⟩:=info_parts Tryz.infoPair;have HT:Hid (TabIs w):=hT;clear hT;unfold cv;go_enter func271,ntmps271
 go_wp2_with fail
 go_loopw [3,4] (fun v p wr=>∃g R gb:Nat,p=.pointer (some ⟨gb,0,none⟩)/\w.heap.size<=gb/\Hid (Jd C R g)/\Hid (Vz w v (rs C g).length gb R (pv (rs C g).reverse) wr)) (fun v _ _=>256-Tj v)
 case atStart=>
  refine⟨0,C,w.heap.size+1,rfl,by omega,hid (Jd.start C),hid ⟨hid ((B0q.alloc L0q _).alloc (by simp) _),hid (World.ownsRow_nil _ _ _ _),hid ?_⟩⟩;simpa using Blk.new (w.alloc (.cells #[.int .u64 (wd C 0),.int .u64 (wd C 1),.int .u64 (wd C 2),.int .u64 (wd C 3)] 51)) C
 case round=>
  obtain⟨g,R,gb,rfl,hgb,HL,HI⟩:=hrel;have hR:R<2^256:=HL.out.lt hC;have heq:=z9a R hR;obtain⟨c0,c1,c2,c3,f0,f1,f2,f3,hl⟩:=HI.out.cells;by_cases hz:R=0
  ·rw[decide_eq_true hz]at heq
   have HZ:Hid (R=0):=hz;clear hz
   go_wp2_with fail
   go_ret;have hL:=HL.out;rw[HZ.out]at hL;rw[hL.done];exact⟨_,rfl,HI.out.2.1,HI.out.1⟩
  ·rw[decide_eq_false hz]at heq
   have HZ:Hid (R≠0):=hz;clear hz
   go_wp2_with fail
   refine(z2i R _ hR (HT.out.below HI.out.1.out HT.out.lt)).mono ?_;rintro e w1 ⟨⟨lo,rfl,hlo⟩,hb1⟩;have HLo:Hid (Dc R lo):=by
    rcases hlo with⟨h0,_⟩|h0
    ·exact absurd h0 HZ.out
    ·exact h0
   have hlo2:lo<256:=HLo.out.1;have HI1:Hid (Vz w u3 (rs C g).length gb R (pv (rs C g).reverse) w1):=HI.out.keep hb1;clear hlo hb1 HI c0 c1 c2 c3 f0 f1 f2 f3 hl heq HZ;obtain⟨c0,c1,c2,c3,f0,f1,f2,f3,hl⟩:=HI1.out.cells;have HSp:Hid (∀w:World,Calls prog 184 #[.int .i64 lo,.int .i64 255] w fun e w'=>e=.returned (cv (seg lo 256))/\Below w.heap.size w w'):=fun w=>Ad lo 255 w (by omega) (by omega)
   go_wp2_with fail
   refine(Df _ hR _).mono ?_;rintro e w2 ⟨rfl,hb2⟩;have HI2:Hid (Vz w u3 (rs C g).length gb R (pv (rs C g).reverse) w2):=HI1.out.keep hb2;clear hb2 HI1 c0 c1 c2 c3 f0 f1 f2 f3 hl;dsimp only[cv]
   go_wp2_with fail
   refine(HSp.out _).mono ?_;rintro e w3 ⟨rfl,hb3⟩;have HI3:Hid (Vz w u3 (rs C g).length gb R (pv (rs C g).reverse) w3):=HI2.out.keep hb3;clear hb3 HI2;dsimp only[cv]
   go_wp2_with fail
   refine(Sc _ _ _).mono ?_;rintro e w4 ⟨rfl,hb4⟩;have HI4:Hid (Vz w u3 (rs C g).length gb R (pv (rs C g).reverse) w4):=HI3.out.keep hb4;clear hb4 HI3;dsimp only[cv]
   go_wp2_with fail
   refine(z2i _ _ (Nat.and_lt_two_pow _ (Ab lo 256 L0q)) (HT.out.below HI4.out.1.out HT.out.lt)).mono ?_;rintro e w5 ⟨⟨gap,rfl,hgap⟩,hb5⟩;obtain⟨k1,k2,k3,k4⟩:=HL.out.step hC HLo.out hgap;obtain⟨hi,rfl⟩:∃hi,gap=hi+1:=⟨gap-1,by omega⟩;have HRs:Hid (rs C (hi+1)=(lo,hi)::rs C g):=k3;have HL2:Hid (Jd C (R&&&Zj (seg lo (hi+1))) (hi+1)):=k4;have HI5:Hid (Vz w u3 (rs C g).length gb R (pv (rs C g).reverse) w5):=HI4.out.keep hb5;have hlen:=Cz C g;have hg6:=HL.out.1;clear hb5 HI4 hgap k3 k4
   go_wp2_with(first
    |(at_builtin;refine wpList_append_own _ rfl (.tmp 19) (.tmp 24) 283 rfl w.heap.size 285 iP (.agg #[.int .i64 0,.int .i64 0]) 2 16 Tryz.underlying283 hiP hzP0 hzP1 hzP2 rfl (by decide) _ _ _ rfl (HI5.out.2.1.out.alloc _) ⟨w5.heap.size,0,none⟩ 1 1 [.int .i64 lo,.int .i64 hi] rfl rfl (Kd _ _ _ _) (z9b _ _) (by unfold maxLen;omega) (by omega) (by have:=HI5.out.1.out.size;simp;omega) ?_;intro v2 w6 hown6 hgr6 hnil6))
   have hb6:Below w.heap.size w w6:=(HI5.out.1.out.alloc HI5.out.1.out.size _).grown hgr6 (by have:=HI5.out.1.out.size;simp;omega) (fun k e=>(HI5.out.2.1.out.lt k e).1);have hk6:Blk w6 gb R:=(hgr6.block gb (by have:=HI5.out.2.2.out.lt;simp;omega) (HI5.out.2.2.out.ne_own HI5.out.2.1.out)).trans (HI5.out.2.2.out.alloc _);have hn6:(rs C (hi+1)).length=(rs C g).length+1:=by rw[HRs.out];rfl
   have hx6:pv (rs C (hi+1)).reverse=pv (rs C g).reverse++[.int .i64 lo,.int .i64 hi]:=by rw[HRs.out,List.reverse_cons,Tz];rfl
   have HI6:Hid (Vz w v2 (rs C (hi+1)).length gb R (pv (rs C (hi+1)).reverse) w6):=⟨hid hb6,hid (by rw[hn6,hx6];exact hown6),hid hk6⟩;have hT:Vz w v2 (rs C (hi+1)).length gb R (pv (rs C (hi+1)).reverse) w6.drew:=HI6.out.keep B0q.drew;have hLn:Hid ((rs C (hi+1)).length<=hi+1):=Cz C (hi+1);have hS3:Hid (Tj u3=(rs C g).length):=z2m HI5.out.2.1.out;have hN6:Hid ((rs C (hi+1)).length=(rs C g).length+1):=hn6;have HSq:Hid (∀w:World,Calls prog 184 #[.int .i64 lo,.int .i64 hi] w fun e w'=>e=.returned (cv (seg lo (hi+1)))/\Below w.heap.size w w'):=fun w=>Ad lo hi w (by omega) (by omega)
   have hwh:IntKind.i64.wrap (hi:Int)=(hi:Int):=by rw[IntKind.wrap_i64];omega
   have hsg:seg lo (hi+1)<2^256:=Ab lo (hi+1) k2;clear hown6 hgr6 hnil6 HI5 hb6 hk6 hn6 hx6;obtain⟨c0,c1,c2,c3,f0,f1,f2,f3,hl⟩:=HI6.out.cells
   first|go_region_with (first
    |(go_at_call 184;refine(HSq.out _).mono ?_;rintro e wq ⟨rfl,hbr⟩;have hT:=Vz.keep hbr (by assumption);obtain⟨c0,c1,c2,c3,f0,f1,f2,f3,hl⟩:=hT.cells;dsimp only[cv])
    |(go_at_call 122;refine(Df _ ?hh _).mono ?_;(case hh=>assumption);rintro e wq ⟨rfl,hbr⟩;have hT:=Vz.keep hbr (by assumption);obtain⟨c0,c1,c2,c3,f0,f1,f2,f3,hl⟩:=hT.cells;dsimp only[cv])
    |(go_at_call 144;refine(Sc _ _ _).mono ?_;rintro e wq ⟨rfl,hbr⟩;have hT:=Vz.keep hbr (by assumption);obtain⟨c0,c1,c2,c3,f0,f1,f2,f3,hl⟩:=hT.cells;dsimp only[cv]))|skip
   all_goals
    have HQ:Hid (Vz w v2 (rs C (hi+1)).length gb R (pv (rs C (hi+1)).reverse) wq):=hT;have HQ2:Hid (Vz w v2 (rs C (hi+1)).length gb (R&&&Zj (seg lo (hi+1))) (pv (rs C (hi+1)).reverse) (st4 wq gb (R&&&Zj (seg lo (hi+1))))):=⟨hid (Below.st4 HQ.out.1.out hgb _),hid (z8Z HQ.out.2.2.out HQ.out.2.1.out),hid (HQ.out.2.2.out.st4 _)⟩;clear hT HI6
    go_wp2_with fail
    go_roundw
    case rel=>
     refine⟨hi+1,R&&&Zj (seg lo (hi+1)),wq.heap.size,rfl,Nat.le_trans HQ.out.1.out.size L0q,HL2,hid ⟨?_,?_,?_⟩⟩
     ·exact(HQ2.out.1.out.alloc (by rw[Pb];exact HQ.out.1.out.size) _)
     ·exact HQ2.out.2.1.out.alloc _
     ·have hb:=Blk.new (st4 wq gb (R&&&Zj (seg lo (hi+1)))) (R&&&Zj (seg lo (hi+1)))
      rw[Pb]at hb;exact hb
    case measure=>
     have e2:=z2m HQ.out.2.1.out;have e3:=hS3.out;have e4:=hN6.out;have e5:=hLn.out;simp;omega
end Go.Proofs.YtgmcjddjdidpjaaGreatDoor
