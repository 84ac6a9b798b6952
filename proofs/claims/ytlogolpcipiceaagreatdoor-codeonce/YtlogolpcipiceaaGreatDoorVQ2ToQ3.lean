/- Lemmas for the last text. Conditions: those that each names. -/
import Derived.Test.YtlogolpcipiceaaGreatDoorVX17ToQ1
import Derived.Deep.RegionWith
import Derived.Deep.RegionHeld3
import Derived.Laws.IdiomStrings
set_option linter.unusedVariables false
set_option maxRecDepth 100000
set_option maxHeartbeats 4000000
namespace Go.Proofs.YtlogolpcipiceaaGreatDoor
open Go.Proofs.Tryz
open Go.RowKit
variable {R base gb n:Nat} {W w w':World} {v:Value} {xs:List Value}
def rs(C:Nat):Nat->List (Nat×Nat)
 |0=>[]
 |b+1=>if C.testBit b then(match rs C b with
   |[]=>[(b,b)]
   |p::t=>if p.2+1=b then(p.1,b)::t else(b,b)::p::t)else rs C b
theorem Lb(C a:Nat):∀b,a<=b->(∀j,a<=j->j<b->C.testBit j=false)->rs C b=rs C a
 |0,h,_=>by rw[Nat.le_zero.1 h]
 |b+1,h,hz=>by
  by_cases e:a=b+1
  ·subst e;rfl
  ·rw[rs,hz b (by omega) (by omega)]
   simpa using Lb C a b (by omega) (fun j h1 h2=>hz j h1 (by omega))
theorem Fb(C:Nat):∀b p,p∈rs C b->p.1<=p.2/\p.2<b
 |0,p,h=>by simp[rs]at h
 |b+1,p,h=>by
  rw[rs]at h;split at h
  ·split at h
   ·simp at h;subst h;simp
   ·rename_i q t hq
    have ih:=Fb C b;rw[hq]at ih;split at h
    ·rename_i hb
     rcases List.mem_cons.1 h with rfl|h
     ·have:=ih q (List.mem_cons_self ..)
      simp;omega
     ·have:=ih p (List.mem_cons_of_mem _ h)
      omega
    ·rcases List.mem_cons.1 h with rfl|h
     ·simp
     ·have:=ih p h
      omega
  ·have:=Fb C b p h
   omega
theorem z0V(C lo:Nat)(hne:∀p t,rs C lo=p::t->p.2+1≠lo):∀n,(∀j,lo<=j->j<=lo+n->C.testBit j=true)->rs C (lo+n+1)=(lo,lo+n)::rs C lo
 |0,h=>by
  rw[Nat.add_zero,rs,h lo L0q (by omega),if_pos rfl];split
  ·rename_i e;rw[e];rfl
  ·rename_i p t e
   rw[if_neg (hne p t e),e];rfl
 |n+1,h=>by
  have ih:=z0V C lo hne n (fun j h1 h2=>h j h1 (by omega));rw[show lo+(n+1)+1=(lo+n+1)+1 by omega,rs,h (lo+n+1) (by omega) (by omega),if_pos rfl,ih];simp[Nat.add_assoc]
def z7p:List (Nat×Nat)->Prop
 |[]=>True
 |[p]=>p.1<=p.2
 |p::q::t=>p.1<=p.2/\q.2+1<p.1/\z7p (q::t)
def un:List (Nat×Nat)->Nat
 |[]=>0
 |p::t=>un t|||seg p.1 (p.2+1)
theorem z7q(C b:Nat):C%2^(b+1)=if C.testBit b then C%2^b|||2^b else C%2^b:=by
 apply Nat.eq_of_testBit_eq;intro j;split
 ·rename_i h
  rw[Nat.testBit_or,Nat.testBit_mod_two_pow,Nat.testBit_mod_two_pow,Nat.testBit_two_pow];by_cases h1:b=j
  ·subst h1;simp[h]
  ·by_cases h2:j<b
   ·simp[h1,h2,show j<b+1 by omega]
   ·simp[h1,h2,show ¬j<b+1 by omega]
 ·rename_i h
  rw[Nat.testBit_mod_two_pow,Nat.testBit_mod_two_pow];by_cases h1:b=j
  ·subst h1;simp[h]
  ·by_cases h2:j<b
   ·simp[h2,show j<b+1 by omega]
   ·simp[h2,show ¬j<b+1 by omega]
theorem z0W(C:Nat):∀b,un (rs C b)=C%2^b
 |0=>by simp[rs,un,Nat.mod_one]
 |b+1=>by
  have ih:=z0W C b;have lt:=Fb C b;rw[z7q,rs];split
  ·split
   ·rename_i hq
    rw[hq]at ih;rw[<-ih];simp only[un];rw[Nat.zero_or,Nat.zero_or,Fj b b L0q,Hd,Nat.zero_or]
   ·rename_i q t hq
    rw[hq]at ih lt;have hq2:=lt q (List.mem_cons_self ..);split
    ·rename_i hb
     rw[un,<-ih,un,Fj q.1 b (by omega),<-hb,Nat.or_assoc]
    ·rw[un,ih,Fj b b L0q,Hd,Nat.zero_or]
  ·exact ih
theorem z7r(C:Nat)(hC:C<2^256):un (rs C 256)=C:=by rw[z0W,Nat.mod_eq_of_lt hC]
theorem z7s(C R g lo gap:Nat)(hR:∀j,R.testBit j=(decide (g<=j)&&C.testBit j))(hg:g=0∨C.testBit g=false)(hl:R.testBit lo=true)(hlm:∀j,j<lo->R.testBit j=false)
  (hgap:lo<gap)(hb:∀j,lo<=j->j<gap->C.testBit j=true):rs C gap=(lo,gap-1)::rs C g:=by
 have h1:=hR lo;rw[hl]at h1;simp at h1;have e:rs C lo=rs C g:=Lb C g lo h1.1 (fun j h2 h3=>by
  have:=hR j;rw[hlm j h3]at this;simpa [h2]using this.symm)
 have hne:∀p t,rs C lo=p::t->p.2+1≠lo:=by
  intro p t hp;rw[e]at hp;have hlt:=Fb C g p (by rw[hp];exact List.mem_cons_self ..);rcases hg with rfl|hg
  ·simp[rs]at hp
  ·have:lo≠g:=fun h=>by subst h;rw[hg]at h1;simp at h1
   omega
 have h2:=z0V C lo hne (gap-1-lo) (fun j h3 h4=>hb j h3 (by omega));rw[show lo+(gap-1-lo)+1=gap by omega,show lo+(gap-1-lo)=gap-1 by omega]at h2;rw[h2,e]
theorem Nc(C:Nat):∀b,(rs C b).length<=b
 |0=>by simp[rs]
 |b+1=>by
  have:=Nc C b;rw[rs];split
  ·split
   ·simp
   ·rename_i q t hq
    rw[hq]at this;simp at this;split<;>simp<;>omega
  ·omega
def pv:List (Nat×Nat)->List Value
 |[]=>[]
 |p::t=>.int .i64 (p.1:Int):: .int .i64 (p.2:Int)::pv t
theorem Lh:∀(a b:List (Nat×Nat)),pv (a++b)=pv a++pv b
 |[],b=>rfl
 |p::t,b=>by simp only[List.cons_append,pv,Lh t b]
theorem z0X:∀(a:List (Nat×Nat)),(pv a).length=a.length*2
 |[]=>rfl
 |p::t=>by simp only[pv,List.length_cons,z0X t];omega
def Uv(C R g:Nat):Prop:=g<=256/\(∀j,R.testBit j=(decide (g<=j)&&C.testBit j))/\(g=0∨C.testBit g=false)
theorem Uv.start(C:Nat):Uv C C 0:=⟨by omega,fun j=>by simp,.inl rfl⟩
theorem Uv.lt{C g:Nat}(h:Uv C R g)(hC:C<2^256):R<2^256:=by
 apply Nat.lt_pow_two_of_testBit;intro j hj;rw[h.2.1 j,Nat.testBit_lt_two_pow (Nat.lt_of_lt_of_le hC (Nat.pow_le_pow_right (by decide) hj))];simp
theorem Uv.done{C g:Nat}(h:Uv C 0 g):rs C 256=rs C g:=Lb C g 256 h.1 (fun j h1 _=>by
 have:=h.2.1 j;rw[Nat.zero_testBit]at this;simpa [h1]using this.symm)
theorem Uv.step{C R g lo gap:Nat}(h:Uv C R g)(hC:C<2^256)(hl:Gm R lo)(hg:z0T (Zh R&&&seg lo 256) gap):
  lo<gap/\gap<=256/\rs C gap=(lo,gap-1)::rs C g/\Uv C (R&&&Zh (seg lo gap)) gap:=by
 have hR:=h.lt hC;have hx:∀j,(Zh R&&&seg lo 256).testBit j=(decide (j<256)&&decide (lo<=j)&& !R.testBit j):=by
  intro j;rw[Nat.testBit_and,Hh R hR,Fx];cases decide (j<256)<;>cases decide (lo<=j)<;>cases R.testBit j<;>rfl
 obtain⟨l1,l2,l3⟩:=hl;have key:lo<gap/\gap<=256/\(∀j,lo<=j->j<gap->R.testBit j=true)/\R.testBit gap=false:=by
  rcases hg with⟨h0,rfl⟩|⟨g1,g2,g3⟩
  ·refine⟨l1,Nat.le_refl _,fun j h1 h2=> ?_,?_⟩
   ·have:=hx j
    rw[h0,Nat.zero_testBit]at this;simpa [h1,h2]using this.symm
   ·rw[Nat.testBit_lt_two_pow hR]
  ·have e2:=hx gap
   rw[g2]at e2;simp at e2;have hlg:lo≠gap:=fun e=>by rw[<-e]at e2;rw[l2]at e2;simp at e2
   refine⟨by omega,by omega,fun j h1 h2=> ?_,e2.2⟩;have:=hx j;rw[g3 j h2]at this;simpa [h1,show j<256 by omega]using this.symm
 obtain⟨k1,k2,k3,k4⟩:=key;have hgl:g<=lo:=by
  have:=h.2.1 lo;rw[l2]at this;simp at this;exact this.1
 have kC:∀j,lo<=j->j<gap->C.testBit j=true:=fun j h1 h2=>by
  have:=h.2.1 j;rw[k3 j h1 h2]at this;simp at this;exact this.2
 refine⟨k1,k2,z7s C R g lo gap h.2.1 h.2.2 l2 l3 k1 kC,k2,fun j=> ?_,.inr ?_⟩
 ·rw[Nat.testBit_and,Hh _ (Nz lo gap k2),Fx]
  by_cases h1:gap<=j
  ·have e:=h.2.1 j
   rw[e];by_cases h2:j<256
   ·simp[h1,h2,show ¬j<gap by omega,show g<=j by omega]
   ·rw[Nat.testBit_lt_two_pow (Nat.lt_of_lt_of_le hC (Nat.pow_le_pow_right (by decide) (by omega)))]
    simp
  ·by_cases h2:lo<=j
   ·simp[h1,h2,show j<gap by omega]
   ·rw[l3 j (by omega)]
    simp[h1]
 ·have:=h.2.1 gap
  rw[k4]at this;simpa [show g<=gap by omega]using this.symm
theorem Blk.ne_own(h:Blk w gb R)(ho:w.ownsRow base 327 2 v n xs):some gb≠v.ownBlock:=by
 obtain⟨_,ho|⟨g,cap,cur,rfl,_,hh,_⟩⟩:=ho
 ·rw[ho.1];simp[Value.ownBlock]
 ·intro e
  simp[Value.ownBlock]at e;subst e;unfold Blk at h;rw[h]at hh;simp at hh
theorem z7t{D:Nat}(h:Blk w gb R)(ho:w.ownsRow base 327 2 v n xs):(st4 w gb D).ownsRow base 327 2 v n xs:=
 ho.kept (row:=some gb) ⟨rfl,rfl,rfl,by rw[Hm];exact Nat.le_refl _,fun j hj hne=>by
  have hne':j≠gb:=fun e=>hne (by rw[e])
  unfold st4;rw[Below.heap_setCell _ _ _ _ hne',Below.heap_setCell _ _ _ _ hne',Below.heap_setCell _ _ _ _ hne',Below.heap_setCell _ _ _ _ hne']⟩ (.inr (Ne.symm (h.ne_own ho)))
def Xc(w:World)(v:Value)(n gb R:Nat)(xs:List Value)(w':World):Prop:=
 Hid (Below w.heap.size w w')/\Hid (w'.ownsRow w.heap.size 327 2 v n xs)/\Hid (Blk w' gb R)
theorem Xc.keep(hb:Below W.heap.size W w')(h:Xc w v n gb R xs W):Xc w v n gb R xs w':=
 ⟨h.1.out.trans (hb.mono h.1.out.size),h.2.1.out.kept (row:=none) ⟨hb.os,hb.tape,hb.output,hb.size,fun j hj _=>hb.block j hj⟩ (by cases hq:v.ownBlock<;>simp),h.2.2.out.below hb h.2.2.out.lt⟩
theorem Xc.cells{w w':World}{v:Value}{n gb R:Nat}{xs:List Value}(h:Xc w v n gb R xs w'):
  w'.cell? ⟨gb,0,none⟩=some (.int .u64 (wd R 0))/\w'.cell? ⟨gb,1,none⟩=some (.int .u64 (wd R 1))/\w'.cell? ⟨gb,2,none⟩=some (.int .u64 (wd R 2))/\w'.cell? ⟨gb,3,none⟩=some (.int .u64 (wd R 3))/\
  w'.frozen? ⟨gb,0,none⟩=false/\w'.frozen? ⟨gb,1,none⟩=false/\w'.frozen? ⟨gb,2,none⟩=false/\w'.frozen? ⟨gb,3,none⟩=false/\gb<w'.heap.size:=
 have c:=h.2.2.out.cells;have t:=h.2.2.out.thaw
 ⟨c.1,c.2.1,c.2.2.1,c.2.2.2,t.1,t.2.1,t.2.2.1,t.2.2.2,h.2.2.out.lt⟩
theorem z7u(R:Nat)(hR:R<2^256)(w:World):(Op.equalIn 10000 68 (.agg #[.int .u64 (wd R 0),.int .u64 (wd R 1),.int .u64 (wd R 2),.int .u64 (wd R 3)]) (.agg #[.int .u64 0,.int .u64 0,.int .u64 0,.int .u64 0])).run prog w=.ok (decide (R=0)) w:=by
 have h:=z7m R 0 hR (by decide+kernel) w;simpa [Jq]using h
theorem Tryz.infoPair:(Tryz.prog.info? 327).map (fun i=>(i.zero,i.size,i.bytes))=some (some (.agg #[.int .i64 0,.int .i64 0]),2,16):=by kernel_rfl
def Ld:Value->Nat
 | .slice _ n _=>n
 |_=>0
theorem z0Y{e size:Nat}(h:w.ownsRow base e size v n xs):Ld v=n:=by
 obtain⟨_,h|⟨g,cap,cur,rfl,_⟩⟩:=h
 ·rw[h.1,h.2];rfl
 ·rfl
theorem z7v(a b:Int):∀u∈[Value.int .i64 a,Value.int .i64 b],u.oneCell'=true:=by
 intro u hu;simp at hu;rcases hu with rfl|rfl<;>rfl
theorem z7w(C:Nat)(w:World)(hC:C<2^256)(hT:TabIs w):
  Calls prog 306 #[cv C] w fun e w'=>∃v,e=.returned v/\Hid (w'.ownsRow w.heap.size 327 2 v (rs C 256).length (pv (rs C 256).reverse))/\Hid (Below w.heap.size w w'):=by
 obtain⟨iP,hiP,hzP0,hzP1,hzP2⟩:=info_parts Tryz.infoPair;have HT:Hid (TabIs w):=hT;clear hT;unfold cv;go_enter func306,ntmps306
 go_wp2_with fail
 go_loopw [3,4] (fun v p wr=>∃g R gb:Nat,p=.pointer (some ⟨gb,0,none⟩)/\w.heap.size<=gb/\Hid (Uv C R g)/\Hid (Xc w v (rs C g).length gb R (pv (rs C g).reverse) wr)) (fun v _ _=>256-Ld v)
 case atStart=>
  refine⟨0,C,w.heap.size+1,rfl,by omega,hid (Uv.start C),hid ⟨hid ((B0q.alloc L0q _).alloc (by simp) _),hid (World.ownsRow_nil _ _ _ _),hid ?_⟩⟩;simpa using Blk.new (w.alloc (.cells #[.int .u64 (wd C 0),.int .u64 (wd C 1),.int .u64 (wd C 2),.int .u64 (wd C 3)] 68)) C
 case round=>
  obtain⟨g,R,gb,rfl,hgb,HL,HI⟩:=hrel;have hR:R<2^256:=HL.out.lt hC;have heq:=z7u R hR;obtain⟨c0,c1,c2,c3,f0,f1,f2,f3,hl⟩:=HI.out.cells;by_cases hz:R=0
  ·rw[decide_eq_true hz]at heq
   have HZ:Hid (R=0):=hz;clear hz
   go_wp2_with fail
   go_ret;have hL:=HL.out;rw[HZ.out]at hL;rw[hL.done];exact⟨_,rfl,HI.out.2.1,HI.out.1⟩
  ·rw[decide_eq_false hz]at heq
   have HZ:Hid (R≠0):=hz;clear hz
   go_wp2_with fail
   refine(z0U R _ hR (HT.out.below HI.out.1.out HT.out.lt)).mono ?_;rintro e w1 ⟨⟨lo,rfl,hlo⟩,hb1⟩;have HLo:Hid (Gm R lo):=by
    rcases hlo with⟨h0,_⟩|h0
    ·exact absurd h0 HZ.out
    ·exact h0
   have hlo2:lo<256:=HLo.out.1;have HI1:Hid (Xc w u3 (rs C g).length gb R (pv (rs C g).reverse) w1):=HI.out.keep hb1;clear hlo hb1 HI c0 c1 c2 c3 f0 f1 f2 f3 hl heq HZ;obtain⟨c0,c1,c2,c3,f0,f1,f2,f3,hl⟩:=HI1.out.cells;have HSp:Hid (∀w:World,Calls prog 230 #[.int .i64 lo,.int .i64 255] w fun e w'=>e=.returned (cv (seg lo 256))/\Below w.heap.size w w'):=fun w=>Wx lo 255 w (by omega) (by omega)
   go_wp2_with fail
   refine(Wq _ hR _).mono ?_;rintro e w2 ⟨rfl,hb2⟩;have HI2:Hid (Xc w u3 (rs C g).length gb R (pv (rs C g).reverse) w2):=HI1.out.keep hb2;clear hb2 HI1 c0 c1 c2 c3 f0 f1 f2 f3 hl;dsimp only[cv]
   go_wp2_with fail
   refine(HSp.out _).mono ?_;rintro e w3 ⟨rfl,hb3⟩;have HI3:Hid (Xc w u3 (rs C g).length gb R (pv (rs C g).reverse) w3):=HI2.out.keep hb3;clear hb3 HI2;dsimp only[cv]
   go_wp2_with fail
   refine(z0S _ _ _).mono ?_;rintro e w4 ⟨rfl,hb4⟩;have HI4:Hid (Xc w u3 (rs C g).length gb R (pv (rs C g).reverse) w4):=HI3.out.keep hb4;clear hb4 HI3;dsimp only[cv]
   go_wp2_with fail
   refine(z0U _ _ (Nat.and_lt_two_pow _ (Nz lo 256 L0q)) (HT.out.below HI4.out.1.out HT.out.lt)).mono ?_;rintro e w5 ⟨⟨gap,rfl,hgap⟩,hb5⟩;obtain⟨k1,k2,k3,k4⟩:=HL.out.step hC HLo.out hgap;obtain⟨hi,rfl⟩:∃hi,gap=hi+1:=⟨gap-1,by omega⟩;have HRs:Hid (rs C (hi+1)=(lo,hi)::rs C g):=k3;have HL2:Hid (Uv C (R&&&Zh (seg lo (hi+1))) (hi+1)):=k4;have HI5:Hid (Xc w u3 (rs C g).length gb R (pv (rs C g).reverse) w5):=HI4.out.keep hb5;have hlen:=Nc C g;have hg6:=HL.out.1;clear hb5 HI4 hgap k3 k4
   go_wp2_with(first
    |(at_builtin;refine wpList_append_own _ rfl (.tmp 19) (.tmp 24) 325 rfl w.heap.size 327 iP (.agg #[.int .i64 0,.int .i64 0]) 2 16 Tryz.underlying325 hiP hzP0 hzP1 hzP2 rfl (by decide) _ _ _ rfl (HI5.out.2.1.out.alloc _) ⟨w5.heap.size,0,none⟩ 1 1 [.int .i64 lo,.int .i64 hi] rfl rfl (Fw _ _ _ _) (z7v _ _) (by unfold maxLen;omega) (by omega) (by have:=HI5.out.1.out.size;simp;omega) ?_;intro v2 w6 hown6 hgr6 hnil6))
   have hb6:Below w.heap.size w w6:=(HI5.out.1.out.alloc HI5.out.1.out.size _).grown hgr6 (by have:=HI5.out.1.out.size;simp;omega) (fun k e=>(HI5.out.2.1.out.lt k e).1);have hk6:Blk w6 gb R:=(hgr6.block gb (by have:=HI5.out.2.2.out.lt;simp;omega) (HI5.out.2.2.out.ne_own HI5.out.2.1.out)).trans (HI5.out.2.2.out.alloc _);have hn6:(rs C (hi+1)).length=(rs C g).length+1:=by rw[HRs.out];rfl
   have hx6:pv (rs C (hi+1)).reverse=pv (rs C g).reverse++[.int .i64 lo,.int .i64 hi]:=by rw[HRs.out,List.reverse_cons,Lh];rfl
   have HI6:Hid (Xc w v2 (rs C (hi+1)).length gb R (pv (rs C (hi+1)).reverse) w6):=⟨hid hb6,hid (by rw[hn6,hx6];exact hown6),hid hk6⟩;have hT:Xc w v2 (rs C (hi+1)).length gb R (pv (rs C (hi+1)).reverse) w6.drew:=HI6.out.keep B0q.drew;have hLn:Hid ((rs C (hi+1)).length<=hi+1):=Nc C (hi+1);have hS3:Hid (Ld u3=(rs C g).length):=z0Y HI5.out.2.1.out;have hN6:Hid ((rs C (hi+1)).length=(rs C g).length+1):=hn6;have HSq:Hid (∀w:World,Calls prog 230 #[.int .i64 lo,.int .i64 hi] w fun e w'=>e=.returned (cv (seg lo (hi+1)))/\Below w.heap.size w w'):=fun w=>Wx lo hi w (by omega) (by omega)
   have hwh:IntKind.i64.wrap (hi:Int)=(hi:Int):=by rw[IntKind.wrap_i64];omega
   have hsg:seg lo (hi+1)<2^256:=Nz lo (hi+1) k2;clear hown6 hgr6 hnil6 HI5 hb6 hk6 hn6 hx6;obtain⟨c0,c1,c2,c3,f0,f1,f2,f3,hl⟩:=HI6.out.cells
   first|go_region_with (first
    |(go_at_call 230;refine(HSq.out _).mono ?_;rintro e wq ⟨rfl,hbr⟩;have hT:=Xc.keep hbr (by assumption);obtain⟨c0,c1,c2,c3,f0,f1,f2,f3,hl⟩:=hT.cells;dsimp only[cv])
    |(go_at_call 194;refine(Wq _ ?hh _).mono ?_;(case hh=>assumption);rintro e wq ⟨rfl,hbr⟩;have hT:=Xc.keep hbr (by assumption);obtain⟨c0,c1,c2,c3,f0,f1,f2,f3,hl⟩:=hT.cells;dsimp only[cv])
    |(go_at_call 310;refine(z0S _ _ _).mono ?_;rintro e wq ⟨rfl,hbr⟩;have hT:=Xc.keep hbr (by assumption);obtain⟨c0,c1,c2,c3,f0,f1,f2,f3,hl⟩:=hT.cells;dsimp only[cv]))|skip
   all_goals
    have HQ:Hid (Xc w v2 (rs C (hi+1)).length gb R (pv (rs C (hi+1)).reverse) wq):=hT;have HQ2:Hid (Xc w v2 (rs C (hi+1)).length gb (R&&&Zh (seg lo (hi+1))) (pv (rs C (hi+1)).reverse) (st4 wq gb (R&&&Zh (seg lo (hi+1))))):=⟨hid (Below.st4 HQ.out.1.out hgb _),hid (z7t HQ.out.2.2.out HQ.out.2.1.out),hid (HQ.out.2.2.out.st4 _)⟩;clear hT HI6
    go_wp2_with fail
    go_roundw
    case rel=>
     refine⟨hi+1,R&&&Zh (seg lo (hi+1)),wq.heap.size,rfl,Nat.le_trans HQ.out.1.out.size L0q,HL2,hid ⟨?_,?_,?_⟩⟩
     ·exact(HQ2.out.1.out.alloc (by rw[Hm];exact HQ.out.1.out.size) _)
     ·exact HQ2.out.2.1.out.alloc _
     ·have hb:=Blk.new (st4 wq gb (R&&&Zh (seg lo (hi+1)))) (R&&&Zh (seg lo (hi+1)))
      rw[Hm]at hb;exact hb
    case measure=>
     have e2:=z0Y HQ.out.2.1.out;have e3:=hS3.out;have e4:=hN6.out;have e5:=hLn.out;simp;omega
def sgn(b:Nat):List Nat:=if b=10 then [92,110]else if b=13 then [92,114]else if b=9 then [92,116]else if mark b then [92,b]else if 32<=b/\b<=126 then [b]else [92,120,Xf (b/16),Xf (b%16)]
theorem Nl(base n b:Nat)(v:Value)(xs:List Value)(w:World)(hb:b<256)(ho:w.ownsRow base 5 1 v n xs)(hn:n<=100000)(hbase:base<=w.heap.size):
  Calls prog 307 #[v,.int .u8 b] w fun e w'=>∃v',e=.returned v'/\Hid (App base w n xs (sgn b) v' w'):=by
 obtain⟨i0,hi,hz0,hz1,hz2⟩:=info_parts Tryz.infoByte;have HO:Hid (w.ownsRow base 5 1 v n xs):=ho;have HM:Hid (∀w:World,Calls prog 261 #[.int .u8 b] w fun e w'=>e=.returned (.bool (mark b))/\w'=w):=fun w=>z5t b w hb
 have HP:Hid (∀w:World,Calls prog 262 #[.int .u8 b] w fun e w'=>e=.returned (.bool (decide (32<=b)&&decide (b<=126)))/\w'=w):=fun w=>z5u b w hb
 clear ho;by_cases h10:b=10
 ·have HS:Hid (sgn b=[92,110]):=by rw[h10];rfl
  have a10:((b:Int) == 10)=true:=by simp;omega
  clear h10;go_enter func307,ntmps307
  go_wp2_with(first|(at_builtin;refine wpList_append_own _ rfl (.tmp 20) (.tmp 21) 48 rfl base 5 i0 (.int .u8 0) 1 1 Tryz.underlying48 hi hz0 hz1 hz2 rfl (by decide) _ _ _ rfl (HO.out.alloc _) ⟨w.heap.size,0,none⟩ 2 2 [.int .u8 92,.int .u8 110] rfl rfl (Fw _ _ _ _) (Xw [92,110]) (by unfold maxLen;omega) (by omega) (by have:=hbase;simp;omega) ?_;intro v2 w2 hown2 hgr2 hnil2))
  go_ret;rw[HS.out];exact⟨_,rfl,hid (App.mk HO.out hbase rfl rfl hown2 hgr2)⟩
 by_cases h13:b=13
 ·have HS:Hid (sgn b=[92,114]):=by rw[h13];rfl
  have a10:((b:Int) == 10)=false:=by simp;omega
  have a13:((b:Int) == 13)=true:=by simp;omega
  clear h13;go_enter func307,ntmps307
  go_wp2_with(first|(at_builtin;refine wpList_append_own _ rfl (.tmp 23) (.tmp 24) 48 rfl base 5 i0 (.int .u8 0) 1 1 Tryz.underlying48 hi hz0 hz1 hz2 rfl (by decide) _ _ _ rfl (HO.out.alloc _) ⟨w.heap.size,0,none⟩ 2 2 [.int .u8 92,.int .u8 114] rfl rfl (Fw _ _ _ _) (Xw [92,114]) (by unfold maxLen;omega) (by omega) (by have:=hbase;simp;omega) ?_;intro v2 w2 hown2 hgr2 hnil2))
  go_ret;rw[HS.out];exact⟨_,rfl,hid (App.mk HO.out hbase rfl rfl hown2 hgr2)⟩
 by_cases h9:b=9
 ·have HS:Hid (sgn b=[92,116]):=by rw[h9];rfl
  have a10:((b:Int) == 10)=false:=by simp;omega
  have a13:((b:Int) == 13)=false:=by simp;omega
  have a9:((b:Int) == 9)=true:=by simp;omega
  clear h9;go_enter func307,ntmps307
  go_wp2_with(first|(at_builtin;refine wpList_append_own _ rfl (.tmp 26) (.tmp 27) 48 rfl base 5 i0 (.int .u8 0) 1 1 Tryz.underlying48 hi hz0 hz1 hz2 rfl (by decide) _ _ _ rfl (HO.out.alloc _) ⟨w.heap.size,0,none⟩ 2 2 [.int .u8 92,.int .u8 116] rfl rfl (Fw _ _ _ _) (Xw [92,116]) (by unfold maxLen;omega) (by omega) (by have:=hbase;simp;omega) ?_;intro v2 w2 hown2 hgr2 hnil2))
  go_ret;rw[HS.out];exact⟨_,rfl,hid (App.mk HO.out hbase rfl rfl hown2 hgr2)⟩
 have a10:((b:Int) == 10)=false:=by simp;omega
 have a13:((b:Int) == 13)=false:=by simp;omega
 have a9:((b:Int) == 9)=false:=by simp;omega
 have H3:Hid (b≠10/\b≠13/\b≠9):=⟨h10,h13,h9⟩;clear h10 h13 h9;cases hm:mark b
 ·rw[hm]at HM
  cases hp:(decide (32<=b)&&decide (b<=126))
  ·rw[hp]at HP
   have HS:Hid (sgn b=[92,120,Xf (b/16),Xf (b%16)]):=by
    have hp2:¬(32<=b/\b<=126):=by simp at hp;omega
    show sgn b=_;rw[sgn,if_neg H3.out.1,if_neg H3.out.2.1,if_neg H3.out.2.2,hm,if_neg (by simp),if_neg hp2]
   clear hp hm;obtain⟨q,hq⟩:∃q,q=b/16:=⟨_,rfl⟩;obtain⟨r,hr⟩:∃r,r=b%16:=⟨_,rfl⟩;have d1:=Ad q (by omega);have d2:=Ad r (by omega);obtain⟨dq,hdq⟩:∃d,d=Xf q:=⟨_,rfl⟩;obtain⟨dr,hdr⟩:∃d,d=Xf r:=⟨_,rfl⟩;rw[<-hq,<-hr,<-hdq,<-hdr]at HS;rw[<-hdq]at d1;rw[<-hdr]at d2;have e1:(b:Int)/16=(q:Int):=by omega
   have e2:bits BinOp.and IntKind.u8 (b:Int) 15=(r:Int):=by
    have:=u8_and15 (x:=(b:Int)) (by omega) (by omega);rw[this];omega
   clear hq hr hdq hdr;go_enter func307,ntmps307
   go_wp2_with fail
   refine(HM.out _).mono ?_;rintro e w1 ⟨rfl,rfl⟩
   go_wp2_with fail
   refine(HP.out _).mono ?_;rintro e w1 ⟨rfl,rfl⟩
   go_wp2_with fail
   have HO1:Hid (w1.drew.ownsRow base 5 1 v n xs):=HO.out.kept (row:=none) ⟨rfl,rfl,rfl,Nat.le_refl _,fun j hj _=>rfl⟩ (by cases hq:v.ownBlock<;>simp)
   go_region_held3 (fun _=>True) (trivial) (first
    |(rw[if_pos (by rfl)];refine wp_append_own _ (.tmp 36) (.tmp 43) 48 rfl base 5 i0 (.int .u8 0) 1 1 Tryz.underlying48 hi hz0 hz1 hz2 rfl (by decide) _ _ _ rfl (HO1.out.alloc _) ⟨w1.heap.size,0,none⟩ 4 4 [.int .u8 92,.int .u8 120,.int .u8 dq,.int .u8 dr] rfl rfl (Wc _ _ _ _ _ _) (Xw [92,120,(dq:Int),(dr:Int)]) (by unfold maxLen;omega) (by omega) (by have:=hbase;simp;omega) ?_;intro v2 w2 hown2 hgr2 hnil2))
   all_goals
    go_wp2_with fail
    go_ret;rw[HS.out];exact⟨_,rfl,hid (App.of_drew (App.mk HO1.out hbase rfl rfl hown2 hgr2))⟩
  ·rw[hp]at HP
   have HS:Hid (sgn b=[b]):=by
    have hp2:32<=b/\b<=126:=by simpa using hp
    show sgn b=[b];rw[sgn,if_neg H3.out.1,if_neg H3.out.2.1,if_neg H3.out.2.2,hm,if_neg (by simp),if_pos hp2]
   clear hp hm;go_enter func307,ntmps307
   go_wp2_with fail
   refine(HM.out _).mono ?_;rintro e w1 ⟨rfl,rfl⟩
   go_wp2_with fail
   refine(HP.out _).mono ?_;rintro e w1 ⟨rfl,rfl⟩
   go_wp2_with(first|(at_builtin;refine wpList_append_own _ rfl (.tmp 32) (.tmp 34) 48 rfl base 5 i0 (.int .u8 0) 1 1 Tryz.underlying48 hi hz0 hz1 hz2 rfl (by decide) _ _ _ rfl (HO.out.alloc _) ⟨w1.heap.size,0,none⟩ 1 1 [.int .u8 b] rfl rfl (Vf _ _ _) (Xw [(b:Int)]) (by unfold maxLen;omega) (by omega) (by have:=hbase;simp;omega) ?_;intro v2 w2 hown2 hgr2 hnil2))
   go_ret;rw[HS.out];exact⟨_,rfl,hid (App.mk HO.out hbase rfl rfl hown2 hgr2)⟩
 ·rw[hm]at HM
  have HS:Hid (sgn b=[92]++[b]):=by
   show sgn b=[92,b];rw[sgn,if_neg H3.out.1,if_neg H3.out.2.1,if_neg H3.out.2.2,hm,if_pos rfl]
  clear hm;go_enter func307,ntmps307
  go_wp2_with fail
  refine(HM.out _).mono ?_;rintro e w1 ⟨rfl,rfl⟩
  go_wp2_with(first
   |(at_builtin;refine wpList_append_own _ rfl (.tmp 29) (.tmp 30) 48 rfl base 5 i0 (.int .u8 0) 1 1 Tryz.underlying48 hi hz0 hz1 hz2 rfl (by decide) _ _ _ rfl (HO.out.alloc _) ⟨w1.heap.size,0,none⟩ 1 1 [.int .u8 92] rfl rfl (Vf _ _ _) (Xw [92]) (by unfold maxLen;omega) (by omega) (by have:=hbase;simp;omega) ?_;intro v2 w2 hown2 hgr2 hnil2;have HA:Hid (App base _ n xs [92] v2 w2):=App.mk HO.out hbase rfl rfl hown2 hgr2;have hbase2:base<=w2.heap.size:=HA.out.base hbase;have HO2:Hid (w2.ownsRow base 5 1 v2 (n+1) (xs++nv [92])):=HA.out.1;clear hown2 hgr2 hnil2)
   |(at_builtin;refine wpList_append_own _ rfl (.tmp 32) (.tmp 34) 48 rfl base 5 i0 (.int .u8 0) 1 1 Tryz.underlying48 hi hz0 hz1 hz2 rfl (by decide) _ _ _ rfl (HO2.out.alloc _) ⟨w2.heap.size,0,none⟩ 1 1 [.int .u8 b] rfl rfl (Vf _ _ _) (Xw [(b:Int)]) (by unfold maxLen;omega) (by omega) (by have:=hbase2;simp;omega) ?_;intro v3 w3 hown3 hgr3 hnil3))
  go_ret;rw[HS.out];exact⟨_,rfl,hid (HA.out.trans (App.mk HO2.out hbase2 rfl rfl hown3 hgr3))⟩
def Yf(p:Nat×Nat):List Nat:=sgn p.1++((if 1<p.2-p.1 then [45]else [])++(if p.1<p.2 then sgn p.2 else []))
def Qg:List (Nat×Nat)->List Nat
 |[]=>[]
 |p::t=>Yf p++Qg t
theorem Cq:∀(a:List (Nat×Nat)) (p:Nat×Nat),Qg (a++[p])=Qg a++Yf p
 |[],p=>by simp[Qg]
 |q::t,p=>by simp only[List.cons_append,Qg,Cq t p,List.append_assoc]
theorem Mz(b:Nat):1<=(sgn b).length/\(sgn b).length<=4:=by
 unfold sgn;split
 ·simp
 ·split
  ·simp
  ·split
   ·simp
   ·split
    ·simp
    ·split<;>simp
theorem z0Z(b:Nat)(hb:b<256):∀x∈sgn b,x<256:=by
 have h1:=Bd (b/16) (by omega);have h2:=Bd (b%16) (by omega);unfold sgn;split
 ·intro x hx;simp at hx;omega
 ·split
  ·intro x hx;simp at hx;omega
  ·split
   ·intro x hx;simp at hx;omega
   ·split
    ·intro x hx;simp at hx;omega
    ·split
     ·intro x hx;simp at hx;omega
     ·intro x hx;simp at hx;omega
theorem z7x(p:Nat×Nat):(Yf p).length<=9:=by
 have h1:=Mz p.1;have h2:=Mz p.2;unfold Yf;simp only[List.length_append];split<;>split<;>simp<;>omega
theorem z7y(p:Nat×Nat)(h1:p.1<256)(h2:p.2<256):∀x∈Yf p,x<256:=by
 intro x hx;unfold Yf at hx;simp only[List.mem_append]at hx;rcases hx with hx|hx|hx
 ·exact z0Z p.1 h1 x hx
 ·split at hx
  ·simp at hx;omega
  ·simp at hx
 ·split at hx
  ·exact z0Z p.2 h2 x hx
  ·simp at hx
theorem Lm:∀(a:List (Nat×Nat)),(Qg a).length<=9*a.length
 |[]=>by simp[Qg]
 |p::t=>by have:=Lm t;have:=z7x p;simp only[Qg,List.length_append,List.length_cons];omega
theorem z1a:∀(a:List (Nat×Nat)),(∀p∈a,p.1<256/\p.2<256)->∀x∈Qg a,x<256
 |[],_,x,hx=>by simp[Qg]at hx
 |p::t,h,x,hx=>by
  simp only[Qg,List.mem_append]at hx;rcases hx with hx|hx
  ·exact z7y p (h p (List.mem_cons_self ..)).1 (h p (List.mem_cons_self ..)).2 x hx
  ·exact z1a t (fun q hq=>h q (List.mem_cons_of_mem _ hq)) x hx
def txt(C:Nat):List Nat:=([91]++Qg (rs C 256).reverse)++[93]
theorem Lp(C:Nat):∀x∈txt C,x<256:=by
 intro x hx;unfold txt at hx;simp only[List.mem_append,List.mem_singleton]at hx;rcases hx with(rfl|hx)|rfl
 ·omega
 ·exact z1a _ (fun p hp=>by have:=Fb C 256 p (List.mem_reverse.1 hp);omega) x hx
 ·omega
theorem z7z(a:List (Nat×Nat))(p:Nat×Nat)(b:List (Nat×Nat)):(pv (a++p::b))[a.length*2]? =some (.int .i64 (p.1:Int))/\(pv (a++p::b))[a.length*2+1]? =some (.int .i64 (p.2:Int)):=by
 rw[Lh];have:=z0X a;constructor
 ·rw[List.getElem?_append_right (by omega),this,Nat.sub_self];rfl
 ·rw[List.getElem?_append_right (by omega),this,show a.length*2+1-a.length*2=1 by omega];rfl
theorem z7A(h:w.ownsRow base 327 2 v n xs)(hb:NB w w'):w'.ownsRow base 327 2 v n xs:=by
 refine⟨h.1,?_⟩;rcases h.2 with hn|⟨g,cap,cur,rfl,h1,h2,rest⟩
 ·exact .inl hn
 ·refine .inr ⟨g,cap,cur,rfl,h1,?_,rest⟩
  have hg:g<w.heap.size:=by
   rcases Nat.lt_or_ge g w.heap.size with h3|h3
   ·exact h3
   ·rw[Array.getElem?_eq_none h3]at h2;cases h2
  rw[hb.2 g hg (fun c hc=>by rw[h2]at hc;simp at hc)];exact h2
def Tx(w:World)(base2:Nat)(rv:Value)(L:List (Nat×Nat))(v:Value)(l:List Nat)(w':World):Prop:=
 Hid (Below w.heap.size w w')/\Hid (w'.ownsRow base2 327 2 rv L.length (pv L))/\Hid (w'.ownsRow w.heap.size 5 1 v l.length (nv l))
theorem Tx.app{base2:Nat}{rv v':Value}{L:List (Nat×Nat)}{l m:List Nat}(h:Tx w base2 rv L v l W)(k:App w.heap.size W l.length (nv l) m v' w'):Tx w base2 rv L v' (l++m) w':=
 ⟨hid (h.1.out.trans k.2.1),hid (z7A h.2.1.out k.2.2),hid (by rw[List.length_append,Fk];exact k.1)⟩
theorem Tx.keep{base2:Nat}{rv:Value}{L:List (Nat×Nat)}{l:List Nat}(h:Tx w base2 rv L v l W)(hb:Below W.heap.size W w'):Tx w base2 rv L v l w':=
 ⟨hid (h.1.out.trans (hb.mono h.1.out.size)),hid (Ux h.2.1.out hb),hid (Ux h.2.2.out hb)⟩
theorem z7B(C:Nat)(w:World)(hC:C<2^256)(hT:TabIs w):
  Calls prog 301 #[cv C] w fun e w'=>e=.returned (.string (nb (txt C)))/\Below w.heap.size w w':=by
 obtain⟨i0,hi0,hz0,hz1,hz2⟩:=info_parts Tryz.infoByte;have HT:Hid (TabIs w):=hT;clear hT;unfold cv;go_enter func301,ntmps301
 go_wp2_with fail
 refine(z7w C _ hC ((HT.out.alloc _).alloc _)).mono ?_;rintro e w2 ⟨rv,rfl,HO2,hb2⟩;obtain⟨L,hL⟩:∃L,L=(rs C 256).reverse:=⟨_,rfl⟩;have hLl:L.length=(rs C 256).length:=by rw[hL];simp
 have hL6:L.length<=256:=by rw[hLl];exact Nc C 256
 have HQ2:Hid (∀p∈L,p.1<=p.2/\p.2<256):=by rw[hL];exact fun p hp=>Fb C 256 p (List.mem_reverse.1 hp)
 have HF:Hid (txt C=([91]++Qg L)++[93]):=by rw[hL];rfl
 have HF2:Hid (∀x∈([91]++Qg L)++[93],x<256):=by rw[<-HF.out];exact Lp C
 have hrow0:((w.alloc (.cells #[.int .u64 (wd C 0),.int .u64 (wd C 1),.int .u64 (wd C 2),.int .u64 (wd C 3)] 68)).alloc (.cells #[.int .u8 91] 5)).ownsRow w.heap.size 5 1 (.slice (some ⟨w.heap.size+1,0,none⟩) 1 1) 1 (nv [91]):=
  ⟨rfl,.inr ⟨w.heap.size+1,1,#[.int .u8 91],rfl,by omega,Qx _ _ (by simp),Nat.le_refl _,by unfold maxLen;omega,rfl,rfl⟩⟩
 obtain⟨base2,hb2d⟩:∃b,b=((w.alloc (.cells #[.int .u64 (wd C 0),.int .u64 (wd C 1),.int .u64 (wd C 2),.int .u64 (wd C 3)] 68)).alloc (.cells #[.int .u8 91] 5)).heap.size:=⟨_,rfl⟩;have HX0:Hid (Tx w base2 rv L (.slice (some ⟨w.heap.size+1,0,none⟩) 1 1) [91] w2):=
  ⟨hid (((B0q.alloc L0q _).alloc (by simp) _).trans (hb2.out.mono (by simp;omega))),hid (by rw[hb2d,hLl,hL];exact HO2.out),hid (Ux hrow0 hb2.out)⟩
 clear hrow0 HO2 hb2 hL hLl hb2d;rcases HX0.out.2.1.out.2 with⟨rfl,hn0⟩|⟨g0,cap,cur,rfl,hg0,hh0,hn1,hn2,hn3,hn4⟩
 ·have hL0:L=[]:=List.eq_nil_of_length_eq_zero hn0
  obtain⟨l,hl⟩:∃l:List Nat,l=[91]:=⟨_,rfl⟩;have hl3:l.length<=2305:=by rw[hl];simp
  have HLt:Hid (∀x∈l++[93],x<256):=by have:=HF2.out;rw[hL0]at this;rw[hl];exact this
  have HFin:Hid (txt C=l++[93]):=by have:=HF.out;rw[hL0]at this;rw[hl];exact this
  rw[<-hl]at HX0;clear hL0 hl
  go_wp2_with fail
  refine wp_loop_rounds 1 ?_;rw[rounds_succ];have hsz:w.heap.size<=w2.heap.size:=HX0.out.1.out.size
  go_wp2_with(first|(at_builtin;refine wpList_append_own _ rfl (.tmp 39) (.tmp 40) 48 rfl w.heap.size 5 i0 (.int .u8 0) 1 1 Tryz.underlying48 hi0 hz0 hz1 hz2 rfl (by decide) _ _ _ rfl (HX0.out.2.2.out.alloc _) ⟨w2.heap.size,0,none⟩ 1 1 [.int .u8 93] rfl rfl (Vf _ _ _) (Xw [93]) (by unfold maxLen;omega) (by omega) (by simp;omega) ?_;intro v9 w9 hown9 hgr9 hnil9;obtain⟨g9,c9,rfl⟩:=Jk hown9 (by omega);have cv9:=Am (l:=l++[93]) (by rw[Fk];exact hown9) HLt.out))
  go_ret;have hb9:Below w.heap.size w w9:=(HX0.out.1.out.alloc hsz _).grown hgr9 (by simp;omega) (fun k e=>(HX0.out.2.2.out.lt k e).1);exact⟨by rw[HFin.out];rfl,hb9⟩
 ·clear hg0 hh0 hn3 hn4 cur
  unfold maxLen at hn2
  go_wp2_with fail
  go_loopw [3,12] (fun v i wr=>∃(A B:List (Nat×Nat)) (l:List Nat),i=.int .i64 ((A.length:Nat):Int)/\Hid (L=A++B)/\Hid (l=[91]++Qg A)/\A.length<=L.length/\Hid (Tx w base2 (.slice (some ⟨g0,0,none⟩) L.length cap) L v l wr)) (fun _ i _=>L.length-(intOf i).toNat)
  case atStart=>exact⟨[],L,[91],rfl,hid rfl,hid rfl,by simp,HX0⟩
  case round=>
   obtain⟨A,B,l,rfl,HAB,HL,hAl,HX⟩:=hrel;have hl3:l.length<=2305:=by rw[HL.out];have:=Lm A;simp;omega
   cases B with
   |nil=>
    have hk:((A.length:Nat):Int)=(L.length:Int):=by have:=congrArg List.length HAB.out;simp at this;omega
    have HLt:Hid (∀x∈l++[93],x<256):=by have:=HF2.out;rw[HAB.out,List.append_nil]at this;rw[HL.out];exact this
    have HFin:Hid (txt C=l++[93]):=by have:=HF.out;rw[HAB.out,List.append_nil]at this;rw[HL.out];exact this
    have hsz:w.heap.size<=wr.heap.size:=HX.out.1.out.size
    go_wp2_with(first|(at_builtin;refine wpList_append_own _ rfl (.tmp 39) (.tmp 40) 48 rfl w.heap.size 5 i0 (.int .u8 0) 1 1 Tryz.underlying48 hi0 hz0 hz1 hz2 rfl (by decide) _ _ _ rfl (HX.out.2.2.out.alloc _) ⟨wr.heap.size,0,none⟩ 1 1 [.int .u8 93] rfl rfl (Vf _ _ _) (Xw [93]) (by unfold maxLen;omega) (by omega) (by simp;omega) ?_;intro v9 w9 hown9 hgr9 hnil9;obtain⟨g9,c9,rfl⟩:=Jk hown9 (by omega);have cv9:=Am (l:=l++[93]) (by rw[Fk];exact hown9) HLt.out))
    go_ret;have hb9:Below w.heap.size w w9:=(HX.out.1.out.alloc hsz _).grown hgr9 (by simp;omega) (fun k e=>(HX.out.2.2.out.lt k e).1);exact⟨by rw[HFin.out];rfl,hb9⟩
   |cons p B'=>
    have HAB2:Hid (L=(A++[p])++B'):=by show L=_;rw[HAB.out];simp
    obtain⟨p1,p2⟩:=HQ2.out p (by rw[HAB.out];simp);have hat:=z7z A p B';rw[<-HAB.out]at hat;have hkl:A.length<L.length:=by rw[HAB.out];simp
    have hkI:((A.length:Nat):Int)<(L.length:Int):=by omega
    have e0:=HX.out.2.1.out.cellAt (A.length*2) (by omega);have e1:=HX.out.2.1.out.cellAt (A.length*2+1) (by omega);rw[hat.1]at e0;rw[hat.2]at e1;obtain⟨lo,hlo⟩:∃lo,lo=p.1:=⟨_,rfl⟩;obtain⟨hi,hhi⟩:∃hi,hi=p.2:=⟨_,rfl⟩;rw[<-hlo]at e0 p1;rw[<-hhi]at e1 p1 p2;have hgl:g0<wr.heap.size:=World.block_lt_of_cell? wr _ e0;have HX1:Hid (Tx w base2 (.slice (some ⟨g0,0,none⟩) L.length cap) L u3 l (wr.alloc (.cells #[.int .i64 lo,.int .i64 hi] 327)).drew):=HX.out.keep (B0q.alloc L0q _).drew;clear hat HAB;by_cases hv:lo=hi
    ·have hv1:¬lo<hi:=by omega
     have HM:Hid (Yf p=sgn lo):=by
      show Yf p=_;rw[Yf,<-hlo,<-hhi,if_neg (by omega),if_neg (by omega)];simp
     have d1:decide (1<(hi:Int)-(lo:Int))=false:=by simp;omega
     have d2:decide ((lo:Int)<(hi:Int))=false:=by simp;omega
     have d2':decide (lo<hi)=false:=by simp;omega
     have hwl:IntKind.u8.wrap (lo:Int)=(lo:Int):=by rw[IntKind.wrap_u8];omega
     have hwh:IntKind.u8.wrap (hi:Int)=(hi:Int):=by rw[IntKind.wrap_u8];omega
     clear hlo hhi hv hv1
     go_wp2_with fail
     go_region
     go_wp2_with fail
     refine(Nl w.heap.size l.length lo _ (nv l) _ (by omega) HX1.out.2.2.out (by omega) HX1.out.1.out.size).mono ?_;rintro e w3 ⟨v3,rfl,hA3⟩;have HX3:Hid (Tx w base2 (.slice (some ⟨g0,0,none⟩) L.length cap) L v3 (l++sgn lo) w3):=HX1.out.app hA3.out;clear hA3 e0 e1 HX1;have hsl:=Mz lo;have hs4:(l++sgn lo).length<=2309:=by rw[List.length_append];omega
     obtain⟨l3,hl3d⟩:∃l3,l3=l++sgn lo:=⟨_,rfl⟩;have HL3:Hid (l3=l++sgn lo):=hl3d;rw[<-hl3d]at HX3 hs4;clear hl3d;have hsz3:w.heap.size<=w3.heap.size:=HX3.out.1.out.size
     go_wp2_with fail
     go_roundw
     case rel=>exact⟨A++[p],B',l3,by simp,HAB2,hid (by rw[HL3.out,HL.out,Cq,HM.out];simp),by simp;omega,HX3⟩
     case measure=>simp[intOf];omega
    ·by_cases hv2:hi=lo+1
     ·have HM:Hid (Yf p=sgn lo++sgn hi):=by
       show Yf p=_;rw[Yf,<-hlo,<-hhi,if_neg (by omega),if_pos (by omega)];simp
      have d1:decide (1<(hi:Int)-(lo:Int))=false:=by simp;omega
      have d2:decide ((lo:Int)<(hi:Int))=true:=by simp;omega
      have d2':decide (lo<hi)=true:=by simp;omega
      have hwl:IntKind.u8.wrap (lo:Int)=(lo:Int):=by rw[IntKind.wrap_u8];omega
      have hwh:IntKind.u8.wrap (hi:Int)=(hi:Int):=by rw[IntKind.wrap_u8];omega
      clear hlo hhi hv hv2
      go_wp2_with fail
      go_region
      go_wp2_with fail
      refine(Nl w.heap.size l.length lo _ (nv l) _ (by omega) HX1.out.2.2.out (by omega) HX1.out.1.out.size).mono ?_;rintro e w3 ⟨v3,rfl,hA3⟩;have HX3:Hid (Tx w base2 (.slice (some ⟨g0,0,none⟩) L.length cap) L v3 (l++sgn lo) w3):=HX1.out.app hA3.out;clear hA3 e0 e1 HX1;have hsl:=Mz lo;have hs4:(l++sgn lo).length<=2309:=by rw[List.length_append];omega
      obtain⟨l3,hl3d⟩:∃l3,l3=l++sgn lo:=⟨_,rfl⟩;have HL3:Hid (l3=l++sgn lo):=hl3d;rw[<-hl3d]at HX3 hs4;clear hl3d;have hsz3:w.heap.size<=w3.heap.size:=HX3.out.1.out.size
      go_wp2_with fail
      refine(Nl w.heap.size l3.length hi _ (nv l3) _ (by omega) HX3.out.2.2.out (by omega) hsz3).mono ?_;rintro e w5 ⟨v5,rfl,hA5⟩;have HX5:Hid (Tx w base2 (.slice (some ⟨g0,0,none⟩) L.length cap) L v5 (l3++sgn hi) w5):=HX3.out.app hA5.out;clear hA5
      go_wp2_with fail
      go_roundw
      case rel=>exact⟨A++[p],B',l3++sgn hi,by simp,HAB2,hid (by rw[HL3.out,HL.out,Cq,HM.out];simp),by simp;omega,HX5⟩
      case measure=>simp[intOf];omega
     ·have HM:Hid (Yf p=sgn lo++[45]++sgn hi):=by
       show Yf p=_;rw[Yf,<-hlo,<-hhi,if_pos (by omega),if_pos (by omega)];simp
      have d1:decide (1<(hi:Int)-(lo:Int))=true:=by simp;omega
      have d2:decide ((lo:Int)<(hi:Int))=true:=by simp;omega
      have d2':decide (lo<hi)=true:=by simp;omega
      have hwl:IntKind.u8.wrap (lo:Int)=(lo:Int):=by rw[IntKind.wrap_u8];omega
      have hwh:IntKind.u8.wrap (hi:Int)=(hi:Int):=by rw[IntKind.wrap_u8];omega
      clear hlo hhi hv hv2
      go_wp2_with fail
      go_region
      go_wp2_with fail
      refine(Nl w.heap.size l.length lo _ (nv l) _ (by omega) HX1.out.2.2.out (by omega) HX1.out.1.out.size).mono ?_;rintro e w3 ⟨v3,rfl,hA3⟩;have HX3:Hid (Tx w base2 (.slice (some ⟨g0,0,none⟩) L.length cap) L v3 (l++sgn lo) w3):=HX1.out.app hA3.out;clear hA3 e0 e1 HX1;have hsl:=Mz lo;have hs4:(l++sgn lo).length<=2309:=by rw[List.length_append];omega
      obtain⟨l3,hl3d⟩:∃l3,l3=l++sgn lo:=⟨_,rfl⟩;have HL3:Hid (l3=l++sgn lo):=hl3d;rw[<-hl3d]at HX3 hs4;clear hl3d;have hsz3:w.heap.size<=w3.heap.size:=HX3.out.1.out.size
      go_wp2_with(first|(at_builtin;refine wpList_append_own _ rfl (.tmp 28) (.tmp 29) 48 rfl w.heap.size 5 i0 (.int .u8 0) 1 1 Tryz.underlying48 hi0 hz0 hz1 hz2 rfl (by decide) _ _ _ rfl (HX3.out.2.2.out.alloc _) ⟨w3.heap.size,0,none⟩ 1 1 [.int .u8 45] rfl rfl (Vf _ _ _) (Xw [45]) (by unfold maxLen;omega) (by omega) (by simp;omega) ?_;intro v4 w4 hown4 hgr4 hnil4;have HX4:Hid (Tx w base2 (.slice (some ⟨g0,0,none⟩) L.length cap) L v4 (l3++[45]) w4):=HX3.out.app (App.mk HX3.out.2.2.out hsz3 rfl rfl hown4 hgr4);clear hown4 hgr4 hnil4))
      have hs5:(l3++[45]).length<=2310:=by rw[List.length_append];simp;omega
      obtain⟨l4,hl4d⟩:∃l4,l4=l3++[45]:=⟨_,rfl⟩;have HL4:Hid (l4=l3++[45]):=hl4d;rw[<-hl4d]at HX4 hs5;clear hl4d;refine(Nl w.heap.size l4.length hi _ (nv l4) _ (by omega) HX4.out.2.2.out (by omega) HX4.out.1.out.size).mono ?_;rintro e w5 ⟨v5,rfl,hA5⟩;have HX5:Hid (Tx w base2 (.slice (some ⟨g0,0,none⟩) L.length cap) L v5 (l4++sgn hi) w5):=HX4.out.app hA5.out;clear hA5
      go_wp2_with fail
      go_roundw
      case rel=>exact⟨A++[p],B',l4++sgn hi,by simp,HAB2,hid (by rw[HL4.out,HL3.out,HL.out,Cq,HM.out];simp),by simp;omega,HX5⟩
      case measure=>simp[intOf];omega
end Go.Proofs.YtlogolpcipiceaaGreatDoor
