/- Lemmas for the last text. Conditions: those that each names. -/
import Derived.Test.YtgmcjddjdidpjaaGreatDoorVQ2
import Derived.Deep.RegionHeld3
import Derived.Laws.IdiomStrings
import Derived.Test.YtgmcjddjdidpjaaGreatDoorVX10ToY2
import Derived.Laws.Strings
import Derived.WideShapes
import Derived.Test.YtgmcjddjdidpjaaGreatDoorVX17ToQ1
set_option linter.unusedVariables false
set_option maxRecDepth 100000
set_option maxHeartbeats 4000000
namespace Go.Proofs.YtgmcjddjdidpjaaGreatDoor
open Go.Proofs.Tryz
open Go.RowKit
variable {w w':World} {v:Value} {l:List Nat} {S:ByteArray} {k x:Nat}
def sgn(b:Nat):List Nat:=if b=10 then [92,110]else if b=13 then [92,114]else if b=9 then [92,116]else if mark b then [92,b]else if 32<=b/\b<=126 then [b]else [92,120,Xf (b/16),Xf (b%16)]
theorem Cq(base n b:Nat)(v:Value)(xs:List Value)(w:World)(hb:b<256)(ho:w.ownsRow base 5 1 v n xs)(hn:n<=100000)(hbase:base<=w.heap.size):
  Calls prog 272 #[v,.int .u8 b] w fun e w'=>∃v',e=.returned v'/\Hid (App base w n xs (sgn b) v' w'):=by
 obtain⟨i0,hi,hz0,hz1,hz2⟩:=info_parts Tryz.infoByte;have HO:Hid (w.ownsRow base 5 1 v n xs):=ho;have HM:Hid (∀w:World,Calls prog 246 #[.int .u8 b] w fun e w'=>e=.returned (.bool (mark b))/\w'=w):=fun w=>z0P b w hb
 have HP:Hid (∀w:World,Calls prog 247 #[.int .u8 b] w fun e w'=>e=.returned (.bool (decide (32<=b)&&decide (b<=126)))/\w'=w):=fun w=>z0Q b w hb
 clear ho;by_cases h10:b=10
 ·have HS:Hid (sgn b=[92,110]):=by rw[h10];rfl
  have a10:((b:Int) == 10)=true:=by simp;omega
  clear h10;go_enter func272,ntmps272
  go_wp2_with(first|(at_builtin;refine wpList_append_own _ rfl (.tmp 20) (.tmp 21) 194 rfl base 5 i0 (.int .u8 0) 1 1 Tryz.underlying194 hi hz0 hz1 hz2 rfl (by decide) _ _ _ rfl (HO.out.alloc _) ⟨w.heap.size,0,none⟩ 2 2 [.int .u8 92,.int .u8 110] rfl rfl (Kd _ _ _ _) (Yx [92,110]) (by unfold maxLen;omega) (by omega) (by have:=hbase;simp;omega) ?_;intro v2 w2 hown2 hgr2 hnil2))
  go_ret;rw[HS.out];exact⟨_,rfl,hid (App.mk HO.out hbase rfl rfl hown2 hgr2)⟩
 by_cases h13:b=13
 ·have HS:Hid (sgn b=[92,114]):=by rw[h13];rfl
  have a10:((b:Int) == 10)=false:=by simp;omega
  have a13:((b:Int) == 13)=true:=by simp;omega
  clear h13;go_enter func272,ntmps272
  go_wp2_with(first|(at_builtin;refine wpList_append_own _ rfl (.tmp 23) (.tmp 24) 194 rfl base 5 i0 (.int .u8 0) 1 1 Tryz.underlying194 hi hz0 hz1 hz2 rfl (by decide) _ _ _ rfl (HO.out.alloc _) ⟨w.heap.size,0,none⟩ 2 2 [.int .u8 92,.int .u8 114] rfl rfl (Kd _ _ _ _) (Yx [92,114]) (by unfold maxLen;omega) (by omega) (by have:=hbase;simp;omega) ?_;intro v2 w2 hown2 hgr2 hnil2))
  go_ret;rw[HS.out];exact⟨_,rfl,hid (App.mk HO.out hbase rfl rfl hown2 hgr2)⟩
 by_cases h9:b=9
 ·have HS:Hid (sgn b=[92,116]):=by rw[h9];rfl
  have a10:((b:Int) == 10)=false:=by simp;omega
  have a13:((b:Int) == 13)=false:=by simp;omega
  have a9:((b:Int) == 9)=true:=by simp;omega
  clear h9;go_enter func272,ntmps272
  go_wp2_with(first|(at_builtin;refine wpList_append_own _ rfl (.tmp 26) (.tmp 27) 194 rfl base 5 i0 (.int .u8 0) 1 1 Tryz.underlying194 hi hz0 hz1 hz2 rfl (by decide) _ _ _ rfl (HO.out.alloc _) ⟨w.heap.size,0,none⟩ 2 2 [.int .u8 92,.int .u8 116] rfl rfl (Kd _ _ _ _) (Yx [92,116]) (by unfold maxLen;omega) (by omega) (by have:=hbase;simp;omega) ?_;intro v2 w2 hown2 hgr2 hnil2))
  go_ret;rw[HS.out];exact⟨_,rfl,hid (App.mk HO.out hbase rfl rfl hown2 hgr2)⟩
 have a10:((b:Int) == 10)=false:=by simp;omega
 have a13:((b:Int) == 13)=false:=by simp;omega
 have a9:((b:Int) == 9)=false:=by simp;omega
 have H3:Hid (b≠10/\b≠13/\b≠9):=⟨h10,h13,h9⟩;clear h10 h13 h9;cases hm:mark b
 ·rw[hm]at HM
  cases hp:(decide (32<=b)&&decide (b<=126))
  ·rw[hp]at HP
   have HS:Hid (sgn b=[92,120,Xf (b/16),Xf (b%16)]):=by
    have hp2:¬(32<=b/\b<=126):=by simp at hp;omega
    show sgn b=_;rw[sgn,if_neg H3.out.1,if_neg H3.out.2.1,if_neg H3.out.2.2,hm,if_neg (by simp),if_neg hp2]
   clear hp hm;obtain⟨q,hq⟩:∃q,q=b/16:=⟨_,rfl⟩;obtain⟨r,hr⟩:∃r,r=b%16:=⟨_,rfl⟩;have d1:=Hj q (by omega);have d2:=Hj r (by omega);obtain⟨dq,hdq⟩:∃d,d=Xf q:=⟨_,rfl⟩;obtain⟨dr,hdr⟩:∃d,d=Xf r:=⟨_,rfl⟩;rw[<-hq,<-hr,<-hdq,<-hdr]at HS;rw[<-hdq]at d1;rw[<-hdr]at d2;have e1:(b:Int)/16=(q:Int):=by omega
   have e2:bits BinOp.and IntKind.u8 (b:Int) 15=(r:Int):=by
    have:=u8_and15 (x:=(b:Int)) (by omega) (by omega);rw[this];omega
   clear hq hr hdq hdr;go_enter func272,ntmps272
   go_wp2_with fail
   refine(HM.out _).mono ?_;rintro e w1 ⟨rfl,rfl⟩
   go_wp2_with fail
   refine(HP.out _).mono ?_;rintro e w1 ⟨rfl,rfl⟩
   go_wp2_with fail
   have HO1:Hid (w1.drew.ownsRow base 5 1 v n xs):=HO.out.kept (row:=none) ⟨rfl,rfl,rfl,Nat.le_refl _,fun j hj _=>rfl⟩ (by cases hq:v.ownBlock<;>simp)
   go_region_held3 (fun _=>True) (trivial) (first
    |(rw[if_pos (by rfl)];refine wp_append_own _ (.tmp 36) (.tmp 43) 194 rfl base 5 i0 (.int .u8 0) 1 1 Tryz.underlying194 hi hz0 hz1 hz2 rfl (by decide) _ _ _ rfl (HO1.out.alloc _) ⟨w1.heap.size,0,none⟩ 4 4 [.int .u8 92,.int .u8 120,.int .u8 dq,.int .u8 dr] rfl rfl (z1k _ _ _ _ _ _) (Yx [92,120,(dq:Int),(dr:Int)]) (by unfold maxLen;omega) (by omega) (by have:=hbase;simp;omega) ?_;intro v2 w2 hown2 hgr2 hnil2))
   all_goals
    go_wp2_with fail
    go_ret;rw[HS.out];exact⟨_,rfl,hid (App.of_drew (App.mk HO1.out hbase rfl rfl hown2 hgr2))⟩
  ·rw[hp]at HP
   have HS:Hid (sgn b=[b]):=by
    have hp2:32<=b/\b<=126:=by simpa using hp
    show sgn b=[b];rw[sgn,if_neg H3.out.1,if_neg H3.out.2.1,if_neg H3.out.2.2,hm,if_neg (by simp),if_pos hp2]
   clear hp hm;go_enter func272,ntmps272
   go_wp2_with fail
   refine(HM.out _).mono ?_;rintro e w1 ⟨rfl,rfl⟩
   go_wp2_with fail
   refine(HP.out _).mono ?_;rintro e w1 ⟨rfl,rfl⟩
   go_wp2_with(first|(at_builtin;refine wpList_append_own _ rfl (.tmp 32) (.tmp 34) 194 rfl base 5 i0 (.int .u8 0) 1 1 Tryz.underlying194 hi hz0 hz1 hz2 rfl (by decide) _ _ _ rfl (HO.out.alloc _) ⟨w1.heap.size,0,none⟩ 1 1 [.int .u8 b] rfl rfl (Ug _ _ _) (Yx [(b:Int)]) (by unfold maxLen;omega) (by omega) (by have:=hbase;simp;omega) ?_;intro v2 w2 hown2 hgr2 hnil2))
   go_ret;rw[HS.out];exact⟨_,rfl,hid (App.mk HO.out hbase rfl rfl hown2 hgr2)⟩
 ·rw[hm]at HM
  have HS:Hid (sgn b=[92]++[b]):=by
   show sgn b=[92,b];rw[sgn,if_neg H3.out.1,if_neg H3.out.2.1,if_neg H3.out.2.2,hm,if_pos rfl]
  clear hm;go_enter func272,ntmps272
  go_wp2_with fail
  refine(HM.out _).mono ?_;rintro e w1 ⟨rfl,rfl⟩
  go_wp2_with(first
   |(at_builtin;refine wpList_append_own _ rfl (.tmp 29) (.tmp 30) 194 rfl base 5 i0 (.int .u8 0) 1 1 Tryz.underlying194 hi hz0 hz1 hz2 rfl (by decide) _ _ _ rfl (HO.out.alloc _) ⟨w1.heap.size,0,none⟩ 1 1 [.int .u8 92] rfl rfl (Ug _ _ _) (Yx [92]) (by unfold maxLen;omega) (by omega) (by have:=hbase;simp;omega) ?_;intro v2 w2 hown2 hgr2 hnil2;have HA:Hid (App base _ n xs [92] v2 w2):=App.mk HO.out hbase rfl rfl hown2 hgr2;have hbase2:base<=w2.heap.size:=HA.out.base hbase;have HO2:Hid (w2.ownsRow base 5 1 v2 (n+1) (xs++nv [92])):=HA.out.1;clear hown2 hgr2 hnil2)
   |(at_builtin;refine wpList_append_own _ rfl (.tmp 32) (.tmp 34) 194 rfl base 5 i0 (.int .u8 0) 1 1 Tryz.underlying194 hi hz0 hz1 hz2 rfl (by decide) _ _ _ rfl (HO2.out.alloc _) ⟨w2.heap.size,0,none⟩ 1 1 [.int .u8 b] rfl rfl (Ug _ _ _) (Yx [(b:Int)]) (by unfold maxLen;omega) (by omega) (by have:=hbase2;simp;omega) ?_;intro v3 w3 hown3 hgr3 hnil3))
  go_ret;rw[HS.out];exact⟨_,rfl,hid (HA.out.trans (App.mk HO2.out hbase2 rfl rfl hown3 hgr3))⟩
def Vb(p:Nat×Nat):List Nat:=sgn p.1++((if 1<p.2-p.1 then [45]else [])++(if p.1<p.2 then sgn p.2 else []))
def Qc:List (Nat×Nat)->List Nat
 |[]=>[]
 |p::t=>Vb p++Qc t
theorem Iw:∀(a:List (Nat×Nat)) (p:Nat×Nat),Qc (a++[p])=Qc a++Vb p
 |[],p=>by simp[Qc]
 |q::t,p=>by simp only[List.cons_append,Qc,Iw t p,List.append_assoc]
theorem Cx(b:Nat):1<=(sgn b).length/\(sgn b).length<=4:=by
 unfold sgn;split
 ·simp
 ·split
  ·simp
  ·split
   ·simp
   ·split
    ·simp
    ·split<;>simp
theorem z2n(b:Nat)(hb:b<256):∀x∈sgn b,x<256:=by
 have h1:=Iz (b/16) (by omega);have h2:=Iz (b%16) (by omega);unfold sgn;split
 ·intro x hx;simp at hx;omega
 ·split
  ·intro x hx;simp at hx;omega
  ·split
   ·intro x hx;simp at hx;omega
   ·split
    ·intro x hx;simp at hx;omega
    ·split
     ·intro x hx;simp at hx;omega
     ·intro x hx;simp at hx;omega
theorem z9d(p:Nat×Nat):(Vb p).length<=9:=by
 have h1:=Cx p.1;have h2:=Cx p.2;unfold Vb;simp only[List.length_append];split<;>split<;>simp<;>omega
theorem z9e(p:Nat×Nat)(h1:p.1<256)(h2:p.2<256):∀x∈Vb p,x<256:=by
 intro x hx;unfold Vb at hx;simp only[List.mem_append]at hx;rcases hx with hx|hx|hx
 ·exact z2n p.1 h1 x hx
 ·split at hx
  ·simp at hx;omega
  ·simp at hx
 ·split at hx
  ·exact z2n p.2 h2 x hx
  ·simp at hx
theorem Tv:∀(a:List (Nat×Nat)),(Qc a).length<=9*a.length
 |[]=>by simp[Qc]
 |p::t=>by have:=Tv t;have:=z9d p;simp only[Qc,List.length_append,List.length_cons];omega
theorem z2o:∀(a:List (Nat×Nat)),(∀p∈a,p.1<256/\p.2<256)->∀x∈Qc a,x<256
 |[],_,x,hx=>by simp[Qc]at hx
 |p::t,h,x,hx=>by
  simp only[Qc,List.mem_append]at hx;rcases hx with hx|hx
  ·exact z9e p (h p (List.mem_cons_self ..)).1 (h p (List.mem_cons_self ..)).2 x hx
  ·exact z2o t (fun q hq=>h q (List.mem_cons_of_mem _ hq)) x hx
def txt(C:Nat):List Nat:=([91]++Qc (rs C 256).reverse)++[93]
theorem Tw(C:Nat):∀x∈txt C,x<256:=by
 intro x hx;unfold txt at hx;simp only[List.mem_append,List.mem_singleton]at hx;rcases hx with(rfl|hx)|rfl
 ·omega
 ·exact z2o _ (fun p hp=>by have:=Nz C 256 p (List.mem_reverse.1 hp);omega) x hx
 ·omega
theorem z9f(a:List (Nat×Nat))(p:Nat×Nat)(b:List (Nat×Nat)):(pv (a++p::b))[a.length*2]? =some (.int .i64 (p.1:Int))/\(pv (a++p::b))[a.length*2+1]? =some (.int .i64 (p.2:Int)):=by
 rw[Tz];have:=z2l a;constructor
 ·rw[List.getElem?_append_right (by omega),this,Nat.sub_self];rfl
 ·rw[List.getElem?_append_right (by omega),this,show a.length*2+1-a.length*2=1 by omega];rfl
theorem z9g{base n:Nat}{xs:List Value}(h:w.ownsRow base 285 2 v n xs)(hb:NB w w'):w'.ownsRow base 285 2 v n xs:=by
 refine⟨h.1,?_⟩;rcases h.2 with hn|⟨g,cap,cur,rfl,h1,h2,rest⟩
 ·exact .inl hn
 ·refine .inr ⟨g,cap,cur,rfl,h1,?_,rest⟩
  have hg:g<w.heap.size:=by
   rcases Nat.lt_or_ge g w.heap.size with h3|h3
   ·exact h3
   ·rw[Array.getElem?_eq_none h3]at h2;cases h2
  rw[hb.2 g hg (fun c hc=>by rw[h2]at hc;simp at hc)];exact h2
def Tx(w:World)(base2:Nat)(rv:Value)(L:List (Nat×Nat))(v:Value)(l:List Nat)(w':World):Prop:=
 Hid (Below w.heap.size w w')/\Hid (w'.ownsRow base2 285 2 rv L.length (pv L))/\Hid (w'.ownsRow w.heap.size 5 1 v l.length (nv l))
theorem Tx.app{W:World}{base2:Nat}{rv v':Value}{L:List (Nat×Nat)}{m:List Nat}(h:Tx w base2 rv L v l W)(k:App w.heap.size W l.length (nv l) m v' w'):Tx w base2 rv L v' (l++m) w':=
 ⟨hid (h.1.out.trans k.2.1),hid (z9g h.2.1.out k.2.2),hid (by rw[List.length_append,Kh];exact k.1)⟩
theorem Tx.keep{W:World}{base2:Nat}{rv:Value}{L:List (Nat×Nat)}(h:Tx w base2 rv L v l W)(hb:Below W.heap.size W w'):Tx w base2 rv L v l w':=
 ⟨hid (h.1.out.trans (hb.mono h.1.out.size)),hid (Ym h.2.1.out hb),hid (Ym h.2.2.out hb)⟩
theorem z9h(C:Nat)(w:World)(hC:C<2^256)(hT:TabIs w):
  Calls prog 260 #[cv C] w fun e w'=>e=.returned (.string (nb (txt C)))/\Below w.heap.size w w':=by
 obtain⟨i0,hi0,hz0,hz1,hz2⟩:=info_parts Tryz.infoByte;have HT:Hid (TabIs w):=hT;clear hT;unfold cv;go_enter func260,ntmps260
 go_wp2_with fail
 refine(z9c C _ hC ((HT.out.alloc _).alloc _)).mono ?_;rintro e w2 ⟨rv,rfl,HO2,hb2⟩;obtain⟨L,hL⟩:∃L,L=(rs C 256).reverse:=⟨_,rfl⟩;have hLl:L.length=(rs C 256).length:=by rw[hL];simp
 have hL6:L.length<=256:=by rw[hLl];exact Cz C 256
 have HQ2:Hid (∀p∈L,p.1<=p.2/\p.2<256):=by rw[hL];exact fun p hp=>Nz C 256 p (List.mem_reverse.1 hp)
 have HF:Hid (txt C=([91]++Qc L)++[93]):=by rw[hL];rfl
 have HF2:Hid (∀x∈([91]++Qc L)++[93],x<256):=by rw[<-HF.out];exact Tw C
 have hrow0:((w.alloc (.cells #[.int .u64 (wd C 0),.int .u64 (wd C 1),.int .u64 (wd C 2),.int .u64 (wd C 3)] 51)).alloc (.cells #[.int .u8 91] 5)).ownsRow w.heap.size 5 1 (.slice (some ⟨w.heap.size+1,0,none⟩) 1 1) 1 (nv [91]):=
  ⟨rfl,.inr ⟨w.heap.size+1,1,#[.int .u8 91],rfl,by omega,Qq _ _ (by simp),Nat.le_refl _,by unfold maxLen;omega,rfl,rfl⟩⟩
 obtain⟨base2,hb2d⟩:∃b,b=((w.alloc (.cells #[.int .u64 (wd C 0),.int .u64 (wd C 1),.int .u64 (wd C 2),.int .u64 (wd C 3)] 51)).alloc (.cells #[.int .u8 91] 5)).heap.size:=⟨_,rfl⟩;have HX0:Hid (Tx w base2 rv L (.slice (some ⟨w.heap.size+1,0,none⟩) 1 1) [91] w2):=
  ⟨hid (((B0q.alloc L0q _).alloc (by simp) _).trans (hb2.out.mono (by simp;omega))),hid (by rw[hb2d,hLl,hL];exact HO2.out),hid (Ym hrow0 hb2.out)⟩
 clear hrow0 HO2 hb2 hL hLl hb2d;rcases HX0.out.2.1.out.2 with⟨rfl,hn0⟩|⟨g0,cap,cur,rfl,hg0,hh0,hn1,hn2,hn3,hn4⟩
 ·have hL0:L=[]:=List.eq_nil_of_length_eq_zero hn0
  obtain⟨l,hl⟩:∃l:List Nat,l=[91]:=⟨_,rfl⟩;have hl3:l.length<=2305:=by rw[hl];simp
  have HLt:Hid (∀x∈l++[93],x<256):=by have:=HF2.out;rw[hL0]at this;rw[hl];exact this
  have HFin:Hid (txt C=l++[93]):=by have:=HF.out;rw[hL0]at this;rw[hl];exact this
  rw[<-hl]at HX0;clear hL0 hl
  go_wp2_with fail
  refine wp_loop_rounds 1 ?_;rw[rounds_succ];have hsz:w.heap.size<=w2.heap.size:=HX0.out.1.out.size
  go_wp2_with(first|(at_builtin;refine wpList_append_own _ rfl (.tmp 39) (.tmp 40) 194 rfl w.heap.size 5 i0 (.int .u8 0) 1 1 Tryz.underlying194 hi0 hz0 hz1 hz2 rfl (by decide) _ _ _ rfl (HX0.out.2.2.out.alloc _) ⟨w2.heap.size,0,none⟩ 1 1 [.int .u8 93] rfl rfl (Ug _ _ _) (Yx [93]) (by unfold maxLen;omega) (by omega) (by simp;omega) ?_;intro v9 w9 hown9 hgr9 hnil9;obtain⟨g9,c9,rfl⟩:=Fz hown9 (by omega);have cv9:=Hk (l:=l++[93]) (by rw[Kh];exact hown9) HLt.out))
  go_ret;have hb9:Below w.heap.size w w9:=(HX0.out.1.out.alloc hsz _).grown hgr9 (by simp;omega) (fun k e=>(HX0.out.2.2.out.lt k e).1);exact⟨by rw[HFin.out];rfl,hb9⟩
 ·clear hg0 hh0 hn3 hn4 cur
  unfold maxLen at hn2
  go_wp2_with fail
  go_loopw [3,12] (fun v i wr=>∃(A B:List (Nat×Nat)) (l:List Nat),i=.int .i64 ((A.length:Nat):Int)/\Hid (L=A++B)/\Hid (l=[91]++Qc A)/\A.length<=L.length/\Hid (Tx w base2 (.slice (some ⟨g0,0,none⟩) L.length cap) L v l wr)) (fun _ i _=>L.length-(intOf i).toNat)
  case atStart=>exact⟨[],L,[91],rfl,hid rfl,hid rfl,by simp,HX0⟩
  case round=>
   obtain⟨A,B,l,rfl,HAB,HL,hAl,HX⟩:=hrel;have hl3:l.length<=2305:=by rw[HL.out];have:=Tv A;simp;omega
   cases B with
   |nil=>
    have hk:((A.length:Nat):Int)=(L.length:Int):=by have:=congrArg List.length HAB.out;simp at this;omega
    have HLt:Hid (∀x∈l++[93],x<256):=by have:=HF2.out;rw[HAB.out,List.append_nil]at this;rw[HL.out];exact this
    have HFin:Hid (txt C=l++[93]):=by have:=HF.out;rw[HAB.out,List.append_nil]at this;rw[HL.out];exact this
    have hsz:w.heap.size<=wr.heap.size:=HX.out.1.out.size
    go_wp2_with(first|(at_builtin;refine wpList_append_own _ rfl (.tmp 39) (.tmp 40) 194 rfl w.heap.size 5 i0 (.int .u8 0) 1 1 Tryz.underlying194 hi0 hz0 hz1 hz2 rfl (by decide) _ _ _ rfl (HX.out.2.2.out.alloc _) ⟨wr.heap.size,0,none⟩ 1 1 [.int .u8 93] rfl rfl (Ug _ _ _) (Yx [93]) (by unfold maxLen;omega) (by omega) (by simp;omega) ?_;intro v9 w9 hown9 hgr9 hnil9;obtain⟨g9,c9,rfl⟩:=Fz hown9 (by omega);have cv9:=Hk (l:=l++[93]) (by rw[Kh];exact hown9) HLt.out))
    go_ret;have hb9:Below w.heap.size w w9:=(HX.out.1.out.alloc hsz _).grown hgr9 (by simp;omega) (fun k e=>(HX.out.2.2.out.lt k e).1);exact⟨by rw[HFin.out];rfl,hb9⟩
   |cons p B'=>
    have HAB2:Hid (L=(A++[p])++B'):=by show L=_;rw[HAB.out];simp
    obtain⟨p1,p2⟩:=HQ2.out p (by rw[HAB.out];simp);have hat:=z9f A p B';rw[<-HAB.out]at hat;have hkl:A.length<L.length:=by rw[HAB.out];simp
    have hkI:((A.length:Nat):Int)<(L.length:Int):=by omega
    have e0:=HX.out.2.1.out.cellAt (A.length*2) (by omega);have e1:=HX.out.2.1.out.cellAt (A.length*2+1) (by omega);rw[hat.1]at e0;rw[hat.2]at e1;obtain⟨lo,hlo⟩:∃lo,lo=p.1:=⟨_,rfl⟩;obtain⟨hi,hhi⟩:∃hi,hi=p.2:=⟨_,rfl⟩;rw[<-hlo]at e0 p1;rw[<-hhi]at e1 p1 p2;have hgl:g0<wr.heap.size:=World.block_lt_of_cell? wr _ e0;have HX1:Hid (Tx w base2 (.slice (some ⟨g0,0,none⟩) L.length cap) L u3 l (wr.alloc (.cells #[.int .i64 lo,.int .i64 hi] 285)).drew):=HX.out.keep (B0q.alloc L0q _).drew;clear hat HAB;by_cases hv:lo=hi
    ·have hv1:¬lo<hi:=by omega
     have HM:Hid (Vb p=sgn lo):=by
      show Vb p=_;rw[Vb,<-hlo,<-hhi,if_neg (by omega),if_neg (by omega)];simp
     have d1:decide (1<(hi:Int)-(lo:Int))=false:=by simp;omega
     have d2:decide ((lo:Int)<(hi:Int))=false:=by simp;omega
     have d2':decide (lo<hi)=false:=by simp;omega
     have hwl:IntKind.u8.wrap (lo:Int)=(lo:Int):=by rw[IntKind.wrap_u8];omega
     have hwh:IntKind.u8.wrap (hi:Int)=(hi:Int):=by rw[IntKind.wrap_u8];omega
     clear hlo hhi hv hv1
     go_wp2_with fail
     go_region
     go_wp2_with fail
     refine(Cq w.heap.size l.length lo _ (nv l) _ (by omega) HX1.out.2.2.out (by omega) HX1.out.1.out.size).mono ?_;rintro e w3 ⟨v3,rfl,hA3⟩;have HX3:Hid (Tx w base2 (.slice (some ⟨g0,0,none⟩) L.length cap) L v3 (l++sgn lo) w3):=HX1.out.app hA3.out;clear hA3 e0 e1 HX1;have hsl:=Cx lo;have hs4:(l++sgn lo).length<=2309:=by rw[List.length_append];omega
     obtain⟨l3,hl3d⟩:∃l3,l3=l++sgn lo:=⟨_,rfl⟩;have HL3:Hid (l3=l++sgn lo):=hl3d;rw[<-hl3d]at HX3 hs4;clear hl3d;have hsz3:w.heap.size<=w3.heap.size:=HX3.out.1.out.size
     go_wp2_with fail
     go_roundw
     case rel=>exact⟨A++[p],B',l3,by simp,HAB2,hid (by rw[HL3.out,HL.out,Iw,HM.out];simp),by simp;omega,HX3⟩
     case measure=>simp[intOf];omega
    ·by_cases hv2:hi=lo+1
     ·have HM:Hid (Vb p=sgn lo++sgn hi):=by
       show Vb p=_;rw[Vb,<-hlo,<-hhi,if_neg (by omega),if_pos (by omega)];simp
      have d1:decide (1<(hi:Int)-(lo:Int))=false:=by simp;omega
      have d2:decide ((lo:Int)<(hi:Int))=true:=by simp;omega
      have d2':decide (lo<hi)=true:=by simp;omega
      have hwl:IntKind.u8.wrap (lo:Int)=(lo:Int):=by rw[IntKind.wrap_u8];omega
      have hwh:IntKind.u8.wrap (hi:Int)=(hi:Int):=by rw[IntKind.wrap_u8];omega
      clear hlo hhi hv hv2
      go_wp2_with fail
      go_region
      go_wp2_with fail
      refine(Cq w.heap.size l.length lo _ (nv l) _ (by omega) HX1.out.2.2.out (by omega) HX1.out.1.out.size).mono ?_;rintro e w3 ⟨v3,rfl,hA3⟩;have HX3:Hid (Tx w base2 (.slice (some ⟨g0,0,none⟩) L.length cap) L v3 (l++sgn lo) w3):=HX1.out.app hA3.out;clear hA3 e0 e1 HX1;have hsl:=Cx lo;have hs4:(l++sgn lo).length<=2309:=by rw[List.length_append];omega
      obtain⟨l3,hl3d⟩:∃l3,l3=l++sgn lo:=⟨_,rfl⟩;have HL3:Hid (l3=l++sgn lo):=hl3d;rw[<-hl3d]at HX3 hs4;clear hl3d;have hsz3:w.heap.size<=w3.heap.size:=HX3.out.1.out.size
      go_wp2_with fail
      refine(Cq w.heap.size l3.length hi _ (nv l3) _ (by omega) HX3.out.2.2.out (by omega) hsz3).mono ?_;rintro e w5 ⟨v5,rfl,hA5⟩;have HX5:Hid (Tx w base2 (.slice (some ⟨g0,0,none⟩) L.length cap) L v5 (l3++sgn hi) w5):=HX3.out.app hA5.out;clear hA5
      go_wp2_with fail
      go_roundw
      case rel=>exact⟨A++[p],B',l3++sgn hi,by simp,HAB2,hid (by rw[HL3.out,HL.out,Iw,HM.out];simp),by simp;omega,HX5⟩
      case measure=>simp[intOf];omega
     ·have HM:Hid (Vb p=sgn lo++[45]++sgn hi):=by
       show Vb p=_;rw[Vb,<-hlo,<-hhi,if_pos (by omega),if_pos (by omega)];simp
      have d1:decide (1<(hi:Int)-(lo:Int))=true:=by simp;omega
      have d2:decide ((lo:Int)<(hi:Int))=true:=by simp;omega
      have d2':decide (lo<hi)=true:=by simp;omega
      have hwl:IntKind.u8.wrap (lo:Int)=(lo:Int):=by rw[IntKind.wrap_u8];omega
      have hwh:IntKind.u8.wrap (hi:Int)=(hi:Int):=by rw[IntKind.wrap_u8];omega
      clear hlo hhi hv hv2
      go_wp2_with fail
      go_region
      go_wp2_with fail
      refine(Cq w.heap.size l.length lo _ (nv l) _ (by omega) HX1.out.2.2.out (by omega) HX1.out.1.out.size).mono ?_;rintro e w3 ⟨v3,rfl,hA3⟩;have HX3:Hid (Tx w base2 (.slice (some ⟨g0,0,none⟩) L.length cap) L v3 (l++sgn lo) w3):=HX1.out.app hA3.out;clear hA3 e0 e1 HX1;have hsl:=Cx lo;have hs4:(l++sgn lo).length<=2309:=by rw[List.length_append];omega
      obtain⟨l3,hl3d⟩:∃l3,l3=l++sgn lo:=⟨_,rfl⟩;have HL3:Hid (l3=l++sgn lo):=hl3d;rw[<-hl3d]at HX3 hs4;clear hl3d;have hsz3:w.heap.size<=w3.heap.size:=HX3.out.1.out.size
      go_wp2_with(first|(at_builtin;refine wpList_append_own _ rfl (.tmp 28) (.tmp 29) 194 rfl w.heap.size 5 i0 (.int .u8 0) 1 1 Tryz.underlying194 hi0 hz0 hz1 hz2 rfl (by decide) _ _ _ rfl (HX3.out.2.2.out.alloc _) ⟨w3.heap.size,0,none⟩ 1 1 [.int .u8 45] rfl rfl (Ug _ _ _) (Yx [45]) (by unfold maxLen;omega) (by omega) (by simp;omega) ?_;intro v4 w4 hown4 hgr4 hnil4;have HX4:Hid (Tx w base2 (.slice (some ⟨g0,0,none⟩) L.length cap) L v4 (l3++[45]) w4):=HX3.out.app (App.mk HX3.out.2.2.out hsz3 rfl rfl hown4 hgr4);clear hown4 hgr4 hnil4))
      have hs5:(l3++[45]).length<=2310:=by rw[List.length_append];simp;omega
      obtain⟨l4,hl4d⟩:∃l4,l4=l3++[45]:=⟨_,rfl⟩;have HL4:Hid (l4=l3++[45]):=hl4d;rw[<-hl4d]at HX4 hs5;clear hl4d;refine(Cq w.heap.size l4.length hi _ (nv l4) _ (by omega) HX4.out.2.2.out (by omega) HX4.out.1.out.size).mono ?_;rintro e w5 ⟨v5,rfl,hA5⟩;have HX5:Hid (Tx w base2 (.slice (some ⟨g0,0,none⟩) L.length cap) L v5 (l4++sgn hi) w5):=HX4.out.app hA5.out;clear hA5
      go_wp2_with fail
      go_roundw
      case rel=>exact⟨A++[p],B',l4++sgn hi,by simp,HAB2,hid (by rw[HL4.out,HL3.out,HL.out,Iw,HM.out];simp),by simp;omega,HX5⟩
      case measure=>simp[intOf];omega
theorem z2p{l:List Tok}(h:tkS S=.inr l):∃m,tks S (sb S 0) []=.inr m/\l=m++[(6,{data:=#[]},0,S.size)]:=by
 unfold tkS at h;cases hm:tks S (sb S 0) []with
 |inl c=>rw[hm]at h;cases h
 |inr m=>rw[hm]at h;simp[tkE]at h;exact⟨m,rfl,h.symm⟩
theorem Ty(S:ByteArray):∀f k:Nat,S.size-k=f->k<=S.size->(ne S k=S.size↔∀i x,k<=i->bt S i=some x->(Zf x||Gl x)=true)
 |0,k,hf,hk=>by
  have:k=S.size:=by omega
  rw[z1m (Jj (by omega))];refine⟨fun _ i x hi hx=> ?_,fun _=>this⟩;have:=(Qb hx).1;omega
 |f+1,k,hf,hk=>by
  cases hb:bt S k with
  |none=>have:=Xj hb;omega
  |some y=>
   rw[Kc hb];cases hy:(Zf y||Gl y)with
   |false=>
    simp only[Bool.false_eq_true,if_false];refine⟨fun e=>by have:=(Qb hb).1;omega,fun h=> ?_⟩;have:=h k y L0q hb;rw[hy]at this;cases this
   |true=>
    simp only[if_true];rw[Ty S f (k+1) (by omega) (by omega)];refine⟨fun h i x hi hx=> ?_,fun h i x hi hx=>h i x (by omega) hx⟩;rcases Nat.lt_or_ge k i with h1|h1
    ·exact h i x (by omega) hx
    ·obtain rfl:i=k:=by omega
     rw[hb]at hx;cases hx;exact hy
theorem z9i(S T:ByteArray)(i:Nat):bt (S++T) i=if i<S.size then bt S i else bt T (i-S.size):=by
 unfold bt;by_cases h:i<S.size
 ·rw[if_pos h,dif_pos h,dif_pos (by rw[ByteArray.size_append];omega),ByteArray.getElem_append_left h]
 ·rw[if_neg h]
  by_cases h2:i<(S++T).size
  ·have h3:=h2
   rw[ByteArray.size_append]at h3;rw[dif_pos h2,dif_pos (by omega),ByteArray.getElem_append_right (by omega)]
  ·have h3:=h2
   rw[ByteArray.size_append]at h3;rw[dif_neg h2,dif_neg (by omega)]
theorem Tf:∀d,d<16->dgv (Xf d)=some d:=by decide+kernel
def Hr(S:ByteArray)(k:Nat)(l:List Nat):Prop:=∀j x,l[j]? =some x->bt S (k+j)=some x
theorem z9j{b:Nat}(hb:b<256)(h:Hr S k (lq b)):lsg S k=.inr (b,k+(lq b).length)/\¬bt S k=some 39:=by
 have p92:plB 92=true:=rfl;unfold lq at h ⊢;split at h
 ·rename_i e;subst e
  have a0:=h 0 92 rfl;have a1:=h 1 110 rfl;simp only[Nat.add_zero]at a0;refine⟨?_,by rw[a0];simp⟩;unfold lsg Jv;rw[a0];simp[a1,Vf,p92]
 ·rename_i h1
  split at h
  ·rename_i e;subst e
   have a0:=h 0 92 rfl;have a1:=h 1 114 rfl;simp only[Nat.add_zero]at a0;refine⟨?_,by rw[a0];simp⟩;unfold lsg Jv;rw[a0];simp[a1,Vf,p92]
  ·rename_i h2
   split at h
   ·rename_i e;subst e
    have a0:=h 0 92 rfl;have a1:=h 1 116 rfl;simp only[Nat.add_zero]at a0;refine⟨?_,by rw[a0];simp⟩;unfold lsg Jv;rw[a0];simp[a1,Vf,p92]
   ·rename_i h3
    split at h
    ·rename_i hm
     have a0:=h 0 92 rfl;have a1:=h 1 b rfl;simp only[Nat.add_zero]at a0;refine⟨?_,by rw[a0];simp⟩;have hv:Vf b=some b:=by
      unfold Vf;rw[if_neg (by omega),if_neg (by omega),if_neg (by omega),if_pos (by omega)]
     unfold lsg Jv;rw[a0];simp[a1,hv,p92,hm,h1,h2,h3]
    ·rename_i hm
     split at h
     ·rename_i hp
      have a0:=h 0 b rfl;simp only[Nat.add_zero]at a0;refine⟨?_,by rw[a0];simp;omega⟩;unfold lsg;rw[a0];simp[hp,h1,h2,h3,hm];omega
     ·rename_i hp
      have a0:=h 0 92 rfl;have a1:=h 1 120 rfl;have a2:=h 2 _ rfl;have a3:=h 3 _ rfl;simp only[Nat.add_zero]at a0;refine⟨?_,by rw[a0];simp⟩;have d1:dg S (k+2)=some (b/16):=by unfold dg;rw[a2];exact Tf _ (by omega)
      have d2:dg S (k+3)=some (b%16):=by unfold dg;rw[a3];exact Tf _ (by omega)
      have hd:digs S (k+1+1)=.inr (b,k+4):=by
       unfold digs;rw[show k+1+1=k+2 by omega,d1];simp only;rw[show k+2+1=k+3 by omega,d2];simp only;rw[show 16*(b/16)+b%16=b by omega]
      have hv:Vf 120=none:=rfl;unfold lsg Jv;rw[a0];simp[a1,hv,p92,hp,h1,h2,h3,hm,hd]
def bp(S:ByteArray):Nat->List Nat
 |0=>[]
 |k+1=>bp S k++(match bt S k with|some x=>[x]|none=>[])
theorem Tg(h:bt S k=some x):bp S (k+1)=bp S k++[x]:=by rw[bp,h]
theorem z2q(S:ByteArray):∀k,k<=S.size->(bp S k).length=k
 |0,_=>rfl
 |k+1,h=>by
  cases hb:bt S k with
  |none=>have:=Xj hb;omega
  |some x=>rw[Tg hb,List.length_append,z2q S k (by omega)];rfl
theorem z2r(S:ByteArray):∀k,k<=S.size->(bp S k).map UInt8.ofNat=S.data.toList.take k
 |0,_=>by simp[bp]
 |k+1,h=>by
  cases hb:bt S k with
  |none=>have:=Xj hb;omega
  |some x=>
   obtain⟨hk,hx⟩:=Zd hb;have hk2:k<S.data.toList.length:=by rw[Array.length_toList];exact hk
   have h1:UInt8.ofNat x=S.data.toList[k]:=by
    rw[<-hx];apply UInt8.toNat.inj;have:=(Qb hb).2;simp;rfl
   rw[Tg hb,List.map_append,z2r S k (by omega),List.take_succ_eq_append_getElem hk2];simp[h1]
theorem z9k(S:ByteArray):nb (bp S S.size)=S:=by
 apply ByteArray.ext;unfold nb;simp only;rw[z2r S S.size L0q];apply Array.toList_inj.1;simp only;exact List.take_of_length_le (by rw[Array.length_toList];exact Nat.le_refl _)
theorem Iy(l:List Nat)(h:∀x∈l,x<256)(i:Nat):bt (nb l) i=l[i]? :=by
 unfold bt;by_cases hi:i<(nb l).size
 ·rw[dif_pos hi]
  rw[Vp]at hi;rw[List.getElem?_eq_getElem hi];have:=h _ (List.getElem_mem hi);show some (((nb l).data[i]).toNat)=_;simp[nb];omega
 ·rw[dif_neg hi]
  rw[Vp]at hi;rw[List.getElem?_eq_none (by omega)]
theorem Tb(P:ByteArray):∀f k:Nat,P.size-k=f->k<=P.size->∃r,qt P=qp P k++r
 |0,k,hf,hk=>by
  obtain rfl:k=P.size:=by omega
  exact⟨[39],rfl⟩
 |f+1,k,hf,hk=>by
  obtain⟨r,hr⟩:=Tb P f (k+1) (by omega) (by omega);cases hb:bt P k with
  |none=>have:=Xj hb;omega
  |some x=>rw[Ix hb]at hr;exact⟨lq x++r,by rw[hr,List.append_assoc]⟩
theorem z9l{P:ByteArray}(h:bt P k=some x):Hr (nb (qt P)) (qp P k).length (lq x):=by
 have hk:=(Qb h).1;obtain⟨r,hr⟩:=Tb P _ (k+1) rfl (by omega);rw[Ix h,List.append_assoc]at hr;intro j y hj;rw[Iy _ (Ij P),hr,List.getElem?_append_right (by omega),Nat.add_sub_cancel_left];have hjl:j<(lq x).length:=by
  rcases Nat.lt_or_ge j (lq x).length with h1|h1
  ·exact h1
  ·rw[List.getElem?_eq_none h1]at hj;cases hj
 rw[List.getElem?_append_left hjl];exact hj
theorem z2s(P:ByteArray):∀f k:Nat,P.size-k=f->k<=P.size->k<=255->
  ll (nb (qt P)) 39 0 (qp P k).length (bp P k)=if P.size<=255 then .inr (bp P P.size,(nb (qt P)).size)else .inl (2,0)
 |0,k,hf,hk,h5=>by
  obtain rfl:k=P.size:=by omega
  have hb:bt (nb (qt P)) (qp P P.size).length=some 39:=by
   rw[Iy _ (Ij P)];unfold qt;rw[List.getElem?_append_right L0q,Nat.sub_self];rfl
  rw[Rb hb,if_pos (by omega),Vp];unfold qt;rw[List.length_append];rfl
 |f+1,k,hf,hk,h5=>by
  cases hb:bt P k with
  |none=>have:=Xj hb;omega
  |some x=>
   obtain⟨hs,hq⟩:=z9j (Qb hb).2 (z9l hb);have hlen:=z2q P k hk;by_cases h6:k=255
   ·rw[z1l hq hs (by omega),if_neg (by omega)]
   ·rw[Rh hq hs (by omega),<-Tg hb,<-List.length_append,<-Ix hb]
    exact z2s P f (k+1) (by omega) (by omega) (by omega)
theorem z9m(l:List Nat)(hl:∀x∈l,x<256)(k x:Nat)(h:l[k]? =some x):At (nb l) k x:=by
 obtain⟨hk,e⟩:=List.getElem?_eq_some_iff.1 h;refine⟨by rw[Vp];exact hk,?_⟩;have hx:=hl x (by rw[<-e];exact List.getElem_mem hk);have hg:(nb l)[k]'(by rw[Vp];exact hk)=UInt8.ofNat x:=by
  rw[ByteArray.getElem_eq_getElem_data];simp[nb,e]
 rw[hg];simp;omega
theorem z9n(b:Nat):(∃t,sgn b=92::t/\t≠[])∨(sgn b=[b]/\mark b=false/\32<=b/\b<=126):=by
 unfold sgn;split
 ·exact .inl ⟨_,rfl,by simp⟩
 ·split
  ·exact .inl ⟨_,rfl,by simp⟩
  ·split
   ·exact .inl ⟨_,rfl,by simp⟩
   ·split
    ·exact .inl ⟨_,rfl,by simp⟩
    ·rename_i hm
     split
     ·rename_i hp
      exact .inr ⟨rfl,by simpa using hm,hp.1,hp.2⟩
     ·exact .inl ⟨_,rfl,by simp⟩
def Vh(S:ByteArray)(k:Nat)(l:List Nat):Prop:=∀j x,l[j]? =some x->At S (k+j) x
theorem Vh.left{a b:List Nat}(h:Vh S k (a++b)):Vh S k a:=fun j x hj=>h j x (by
 rw[List.getElem?_append_left (List.getElem?_eq_some_iff.1 hj).1];exact hj)
theorem Vh.right{a b:List Nat}(h:Vh S k (a++b)):Vh S (k+a.length) b:=fun j x hj=>by
 have:=h (a.length+j) x (by rw[List.getElem?_append_right (by omega),show a.length+j-a.length=j by omega];exact hj);rw[<-Nat.add_assoc]at this;exact this
theorem Vh.head(h:Vh S k (x::l)):At S k x:=h 0 x rfl
def its:List (Nat×Nat)->List (Nat×Nat)
 |[]=>[]
 |p::t=>(if p.2=p.1+1 then [(p.1,p.1),(p.2,p.2)]else [p])++its t
def Gf(p:Nat×Nat):List Nat:=if p.1=p.2 then sgn p.1 else sgn p.1++([45]++sgn p.2)
def Xl:List (Nat×Nat)->List Nat
 |[]=>[]
 |p::t=>Gf p++Xl t
theorem z2t:∀(a b:List (Nat×Nat)),Xl (a++b)=Xl a++Xl b
 |[],b=>rfl
 |p::t,b=>by simp only[List.cons_append,Xl,z2t t b,List.append_assoc]
theorem z2u:∀(L:List (Nat×Nat)),(∀p∈L,p.1<=p.2)->Qc L=Xl (its L)
 |[],_=>rfl
 |p::t,h=>by
  have hp:=h p (List.mem_cons_self ..);rw[Qc,its,z2t,z2u t (fun q hq=>h q (List.mem_cons_of_mem _ hq))];congr 1;unfold Vb;by_cases h1:p.2=p.1+1
  ·rw[if_pos h1,if_neg (by omega),if_pos (by omega)]
   simp[Xl,Gf]
  ·rw[if_neg h1]
   by_cases h2:p.1=p.2
   ·rw[if_neg (by omega),if_neg (by omega)]
    simp[Xl,Gf,h2]
   ·rw[if_pos (by omega),if_pos (by omega)]
    simp[Xl,Gf,h2]
def uo:List (Nat×Nat)->Nat
 |[]=>0
 |p::t=>seg p.1 (p.2+1)|||uo t
theorem Th:∀(a b:List (Nat×Nat)),uo (a++b)=uo a|||uo b
 |[],b=>by simp[uo]
 |p::t,b=>by simp only[List.cons_append,uo,Th t b,Nat.or_assoc]
theorem z2v:∀(Q:List (Nat×Nat)),uo Q.reverse=un Q
 |[]=>rfl
 |p::t=>by rw[List.reverse_cons,Th,z2v t,un];simp[uo]
theorem z9o(a:Nat):seg a (a+1+1)=seg a (a+1)|||seg (a+1) (a+1+1):=by
 apply Nat.eq_of_testBit_eq;intro j;rw[Nat.testBit_or,Kv,Kv,Kv];by_cases h1:a<=j<;>by_cases h2:j<a+1<;>by_cases h3:a+1<=j<;>by_cases h4:j<a+1+1<;>simp[h1,h2,h3,h4]<;>omega
theorem z2w:∀(L:List (Nat×Nat)),uo (its L)=uo L
 |[]=>rfl
 |p::t=>by
  rw[its,Th,z2w t,uo];congr 1;by_cases h1:p.2=p.1+1
  ·rw[if_pos h1,h1,z9o];simp[uo]
  ·rw[if_neg h1];simp[uo]
theorem z2x:∀(L:List (Nat×Nat)),(∀p∈L,p.1<=p.2/\p.2<256)->∀p∈its L,p.1<=p.2/\p.2<256
 |[],_,p,hp=>by simp[its]at hp
 |q::t,h,p,hp=>by
  have hq:=h q (List.mem_cons_self ..);rw[its,List.mem_append]at hp;rcases hp with hp|hp
  ·split at hp
   ·simp at hp;rcases hp with rfl|rfl<;>simp<;>omega
   ·simp at hp;subst hp;exact hq
  ·exact z2x t (fun r hr=>h r (List.mem_cons_of_mem _ hr)) p hp
theorem z2y(p:Nat×Nat):∃y t,Gf p=y::t/\(y == 45)=false/\(y == 94)=false/\(y == 93)=false:=by
 have:∃t,Gf p=sgn p.1++t:=by
  unfold Gf;split
  ·exact⟨[],by simp⟩
  ·exact⟨_,rfl⟩
 obtain⟨t,ht⟩:=this;rcases z9n p.1 with⟨u,hu,_⟩|⟨hu,hm,_,_⟩
 ·exact⟨92,u++t,by rw[ht,hu];rfl,rfl,rfl,rfl⟩
 ·unfold mark at hm
  simp at hm;exact⟨p.1,t,by rw[ht,hu];rfl,by simp;omega,by simp;omega,by simp;omega⟩
theorem z2z(I:List (Nat×Nat)):∃y t,Xl I++[93]=y::t/\(y == 45)=false/\(y == 94)=false:=by
 cases I with
 |nil=>exact⟨93,[],rfl,rfl,rfl⟩
 |cons p t=>
  obtain⟨y,u,hu,h1,h2,h3⟩:=z2y p;exact⟨y,u++Xl t++[93],by rw[Xl,hu];simp,h1,h2⟩
theorem z2A{d:Nat}(hd:d<16)(h:At S k (Xf d)):dg S k=some d:=by
 unfold dg;rw[Yd h];exact Tf d hd
theorem Td{b:Nat}(hb:b<256)(h:Vh S k (sgn b)):sg S k=.inr (b,k+(sgn b).length):=by
 unfold sgn at h ⊢;split at h
 ·rename_i e;subst e
  have a0:=Yd (h 0 92 rfl);have a1:=Yd (h 1 110 rfl);simp only[Nat.add_zero]at a0;unfold sg esc;rw[a0];simp[a1,Uf]
 ·rename_i h1
  split at h
  ·rename_i e;subst e
   have a0:=Yd (h 0 92 rfl);have a1:=Yd (h 1 114 rfl);simp only[Nat.add_zero]at a0;unfold sg esc;rw[a0];simp[a1,Uf]
  ·rename_i h2
   split at h
   ·rename_i e;subst e
    have a0:=Yd (h 0 92 rfl);have a1:=Yd (h 1 116 rfl);simp only[Nat.add_zero]at a0;unfold sg esc;rw[a0];simp[a1,Uf]
   ·rename_i h3
    split at h
    ·rename_i hm
     have a0:=Yd (h 0 92 rfl);have a1:=Yd (h 1 b rfl);simp only[Nat.add_zero]at a0;have hn:b≠110/\b≠114/\b≠116:=by
      unfold mark at hm;simp at hm;omega
     rw[if_neg h1,if_neg h2,if_neg h3,if_pos hm];unfold sg esc;rw[a0];simp[a1,Uf,hn.1,hn.2.1,hn.2.2,hm]
    ·rename_i hm
     split at h
     ·rename_i hp
      have a0:=Yd (h 0 b rfl);simp only[Nat.add_zero]at a0;have hmf:mark b=false:=by simpa using hm
      have hn:b≠92:=by intro e;subst e;simp[mark]at hmf
      rw[if_neg h1,if_neg h2,if_neg h3,if_neg hm,if_pos hp];unfold sg;rw[a0];simp[hn,Np,hmf,hp.1,hp.2]
     ·rename_i hp
      have a0:=Yd (h 0 92 rfl);have a1:=Yd (h 1 120 rfl);have a2:=z2A (by omega) (h 2 _ rfl);have a3:=z2A (by omega) (h 3 _ rfl);simp only[Nat.add_zero]at a0;rw[if_neg h1,if_neg h2,if_neg h3,if_neg hm,if_neg hp];unfold sg esc;rw[a0];have hm120:mark 120=false:=rfl;simp only[if_true,a1,Uf,hm120];unfold digs;rw[show k+1+1=k+2 from rfl,a2,show k+2+1=k+3 from rfl,a3];simp;omega
theorem z9p{y:Nat}{p:Nat×Nat}{t:List Nat}(h1:p.1<=p.2)(h2:p.2<256)(hy:(y == 45)=false)(h:Vh S k (Gf p++(y::t))):mbr S k=.inr (seg p.1 (p.2+1),k+(Gf p).length):=by
 have hl:=h.left;have hr:=h.right;unfold Gf at hl hr ⊢;by_cases e:p.1=p.2
 ·rw[if_pos e]at hl hr ⊢
  unfold mbr;rw[Td (by omega) hl];have hb:=Yd hr.head;simp only;rw[hb,if_neg (by simpa using hy),<-e]
 ·rw[if_neg e]at hl ⊢
  have hl1:=hl.left;have hl2:=hl.right;have hb:=Yd hl2.head;have hl3:Vh S (k+(sgn p.1).length+1) (sgn p.2):=hl2.right;unfold mbr;rw[Td (by omega) hl1];simp only;rw[hb,if_pos rfl,Td h2 hl3];simp only;rw[if_neg (by omega)];simp;omega
theorem z2B{S:ByteArray}:∀(I:List (Nat×Nat)) (k acc:Nat),(∀p∈I,p.1<=p.2/\p.2<256)->Vh S k (Xl I++[93])->mm S k acc=.inr (acc|||uo I,k+(Xl I).length+1)
 |[],k,acc,_,h=>by
  rw[Pp (Yd h.head)];simp[uo,Xl]
 |p::t,k,acc,hI,h=>by
  obtain⟨y,u,hyu,hy,_⟩:=z2z t;have hp:=hI p (List.mem_cons_self ..);have h':Vh S k (Gf p++(Xl t++[93])):=by rw[<-List.append_assoc];exact h
  have hr:=h'.right;rw[hyu]at h';have hm:=z9p hp.1 hp.2 hy h';obtain⟨z,v,hz,_,_,hz3⟩:=z2y p;have h93:¬bt S k=some 93:=by
   have h2:=h;rw[Xl,hz]at h2;rw[Yd h2.head];simpa using hz3
  rw[Pc h93 hm,z2B t _ _ (fun q hq=>hI q (List.mem_cons_of_mem _ hq)) hr];simp only[uo,Xl,List.length_append,Nat.or_assoc];simp;omega
theorem z9q{I:List (Nat×Nat)}(hI:∀p∈I,p.1<=p.2/\p.2<256)(h:Vh S 0 ([91]++(Xl I++[93]))):Vy S=.inr (uo I,1+(Xl I).length+1):=by
 have h1:Vh S 1 (Xl I++[93]):=h.right;obtain⟨y,u,hyu,_,hy⟩:=z2z I;have h94:¬bt S 1=some 94:=by
  have h2:=h1;rw[hyu]at h2;rw[Yd h2.head];simpa using hy
 unfold Vy;rw[if_pos (Yd h.head),if_neg h94,z2B I 1 0 hI h1];simp
end Go.Proofs.YtgmcjddjdidpjaaGreatDoor
