/- Lemmas for the last text. Conditions: those that each names. -/
import Derived.Test.YtlogolpcipiceaaGreatDoorVX10ToY2
import Derived.Deep.RegionHeld3
import Derived.Laws.MakeOwn
import Derived.Laws.IdiomStrings
import Derived.WalkKit
import Derived.WalkLawsBesides
import Derived.Deep.QuietTactic
import Derived.BigQuiet
import Derived.BigRegion
import Derived.ChangeKeysEq
import Derived.Lib.TrailingZeros
set_option linter.unusedVariables false
set_option maxRecDepth 100000
set_option maxHeartbeats 4000000
namespace Go.Proofs.YtlogolpcipiceaaGreatDoor
open Go.Proofs.Tryz
open Go.RowKit
variable {w w':World} {n:Nat} {xs:List Value}
def lq(b:Nat):List Nat:=if b=10 then [92,110]else if b=13 then [92,114]else if b=9 then [92,116]else if b=39∨b=92 then [92,b]else if plB b then [b]else [92,120,Xf (b/16),Xf (b%16)]
def NB(w w':World):Prop:=w.heap.size<=w'.heap.size/\∀j,j<w.heap.size->(∀cur,w.heap[j]? ≠some (.cells cur 5 (0,0)))->w'.heap[j]? =w.heap[j]?
theorem NB.trans{a b c:World}(h:NB a b)(k:NB b c):NB a c:=
 ⟨Nat.le_trans h.1 k.1,fun j hj hn=>(k.2 j (Nat.lt_of_lt_of_le hj h.1) (fun cur=>by rw[h.2 j hj hn];exact hn cur)).trans (h.2 j hj hn)⟩
theorem NB.refl(w:World):NB w w:=⟨Nat.le_refl _,fun _ _ _=>rfl⟩
theorem NB.below(h:Below w.heap.size w w'):NB w w':=⟨h.size,fun j hj _=>h.block j hj⟩
theorem NB.alloc(w:World)(o:Obj):NB w (w.alloc o):=.below (B0q.alloc L0q _)
theorem NB.grown{base:Nat}{v:Value}(ho:w.ownsRow base 5 1 v n xs)(hg:w.grownBy w' v.ownBlock):NB w w':=
 ⟨hg.size,fun j hj hn=>hg.block j hj (fun e=>by
   obtain⟨_,ho|⟨g,cap,cur,rfl,_,hh,_⟩⟩:=ho
   ·rw[ho.1]at e;simp[Value.ownBlock]at e
   ·simp[Value.ownBlock]at e
    subst e;exact hn cur hh)⟩
def App(base:Nat)(w:World)(n:Nat)(xs:List Value)(l:List Nat)(v':Value)(w':World):Prop:=
 w'.ownsRow base 5 1 v' (n+l.length) (xs++nv l)/\Below base w w'/\NB w w'
theorem App.mk{base m:Nat}{o:Obj}{v v':Value}{news:List Value}{l:List Nat}(ho:w.ownsRow base 5 1 v n xs)(hbase:base<=w.heap.size)(hm:m=l.length)(hl:news=nv l)
  (h:w'.ownsRow base 5 1 v' (n+m) (xs++news))(hg:(w.alloc o).grownBy w' v.ownBlock):App base w n xs l v' w':=by
 subst hm;subst hl;refine⟨h,(B0q.alloc hbase _).grown hg (by simp;omega) (fun k e=>(ho.lt k e).1),(NB.alloc w o).trans (NB.grown (ho.alloc o) hg)⟩
theorem App.trans{base n:Nat}{w w1 w2:World}{xs:List Value}{l m:List Nat}{v1 v2:Value}(h:App base w n xs l v1 w1)(k:App base w1 (n+l.length) (xs++nv l) m v2 w2):App base w n xs (l++m) v2 w2:=by
 refine⟨?_,h.2.1.trans k.2.1,h.2.2.trans k.2.2⟩;have:=k.1;rw[Fk,List.length_append,<-List.append_assoc,<-Nat.add_assoc];exact this
theorem App.of_drew{base:Nat}{w1:World}{l:List Nat}{v1:Value}(h:App base w.drew n xs l v1 w1):App base w n xs l v1 w1:=⟨h.1,B0q.drew.trans h.2.1,h.2.2⟩
theorem App.base{base n:Nat}{w w1:World}{xs:List Value}{l:List Nat}{v1:Value}(h:App base w n xs l v1 w1)(hb:base<=w.heap.size):base<=w1.heap.size:=Nat.le_trans hb h.2.1.size
theorem z7h(base n b:Nat)(v:Value)(xs:List Value)(w:World)(hb:b<256)(ho:w.ownsRow base 5 1 v n xs)(hn:n<=9000000)(hbase:base<=w.heap.size):
  Calls prog 305 #[v,.int .u8 b] w fun e w'=>∃v',e=.returned v'/\Hid (App base w n xs (lq b) v' w'):=by
 obtain⟨i0,hi,hz0,hz1,hz2⟩:=info_parts Tryz.infoByte;have HO:Hid (w.ownsRow base 5 1 v n xs):=ho;have HP:Hid (∀w:World,Calls prog 188 #[.int .u8 b] w fun e w'=>e=.returned (.bool (plB b))/\w'=w):=fun w=>Ah b _ rfl w hb
 clear ho;by_cases h10:b=10
 ·have HS:Hid (lq b=[92,110]):=by rw[h10];rfl
  have a10:((b:Int) == 10)=true:=by simp;omega
  clear h10;go_enter func305,ntmps305
  go_wp2_with(first|(at_builtin;refine wpList_append_own _ rfl (.tmp 24) (.tmp 25) 48 rfl base 5 i0 (.int .u8 0) 1 1 Tryz.underlying48 hi hz0 hz1 hz2 rfl (by decide) _ _ _ rfl (HO.out.alloc _) ⟨w.heap.size,0,none⟩ 2 2 [.int .u8 92,.int .u8 110] rfl rfl (Fw _ _ _ _) (Xw [92,110]) (by unfold maxLen;omega) (by omega) (by have:=hbase;simp;omega) ?_;intro v2 w2 hown2 hgr2 hnil2))
  go_ret;rw[HS.out];exact⟨_,rfl,hid (App.mk HO.out hbase rfl rfl hown2 hgr2)⟩
 by_cases h13:b=13
 ·have HS:Hid (lq b=[92,114]):=by rw[h13];rfl
  have a10:((b:Int) == 10)=false:=by simp;omega
  have a13:((b:Int) == 13)=true:=by simp;omega
  clear h13;go_enter func305,ntmps305
  go_wp2_with(first|(at_builtin;refine wpList_append_own _ rfl (.tmp 27) (.tmp 28) 48 rfl base 5 i0 (.int .u8 0) 1 1 Tryz.underlying48 hi hz0 hz1 hz2 rfl (by decide) _ _ _ rfl (HO.out.alloc _) ⟨w.heap.size,0,none⟩ 2 2 [.int .u8 92,.int .u8 114] rfl rfl (Fw _ _ _ _) (Xw [92,114]) (by unfold maxLen;omega) (by omega) (by have:=hbase;simp;omega) ?_;intro v2 w2 hown2 hgr2 hnil2))
  go_ret;rw[HS.out];exact⟨_,rfl,hid (App.mk HO.out hbase rfl rfl hown2 hgr2)⟩
 by_cases h9:b=9
 ·have HS:Hid (lq b=[92,116]):=by rw[h9];rfl
  have a10:((b:Int) == 10)=false:=by simp;omega
  have a13:((b:Int) == 13)=false:=by simp;omega
  have a9:((b:Int) == 9)=true:=by simp;omega
  clear h9;go_enter func305,ntmps305
  go_wp2_with(first|(at_builtin;refine wpList_append_own _ rfl (.tmp 30) (.tmp 31) 48 rfl base 5 i0 (.int .u8 0) 1 1 Tryz.underlying48 hi hz0 hz1 hz2 rfl (by decide) _ _ _ rfl (HO.out.alloc _) ⟨w.heap.size,0,none⟩ 2 2 [.int .u8 92,.int .u8 116] rfl rfl (Fw _ _ _ _) (Xw [92,116]) (by unfold maxLen;omega) (by omega) (by have:=hbase;simp;omega) ?_;intro v2 w2 hown2 hgr2 hnil2))
  go_ret;rw[HS.out];exact⟨_,rfl,hid (App.mk HO.out hbase rfl rfl hown2 hgr2)⟩
 have a10:((b:Int) == 10)=false:=by simp;omega
 have a13:((b:Int) == 13)=false:=by simp;omega
 have a9:((b:Int) == 9)=false:=by simp;omega
 have H3:Hid (b≠10/\b≠13/\b≠9):=⟨h10,h13,h9⟩;clear h10 h13 h9;by_cases hm:b=39∨b=92
 ·have HS:Hid (lq b=[92]++[b]):=by
   show lq b=[92,b];rw[lq,if_neg H3.out.1,if_neg H3.out.2.1,if_neg H3.out.2.2,if_pos hm]
  rcases hm with h39|h92
  ·have a39:((b:Int) == 39)=true:=by simp;omega
   clear h39;go_enter func305,ntmps305
   go_wp2_with(first
    |(at_builtin;refine wpList_append_own _ rfl (.tmp 33) (.tmp 34) 48 rfl base 5 i0 (.int .u8 0) 1 1 Tryz.underlying48 hi hz0 hz1 hz2 rfl (by decide) _ _ _ rfl (HO.out.alloc _) ⟨w.heap.size,0,none⟩ 1 1 [.int .u8 92] rfl rfl (Vf _ _ _) (Xw [92]) (by unfold maxLen;omega) (by omega) (by have:=hbase;simp;omega) ?_;intro v2 w2 hown2 hgr2 hnil2;have HA:Hid (App base _ n xs [92] v2 w2):=App.mk HO.out hbase rfl rfl hown2 hgr2;have hbase2:base<=w2.heap.size:=HA.out.base hbase;have HO2:Hid (w2.ownsRow base 5 1 v2 (n+1) (xs++nv [92])):=HA.out.1;clear hown2 hgr2 hnil2)
    |(at_builtin;refine wpList_append_own _ rfl (.tmp 36) (.tmp 38) 48 rfl base 5 i0 (.int .u8 0) 1 1 Tryz.underlying48 hi hz0 hz1 hz2 rfl (by decide) _ _ _ rfl (HO2.out.alloc _) ⟨w2.heap.size,0,none⟩ 1 1 [.int .u8 b] rfl rfl (Vf _ _ _) (Xw [(b:Int)]) (by unfold maxLen;omega) (by omega) (by have:=hbase2;simp;omega) ?_;intro v3 w3 hown3 hgr3 hnil3))
   go_ret;rw[HS.out];exact⟨_,rfl,hid (HA.out.trans (App.mk HO2.out hbase2 rfl rfl hown3 hgr3))⟩
  ·have a39:((b:Int) == 39)=false:=by simp;omega
   have a92:((b:Int) == 92)=true:=by simp;omega
   clear h92;go_enter func305,ntmps305
   go_wp2_with(first
    |(at_builtin;refine wpList_append_own _ rfl (.tmp 33) (.tmp 34) 48 rfl base 5 i0 (.int .u8 0) 1 1 Tryz.underlying48 hi hz0 hz1 hz2 rfl (by decide) _ _ _ rfl (HO.out.alloc _) ⟨w.heap.size,0,none⟩ 1 1 [.int .u8 92] rfl rfl (Vf _ _ _) (Xw [92]) (by unfold maxLen;omega) (by omega) (by have:=hbase;simp;omega) ?_;intro v2 w2 hown2 hgr2 hnil2;have HA:Hid (App base _ n xs [92] v2 w2):=App.mk HO.out hbase rfl rfl hown2 hgr2;have hbase2:base<=w2.heap.size:=HA.out.base hbase;have HO2:Hid (w2.ownsRow base 5 1 v2 (n+1) (xs++nv [92])):=HA.out.1;clear hown2 hgr2 hnil2)
    |(at_builtin;refine wpList_append_own _ rfl (.tmp 36) (.tmp 38) 48 rfl base 5 i0 (.int .u8 0) 1 1 Tryz.underlying48 hi hz0 hz1 hz2 rfl (by decide) _ _ _ rfl (HO2.out.alloc _) ⟨w2.heap.size,0,none⟩ 1 1 [.int .u8 b] rfl rfl (Vf _ _ _) (Xw [(b:Int)]) (by unfold maxLen;omega) (by omega) (by have:=hbase2;simp;omega) ?_;intro v3 w3 hown3 hgr3 hnil3))
   go_ret;rw[HS.out];exact⟨_,rfl,hid (HA.out.trans (App.mk HO2.out hbase2 rfl rfl hown3 hgr3))⟩
 ·have a39:((b:Int) == 39)=false:=by simp;omega
  have a92:((b:Int) == 92)=false:=by simp;omega
  cases hp:plB b
  ·rw[hp]at HP
   have HS:Hid (lq b=[92,120,Xf (b/16),Xf (b%16)]):=by
    show lq b=_;rw[lq,if_neg H3.out.1,if_neg H3.out.2.1,if_neg H3.out.2.2,if_neg hm,hp,if_neg (by simp)]
   clear hp hm;obtain⟨q,hq⟩:∃q,q=b/16:=⟨_,rfl⟩;obtain⟨r,hr⟩:∃r,r=b%16:=⟨_,rfl⟩;have d1:=Ad q (by omega);have d2:=Ad r (by omega);obtain⟨dq,hdq⟩:∃d,d=Xf q:=⟨_,rfl⟩;obtain⟨dr,hdr⟩:∃d,d=Xf r:=⟨_,rfl⟩;rw[<-hq,<-hr,<-hdq,<-hdr]at HS;rw[<-hdq]at d1;rw[<-hdr]at d2;have e1:(b:Int)/16=(q:Int):=by omega
   have e2:bits BinOp.and IntKind.u8 (b:Int) 15=(r:Int):=by
    have:=u8_and15 (x:=(b:Int)) (by omega) (by omega);rw[this];omega
   clear hq hr hdq hdr;go_enter func305,ntmps305
   go_wp2_with fail
   refine(HP.out _).mono ?_;rintro e w1 ⟨rfl,rfl⟩
   go_wp2_with fail
   have HO1:Hid (w1.drew.ownsRow base 5 1 v n xs):=HO.out.kept (row:=none) ⟨rfl,rfl,rfl,Nat.le_refl _,fun j hj _=>rfl⟩ (by cases hq:v.ownBlock<;>simp)
   go_region_held3 (fun _=>True) (trivial) (first
    |(rw[if_pos (by rfl)];refine wp_append_own _ (.tmp 40) (.tmp 47) 48 rfl base 5 i0 (.int .u8 0) 1 1 Tryz.underlying48 hi hz0 hz1 hz2 rfl (by decide) _ _ _ rfl (HO1.out.alloc _) ⟨w1.heap.size,0,none⟩ 4 4 [.int .u8 92,.int .u8 120,.int .u8 dq,.int .u8 dr] rfl rfl (Wc _ _ _ _ _ _) (Xw [92,120,(dq:Int),(dr:Int)]) (by unfold maxLen;omega) (by omega) (by have:=hbase;simp;omega) ?_;intro v2 w2 hown2 hgr2 hnil2))
   all_goals
    go_wp2_with fail
    go_ret;rw[HS.out];exact⟨_,rfl,hid (App.of_drew (App.mk HO1.out hbase rfl rfl hown2 hgr2))⟩
  ·rw[hp]at HP
   have HS:Hid (lq b=[b]):=by
    show lq b=[b];rw[lq,if_neg H3.out.1,if_neg H3.out.2.1,if_neg H3.out.2.2,if_neg hm,hp,if_pos rfl]
   clear hp hm;go_enter func305,ntmps305
   go_wp2_with fail
   refine(HP.out _).mono ?_;rintro e w1 ⟨rfl,rfl⟩
   go_wp2_with(first|(at_builtin;refine wpList_append_own _ rfl (.tmp 36) (.tmp 38) 48 rfl base 5 i0 (.int .u8 0) 1 1 Tryz.underlying48 hi hz0 hz1 hz2 rfl (by decide) _ _ _ rfl (HO.out.alloc _) ⟨w1.heap.size,0,none⟩ 1 1 [.int .u8 b] rfl rfl (Vf _ _ _) (Xw [(b:Int)]) (by unfold maxLen;omega) (by omega) (by have:=hbase;simp;omega) ?_;intro v2 w2 hown2 hgr2 hnil2))
   go_ret;rw[HS.out];exact⟨_,rfl,hid (App.mk HO.out hbase rfl rfl hown2 hgr2)⟩
theorem Bd(n:Nat)(h:n<16):Xf n<256:=by unfold Xf;split<;>omega
theorem z7i(b:Nat):1<=(lq b).length/\(lq b).length<=4:=by
 unfold lq
 repeat(split;(· simp))
 simp
theorem z7j(b:Nat)(hb:b<256):∀x∈lq b,x<256:=by
 have h1:=Bd (b/16) (by omega);have h2:=Bd (b%16) (by omega);unfold lq
 repeat(split;(· intro x hx;simp at hx;omega))
 intro x hx;simp at hx;omega
def qp(S:ByteArray):Nat->List Nat
 |0=>[39]
 |k+1=>qp S k++(match bt S k with|some x=>lq x|none=>[])
def qt(S:ByteArray):List Nat:=qp S S.size++[39]
theorem Bm(S:ByteArray):∀k,(qp S k).length<=4*k+1/\∀x∈qp S k,x<256
 |0=>by simp[qp]
 |k+1=>by
  have ih:=Bm S k;rw[qp];cases hb:bt S k with
  |none=>simp only[List.append_nil];exact⟨by omega,ih.2⟩
  |some x=>
   have h1:=z7i x;simp only[List.length_append];refine⟨by omega,fun y hy=> ?_⟩;rcases List.mem_append.1 hy with h|h
   ·exact ih.2 y h
   ·exact z7j x (Qh hb).2 y h
theorem Bp{S:ByteArray}{k x:Nat}(h:bt S k=some x):qp S (k+1)=qp S k++lq x:=by rw[qp,h]
theorem Bc(S:ByteArray):∀x∈qt S,x<256:=by
 intro x hx;unfold qt at hx;rcases List.mem_append.1 hx with h|h
 ·exact(Bm S _).2 x h
 ·simp at h;omega
def Lq(w:World)(v:Value)(l:List Nat)(w':World):Prop:=Hid (Below w.heap.size w w')/\Hid (w'.ownsRow w.heap.size 5 1 v l.length (nv l))
theorem z7k(S:ByteArray)(w:World)(hS:S.size<=1048576):
  Calls prog 300 #[.string S] w fun e w'=>e=.returned (.string (nb (qt S)))/\Below w.heap.size w w':=by
 obtain⟨i0,hi0,hz0,hz1,hz2⟩:=info_parts Tryz.infoByte;obtain⟨w1,hmk,hown,hgr⟩:=run_make_own (P:=prog) w w.heap.size 48 5 i0 (.int .u8 0) 1 Tryz.underlying48 hi0 hz0 hz1 .i64 .i64 (S.size+2) (by rw[hz2];omega) (by unfold maxLen;omega) L0q;have e1:((S.size+2:Nat):Int)=(S.size:Int)+2:=by omega
 rw[e1]at hmk;have HB1:Hid (Below w.heap.size w w1):=B0q.grown hgr L0q (fun k e=>by cases e);have HO1:Hid (w1.ownsRow w.heap.size 5 1 (.slice (some ⟨w.heap.size,0,none⟩) 0 (S.size+2)) 0 []):=hown;have hsz1:w.heap.size<=w1.heap.size:=HB1.out.size;obtain⟨n2,hn2⟩:∃n,n=S.size+2:=⟨_,rfl⟩;rw[<-hn2]at hmk HO1;clear hown hgr e1 hn2;go_enter func300,ntmps300
 go_wp2_with(first|(at_builtin;refine wpList_append_own _ rfl (.tmp 9) (.tmp 10) 48 rfl w.heap.size 5 i0 (.int .u8 0) 1 1 Tryz.underlying48 hi0 hz0 hz1 hz2 rfl (by decide) _ _ _ rfl (HO1.out.alloc _) ⟨w1.heap.size,0,none⟩ 1 1 [.int .u8 39] rfl rfl (Vf _ _ _) (Xw [39]) (by unfold maxLen;omega) (by omega) (by simp;omega) ?_;intro v2 w2 hown2 hgr2 hnil2))
 have HL0:Hid (Lq w v2 [39] w2):=⟨hid ((HB1.out.alloc hsz1 _).grown hgr2 (by simp;omega) (fun k e=>(HO1.out.lt k e).1)),hid hown2⟩;clear hown2 hgr2 hnil2 HO1 HB1 hmk
 go_loopw [3,14] (fun v i wr=>∃k:Nat,i=.int .i64 k/\k<=S.size/\Hid (Lq w v (qp S k) wr)) (fun _ i _=>S.size-(intOf i).toNat)
 case atStart=>exact⟨0,rfl,Nat.zero_le _,HL0⟩
 case round=>
  obtain⟨k,rfl,hk,HL⟩:=hrel;have hl:=(Bm S k).1;have hsz:w.heap.size<=wr.heap.size:=HL.out.1.out.size;cases hb:bt S k with
  |none=>
   have hge:=Xv hb;have hkk:k=S.size:=by omega
   have a0:decide ((k:Int)<(S.size:Int))=false:=by simp;omega
   have HF:Hid (qt S=qp S k++[39]):=by show qt S=_;rw[hkk];rfl
   clear hb hkk
   go_wp2_with(first|(at_builtin;refine wpList_append_own _ rfl (.tmp 23) (.tmp 24) 48 rfl w.heap.size 5 i0 (.int .u8 0) 1 1 Tryz.underlying48 hi0 hz0 hz1 hz2 rfl (by decide) _ _ _ rfl (HL.out.2.out.alloc _) ⟨wr.heap.size,0,none⟩ 1 1 [.int .u8 39] rfl rfl (Vf _ _ _) (Xw [39]) (by unfold maxLen;omega) (by omega) (by simp;omega) ?_;intro v9 w9 hown9 hgr9 hnil9;have cva:=Ap (l:=qp S k++[39]) (by rw[Fk];exact hown9) (by rw[<-HF.out];exact Bc S);have hb9:Hid (Below w.heap.size w w9):=(HL.out.1.out.alloc hsz _).grown hgr9 (by simp;omega) (fun k e=>(HL.out.2.out.lt k e).1);clear hown9 hgr9 hnil9))
   (try simp only[Exit.inBlock,Exit.then])
   refine bodyPost_ret (v:=.string (nb (qp S k++[39]))) (by simp[results,Tryz.results300,go_sem]) rfl ?_;exact⟨by rw[HF.out],hb9.out⟩
  |some x=>
   obtain⟨hkk,hxk⟩:=Xk hb;have hx:=(Qh hb).2;have a0:decide ((k:Int)<(S.size:Int))=true:=by simp;omega
   have hkI:(k:Int)<(S.size:Int):=by omega
   have HQ:Hid (qp S (k+1)=qp S k++lq x):=Bp hb;have HN:Hid (((k+1:Nat):Int)=(k:Int)+1):=by show _=_;omega
   have HC:=hid (z7h w.heap.size (qp S k).length x u3 (nv (qp S k)) wr hx HL.out.2.out (by omega) hsz);clear hb
   go_wp2_with fail
   refine HC.out.mono ?_;rintro e w3 ⟨v3,rfl,HA⟩;have HL3:Hid (Lq w v3 (qp S (k+1)) w3):=⟨hid (HL.out.1.out.trans HA.out.2.1),hid (by rw[HQ.out,List.length_append,Fk];exact HA.out.1)⟩;clear HA HC HL
   go_wp2_with fail
   go_roundw
   case rel=>exact⟨k+1,by rw[HN.out],by omega,HL3⟩
   case measure=>simp[intOf];omega
theorem z0S(C D:Nat)(w:World):
  Calls prog 310 #[cv C,cv D] w fun e w'=>e=.returned (cv (C&&&D))/\Below w.heap.size w w':=by
 have b0:bits BinOp.and IntKind.u64 (wd C 0:Nat) (wd D 0:Nat)=(wd (C&&&D) 0:Nat):=by rw[Av];exact Go.bits_and_u64_nat _ _ (Xq _ _) (Xq _ _)
 have b1:bits BinOp.and IntKind.u64 (wd C 1:Nat) (wd D 1:Nat)=(wd (C&&&D) 1:Nat):=by rw[Av];exact Go.bits_and_u64_nat _ _ (Xq _ _) (Xq _ _)
 have b2:bits BinOp.and IntKind.u64 (wd C 2:Nat) (wd D 2:Nat)=(wd (C&&&D) 2:Nat):=by rw[Av];exact Go.bits_and_u64_nat _ _ (Xq _ _) (Xq _ _)
 have b3:bits BinOp.and IntKind.u64 (wd C 3:Nat) (wd D 3:Nat)=(wd (C&&&D) 3:Nat):=by rw[Av];exact Go.bits_and_u64_nat _ _ (Xq _ _) (Xq _ _)
 unfold cv;go_enter func310,ntmps310
 go_wp2
 refine wp_loop_rounds 5 ?_;rw[rounds_succ]
 go_wp2
 go_region
 go_wp2
 rw[rounds_succ]
 go_wp2
 go_region
 go_wp2
 rw[rounds_succ]
 go_wp2
 go_region
 go_wp2
 rw[rounds_succ]
 go_wp2
 go_region
 go_wp2
 rw[rounds_succ]
 go_wp2
 refine bodyPost_ret (v:=.agg #[.int .u64 (wd (C&&&D) 0:Nat),.int .u64 (wd (C&&&D) 1:Nat),.int .u64 (wd (C&&&D) 2:Nat),.int .u64 (wd (C&&&D) 3:Nat)]) (by simp[results,Tryz.results310,go_sem]) rfl ⟨rfl,?_⟩;exact(((B0q.alloc L0q _).alloc (by simp) _).alloc (by simp;omega) _).drew.drew.drew.drew
def Cl(w:World)(g C:Nat):Prop:=w.cell? ⟨g,0,none⟩=some (.int .u64 (wd C 0))/\w.cell? ⟨g,1,none⟩=some (.int .u64 (wd C 1))/\w.cell? ⟨g,2,none⟩=some (.int .u64 (wd C 2))/\w.cell? ⟨g,3,none⟩=some (.int .u64 (wd C 3))
theorem Cl.lt{g C:Nat}(h:Cl w g C):g<w.heap.size:=World.block_lt_of_cell? w _ h.1
theorem Cl.below{g C:Nat}(h:Cl w g C)(hb:Below w.heap.size w w'):Cl w' g C:=by
 have hl:=h.lt;unfold Cl at*;rw[hb.cell (p:=⟨g,0,none⟩) hl,hb.cell (p:=⟨g,1,none⟩) hl,hb.cell (p:=⟨g,2,none⟩) hl,hb.cell (p:=⟨g,3,none⟩) hl];exact h
theorem Cl.alloc{w:World}{g C:Nat}(h:Cl w g C)(o:Obj):Cl (w.alloc o) g C:=h.below (B0q.alloc L0q _)
theorem Cl.drew{w:World}{g C:Nat}(h:Cl w g C):Cl w.drew g C:=h
theorem Tryz.cellsOfK:Tryz.prog.cellsOf 66=1:=by kernel_rfl
theorem Tryz.infoK:(Tryz.prog.info? 66).map (fun i=>(i.zero,i.size,i.bytes))=some (some (.int .u64 0),1,8):=by kernel_rfl
theorem z7l(w:World)(a b c d a' b' c' d':Int):
  (Op.equalIn 10000 68 (.agg #[.int .u64 a,.int .u64 b,.int .u64 c,.int .u64 d]) (.agg #[.int .u64 a',.int .u64 b',.int .u64 c',.int .u64 d'])).run prog w=.ok (a == a'&&(b == b'&&(c == c'&&d == d'))) w:=by
 obtain⟨i,hi⟩:∃i,Tryz.prog.info? 66=some i:=by
  cases h:Tryz.prog.info? 66 with
  |none=>have:=Tryz.infoK;rw[h]at this;cases this
  |some i=>exact⟨i,rfl⟩
 have hu:Tryz.prog.underlying 68=some (.array 4 66):=by kernel_rfl
 rw[run_equalIn_array w 9999 _ _ hu hi,Tryz.cellsOfK];have p:∀(x y z t:Value) (w:World),(part 66 #[x,y,z,t] 0).run prog w=.ok x w:=fun _ _ _ _ _=>by kernel_rfl
 have p1:∀(x y z t:Value) (w:World),(part 66 #[x,y,z,t] 1).run prog w=.ok y w:=fun _ _ _ _ _=>by kernel_rfl
 have p2:∀(x y z t:Value) (w:World),(part 66 #[x,y,z,t] 2).run prog w=.ok z w:=fun _ _ _ _ _=>by kernel_rfl
 have p3:∀(x y z t:Value) (w:World),(part 66 #[x,y,z,t] 3).run prog w=.ok t w:=fun _ _ _ _ _=>by kernel_rfl
 have e:∀(x y:Int) (w:World),(Op.equalIn 9999 66 (.int .u64 x) (.int .u64 y)).run prog w=.ok (x == y) w:=fun x y w=>run_equalIn_int w 9998 66 .u64 .u64 x y Tryz.underlying66
 rw[show List.range 4=[0,1,2,3]from rfl];simp only[Op.eqItems,Sem.run_bind,Nat.mul_one,p,e,Result.andThen_ok];cases h1:a == a'<;>cases h2:b == b'<;>cases h3:c == c'<;>cases h4:d == d'<;>simp[Result.andThen,p1,p2,p3,e,h2,h3,h4,-beq_iff_eq,-beq_eq_false_iff_ne]
theorem z7m(C D:Nat)(hC:C<2^256)(hD:D<2^256)(w:World):
  (Op.equalIn 10000 68 (.agg #[.int .u64 (wd C 0),.int .u64 (wd C 1),.int .u64 (wd C 2),.int .u64 (wd C 3)]) (.agg #[.int .u64 (wd D 0),.int .u64 (wd D 1),.int .u64 (wd D 2),.int .u64 (wd D 3)])).run prog w=.ok (decide (C=D)) w:=by
 rw[z7l];congr 1;by_cases h:C=D
 ·subst h;simp
 ·rw[decide_eq_false h]
  cases h0:((wd C 0:Nat):Int) == (wd D 0:Nat)<;>cases h1:((wd C 1:Nat):Int) == (wd D 1:Nat)<;>cases h2:((wd C 2:Nat):Int) == (wd D 2:Nat)<;>cases h3:((wd C 3:Nat):Int) == (wd D 3:Nat)<;>try rfl
  simp at h0 h1 h2 h3;exact absurd (Tl C D hC hD (by omega) (by omega) (by omega) (by omega)) h
def TabIs(w:World):Prop:=∀j,j<64->w.cell? ⟨5,j,none⟩=some (.int .u8 ((Lib.deBruijn64tab.getD j 0:Nat):Int))
theorem TabIs.lt(h:TabIs w):5<w.heap.size:=World.block_lt_of_cell? w _ (h 0 (by omega))
theorem TabIs.below{B:Nat}(h:TabIs w)(hb:Below B w w')(hB:5<B):TabIs w':=fun j hj=>(hb.cell (p:=⟨5,j,none⟩) hB).trans (h j hj)
theorem TabIs.alloc{w:World}(h:TabIs w)(o:Obj):TabIs (w.alloc o):=h.below (B0q.alloc L0q o) h.lt
theorem z7n(x a:Nat)(hx:x<18446744073709551616)(hx0:x≠0)(hlow:x&&&(18446744073709551616-x)=a):
  IntKind.u64.wrap (bits BinOp.and IntKind.u64 (x:Int) (IntKind.u64.wrap (-(x:Int)))*285870213051353865)/288230376151711744=((a*285870213051353865%18446744073709551616/288230376151711744:Nat):Int):=by
 have e1:IntKind.u64.wrap (-(x:Int))=((18446744073709551616-x:Nat):Int):=by rw[IntKind.wrap_u64];omega
 rw[e1,Go.bits_and_u64_nat x _ hx (by omega),hlow,IntKind.wrap_u64];omega
theorem z7o(x k idx:Nat)(w:World)(hx0:((x:Int) == 0)=false)
  (key:IntKind.u64.wrap (bits BinOp.and IntKind.u64 (x:Int) (IntKind.u64.wrap (-(x:Int)))*285870213051353865)/288230376151711744=(idx:Int))
  (hi:idx<64)(hk:k<64)(hcell:w.cell? ⟨5,idx,none⟩=some (.int .u8 k)):
  Calls prog 274 #[.int .u64 x] w fun e w'=>e=.returned (.int .i64 k)/\w'=w:=by
 go_enter func274,ntmps274
 go_wp2_with(simp only[key])
 go_ret;exact⟨rfl,rfl⟩
theorem Bl(x:Nat)(w:World)(hx:x<18446744073709551616)(hx0:x≠0)(hT:TabIs w):
  Calls prog 274 #[.int .u64 x] w fun e w'=>e=.returned (.int .i64 ((Lib.ctz 64 x:Nat):Int))/\w'=w:=by
 obtain⟨hlow,hk⟩:=Lib.lowest_bit 64 x hx0 hx;obtain⟨hi,htab⟩:=Lib.deBruijn64_at _ hk;have hcell:=hT _ hi;rw[htab]at hcell;exact z7o x _ _ w (by simp;omega) (z7n x _ hx hx0 hlow) hi hk hcell
theorem Np(x:Nat)(hx:x<18446744073709551616)(hx0:x≠0):Lib.ctz 64 x<64/\x.testBit (Lib.ctz 64 x)=true/\∀j,j<Lib.ctz 64 x->x.testBit j=false:=by
 obtain⟨m,hm,hk⟩:=Lib.ctzFrom_spec 64 x (by omega) hx;have e:Lib.ctz 64 x=Lib.ctzFrom 64 x:=by simp[Lib.ctz,hx0]
 rw[<-e]at hm hk;obtain⟨k,hkd⟩:∃k,k=Lib.ctz 64 x:=⟨_,rfl⟩;rw[<-hkd]at hm hk ⊢;clear hkd e;refine⟨hk,?_,fun j hj=> ?_⟩
 ·rw[hm,Nat.testBit_two_pow_mul]
  simp
 ·rw[hm,Nat.testBit_two_pow_mul]
  simp;omega
def Gm(C n:Nat):Prop:=n<256/\C.testBit n=true/\∀j,j<n->C.testBit j=false
def z0T(C n:Nat):Prop:=(C=0/\n=256)∨Gm C n
theorem Cz(C i:Nat)(hi:i<4)(hz:∀q,q<i->wd C q=0)(hn:wd C i≠0):Gm C (64*i+Lib.ctz 64 (wd C i)):=by
 obtain⟨h1,h2,h3⟩:=Np (wd C i) (Xq C i) hn;refine⟨by omega,?_,fun j hj=> ?_⟩
 ·rw[Vl]at h2
  simpa [h1]using h2
 ·by_cases hq:j/64<i
  ·have:=Vl C (j/64) (j%64)
   rw[hz _ hq,Nat.zero_testBit,show 64*(j/64)+j%64=j by omega]at this;simpa [show j%64<64 by omega]using this.symm
  ·have e:j=64*i+j%64:=by omega
   have:=h3 (j%64) (by omega);rw[Vl,<-e]at this;simpa [show j%64<64 by omega]using this
theorem z0U(C:Nat)(w:World)(hC:C<2^256)(hT:TabIs w):
  Calls prog 309 #[cv C] w fun e w'=>(∃n:Nat,e=.returned (.int .i64 n)/\z0T C n)/\Below w.heap.size w w':=by
 have HT:Hid (TabIs w):=hT;clear hT;have i0:∀w:World,(Instr.index 68 (.agg #[.int .u64 (wd C 0),.int .u64 (wd C 1),.int .u64 (wd C 2),.int .u64 (wd C 3)]) (.int .i64 0)).run prog w=.ok (.int .u64 (wd C 0)) w:=fun _=>by kernel_rfl
 have i1:∀w:World,(Instr.index 68 (.agg #[.int .u64 (wd C 0),.int .u64 (wd C 1),.int .u64 (wd C 2),.int .u64 (wd C 3)]) (.int .i64 1)).run prog w=.ok (.int .u64 (wd C 1)) w:=fun _=>by kernel_rfl
 have i2:∀w:World,(Instr.index 68 (.agg #[.int .u64 (wd C 0),.int .u64 (wd C 1),.int .u64 (wd C 2),.int .u64 (wd C 3)]) (.int .i64 2)).run prog w=.ok (.int .u64 (wd C 2)) w:=fun _=>by kernel_rfl
 have i3:∀w:World,(Instr.index 68 (.agg #[.int .u64 (wd C 0),.int .u64 (wd C 1),.int .u64 (wd C 2),.int .u64 (wd C 3)]) (.int .i64 3)).run prog w=.ok (.int .u64 (wd C 3)) w:=fun _=>by kernel_rfl
 by_cases z0:wd C 0=0
 ·have b0:((wd C 0:Int) == 0)=true:=by simp;omega
  by_cases z1:wd C 1=0
  ·have b1:((wd C 1:Int) == 0)=true:=by simp;omega
   by_cases z2:wd C 2=0
   ·have b2:((wd C 2:Int) == 0)=true:=by simp;omega
    by_cases z3:wd C 3=0
    ·have b3:((wd C 3:Int) == 0)=true:=by simp;omega
     have HZ:Hid (C=0):=Tl C 0 hC (by decide+kernel) (by rw[z0];decide+kernel) (by rw[z1];decide+kernel) (by rw[z2];decide+kernel) (by rw[z3];decide+kernel);clear z0 z1 z2 z3;go_enter func309,ntmps309
     go_wp2_with fail
     refine wp_loop_rounds 5 ?_;rw[rounds_succ]
     go_wp2_with fail
     rw[rounds_succ]
     go_wp2_with fail
     rw[rounds_succ]
     go_wp2_with fail
     rw[rounds_succ]
     go_wp2_with fail
     rw[rounds_succ]
     go_wp2_with fail
     go_ret;exact⟨⟨256,rfl,.inl ⟨HZ.out,rfl⟩⟩,B0q.alloc L0q _⟩
    ·have b3:((wd C 3:Int) == 0)=false:=by simp;omega
     have HL:Hid (Gm C (64*3+Lib.ctz 64 (wd C 3))):=Cz C 3 (by omega) (fun q hq=>by have:q=0∨q=1∨q=2:=(by omega);rcases this with rfl|rfl|rfl<;>assumption) z3;have hk:=(Np (wd C 3) (Xq C 3) z3).1;clear z0;clear z1;clear z2;have Z:Hid (wd C 3≠0):=z3;clear z3;go_enter func309,ntmps309
     go_wp2_with fail
     refine wp_loop_rounds 4 ?_;rw[rounds_succ]
     go_wp2_with fail
     rw[rounds_succ]
     go_wp2_with fail
     rw[rounds_succ]
     go_wp2_with fail
     rw[rounds_succ]
     go_wp2_with fail
     refine(Bl _ _ (Xq C 3) Z.out (HT.out.alloc _)).mono ?_;rintro e w1 ⟨rfl,rfl⟩
     go_wp2_with fail
     go_ret;exact⟨⟨_,congrArg (fun n=>Ending.returned (Value.int .i64 n)) (by first|rfl|(push_cast;omega)),.inr HL.out⟩,B0q.alloc L0q _⟩
   ·have b2:((wd C 2:Int) == 0)=false:=by simp;omega
    have HL:Hid (Gm C (64*2+Lib.ctz 64 (wd C 2))):=Cz C 2 (by omega) (fun q hq=>by have:q=0∨q=1:=(by omega);rcases this with rfl|rfl<;>assumption) z2;have hk:=(Np (wd C 2) (Xq C 2) z2).1;clear z0;clear z1;have Z:Hid (wd C 2≠0):=z2;clear z2;go_enter func309,ntmps309
    go_wp2_with fail
    refine wp_loop_rounds 3 ?_;rw[rounds_succ]
    go_wp2_with fail
    rw[rounds_succ]
    go_wp2_with fail
    rw[rounds_succ]
    go_wp2_with fail
    refine(Bl _ _ (Xq C 2) Z.out (HT.out.alloc _)).mono ?_;rintro e w1 ⟨rfl,rfl⟩
    go_wp2_with fail
    go_ret;exact⟨⟨_,congrArg (fun n=>Ending.returned (Value.int .i64 n)) (by first|rfl|(push_cast;omega)),.inr HL.out⟩,B0q.alloc L0q _⟩
  ·have b1:((wd C 1:Int) == 0)=false:=by simp;omega
   have HL:Hid (Gm C (64*1+Lib.ctz 64 (wd C 1))):=Cz C 1 (by omega) (fun q hq=>by obtain rfl:q=0:=(by omega);assumption) z1;have hk:=(Np (wd C 1) (Xq C 1) z1).1;clear z0;have Z:Hid (wd C 1≠0):=z1;clear z1;go_enter func309,ntmps309
   go_wp2_with fail
   refine wp_loop_rounds 2 ?_;rw[rounds_succ]
   go_wp2_with fail
   rw[rounds_succ]
   go_wp2_with fail
   refine(Bl _ _ (Xq C 1) Z.out (HT.out.alloc _)).mono ?_;rintro e w1 ⟨rfl,rfl⟩
   go_wp2_with fail
   go_ret;exact⟨⟨_,congrArg (fun n=>Ending.returned (Value.int .i64 n)) (by first|rfl|(push_cast;omega)),.inr HL.out⟩,B0q.alloc L0q _⟩
 ·have b0:((wd C 0:Int) == 0)=false:=by simp;omega
  have HL:Hid (Gm C (64*0+Lib.ctz 64 (wd C 0))):=Cz C 0 (by omega) (fun q hq=>by omega) z0;have hk:=(Np (wd C 0) (Xq C 0) z0).1;have Z:Hid (wd C 0≠0):=z0;clear z0;go_enter func309,ntmps309
  go_wp2_with fail
  refine wp_loop_rounds 1 ?_;rw[rounds_succ]
  go_wp2_with fail
  refine(Bl _ _ (Xq C 0) Z.out (HT.out.alloc _)).mono ?_;rintro e w1 ⟨rfl,rfl⟩
  go_wp2_with fail
  go_ret;exact⟨⟨_,congrArg (fun n=>Ending.returned (Value.int .i64 n)) (by first|rfl|(push_cast;omega)),.inr HL.out⟩,B0q.alloc L0q _⟩
end Go.Proofs.YtlogolpcipiceaaGreatDoor
