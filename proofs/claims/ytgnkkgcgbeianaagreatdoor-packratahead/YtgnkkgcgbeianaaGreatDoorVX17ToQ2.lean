/- Lemmas for the last text. Conditions: those that each names. -/
import Derived.Test.YtgnkkgcgbeianaaGreatDoorVX10ToY2
import Derived.Deep.RegionHeld3
import Derived.Laws.MakeOwn
import Derived.Laws.IdiomStrings
import Derived.WalkKit
import Derived.WalkLawsBesides
import Derived.Deep.QuietTactic
import Derived.BigQuiet
import Derived.BigRegion
import Derived.ChangeKeysEq
import Derived.Lib.TrailingZeros
import Derived.Deep.RegionWith
set_option linter.unusedVariables false
set_option maxRecDepth 100000
set_option maxHeartbeats 4000000
namespace Go.Proofs.YtgnkkgcgbeianaaGreatDoor
open Go.Proofs.Tryz
open Go.RowKit
variable {w w':World} {R gb n:Nat} {v:Value} {xs:List Value}
def lq(b:Nat):List Nat:=if b=10 then [92,110]else if b=13 then [92,114]else if b=9 then [92,116]else if b=39∨b=92 then [92,b]else if plB b then [b]else [92,120,Yj (b/16),Yj (b%16)]
def NB(w w':World):Prop:=w.heap.size<=w'.heap.size/\∀j,j<w.heap.size->(∀cur,w.heap[j]? ≠some (.cells cur 5 (0,0)))->w'.heap[j]? =w.heap[j]?
theorem NB.trans{a b c:World}(h:NB a b)(k:NB b c):NB a c:=
 ⟨Nat.le_trans h.1 k.1,fun j o r=>(k.2 j (Nat.lt_of_lt_of_le o h.1) (fun cur=>by rw[h.2 j o r];exact r cur)).trans (h.2 j o r)⟩
theorem NB.below(h:Below w.heap.size w w'):NB w w':=⟨h.size,fun j o _=>h.block j o⟩
theorem NB.alloc(w:World)(o:Obj):NB w (w.alloc o):=.below (B0q.alloc L0q _)
theorem NB.grown{base:Nat}(h:w.ownsRow base 5 1 v n xs)(o:w.grownBy w' v.ownBlock):NB w w':=
 ⟨o.size,fun j r t=>o.block j r (fun e=>by
   obtain⟨_,h|⟨g,A,cur,rfl,_,y,_⟩⟩:=h
   ·rw[h.1]at e;simp[Value.ownBlock]at e
   ·simp[Value.ownBlock]at e
    subst e;exact t cur y)⟩
def App(base:Nat)(w:World)(n:Nat)(xs:List Value)(l:List Nat)(v':Value)(w':World):Prop:=
 w'.ownsRow base 5 1 v' (n+l.length) (xs++nv l)/\Below base w w'/\NB w w'
theorem App.mk{base m:Nat}{o:Obj}{r:Value}{t:List Value}{l:List Nat}(y:w.ownsRow base 5 1 v n xs)(D:base<=w.heap.size)(E:m=l.length)(hl:t=nv l)
  (h:w'.ownsRow base 5 1 r (n+m) (xs++t))(A:(w.alloc o).grownBy w' v.ownBlock):App base w n xs l r w':=by
 subst E;subst hl;refine⟨h,(B0q.alloc D _).grown A (by simp;omega) (fun k e=>(y.lt k e).1),(NB.alloc w o).trans (NB.grown (y.alloc o) A)⟩
theorem App.trans{base n:Nat}{w o r:World}{xs:List Value}{l m:List Nat}{v1 v2:Value}(h:App base w n xs l v1 o)(k:App base o (n+l.length) (xs++nv l) m v2 r):App base w n xs (l++m) v2 r:=by
 refine⟨?_,h.2.1.trans k.2.1,h.2.2.trans k.2.2⟩;have:=k.1;rw[Dy,List.length_append,<-List.append_assoc,<-Nat.add_assoc];exact this
theorem App.of_drew{base:Nat}{o:World}{l:List Nat}{v1:Value}(h:App base w.drew n xs l v1 o):App base w n xs l v1 o:=⟨h.1,B0q.drew.trans h.2.1,h.2.2⟩
theorem App.base{base n:Nat}{w o:World}{xs:List Value}{l:List Nat}{v1:Value}(h:App base w n xs l v1 o)(r:base<=w.heap.size):base<=o.heap.size:=Nat.le_trans r h.2.1.size
theorem y0k(base n b:Nat)(v:Value)(xs:List Value)(w:World)(hb:b<256)(ho:w.ownsRow base 5 1 v n xs)(hn:n<=9000000)(h:base<=w.heap.size):
  Calls prog 308 #[v,.int .u8 b] w fun e w'=>∃v',e=.returned v'/\Hid (App base w n xs (lq b) v' w'):=by
 obtain⟨E,G,I,U,V⟩:=info_parts Tryz.infoByte;have A:Hid (w.ownsRow base 5 1 v n xs):=ho;have HP:Hid (∀w:World,Calls prog 172 #[.int .u8 b] w fun e w'=>e=.returned (.bool (plB b))/\w'=w):=fun w=>Ck b _ rfl w hb
 clear ho;by_cases h10:b=10
 ·have D:Hid (lq b=[92,110]):=by rw[h10];rfl
  have ac:((b:Int) == 10)=true:=by simp;omega
  clear h10;go_enter func308,ntmps308
  go_wp2_with(first|(at_builtin;refine wpList_append_own _ rfl (.tmp 24) (.tmp 25) 185 rfl base 5 E (.int .u8 0) 1 1 Tryz.underlying185 G I U V rfl (by decide) _ _ _ rfl (A.out.alloc _) ⟨w.heap.size,0,none⟩ 2 2 [.int .u8 92,.int .u8 110] rfl rfl (Df _ _ _ _) (Xh [92,110]) (by unfold maxLen;omega) (by omega) (by have:=h;simp;omega) ?_;intro v2 y o t Z))
  go_ret;rw[D.out];exact⟨_,rfl,hid (App.mk A.out h rfl rfl o t)⟩
 by_cases h13:b=13
 ·have D:Hid (lq b=[92,114]):=by rw[h13];rfl
  have ac:((b:Int) == 10)=false:=by simp;omega
  have ah:((b:Int) == 13)=true:=by simp;omega
  clear h13;go_enter func308,ntmps308
  go_wp2_with(first|(at_builtin;refine wpList_append_own _ rfl (.tmp 27) (.tmp 28) 185 rfl base 5 E (.int .u8 0) 1 1 Tryz.underlying185 G I U V rfl (by decide) _ _ _ rfl (A.out.alloc _) ⟨w.heap.size,0,none⟩ 2 2 [.int .u8 92,.int .u8 114] rfl rfl (Df _ _ _ _) (Xh [92,114]) (by unfold maxLen;omega) (by omega) (by have:=h;simp;omega) ?_;intro v2 y o t Z))
  go_ret;rw[D.out];exact⟨_,rfl,hid (App.mk A.out h rfl rfl o t)⟩
 by_cases h9:b=9
 ·have D:Hid (lq b=[92,116]):=by rw[h9];rfl
  have ac:((b:Int) == 10)=false:=by simp;omega
  have ah:((b:Int) == 13)=false:=by simp;omega
  have a9:((b:Int) == 9)=true:=by simp;omega
  clear h9;go_enter func308,ntmps308
  go_wp2_with(first|(at_builtin;refine wpList_append_own _ rfl (.tmp 30) (.tmp 31) 185 rfl base 5 E (.int .u8 0) 1 1 Tryz.underlying185 G I U V rfl (by decide) _ _ _ rfl (A.out.alloc _) ⟨w.heap.size,0,none⟩ 2 2 [.int .u8 92,.int .u8 116] rfl rfl (Df _ _ _ _) (Xh [92,116]) (by unfold maxLen;omega) (by omega) (by have:=h;simp;omega) ?_;intro v2 y o t Z))
  go_ret;rw[D.out];exact⟨_,rfl,hid (App.mk A.out h rfl rfl o t)⟩
 have ac:((b:Int) == 10)=false:=by simp;omega
 have ah:((b:Int) == 13)=false:=by simp;omega
 have a9:((b:Int) == 9)=false:=by simp;omega
 have Y:Hid (b≠10/\b≠13/\b≠9):=⟨h10,h13,h9⟩;clear h10 h13 h9;by_cases hm:b=39∨b=92
 ·have D:Hid (lq b=[92]++[b]):=by
   show lq b=[92,b];rw[lq,if_neg Y.out.1,if_neg Y.out.2.1,if_neg Y.out.2.2,if_pos hm]
  rcases hm with ak|al
  ·have ai:((b:Int) == 39)=true:=by simp;omega
   clear ak;go_enter func308,ntmps308
   go_wp2_with(first
    |(at_builtin;refine wpList_append_own _ rfl (.tmp 33) (.tmp 34) 185 rfl base 5 E (.int .u8 0) 1 1 Tryz.underlying185 G I U V rfl (by decide) _ _ _ rfl (A.out.alloc _) ⟨w.heap.size,0,none⟩ 1 1 [.int .u8 92] rfl rfl (Vl _ _ _) (Xh [92]) (by unfold maxLen;omega) (by omega) (by have:=h;simp;omega) ?_;intro v2 y o t Z;have HA:Hid (App base _ n xs [92] v2 y):=App.mk A.out h rfl rfl o t;have aa:base<=y.heap.size:=HA.out.base h;have ab:Hid (y.ownsRow base 5 1 v2 (n+1) (xs++nv [92])):=HA.out.1;clear o t Z)
    |(at_builtin;refine wpList_append_own _ rfl (.tmp 36) (.tmp 38) 185 rfl base 5 E (.int .u8 0) 1 1 Tryz.underlying185 G I U V rfl (by decide) _ _ _ rfl (ab.out.alloc _) ⟨y.heap.size,0,none⟩ 1 1 [.int .u8 b] rfl rfl (Vl _ _ _) (Xh [(b:Int)]) (by unfold maxLen;omega) (by omega) (by have:=aa;simp;omega) ?_;intro v3 w3 ad ae am))
   go_ret;rw[D.out];exact⟨_,rfl,hid (HA.out.trans (App.mk ab.out aa rfl rfl ad ae))⟩
  ·have ai:((b:Int) == 39)=false:=by simp;omega
   have ao:((b:Int) == 92)=true:=by simp;omega
   clear al;go_enter func308,ntmps308
   go_wp2_with(first
    |(at_builtin;refine wpList_append_own _ rfl (.tmp 33) (.tmp 34) 185 rfl base 5 E (.int .u8 0) 1 1 Tryz.underlying185 G I U V rfl (by decide) _ _ _ rfl (A.out.alloc _) ⟨w.heap.size,0,none⟩ 1 1 [.int .u8 92] rfl rfl (Vl _ _ _) (Xh [92]) (by unfold maxLen;omega) (by omega) (by have:=h;simp;omega) ?_;intro v2 y o t Z;have HA:Hid (App base _ n xs [92] v2 y):=App.mk A.out h rfl rfl o t;have aa:base<=y.heap.size:=HA.out.base h;have ab:Hid (y.ownsRow base 5 1 v2 (n+1) (xs++nv [92])):=HA.out.1;clear o t Z)
    |(at_builtin;refine wpList_append_own _ rfl (.tmp 36) (.tmp 38) 185 rfl base 5 E (.int .u8 0) 1 1 Tryz.underlying185 G I U V rfl (by decide) _ _ _ rfl (ab.out.alloc _) ⟨y.heap.size,0,none⟩ 1 1 [.int .u8 b] rfl rfl (Vl _ _ _) (Xh [(b:Int)]) (by unfold maxLen;omega) (by omega) (by have:=aa;simp;omega) ?_;intro v3 w3 ad ae am))
   go_ret;rw[D.out];exact⟨_,rfl,hid (HA.out.trans (App.mk ab.out aa rfl rfl ad ae))⟩
 ·have ai:((b:Int) == 39)=false:=by simp;omega
  have ao:((b:Int) == 92)=false:=by simp;omega
  cases hp:plB b
  ·rw[hp]at HP
   have D:Hid (lq b=[92,120,Yj (b/16),Yj (b%16)]):=by
    show lq b=_;rw[lq,if_neg Y.out.1,if_neg Y.out.2.1,if_neg Y.out.2.2,if_neg hm,hp,if_neg (by simp)]
   clear hp hm;obtain⟨q,hq⟩:∃q,q=b/16:=⟨_,rfl⟩;obtain⟨r,hr⟩:∃r,r=b%16:=⟨_,rfl⟩;have d1:=Cw q (by omega);have d2:=Cw r (by omega);obtain⟨dq,af⟩:∃d,d=Yj q:=⟨_,rfl⟩;obtain⟨dr,ag⟩:∃d,d=Yj r:=⟨_,rfl⟩;rw[<-hq,<-hr,<-af,<-ag]at D;rw[<-af]at d1;rw[<-ag]at d2;have e1:(b:Int)/16=(q:Int):=by omega
   have e2:bits BinOp.and IntKind.u8 (b:Int) 15=(r:Int):=by
    have:=u8_and15 (x:=(b:Int)) (by omega) (by omega);rw[this];omega
   clear hq hr af ag;go_enter func308,ntmps308
   go_wp2_with fail
   refine(HP.out _).mono ?_;rintro e w1 ⟨rfl,rfl⟩
   go_wp2_with fail
   have aj:Hid (w1.drew.ownsRow base 5 1 v n xs):=A.out.kept (row:=none) ⟨rfl,rfl,rfl,Nat.le_refl _,fun j hj _=>rfl⟩ (by cases hq:v.ownBlock<;>simp)
   go_region_held3 (fun _=>True) (trivial) (first
    |(rw[if_pos (by rfl)];refine wp_append_own _ (.tmp 40) (.tmp 47) 185 rfl base 5 E (.int .u8 0) 1 1 Tryz.underlying185 G I U V rfl (by decide) _ _ _ rfl (aj.out.alloc _) ⟨w1.heap.size,0,none⟩ 4 4 [.int .u8 92,.int .u8 120,.int .u8 dq,.int .u8 dr] rfl rfl (z1y _ _ _ _ _ _) (Xh [92,120,(dq:Int),(dr:Int)]) (by unfold maxLen;omega) (by omega) (by have:=h;simp;omega) ?_;intro v2 y o t Z))
   all_goals
    go_wp2_with fail
    go_ret;rw[D.out];exact⟨_,rfl,hid (App.of_drew (App.mk aj.out h rfl rfl o t))⟩
  ·rw[hp]at HP
   have D:Hid (lq b=[b]):=by
    show lq b=[b];rw[lq,if_neg Y.out.1,if_neg Y.out.2.1,if_neg Y.out.2.2,if_neg hm,hp,if_pos rfl]
   clear hp hm;go_enter func308,ntmps308
   go_wp2_with fail
   refine(HP.out _).mono ?_;rintro e w1 ⟨rfl,rfl⟩
   go_wp2_with(first|(at_builtin;refine wpList_append_own _ rfl (.tmp 36) (.tmp 38) 185 rfl base 5 E (.int .u8 0) 1 1 Tryz.underlying185 G I U V rfl (by decide) _ _ _ rfl (A.out.alloc _) ⟨w1.heap.size,0,none⟩ 1 1 [.int .u8 b] rfl rfl (Vl _ _ _) (Xh [(b:Int)]) (by unfold maxLen;omega) (by omega) (by have:=h;simp;omega) ?_;intro v2 y o t Z))
   go_ret;rw[D.out];exact⟨_,rfl,hid (App.mk A.out h rfl rfl o t)⟩
theorem Ew(n:Nat)(h:n<16):Yj n<256:=by unfold Yj;split<;>omega
theorem y0l(b:Nat):1<=(lq b).length/\(lq b).length<=4:=by
 unfold lq
 repeat(split;(· simp))
 simp
theorem y0m(b:Nat)(h:b<256):∀x∈lq b,x<256:=by
 have o:=Ew (b/16) (by omega);have r:=Ew (b%16) (by omega);unfold lq
 repeat(split;(· intro x hx;simp at hx;omega))
 intro x hx;simp at hx;omega
def qp(S:ByteArray):Nat->List Nat
 |0=>[39]
 |k+1=>qp S k++(match bt S k with|some x=>lq x|none=>[])
def qt(S:ByteArray):List Nat:=qp S S.size++[39]
theorem Ey(S:ByteArray):∀k,(qp S k).length<=4*k+1/\∀x∈qp S k,x<256
 |0=>by simp[qp]
 |k+1=>by
  have o:=Ey S k;rw[qp];cases hb:bt S k with
  |none=>simp only[List.append_nil];exact⟨by omega,o.2⟩
  |some x=>
   have t:=y0l x;simp only[List.length_append];refine⟨by omega,fun y r=> ?_⟩;rcases List.mem_append.1 r with h|h
   ·exact o.2 y h
   ·exact y0m x (Qp hb).2 y h
theorem Ef{S:ByteArray}{k x:Nat}(h:bt S k=some x):qp S (k+1)=qp S k++lq x:=by rw[qp,h]
theorem Eg(S:ByteArray):∀x∈qt S,x<256:=by
 intro x hx;unfold qt at hx;rcases List.mem_append.1 hx with h|h
 ·exact(Ey S _).2 x h
 ·simp at h;omega
def Lq(w:World)(v:Value)(l:List Nat)(w':World):Prop:=Hid (Below w.heap.size w w')/\Hid (w'.ownsRow w.heap.size 5 1 v l.length (nv l))
theorem y0n(S:ByteArray)(w:World)(hS:S.size<=1048576):
  Calls prog 302 #[.string S] w fun e w'=>e=.returned (.string (nb (qt S)))/\Below w.heap.size w w':=by
 obtain⟨t,y,A,D,E⟩:=info_parts Tryz.infoByte;obtain⟨o,G,Y,Z⟩:=run_make_own (P:=prog) w w.heap.size 185 5 t (.int .u8 0) 1 Tryz.underlying185 y A D .i64 .i64 (S.size+2) (by rw[E];omega) (by unfold maxLen;omega) L0q;have e1:((S.size+2:Nat):Int)=(S.size:Int)+2:=by omega
 rw[e1]at G;have I:Hid (Below w.heap.size w o):=B0q.grown Z L0q (fun k e=>by cases e);have r:Hid (o.ownsRow w.heap.size 5 1 (.slice (some ⟨w.heap.size,0,none⟩) 0 (S.size+2)) 0 []):=Y;have ag:w.heap.size<=o.heap.size:=I.out.size;obtain⟨n2,aa⟩:∃n,n=S.size+2:=⟨_,rfl⟩;rw[<-aa]at G r;clear Y Z e1 aa;go_enter func302,ntmps302
 go_wp2_with(first|(at_builtin;refine wpList_append_own _ rfl (.tmp 9) (.tmp 10) 185 rfl w.heap.size 5 t (.int .u8 0) 1 1 Tryz.underlying185 y A D E rfl (by decide) _ _ _ rfl (r.out.alloc _) ⟨o.heap.size,0,none⟩ 1 1 [.int .u8 39] rfl rfl (Vl _ _ _) (Xh [39]) (by unfold maxLen;omega) (by omega) (by simp;omega) ?_;intro v2 w2 ab ac ah))
 have ai:Hid (Lq w v2 [39] w2):=⟨hid ((I.out.alloc ag _).grown ac (by simp;omega) (fun k e=>(r.out.lt k e).1)),hid ab⟩;clear ab ac ah r I G
 go_loopw [3,14] (fun v i wr=>∃k:Nat,i=.int .i64 k/\k<=S.size/\Hid (Lq w v (qp S k) wr)) (fun _ i _=>S.size-(intOf i).toNat)
 case atStart=>exact⟨0,rfl,Nat.zero_le _,ai⟩
 case round=>
  obtain⟨k,rfl,hk,h⟩:=hrel;have hl:=(Ey S k).1;have ad:w.heap.size<=wr.heap.size:=h.out.1.out.size;cases hb:bt S k with
  |none=>
   have am:=Xw hb;have U:k=S.size:=by omega
   have a0:decide ((k:Int)<(S.size:Int))=false:=by simp;omega
   have HF:Hid (qt S=qp S k++[39]):=by show qt S=_;rw[U];rfl
   clear hb U
   go_wp2_with(first|(at_builtin;refine wpList_append_own _ rfl (.tmp 23) (.tmp 24) 185 rfl w.heap.size 5 t (.int .u8 0) 1 1 Tryz.underlying185 y A D E rfl (by decide) _ _ _ rfl (h.out.2.out.alloc _) ⟨wr.heap.size,0,none⟩ 1 1 [.int .u8 39] rfl rfl (Vl _ _ _) (Xh [39]) (by unfold maxLen;omega) (by omega) (by simp;omega) ?_;intro v9 w9 ae af aj;have ao:=Cf (l:=qp S k++[39]) (by rw[Dy];exact ae) (by rw[<-HF.out];exact Eg S);have ak:Hid (Below w.heap.size w w9):=(h.out.1.out.alloc ad _).grown af (by simp;omega) (fun k e=>(h.out.2.out.lt k e).1);clear ae af aj))
   (try simp only[Exit.inBlock,Exit.then])
   refine bodyPost_ret (v:=.string (nb (qp S k++[39]))) (by simp[results,Tryz.results302,go_sem]) rfl ?_;exact⟨by rw[HF.out],ak.out⟩
  |some x=>
   obtain⟨U,ap⟩:=Xv hb;have hx:=(Qp hb).2;have a0:decide ((k:Int)<(S.size:Int))=true:=by simp;omega
   have aq:(k:Int)<(S.size:Int):=by omega
   have HQ:Hid (qp S (k+1)=qp S k++lq x):=Ef hb;have HN:Hid (((k+1:Nat):Int)=(k:Int)+1):=by show _=_;omega
   have HC:=hid (y0k w.heap.size (qp S k).length x u3 (nv (qp S k)) wr hx h.out.2.out (by omega) ad);clear hb
   go_wp2_with fail
   refine HC.out.mono ?_;rintro e w3 ⟨v3,rfl,V⟩;have al:Hid (Lq w v3 (qp S (k+1)) w3):=⟨hid (h.out.1.out.trans V.out.2.1),hid (by rw[HQ.out,List.length_append,Dy];exact V.out.1)⟩;clear V HC h
   go_wp2_with fail
   go_roundw
   case rel=>exact⟨k+1,by rw[HN.out],by omega,al⟩
   case measure=>simp[intOf];omega
theorem z2r(C D:Nat)(w:World):
  Calls prog 313 #[cv C,cv D] w fun e w'=>e=.returned (cv (C&&&D))/\Below w.heap.size w w':=by
 have h:bits BinOp.and IntKind.u64 (wd C 0:Nat) (wd D 0:Nat)=(wd (C&&&D) 0:Nat):=by rw[Bc];exact Go.bits_and_u64_nat _ _ (Xk _ _) (Xk _ _)
 have o:bits BinOp.and IntKind.u64 (wd C 1:Nat) (wd D 1:Nat)=(wd (C&&&D) 1:Nat):=by rw[Bc];exact Go.bits_and_u64_nat _ _ (Xk _ _) (Xk _ _)
 have r:bits BinOp.and IntKind.u64 (wd C 2:Nat) (wd D 2:Nat)=(wd (C&&&D) 2:Nat):=by rw[Bc];exact Go.bits_and_u64_nat _ _ (Xk _ _) (Xk _ _)
 have t:bits BinOp.and IntKind.u64 (wd C 3:Nat) (wd D 3:Nat)=(wd (C&&&D) 3:Nat):=by rw[Bc];exact Go.bits_and_u64_nat _ _ (Xk _ _) (Xk _ _)
 unfold cv;go_enter func313,ntmps313
 go_wp2
 refine wp_loop_rounds 5 ?_;rw[rounds_succ]
 go_wp2
 go_region
 go_wp2
 rw[rounds_succ]
 go_wp2
 go_region
 go_wp2
 rw[rounds_succ]
 go_wp2
 go_region
 go_wp2
 rw[rounds_succ]
 go_wp2
 go_region
 go_wp2
 rw[rounds_succ]
 go_wp2
 refine bodyPost_ret (v:=.agg #[.int .u64 (wd (C&&&D) 0:Nat),.int .u64 (wd (C&&&D) 1:Nat),.int .u64 (wd (C&&&D) 2:Nat),.int .u64 (wd (C&&&D) 3:Nat)]) (by simp[results,Tryz.results313,go_sem]) rfl ⟨rfl,?_⟩;exact(((B0q.alloc L0q _).alloc (by simp) _).alloc (by simp;omega) _).drew.drew.drew.drew
theorem Tryz.cellsOfK:Tryz.prog.cellsOf 52=1:=by kernel_rfl
theorem Tryz.infoK:(Tryz.prog.info? 52).map (fun i=>(i.zero,i.size,i.bytes))=some (some (.int .u64 0),1,8):=by kernel_rfl
theorem y0o(w:World)(a b c d o r A D:Int):
  (Op.equalIn 10000 54 (.agg #[.int .u64 a,.int .u64 b,.int .u64 c,.int .u64 d]) (.agg #[.int .u64 o,.int .u64 r,.int .u64 A,.int .u64 D])).run prog w=.ok (a == o&&(b == r&&(c == A&&d == D))) w:=by
 obtain⟨i,E⟩:∃i,Tryz.prog.info? 52=some i:=by
  cases h:Tryz.prog.info? 52 with
  |none=>have:=Tryz.infoK;rw[h]at this;cases this
  |some i=>exact⟨i,rfl⟩
 have G:Tryz.prog.underlying 54=some (.array 4 52):=by kernel_rfl
 rw[run_equalIn_array w 9999 _ _ G E,Tryz.cellsOfK];have p:∀(x y z t:Value) (w:World),(part 52 #[x,y,z,t] 0).run prog w=.ok x w:=fun _ _ _ _ _=>by kernel_rfl
 have p1:∀(x y z t:Value) (w:World),(part 52 #[x,y,z,t] 1).run prog w=.ok y w:=fun _ _ _ _ _=>by kernel_rfl
 have p2:∀(x y z t:Value) (w:World),(part 52 #[x,y,z,t] 2).run prog w=.ok z w:=fun _ _ _ _ _=>by kernel_rfl
 have I:∀(x y z t:Value) (w:World),(part 52 #[x,y,z,t] 3).run prog w=.ok t w:=fun _ _ _ _ _=>by kernel_rfl
 have e:∀(x y:Int) (w:World),(Op.equalIn 9999 52 (.int .u64 x) (.int .u64 y)).run prog w=.ok (x == y) w:=fun x y w=>run_equalIn_int w 9998 52 .u64 .u64 x y Tryz.underlying52
 rw[show List.range 4=[0,1,2,3]from rfl];simp only[Op.eqItems,Sem.run_bind,Nat.mul_one,p,e,Result.andThen_ok];cases h1:a == o<;>cases h2:b == r<;>cases h3:c == A<;>cases h4:d == D<;>simp[Result.andThen,p1,p2,I,e,h2,h3,h4,-beq_iff_eq,-beq_eq_false_iff_ne]
theorem y0p(C D:Nat)(o:C<2^256)(r:D<2^256)(w:World):
  (Op.equalIn 10000 54 (.agg #[.int .u64 (wd C 0),.int .u64 (wd C 1),.int .u64 (wd C 2),.int .u64 (wd C 3)]) (.agg #[.int .u64 (wd D 0),.int .u64 (wd D 1),.int .u64 (wd D 2),.int .u64 (wd D 3)])).run prog w=.ok (decide (C=D)) w:=by
 rw[y0o];congr 1;by_cases h:C=D
 ·subst h;simp
 ·rw[decide_eq_false h]
  cases h0:((wd C 0:Nat):Int) == (wd D 0:Nat)<;>cases h1:((wd C 1:Nat):Int) == (wd D 1:Nat)<;>cases h2:((wd C 2:Nat):Int) == (wd D 2:Nat)<;>cases h3:((wd C 3:Nat):Int) == (wd D 3:Nat)<;>try rfl
  simp at h0 h1 h2 h3;exact absurd (z1k C D o r (by omega) (by omega) (by omega) (by omega)) h
def TabIs(w:World):Prop:=∀j,j<64->w.cell? ⟨5,j,none⟩=some (.int .u8 ((Lib.deBruijn64tab.getD j 0:Nat):Int))
theorem TabIs.lt(h:TabIs w):5<w.heap.size:=World.block_lt_of_cell? w _ (h 0 (by omega))
theorem TabIs.below{B:Nat}(h:TabIs w)(o:Below B w w')(r:5<B):TabIs w':=fun j t=>(o.cell (p:=⟨5,j,none⟩) r).trans (h j t)
theorem TabIs.alloc{w:World}(h:TabIs w)(o:Obj):TabIs (w.alloc o):=h.below (B0q.alloc L0q o) h.lt
theorem y0q(x a:Nat)(hx:x<18446744073709551616)(r:x≠0)(h:x&&&(18446744073709551616-x)=a):
  IntKind.u64.wrap (bits BinOp.and IntKind.u64 (x:Int) (IntKind.u64.wrap (-(x:Int)))*285870213051353865)/288230376151711744=((a*285870213051353865%18446744073709551616/288230376151711744:Nat):Int):=by
 have o:IntKind.u64.wrap (-(x:Int))=((18446744073709551616-x:Nat):Int):=by rw[IntKind.wrap_u64];omega
 rw[o,Go.bits_and_u64_nat x _ hx (by omega),h,IntKind.wrap_u64];omega
theorem y0r(x k h:Nat)(w:World)(r:((x:Int) == 0)=false)
  (o:IntKind.u64.wrap (bits BinOp.and IntKind.u64 (x:Int) (IntKind.u64.wrap (-(x:Int)))*285870213051353865)/288230376151711744=(h:Int))
  (t:h<64)(y:k<64)(A:w.cell? ⟨5,h,none⟩=some (.int .u8 k)):
  Calls prog 267 #[.int .u64 x] w fun e w'=>e=.returned (.int .i64 k)/\w'=w:=by
 go_enter func267,ntmps267
 go_wp2_with(simp only[o])
 go_ret;exact⟨rfl,rfl⟩
theorem Eb(x:Nat)(w:World)(hx:x<18446744073709551616)(h:x≠0)(y:TabIs w):
  Calls prog 267 #[.int .u64 x] w fun e w'=>e=.returned (.int .i64 ((Lib.ctz 64 x:Nat):Int))/\w'=w:=by
 obtain⟨A,o⟩:=Lib.lowest_bit 64 x h hx;obtain⟨r,D⟩:=Lib.deBruijn64_at _ o;have t:=y _ r;rw[D]at t;exact y0r x _ _ w (by simp;omega) (y0q x _ hx h A) r o t
theorem Mh(x:Nat)(hx:x<18446744073709551616)(t:x≠0):Lib.ctz 64 x<64/\x.testBit (Lib.ctz 64 x)=true/\∀j,j<Lib.ctz 64 x->x.testBit j=false:=by
 obtain⟨m,h,o⟩:=Lib.ctzFrom_spec 64 x (by omega) hx;have e:Lib.ctz 64 x=Lib.ctzFrom 64 x:=by simp[Lib.ctz,t]
 rw[<-e]at h o;obtain⟨k,r⟩:∃k,k=Lib.ctz 64 x:=⟨_,rfl⟩;rw[<-r]at h o ⊢;clear r e;refine⟨o,?_,fun j y=> ?_⟩
 ·rw[h,Nat.testBit_two_pow_mul]
  simp
 ·rw[h,Nat.testBit_two_pow_mul]
  simp;omega
def Fd(C n:Nat):Prop:=n<256/\C.testBit n=true/\∀j,j<n->C.testBit j=false
def z2s(C n:Nat):Prop:=(C=0/\n=256)∨Fd C n
theorem Eh(C i:Nat)(A:i<4)(o:∀q,q<i->wd C q=0)(r:wd C i≠0):Fd C (64*i+Lib.ctz 64 (wd C i)):=by
 obtain⟨t,h,y⟩:=Mh (wd C i) (Xk C i) r;refine⟨by omega,?_,fun j D=> ?_⟩
 ·rw[Vc]at h
  simpa [t]using h
 ·by_cases hq:j/64<i
  ·have:=Vc C (j/64) (j%64)
   rw[o _ hq,Nat.zero_testBit,show 64*(j/64)+j%64=j by omega]at this;simpa [show j%64<64 by omega]using this.symm
  ·have e:j=64*i+j%64:=by omega
   have:=y (j%64) (by omega);rw[Vc,<-e]at this;simpa [show j%64<64 by omega]using this
theorem z2t(C:Nat)(w:World)(D:C<2^256)(A:TabIs w):
  Calls prog 312 #[cv C] w fun e w'=>(∃n:Nat,e=.returned (.int .i64 n)/\z2s C n)/\Below w.heap.size w w':=by
 have o:Hid (TabIs w):=A;clear A;have Y:∀w:World,(Instr.index 54 (.agg #[.int .u64 (wd C 0),.int .u64 (wd C 1),.int .u64 (wd C 2),.int .u64 (wd C 3)]) (.int .i64 0)).run prog w=.ok (.int .u64 (wd C 0)) w:=fun _=>by kernel_rfl
 have i1:∀w:World,(Instr.index 54 (.agg #[.int .u64 (wd C 0),.int .u64 (wd C 1),.int .u64 (wd C 2),.int .u64 (wd C 3)]) (.int .i64 1)).run prog w=.ok (.int .u64 (wd C 1)) w:=fun _=>by kernel_rfl
 have i2:∀w:World,(Instr.index 54 (.agg #[.int .u64 (wd C 0),.int .u64 (wd C 1),.int .u64 (wd C 2),.int .u64 (wd C 3)]) (.int .i64 2)).run prog w=.ok (.int .u64 (wd C 2)) w:=fun _=>by kernel_rfl
 have i3:∀w:World,(Instr.index 54 (.agg #[.int .u64 (wd C 0),.int .u64 (wd C 1),.int .u64 (wd C 2),.int .u64 (wd C 3)]) (.int .i64 3)).run prog w=.ok (.int .u64 (wd C 3)) w:=fun _=>by kernel_rfl
 by_cases z0:wd C 0=0
 ·have E:((wd C 0:Int) == 0)=true:=by simp;omega
  by_cases z1:wd C 1=0
  ·have G:((wd C 1:Int) == 0)=true:=by simp;omega
   by_cases z2:wd C 2=0
   ·have I:((wd C 2:Int) == 0)=true:=by simp;omega
    by_cases z3:wd C 3=0
    ·have U:((wd C 3:Int) == 0)=true:=by simp;omega
     have V:Hid (C=0):=z1k C 0 D (by decide+kernel) (by rw[z0];decide+kernel) (by rw[z1];decide+kernel) (by rw[z2];decide+kernel) (by rw[z3];decide+kernel);clear z0 z1 z2 z3;go_enter func312,ntmps312
     go_wp2_with fail
     refine wp_loop_rounds 5 ?_;rw[rounds_succ]
     go_wp2_with fail
     rw[rounds_succ]
     go_wp2_with fail
     rw[rounds_succ]
     go_wp2_with fail
     rw[rounds_succ]
     go_wp2_with fail
     rw[rounds_succ]
     go_wp2_with fail
     go_ret;exact⟨⟨256,rfl,.inl ⟨V.out,rfl⟩⟩,B0q.alloc L0q _⟩
    ·have U:((wd C 3:Int) == 0)=false:=by simp;omega
     have h:Hid (Fd C (64*3+Lib.ctz 64 (wd C 3))):=Eh C 3 (by omega) (fun q r=>by have:q=0∨q=1∨q=2:=(by omega);rcases this with rfl|rfl|rfl<;>assumption) z3;have t:=(Mh (wd C 3) (Xk C 3) z3).1;clear z0;clear z1;clear z2;have Z:Hid (wd C 3≠0):=z3;clear z3;go_enter func312,ntmps312
     go_wp2_with fail
     refine wp_loop_rounds 4 ?_;rw[rounds_succ]
     go_wp2_with fail
     rw[rounds_succ]
     go_wp2_with fail
     rw[rounds_succ]
     go_wp2_with fail
     rw[rounds_succ]
     go_wp2_with fail
     refine(Eb _ _ (Xk C 3) Z.out (o.out.alloc _)).mono ?_;rintro e y ⟨rfl,rfl⟩
     go_wp2_with fail
     go_ret;exact⟨⟨_,congrArg (fun n=>Ending.returned (Value.int .i64 n)) (by first|rfl|(push_cast;omega)),.inr h.out⟩,B0q.alloc L0q _⟩
   ·have I:((wd C 2:Int) == 0)=false:=by simp;omega
    have h:Hid (Fd C (64*2+Lib.ctz 64 (wd C 2))):=Eh C 2 (by omega) (fun q r=>by have:q=0∨q=1:=(by omega);rcases this with rfl|rfl<;>assumption) z2;have t:=(Mh (wd C 2) (Xk C 2) z2).1;clear z0;clear z1;have Z:Hid (wd C 2≠0):=z2;clear z2;go_enter func312,ntmps312
    go_wp2_with fail
    refine wp_loop_rounds 3 ?_;rw[rounds_succ]
    go_wp2_with fail
    rw[rounds_succ]
    go_wp2_with fail
    rw[rounds_succ]
    go_wp2_with fail
    refine(Eb _ _ (Xk C 2) Z.out (o.out.alloc _)).mono ?_;rintro e y ⟨rfl,rfl⟩
    go_wp2_with fail
    go_ret;exact⟨⟨_,congrArg (fun n=>Ending.returned (Value.int .i64 n)) (by first|rfl|(push_cast;omega)),.inr h.out⟩,B0q.alloc L0q _⟩
  ·have G:((wd C 1:Int) == 0)=false:=by simp;omega
   have h:Hid (Fd C (64*1+Lib.ctz 64 (wd C 1))):=Eh C 1 (by omega) (fun q r=>by obtain rfl:q=0:=(by omega);assumption) z1;have t:=(Mh (wd C 1) (Xk C 1) z1).1;clear z0;have Z:Hid (wd C 1≠0):=z1;clear z1;go_enter func312,ntmps312
   go_wp2_with fail
   refine wp_loop_rounds 2 ?_;rw[rounds_succ]
   go_wp2_with fail
   rw[rounds_succ]
   go_wp2_with fail
   refine(Eb _ _ (Xk C 1) Z.out (o.out.alloc _)).mono ?_;rintro e y ⟨rfl,rfl⟩
   go_wp2_with fail
   go_ret;exact⟨⟨_,congrArg (fun n=>Ending.returned (Value.int .i64 n)) (by first|rfl|(push_cast;omega)),.inr h.out⟩,B0q.alloc L0q _⟩
 ·have E:((wd C 0:Int) == 0)=false:=by simp;omega
  have h:Hid (Fd C (64*0+Lib.ctz 64 (wd C 0))):=Eh C 0 (by omega) (fun q r=>by omega) z0;have t:=(Mh (wd C 0) (Xk C 0) z0).1;have Z:Hid (wd C 0≠0):=z0;clear z0;go_enter func312,ntmps312
  go_wp2_with fail
  refine wp_loop_rounds 1 ?_;rw[rounds_succ]
  go_wp2_with fail
  refine(Eb _ _ (Xk C 0) Z.out (o.out.alloc _)).mono ?_;rintro e y ⟨rfl,rfl⟩
  go_wp2_with fail
  go_ret;exact⟨⟨_,congrArg (fun n=>Ending.returned (Value.int .i64 n)) (by first|rfl|(push_cast;omega)),.inr h.out⟩,B0q.alloc L0q _⟩
def rs(C:Nat):Nat->List (Nat×Nat)
 |0=>[]
 |b+1=>if C.testBit b then(match rs C b with
   |[]=>[(b,b)]
   |p::t=>if p.2+1=b then(p.1,b)::t else(b,b)::p::t)else rs C b
theorem Sz(C a:Nat):∀b,a<=b->(∀j,a<=j->j<b->C.testBit j=false)->rs C b=rs C a
 |0,h,_=>by rw[Nat.le_zero.1 h]
 |b+1,h,hz=>by
  by_cases e:a=b+1
  ·subst e;rfl
  ·rw[rs,hz b (by omega) (by omega)]
   simpa using Sz C a b (by omega) (fun j o r=>hz j o (by omega))
theorem Dd(C:Nat):∀b p,p∈rs C b->p.1<=p.2/\p.2<b
 |0,p,h=>by simp[rs]at h
 |b+1,p,h=>by
  rw[rs]at h;split at h
  ·split at h
   ·simp at h;subst h;simp
   ·rename_i q t r
    have o:=Dd C b;rw[r]at o;split at h
    ·rename_i y
     rcases List.mem_cons.1 h with rfl|h
     ·have:=o q (List.mem_cons_self ..)
      simp;omega
     ·have:=o p (List.mem_cons_of_mem _ h)
      omega
    ·rcases List.mem_cons.1 h with rfl|h
     ·simp
     ·have:=o p h
      omega
  ·have:=Dd C b p h
   omega
theorem z2u(C lo:Nat)(o:∀p t,rs C lo=p::t->p.2+1≠lo):∀n,(∀j,lo<=j->j<=lo+n->C.testBit j=true)->rs C (lo+n+1)=(lo,lo+n)::rs C lo
 |0,h=>by
  rw[Nat.add_zero,rs,h lo L0q (by omega),if_pos rfl];split
  ·rename_i e;rw[e];rfl
  ·rename_i p t e
   rw[if_neg (o p t e),e];rfl
 |n+1,h=>by
  have r:=z2u C lo o n (fun j y A=>h j y (by omega));rw[show lo+(n+1)+1=(lo+n+1)+1 by omega,rs,h (lo+n+1) (by omega) (by omega),if_pos rfl,r];simp[Nat.add_assoc]
def y0s:List (Nat×Nat)->Prop
 |[]=>True
 |[p]=>p.1<=p.2
 |p::q::t=>p.1<=p.2/\q.2+1<p.1/\y0s (q::t)
def un:List (Nat×Nat)->Nat
 |[]=>0
 |p::t=>un t|||seg p.1 (p.2+1)
theorem y0t(C b:Nat):C%2^(b+1)=if C.testBit b then C%2^b|||2^b else C%2^b:=by
 apply Nat.eq_of_testBit_eq;intro j;split
 ·rename_i h
  rw[Nat.testBit_or,Nat.testBit_mod_two_pow,Nat.testBit_mod_two_pow,Nat.testBit_two_pow];by_cases h1:b=j
  ·subst h1;simp[h]
  ·by_cases h2:j<b
   ·simp[h1,h2,show j<b+1 by omega]
   ·simp[h1,h2,show ¬j<b+1 by omega]
 ·rename_i h
  rw[Nat.testBit_mod_two_pow,Nat.testBit_mod_two_pow];by_cases h1:b=j
  ·subst h1;simp[h]
  ·by_cases h2:j<b
   ·simp[h2,show j<b+1 by omega]
   ·simp[h2,show ¬j<b+1 by omega]
theorem z2v(C:Nat):∀b,un (rs C b)=C%2^b
 |0=>by simp[rs,un,Nat.mod_one]
 |b+1=>by
  have h:=z2v C b;have lt:=Dd C b;rw[y0t,rs];split
  ·split
   ·rename_i o
    rw[o]at h;rw[<-h];simp only[un];rw[Nat.zero_or,Nat.zero_or,Dw b b L0q,Of,Nat.zero_or]
   ·rename_i q t o
    rw[o]at h lt;have y:=lt q (List.mem_cons_self ..);split
    ·rename_i r
     rw[un,<-h,un,Dw q.1 b (by omega),<-r,Nat.or_assoc]
    ·rw[un,h,Dw b b L0q,Of,Nat.zero_or]
  ·exact h
theorem y0u(C:Nat)(h:C<2^256):un (rs C 256)=C:=by rw[z2v,Nat.mod_eq_of_lt h]
theorem y0v(C R g lo o:Nat)(G:∀j,R.testBit j=(decide (g<=j)&&C.testBit j))(A:g=0∨C.testBit g=false)(hl:R.testBit lo=true)(I:∀j,j<lo->R.testBit j=false)
  (Y:lo<o)(U:∀j,lo<=j->j<o->C.testBit j=true):rs C o=(lo,o-1)::rs C g:=by
 have r:=G lo;rw[hl]at r;simp at r;have e:rs C lo=rs C g:=Sz C g lo r.1 (fun j y D=>by
  have:=G j;rw[I j D]at this;simpa [y]using this.symm)
 have V:∀p t,rs C lo=p::t->p.2+1≠lo:=by
  intro p t E;rw[e]at E;have Z:=Dd C g p (by rw[E];exact List.mem_cons_self ..);rcases A with rfl|A
  ·simp[rs]at E
  ·have:lo≠g:=fun h=>by subst h;rw[A]at r;simp at r
   omega
 have y:=z2u C lo V (o-1-lo) (fun j D h4=>U j D (by omega));rw[show lo+(o-1-lo)+1=o by omega,show lo+(o-1-lo)=o-1 by omega]at y;rw[y,e]
theorem Md(C:Nat):∀b,(rs C b).length<=b
 |0=>by simp[rs]
 |b+1=>by
  have:=Md C b;rw[rs];split
  ·split
   ·simp
   ·rename_i q t h
    rw[h]at this;simp at this;split<;>simp<;>omega
  ·omega
def pv:List (Nat×Nat)->List Value
 |[]=>[]
 |p::t=>.int .i64 (p.1:Int):: .int .i64 (p.2:Int)::pv t
theorem Sq:∀(a b:List (Nat×Nat)),pv (a++b)=pv a++pv b
 |[],b=>rfl
 |p::t,b=>by simp only[List.cons_append,pv,Sq t b]
theorem z2w:∀(a:List (Nat×Nat)),(pv a).length=a.length*2
 |[]=>rfl
 |p::t=>by simp only[pv,List.length_cons,z2w t];omega
def Ul(C R g:Nat):Prop:=g<=256/\(∀j,R.testBit j=(decide (g<=j)&&C.testBit j))/\(g=0∨C.testBit g=false)
theorem Ul.start(C:Nat):Ul C C 0:=⟨by omega,fun j=>by simp,.inl rfl⟩
theorem Ul.lt{C g:Nat}(h:Ul C R g)(o:C<2^256):R<2^256:=by
 apply Nat.lt_pow_two_of_testBit;intro j r;rw[h.2.1 j,Nat.testBit_lt_two_pow (Nat.lt_of_lt_of_le o (Nat.pow_le_pow_right (by decide) r))];simp
theorem Ul.done{C g:Nat}(h:Ul C 0 g):rs C 256=rs C g:=Sz C g 256 h.1 (fun j o _=>by
 have:=h.2.1 j;rw[Nat.zero_testBit]at this;simpa [o]using this.symm)
theorem Ul.step{C R g lo o:Nat}(h:Ul C R g)(E:C<2^256)(hl:Fd R lo)(V:z2s (Xz R&&&seg lo 256) o):
  lo<o/\o<=256/\rs C o=(lo,o-1)::rs C g/\Ul C (R&&&Xz (seg lo o)) o:=by
 have G:=h.lt E;have hx:∀j,(Xz R&&&seg lo 256).testBit j=(decide (j<256)&&decide (lo<=j)&& !R.testBit j):=by
  intro j;rw[Nat.testBit_and,Oy R G,Dj];cases decide (j<256)<;>cases decide (lo<=j)<;>cases R.testBit j<;>rfl
 obtain⟨Y,A,I⟩:=hl;have Z:lo<o/\o<=256/\(∀j,lo<=j->j<o->R.testBit j=true)/\R.testBit o=false:=by
  rcases V with⟨h0,rfl⟩|⟨g1,g2,g3⟩
  ·refine⟨Y,Nat.le_refl _,fun j r t=> ?_,?_⟩
   ·have:=hx j
    rw[h0,Nat.zero_testBit]at this;simpa [r,t]using this.symm
   ·rw[Nat.testBit_lt_two_pow G]
  ·have y:=hx o
   rw[g2]at y;simp at y;have aa:lo≠o:=fun e=>by rw[<-e]at y;rw[A]at y;simp at y
   refine⟨by omega,by omega,fun j r t=> ?_,y.2⟩;have:=hx j;rw[g3 j t]at this;simpa [r,show j<256 by omega]using this.symm
 obtain⟨U,D,k3,k4⟩:=Z;have ab:g<=lo:=by
  have:=h.2.1 lo;rw[A]at this;simp at this;exact this.1
 have kC:∀j,lo<=j->j<o->C.testBit j=true:=fun j r t=>by
  have:=h.2.1 j;rw[k3 j r t]at this;simp at this;exact this.2
 refine⟨U,D,y0v C R g lo o h.2.1 h.2.2 A I U kC,D,fun j=> ?_,.inr ?_⟩
 ·rw[Nat.testBit_and,Oy _ (Nl lo o D),Dj]
  by_cases r:o<=j
  ·have e:=h.2.1 j
   rw[e];by_cases t:j<256
   ·simp[r,t,show ¬j<o by omega,show g<=j by omega]
   ·rw[Nat.testBit_lt_two_pow (Nat.lt_of_lt_of_le E (Nat.pow_le_pow_right (by decide) (by omega)))]
    simp
  ·by_cases t:lo<=j
   ·simp[r,t,show j<o by omega]
   ·rw[I j (by omega)]
    simp[r]
 ·have:=h.2.1 o
  rw[k4]at this;simpa [show g<=o by omega]using this.symm
theorem Blk.ne_own{base:Nat}(h:Blk w gb R)(o:w.ownsRow base 329 2 v n xs):some gb≠v.ownBlock:=by
 obtain⟨_,o|⟨g,t,cur,rfl,_,r,_⟩⟩:=o
 ·rw[o.1];simp[Value.ownBlock]
 ·intro e
  simp[Value.ownBlock]at e;subst e;unfold Blk at h;rw[h]at r;simp at r
theorem y0w{D base:Nat}(h:Blk w gb R)(r:w.ownsRow base 329 2 v n xs):(st4 w gb D).ownsRow base 329 2 v n xs:=
 r.kept (row:=some gb) ⟨rfl,rfl,rfl,by rw[Og];exact Nat.le_refl _,fun j y t=>by
  have o:j≠gb:=fun e=>t (by rw[e])
  unfold st4;rw[Below.heap_setCell _ _ _ _ o,Below.heap_setCell _ _ _ _ o,Below.heap_setCell _ _ _ _ o,Below.heap_setCell _ _ _ _ o]⟩ (.inr (Ne.symm (h.ne_own r)))
def Yw(w:World)(v:Value)(n gb R:Nat)(xs:List Value)(w':World):Prop:=
 Hid (Below w.heap.size w w')/\Hid (w'.ownsRow w.heap.size 329 2 v n xs)/\Hid (Blk w' gb R)
theorem Yw.keep{W:World}(o:Below W.heap.size W w')(h:Yw w v n gb R xs W):Yw w v n gb R xs w':=
 ⟨h.1.out.trans (o.mono h.1.out.size),h.2.1.out.kept (row:=none) ⟨o.os,o.tape,o.output,o.size,fun j r _=>o.block j r⟩ (by cases hq:v.ownBlock<;>simp),h.2.2.out.below o h.2.2.out.lt⟩
theorem Yw.cells{w w':World}{v:Value}{n gb R:Nat}{xs:List Value}(h:Yw w v n gb R xs w'):
  w'.cell? ⟨gb,0,none⟩=some (.int .u64 (wd R 0))/\w'.cell? ⟨gb,1,none⟩=some (.int .u64 (wd R 1))/\w'.cell? ⟨gb,2,none⟩=some (.int .u64 (wd R 2))/\w'.cell? ⟨gb,3,none⟩=some (.int .u64 (wd R 3))/\
  w'.frozen? ⟨gb,0,none⟩=false/\w'.frozen? ⟨gb,1,none⟩=false/\w'.frozen? ⟨gb,2,none⟩=false/\w'.frozen? ⟨gb,3,none⟩=false/\gb<w'.heap.size:=
 have c:=h.2.2.out.cells;have t:=h.2.2.out.thaw
 ⟨c.1,c.2.1,c.2.2.1,c.2.2.2,t.1,t.2.1,t.2.2.1,t.2.2.2,h.2.2.out.lt⟩
theorem y0x(R:Nat)(o:R<2^256)(w:World):(Op.equalIn 10000 54 (.agg #[.int .u64 (wd R 0),.int .u64 (wd R 1),.int .u64 (wd R 2),.int .u64 (wd R 3)]) (.agg #[.int .u64 0,.int .u64 0,.int .u64 0,.int .u64 0])).run prog w=.ok (decide (R=0)) w:=by
 have h:=y0p R 0 o (by decide+kernel) w;simpa [Gz]using h
theorem Tryz.infoPair:(Tryz.prog.info? 329).map (fun i=>(i.zero,i.size,i.bytes))=some (some (.agg #[.int .i64 0,.int .i64 0]),2,16):=by kernel_rfl
def Sx:Value->Nat
 | .slice _ n _=>n
 |_=>0
theorem z2x{base e size:Nat}(h:w.ownsRow base e size v n xs):Sx v=n:=by
 obtain⟨_,h|⟨g,o,cur,rfl,_⟩⟩:=h
 ·rw[h.1,h.2];rfl
 ·rfl
theorem y0y(a b:Int):∀u∈[Value.int .i64 a,Value.int .i64 b],u.oneCell'=true:=by
 intro u h;simp at h;rcases h with rfl|rfl<;>rfl
theorem y0z(C:Nat)(w:World)(hC:C<2^256)(r:TabIs w):
  Calls prog 309 #[cv C] w fun e w'=>∃v,e=.returned v/\Hid (w'.ownsRow w.heap.size 329 2 v (rs C 256).length (pv (rs C 256).reverse))/\Hid (Below w.heap.size w w'):=by
 obtain⟨iP,aA,aB,aC,aD⟩:=info_parts Tryz.infoPair;have V:Hid (TabIs w):=r;clear r;unfold cv;go_enter func309,ntmps309
 go_wp2_with fail
 go_loopw [3,4] (fun v p wr=>∃g R gb:Nat,p=.pointer (some ⟨gb,0,none⟩)/\w.heap.size<=gb/\Hid (Ul C R g)/\Hid (Yw w v (rs C g).length gb R (pv (rs C g).reverse) wr)) (fun v _ _=>256-Sx v)
 case atStart=>
  refine⟨0,C,w.heap.size+1,rfl,by omega,hid (Ul.start C),hid ⟨hid ((B0q.alloc L0q _).alloc (by simp) _),hid (World.ownsRow_nil _ _ _ _),hid ?_⟩⟩;simpa using Blk.new (w.alloc (.cells #[.int .u64 (wd C 0),.int .u64 (wd C 1),.int .u64 (wd C 2),.int .u64 (wd C 3)] 54)) C
 case round=>
  obtain⟨g,R,gb,rfl,aE,Y,G⟩:=hrel;have hR:R<2^256:=Y.out.lt hC;have aa:=y0x R hR;obtain⟨c0,c1,c2,c3,t,y,A,D,hl⟩:=G.out.cells;by_cases hz:R=0
  ·rw[decide_eq_true hz]at aa
   have Z:Hid (R=0):=hz;clear hz
   go_wp2_with fail
   go_ret;have hL:=Y.out;rw[Z.out]at hL;rw[hL.done];exact⟨_,rfl,G.out.2.1,G.out.1⟩
  ·rw[decide_eq_false hz]at aa
   have Z:Hid (R≠0):=hz;clear hz
   go_wp2_with fail
   refine(z2t R _ hR (V.out.below G.out.1.out V.out.lt)).mono ?_;rintro e w1 ⟨⟨lo,rfl,ag⟩,ah⟩;have ai:Hid (Fd R lo):=by
    rcases ag with⟨h0,_⟩|h0
    ·exact absurd h0 Z.out
    ·exact h0
   have aM:lo<256:=ai.out.1;have ab:Hid (Yw w u3 (rs C g).length gb R (pv (rs C g).reverse) w1):=G.out.keep ah;clear ag ah G c0 c1 c2 c3 t y A D hl aa Z;obtain⟨c0,c1,c2,c3,t,y,A,D,hl⟩:=ab.out.cells;have aF:Hid (∀w:World,Calls prog 211 #[.int .i64 lo,.int .i64 255] w fun e w'=>e=.returned (cv (seg lo 256))/\Below w.heap.size w w'):=fun w=>z1n lo 255 w (by omega) (by omega)
   go_wp2_with fail
   refine(z1m _ hR _).mono ?_;rintro e w2 ⟨rfl,aj⟩;have ak:Hid (Yw w u3 (rs C g).length gb R (pv (rs C g).reverse) w2):=ab.out.keep aj;clear aj ab c0 c1 c2 c3 t y A D hl;dsimp only[cv]
   go_wp2_with fail
   refine(aF.out _).mono ?_;rintro e w3 ⟨rfl,al⟩;have am:Hid (Yw w u3 (rs C g).length gb R (pv (rs C g).reverse) w3):=ak.out.keep al;clear al ak;dsimp only[cv]
   go_wp2_with fail
   refine(z2r _ _ _).mono ?_;rintro e w4 ⟨rfl,ao⟩;have ac:Hid (Yw w u3 (rs C g).length gb R (pv (rs C g).reverse) w4):=am.out.keep ao;clear ao am;dsimp only[cv]
   go_wp2_with fail
   refine(z2t _ _ (Nat.and_lt_two_pow _ (Nl lo 256 L0q)) (V.out.below ac.out.1.out V.out.lt)).mono ?_;rintro e w5 ⟨⟨ap,rfl,aq⟩,ar⟩;obtain⟨k1,k2,k3,k4⟩:=Y.out.step hC ai.out aq;obtain⟨h,rfl⟩:∃h,ap=h+1:=⟨ap-1,by omega⟩;have au:Hid (rs C (h+1)=(lo,h)::rs C g):=k3;have aG:Hid (Ul C (R&&&Xz (seg lo (h+1))) (h+1)):=k4;have o:Hid (Yw w u3 (rs C g).length gb R (pv (rs C g).reverse) w5):=ac.out.keep ar;have aN:=Md C g;have aO:=Y.out.1;clear ar ac aq k3 k4
   go_wp2_with(first
    |(at_builtin;refine wpList_append_own _ rfl (.tmp 19) (.tmp 24) 327 rfl w.heap.size 329 iP (.agg #[.int .i64 0,.int .i64 0]) 2 16 Tryz.underlying327 aA aB aC aD rfl (by decide) _ _ _ rfl (o.out.2.1.out.alloc _) ⟨w5.heap.size,0,none⟩ 1 1 [.int .i64 lo,.int .i64 h] rfl rfl (Df _ _ _ _) (y0y _ _) (by unfold maxLen;omega) (by omega) (by have:=o.out.1.out.size;simp;omega) ?_;intro v2 w6 av ad aH))
   have aw:Below w.heap.size w w6:=(o.out.1.out.alloc o.out.1.out.size _).grown ad (by have:=o.out.1.out.size;simp;omega) (fun k e=>(o.out.2.1.out.lt k e).1);have ax:Blk w6 gb R:=(ad.block gb (by have:=o.out.2.2.out.lt;simp;omega) (o.out.2.2.out.ne_own o.out.2.1.out)).trans (o.out.2.2.out.alloc _);have ae:(rs C (h+1)).length=(rs C g).length+1:=by rw[au.out];rfl
   have ay:pv (rs C (h+1)).reverse=pv (rs C g).reverse++[.int .i64 lo,.int .i64 h]:=by rw[au.out,List.reverse_cons,Sq];rfl
   have af:Hid (Yw w v2 (rs C (h+1)).length gb R (pv (rs C (h+1)).reverse) w6):=⟨hid aw,hid (by rw[ae,ay];exact av),hid ax⟩;have r:Yw w v2 (rs C (h+1)).length gb R (pv (rs C (h+1)).reverse) w6.drew:=af.out.keep B0q.drew;have aI:Hid ((rs C (h+1)).length<=h+1):=Md C (h+1);have aJ:Hid (Sx u3=(rs C g).length):=z2x o.out.2.1.out;have aK:Hid ((rs C (h+1)).length=(rs C g).length+1):=ae;have aL:Hid (∀w:World,Calls prog 211 #[.int .i64 lo,.int .i64 h] w fun e w'=>e=.returned (cv (seg lo (h+1)))/\Below w.heap.size w w'):=fun w=>z1n lo h w (by omega) (by omega)
   have aP:IntKind.i64.wrap (h:Int)=(h:Int):=by rw[IntKind.wrap_i64];omega
   have aQ:seg lo (h+1)<2^256:=Nl lo (h+1) k2;clear av ad aH o aw ax ae ay;obtain⟨c0,c1,c2,c3,t,y,A,D,hl⟩:=af.out.cells
   first|go_region_with (first
    |(go_at_call 211;refine(aL.out _).mono ?_;rintro e I ⟨rfl,U⟩;have r:=Yw.keep U (by assumption);obtain⟨c0,c1,c2,c3,t,y,A,D,hl⟩:=r.cells;dsimp only[cv])
    |(go_at_call 127;refine(z1m _ ?hh _).mono ?_;(case hh=>assumption);rintro e I ⟨rfl,U⟩;have r:=Yw.keep U (by assumption);obtain⟨c0,c1,c2,c3,t,y,A,D,hl⟩:=r.cells;dsimp only[cv])
    |(go_at_call 313;refine(z2r _ _ _).mono ?_;rintro e I ⟨rfl,U⟩;have r:=Yw.keep U (by assumption);obtain⟨c0,c1,c2,c3,t,y,A,D,hl⟩:=r.cells;dsimp only[cv]))|skip
   all_goals
    have E:Hid (Yw w v2 (rs C (h+1)).length gb R (pv (rs C (h+1)).reverse) I):=r;have az:Hid (Yw w v2 (rs C (h+1)).length gb (R&&&Xz (seg lo (h+1))) (pv (rs C (h+1)).reverse) (st4 I gb (R&&&Xz (seg lo (h+1))))):=⟨hid (Below.st4 E.out.1.out aE _),hid (y0w E.out.2.2.out E.out.2.1.out),hid (E.out.2.2.out.st4 _)⟩;clear r af
    go_wp2_with fail
    go_roundw
    case rel=>
     refine⟨h+1,R&&&Xz (seg lo (h+1)),I.heap.size,rfl,Nat.le_trans E.out.1.out.size L0q,aG,hid ⟨?_,?_,?_⟩⟩
     ·exact(az.out.1.out.alloc (by rw[Og];exact E.out.1.out.size) _)
     ·exact az.out.2.1.out.alloc _
     ·have hb:=Blk.new (st4 I gb (R&&&Xz (seg lo (h+1)))) (R&&&Xz (seg lo (h+1)))
      rw[Og]at hb;exact hb
    case measure=>
     have e2:=z2x E.out.2.1.out;have e3:=aJ.out;have e4:=aK.out;have e5:=aI.out;simp;omega
end Go.Proofs.YtgnkkgcgbeianaaGreatDoor
