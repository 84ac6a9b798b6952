/- Lemmas for the last text. Conditions: those that each names. -/
import Derived.Test.YtgnkkgcgbeianaaGreatDoorVX17ToQ2
import Derived.Deep.RegionHeld3
import Derived.Laws.IdiomStrings
import Derived.Test.YtgnkkgcgbeianaaGreatDoorVX10ToY2
import Derived.Laws.Strings
import Derived.WideShapes
set_option linter.unusedVariables false
set_option maxRecDepth 100000
set_option maxHeartbeats 4000000
namespace Go.Proofs.YtgnkkgcgbeianaaGreatDoor
open Go.Proofs.Tryz
open Go.RowKit
variable {w w':World} {v:Value} {l:List Nat} {S:ByteArray} {k x:Nat}
def sgn(b:Nat):List Nat:=if b=10 then [92,110]else if b=13 then [92,114]else if b=9 then [92,116]else if mark b then [92,b]else if 32<=b/\b<=126 then [b]else [92,120,Yj (b/16),Yj (b%16)]
theorem Mp(base n b:Nat)(v:Value)(xs:List Value)(w:World)(hb:b<256)(ho:w.ownsRow base 5 1 v n xs)(hn:n<=100000)(h:base<=w.heap.size):
  Calls prog 310 #[v,.int .u8 b] w fun e w'=>∃v',e=.returned v'/\Hid (App base w n xs (sgn b) v' w'):=by
 obtain⟨I,U,V,Y,Z⟩:=info_parts Tryz.infoByte;have A:Hid (w.ownsRow base 5 1 v n xs):=ho;have HM:Hid (∀w:World,Calls prog 244 #[.int .u8 b] w fun e w'=>e=.returned (.bool (mark b))/\w'=w):=fun w=>z8w b w hb
 have HP:Hid (∀w:World,Calls prog 245 #[.int .u8 b] w fun e w'=>e=.returned (.bool (decide (32<=b)&&decide (b<=126)))/\w'=w):=fun w=>z8x b w hb
 clear ho;by_cases h10:b=10
 ·have o:Hid (sgn b=[92,110]):=by rw[h10];rfl
  have ab:((b:Int) == 10)=true:=by simp;omega
  clear h10;go_enter func310,ntmps310
  go_wp2_with(first|(at_builtin;refine wpList_append_own _ rfl (.tmp 20) (.tmp 21) 185 rfl base 5 I (.int .u8 0) 1 1 Tryz.underlying185 U V Y Z rfl (by decide) _ _ _ rfl (A.out.alloc _) ⟨w.heap.size,0,none⟩ 2 2 [.int .u8 92,.int .u8 110] rfl rfl (Df _ _ _ _) (Xh [92,110]) (by unfold maxLen;omega) (by omega) (by have:=h;simp;omega) ?_;intro v2 D t y aa))
  go_ret;rw[o.out];exact⟨_,rfl,hid (App.mk A.out h rfl rfl t y)⟩
 by_cases h13:b=13
 ·have o:Hid (sgn b=[92,114]):=by rw[h13];rfl
  have ab:((b:Int) == 10)=false:=by simp;omega
  have af:((b:Int) == 13)=true:=by simp;omega
  clear h13;go_enter func310,ntmps310
  go_wp2_with(first|(at_builtin;refine wpList_append_own _ rfl (.tmp 23) (.tmp 24) 185 rfl base 5 I (.int .u8 0) 1 1 Tryz.underlying185 U V Y Z rfl (by decide) _ _ _ rfl (A.out.alloc _) ⟨w.heap.size,0,none⟩ 2 2 [.int .u8 92,.int .u8 114] rfl rfl (Df _ _ _ _) (Xh [92,114]) (by unfold maxLen;omega) (by omega) (by have:=h;simp;omega) ?_;intro v2 D t y aa))
  go_ret;rw[o.out];exact⟨_,rfl,hid (App.mk A.out h rfl rfl t y)⟩
 by_cases h9:b=9
 ·have o:Hid (sgn b=[92,116]):=by rw[h9];rfl
  have ab:((b:Int) == 10)=false:=by simp;omega
  have af:((b:Int) == 13)=false:=by simp;omega
  have a9:((b:Int) == 9)=true:=by simp;omega
  clear h9;go_enter func310,ntmps310
  go_wp2_with(first|(at_builtin;refine wpList_append_own _ rfl (.tmp 26) (.tmp 27) 185 rfl base 5 I (.int .u8 0) 1 1 Tryz.underlying185 U V Y Z rfl (by decide) _ _ _ rfl (A.out.alloc _) ⟨w.heap.size,0,none⟩ 2 2 [.int .u8 92,.int .u8 116] rfl rfl (Df _ _ _ _) (Xh [92,116]) (by unfold maxLen;omega) (by omega) (by have:=h;simp;omega) ?_;intro v2 D t y aa))
  go_ret;rw[o.out];exact⟨_,rfl,hid (App.mk A.out h rfl rfl t y)⟩
 have ab:((b:Int) == 10)=false:=by simp;omega
 have af:((b:Int) == 13)=false:=by simp;omega
 have a9:((b:Int) == 9)=false:=by simp;omega
 have E:Hid (b≠10/\b≠13/\b≠9):=⟨h10,h13,h9⟩;clear h10 h13 h9;cases hm:mark b
 ·rw[hm]at HM
  cases hp:(decide (32<=b)&&decide (b<=126))
  ·rw[hp]at HP
   have o:Hid (sgn b=[92,120,Yj (b/16),Yj (b%16)]):=by
    have ac:¬(32<=b/\b<=126):=by simp at hp;omega
    show sgn b=_;rw[sgn,if_neg E.out.1,if_neg E.out.2.1,if_neg E.out.2.2,hm,if_neg (by simp),if_neg ac]
   clear hp hm;obtain⟨q,hq⟩:∃q,q=b/16:=⟨_,rfl⟩;obtain⟨r,hr⟩:∃r,r=b%16:=⟨_,rfl⟩;have d1:=Cw q (by omega);have d2:=Cw r (by omega);obtain⟨dq,ad⟩:∃d,d=Yj q:=⟨_,rfl⟩;obtain⟨dr,ae⟩:∃d,d=Yj r:=⟨_,rfl⟩;rw[<-hq,<-hr,<-ad,<-ae]at o;rw[<-ad]at d1;rw[<-ae]at d2;have e1:(b:Int)/16=(q:Int):=by omega
   have e2:bits BinOp.and IntKind.u8 (b:Int) 15=(r:Int):=by
    have:=u8_and15 (x:=(b:Int)) (by omega) (by omega);rw[this];omega
   clear hq hr ad ae;go_enter func310,ntmps310
   go_wp2_with fail
   refine(HM.out _).mono ?_;rintro e G ⟨rfl,rfl⟩
   go_wp2_with fail
   refine(HP.out _).mono ?_;rintro e G ⟨rfl,rfl⟩
   go_wp2_with fail
   have ag:Hid (G.drew.ownsRow base 5 1 v n xs):=A.out.kept (row:=none) ⟨rfl,rfl,rfl,Nat.le_refl _,fun j hj _=>rfl⟩ (by cases hq:v.ownBlock<;>simp)
   go_region_held3 (fun _=>True) (trivial) (first
    |(rw[if_pos (by rfl)];refine wp_append_own _ (.tmp 36) (.tmp 43) 185 rfl base 5 I (.int .u8 0) 1 1 Tryz.underlying185 U V Y Z rfl (by decide) _ _ _ rfl (ag.out.alloc _) ⟨G.heap.size,0,none⟩ 4 4 [.int .u8 92,.int .u8 120,.int .u8 dq,.int .u8 dr] rfl rfl (z1y _ _ _ _ _ _) (Xh [92,120,(dq:Int),(dr:Int)]) (by unfold maxLen;omega) (by omega) (by have:=h;simp;omega) ?_;intro v2 D t y aa))
   all_goals
    go_wp2_with fail
    go_ret;rw[o.out];exact⟨_,rfl,hid (App.of_drew (App.mk ag.out h rfl rfl t y))⟩
  ·rw[hp]at HP
   have o:Hid (sgn b=[b]):=by
    have ac:32<=b/\b<=126:=by simpa using hp
    show sgn b=[b];rw[sgn,if_neg E.out.1,if_neg E.out.2.1,if_neg E.out.2.2,hm,if_neg (by simp),if_pos ac]
   clear hp hm;go_enter func310,ntmps310
   go_wp2_with fail
   refine(HM.out _).mono ?_;rintro e G ⟨rfl,rfl⟩
   go_wp2_with fail
   refine(HP.out _).mono ?_;rintro e G ⟨rfl,rfl⟩
   go_wp2_with(first|(at_builtin;refine wpList_append_own _ rfl (.tmp 32) (.tmp 34) 185 rfl base 5 I (.int .u8 0) 1 1 Tryz.underlying185 U V Y Z rfl (by decide) _ _ _ rfl (A.out.alloc _) ⟨G.heap.size,0,none⟩ 1 1 [.int .u8 b] rfl rfl (Vl _ _ _) (Xh [(b:Int)]) (by unfold maxLen;omega) (by omega) (by have:=h;simp;omega) ?_;intro v2 D t y aa))
   go_ret;rw[o.out];exact⟨_,rfl,hid (App.mk A.out h rfl rfl t y)⟩
 ·rw[hm]at HM
  have o:Hid (sgn b=[92]++[b]):=by
   show sgn b=[92,b];rw[sgn,if_neg E.out.1,if_neg E.out.2.1,if_neg E.out.2.2,hm,if_pos rfl]
  clear hm;go_enter func310,ntmps310
  go_wp2_with fail
  refine(HM.out _).mono ?_;rintro e G ⟨rfl,rfl⟩
  go_wp2_with(first
   |(at_builtin;refine wpList_append_own _ rfl (.tmp 29) (.tmp 30) 185 rfl base 5 I (.int .u8 0) 1 1 Tryz.underlying185 U V Y Z rfl (by decide) _ _ _ rfl (A.out.alloc _) ⟨G.heap.size,0,none⟩ 1 1 [.int .u8 92] rfl rfl (Vl _ _ _) (Xh [92]) (by unfold maxLen;omega) (by omega) (by have:=h;simp;omega) ?_;intro v2 D t y aa;have HA:Hid (App base _ n xs [92] v2 D):=App.mk A.out h rfl rfl t y;have ah:base<=D.heap.size:=HA.out.base h;have ai:Hid (D.ownsRow base 5 1 v2 (n+1) (xs++nv [92])):=HA.out.1;clear t y aa)
   |(at_builtin;refine wpList_append_own _ rfl (.tmp 32) (.tmp 34) 185 rfl base 5 I (.int .u8 0) 1 1 Tryz.underlying185 U V Y Z rfl (by decide) _ _ _ rfl (ai.out.alloc _) ⟨D.heap.size,0,none⟩ 1 1 [.int .u8 b] rfl rfl (Vl _ _ _) (Xh [(b:Int)]) (by unfold maxLen;omega) (by omega) (by have:=ah;simp;omega) ?_;intro v3 w3 aj ak al))
  go_ret;rw[o.out];exact⟨_,rfl,hid (HA.out.trans (App.mk ai.out ah rfl rfl aj ak))⟩
def Vx(p:Nat×Nat):List Nat:=sgn p.1++((if 1<p.2-p.1 then [45]else [])++(if p.1<p.2 then sgn p.2 else []))
def Qm:List (Nat×Nat)->List Nat
 |[]=>[]
 |p::t=>Vx p++Qm t
theorem Ed:∀(a:List (Nat×Nat)) (p:Nat×Nat),Qm (a++[p])=Qm a++Vx p
 |[],p=>by simp[Qm]
 |q::t,p=>by simp only[List.cons_append,Qm,Ed t p,List.append_assoc]
theorem Mc(b:Nat):1<=(sgn b).length/\(sgn b).length<=4:=by
 unfold sgn;split
 ·simp
 ·split
  ·simp
  ·split
   ·simp
   ·split
    ·simp
    ·split<;>simp
theorem z2y(b:Nat)(h:b<256):∀x∈sgn b,x<256:=by
 have o:=Ew (b/16) (by omega);have r:=Ew (b%16) (by omega);unfold sgn;split
 ·intro x hx;simp at hx;omega
 ·split
  ·intro x hx;simp at hx;omega
  ·split
   ·intro x hx;simp at hx;omega
   ·split
    ·intro x hx;simp at hx;omega
    ·split
     ·intro x hx;simp at hx;omega
     ·intro x hx;simp at hx;omega
theorem y0A(p:Nat×Nat):(Vx p).length<=9:=by
 have h:=Mc p.1;have o:=Mc p.2;unfold Vx;simp only[List.length_append];split<;>split<;>simp<;>omega
theorem y0B(p:Nat×Nat)(h:p.1<256)(o:p.2<256):∀x∈Vx p,x<256:=by
 intro x hx;unfold Vx at hx;simp only[List.mem_append]at hx;rcases hx with hx|hx|hx
 ·exact z2y p.1 h x hx
 ·split at hx
  ·simp at hx;omega
  ·simp at hx
 ·split at hx
  ·exact z2y p.2 o x hx
  ·simp at hx
theorem Sj:∀(a:List (Nat×Nat)),(Qm a).length<=9*a.length
 |[]=>by simp[Qm]
 |p::t=>by have:=Sj t;have:=y0A p;simp only[Qm,List.length_append,List.length_cons];omega
theorem z2z:∀(a:List (Nat×Nat)),(∀p∈a,p.1<256/\p.2<256)->∀x∈Qm a,x<256
 |[],_,x,hx=>by simp[Qm]at hx
 |p::t,h,x,hx=>by
  simp only[Qm,List.mem_append]at hx;rcases hx with hx|hx
  ·exact y0B p (h p (List.mem_cons_self ..)).1 (h p (List.mem_cons_self ..)).2 x hx
  ·exact z2z t (fun q o=>h q (List.mem_cons_of_mem _ o)) x hx
def txt(C:Nat):List Nat:=([91]++Qm (rs C 256).reverse)++[93]
theorem Sk(C:Nat):∀x∈txt C,x<256:=by
 intro x hx;unfold txt at hx;simp only[List.mem_append,List.mem_singleton]at hx;rcases hx with(rfl|hx)|rfl
 ·omega
 ·exact z2z _ (fun p h=>by have:=Dd C 256 p (List.mem_reverse.1 h);omega) x hx
 ·omega
theorem y0C(a:List (Nat×Nat))(p:Nat×Nat)(b:List (Nat×Nat)):(pv (a++p::b))[a.length*2]? =some (.int .i64 (p.1:Int))/\(pv (a++p::b))[a.length*2+1]? =some (.int .i64 (p.2:Int)):=by
 rw[Sq];have:=z2w a;constructor
 ·rw[List.getElem?_append_right (by omega),this,Nat.sub_self];rfl
 ·rw[List.getElem?_append_right (by omega),this,show a.length*2+1-a.length*2=1 by omega];rfl
theorem y0D{base n:Nat}{xs:List Value}(h:w.ownsRow base 329 2 v n xs)(y:NB w w'):w'.ownsRow base 329 2 v n xs:=by
 refine⟨h.1,?_⟩;rcases h.2 with A|⟨g,D,cur,rfl,E,o,rest⟩
 ·exact .inl A
 ·refine .inr ⟨g,D,cur,rfl,E,?_,rest⟩
  have G:g<w.heap.size:=by
   rcases Nat.lt_or_ge g w.heap.size with r|r
   ·exact r
   ·rw[Array.getElem?_eq_none r]at o;cases o
  rw[y.2 g G (fun c t=>by rw[o]at t;simp at t)];exact o
def Tx(w:World)(base2:Nat)(rv:Value)(L:List (Nat×Nat))(v:Value)(l:List Nat)(w':World):Prop:=
 Hid (Below w.heap.size w w')/\Hid (w'.ownsRow base2 329 2 rv L.length (pv L))/\Hid (w'.ownsRow w.heap.size 5 1 v l.length (nv l))
theorem Tx.app{W:World}{o:Nat}{r t:Value}{L:List (Nat×Nat)}{m:List Nat}(h:Tx w o r L v l W)(k:App w.heap.size W l.length (nv l) m t w'):Tx w o r L t (l++m) w':=
 ⟨hid (h.1.out.trans k.2.1),hid (y0D h.2.1.out k.2.2),hid (by rw[List.length_append,Dy];exact k.1)⟩
theorem Tx.keep{W:World}{r:Nat}{t:Value}{L:List (Nat×Nat)}(h:Tx w r t L v l W)(o:Below W.heap.size W w'):Tx w r t L v l w':=
 ⟨hid (h.1.out.trans (o.mono h.1.out.size)),hid (Yf h.2.1.out o),hid (Yf h.2.2.out o)⟩
theorem y0E(C:Nat)(w:World)(hC:C<2^256)(hT:TabIs w):
  Calls prog 303 #[cv C] w fun e w'=>e=.returned (.string (nb (txt C)))/\Below w.heap.size w w':=by
 obtain⟨i0,aj,ak,al,am⟩:=info_parts Tryz.infoByte;have HT:Hid (TabIs w):=hT;clear hT;unfold cv;go_enter func303,ntmps303
 go_wp2_with fail
 refine(y0z C _ hC ((HT.out.alloc _).alloc _)).mono ?_;rintro e w2 ⟨rv,rfl,aB,ao⟩;obtain⟨L,hL⟩:∃L,L=(rs C 256).reverse:=⟨_,rfl⟩;have ap:L.length=(rs C 256).length:=by rw[hL];simp
 have aZ:L.length<=256:=by rw[ap];exact Md C 256
 have aL:Hid (∀p∈L,p.1<=p.2/\p.2<256):=by rw[hL];exact fun p hp=>Dd C 256 p (List.mem_reverse.1 hp)
 have HF:Hid (txt C=([91]++Qm L)++[93]):=by rw[hL];rfl
 have aC:Hid (∀x∈([91]++Qm L)++[93],x<256):=by rw[<-HF.out];exact Sk C
 have aD:((w.alloc (.cells #[.int .u64 (wd C 0),.int .u64 (wd C 1),.int .u64 (wd C 2),.int .u64 (wd C 3)] 54)).alloc (.cells #[.int .u8 91] 5)).ownsRow w.heap.size 5 1 (.slice (some ⟨w.heap.size+1,0,none⟩) 1 1) 1 (nv [91]):=
  ⟨rfl,.inr ⟨w.heap.size+1,1,#[.int .u8 91],rfl,by omega,Qx _ _ (by simp),Nat.le_refl _,by unfold maxLen;omega,rfl,rfl⟩⟩
 obtain⟨D,aE⟩:∃b,b=((w.alloc (.cells #[.int .u64 (wd C 0),.int .u64 (wd C 1),.int .u64 (wd C 2),.int .u64 (wd C 3)] 54)).alloc (.cells #[.int .u8 91] 5)).heap.size:=⟨_,rfl⟩;have Y:Hid (Tx w D rv L (.slice (some ⟨w.heap.size+1,0,none⟩) 1 1) [91] w2):=
  ⟨hid (((B0q.alloc L0q _).alloc (by simp) _).trans (ao.out.mono (by simp;omega))),hid (by rw[aE,ap,hL];exact aB.out),hid (Yf aD ao.out)⟩
 clear aD aB ao hL ap aE;rcases Y.out.2.1.out.2 with⟨rfl,aM⟩|⟨E,I,cur,rfl,aN,aO,a0,aP,aQ,aR⟩
 ·have aq:L=[]:=List.eq_nil_of_length_eq_zero aM
  obtain⟨l,hl⟩:∃l:List Nat,l=[91]:=⟨_,rfl⟩;have aS:l.length<=2305:=by rw[hl];simp
  have ar:Hid (∀x∈l++[93],x<256):=by have:=aC.out;rw[aq]at this;rw[hl];exact this
  have au:Hid (txt C=l++[93]):=by have:=HF.out;rw[aq]at this;rw[hl];exact this
  rw[<-hl]at Y;clear aq hl
  go_wp2_with fail
  refine wp_loop_rounds 1 ?_;rw[rounds_succ];have av:w.heap.size<=w2.heap.size:=Y.out.1.out.size
  go_wp2_with(first|(at_builtin;refine wpList_append_own _ rfl (.tmp 39) (.tmp 40) 185 rfl w.heap.size 5 i0 (.int .u8 0) 1 1 Tryz.underlying185 aj ak al am rfl (by decide) _ _ _ rfl (Y.out.2.2.out.alloc _) ⟨w2.heap.size,0,none⟩ 1 1 [.int .u8 93] rfl rfl (Vl _ _ _) (Xh [93]) (by unfold maxLen;omega) (by omega) (by simp;omega) ?_;intro v9 w9 ac aw aT;obtain⟨g9,c9,rfl⟩:=Gx ac (by omega);have aU:=Cy (l:=l++[93]) (by rw[Dy];exact ac) ar.out))
  go_ret;have ax:Below w.heap.size w w9:=(Y.out.1.out.alloc av _).grown aw (by simp;omega) (fun k e=>(Y.out.2.2.out.lt k e).1);exact⟨by rw[au.out];rfl,ax⟩
 ·clear aN aO aQ aR cur
  unfold maxLen at aP
  go_wp2_with fail
  go_loopw [3,12] (fun v i wr=>∃(A B:List (Nat×Nat)) (l:List Nat),i=.int .i64 ((A.length:Nat):Int)/\Hid (L=A++B)/\Hid (l=[91]++Qm A)/\A.length<=L.length/\Hid (Tx w D (.slice (some ⟨E,0,none⟩) L.length I) L v l wr)) (fun _ i _=>L.length-(intOf i).toNat)
  case atStart=>exact⟨[],L,[91],rfl,hid rfl,hid rfl,by simp,Y⟩
  case round=>
   obtain⟨A,B,l,rfl,U,HL,a1,Z⟩:=hrel;have aS:l.length<=2305:=by rw[HL.out];have:=Sj A;simp;omega
   cases B with
   |nil=>
    have hk:((A.length:Nat):Int)=(L.length:Int):=by have:=congrArg List.length U.out;simp at this;omega
    have ar:Hid (∀x∈l++[93],x<256):=by have:=aC.out;rw[U.out,List.append_nil]at this;rw[HL.out];exact this
    have au:Hid (txt C=l++[93]):=by have:=HF.out;rw[U.out,List.append_nil]at this;rw[HL.out];exact this
    have av:w.heap.size<=wr.heap.size:=Z.out.1.out.size
    go_wp2_with(first|(at_builtin;refine wpList_append_own _ rfl (.tmp 39) (.tmp 40) 185 rfl w.heap.size 5 i0 (.int .u8 0) 1 1 Tryz.underlying185 aj ak al am rfl (by decide) _ _ _ rfl (Z.out.2.2.out.alloc _) ⟨wr.heap.size,0,none⟩ 1 1 [.int .u8 93] rfl rfl (Vl _ _ _) (Xh [93]) (by unfold maxLen;omega) (by omega) (by simp;omega) ?_;intro v9 w9 ac aw aT;obtain⟨g9,c9,rfl⟩:=Gx ac (by omega);have aU:=Cy (l:=l++[93]) (by rw[Dy];exact ac) ar.out))
    go_ret;have ax:Below w.heap.size w w9:=(Z.out.1.out.alloc av _).grown aw (by simp;omega) (fun k e=>(Z.out.2.2.out.lt k e).1);exact⟨by rw[au.out];rfl,ax⟩
   |cons p B'=>
    have ay:Hid (L=(A++[p])++B'):=by show L=_;rw[U.out];simp
    obtain⟨p1,p2⟩:=aL.out p (by rw[U.out];simp);have ag:=y0C A p B';rw[<-U.out]at ag;have a2:A.length<L.length:=by rw[U.out];simp
    have a3:((A.length:Nat):Int)<(L.length:Int):=by omega
    have e0:=Z.out.2.1.out.cellAt (A.length*2) (by omega);have e1:=Z.out.2.1.out.cellAt (A.length*2+1) (by omega);rw[ag.1]at e0;rw[ag.2]at e1;obtain⟨lo,aa⟩:∃lo,lo=p.1:=⟨_,rfl⟩;obtain⟨h,ab⟩:∃h,h=p.2:=⟨_,rfl⟩;rw[<-aa]at e0 p1;rw[<-ab]at e1 p1 p2;have a4:E<wr.heap.size:=World.block_lt_of_cell? wr _ e0;have t:Hid (Tx w D (.slice (some ⟨E,0,none⟩) L.length I) L u3 l (wr.alloc (.cells #[.int .i64 lo,.int .i64 h] 329)).drew):=Z.out.keep (B0q.alloc L0q _).drew;clear ag U;by_cases hv:lo=h
    ·have aV:¬lo<h:=by omega
     have HM:Hid (Vx p=sgn lo):=by
      show Vx p=_;rw[Vx,<-aa,<-ab,if_neg (by omega),if_neg (by omega)];simp
     have d1:decide (1<(h:Int)-(lo:Int))=false:=by simp;omega
     have d2:decide ((lo:Int)<(h:Int))=false:=by simp;omega
     have aF:decide (lo<h)=false:=by simp;omega
     have aG:IntKind.u8.wrap (lo:Int)=(lo:Int):=by rw[IntKind.wrap_u8];omega
     have aH:IntKind.u8.wrap (h:Int)=(h:Int):=by rw[IntKind.wrap_u8];omega
     clear aa ab hv aV
     go_wp2_with fail
     go_region
     go_wp2_with fail
     refine(Mp w.heap.size l.length lo _ (nv l) _ (by omega) t.out.2.2.out (by omega) t.out.1.out.size).mono ?_;rintro e G ⟨v3,rfl,V⟩;have r:Hid (Tx w D (.slice (some ⟨E,0,none⟩) L.length I) L v3 (l++sgn lo) G):=t.out.app V.out;clear V e0 e1 t;have aI:=Mc lo;have ad:(l++sgn lo).length<=2309:=by rw[List.length_append];omega
     obtain⟨o,y⟩:∃o,o=l++sgn lo:=⟨_,rfl⟩;have ae:Hid (o=l++sgn lo):=y;rw[<-y]at r ad;clear y;have ah:w.heap.size<=G.heap.size:=r.out.1.out.size
     go_wp2_with fail
     go_roundw
     case rel=>exact⟨A++[p],B',o,by simp,ay,hid (by rw[ae.out,HL.out,Ed,HM.out];simp),by simp;omega,r⟩
     case measure=>simp[intOf];omega
    ·by_cases hv2:h=lo+1
     ·have HM:Hid (Vx p=sgn lo++sgn h):=by
       show Vx p=_;rw[Vx,<-aa,<-ab,if_neg (by omega),if_pos (by omega)];simp
      have d1:decide (1<(h:Int)-(lo:Int))=false:=by simp;omega
      have d2:decide ((lo:Int)<(h:Int))=true:=by simp;omega
      have aF:decide (lo<h)=true:=by simp;omega
      have aG:IntKind.u8.wrap (lo:Int)=(lo:Int):=by rw[IntKind.wrap_u8];omega
      have aH:IntKind.u8.wrap (h:Int)=(h:Int):=by rw[IntKind.wrap_u8];omega
      clear aa ab hv hv2
      go_wp2_with fail
      go_region
      go_wp2_with fail
      refine(Mp w.heap.size l.length lo _ (nv l) _ (by omega) t.out.2.2.out (by omega) t.out.1.out.size).mono ?_;rintro e G ⟨v3,rfl,V⟩;have r:Hid (Tx w D (.slice (some ⟨E,0,none⟩) L.length I) L v3 (l++sgn lo) G):=t.out.app V.out;clear V e0 e1 t;have aI:=Mc lo;have ad:(l++sgn lo).length<=2309:=by rw[List.length_append];omega
      obtain⟨o,y⟩:∃o,o=l++sgn lo:=⟨_,rfl⟩;have ae:Hid (o=l++sgn lo):=y;rw[<-y]at r ad;clear y;have ah:w.heap.size<=G.heap.size:=r.out.1.out.size
      go_wp2_with fail
      refine(Mp w.heap.size o.length h _ (nv o) _ (by omega) r.out.2.2.out (by omega) ah).mono ?_;rintro e w5 ⟨v5,rfl,af⟩;have az:Hid (Tx w D (.slice (some ⟨E,0,none⟩) L.length I) L v5 (o++sgn h) w5):=r.out.app af.out;clear af
      go_wp2_with fail
      go_roundw
      case rel=>exact⟨A++[p],B',o++sgn h,by simp,ay,hid (by rw[ae.out,HL.out,Ed,HM.out];simp),by simp;omega,az⟩
      case measure=>simp[intOf];omega
     ·have HM:Hid (Vx p=sgn lo++[45]++sgn h):=by
       show Vx p=_;rw[Vx,<-aa,<-ab,if_pos (by omega),if_pos (by omega)];simp
      have d1:decide (1<(h:Int)-(lo:Int))=true:=by simp;omega
      have d2:decide ((lo:Int)<(h:Int))=true:=by simp;omega
      have aF:decide (lo<h)=true:=by simp;omega
      have aG:IntKind.u8.wrap (lo:Int)=(lo:Int):=by rw[IntKind.wrap_u8];omega
      have aH:IntKind.u8.wrap (h:Int)=(h:Int):=by rw[IntKind.wrap_u8];omega
      clear aa ab hv hv2
      go_wp2_with fail
      go_region
      go_wp2_with fail
      refine(Mp w.heap.size l.length lo _ (nv l) _ (by omega) t.out.2.2.out (by omega) t.out.1.out.size).mono ?_;rintro e G ⟨v3,rfl,V⟩;have r:Hid (Tx w D (.slice (some ⟨E,0,none⟩) L.length I) L v3 (l++sgn lo) G):=t.out.app V.out;clear V e0 e1 t;have aI:=Mc lo;have ad:(l++sgn lo).length<=2309:=by rw[List.length_append];omega
      obtain⟨o,y⟩:∃o,o=l++sgn lo:=⟨_,rfl⟩;have ae:Hid (o=l++sgn lo):=y;rw[<-y]at r ad;clear y;have ah:w.heap.size<=G.heap.size:=r.out.1.out.size
      go_wp2_with(first|(at_builtin;refine wpList_append_own _ rfl (.tmp 28) (.tmp 29) 185 rfl w.heap.size 5 i0 (.int .u8 0) 1 1 Tryz.underlying185 aj ak al am rfl (by decide) _ _ _ rfl (r.out.2.2.out.alloc _) ⟨G.heap.size,0,none⟩ 1 1 [.int .u8 45] rfl rfl (Vl _ _ _) (Xh [45]) (by unfold maxLen;omega) (by omega) (by simp;omega) ?_;intro v4 w4 aJ aK aW;have ai:Hid (Tx w D (.slice (some ⟨E,0,none⟩) L.length I) L v4 (o++[45]) w4):=r.out.app (App.mk r.out.2.2.out ah rfl rfl aJ aK);clear aJ aK aW))
      have aX:(o++[45]).length<=2310:=by rw[List.length_append];simp;omega
      obtain⟨l4,aA⟩:∃l4,l4=o++[45]:=⟨_,rfl⟩;have aY:Hid (l4=o++[45]):=aA;rw[<-aA]at ai aX;clear aA;refine(Mp w.heap.size l4.length h _ (nv l4) _ (by omega) ai.out.2.2.out (by omega) ai.out.1.out.size).mono ?_;rintro e w5 ⟨v5,rfl,af⟩;have az:Hid (Tx w D (.slice (some ⟨E,0,none⟩) L.length I) L v5 (l4++sgn h) w5):=ai.out.app af.out;clear af
      go_wp2_with fail
      go_roundw
      case rel=>exact⟨A++[p],B',l4++sgn h,by simp,ay,hid (by rw[aY.out,ae.out,HL.out,Ed,HM.out];simp),by simp;omega,az⟩
      case measure=>simp[intOf];omega
theorem z2A{l:List Tok}(h:tkS S=.inr l):∃m,tks S (sb S 0) []=.inr m/\l=m++[(6,{data:=#[]},0,S.size)]:=by
 unfold tkS at h;cases hm:tks S (sb S 0) []with
 |inl c=>rw[hm]at h;cases h
 |inr m=>rw[hm]at h;simp[tkE]at h;exact⟨m,rfl,h.symm⟩
theorem Sv(S:ByteArray):∀f k:Nat,S.size-k=f->k<=S.size->(ne S k=S.size↔∀i x,k<=i->bt S i=some x->(Zw x||Gq x)=true)
 |0,k,hf,hk=>by
  have:k=S.size:=by omega
  rw[z1A (Uf (by omega))];refine⟨fun _ i x o hx=> ?_,fun _=>this⟩;have:=(Qp hx).1;omega
 |f+1,k,hf,hk=>by
  cases hb:bt S k with
  |none=>have:=Xw hb;omega
  |some y=>
   rw[Dh hb];cases hy:(Zw y||Gq y)with
   |false=>
    simp only[Bool.false_eq_true,if_false];refine⟨fun e=>by have:=(Qp hb).1;omega,fun h=> ?_⟩;have:=h k y L0q hb;rw[hy]at this;cases this
   |true=>
    simp only[if_true];rw[Sv S f (k+1) (by omega) (by omega)];refine⟨fun h i x o hx=> ?_,fun h i x o hx=>h i x (by omega) hx⟩;rcases Nat.lt_or_ge k i with r|r
    ·exact h i x (by omega) hx
    ·obtain rfl:i=k:=by omega
     rw[hb]at hx;cases hx;exact hy
theorem y0F(S T:ByteArray)(i:Nat):bt (S++T) i=if i<S.size then bt S i else bt T (i-S.size):=by
 unfold bt;by_cases h:i<S.size
 ·rw[if_pos h,dif_pos h,dif_pos (by rw[ByteArray.size_append];omega),ByteArray.getElem_append_left h]
 ·rw[if_neg h]
  by_cases h2:i<(S++T).size
  ·have o:=h2
   rw[ByteArray.size_append]at o;rw[dif_pos h2,dif_pos (by omega),ByteArray.getElem_append_right (by omega)]
  ·have o:=h2
   rw[ByteArray.size_append]at o;rw[dif_neg h2,dif_neg (by omega)]
theorem Sw:∀d,d<16->dgv (Yj d)=some d:=by decide+kernel
def Hr(S:ByteArray)(k:Nat)(l:List Nat):Prop:=∀j x,l[j]? =some x->bt S (k+j)=some x
theorem y0G{b:Nat}(V:b<256)(h:Hr S k (lq b)):lsg S k=.inr (b,k+(lq b).length)/\¬bt S k=some 39:=by
 have r:plB 92=true:=rfl;unfold lq at h ⊢;split at h
 ·rename_i e;subst e
  have o:=h 0 92 rfl;have a1:=h 1 110 rfl;simp only[Nat.add_zero]at o;refine⟨?_,by rw[o];simp⟩;unfold lsg Ug;rw[o];simp[a1,Yc,r]
 ·rename_i y
  split at h
  ·rename_i e;subst e
   have o:=h 0 92 rfl;have a1:=h 1 114 rfl;simp only[Nat.add_zero]at o;refine⟨?_,by rw[o];simp⟩;unfold lsg Ug;rw[o];simp[a1,Yc,r]
  ·rename_i A
   split at h
   ·rename_i e;subst e
    have o:=h 0 92 rfl;have a1:=h 1 116 rfl;simp only[Nat.add_zero]at o;refine⟨?_,by rw[o];simp⟩;unfold lsg Ug;rw[o];simp[a1,Yc,r]
   ·rename_i D
    split at h
    ·rename_i t
     have o:=h 0 92 rfl;have a1:=h 1 b rfl;simp only[Nat.add_zero]at o;refine⟨?_,by rw[o];simp⟩;have E:Yc b=some b:=by
      unfold Yc;rw[if_neg (by omega),if_neg (by omega),if_neg (by omega),if_pos (by omega)]
     unfold lsg Ug;rw[o];simp[a1,E,r,t,y,A,D]
    ·rename_i t
     split at h
     ·rename_i G
      have o:=h 0 b rfl;simp only[Nat.add_zero]at o;refine⟨?_,by rw[o];simp;omega⟩;unfold lsg;rw[o];simp[G,y,A,D,t];omega
     ·rename_i G
      have o:=h 0 92 rfl;have a1:=h 1 120 rfl;have a2:=h 2 _ rfl;have a3:=h 3 _ rfl;simp only[Nat.add_zero]at o;refine⟨?_,by rw[o];simp⟩;have I:dg S (k+2)=some (b/16):=by unfold dg;rw[a2];exact Sw _ (by omega)
      have U:dg S (k+3)=some (b%16):=by unfold dg;rw[a3];exact Sw _ (by omega)
      have hd:digs S (k+1+1)=.inr (b,k+4):=by
       unfold digs;rw[show k+1+1=k+2 by omega,I];simp only;rw[show k+2+1=k+3 by omega,U];simp only;rw[show 16*(b/16)+b%16=b by omega]
      have E:Yc 120=none:=rfl;unfold lsg Ug;rw[o];simp[a1,E,r,G,y,A,D,t,hd]
def bp(S:ByteArray):Nat->List Nat
 |0=>[]
 |k+1=>bp S k++(match bt S k with|some x=>[x]|none=>[])
theorem Sy(h:bt S k=some x):bp S (k+1)=bp S k++[x]:=by rw[bp,h]
theorem z2B(S:ByteArray):∀k,k<=S.size->(bp S k).length=k
 |0,_=>rfl
 |k+1,h=>by
  cases hb:bt S k with
  |none=>have:=Xw hb;omega
  |some x=>rw[Sy hb,List.length_append,z2B S k (by omega)];rfl
theorem z2C(S:ByteArray):∀k,k<=S.size->(bp S k).map UInt8.ofNat=S.data.toList.take k
 |0,_=>by simp[bp]
 |k+1,h=>by
  cases hb:bt S k with
  |none=>have:=Xw hb;omega
  |some x=>
   obtain⟨o,hx⟩:=Xv hb;have r:k<S.data.toList.length:=by rw[Array.length_toList];exact o
   have t:UInt8.ofNat x=S.data.toList[k]:=by
    rw[<-hx];apply UInt8.toNat.inj;have:=(Qp hb).2;simp;rfl
   rw[Sy hb,List.map_append,z2C S k (by omega),List.take_succ_eq_append_getElem r];simp[t]
theorem y0H(S:ByteArray):nb (bp S S.size)=S:=by
 apply ByteArray.ext;unfold nb;simp only;rw[z2C S S.size L0q];apply Array.toList_inj.1;simp only;exact List.take_of_length_le (by rw[Array.length_toList];exact Nat.le_refl _)
theorem Em(l:List Nat)(h:∀x∈l,x<256)(i:Nat):bt (nb l) i=l[i]? :=by
 unfold bt;by_cases hi:i<(nb l).size
 ·rw[dif_pos hi]
  rw[Vz]at hi;rw[List.getElem?_eq_getElem hi];have:=h _ (List.getElem_mem hi);show some (((nb l).data[i]).toNat)=_;simp[nb];omega
 ·rw[dif_neg hi]
  rw[Vz]at hi;rw[List.getElem?_eq_none (by omega)]
theorem Sf(P:ByteArray):∀f k:Nat,P.size-k=f->k<=P.size->∃r,qt P=qp P k++r
 |0,k,hf,hk=>by
  obtain rfl:k=P.size:=by omega
  exact⟨[39],rfl⟩
 |f+1,k,hf,hk=>by
  obtain⟨r,h⟩:=Sf P f (k+1) (by omega) (by omega);cases hb:bt P k with
  |none=>have:=Xw hb;omega
  |some x=>rw[Ef hb]at h;exact⟨lq x++r,by rw[h,List.append_assoc]⟩
theorem y0I{P:ByteArray}(h:bt P k=some x):Hr (nb (qt P)) (qp P k).length (lq x):=by
 have E:=(Qp h).1;obtain⟨r,A⟩:=Sf P _ (k+1) rfl (by omega);rw[Ef h,List.append_assoc]at A;intro j y o;rw[Em _ (Eg P),A,List.getElem?_append_right (by omega),Nat.add_sub_cancel_left];have D:j<(lq x).length:=by
  rcases Nat.lt_or_ge j (lq x).length with t|t
  ·exact t
  ·rw[List.getElem?_eq_none t]at o;cases o
 rw[List.getElem?_append_left D];exact o
theorem z2D(P:ByteArray):∀f k:Nat,P.size-k=f->k<=P.size->k<=255->
  ll (nb (qt P)) 39 0 (qp P k).length (bp P k)=if P.size<=255 then .inr (bp P P.size,(nb (qt P)).size)else .inl (2,0)
 |0,k,hf,hk,h5=>by
  obtain rfl:k=P.size:=by omega
  have h:bt (nb (qt P)) (qp P P.size).length=some 39:=by
   rw[Em _ (Eg P)];unfold qt;rw[List.getElem?_append_right L0q,Nat.sub_self];rfl
  rw[Oc h,if_pos (by omega),Vz];unfold qt;rw[List.length_append];rfl
 |f+1,k,hf,hk,h5=>by
  cases h:bt P k with
  |none=>have:=Xw h;omega
  |some x=>
   obtain⟨o,r⟩:=y0G (Qp h).2 (y0I h);have t:=z2B P k hk;by_cases h6:k=255
   ·rw[z1z r o (by omega),if_neg (by omega)]
   ·rw[Ol r o (by omega),<-Sy h,<-List.length_append,<-Ef h]
    exact z2D P f (k+1) (by omega) (by omega) (by omega)
theorem y0J(l:List Nat)(hl:∀x∈l,x<256)(k x:Nat)(h:l[k]? =some x):At (nb l) k x:=by
 obtain⟨o,e⟩:=List.getElem?_eq_some_iff.1 h;refine⟨by rw[Vz];exact o,?_⟩;have hx:=hl x (by rw[<-e];exact List.getElem_mem o);have r:(nb l)[k]'(by rw[Vz];exact o)=UInt8.ofNat x:=by
  rw[ByteArray.getElem_eq_getElem_data];simp[nb,e]
 rw[r];simp;omega
theorem y0K(b:Nat):(∃t,sgn b=92::t/\t≠[])∨(sgn b=[b]/\mark b=false/\32<=b/\b<=126):=by
 unfold sgn;split
 ·exact .inl ⟨_,rfl,by simp⟩
 ·split
  ·exact .inl ⟨_,rfl,by simp⟩
  ·split
   ·exact .inl ⟨_,rfl,by simp⟩
   ·split
    ·exact .inl ⟨_,rfl,by simp⟩
    ·rename_i o
     split
     ·rename_i h
      exact .inr ⟨rfl,by simpa using o,h.1,h.2⟩
     ·exact .inl ⟨_,rfl,by simp⟩
def Vj(S:ByteArray)(k:Nat)(l:List Nat):Prop:=∀j x,l[j]? =some x->At S (k+j) x
theorem Vj.left{a b:List Nat}(h:Vj S k (a++b)):Vj S k a:=fun j x o=>h j x (by
 rw[List.getElem?_append_left (List.getElem?_eq_some_iff.1 o).1];exact o)
theorem Vj.right{a b:List Nat}(h:Vj S k (a++b)):Vj S (k+a.length) b:=fun j x o=>by
 have:=h (a.length+j) x (by rw[List.getElem?_append_right (by omega),show a.length+j-a.length=j by omega];exact o);rw[<-Nat.add_assoc]at this;exact this
theorem Vj.head(h:Vj S k (x::l)):At S k x:=h 0 x rfl
def its:List (Nat×Nat)->List (Nat×Nat)
 |[]=>[]
 |p::t=>(if p.2=p.1+1 then [(p.1,p.1),(p.2,p.2)]else [p])++its t
def Jh(p:Nat×Nat):List Nat:=if p.1=p.2 then sgn p.1 else sgn p.1++([45]++sgn p.2)
def Xf:List (Nat×Nat)->List Nat
 |[]=>[]
 |p::t=>Jh p++Xf t
theorem z2E:∀(a b:List (Nat×Nat)),Xf (a++b)=Xf a++Xf b
 |[],b=>rfl
 |p::t,b=>by simp only[List.cons_append,Xf,z2E t b,List.append_assoc]
theorem z2F:∀(L:List (Nat×Nat)),(∀p∈L,p.1<=p.2)->Qm L=Xf (its L)
 |[],_=>rfl
 |p::t,h=>by
  have r:=h p (List.mem_cons_self ..);rw[Qm,its,z2E,z2F t (fun q o=>h q (List.mem_cons_of_mem _ o))];congr 1;unfold Vx;by_cases h1:p.2=p.1+1
  ·rw[if_pos h1,if_neg (by omega),if_pos (by omega)]
   simp[Xf,Jh]
  ·rw[if_neg h1]
   by_cases h2:p.1=p.2
   ·rw[if_neg (by omega),if_neg (by omega)]
    simp[Xf,Jh,h2]
   ·rw[if_pos (by omega),if_pos (by omega)]
    simp[Xf,Jh,h2]
def uo:List (Nat×Nat)->Nat
 |[]=>0
 |p::t=>seg p.1 (p.2+1)|||uo t
theorem Sg:∀(a b:List (Nat×Nat)),uo (a++b)=uo a|||uo b
 |[],b=>by simp[uo]
 |p::t,b=>by simp only[List.cons_append,uo,Sg t b,Nat.or_assoc]
theorem z2G:∀(Q:List (Nat×Nat)),uo Q.reverse=un Q
 |[]=>rfl
 |p::t=>by rw[List.reverse_cons,Sg,z2G t,un];simp[uo]
theorem y0L(a:Nat):seg a (a+1+1)=seg a (a+1)|||seg (a+1) (a+1+1):=by
 apply Nat.eq_of_testBit_eq;intro j;rw[Nat.testBit_or,Dj,Dj,Dj];by_cases h1:a<=j<;>by_cases h2:j<a+1<;>by_cases h3:a+1<=j<;>by_cases h4:j<a+1+1<;>simp[h1,h2,h3,h4]<;>omega
theorem z2H:∀(L:List (Nat×Nat)),uo (its L)=uo L
 |[]=>rfl
 |p::t=>by
  rw[its,Sg,z2H t,uo];congr 1;by_cases h1:p.2=p.1+1
  ·rw[if_pos h1,h1,y0L];simp[uo]
  ·rw[if_neg h1];simp[uo]
theorem z2I:∀(L:List (Nat×Nat)),(∀p∈L,p.1<=p.2/\p.2<256)->∀p∈its L,p.1<=p.2/\p.2<256
 |[],_,p,o=>by simp[its]at o
 |q::t,h,p,o=>by
  have y:=h q (List.mem_cons_self ..);rw[its,List.mem_append]at o;rcases o with o|o
  ·split at o
   ·simp at o;rcases o with rfl|rfl<;>simp<;>omega
   ·simp at o;subst o;exact y
  ·exact z2I t (fun r A=>h r (List.mem_cons_of_mem _ A)) p o
theorem z2J(p:Nat×Nat):∃y t,Jh p=y::t/\(y == 45)=false/\(y == 94)=false/\(y == 93)=false:=by
 have:∃t,Jh p=sgn p.1++t:=by
  unfold Jh;split
  ·exact⟨[],by simp⟩
  ·exact⟨_,rfl⟩
 obtain⟨t,o⟩:=this;rcases y0K p.1 with⟨u,h,_⟩|⟨h,r,_,_⟩
 ·exact⟨92,u++t,by rw[o,h];rfl,rfl,rfl,rfl⟩
 ·unfold mark at r
  simp at r;exact⟨p.1,t,by rw[o,h];rfl,by simp;omega,by simp;omega,by simp;omega⟩
theorem z2K(I:List (Nat×Nat)):∃y t,Xf I++[93]=y::t/\(y == 45)=false/\(y == 94)=false:=by
 cases I with
 |nil=>exact⟨93,[],rfl,rfl,rfl⟩
 |cons p t=>
  obtain⟨y,u,h,o,r,A⟩:=z2J p;exact⟨y,u++Xf t++[93],by rw[Xf,h];simp,o,r⟩
theorem z2L{d:Nat}(hd:d<16)(h:At S k (Yj d)):dg S k=some d:=by
 unfold dg;rw[Yv h];exact Sw d hd
theorem Sb{b:Nat}(U:b<256)(h:Vj S k (sgn b)):sg S k=.inr (b,k+(sgn b).length):=by
 unfold sgn at h ⊢;split at h
 ·rename_i e;subst e
  have o:=Yv (h 0 92 rfl);have a1:=Yv (h 1 110 rfl);simp only[Nat.add_zero]at o;unfold sg esc;rw[o];simp[a1,Gf]
 ·rename_i A
  split at h
  ·rename_i e;subst e
   have o:=Yv (h 0 92 rfl);have a1:=Yv (h 1 114 rfl);simp only[Nat.add_zero]at o;unfold sg esc;rw[o];simp[a1,Gf]
  ·rename_i D
   split at h
   ·rename_i e;subst e
    have o:=Yv (h 0 92 rfl);have a1:=Yv (h 1 116 rfl);simp only[Nat.add_zero]at o;unfold sg esc;rw[o];simp[a1,Gf]
   ·rename_i E
    split at h
    ·rename_i r
     have o:=Yv (h 0 92 rfl);have a1:=Yv (h 1 b rfl);simp only[Nat.add_zero]at o;have t:b≠110/\b≠114/\b≠116:=by
      unfold mark at r;simp at r;omega
     rw[if_neg A,if_neg D,if_neg E,if_pos r];unfold sg esc;rw[o];simp[a1,Gf,t.1,t.2.1,t.2.2,r]
    ·rename_i r
     split at h
     ·rename_i y
      have o:=Yv (h 0 b rfl);simp only[Nat.add_zero]at o;have G:mark b=false:=by simpa using r
      have t:b≠92:=by intro e;subst e;simp[mark]at G
      rw[if_neg A,if_neg D,if_neg E,if_neg r,if_pos y];unfold sg;rw[o];simp[t,z1o,G,y.1,y.2]
     ·rename_i y
      have o:=Yv (h 0 92 rfl);have a1:=Yv (h 1 120 rfl);have a2:=z2L (by omega) (h 2 _ rfl);have a3:=z2L (by omega) (h 3 _ rfl);simp only[Nat.add_zero]at o;rw[if_neg A,if_neg D,if_neg E,if_neg r,if_neg y];unfold sg esc;rw[o];have I:mark 120=false:=rfl;simp only[if_true,a1,Gf,I];unfold digs;rw[show k+1+1=k+2 from rfl,a2,show k+2+1=k+3 from rfl,a3];simp;omega
theorem y0M{y:Nat}{p:Nat×Nat}{t:List Nat}(U:p.1<=p.2)(D:p.2<256)(E:(y == 45)=false)(h:Vj S k (Jh p++(y::t))):mbr S k=.inr (seg p.1 (p.2+1),k+(Jh p).length):=by
 have hl:=h.left;have o:=h.right;unfold Jh at hl o ⊢;by_cases e:p.1=p.2
 ·rw[if_pos e]at hl o ⊢
  unfold mbr;rw[Sb (by omega) hl];have r:=Yv o.head;simp only;rw[r,if_neg (by simpa using E),<-e]
 ·rw[if_neg e]at hl ⊢
  have G:=hl.left;have A:=hl.right;have r:=Yv A.head;have I:Vj S (k+(sgn p.1).length+1) (sgn p.2):=A.right;unfold mbr;rw[Sb (by omega) G];simp only;rw[r,if_pos rfl,Sb D I];simp only;rw[if_neg (by omega)];simp;omega
theorem z2M{S:ByteArray}:∀(I:List (Nat×Nat)) (k acc:Nat),(∀p∈I,p.1<=p.2/\p.2<256)->Vj S k (Xf I++[93])->mm S k acc=.inr (acc|||uo I,k+(Xf I).length+1)
 |[],k,acc,_,h=>by
  rw[z8A (Yv h.head)];simp[uo,Xf]
 |p::t,k,acc,hI,h=>by
  obtain⟨y,u,D,E,_⟩:=z2K t;have r:=hI p (List.mem_cons_self ..);have o:Vj S k (Jh p++(Xf t++[93])):=by rw[<-List.append_assoc];exact h
  have G:=o.right;rw[D]at o;have U:=y0M r.1 r.2 E o;obtain⟨z,v,V,_,_,Y⟩:=z2J p;have Z:¬bt S k=some 93:=by
   have A:=h;rw[Xf,V]at A;rw[Yv A.head];simpa using Y
  rw[z8B Z U,z2M t _ _ (fun q hq=>hI q (List.mem_cons_of_mem _ hq)) G];simp only[uo,Xf,List.length_append,Nat.or_assoc];simp;omega
theorem y0N{I:List (Nat×Nat)}(t:∀p∈I,p.1<=p.2/\p.2<256)(h:Vj S 0 ([91]++(Xf I++[93]))):Fx S=.inr (uo I,1+(Xf I).length+1):=by
 have o:Vj S 1 (Xf I++[93]):=h.right;obtain⟨y,u,A,_,D⟩:=z2K I;have E:¬bt S 1=some 94:=by
  have r:=o;rw[A]at r;rw[Yv r.head];simpa using D
 unfold Fx;rw[if_pos (Yv h.head),if_neg E,z2M I 1 0 t o];simp
end Go.Proofs.YtgnkkgcgbeianaaGreatDoor
