/- Lemmas for the last text. Conditions: those that each names. -/
import Derived.Test.YtikfnaffiehpaaaGreatDoorVY14ToZ8
import Derived.Test.YtikfnaffiehpaaaGreatDoorVEAs2ToX16
import Derived.Deep.RegionHeld3
import Derived.Laws.MakeOwn
import Derived.Laws.IdiomStrings
set_option linter.unusedVariables false
set_option maxRecDepth 100000
set_option maxHeartbeats 4000000
namespace Go.Proofs.YtikfnaffiehpaaaGreatDoor
open Go.Proofs.Tryz
section
open Go.RowKit
def sgc(x:UInt8):Nat×ByteArray×Nat:=(5,{data:=#[x]},0)
def wr(over kd:Nat):Bool:=
 if over=8∨over=9∨over=10 then decide (6<=kd)
 else if over=11∨over=12 then decide (kd=6∨kd=7∨kd=11∨kd=12)
 else if over=6 then decide (kd=6∨kd=7)
 else if over=7 then decide (kd=7)else false
def rpS(kd:Nat):UInt8:=if kd=8 then 63 else if kd=9 then 42 else 43
mutual
def kN:Nd->List (Nat×ByteArray×Nat)
 | .mk kd T C s p=>if kd=1 then [sgc 40,sgc 41]else if kd=2 then [(3,T,C)]else if kd=3 then [(4,T,C)]else if kd=4 then [sgc 46]else if kd=5 then [(1,T,C)]else if kd=6 then kS 6 s else if kd=7 then kA s
   else if kd=11 then sgc 38::kS 11 s else if kd=12 then sgc 33::kS 12 s else kS kd s++[sgc (rpS kd)]
def kS(over:Nat):List Nd->List (Nat×ByteArray×Nat)
 |[]=>[]
 |n::r=>(if wr over n.kd=true then sgc 40::(kN n++[sgc 41])else kN n)++kS over r
def kA:List Nd->List (Nat×ByteArray×Nat)
 |[]=>[]
 |n::r=>(if wr 7 n.kd=true then sgc 40::(kN n++[sgc 41])else kN n)++kB r
def kB:List Nd->List (Nat×ByteArray×Nat)
 |[]=>[]
 |n::r=>sgc 47::((if wr 7 n.kd=true then sgc 40::(kN n++[sgc 41])else kN n)++kB r)
end
def kP(over:Nat)(n:Nd):List (Nat×ByteArray×Nat):=if wr over n.kd=true then sgc 40::(kN n++[sgc 41])else kN n
mutual
def dN:Nd->Nat
 | .mk kd T C s p=>if kd=1 then 1 else dS kd s
def dS(over:Nat):List Nd->Nat
 |[]=>0
 |n::r=>max (if wr over n.kd=true then dN n+1 else dN n) (dS over r)
end
def dP(over:Nat)(n:Nd):Nat:=if wr over n.kd=true then dN n+1 else dN n
mutual
def Vk:Nd->Prop
 | .mk kd T C s p=>((kd=1/\T={data:=#[]}/\C=0/\s=[])∨(kd=2/\C=0/\s=[])∨(kd=3/\T={data:=#[]}/\s=[])∨(kd=4/\T={data:=#[]}/\C=0/\s=[])∨(kd=5/\C=0/\s=[])∨
    ((kd=6∨kd=7)/\T={data:=#[]}/\C=0/\2<=s.length)∨(8<=kd/\kd<=12/\T={data:=#[]}/\C=0/\s.length=1))/\VkL s
def VkL:List Nd->Prop
 |[]=>True
 |n::r=>Vk n/\VkL r
end
theorem VkL.mem:∀{s:List Nd},VkL s->∀n∈s,Vk n
 |[],_,n,h=>by simp at h
 |a::r,h,n,hn=>by
  rw[VkL]at h;rcases List.mem_cons.1 hn with rfl|hn
  ·exact h.1
  ·exact VkL.mem h.2 n hn
theorem Um(over:Nat)(n:Nd)(r:List Nd):kS over (n::r)=kP over n++kS over r:=by rw[kS];rfl
theorem Uc(over:Nat):kS over []=[]:=by rw[kS]
theorem Il(n:Nd)(r:List Nd):kA (n::r)=kP 7 n++kB r:=by rw[kA];rfl
theorem Mz(n:Nd)(r:List Nd):kB (n::r)=sgc 47::(kP 7 n++kB r):=by rw[kB];rfl
theorem Ad:kB []=[]:=by rw[kB]
theorem Vv(over:Nat)(n:Nd)(r:List Nd):dS over (n::r)=max (dP over n) (dS over r):=by rw[dS];rfl
def AtK(L:List Tok)(k:Nat)(K:List (Nat×ByteArray×Nat)):Prop:=∀i c,K[i]? =some c->tk3 (gL L (k+i))=c
section
variable {L:List Tok} {k:Nat}
theorem AtK.left{A B:List (Nat×ByteArray×Nat)}(h:AtK L k (A++B)):AtK L k A:=fun i c hi=>h i c (by
 have:i<A.length:=by
  rcases Nat.lt_or_ge i A.length with h|h
  ·exact h
  ·rw[List.getElem?_eq_none h]at hi;cases hi
 rw[List.getElem?_append_left this];exact hi)
theorem AtK.right{A B:List (Nat×ByteArray×Nat)}(h:AtK L k (A++B)):AtK L (k+A.length) B:=fun i c hi=>by
 have:=h (A.length+i) c (by rw[List.getElem?_append_right (by omega),show A.length+i-A.length=i by omega];exact hi);rw[Nat.add_assoc];exact this
theorem AtK.head{c:Nat×ByteArray×Nat}{B:List (Nat×ByteArray×Nat)}(h:AtK L k (c::B)):tk3 (gL L k)=c:=h 0 c rfl
theorem AtK.tail{c:Nat×ByteArray×Nat}{B:List (Nat×ByteArray×Nat)}(h:AtK L k (c::B)):AtK L (k+1) B:=fun i d hi=>by
 have:=h (i+1) d (by simpa using hi);rw[show k+1+i=k+(i+1) by omega];exact this
theorem Vm{t:Tok}{x:UInt8}(h:tk3 t=sgc x):sgT t={data:=#[x]}/\t.1=5/\t.2.1={data:=#[x]}/\t.2.2.1=0:=by
 unfold tk3 sgc at h;simp only[Prod.mk.injEq]at h;refine⟨?_,h.1,h.2.1,h.2.2⟩;unfold sgT;rw[if_pos h.1];exact h.2.1
theorem Uj{t:Tok}{c:Nat×ByteArray×Nat}(h:tk3 t=c)(h5:c.1≠5):sgT t={data:=#[]}/\t.1=c.1/\t.2.1=c.2.1/\t.2.2.1=c.2.2:=by
 subst h;refine⟨?_,rfl,rfl,rfl⟩;unfold sgT;exact if_neg h5
end
def Bg0(c:Nat×ByteArray×Nat):Prop:=c.1=1∨c.1=3∨c.1=4∨c=sgc 40∨c=sgc 46
def Bg(c:Nat×ByteArray×Nat):Prop:=Bg0 c∨c=sgc 38∨c=sgc 33
theorem z1N{over:Nat}(h:over=8∨over=9∨over=10)(kd:Nat):wr over kd=wr 8 kd:=by
 unfold wr;rw[if_pos h,if_pos (.inl rfl)]
theorem z1O{over:Nat}(h:over=11∨over=12)(kd:Nat):wr over kd=wr 11 kd:=by
 unfold wr;rw[if_neg (by omega),if_pos h,if_neg (by decide),if_pos (.inl rfl)]
theorem z6X{over:Nat}(h:over=8∨over=9∨over=10)(n:Nd):kP over n=kP 8 n:=by unfold kP;rw[z1N h]
theorem z6Y{over:Nat}(h:over=11∨over=12)(n:Nd):kP over n=kP 11 n:=by unfold kP;rw[z1O h]
theorem z6Z{over:Nat}(h:over=8∨over=9∨over=10)(n:Nd):dP over n=dP 8 n:=by unfold dP;rw[z1N h]
theorem z7a{over:Nat}(h:over=11∨over=12)(n:Nd):dP over n=dP 11 n:=by unfold dP;rw[z1O h]
theorem wr8(kd:Nat):wr 8 kd=decide (6<=kd):=by unfold wr;rw[if_pos (.inl rfl)]
theorem Mq(kd:Nat):wr 11 kd=decide (kd=6∨kd=7∨kd=11∨kd=12):=by unfold wr;rw[if_neg (by decide),if_pos (.inl rfl)]
theorem wr6(kd:Nat):wr 6 kd=decide (kd=6∨kd=7):=by unfold wr;rw[if_neg (by decide),if_neg (by decide),if_pos rfl]
theorem wr7(kd:Nat):wr 7 kd=decide (kd=7):=by unfold wr;rw[if_neg (by decide),if_neg (by decide),if_neg (by decide),if_pos rfl]
theorem Vk.kd{n:Nd}(h:Vk n):1<=n.kd/\n.kd<=12:=by
 obtain⟨kd,T,C,s,p⟩:=n;rw[Vk]at h;show 1<=kd/\kd<=12;omega
theorem z1P{n:Nd}(hv:Vk n)(h:¬(n.kd=8∨n.kd=9∨n.kd=10)):kP 11 n=kP 8 n/\dP 11 n=dP 8 n:=by
 have:=hv.kd;have e:wr 11 n.kd=wr 8 n.kd:=by rw[Mq,wr8];congr 1;exact propext (by omega)
 unfold kP dP;rw[e];exact⟨rfl,rfl⟩
theorem z1Q{n:Nd}(hv:Vk n)(h:¬(n.kd=11∨n.kd=12)):kP 6 n=kP 11 n/\dP 6 n=dP 11 n:=by
 have:=hv.kd;have e:wr 6 n.kd=wr 11 n.kd:=by rw[Mq,wr6];congr 1;exact propext (by omega)
 unfold kP dP;rw[e];exact⟨rfl,rfl⟩
theorem z7b{n:Nd}(hv:Vk n)(h:n.kd≠6):kP 7 n=kP 6 n/\dP 7 n=dP 6 n:=by
 have:=hv.kd;have e:wr 7 n.kd=wr 6 n.kd:=by rw[wr7,wr6];congr 1;exact propext (by omega)
 unfold kP dP;rw[e];exact⟨rfl,rfl⟩
theorem Sh{n:Nd}(h:n.kd≠7):kP 7 n=kN n/\dP 7 n=dN n:=by
 unfold kP dP;rw[wr7,decide_eq_false h];exact⟨rfl,rfl⟩
theorem z1R{n:Nd}(hv:Vk n):∃c r,kP 8 n=c::r/\Bg0 c:=by
 unfold kP;rw[wr8];by_cases h6:6<=n.kd
 ·rw[decide_eq_true h6]
  exact⟨_,_,rfl,.inr (.inr (.inr (.inl rfl)))⟩
 ·rw[decide_eq_false h6]
  obtain⟨kd,T,C,s,p⟩:=n;rw[Vk]at hv;have h6':¬6<=kd:=h6;simp only[Bool.false_eq_true,if_false];have:kd=1∨kd=2∨kd=3∨kd=4∨kd=5:=by omega
  rw[kN];rcases this with rfl|rfl|rfl|rfl|rfl
  ·exact⟨_,_,rfl,.inr (.inr (.inr (.inl rfl)))⟩
  ·exact⟨_,_,rfl,.inr (.inl rfl)⟩
  ·exact⟨_,_,rfl,.inr (.inr (.inl rfl))⟩
  ·exact⟨_,_,rfl,.inr (.inr (.inr (.inr rfl)))⟩
  ·exact⟨_,_,rfl,.inl rfl⟩
theorem Lz{s:List Nd}(h:s.length=1):∃m,s=[m]:=by
 match s,h with
 |[m],_=>exact⟨m,rfl⟩
theorem Sd{kd:Nat}{T:ByteArray}{C p:Nat}{m:Nd}(h:kd=8∨kd=9∨kd=10):kN (.mk kd T C [m] p)=kP 8 m++[sgc (rpS kd)]/\dN (.mk kd T C [m] p)=dP 8 m:=by
 constructor
 ·rw[kN,if_neg (by omega),if_neg (by omega),if_neg (by omega),if_neg (by omega),if_neg (by omega),if_neg (by omega),if_neg (by omega),if_neg (by omega),if_neg (by omega),Um,Uc,List.append_nil,z6X h]
 ·rw[dN,if_neg (by omega),Vv,dS,z6Z h]
  exact Nat.max_eq_left (Nat.zero_le _)
theorem Sp{kd:Nat}{T:ByteArray}{C p:Nat}{m:Nd}(h:kd=11∨kd=12):kN (.mk kd T C [m] p)=sgc (if kd=11 then 38 else 33)::kP 11 m/\dN (.mk kd T C [m] p)=dP 11 m:=by
 constructor
 ·rw[kN,if_neg (by omega),if_neg (by omega),if_neg (by omega),if_neg (by omega),if_neg (by omega),if_neg (by omega),if_neg (by omega)]
  rcases h with rfl|rfl
  ·rw[if_pos rfl,Um,Uc,List.append_nil];rfl
  ·rw[if_neg (by decide),if_pos rfl,Um,Uc,List.append_nil,z6Y (.inr rfl)];rfl
 ·rw[dN,if_neg (by omega),Vv,dS,z7a h]
  exact Nat.max_eq_left (Nat.zero_le _)
theorem z1S{n:Nd}(hv:Vk n):∃c r,kP 11 n=c::r/\Bg0 c:=by
 by_cases h:n.kd=8∨n.kd=9∨n.kd=10
 ·obtain⟨kd,T,C,s,p⟩:=n
  have hk:kd=8∨kd=9∨kd=10:=h;rw[Vk]at hv;obtain⟨m,rfl⟩:=Lz (s:=s) (by omega);rw[VkL]at hv;obtain⟨c,r,e,hb⟩:=z1R hv.2.1;refine⟨c,r++[sgc (rpS kd)],?_,hb⟩;unfold kP;rw[Mq];show(if decide (kd=6∨kd=7∨kd=11∨kd=12)=true then _ else _)=_;rw[decide_eq_false (by omega)];simp only[Bool.false_eq_true,if_false];rw[(Sd hk).1,e];rfl
 ·rw[(z1P hv h).1]
  exact z1R hv
theorem Lx{n:Nd}(hv:Vk n):∃c r,kP 6 n=c::r/\Bg c:=by
 by_cases h:n.kd=11∨n.kd=12
 ·obtain⟨kd,T,C,s,p⟩:=n
  have hk:kd=11∨kd=12:=h;rw[Vk]at hv;obtain⟨m,rfl⟩:=Lz (s:=s) (by omega);refine⟨sgc (if kd=11 then 38 else 33),kP 11 m,?_,?_⟩
  ·unfold kP
   rw[wr6];show(if decide (kd=6∨kd=7)=true then _ else _)=_;rw[decide_eq_false (by omega)];simp only[Bool.false_eq_true,if_false];rw[(Sp hk).1];rfl
  ·rcases hk with rfl|rfl
   ·exact .inr (.inl rfl)
   ·exact .inr (.inr rfl)
 ·rw[(z1Q hv h).1]
  obtain⟨c,r,e,hb⟩:=z1S hv;exact⟨c,r,e,.inl hb⟩
end
open Go.RowKit
theorem z7c(over kd:Nat)(w:World)(h1:6<=over)(h2:over<=12)(h3:1<=kd)(h4:kd<=12):
  Calls prog 130 #[.int .i64 over,.int .i64 kd] w fun e w'=>e=.returned (.bool (wr over kd))/\w'=w:=by
 have ho:over=6∨over=7∨over=8∨over=9∨over=10∨over=11∨over=12:=by omega
 have hk:kd=1∨kd=2∨kd=3∨kd=4∨kd=5∨kd=6∨kd=7∨kd=8∨kd=9∨kd=10∨kd=11∨kd=12:=by omega
 clear h1 h2 h3 h4;rcases ho with rfl|rfl|rfl|rfl|rfl|rfl|rfl<;>rcases hk with rfl|rfl|rfl|rfl|rfl|rfl|rfl|rfl|rfl|rfl|rfl|rfl<;>
  (go_enter func130,ntmps130
   go_wp2_with fail
   go_ret;exact⟨rfl,rfl⟩)
def lq(b:Nat):List Nat:=if b=10 then [92,110]else if b=13 then [92,114]else if b=9 then [92,116]else if b=39∨b=92 then [92,b]else if plB b then [b]else [92,120,Qd (b/16),Qd (b%16)]
def NB(w w':World):Prop:=w.heap.size<=w'.heap.size/\∀j,j<w.heap.size->(∀cur,w.heap[j]? ≠some (.cells cur 5 (0,0)))->w'.heap[j]? =w.heap[j]?
theorem NB.trans{a b c:World}(h:NB a b)(k:NB b c):NB a c:=
 ⟨Nat.le_trans h.1 k.1,fun j hj hn=>(k.2 j (Nat.lt_of_lt_of_le hj h.1) (fun cur=>by rw[h.2 j hj hn];exact hn cur)).trans (h.2 j hj hn)⟩
theorem NB.below{w w':World}(h:Below w.heap.size w w'):NB w w':=⟨h.size,fun j hj _=>h.block j hj⟩
theorem NB.alloc(w:World)(o:Obj):NB w (w.alloc o):=.below (B0q.alloc L0q _)
theorem NB.grown{w w':World}{base n:Nat}{v:Value}{xs:List Value}(ho:w.ownsRow base 5 1 v n xs)(hg:w.grownBy w' v.ownBlock):NB w w':=
 ⟨hg.size,fun j hj hn=>hg.block j hj (fun e=>by
   obtain⟨_,ho|⟨g,cap,cur,rfl,_,hh,_⟩⟩:=ho
   ·rw[ho.1]at e;simp[Value.ownBlock]at e
   ·simp[Value.ownBlock]at e
    subst e;exact hn cur hh)⟩
def App(base:Nat)(w:World)(n:Nat)(xs:List Value)(l:List Nat)(v':Value)(w':World):Prop:=
 w'.ownsRow base 5 1 v' (n+l.length) (xs++nv l)/\Below base w w'/\NB w w'
theorem App.mk{base n m:Nat}{w w':World}{o:Obj}{v v':Value}{xs news:List Value}{l:List Nat}(ho:w.ownsRow base 5 1 v n xs)(hbase:base<=w.heap.size)(hm:m=l.length)(hl:news=nv l)
  (h:w'.ownsRow base 5 1 v' (n+m) (xs++news))(hg:(w.alloc o).grownBy w' v.ownBlock):App base w n xs l v' w':=by
 subst hm;subst hl;refine⟨h,(B0q.alloc hbase _).grown hg (by simp;omega) (fun k e=>(ho.lt k e).1),(NB.alloc w o).trans (NB.grown (ho.alloc o) hg)⟩
theorem App.trans{base n:Nat}{w w1 w2:World}{xs:List Value}{l m:List Nat}{v1 v2:Value}(h:App base w n xs l v1 w1)(k:App base w1 (n+l.length) (xs++nv l) m v2 w2):App base w n xs (l++m) v2 w2:=by
 refine⟨?_,h.2.1.trans k.2.1,h.2.2.trans k.2.2⟩;have:=k.1;rw[Gw,List.length_append,<-List.append_assoc,<-Nat.add_assoc];exact this
theorem App.of_drew{base n:Nat}{w w1:World}{xs:List Value}{l:List Nat}{v1:Value}(h:App base w.drew n xs l v1 w1):App base w n xs l v1 w1:=⟨h.1,B0q.drew.trans h.2.1,h.2.2⟩
theorem App.base{base n:Nat}{w w1:World}{xs:List Value}{l:List Nat}{v1:Value}(h:App base w n xs l v1 w1)(hb:base<=w.heap.size):base<=w1.heap.size:=Nat.le_trans hb h.2.1.size
theorem z7d(base n b:Nat)(v:Value)(xs:List Value)(w:World)(hb:b<256)(ho:w.ownsRow base 5 1 v n xs)(hn:n<=9000000)(hbase:base<=w.heap.size):
  Calls prog 103 #[v,.int .u8 b] w fun e w'=>∃v',e=.returned v'/\Hid (App base w n xs (lq b) v' w'):=by
 obtain⟨i0,hi,hz0,hz1,hz2⟩:=info_parts Tryz.infoByte;have HO:Hid (w.ownsRow base 5 1 v n xs):=ho;have HP:Hid (∀w:World,Calls prog 114 #[.int .u8 b] w fun e w'=>e=.returned (.bool (plB b))/\w'=w):=fun w=>Hh b _ rfl w hb
 clear ho;by_cases h10:b=10
 ·have HS:Hid (lq b=[92,110]):=by rw[h10];rfl
  have a10:((b:Int) == 10)=true:=by simp;omega
  clear h10;go_enter func103,ntmps103
  go_wp2_with(first|(at_builtin;refine wpList_append_own _ rfl (.tmp 24) (.tmp 25) 55 rfl base 5 i0 (.int .u8 0) 1 1 Tryz.underlying55 hi hz0 hz1 hz2 rfl (by decide) _ _ _ rfl (HO.out.alloc _) ⟨w.heap.size,0,none⟩ 2 2 [.int .u8 92,.int .u8 110] rfl rfl (Gy _ _ _ _) (Xj [92,110]) (by unfold maxLen;omega) (by omega) (by have:=hbase;simp;omega) ?_;intro v2 w2 hown2 hgr2 hnil2))
  go_ret;rw[HS.out];exact⟨_,rfl,hid (App.mk HO.out hbase rfl rfl hown2 hgr2)⟩
 by_cases h13:b=13
 ·have HS:Hid (lq b=[92,114]):=by rw[h13];rfl
  have a10:((b:Int) == 10)=false:=by simp;omega
  have a13:((b:Int) == 13)=true:=by simp;omega
  clear h13;go_enter func103,ntmps103
  go_wp2_with(first|(at_builtin;refine wpList_append_own _ rfl (.tmp 27) (.tmp 28) 55 rfl base 5 i0 (.int .u8 0) 1 1 Tryz.underlying55 hi hz0 hz1 hz2 rfl (by decide) _ _ _ rfl (HO.out.alloc _) ⟨w.heap.size,0,none⟩ 2 2 [.int .u8 92,.int .u8 114] rfl rfl (Gy _ _ _ _) (Xj [92,114]) (by unfold maxLen;omega) (by omega) (by have:=hbase;simp;omega) ?_;intro v2 w2 hown2 hgr2 hnil2))
  go_ret;rw[HS.out];exact⟨_,rfl,hid (App.mk HO.out hbase rfl rfl hown2 hgr2)⟩
 by_cases h9:b=9
 ·have HS:Hid (lq b=[92,116]):=by rw[h9];rfl
  have a10:((b:Int) == 10)=false:=by simp;omega
  have a13:((b:Int) == 13)=false:=by simp;omega
  have a9:((b:Int) == 9)=true:=by simp;omega
  clear h9;go_enter func103,ntmps103
  go_wp2_with(first|(at_builtin;refine wpList_append_own _ rfl (.tmp 30) (.tmp 31) 55 rfl base 5 i0 (.int .u8 0) 1 1 Tryz.underlying55 hi hz0 hz1 hz2 rfl (by decide) _ _ _ rfl (HO.out.alloc _) ⟨w.heap.size,0,none⟩ 2 2 [.int .u8 92,.int .u8 116] rfl rfl (Gy _ _ _ _) (Xj [92,116]) (by unfold maxLen;omega) (by omega) (by have:=hbase;simp;omega) ?_;intro v2 w2 hown2 hgr2 hnil2))
  go_ret;rw[HS.out];exact⟨_,rfl,hid (App.mk HO.out hbase rfl rfl hown2 hgr2)⟩
 have a10:((b:Int) == 10)=false:=by simp;omega
 have a13:((b:Int) == 13)=false:=by simp;omega
 have a9:((b:Int) == 9)=false:=by simp;omega
 have H3:Hid (b≠10/\b≠13/\b≠9):=⟨h10,h13,h9⟩;clear h10 h13 h9;by_cases hm:b=39∨b=92
 ·have HS:Hid (lq b=[92]++[b]):=by
   show lq b=[92,b];rw[lq,if_neg H3.out.1,if_neg H3.out.2.1,if_neg H3.out.2.2,if_pos hm]
  rcases hm with h39|h92
  ·have a39:((b:Int) == 39)=true:=by simp;omega
   clear h39;go_enter func103,ntmps103
   go_wp2_with(first
    |(at_builtin;refine wpList_append_own _ rfl (.tmp 33) (.tmp 34) 55 rfl base 5 i0 (.int .u8 0) 1 1 Tryz.underlying55 hi hz0 hz1 hz2 rfl (by decide) _ _ _ rfl (HO.out.alloc _) ⟨w.heap.size,0,none⟩ 1 1 [.int .u8 92] rfl rfl (Yc _ _ _) (Xj [92]) (by unfold maxLen;omega) (by omega) (by have:=hbase;simp;omega) ?_;intro v2 w2 hown2 hgr2 hnil2;have HA:Hid (App base _ n xs [92] v2 w2):=App.mk HO.out hbase rfl rfl hown2 hgr2;have hbase2:base<=w2.heap.size:=HA.out.base hbase;have HO2:Hid (w2.ownsRow base 5 1 v2 (n+1) (xs++nv [92])):=HA.out.1;clear hown2 hgr2 hnil2)
    |(at_builtin;refine wpList_append_own _ rfl (.tmp 36) (.tmp 38) 55 rfl base 5 i0 (.int .u8 0) 1 1 Tryz.underlying55 hi hz0 hz1 hz2 rfl (by decide) _ _ _ rfl (HO2.out.alloc _) ⟨w2.heap.size,0,none⟩ 1 1 [.int .u8 b] rfl rfl (Yc _ _ _) (Xj [(b:Int)]) (by unfold maxLen;omega) (by omega) (by have:=hbase2;simp;omega) ?_;intro v3 w3 hown3 hgr3 hnil3))
   go_ret;rw[HS.out];exact⟨_,rfl,hid (HA.out.trans (App.mk HO2.out hbase2 rfl rfl hown3 hgr3))⟩
  ·have a39:((b:Int) == 39)=false:=by simp;omega
   have a92:((b:Int) == 92)=true:=by simp;omega
   clear h92;go_enter func103,ntmps103
   go_wp2_with(first
    |(at_builtin;refine wpList_append_own _ rfl (.tmp 33) (.tmp 34) 55 rfl base 5 i0 (.int .u8 0) 1 1 Tryz.underlying55 hi hz0 hz1 hz2 rfl (by decide) _ _ _ rfl (HO.out.alloc _) ⟨w.heap.size,0,none⟩ 1 1 [.int .u8 92] rfl rfl (Yc _ _ _) (Xj [92]) (by unfold maxLen;omega) (by omega) (by have:=hbase;simp;omega) ?_;intro v2 w2 hown2 hgr2 hnil2;have HA:Hid (App base _ n xs [92] v2 w2):=App.mk HO.out hbase rfl rfl hown2 hgr2;have hbase2:base<=w2.heap.size:=HA.out.base hbase;have HO2:Hid (w2.ownsRow base 5 1 v2 (n+1) (xs++nv [92])):=HA.out.1;clear hown2 hgr2 hnil2)
    |(at_builtin;refine wpList_append_own _ rfl (.tmp 36) (.tmp 38) 55 rfl base 5 i0 (.int .u8 0) 1 1 Tryz.underlying55 hi hz0 hz1 hz2 rfl (by decide) _ _ _ rfl (HO2.out.alloc _) ⟨w2.heap.size,0,none⟩ 1 1 [.int .u8 b] rfl rfl (Yc _ _ _) (Xj [(b:Int)]) (by unfold maxLen;omega) (by omega) (by have:=hbase2;simp;omega) ?_;intro v3 w3 hown3 hgr3 hnil3))
   go_ret;rw[HS.out];exact⟨_,rfl,hid (HA.out.trans (App.mk HO2.out hbase2 rfl rfl hown3 hgr3))⟩
 ·have a39:((b:Int) == 39)=false:=by simp;omega
  have a92:((b:Int) == 92)=false:=by simp;omega
  cases hp:plB b
  ·rw[hp]at HP
   have HS:Hid (lq b=[92,120,Qd (b/16),Qd (b%16)]):=by
    show lq b=_;rw[lq,if_neg H3.out.1,if_neg H3.out.2.1,if_neg H3.out.2.2,if_neg hm,hp,if_neg (by simp)]
   clear hp hm;obtain⟨q,hq⟩:∃q,q=b/16:=⟨_,rfl⟩;obtain⟨r,hr⟩:∃r,r=b%16:=⟨_,rfl⟩;have d1:=Hm q (by omega);have d2:=Hm r (by omega);obtain⟨dq,hdq⟩:∃d,d=Qd q:=⟨_,rfl⟩;obtain⟨dr,hdr⟩:∃d,d=Qd r:=⟨_,rfl⟩;rw[<-hq,<-hr,<-hdq,<-hdr]at HS;rw[<-hdq]at d1;rw[<-hdr]at d2;have e1:(b:Int)/16=(q:Int):=by omega
   have e2:bits BinOp.and IntKind.u8 (b:Int) 15=(r:Int):=by
    have:=u8_and15 (x:=(b:Int)) (by omega) (by omega);rw[this];omega
   clear hq hr hdq hdr;go_enter func103,ntmps103
   go_wp2_with fail
   refine(HP.out _).mono ?_;rintro e w1 ⟨rfl,rfl⟩
   go_wp2_with fail
   have HO1:Hid (w1.drew.ownsRow base 5 1 v n xs):=HO.out.kept (row:=none) ⟨rfl,rfl,rfl,Nat.le_refl _,fun j hj _=>rfl⟩ (by cases hq:v.ownBlock<;>simp)
   go_region_held3 (fun _=>True) (trivial) (first
    |(rw[if_pos (by rfl)];refine wp_append_own _ (.tmp 40) (.tmp 47) 55 rfl base 5 i0 (.int .u8 0) 1 1 Tryz.underlying55 hi hz0 hz1 hz2 rfl (by decide) _ _ _ rfl (HO1.out.alloc _) ⟨w1.heap.size,0,none⟩ 4 4 [.int .u8 92,.int .u8 120,.int .u8 dq,.int .u8 dr] rfl rfl (z1b _ _ _ _ _ _) (Xj [92,120,(dq:Int),(dr:Int)]) (by unfold maxLen;omega) (by omega) (by have:=hbase;simp;omega) ?_;intro v2 w2 hown2 hgr2 hnil2))
   all_goals
    go_wp2_with fail
    go_ret;rw[HS.out];exact⟨_,rfl,hid (App.of_drew (App.mk HO1.out hbase rfl rfl hown2 hgr2))⟩
  ·rw[hp]at HP
   have HS:Hid (lq b=[b]):=by
    show lq b=[b];rw[lq,if_neg H3.out.1,if_neg H3.out.2.1,if_neg H3.out.2.2,if_neg hm,hp,if_pos rfl]
   clear hp hm;go_enter func103,ntmps103
   go_wp2_with fail
   refine(HP.out _).mono ?_;rintro e w1 ⟨rfl,rfl⟩
   go_wp2_with(first|(at_builtin;refine wpList_append_own _ rfl (.tmp 36) (.tmp 38) 55 rfl base 5 i0 (.int .u8 0) 1 1 Tryz.underlying55 hi hz0 hz1 hz2 rfl (by decide) _ _ _ rfl (HO.out.alloc _) ⟨w1.heap.size,0,none⟩ 1 1 [.int .u8 b] rfl rfl (Yc _ _ _) (Xj [(b:Int)]) (by unfold maxLen;omega) (by omega) (by have:=hbase;simp;omega) ?_;intro v2 w2 hown2 hgr2 hnil2))
   go_ret;rw[HS.out];exact⟨_,rfl,hid (App.mk HO.out hbase rfl rfl hown2 hgr2)⟩
theorem Lj(n:Nat)(h:n<16):Qd n<256:=by unfold Qd;split<;>omega
theorem z7e(b:Nat):1<=(lq b).length/\(lq b).length<=4:=by
 unfold lq
 repeat(split;(· simp))
 simp
theorem z1T(b:Nat)(hb:b<256):∀x∈lq b,x<256:=by
 have h1:=Lj (b/16) (by omega);have h2:=Lj (b%16) (by omega);unfold lq
 repeat(split;(· intro x hx;simp at hx;omega))
 intro x hx;simp at hx;omega
def qp(S:ByteArray):Nat->List Nat
 |0=>[39]
 |k+1=>qp S k++(match bt S k with|some x=>lq x|none=>[])
def qt(S:ByteArray):List Nat:=qp S S.size++[39]
theorem Ch(S:ByteArray):∀k,(qp S k).length<=4*k+1/\∀x∈qp S k,x<256
 |0=>by simp[qp]
 |k+1=>by
  have ih:=Ch S k;rw[qp];cases hb:bt S k with
  |none=>simp only[List.append_nil];exact⟨by omega,ih.2⟩
  |some x=>
   have h1:=z7e x;simp only[List.length_append];refine⟨by omega,fun y hy=> ?_⟩;rcases List.mem_append.1 hy with h|h
   ·exact ih.2 y h
   ·exact z1T x (Qx hb).2 y h
theorem Cd{S:ByteArray}{k x:Nat}(h:bt S k=some x):qp S (k+1)=qp S k++lq x:=by rw[qp,h]
theorem Cm(S:ByteArray):∀x∈qt S,x<256:=by
 intro x hx;unfold qt at hx;rcases List.mem_append.1 hx with h|h
 ·exact(Ch S _).2 x h
 ·simp at h;omega
def Lq(w:World)(v:Value)(l:List Nat)(w':World):Prop:=Hid (Below w.heap.size w w')/\Hid (w'.ownsRow w.heap.size 5 1 v l.length (nv l))
theorem z7f(S:ByteArray)(w:World)(hS:S.size<=1048576):
  Calls prog 81 #[.string S] w fun e w'=>e=.returned (.string (nb (qt S)))/\Below w.heap.size w w':=by
 obtain⟨i0,hi0,hz0,hz1,hz2⟩:=info_parts Tryz.infoByte;obtain⟨w1,hmk,hown,hgr⟩:=run_make_own (P:=prog) w w.heap.size 55 5 i0 (.int .u8 0) 1 Tryz.underlying55 hi0 hz0 hz1 .i64 .i64 (S.size+2) (by rw[hz2];omega) (by unfold maxLen;omega) L0q;have e1:((S.size+2:Nat):Int)=(S.size:Int)+2:=by omega
 rw[e1]at hmk;have HB1:Hid (Below w.heap.size w w1):=B0q.grown hgr L0q (fun k e=>by cases e);have HO1:Hid (w1.ownsRow w.heap.size 5 1 (.slice (some ⟨w.heap.size,0,none⟩) 0 (S.size+2)) 0 []):=hown;have hsz1:w.heap.size<=w1.heap.size:=HB1.out.size;obtain⟨n2,hn2⟩:∃n,n=S.size+2:=⟨_,rfl⟩;rw[<-hn2]at hmk HO1;clear hown hgr e1 hn2;go_enter func81,ntmps81
 go_wp2_with(first|(at_builtin;refine wpList_append_own _ rfl (.tmp 9) (.tmp 10) 55 rfl w.heap.size 5 i0 (.int .u8 0) 1 1 Tryz.underlying55 hi0 hz0 hz1 hz2 rfl (by decide) _ _ _ rfl (HO1.out.alloc _) ⟨w1.heap.size,0,none⟩ 1 1 [.int .u8 39] rfl rfl (Yc _ _ _) (Xj [39]) (by unfold maxLen;omega) (by omega) (by simp;omega) ?_;intro v2 w2 hown2 hgr2 hnil2))
 have HL0:Hid (Lq w v2 [39] w2):=⟨hid ((HB1.out.alloc hsz1 _).grown hgr2 (by simp;omega) (fun k e=>(HO1.out.lt k e).1)),hid hown2⟩;clear hown2 hgr2 hnil2 HO1 HB1 hmk
 go_loopw [3,14] (fun v i wr=>∃k:Nat,i=.int .i64 k/\k<=S.size/\Hid (Lq w v (qp S k) wr)) (fun _ i _=>S.size-(intOf i).toNat)
 case atStart=>exact⟨0,rfl,Nat.zero_le _,HL0⟩
 case round=>
  obtain⟨k,rfl,hk,HL⟩:=hrel;have hl:=(Ch S k).1;have hsz:w.heap.size<=wr.heap.size:=HL.out.1.out.size;cases hb:bt S k with
  |none=>
   have hge:=Qm hb;have hkk:k=S.size:=by omega
   have a0:decide ((k:Int)<(S.size:Int))=false:=by simp;omega
   have HF:Hid (qt S=qp S k++[39]):=by show qt S=_;rw[hkk];rfl
   clear hb hkk
   go_wp2_with(first|(at_builtin;refine wpList_append_own _ rfl (.tmp 23) (.tmp 24) 55 rfl w.heap.size 5 i0 (.int .u8 0) 1 1 Tryz.underlying55 hi0 hz0 hz1 hz2 rfl (by decide) _ _ _ rfl (HL.out.2.out.alloc _) ⟨wr.heap.size,0,none⟩ 1 1 [.int .u8 39] rfl rfl (Yc _ _ _) (Xj [39]) (by unfold maxLen;omega) (by omega) (by simp;omega) ?_;intro v9 w9 hown9 hgr9 hnil9;have cva:=Bl (l:=qp S k++[39]) (by rw[Gw];exact hown9) (by rw[<-HF.out];exact Cm S);have hb9:Hid (Below w.heap.size w w9):=(HL.out.1.out.alloc hsz _).grown hgr9 (by simp;omega) (fun k e=>(HL.out.2.out.lt k e).1);clear hown9 hgr9 hnil9))
   (try simp only[Exit.inBlock,Exit.then])
   refine bodyPost_ret (v:=.string (nb (qp S k++[39]))) (by simp[results,Tryz.results81,go_sem]) rfl ?_;exact⟨by rw[HF.out],hb9.out⟩
  |some x=>
   obtain⟨hkk,hxk⟩:=Qj hb;have hx:=(Qx hb).2;have a0:decide ((k:Int)<(S.size:Int))=true:=by simp;omega
   have hkI:(k:Int)<(S.size:Int):=by omega
   have HQ:Hid (qp S (k+1)=qp S k++lq x):=Cd hb;have HN:Hid (((k+1:Nat):Int)=(k:Int)+1):=by show _=_;omega
   have HC:=hid (z7d w.heap.size (qp S k).length x u3 (nv (qp S k)) wr hx HL.out.2.out (by omega) hsz);clear hb
   go_wp2_with fail
   refine HC.out.mono ?_;rintro e w3 ⟨v3,rfl,HA⟩;have HL3:Hid (Lq w v3 (qp S (k+1)) w3):=⟨hid (HL.out.1.out.trans HA.out.2.1),hid (by rw[HQ.out,List.length_append,Gw];exact HA.out.1)⟩;clear HA HC HL
   go_wp2_with fail
   go_roundw
   case rel=>exact⟨k+1,by rw[HN.out],by omega,HL3⟩
   case measure=>simp[intOf];omega
end Go.Proofs.YtikfnaffiehpaaaGreatDoor
