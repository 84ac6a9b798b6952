/- Lemmas for the last text. Conditions: those that each names. -/
import Derived.Test.YtikfnaffiehpaaaGreatDoorVR9ToS2
import Derived.Test.YtikfnaffiehpaaaGreatDoorVN2ToR8
import Derived.Test.YtikfnaffiehpaaaGreatDoorVP2ToX17
import Derived.Lib.AppendStr
import Derived.Test.YtikfnaffiehpaaaGreatDoorVEAs2ToX16
set_option linter.unusedVariables false
set_option maxRecDepth 100000
set_option maxHeartbeats 8000000
namespace Go.Proofs.YtikfnaffiehpaaaGreatDoor
open Go.Proofs.Tryz
open Go.RowKit Go.Shelf
variable {S T:ByteArray} {n:Nat} {W:World}
mutual
def toR:Nd->RT
 | .mk kd T C s p=>.mk (kd:Int) T (wd C 0:Nat) (wd C 1:Nat) (wd C 2:Nat) (wd C 3:Nat) (Uz s) (p:Int)
def Uz:List Nd->List RT
 |[]=>[]
 |n::r=>toR n::Uz r
end
mutual
theorem z3F:∀n:Nd,Tq (toR n) n
 | .mk kd T C s p=>by
   rw[toR,Tq];exact⟨rfl,rfl,rfl,rfl,rfl,rfl,z3G s⟩
theorem z3G:∀s:List Nd,TqL (Uz s) s
 |[]=>by rw[Uz,TqL];trivial
 |n::r=>by
  rw[Uz,TqL];exact⟨z3F n,z3G r⟩
end
theorem Of:∀s:List Nd,Qg (Uz s)=Fh s/\(Uz s).isEmpty=s.isEmpty
 |[]=>⟨rfl,rfl⟩
 |n::r=>⟨by rw[Uz,Qg,Fh,(Of r).1],by rw[Uz];rfl⟩
mutual
theorem z3H{w:World}{P:Nat->Prop}:∀(n:Nd) (cs:List Value),Sm n n->Qw w P n cs->Qh w w.heap.size (toR n) cs
 | .mk kd T C s p,cs,hs,h=>by
   rw[Sm]at hs;rw[Qw]at h;obtain⟨_,_,_,hl,hn⟩:=hs;obtain⟨sv,rfl,h⟩:=h;rw[toR,Qh];rcases h with⟨h1,rfl⟩|⟨h1,g,cap,cur,rfl,_,hg,_,h5⟩
   ·have hs0:s=[]:=by simpa using h1
    subst hs0;exact⟨none,0,rfl,.inl rfl⟩
   ·refine⟨some ⟨g,0,none⟩,cap,by rw[(Of s).1],.inr ⟨by rw[(Of s).2];exact h1,g,0,rfl,Qz hg,by rw[(Of s).1,Kb];unfold maxLen;omega,z3I s cur.toList g 0 hl h5 fun j u hj=> ?_⟩⟩
    rw[Array.getElem?_toList]at hj;simp[World.cell?,hg,hj]
theorem z3I{w:World}{P:Nat->Prop}:∀(s:List Nd) (vs:List Value) (g o:Nat),SmL s s->Qf w P s vs->(∀j u,vs[j]? =some u->w.cell? ⟨g,o+j,none⟩=some u)->Zb w w.heap.size g o (Uz s)
 |[],vs,g,o,_,_,_=>by rw[Uz,Zb];trivial
 |n::r,vs,g,o,hs,h,hc=>by
  rw[SmL]at hs;rw[Qf]at h;obtain⟨c,rest,rfl,h1,h2⟩:=h;have hl:=h1.len;rw[Uz,Zb];refine⟨⟨c,z3H n c hs.1 h1,fun j u hj=>hc j u ?_⟩,z3I r rest g (o+8) hs.2 h2 fun j u hj=> ?_⟩
  ·have:j<c.length:=(List.getElem?_eq_some_iff.1 hj).1
   rw[List.getElem?_append_left this];exact hj
  ·rw[Nat.add_assoc]
   refine hc (8+j) u ?_;rw[List.getElem?_append_right (by omega),hl,Nat.add_sub_cancel_left];exact hj
end
theorem Em(h:T={data:=#[]}):T.toList.isEmpty=true:=by
 subst h;rw[ByteArray.toList_eq];rfl
theorem Ep(h:T.toList.isEmpty=true):T={data:=#[]}:=by
 rw[ByteArray.toList_eq]at h;apply ByteArray.ext;simpa using h
theorem TqL.length{s:List RT}{q:List Nd}(h:TqL s q):q.length=Qg s:=by rw[<-Kb];exact h.len.1
theorem Ac:zc ((wd 0 0:Nat):Int) ((wd 0 1:Nat):Int) ((wd 0 2:Nat):Int) ((wd 0 3:Nat):Int)=true:=by decide
theorem z9k{kd:Nat}{C:Nat}{s:List Nd}(hn:s.length=n)(hv:(kd=1/\T={data:=#[]}/\C=0/\s=[])∨(kd=2/\C=0/\s=[])∨(kd=3/\T={data:=#[]}/\s=[])∨(kd=4/\T={data:=#[]}/\C=0/\s=[])∨(kd=5/\C=0/\s=[])∨
   ((kd=6∨kd=7)/\T={data:=#[]}/\C=0/\2<=s.length)∨(8<=kd/\kd<=12/\T={data:=#[]}/\C=0/\s.length=1))(w2:kd=2->T.size<=255)(w5:kd=5->nmS T=true):
  okN (kd:Int) T (wd C 0:Nat) (wd C 1:Nat) (wd C 2:Nat) (wd C 3:Nat) n=true:=by
 unfold okN;subst hn;rcases hv with⟨rfl,hT,rfl,rfl⟩|⟨rfl,rfl,rfl⟩|⟨rfl,hT,rfl⟩|⟨rfl,hT,rfl,rfl⟩|⟨rfl,rfl,rfl⟩|⟨hk,hT,rfl,hl⟩|⟨h8,h12,hT,rfl,hl⟩
 ·rw[if_pos (by decide),Em hT,Ac];rfl
 ·rw[if_neg (by decide),if_pos (by decide),Ac,decide_eq_true (by have:=w2 rfl;omega)];rfl
 ·rw[if_neg (by decide),if_neg (by decide),if_pos (by decide),Em hT];rfl
 ·rw[if_pos (by decide),Em hT,Ac];rfl
 ·rw[if_neg (by decide),if_neg (by decide),if_neg (by decide),if_pos (by decide),Ac,w5 rfl];rfl
 ·rw[if_neg (by omega),if_neg (by omega),if_neg (by omega),if_neg (by omega),if_pos (by omega),Em hT,Ac,decide_eq_true (by omega)];rfl
 ·rw[if_neg (by omega),if_neg (by omega),if_neg (by omega),if_neg (by omega),if_neg (by omega),if_pos (by omega),Em hT,Ac,hl];rfl
mutual
theorem Og:∀(t:RT) (n:Nd),Tq t n->Vk n->Wf Nmq n->okT t=true/\RtZ t
 | .mk k T a b c d s p,.mk kd T' C s' pn,h,hv,hw=>by
   rw[Tq]at h;obtain⟨rfl,rfl,rfl,rfl,rfl,rfl,hs⟩:=h;have hkd:=hv.kd;rw[Vk]at hv;rw[Wf]at hw;obtain⟨hv1,hvs⟩:=hv;obtain⟨w2,w5,wc,ws⟩:=hw;obtain⟨h1,h2⟩:=z3J s s' hs hvs ws;rw[okT,RtZ,h1,Bool.and_true];refine⟨z9k hs.length hv1 w2 w5,?_,h2⟩;have hz:∀T:ByteArray,T={data:=#[]}->T.size<=9223372036854775807:=fun T h=>by rw[h];decide
   rcases hv1 with q|q|q|q|q|q|q
   ·exact hz _ q.2.1
   ·have:=w2 q.1;omega
   ·exact hz _ q.2.1
   ·exact hz _ q.2.1
   ·have:=Eb (w5 q.1);omega
   ·exact hz _ q.2.1
   ·exact hz _ q.2.2.1
theorem z3J:∀(s:List RT) (q:List Nd),TqL s q->VkL q->WfL Nmq q->okL s=true/\Vp s
 |[],[],_,_,_=>by rw[okL,Vp];exact⟨rfl,trivial⟩
 |[],_::_,h,_,_=>by simp[TqL]at h
 |_::_,[],h,_,_=>by simp[TqL]at h
 |t::r,n::q,h,hv,hw=>by
  rw[TqL]at h;rw[VkL]at hv;rw[WfL]at hw;obtain⟨a1,a2⟩:=Og t n h.1 hv.1 hw.1;obtain⟨b1,b2⟩:=z3J r q h.2 hv.2 hw.2;rw[okL,Vp,a1,b1];exact⟨rfl,a2,b2⟩
end
theorem Pg.more{base Pb:Nat}{X:ByteArray}(h:Pg base Pb X W)(hx:8192<X.size)(Y:ByteArray):Pg base Pb (X++Y) W:=by
 obtain⟨h1,h2,bv,Z,h3,h4,h5,h6,h7⟩:=h;have hs:(X++Y).size=X.size+Y.size:=ByteArray.size_append;exact⟨h1,h2,bv,Z,h3,h4,h5,fun h=>by omega,fun _=>h7 hx⟩
def Txp(sep:ByteArray)(Ys:List ByteArray):Nat->ByteArray
 |0=>{data:=#[]}
 |j+1=>(if j=0 then Txp sep Ys j else Txp sep Ys j++sep)++(Ys[j]?).getD {data:=#[]}
theorem Ob{sep:ByteArray}{Ys:List ByteArray}{j:Nat}{Y:ByteArray}(h:Ys[j]? =some Y):Txp sep Ys (j+1)=(if j=0 then Txp sep Ys j else Txp sep Ys j++sep)++Y:=by
 rw[Txp.eq_2,h];rfl
theorem z3K(so:Option Addr)(n cap:Nat)(sep:ByteArray)(Ys:List ByteArray)(ks:List Int)(kb kl:Nat)(base Pb:Nat)(w0:World)(X:ByteArray)(w:World)(h7:ks.length<=7)(hsep:sep.size<=4096)(hn:n<=9223372036854775807)
  (HC:Hid (∀j,j<n->∃g o,so=some ⟨g,o,none⟩/\g<base/\∃k1 T1 a1 b1 c1 d1 so1 n1 cap1 p1,Rc w0 g (o+j*8) k1 T1 a1 b1 c1 d1 (.slice so1 n1 cap1) p1/\
    ∃Y,Ys[j]? =some (if ks.contains k1 then cat (bO::([Y]++[bC]))else Y)/\PgC 25 #[.agg #[.int .i64 k1,.string T1,.int .u64 a1,.int .u64 b1,.int .u64 c1,.int .u64 d1,.slice so1 n1 cap1,.int .i64 p1]] base Pb w0 Y))
  (hp:Pg base Pb X w)(hb0:Below base w0 w)(hks:Ks w kb ks)(hkl:kl=ks.length):
  Calls prog 39 #[.pointer (some ⟨Pb,0,none⟩),.slice so n cap,.string sep,.slice (some ⟨kb,0,none⟩) kl kl] w fun e w'=>e=.returned (.tuple #[])/\Hid (Pg base Pb (X++Txp sep Ys n) w')/\Hid (Below base w w')/\Hid (Kq w w'):=by
 have HPut:=hid (fun(X s:ByteArray) (W:World) (h:Pg base Pb X W) (hs:s.size<=4096)=>Vb base Pb X s W h hs);have HB0:=hid hb0;have HP0:Hid (Pg base Pb (X++Txp sep Ys 0) w):=by
  have e:X++Txp sep Ys 0=X:=by rw[Txp];apply ByteArray.ext;simp
  rw[e];exact hp
 have HKS0:=hid hks;have HKL:=hid hkl;have H7:=hid h7;have HSp:=hid hsep;clear hp hks hb0 hkl h7 hsep;go_enter func39,ntmps39
 go_wp2_with fail
 go_loopw [8] (fun i wr=>∃j:Nat,i=.int .i64 j/\j<=n/\Hid (Pg base Pb (X++Txp sep Ys j) wr)/\Hid (Below base w wr)/\Hid (Kq w wr)) (fun i _=>n-(intOf i).toNat)
 case atStart=>exact⟨0,rfl,Nat.zero_le _,HP0,hid B0q,hid (Kq.refl _)⟩
 case round=>
  obtain⟨j,rfl,hj,HP,HB,HK⟩:=hrel;clear HP0;by_cases hjn:j<n
  ·have hjI:(j:Int)<(n:Int):=by omega
   have a0:decide ((j:Int)<(n:Int))=true:=by simp;omega
   obtain⟨g,o,rfl,hg,k1,T1,a1,b1,c1,d1,so1,n1,cap1,p1,rc,Y,hY,hN⟩:=HC.out j hjn;have HN:=hid hN;obtain⟨Yj,hYj⟩:∃Yj,Yj=(if ks.contains k1 then cat (bO::([Y]++[bC]))else Y):=⟨_,rfl⟩;have HPt:=hid (fun(X:ByteArray) (W:World) (hp:Pg base Pb X W) (hb:Below base w0 W) (hk:Ks W kb ks)=>z3v k1 T1 a1 b1 c1 d1 p1 so1 n1 cap1 ks kb kl base Pb w0 Y X W H7.out HN hp hb hk HKL.out);rw[<-hYj]at hY HPt;have HY:=hid hY;clear hN HN hY hYj;have HRc:=hid rc;clear rc;by_cases hj0:j=0
   ·subst hj0
    have HT:Hid (Txp sep Ys (0+1)=Txp sep Ys 0++Yj):=by show _=_;rw[Ob HY.out,if_pos rfl]
    obtain⟨z0,z1,z2,z3,z4,z5,z6,z7⟩:=HRc.out.below (HB0.out.trans HB.out) hg;simp only[Nat.zero_mul,Nat.add_zero]at z0 z1 z2 z3 z4 z5 z6 z7;have hgl:g<wr.heap.size:=by have:=HP.out.1;have:=HP.out.2.1;omega
    go_wp2_with fail
    refine(HPt.out _ _ HP.out (HB0.out.trans HB.out) (HKS0.out.kq HK.out)).mono ?_;rintro e w4 ⟨rfl,HP4,HB4,HK4⟩;have HB4':=hid (HB.out.trans HB4.out);have HK4':=hid (HK.out.trans HK4.out);clear HB HK HB4 HK4 z0 z1 z2 z3 z4 z5 z6 z7 HP
    go_wp2_with fail
    go_roundw
    case rel=>exact⟨0+1,by go_num,by omega,hid (by rw[HT.out,<-ByteArray.append_assoc];exact HP4.out),HB4',HK4'⟩
    case measure=>simp[intOf];omega
   ·have b0:decide ((0:Int)<(j:Int))=true:=by simp;omega
    have b1:(0:Int)<(j:Int):=by omega
    have HT:Hid (Txp sep Ys (j+1)=Txp sep Ys j++sep++Yj):=by show _=_;rw[Ob HY.out,if_neg hj0]
    go_wp2_with fail
    refine(HPut.out _ sep _ HP.out HSp.out).mono ?_;rintro e w3 ⟨rfl,HP3,HB3,HK3⟩;have HB3':=hid (HB.out.trans HB3.out);have HK3':=hid (HK.out.trans HK3.out);clear HB HK HB3 HK3 HP;obtain⟨z0,z1,z2,z3,z4,z5,z6,z7⟩:=HRc.out.below (HB0.out.trans HB3'.out) hg;have hgl:g<w3.heap.size:=by have:=HP3.out.1;have:=HP3.out.2.1;omega
    go_wp2_with fail
    refine(HPt.out _ _ HP3.out (HB0.out.trans HB3'.out) (HKS0.out.kq HK3'.out)).mono ?_;rintro e w4 ⟨rfl,HP4,HB4,HK4⟩;have HB4':=hid (HB3'.out.trans HB4.out);have HK4':=hid (HK3'.out.trans HK4.out);clear HB3' HK3' HB4 HK4 z0 z1 z2 z3 z4 z5 z6 z7 HP3
    go_wp2_with fail
    go_roundw
    case rel=>exact⟨j+1,by go_num,by omega,hid (by rw[HT.out,<-ByteArray.append_assoc,<-ByteArray.append_assoc];exact HP4.out),HB4',HK4'⟩
    case measure=>simp[intOf];omega
  ·have a0:decide ((j:Int)<(n:Int))=false:=by simp;omega
   have hjn2:j=n:=by omega
   have HPf:Hid (Pg base Pb (X++Txp sep Ys n) wr):=by rw[<-hjn2];exact HP
   clear hjn2 HC
   go_wp2_with fail
   (try simp only[Exit.inBlock,Exit.then])
   first|refine bodyPost_end (results_none rfl _ _ _) rfl ?_ |refine bodyPost_ret (results_none rfl _ _ _) rfl ?_
   exact⟨rfl,HPf,HB,HK⟩
theorem z9l(x:Nat)(v:Bool)(hv:Qy x=v)(w:World)(hx:x<256):
  Calls prog 85 #[.int .u8 x] w fun e w'=>e=.returned (.bool v)/\w'=w:=by
 subst hv;have hc:x<65∨(65<=x/\x<=90)∨(90<x/\x<95)∨x=95∨x=96∨(97<=x/\x<=122)∨122<x:=by omega
 rcases hc with h|h|h|h|h|h|h
 ·have hv:Qy x=false:=by unfold Qy;simp;omega
  have a1:decide (65<=(x:Int))=false:=by simp;omega
  have a3:decide (97<=(x:Int))=false:=by simp;omega
  have a5:((x:Int) == 95)=false:=by simp;omega
  rw[hv];clear h hv;go_enter func85,ntmps85
  go_wp2_with fail
  go_ret;exact⟨rfl,rfl⟩
 ·have hv:Qy x=true:=by unfold Qy;simp;omega
  have a1:decide (65<=(x:Int))=true:=by simp;omega
  have a2:decide ((x:Int)<=90)=true:=by simp;omega
  rw[hv];clear h hv;go_enter func85,ntmps85
  go_wp2_with fail
  go_ret;exact⟨rfl,rfl⟩
 ·have hv:Qy x=false:=by unfold Qy;simp;omega
  have a1:decide (65<=(x:Int))=true:=by simp;omega
  have a2:decide ((x:Int)<=90)=false:=by simp;omega
  have a3:decide (97<=(x:Int))=false:=by simp;omega
  have a5:((x:Int) == 95)=false:=by simp;omega
  rw[hv];clear h hv;go_enter func85,ntmps85
  go_wp2_with fail
  go_ret;exact⟨rfl,rfl⟩
 ·have hv:Qy x=true:=by unfold Qy;simp;omega
  have a1:decide (65<=(x:Int))=true:=by simp;omega
  have a2:decide ((x:Int)<=90)=false:=by simp;omega
  have a3:decide (97<=(x:Int))=false:=by simp;omega
  have a5:((x:Int) == 95)=true:=by simp;omega
  rw[hv];clear h hv;go_enter func85,ntmps85
  go_wp2_with fail
  go_ret;exact⟨rfl,rfl⟩
 ·have hv:Qy x=false:=by unfold Qy;simp;omega
  have a1:decide (65<=(x:Int))=true:=by simp;omega
  have a2:decide ((x:Int)<=90)=false:=by simp;omega
  have a3:decide (97<=(x:Int))=false:=by simp;omega
  have a5:((x:Int) == 95)=false:=by simp;omega
  rw[hv];clear h hv;go_enter func85,ntmps85
  go_wp2_with fail
  go_ret;exact⟨rfl,rfl⟩
 ·have hv:Qy x=true:=by unfold Qy;simp;omega
  have a1:decide (65<=(x:Int))=true:=by simp;omega
  have a2:decide ((x:Int)<=90)=false:=by simp;omega
  have a3:decide (97<=(x:Int))=true:=by simp;omega
  have a4:decide ((x:Int)<=122)=true:=by simp;omega
  rw[hv];clear h hv;go_enter func85,ntmps85
  go_wp2_with fail
  go_ret;exact⟨rfl,rfl⟩
 ·have hv:Qy x=false:=by unfold Qy;simp;omega
  have a1:decide (65<=(x:Int))=true:=by simp;omega
  have a2:decide ((x:Int)<=90)=false:=by simp;omega
  have a3:decide (97<=(x:Int))=true:=by simp;omega
  have a4:decide ((x:Int)<=122)=false:=by simp;omega
  have a5:((x:Int) == 95)=false:=by simp;omega
  rw[hv];clear h hv;go_enter func85,ntmps85
  go_wp2_with fail
  go_ret;exact⟨rfl,rfl⟩
theorem z9m(x:Nat)(v:Bool)(hv:Xg x=v)(w:World)(hx:x<256):
  Calls prog 86 #[.int .u8 x] w fun e w'=>e=.returned (.bool v)/\w'=w:=by
 subst hv;unfold Xg;by_cases h1:48<=x
 ·have a1:decide (48<=(x:Int))=true:=by simp;omega
  by_cases h2:x<=57
  ·have a2:decide ((x:Int)<=57)=true:=by simp;omega
   rw[decide_eq_true h1,decide_eq_true h2];clear h1 h2;go_enter func86,ntmps86
   go_wp2_with fail
   go_ret;exact⟨rfl,rfl⟩
  ·have a2:decide ((x:Int)<=57)=false:=by simp;omega
   rw[decide_eq_true h1,decide_eq_false h2];clear h1 h2;go_enter func86,ntmps86
   go_wp2_with fail
   go_ret;exact⟨rfl,rfl⟩
 ·have a1:decide (48<=(x:Int))=false:=by simp;omega
  rw[decide_eq_false h1];clear h1;go_enter func86,ntmps86
  go_wp2_with fail
  go_ret;exact⟨rfl,rfl⟩
def rl(S:ByteArray)(p:Nat):Nat:=match bt S p with
 |none=>0
 |some x=>if Qy x then ne S p-p else 0
def RlQ(S:ByteArray)(p n:Nat):Prop:=p+n<=S.size/\(n=0∨(∃x,bt S p=some x/\Qy x=true)/\ne S (p+n)=ne S p)
theorem RlQ.none{S:ByteArray}{p n:Nat}(h:RlQ S p n)(hb:bt S (p+n)=none):rl S p=n:=by
 rcases h.2 with rfl|⟨⟨x,hx,hl⟩,he⟩
 ·unfold rl;rw[Nat.add_zero]at hb;rw[hb]
 ·rw[Iq hb]at he
  unfold rl;rw[hx];simp only;rw[hl,if_pos rfl,<-he];omega
theorem RlQ.on{p x:Nat}(h:RlQ S p n)(hb:bt S (p+n)=some x)(hx:Qy x=true∨(Xg x=true/\0<n)):RlQ S p (n+1):=by
 have hk:=(Qx hb).1;refine⟨by omega,.inr ?_⟩;have hn:ne S (p+n)=ne S (p+(n+1)):=by
  rw[Ud hb,if_pos (by rcases hx with h|⟨h,_⟩<;>simp[h])];rfl
 rcases h.2 with rfl|⟨h1,he⟩
 ·rcases hx with h1|⟨_,h1⟩
  ·exact⟨⟨x,by simpa using hb,h1⟩,by rw[<-hn];rfl⟩
  ·omega
 ·exact⟨h1,by rw[<-hn,he]⟩
theorem RlQ.off{p x:Nat}(h:RlQ S p n)(hb:bt S (p+n)=some x)(hx:Qy x=false)(hd:Xg x=false∨n=0):rl S p=n:=by
 rcases h.2 with rfl|⟨⟨y,hy,hl⟩,he⟩
 ·unfold rl;rw[Nat.add_zero]at hb;rw[hb];simp[hx]
 ·rcases hd with hd|rfl
  ·rw[Ud hb,hx,hd]at he
   simp at he;unfold rl;rw[hy];simp only;rw[hl,if_pos rfl,<-he];omega
  ·rw[Nat.add_zero]at hb
   rw[hb]at hy;cases hy;rw[hx]at hl;cases hl
theorem Jp(S:ByteArray)(p:Nat)(w:World)(hp:p<=S.size)(hS:S.size<=9223372036854775807):
  Calls prog 58 #[.string S,.int .i64 p] w fun e w'=>e=.returned (.int .i64 (rl S p:Int))/\w'=w:=by
 go_enter func58,ntmps58
 go_wp2_with fail
 go_loopw [5] (fun a wr=>∃n:Nat,a=.int .i64 n/\Hid (RlQ S p n)/\wr=w) (fun a _=>S.size-p-(intOf a).toNat)
 case atStart=>exact⟨0,rfl,hid ⟨by omega,.inl rfl⟩,rfl⟩
 case round=>
  obtain⟨n,rfl,HR,rfl⟩:=hrel;have hpn:=HR.out.1;obtain⟨K,hK⟩:∃K,K=p+n:=⟨_,rfl⟩;have hc:(p:Int)+(n:Int)=(K:Int):=by omega
  have hKp:K<=S.size:=by omega
  have HKn:Hid (K=p+n):=hK;have hm1:S.size-p-(n+1)<S.size-p-n∨S.size<=K:=by omega
  clear hK hpn;cases hb:bt S K with
  |none=>
   have hge:=Qm hb;have a0:decide ((K:Int)<(S.size:Int))=false:=by simp;omega
   have HF:Hid (rl S p=n):=HR.out.none (by rw[<-HKn.out];exact hb);clear hb
   go_wp2_with fail
   go_ret;rw[HF.out];exact⟨rfl,rfl⟩
  |some x=>
   obtain⟨hkk,hxk⟩:=Qj hb;have hx:=(Qx hb).2;have a0:decide ((K:Int)<(S.size:Int))=true:=by simp;omega
   have hkI:(K:Int)<(S.size:Int):=by omega
   have HN:Hid (((n+1:Nat):Int)=(n:Int)+1):=by show _=_;omega
   have HLt:Hid (∀w:World,Calls prog 85 #[.int .u8 x] w fun e w'=>e=.returned (.bool (Qy x))/\w'=w):=fun w=>z9l x _ rfl w hx
   have HDg:Hid (∀w:World,Calls prog 86 #[.int .u8 x] w fun e w'=>e=.returned (.bool (Xg x))/\w'=w):=fun w=>z9m x _ rfl w hx
   cases hl:Qy x with
   |true=>
    have HR2:Hid (RlQ S p (n+1)):=HR.out.on (by rw[<-HKn.out];exact hb) (.inl hl);rw[hl]at HLt;clear hb hl
    go_wp2_with fail
    refine(HLt.out _).mono ?_;rintro e w1 ⟨rfl,rfl⟩
    go_wp2_with fail
    refine(HDg.out _).mono ?_;rintro e w1 ⟨rfl,rfl⟩
    go_wp2_with fail
    go_roundw
    case rel=>exact⟨n+1,by rw[HN.out],HR2,trivial⟩
    case measure=>simp[intOf];omega
   |false=>
    rw[hl]at HLt;by_cases hon:Xg x=true/\0<n
    ·have HR2:Hid (RlQ S p (n+1)):=HR.out.on (by rw[<-HKn.out];exact hb) (.inr hon)
     rw[hon.1]at HDg;have hn0:((n:Int) == 0)=false:=by simp;omega
     clear hb hl hon
     go_wp2_with fail
     refine(HLt.out _).mono ?_;rintro e w1 ⟨rfl,rfl⟩
     go_wp2_with fail
     refine(HDg.out _).mono ?_;rintro e w1 ⟨rfl,rfl⟩
     go_wp2_with fail
     go_roundw
     case rel=>exact⟨n+1,by rw[HN.out],HR2,trivial⟩
     case measure=>simp[intOf];omega
    ·have HF:Hid (rl S p=n):=HR.out.off (by rw[<-HKn.out];exact hb) hl (by cases hd:Xg x;exact .inl rfl;rw[hd]at hon;simp at hon;exact .inr hon)
     have hd2:Xg x=false∨(Xg x=true/\n=0):=by
      cases hd:Xg x with
      |false=>exact .inl rfl
      |true=>rw[hd]at hon;simp at hon;exact .inr ⟨rfl,hon⟩
     clear hb hl hon;rcases hd2 with hd|⟨hd,hn0⟩
     ·rw[hd]at HDg
      clear hd
      go_wp2_with fail
      refine(HLt.out _).mono ?_;rintro e w1 ⟨rfl,rfl⟩
      go_wp2_with fail
      refine(HDg.out _).mono ?_;rintro e w1 ⟨rfl,rfl⟩
      go_wp2_with fail
      go_ret;rw[HF.out];exact⟨rfl,rfl⟩
     ·rw[hd]at HDg
      have hn1:((n:Int) == 0)=true:=by simp;omega
      clear hd hn0
      go_wp2_with fail
      refine(HLt.out _).mono ?_;rintro e w1 ⟨rfl,rfl⟩
      go_wp2_with fail
      refine(HDg.out _).mono ?_;rintro e w1 ⟨rfl,rfl⟩
      go_wp2_with fail
      go_ret;rw[HF.out];exact⟨rfl,rfl⟩
theorem z9n(S:ByteArray):nmS S=(decide (rl S 0=S.size)&&(decide (1<=rl S 0)&&decide (rl S 0<=32))):=by
 cases hb:bt S 0 with
 |none=>
  have e1:nmS S=false:=by unfold nmS;rw[hb]
  have e2:rl S 0=0:=by unfold rl;rw[hb]
  rw[e1,e2];simp
 |some x=>
  have:=(Qx hb).1;have e1:nmS S=(decide (S.size<=32)&&Qy x&&decide (ne S 0=S.size)):=by unfold nmS;rw[hb]
  have e2:rl S 0=if Qy x then ne S 0-0 else 0:=by unfold rl;rw[hb]
  rw[e1,e2];cases hl:Qy x with
  |false=>simp
  |true=>
   simp only[if_true,Nat.sub_zero,Bool.and_true];by_cases h1:ne S 0=S.size
   ·rw[h1];simp;omega
   ·simp[h1]
theorem Uv(S:ByteArray)(w:World)(hS:S.size<=9223372036854775807):
  Calls prog 34 #[.string S] w fun e w'=>e=.returned (.bool (nmS S))/\w'=w:=by
 have HL:Hid (∀w:World,Calls prog 58 #[.string S,.int .i64 0] w fun e w'=>e=.returned (.int .i64 (rl S 0:Int))/\w'=w):=fun w=>Jp S 0 w (Nat.zero_le _) hS
 have HF:Hid (nmS S=(decide (rl S 0=S.size)&&(decide (1<=rl S 0)&&decide (rl S 0<=32)))):=z9n S;obtain⟨n,hn⟩:∃n,n=rl S 0:=⟨_,rfl⟩;rw[<-hn]at HL HF;clear hn;by_cases h1:n=S.size
 ·have a1:((n:Int) == (S.size:Int))=true:=by simp;omega
  rw[decide_eq_true h1]at HF;by_cases h2:1<=n
  ·have a2:decide (1<=(n:Int))=true:=by simp;omega
   rw[decide_eq_true h2]at HF;by_cases h3:n<=32
   ·have a3:decide ((n:Int)<=32)=true:=by simp;omega
    rw[decide_eq_true h3]at HF;clear h1 h2 h3;go_enter func34,ntmps34
    go_wp2_with fail
    refine(HL.out _).mono ?_;rintro e w1 ⟨rfl,rfl⟩
    go_wp2_with fail
    go_ret;rw[HF.out];exact⟨rfl,rfl⟩
   ·have a3:decide ((n:Int)<=32)=false:=by simp;omega
    rw[decide_eq_false h3]at HF;clear h1 h2 h3;go_enter func34,ntmps34
    go_wp2_with fail
    refine(HL.out _).mono ?_;rintro e w1 ⟨rfl,rfl⟩
    go_wp2_with fail
    go_ret;rw[HF.out];exact⟨rfl,rfl⟩
  ·have a2:decide (1<=(n:Int))=false:=by simp;omega
   rw[decide_eq_false h2]at HF;clear h1 h2;go_enter func34,ntmps34
   go_wp2_with fail
   refine(HL.out _).mono ?_;rintro e w1 ⟨rfl,rfl⟩
   go_wp2_with fail
   go_ret;rw[HF.out];exact⟨rfl,rfl⟩
 ·have a1:((n:Int) == (S.size:Int))=false:=by simp;omega
  rw[decide_eq_false h1]at HF;go_enter func34,ntmps34
  go_wp2_with fail
  refine(HL.out _).mono ?_;rintro e w1 ⟨rfl,rfl⟩
  go_wp2_with fail
  go_ret;rw[HF.out];exact⟨rfl,rfl⟩
theorem z3L(q:Nat)(hq:q<16)(w:World):Calls prog 59 #[.int .i64 q] w fun e w'=>e=.returned (.string (nb [Qd q]))/\w'=w:=by
 have:q=0∨q=1∨q=2∨q=3∨q=4∨q=5∨q=6∨q=7∨q=8∨q=9∨q=10∨q=11∨q=12∨q=13∨q=14∨q=15:=by omega
 rcases this with rfl|rfl|rfl|rfl|rfl|rfl|rfl|rfl|rfl|rfl|rfl|rfl|rfl|rfl|rfl|rfl
 all_goals
  go_enter func59,ntmps59
  go_wp2_with fail
  go_ret;exact⟨rfl,rfl⟩
theorem z9o(l:List Nat)(h:∀x∈l,x<256):Lib.strCells (nb l)=nv l:=by
 unfold Lib.strCells nb nv;simp;intro x hx;have:=h x hx;omega
theorem Lq.app{w w':World}{o:Obj}{v v':Value}{l m:List Nat}{xs:List Value}(h:Lq w v l W)(hn:n=m.length)(hx:xs=nv m)(ho:w'.ownsRow w.heap.size 5 1 v' (l.length+n) (nv l++xs))(hg:(W.alloc o).grownBy w' v.ownBlock):Lq w v' (l++m) w':=by
 subst hn hx;have hs:=h.1.out.size;exact⟨hid ((h.1.out.alloc hs _).grown hg (by simp;omega) (fun k e=>(h.2.out.lt k e).1)),hid (by rw[List.length_append,Gw];exact ho)⟩
theorem Lq.appS{w w':World}{v v':Value}{l m:List Nat}{s:ByteArray}(h:Lq w v l W)(hm:s=nb m)(hlt:∀x∈m,x<256)(ho:w'.ownsRow w.heap.size 5 1 v' (l.length+s.size) (nv l++Lib.strCells s))(hg:W.grownBy w' v.ownBlock):Lq w v' (l++m) w':=by
 subst hm;rw[z9o m hlt,Yk]at ho;exact⟨hid (h.1.out.grown hg h.1.out.size (fun k e=>(h.2.out.lt k e).1)),hid (by rw[List.length_append,Gw];exact ho)⟩
theorem z9p(S:ByteArray)(w:World)(hS:S.size<=1048576):
  Calls prog 37 #[.string S] w fun e w'=>e=.returned (.string (nb (qt S)))/\Below w.heap.size w w':=by
 obtain⟨i0,hi0,hz0,hz1,hz2⟩:=info_parts Tryz.infoByte;go_enter func37,ntmps37
 go_wp2_with(first|(at_builtin;refine wpList_append_own _ rfl (.tmp 6) (.tmp 7) 55 rfl w.heap.size 5 i0 (.int .u8 0) 1 1 Tryz.underlying55 hi0 hz0 hz1 hz2 rfl (by decide) _ _ _ rfl (World.ownsRow_nil _ _ _ _) ⟨w.heap.size,0,none⟩ 1 1 [.int .u8 39] rfl rfl (Yc _ _ _) (Xj [39]) (by unfold maxLen;omega) (by omega) (by simp) ?_;intro v2 w2 hown2 hgr2 hnil2))
 have HL0:Hid (Lq w v2 [39] w2):=⟨hid ((B0q.alloc L0q _).grown hgr2 (by simp) (fun k e=>by cases e)),hid hown2⟩;clear hown2 hgr2 hnil2
 go_loopw [3,4] (fun v i wr=>∃k:Nat,i=.int .i64 k/\k<=S.size/\Hid (Lq w v (qp S k) wr)) (fun _ i _=>S.size-(intOf i).toNat)
 case atStart=>exact⟨0,rfl,Nat.zero_le _,HL0⟩
 case round=>
  obtain⟨k,rfl,hk,HL⟩:=hrel;have hl:=(Ch S k).1;have hsz:w.heap.size<=wr.heap.size:=HL.out.1.out.size;cases hb:bt S k with
  |none=>
   have hge:=Qm hb;have hkk:k=S.size:=by omega
   have a0:decide ((k:Int)<(S.size:Int))=false:=by simp;omega
   have HF:Hid (qt S=qp S k++[39]):=by show qt S=_;rw[hkk];rfl
   clear hb hkk
   go_wp2_with(first|(at_builtin;refine wpList_append_own _ rfl (.tmp 67) (.tmp 68) 55 rfl w.heap.size 5 i0 (.int .u8 0) 1 1 Tryz.underlying55 hi0 hz0 hz1 hz2 rfl (by decide) _ _ _ rfl (HL.out.2.out.alloc _) ⟨wr.heap.size,0,none⟩ 1 1 [.int .u8 39] rfl rfl (Yc _ _ _) (Xj [39]) (by unfold maxLen;omega) (by omega) (by simp;omega) ?_;intro v9 w9 hown9 hgr9 hnil9;have cva:=Bl (l:=qp S k++[39]) (by rw[Gw];exact hown9) (by rw[<-HF.out];exact Cm S);have hb9:Hid (Below w.heap.size w w9):=(HL.out.1.out.alloc hsz _).grown hgr9 (by simp;omega) (fun k e=>(HL.out.2.out.lt k e).1);clear hown9 hgr9 hnil9))
   (try simp only[Exit.inBlock,Exit.then])
   refine bodyPost_ret (v:=.string (nb (qp S k++[39]))) (by simp[results,Tryz.results37,go_sem]) rfl ?_;exact⟨by rw[HF.out],hb9.out⟩
  |some b=>
   obtain⟨hkk,hxk⟩:=Qj hb;have hx:=(Qx hb).2;have a0:decide ((k:Int)<(S.size:Int))=true:=by simp;omega
   have hkI:(k:Int)<(S.size:Int):=by omega
   have HQ:Hid (qp S (k+1)=qp S k++lq b):=Cd hb;have HN:Hid (((k+1:Nat):Int)=(k:Int)+1):=by show _=_;omega
   clear hb;by_cases h10:b=10
   ·have HS:Hid (lq b=[92,110]):=by rw[h10];rfl
    have a10:((b:Int) == 10)=true:=by simp;omega
    clear h10
    go_wp2_with(first|(at_builtin;refine Lib.wpList_append_own_string _ rfl (.tmp 33) (.const (.string {data:=#[92,110]})) 55 9 rfl w.heap.size 5 i0 Tryz.underlying55 Tryz.underlying9 hi0 hz0 hz1 hz2 _ _ _ rfl HL.out.2.out {data:=#[92,110]} rfl (by unfold maxLen;have hs2:({data:=#[92,110]}:ByteArray).size=2:=rfl;omega) (by have hs2:({data:=#[92,110]}:ByteArray).size=2:=rfl;omega) hsz ?_;intro v2 w2 hown2 hgr2 hnil2))
    have HL2:Hid (Lq w v2 (qp S (k+1)) w2):=by rw[HQ.out,HS.out];exact HL.out.appS (m:=[92,110]) rfl (by simp) hown2 hgr2
    clear hown2 hgr2 hnil2 HL
    go_wp2_with fail
    go_roundw
    case rel=>exact⟨k+1,by rw[HN.out],by omega,HL2⟩
    case measure=>simp[intOf];omega
   by_cases h13:b=13
   ·have HS:Hid (lq b=[92,114]):=by rw[h13];rfl
    have a10:((b:Int) == 10)=false:=by simp;omega
    have a13:((b:Int) == 13)=true:=by simp;omega
    clear h13 h10
    go_wp2_with(first|(at_builtin;refine Lib.wpList_append_own_string _ rfl (.tmp 38) (.const (.string {data:=#[92,114]})) 55 9 rfl w.heap.size 5 i0 Tryz.underlying55 Tryz.underlying9 hi0 hz0 hz1 hz2 _ _ _ rfl HL.out.2.out {data:=#[92,114]} rfl (by unfold maxLen;have hs2:({data:=#[92,114]}:ByteArray).size=2:=rfl;omega) (by have hs2:({data:=#[92,114]}:ByteArray).size=2:=rfl;omega) hsz ?_;intro v2 w2 hown2 hgr2 hnil2))
    have HL2:Hid (Lq w v2 (qp S (k+1)) w2):=by rw[HQ.out,HS.out];exact HL.out.appS (m:=[92,114]) rfl (by simp) hown2 hgr2
    clear hown2 hgr2 hnil2 HL
    go_wp2_with fail
    go_roundw
    case rel=>exact⟨k+1,by rw[HN.out],by omega,HL2⟩
    case measure=>simp[intOf];omega
   by_cases h9:b=9
   ·have HS:Hid (lq b=[92,116]):=by rw[h9];rfl
    have a10:((b:Int) == 10)=false:=by simp;omega
    have a13:((b:Int) == 13)=false:=by simp;omega
    have a9:((b:Int) == 9)=true:=by simp;omega
    clear h9 h10 h13
    go_wp2_with(first|(at_builtin;refine Lib.wpList_append_own_string _ rfl (.tmp 43) (.const (.string {data:=#[92,116]})) 55 9 rfl w.heap.size 5 i0 Tryz.underlying55 Tryz.underlying9 hi0 hz0 hz1 hz2 _ _ _ rfl HL.out.2.out {data:=#[92,116]} rfl (by unfold maxLen;have hs2:({data:=#[92,116]}:ByteArray).size=2:=rfl;omega) (by have hs2:({data:=#[92,116]}:ByteArray).size=2:=rfl;omega) hsz ?_;intro v2 w2 hown2 hgr2 hnil2))
    have HL2:Hid (Lq w v2 (qp S (k+1)) w2):=by rw[HQ.out,HS.out];exact HL.out.appS (m:=[92,116]) rfl (by simp) hown2 hgr2
    clear hown2 hgr2 hnil2 HL
    go_wp2_with fail
    go_roundw
    case rel=>exact⟨k+1,by rw[HN.out],by omega,HL2⟩
    case measure=>simp[intOf];omega
   have a10:((b:Int) == 10)=false:=by simp;omega
   have a13:((b:Int) == 13)=false:=by simp;omega
   have a9:((b:Int) == 9)=false:=by simp;omega
   have H3:Hid (b≠10/\b≠13/\b≠9):=⟨h10,h13,h9⟩;clear h10 h13 h9;by_cases hm:b=39∨b=92
   ·have HS:Hid (lq b=[92,b]):=by
     show lq b=[92,b];rw[lq,if_neg H3.out.1,if_neg H3.out.2.1,if_neg H3.out.2.2,if_pos hm]
    rcases hm with h39|h92
    ·have a39:((b:Int) == 39)=true:=by simp;omega
     clear h39
     go_wp2_with(first|(at_builtin;refine wpList_append_own _ rfl (.tmp 52) (.tmp 54) 55 rfl w.heap.size 5 i0 (.int .u8 0) 1 1 Tryz.underlying55 hi0 hz0 hz1 hz2 rfl (by decide) _ _ _ rfl (HL.out.2.out.alloc _) ⟨wr.heap.size,0,none⟩ 2 2 [.int .u8 92,.int .u8 b] rfl rfl (Gy _ _ _ _) (Xj [92,(b:Int)]) (by unfold maxLen;omega) (by omega) (by simp;omega) ?_;intro v2 w2 hown2 hgr2 hnil2))
     have HL2:Hid (Lq w v2 (qp S (k+1)) w2):=by rw[HQ.out,HS.out];exact HL.out.app (m:=[92,b]) rfl rfl hown2 hgr2
     clear hown2 hgr2 hnil2 HL
     go_wp2_with fail
     go_roundw
     case rel=>exact⟨k+1,by rw[HN.out],by omega,HL2⟩
     case measure=>simp[intOf];omega
    ·have a39:((b:Int) == 39)=false:=by simp;omega
     have a92:((b:Int) == 92)=true:=by simp;omega
     clear h92
     go_wp2_with(first|(at_builtin;refine wpList_append_own _ rfl (.tmp 52) (.tmp 54) 55 rfl w.heap.size 5 i0 (.int .u8 0) 1 1 Tryz.underlying55 hi0 hz0 hz1 hz2 rfl (by decide) _ _ _ rfl (HL.out.2.out.alloc _) ⟨wr.heap.size,0,none⟩ 2 2 [.int .u8 92,.int .u8 b] rfl rfl (Gy _ _ _ _) (Xj [92,(b:Int)]) (by unfold maxLen;omega) (by omega) (by simp;omega) ?_;intro v2 w2 hown2 hgr2 hnil2))
     have HL2:Hid (Lq w v2 (qp S (k+1)) w2):=by rw[HQ.out,HS.out];exact HL.out.app (m:=[92,b]) rfl rfl hown2 hgr2
     clear hown2 hgr2 hnil2 HL
     go_wp2_with fail
     go_roundw
     case rel=>exact⟨k+1,by rw[HN.out],by omega,HL2⟩
     case measure=>simp[intOf];omega
   have a39:((b:Int) == 39)=false:=by simp;omega
   have a92:((b:Int) == 92)=false:=by simp;omega
   cases hp:plB b with
   |true=>
    have HS:Hid (lq b=[b]):=by
     show lq b=[b];rw[lq,if_neg H3.out.1,if_neg H3.out.2.1,if_neg H3.out.2.2,if_neg hm,hp,if_pos rfl]
    have hp2:32<=b/\b<=126:=by unfold plB at hp;simpa using hp
    have p1:decide (32<=(b:Int))=true:=by simp;omega
    have p2:decide ((b:Int)<=126)=true:=by simp;omega
    clear hp hp2 hm
    go_wp2_with(first|(at_builtin;refine wpList_append_own _ rfl (.tmp 63) (.tmp 65) 55 rfl w.heap.size 5 i0 (.int .u8 0) 1 1 Tryz.underlying55 hi0 hz0 hz1 hz2 rfl (by decide) _ _ _ rfl (HL.out.2.out.alloc _) ⟨wr.heap.size,0,none⟩ 1 1 [.int .u8 b] rfl rfl (Yc _ _ _) (Xj [(b:Int)]) (by unfold maxLen;omega) (by omega) (by simp;omega) ?_;intro v2 w2 hown2 hgr2 hnil2))
    have HL2:Hid (Lq w v2 (qp S (k+1)) w2):=by rw[HQ.out,HS.out];exact HL.out.app (m:=[b]) rfl rfl hown2 hgr2
    clear hown2 hgr2 hnil2 HL
    go_wp2_with fail
    go_roundw
    case rel=>exact⟨k+1,by rw[HN.out],by omega,HL2⟩
    case measure=>simp[intOf];omega
   |false=>
    have HS:Hid (lq b=[92,120,Qd (b/16),Qd (b%16)]):=by
     show lq b=_;rw[lq,if_neg H3.out.1,if_neg H3.out.2.1,if_neg H3.out.2.2,if_neg hm,hp,if_neg (by simp)]
    have hp2:decide (32<=(b:Int))=false∨(decide (32<=(b:Int))=true/\decide ((b:Int)<=126)=false):=by
     unfold plB at hp;by_cases h1:32<=b
     ·right;simp[h1]at hp;exact⟨by simp;omega,by simp;omega⟩
     ·left;simp;omega
    have HD1:Hid (∀w:World,Calls prog 59 #[.int .i64 ((b:Int)/16)] w fun e w'=>e=.returned (.string (nb [Qd (b/16)]))/\w'=w):=fun w=>by have:=z3L (b/16) (by omega) w;simpa using this
    have HD2:Hid (∀w:World,Calls prog 59 #[.int .i64 ((b:Int)%16)] w fun e w'=>e=.returned (.string (nb [Qd (b%16)]))/\w'=w):=fun w=>by have:=z3L (b%16) (by omega) w;simpa using this
    have HLt:Hid (∀x∈lq b,x<256):=z1T b hx;rw[HS.out]at HLt;obtain⟨D1,hD1⟩:∃D,D=nb [Qd (b/16)]:=⟨_,rfl⟩;obtain⟨D2,hD2⟩:∃D,D=nb [Qd (b%16)]:=⟨_,rfl⟩;have hs1:D1.size=1:=by rw[hD1];rfl
    have hs2:D2.size=1:=by rw[hD2];rfl
    have HDD:Hid ({data:=#[92,120]}++D1++D2=nb [92,120,Qd (b/16),Qd (b%16)]):=by show _=_;rw[hD1,hD2];apply ByteArray.ext;simp[nb,ByteArray.data_append]
    rw[<-hD1]at HD1;rw[<-hD2]at HD2;have hs3:({data:=#[92,120]}++D1++D2:ByteArray).size=4:=by rw[ByteArray.size_append,ByteArray.size_append,hs1,hs2];rfl
    clear hp hm hD1 hD2;rcases hp2 with p1|⟨p1,p2⟩
    ·go_wp2_with fail
     refine(HD1.out _).mono ?_;rintro e w1 ⟨rfl,hw1⟩;rw[hw1];clear hw1
     go_wp2_with fail
     refine(HD2.out _).mono ?_;rintro e w1 ⟨rfl,hw1⟩;rw[hw1];clear hw1
     go_wp2_with(first|(at_builtin;refine Lib.wpList_append_own_string _ rfl (.tmp 18) (.tmp 28) 55 9 rfl w.heap.size 5 i0 Tryz.underlying55 Tryz.underlying9 hi0 hz0 hz1 hz2 _ _ _ rfl HL.out.2.out ({data:=#[92,120]}++D1++D2) rfl (by unfold maxLen;have:=hs3;omega) (by have:=hs3;omega) hsz ?_;intro v2 w2 hown2 hgr2 hnil2))
     have HL2:Hid (Lq w v2 (qp S (k+1)) w2):=by rw[HQ.out,HS.out];exact HL.out.appS (m:=[92,120,Qd (b/16),Qd (b%16)]) HDD.out HLt.out hown2 hgr2
     clear hown2 hgr2 hnil2 HL
     go_wp2_with fail
     go_roundw
     case rel=>exact⟨k+1,by rw[HN.out],by omega,HL2⟩
     case measure=>simp[intOf];omega
    ·go_wp2_with fail
     refine(HD1.out _).mono ?_;rintro e w1 ⟨rfl,hw1⟩;rw[hw1];clear hw1
     go_wp2_with fail
     refine(HD2.out _).mono ?_;rintro e w1 ⟨rfl,hw1⟩;rw[hw1];clear hw1
     go_wp2_with(first|(at_builtin;refine Lib.wpList_append_own_string _ rfl (.tmp 18) (.tmp 28) 55 9 rfl w.heap.size 5 i0 Tryz.underlying55 Tryz.underlying9 hi0 hz0 hz1 hz2 _ _ _ rfl HL.out.2.out ({data:=#[92,120]}++D1++D2) rfl (by unfold maxLen;have:=hs3;omega) (by have:=hs3;omega) hsz ?_;intro v2 w2 hown2 hgr2 hnil2))
     have HL2:Hid (Lq w v2 (qp S (k+1)) w2):=by rw[HQ.out,HS.out];exact HL.out.appS (m:=[92,120,Qd (b/16),Qd (b%16)]) HDD.out HLt.out hown2 hgr2
     clear hown2 hgr2 hnil2 HL
     go_wp2_with fail
     go_roundw
     case rel=>exact⟨k+1,by rw[HN.out],by omega,HL2⟩
     case measure=>simp[intOf];omega
theorem Xd(b:Nat)(v:Bool)(hv:Qp b=v)(w:World)(hb:b<256):
  Calls prog 88 #[.int .i64 b] w fun e w'=>e=.returned (.bool v)/\w'=w:=by
 subst hv;have h:∀n:Nat,((b:Int) == (n:Int))=(b == n):=fun n=>z0I b n
 have h1:((b:Int) == 91)=(b == 91):=h 91;have h2:((b:Int) == 93)=(b == 93):=h 93;have h3:((b:Int) == 92)=(b == 92):=h 92;have h4:((b:Int) == 45)=(b == 45):=h 45;have h5:((b:Int) == 94)=(b == 94):=h 94;clear h;unfold Qp;cases k1:b == 91<;>rw[k1]at h1<;>cases k2:b == 93<;>rw[k2]at h2<;>cases k3:b == 92<;>rw[k3]at h3<;>cases k4:b == 45<;>rw[k4]at h4<;>cases k5:b == 94<;>rw[k5]at h5
 all_goals
  go_enter func88,ntmps88
  go_wp2_with fail
  go_ret;exact⟨rfl,rfl⟩
theorem Al(x:Nat)(hx:x<256)(w:World):
  Calls prog 132 #[.int .u8 x] w fun e w'=>e=.returned (.int .i64 (dgi x))/\w'=w:=by
 have hc:(48<=x/\x<=57)∨(97<=x/\x<=102)∨x<48∨(57<x/\x<97)∨102<x:=by omega
 rcases hc with h1|h1|h1|h1|h1
 ·have hd:dgi x=(x:Int)-48:=by rw[Uh (d:=x-48) (by unfold dgv;rw[if_pos h1])];omega
  rw[hd];have a1:decide (48<=(x:Int))=true:=by simp;omega
  have a2:decide ((x:Int)<=57)=true:=by simp;omega
  have a3:IntKind.u8.wrap ((x:Int)-48)=(x:Int)-48:=by rw[IntKind.wrap_u8];omega
  have a4:IntKind.i64.wrap ((x:Int)-48)=(x:Int)-48:=by rw[IntKind.wrap_i64];omega
  have b1:(48:Int)<=(x:Int):=by omega
  have b2:(x:Int)<=57:=by omega
  clear hd h1;go_enter func132,ntmps132
  go_wp2_with fail
  go_ret;exact⟨rfl,rfl⟩
 ·have hd:dgi x=(x:Int)-97+10:=by rw[Uh (d:=x-87) (by unfold dgv;rw[if_neg (by omega),if_pos h1])];omega
  rw[hd];have a1:decide (48<=(x:Int))=true:=by simp;omega
  have a2:decide ((x:Int)<=57)=false:=by simp;omega
  have a5:decide (97<=(x:Int))=true:=by simp;omega
  have a6:decide ((x:Int)<=102)=true:=by simp;omega
  have a3:IntKind.u8.wrap ((x:Int)-97)=(x:Int)-97:=by rw[IntKind.wrap_u8];omega
  have a4:IntKind.i64.wrap ((x:Int)-97)=(x:Int)-97:=by rw[IntKind.wrap_i64];omega
  have b1:(97:Int)<=(x:Int):=by omega
  have b2:(x:Int)<=102:=by omega
  clear hd h1;go_enter func132,ntmps132
  go_wp2_with fail
  go_ret;exact⟨rfl,rfl⟩
 ·rw[Gv (by unfold dgv;rw[if_neg (by omega),if_neg (by omega)])]
  have a1:decide (48<=(x:Int))=false:=by simp;omega
  have a2:decide (97<=(x:Int))=false:=by simp;omega
  clear h1;go_enter func132,ntmps132
  go_wp2_with fail
  go_ret;exact⟨rfl,rfl⟩
 ·rw[Gv (by unfold dgv;rw[if_neg (by omega),if_neg (by omega)])]
  have a1:decide (48<=(x:Int))=true:=by simp;omega
  have a3:decide ((x:Int)<=57)=false:=by simp;omega
  have a2:decide (97<=(x:Int))=false:=by simp;omega
  clear h1;go_enter func132,ntmps132
  go_wp2_with fail
  go_ret;exact⟨rfl,rfl⟩
 ·rw[Gv (by unfold dgv;rw[if_neg (by omega),if_neg (by omega)])]
  have a1:decide (48<=(x:Int))=true:=by simp;omega
  have a3:decide ((x:Int)<=57)=false:=by simp;omega
  have a2:decide (97<=(x:Int))=true:=by simp;omega
  have a4:decide ((x:Int)<=102)=false:=by simp;omega
  clear h1;go_enter func132,ntmps132
  go_wp2_with fail
  go_ret;exact⟨rfl,rfl⟩
def r3(r:Rs):Value:=
 match r with
 | .inr (b,n)=>.tuple #[.int .i64 b,.int .i64 n,.int .i64 0]
 | .inl c=>.tuple #[.int .i64 0,.int .i64 (c.2:Int),.int .i64 (c.1:Int)]
theorem Gc{k:Nat}(h:S.size<=k):flt S k=(3,S.size):=by unfold flt;rw[if_pos h]
theorem Gl{k:Nat}(h:k<S.size):flt S k=(4,k):=by unfold flt;rw[if_neg (by omega)]
theorem z9q(S:ByteArray)(k:Nat)(w:World)(h:¬bt S k=some 92)(hS:S.size<=9007199254740992):
  Calls prog 108 #[.string S,.int .i64 k] w fun e w'=>e=.returned (r3 (sg S k))/\w'=w:=by
 unfold sg;cases hx0:bt S k with
 |none=>
  have hge:=Qm hx0;have a0:decide ((S.size:Int)<=(k:Int))=true:=by simp;omega
  simp only;rw[Gc hge];clear h hx0;go_enter func108,ntmps108
  go_wp2_with fail
  go_ret3
  exact⟨rfl,rfl⟩
 |some x=>
  have hxl:=(Qx hx0).2;obtain⟨hk,hx⟩:=Qj hx0;have hkI:(k:Int)<(S.size:Int):=by omega
  have a0:decide ((S.size:Int)<=(k:Int))=false:=by simp;omega
  have h92:x≠92:=fun e=>h (by rw[hx0,e])
  have n92:((x:Int) != 92)=true:=by rw[bne_iff_ne];omega
  have m92:((x:Int) == 92)=false:=by rw[beq_eq_false_iff_ne];omega
  have hwx:IntKind.i64.wrap (x:Int)=(x:Int):=by rw[IntKind.wrap_i64];omega
  simp only;rw[if_neg h92,Gl hk];cases hm:Qp x with
  |true=>
   have HM:Hid (∀w:World,Calls prog 88 #[.int .i64 x] w fun e w'=>e=.returned (.bool true)/\w'=w):=fun w=>Xd x true hm w hxl
   rw[if_neg (by unfold Fk;rw[hm];simp)];clear h hx0 h92 hm;go_enter func108,ntmps108
   go_wp2_with fail
   refine(HM.out _).mono ?_;rintro e w1 ⟨rfl,rfl⟩
   go_wp2_with fail
   go_ret3
   exact⟨rfl,rfl⟩
  |false=>
   have HM:Hid (∀w:World,Calls prog 88 #[.int .i64 x] w fun e w'=>e=.returned (.bool false)/\w'=w):=fun w=>Xd x false hm w hxl
   by_cases h1:x<32
   ·rw[if_neg (by unfold Fk;rw[hm];simp;omega)]
    have d1:decide ((x:Int)<32)=true:=by simp;omega
    clear h hx0 h92 hm;go_enter func108,ntmps108
    go_wp2_with fail
    refine(HM.out _).mono ?_;rintro e w1 ⟨rfl,rfl⟩
    go_wp2_with fail
    go_ret3
    exact⟨rfl,rfl⟩
   ·have d1:decide ((x:Int)<32)=false:=by simp;omega
    by_cases h2:126<x
    ·rw[if_neg (by unfold Fk;rw[hm];simp;omega)]
     have d2:decide (126<(x:Int))=true:=by simp;omega
     clear h hx0 h92 hm;go_enter func108,ntmps108
     go_wp2_with fail
     refine(HM.out _).mono ?_;rintro e w1 ⟨rfl,rfl⟩
     go_wp2_with fail
     go_ret3
     exact⟨rfl,rfl⟩
    ·rw[if_pos (by unfold Fk;rw[hm];simp;omega)]
     have d2:decide (126<(x:Int))=false:=by simp;omega
     have hn:((k+1:Nat):Int)=(k:Int)+1:=by omega
     unfold r3;simp only;rw[hn];clear h hx0 h92 hm hn;go_enter func108,ntmps108
     go_wp2_with fail
     refine(HM.out _).mono ?_;rintro e w1 ⟨rfl,rfl⟩
     go_wp2_with fail
     go_ret3
     exact⟨rfl,rfl⟩
end Go.Proofs.YtikfnaffiehpaaaGreatDoor
