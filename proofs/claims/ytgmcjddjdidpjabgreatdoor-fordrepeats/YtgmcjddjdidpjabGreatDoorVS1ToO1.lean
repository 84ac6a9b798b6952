/- Lemmas for the last text. Conditions: those that each names. -/
import Derived.Test.YtgmcjddjdidpjabGreatDoorVR8ToR9
import Derived.Test.YtgmcjddjdidpjabGreatDoorVKPlainToKG2
import Derived.Test.YtgmcjddjdidpjabGreatDoorVX5ToX8
set_option linter.unusedVariables false
set_option maxRecDepth 100000
set_option maxHeartbeats 8000000
namespace Go.Proofs.YtgmcjddjdidpjabGreatDoor
open Go.Proofs.Tryz
open Go.RowKit Go.Shelf
abbrev Rr:=ByteArray×RT×Int
def Rk(w:World)(B g o:Nat)(x:Rr):Prop:=∃k T a b c d so n cap p,Qk w B x.2.1 (r8 k T a b c d so n cap p)/\w.cell? ⟨g,o,none⟩=some (.string x.1)/\w.cell? ⟨g,o+1,none⟩=some (.int .i64 k)/\w.cell? ⟨g,o+2,none⟩=some (.string T)/\w.cell? ⟨g,o+3,none⟩=some (.int .u64 a)/\w.cell? ⟨g,o+4,none⟩=some (.int .u64 b)/\w.cell? ⟨g,o+5,none⟩=some (.int .u64 c)/\w.cell? ⟨g,o+6,none⟩=some (.int .u64 d)/\w.cell? ⟨g,o+7,none⟩=some (.slice so n cap)/\w.cell? ⟨g,o+8,none⟩=some (.int .i64 p)/\w.cell? ⟨g,o+9,none⟩=some (.int .i64 x.2.2)
def Qy(w:World)(B:Nat)(so:Option Addr)(n:Nat)(rs:List Rr):Prop:=n=rs.length/\n<=maxLen/\∀j (hj:j<rs.length),∃g o,so=some ⟨g,o,none⟩/\g<B/\Rk w B g (o+j*10) rs[j]
theorem Rk.below{w w':World}{B g o:Nat}{x:Rr}(h:Rk w B g o x)(hb:Below B w w')(hg:g<B):Rk w' B g o x:=by
 obtain⟨k,T,a,b,c,d,so,n,cap,p,h1,z0,z1,z2,z3,z4,z5,z6,z7,z8,z9⟩:=h;have e:∀j,w'.cell? ⟨g,j,none⟩=w.cell? ⟨g,j,none⟩:=fun j=>hb.cell (p:=⟨g,j,none⟩) hg
 exact⟨k,T,a,b,c,d,so,n,cap,p,h1.below hb,(e _).trans z0,(e _).trans z1,(e _).trans z2,(e _).trans z3,(e _).trans z4,(e _).trans z5,(e _).trans z6,(e _).trans z7,(e _).trans z8,(e _).trans z9⟩
theorem Qy.below{w w':World}{B n:Nat}{so:Option Addr}{rs:List Rr}(h:Qy w B so n rs)(hb:Below B w w'):Qy w' B so n rs:=
 ⟨h.1,h.2.1,fun j hj=>by
   obtain⟨g,o,h1,h2,h3⟩:=h.2.2 j hj;exact⟨g,o,h1,h2,h3.below hb h2⟩⟩
def RgZ(rs:List Rr):Prop:=∀x∈rs,x.1.size<=9223372036854775807/\RtZ x.2.1
def okR(x:Rr):Bool:=nmS x.1&&okT x.2.1
def okG(rs:List Rr):Bool:=decide (1<=rs.length)&&(decide (rs.length<=64)&&rs.all okR)
theorem z2O{rs:List Rr}(j:Nat)(hj:j<rs.length)(h:okR rs[j]=false):rs.all okR=false:=by
 rw[List.all_eq_false];exact⟨_,List.getElem_mem hj,by rw[h];simp⟩
theorem z9V{rs:List Rr}(h:∀j (hj:j<rs.length),okR rs[j]=true):rs.all okR=true:=by
 rw[List.all_eq_true];intro x hx;obtain⟨j,hj,rfl⟩:=List.mem_iff_getElem.1 hx;exact h j hj
theorem z2P(so:Option Addr)(n cap:Nat)(rs:List Rr)(B:Nat)(w:World)(hz:RgZ rs)(h:Qy w B so n rs)(hB:B<=w.heap.size):
  Calls prog 170 #[.agg #[.slice so n cap]] w fun e w'=>e=.returned (.bool (okG rs))/\Below w.heap.size w w':=by
 obtain⟨R,hR⟩:∃R,R=okG rs:=⟨_,rfl⟩;have HR:=hid hR;rw[<-hR];clear hR;have HN:Hid (n=rs.length):=h.1;have hm:n<=9223372036854775807:=by have:=h.2.1;unfold maxLen at this;omega
 have HG:=hid h;have HZ:=hid hz;clear h hz;by_cases h0:n=0
 ·have q0:((n:Int) == 0)=true:=by simp;omega
  clear HG;go_enter func170,ntmps170
  go_wp2_with fail
  go_ret;refine⟨?_,B0q.alloc L0q _⟩;rw[HR.out];unfold okG;rw[decide_eq_false (by have:=HN.out;omega)];rfl
 have q0:((n:Int) == 0)=false:=by simp;omega
 by_cases h1:64<n
 ·have q1:(64:Int)<(n:Int):=by omega
  have q2:decide ((64:Int)<(n:Int))=true:=by simp;omega
  clear HG;go_enter func170,ntmps170
  go_wp2_with fail
  go_ret;refine⟨?_,B0q.alloc L0q _⟩;rw[HR.out];unfold okG;rw[decide_eq_false (p:=rs.length<=64) (by have:=HN.out;omega),Bool.false_and,Bool.and_false];rfl
 have q1:¬(64:Int)<(n:Int):=by omega
 have q2:decide ((64:Int)<(n:Int))=false:=by simp;omega
 have HR2:Hid (R=rs.all okR):=by
  refine HR.out.trans ?_;unfold okG;rw[decide_eq_true (by have:=HN.out;omega),decide_eq_true (p:=rs.length<=64) (by have:=HN.out;omega)];rfl
 clear HR;have HB0:Hid (Below w.heap.size w (w.alloc (.cells #[.slice so n cap] 24))):=(Below.refl _ w).alloc L0q _;go_enter func170,ntmps170
 go_wp2_with fail
 go_loopw [18] (fun i wr=>∃j:Nat,i=.int .i64 j/\j<=n/\Hid (Below w.heap.size w wr)/\Hid (∀i (hi:i<rs.length),i<j->okR rs[i]=true)) (fun i _=>n-(intOf i).toNat)
 case atStart=>exact⟨0,rfl,Nat.zero_le _,HB0,fun i _ h=>absurd h (by omega)⟩
 case round=>
  obtain⟨j,rfl,hj,HB,HO⟩:=hrel;clear HB0;by_cases hjn:j<n
  ·have hjI:(j:Int)<(n:Int):=by omega
   have a0:decide ((j:Int)<(n:Int))=true:=by simp;omega
   have hjs:j<rs.length:=by rw[<-HN.out];exact hjn
   have HGr:=hid (HG.out.below (HB.out.mono hB));obtain⟨g,o,rfl,hg,k1,T1,a1,b1,c1,d1,so1,n1,cap1,p1,rt,z0,z1,z2,z3,z4,z5,z6,z7,z8,z9⟩:=HGr.out.2.2 j hjs;obtain⟨zn,zt⟩:=HZ.out rs[j] (List.getElem_mem hjs);have HE:=hid (fun W (hb:Below wr.heap.size wr W)=>z9U rs[j].2.1 _ B W zt (rt.below (hb.mono (Nat.le_trans hB HB.out.size))) (Nat.le_trans (Nat.le_trans hB HB.out.size) hb.size));have HM:=hid (fun W=>z2I rs[j].1 W zn);obtain⟨Q,hQ⟩:∃Q,Q=okT rs[j].2.1:=⟨_,rfl⟩;obtain⟨M,hM⟩:∃M,M=nmS rs[j].1:=⟨_,rfl⟩;have HQ:Hid (okR rs[j]=(M&&Q)):=by show(nmS rs[j].1&&okT rs[j].2.1)=_;rw[hQ,hM]
   obtain⟨N0,hN0⟩:∃N0,N0=rs[j].1:=⟨_,rfl⟩;obtain⟨p0,hp0⟩:∃p0,p0=rs[j].2.2:=⟨_,rfl⟩;rw[<-hQ]at HE;rw[<-hM,<-hN0]at HM;rw[<-hN0]at z0;rw[<-hp0]at z9;have hgl:g<wr.heap.size:=Nat.lt_of_lt_of_le hg (Nat.le_trans hB HB.out.size);clear rt hQ hM hN0 hp0 HG HGr HZ zn zt;dsimp only[r8]at HE
   go_wp2_with(first|(go_at_call 176;refine(HM.out _).mono ?_;rintro e wz ⟨rfl,rfl⟩)|(go_at_call 177;refine(HE.out _ ?hh).mono ?_;(case hh=>exact B0q.alloc L0q _);rintro e wy ⟨rfl,hby⟩))
   ·rename_i hq
    have hb2:=HB.out.trans ((((Below.refl _ wr).alloc L0q _).trans (hby.mono (by simp))).mono HB.out.size);have hQ0:Q=false:=by simpa using hq
    go_ret;refine⟨?_,hb2⟩;rw[HR2.out,z2O j hjs (by rw[HQ.out,hQ0,Bool.and_false])];rfl
   ·rename_i hM1 hby2 hq
    have hb2:=HB.out.trans ((((Below.refl _ wr).alloc L0q _).trans (hby.mono (by simp))).mono HB.out.size);have hQ1:Q=true:=by simpa using hq
    refine⟨⟨j+1,by go_num,by omega,hb2,fun i hi hij=> ?_⟩,?_⟩
    ·rcases Nat.lt_or_ge i j with h1|h1
     ·exact HO.out i hi h1
     ·obtain rfl:i=j:=by omega
      rw[HQ.out,hQ1]
      first|rfl|(simp_all)
    ·simp[intOf];omega
   ·rename_i hq
    have hM0:M=false:=by simpa using hq
    go_ret;refine⟨?_,HB.out.trans (((Below.refl _ wr).alloc L0q _).mono HB.out.size)⟩;rw[HR2.out,z2O j hjs (by rw[HQ.out,hM0,Bool.false_and])];rfl
  ·have a0:decide ((j:Int)<(n:Int))=false:=by simp;omega
   clear HG HZ
   go_wp2_with fail
   go_ret;refine⟨?_,HB.out⟩;rw[HR2.out,z9V fun i hi=>HO.out i hi (by have:=HN.out;omega)];rfl
@[reducible] def Ot:=Bool×Bool×Bool
def suc(x:Ot):Bool:=x.1||x.2.1
def Ny(a n:Ot):Ot:=(a.1&&n.1,a.2.1&&suc n||a.1&&n.2.1,a.2.2||suc a&&n.2.2)
def Kq(a n:Ot):Ot:=(a.1||a.2.2&&n.1,a.2.1||a.2.2&&n.2.1,a.2.2&&n.2.2)
def Xd(k:Int)(x:Ot):Ot:=
 if k=8 then(x.1||x.2.2,x.2.1,false)else if k=9 then(x.2.2,x.2.1,false)else if k=10 then(x.1&&x.2.2,x.2.1,x.2.2)else if k=11 then(suc x,false,x.2.2)else if k=12 then(x.2.2,false,suc x)else(false,false,false)
mutual
def ofT(K:ByteArray->Ot):RT->Ot
 | .mk k T a b c d s p=>
   if k=1 then(true,false,false)else if k=2 then(if T.size=0 then(true,false,false)else(false,true,true))else if k=3 then(if a=0/\b=0/\c=0/\d=0 then(false,false,true)else(false,true,true))else if k=4 then(false,true,true)else if k=5 then K T else if k=6 then ofS K (true,false,false) s else if k=7 then ofA K (false,false,true) s else Xd k (ofH K s)
def ofS(K:ByteArray->Ot)(acc:Ot):List RT->Ot
 |[]=>acc
 |t::r=>ofS K (Ny acc (ofT K t)) r
def ofA(K:ByteArray->Ot)(acc:Ot):List RT->Ot
 |[]=>acc
 |t::r=>ofA K (Kq acc (ofT K t)) r
def ofH(K:ByteArray->Ot):List RT->Ot
 |[]=>(false,false,false)
 |t::r=>ofT K t
end
def leO(x y:Ot):Bool:=(!x.1||y.1)&&((!x.2.1||y.2.1)&&(!x.2.2||y.2.2))
theorem Jg(x:Ot):leO x x=true:=by obtain⟨a,b,c⟩:=x;revert a b c;decide
theorem Sh{x y z:Ot}:leO x y=true->leO y z=true->leO x z=true:=by
 obtain⟨a,b,c⟩:=x;obtain⟨d,e,f⟩:=y;obtain⟨g,h,i⟩:=z
 revert a b c d e f g h i
 decide
theorem z9W{x y a b:Ot}:leO x y=true->leO a b=true->leO (Ny x a) (Ny y b)=true:=by
 obtain⟨x1,x2,x3⟩:=x;obtain⟨y1,y2,y3⟩:=y;obtain⟨a1,a2,a3⟩:=a;obtain⟨b1,b2,b3⟩:=b
 revert x1 x2 x3 y1 y2 y3 a1 a2 a3 b1 b2 b3
 decide+kernel
theorem z9X{x y a b:Ot}:leO x y=true->leO a b=true->leO (Kq x a) (Kq y b)=true:=by
 obtain⟨x1,x2,x3⟩:=x;obtain⟨y1,y2,y3⟩:=y;obtain⟨a1,a2,a3⟩:=a;obtain⟨b1,b2,b3⟩:=b
 revert x1 x2 x3 y1 y2 y3 a1 a2 a3 b1 b2 b3
 decide+kernel
theorem z9Y(k:Int){x y:Ot}:leO x y=true->leO (Xd k x) (Xd k y)=true:=by
 obtain⟨x1,x2,x3⟩:=x;obtain⟨y1,y2,y3⟩:=y;unfold Xd;by_cases h8:k=8
 ·rw[if_pos h8,if_pos h8];revert x1 x2 x3 y1 y2 y3;decide
 rw[if_neg h8,if_neg h8];by_cases h9:k=9
 ·rw[if_pos h9,if_pos h9];revert x1 x2 x3 y1 y2 y3;decide
 rw[if_neg h9,if_neg h9];by_cases h10:k=10
 ·rw[if_pos h10,if_pos h10];revert x1 x2 x3 y1 y2 y3;decide
 rw[if_neg h10,if_neg h10];by_cases h11:k=11
 ·rw[if_pos h11,if_pos h11];revert x1 x2 x3 y1 y2 y3;decide
 rw[if_neg h11,if_neg h11];by_cases h12:k=12
 ·rw[if_pos h12,if_pos h12];revert x1 x2 x3 y1 y2 y3;decide
 rw[if_neg h12,if_neg h12];intro _;exact Jg _
mutual
theorem Ah{K K':ByteArray->Ot}(h:∀s,leO (K s) (K' s)=true):∀t:RT,leO (ofT K t) (ofT K' t)=true
 | .mk k T a b c d s p=>by
   rw[ofT,ofT];by_cases h1:k=1
   ·rw[if_pos h1,if_pos h1];exact Jg _
   rw[if_neg h1,if_neg h1];by_cases h2:k=2
   ·rw[if_pos h2,if_pos h2];exact Jg _
   rw[if_neg h2,if_neg h2];by_cases h3:k=3
   ·rw[if_pos h3,if_pos h3];exact Jg _
   rw[if_neg h3,if_neg h3];by_cases h4:k=4
   ·rw[if_pos h4,if_pos h4];exact Jg _
   rw[if_neg h4,if_neg h4];by_cases h5:k=5
   ·rw[if_pos h5,if_pos h5];exact h T
   rw[if_neg h5,if_neg h5];by_cases h6:k=6
   ·rw[if_pos h6,if_pos h6];exact z2Q h s _ _ (Jg _)
   rw[if_neg h6,if_neg h6];by_cases h7:k=7
   ·rw[if_pos h7,if_pos h7];exact z2R h s _ _ (Jg _)
   rw[if_neg h7,if_neg h7];exact z9Y k (z9Z h s)
theorem z2Q{K K':ByteArray->Ot}(h:∀s,leO (K s) (K' s)=true):∀(l:List RT) (x y:Ot),leO x y=true->leO (ofS K x l) (ofS K' y l)=true
 |[],x,y,hx=>by rw[ofS,ofS];exact hx
 |t::r,x,y,hx=>by rw[ofS,ofS];exact z2Q h r _ _ (z9W hx (Ah h t))
theorem z2R{K K':ByteArray->Ot}(h:∀s,leO (K s) (K' s)=true):∀(l:List RT) (x y:Ot),leO x y=true->leO (ofA K x l) (ofA K' y l)=true
 |[],x,y,hx=>by rw[ofA,ofA];exact hx
 |t::r,x,y,hx=>by rw[ofA,ofA];exact z2R h r _ _ (z9X hx (Ah h t))
theorem z9Z{K K':ByteArray->Ot}(h:∀s,leO (K s) (K' s)=true):∀(l:List RT),leO (ofH K l) (ofH K' l)=true
 |[]=>by rw[ofH,ofH];exact Jg _
 |t::r=>by rw[ofH,ofH];exact Ah h t
end
def Jh(K:ByteArray->Ot)(s:ByteArray)(x:Ot):ByteArray->Ot:=fun t=>if t=s then x else K t
def Ux(K:ByteArray->Ot)(x:Rr):ByteArray->Ot:=Jh K x.1 (ofT K x.2.1)
def swp(K:ByteArray->Ot):List Rr->(ByteArray->Ot)
 |[]=>K
 |x::r=>Ux (swp K r) x
def z0O:ByteArray->Ot:=fun _=>(false,false,false)
def itr(rs:List Rr):Nat->(ByteArray->Ot)
 |0=>z0O
 |n+1=>swp (itr rs n) rs
def Yw(K:ByteArray->Ot)(rs:List Rr):Prop:=∀x∈rs,ofT K x.2.1=K x.1
theorem z2S{K:ByteArray->Ot}{s:ByteArray}{x:Ot}(h:x=K s):Jh K s x=K:=by
 funext t;unfold Jh;by_cases e:t=s
 ·rw[if_pos e,h,e]
 ·rw[if_neg e]
theorem z2T{K:ByteArray->Ot}:∀{rs:List Rr},Yw K rs->swp K rs=K
 |[],_=>rfl
 |x::r,h=>by
  rw[swp,z2T (fun y hy=>h y (List.mem_cons_of_mem _ hy)),Ux];exact z2S (h x (List.mem_cons_self ..))
theorem Sd{rs:List Rr}{n:Nat}(h:Yw (itr rs n) rs):∀m,itr rs (n+m)=itr rs n
 |0=>rfl
 |m+1=>by rw[<-Nat.add_assoc,itr,Sd h m,z2T h]
theorem y0a{rs:List Rr}{n m:Nat}(h:Yw (itr rs n) rs)(k:Yw (itr rs m) rs):itr rs n=itr rs m:=by
 rcases Nat.le_total n m with e|e
 ·rw[<-Nat.add_sub_cancel' e,Sd h]
 ·rw[<-Nat.add_sub_cancel' e,Sd k]
def Nf(K:ByteArray->Ot)(rs:List Rr):Prop:=∀x∈rs,leO (K x.1) (ofT K x.2.1)=true
theorem z2U{K:ByteArray->Ot}{x:Rr}(h:leO (K x.1) (ofT K x.2.1)=true):∀s,leO (K s) (Ux K x s)=true:=fun s=>by
 unfold Ux Jh;by_cases e:s=x.1
 ·rw[if_pos e,e];exact h
 ·rw[if_neg e];exact Jg _
theorem y0b{K:ByteArray->Ot}{rs:List Rr}{x:Rr}(hu:∀y∈rs,y.1=x.1->y=x)(hx:x∈rs)(h:Nf K rs):Nf (Ux K x) rs:=fun y hy=>by
 have hle:=z2U (h x hx);by_cases e:y.1=x.1
 ·rw[hu y hy e]
  refine Sh ?_ (Ah hle x.2.1);unfold Ux Jh;rw[if_pos rfl];exact Jg _
 ·refine Sh ?_ (Sh (h y hy) (Ah hle y.2.1))
  unfold Ux Jh;rw[if_neg e];exact Jg _
def Ng(x:Ot):Nat:=x.1.toNat+(x.2.1.toNat+x.2.2.toNat)
theorem z2V(x:Ot):Ng x<=3:=by obtain⟨a,b,c⟩:=x;revert a b c;decide
theorem z2W{x y:Ot}:leO x y=true->Ng x<=Ng y:=by
 obtain⟨a,b,c⟩:=x;obtain⟨d,e,f⟩:=y
 revert a b c d e f
 decide
theorem y0c{x y:Ot}:leO x y=true->x≠y->Ng x<Ng y:=by
 obtain⟨a,b,c⟩:=x;obtain⟨d,e,f⟩:=y
 revert a b c d e f
 decide
def lck(K:ByteArray->Ot):List Rr->Nat
 |[]=>0
 |x::r=>(3-Ng (K x.1))+lck K r
theorem z2X{K K':ByteArray->Ot}(h:∀s,leO (K s) (K' s)=true):∀rs:List Rr,lck K' rs<=lck K rs
 |[]=>Nat.le_refl _
 |x::r=>by
  have h1:=z2X h r;have h2:=z2W (h x.1);rw[lck,lck];omega
theorem z2Y{K K':ByteArray->Ot}(h:∀s,leO (K s) (K' s)=true):∀{rs:List Rr} {x:Rr},x∈rs->K x.1≠K' x.1->lck K' rs<lck K rs
 |y::r,x,hx,hne=>by
  have h1:=z2X h r;have h2:=z2W (h y.1);have h4:=z2V (K y.1);have h5:=z2V (K' y.1);rw[lck,lck];rcases List.mem_cons.1 hx with rfl|hx
  ·have h3:=y0c (h x.1) hne
   omega
  ·have h3:=z2Y h hx hne
   omega
section
def cl4(a b c d:Int):Nat:=cls a.toNat b.toNat c.toNat d.toNat
section
variable (K:ByteArray->Ot)
end
end
section
inductive Jb where
 |one (t:RT)
 |row (s:List RT)
 |alt (s:List RT)
 |rep (t:RT)
def Nb(N T:ByteArray)(at':Nat):Bool:=Lib.hasPrefix (T.extract at' T.size).data.toList N.data.toList
def Jd(C:Nat)(T:ByteArray)(at':Nat):Bool:=match T.data[at']? with
 |some x=>C.testBit x.toNat
 |none=>false
def Xb(b:Bool)(e:Nat):Option Nat:=if b then some e else none
section
variable (B:ByteArray->Option RT) (T:ByteArray)
inductive Mt:Jb->Nat->Option Nat->Nat->Prop
 |emp {N a b c d s p i}:Mt (.one (.mk 1 N a b c d s p)) i (some i) 1
 |lit {N a b c d s p i}:Mt (.one (.mk 2 N a b c d s p)) i (Xb (Nb N T i) (i+N.size)) 1
 |set {N a b c d s p i}:Mt (.one (.mk 3 N a b c d s p)) i (Xb (Jd (cl4 a b c d) T i) (i+1)) 1
 |any {N a b c d s p i}:Mt (.one (.mk 4 N a b c d s p)) i (Xb (Jd Uy T i) (i+1)) 1
 |ref {N a b c d s p i t e n}:B N=some t->Mt (.one t) i e n->Mt (.one (.mk 5 N a b c d s p)) i e (n+1)
 |seq {N a b c d s p i e n}:Mt (.row s) i e n->Mt (.one (.mk 6 N a b c d s p)) i e (n+1)
 |cho {N a b c d s p i e n}:Mt (.alt s) i e n->Mt (.one (.mk 7 N a b c d s p)) i e (n+1)
 |opt {N a b c d t r p i e n}:Mt (.one t) i e n->Mt (.one (.mk 8 N a b c d (t::r) p)) i (some (e.getD i)) (n+1)
 |star {N a b c d t r p i e n}:Mt (.rep t) i e n->Mt (.one (.mk 9 N a b c d (t::r) p)) i e (n+1)
 |plus_no {N a b c d t r p i n}:Mt (.one t) i none n->Mt (.one (.mk 10 N a b c d (t::r) p)) i none (n+1)
 |plus_ok {N a b c d t r p i x e n m}:Mt (.one t) i (some x) n->Mt (.rep t) x e m->Mt (.one (.mk 10 N a b c d (t::r) p)) i e (n+m+1)
 |and {N a b c d t r p i e n}:Mt (.one t) i e n->Mt (.one (.mk 11 N a b c d (t::r) p)) i (Xb e.isSome i) (n+1)
 |not {N a b c d t r p i e n}:Mt (.one t) i e n->Mt (.one (.mk 12 N a b c d (t::r) p)) i (Xb e.isNone i) (n+1)
 |row_nil {i}:Mt (.row []) i (some i) 0
 |row_no {t r i n}:Mt (.one t) i none n->Mt (.row (t::r)) i none n
 |row_ok {t r i x e n m}:Mt (.one t) i (some x) n->Mt (.row r) x e m->Mt (.row (t::r)) i e (n+m)
 |alt_nil {i}:Mt (.alt []) i none 0
 |alt_ok {t r i x n}:Mt (.one t) i (some x) n->Mt (.alt (t::r)) i (some x) n
 |alt_no {t r i e n m}:Mt (.one t) i none n->Mt (.alt r) i e m->Mt (.alt (t::r)) i e (n+m)
 |rep_end {t i n}:Mt (.one t) i none n->Mt (.rep t) i (some i) n
 |rep_go {t i x e n m}:Mt (.one t) i (some x) n->Mt (.rep t) x e m->Mt (.rep t) i e (n+m)
end
variable {B:ByteArray->Option RT} {T:ByteArray}
theorem Zm{j:Jb}{i:Nat}{e:Option Nat}{n:Nat}(h:Mt B T j i e n):∀{e':Option Nat} {n':Nat},Mt B T j i e' n'->e=e'/\n=n':=by
 induction h with
 |emp|lit|set|any=>intro e' n' k;cases k;exact⟨rfl,rfl⟩
 |row_nil|alt_nil=>intro e' n' k;cases k;exact⟨rfl,rfl⟩
 |ref h1 h2 ih=>
  intro e' n' k;cases k with
  |ref k1 k2=>
   rw[h1]at k1;cases k1;obtain⟨rfl,rfl⟩:=ih k2;exact⟨rfl,rfl⟩
 |seq _ ih|cho _ ih|opt _ ih|star _ ih|and _ ih|not _ ih=>
  intro e' n' k;cases k;rename_i k;obtain⟨rfl,rfl⟩:=ih k;exact⟨rfl,rfl⟩
 |plus_no _ ih=>
  intro e' n' k;cases k with
  |plus_no k=>obtain⟨_,rfl⟩:=ih k;exact⟨rfl,rfl⟩
  |plus_ok k _=>cases(ih k).1
 |plus_ok _ _ ih1 ih2=>
  intro e' n' k;cases k with
  |plus_no k=>cases(ih1 k).1
  |plus_ok k1 k2=>
   obtain⟨h1,rfl⟩:=ih1 k1;cases h1;obtain⟨rfl,rfl⟩:=ih2 k2;exact⟨rfl,rfl⟩
 |row_no _ ih=>
  intro e' n' k;cases k with
  |row_no k=>obtain⟨_,rfl⟩:=ih k;exact⟨rfl,rfl⟩
  |row_ok k _=>cases(ih k).1
 |row_ok _ _ ih1 ih2=>
  intro e' n' k;cases k with
  |row_no k=>cases(ih1 k).1
  |row_ok k1 k2=>
   obtain⟨h1,rfl⟩:=ih1 k1;cases h1;obtain⟨rfl,rfl⟩:=ih2 k2;exact⟨rfl,rfl⟩
 |alt_ok _ ih=>
  intro e' n' k;cases k with
  |alt_ok k=>exact ih k
  |alt_no k _=>cases(ih k).1
 |alt_no _ _ ih1 ih2=>
  intro e' n' k;cases k with
  |alt_ok k=>cases(ih1 k).1
  |alt_no k1 k2=>
   obtain⟨_,rfl⟩:=ih1 k1;obtain⟨rfl,rfl⟩:=ih2 k2;exact⟨rfl,rfl⟩
 |rep_end _ ih=>
  intro e' n' k;cases k with
  |rep_end k=>obtain⟨_,rfl⟩:=ih k;exact⟨rfl,rfl⟩
  |rep_go k _=>cases(ih k).1
 |rep_go _ _ ih1 ih2=>
  intro e' n' k;cases k with
  |rep_end k=>cases(ih1 k).1
  |rep_go k1 k2=>
   obtain⟨h1,rfl⟩:=ih1 k1;cases h1;obtain⟨rfl,rfl⟩:=ih2 k2;exact⟨rfl,rfl⟩
theorem z2Z{t:RT}{i:Nat}{e:Option Nat}{n:Nat}(h:Mt B T (.one t) i e n):1<=n:=by
 cases h<;>omega
theorem y0d(T:ByteArray)(i:Nat):(T.extract i T.size).data.toList=T.data.toList.drop i:=by
 have h:(T.extract i T.size).data=T.data.extract i T.size:=by
  rw[ByteArray.data_extract]
 rw[h,Array.toList_extract];show List.extract T.data.toList i T.size=_;rw[List.extract_eq_take_drop];exact List.take_of_length_le (by rw[List.length_drop];exact Nat.le_refl _)
theorem z3a(N T:ByteArray)(i:Nat):Nb N T i=Lib.hasPrefix (T.data.toList.drop i) N.data.toList:=by
 unfold Nb;rw[y0d]
theorem z3b{N T:ByteArray}{i:Nat}(hi:i<=T.size)(h:Nb N T i=true):i+N.size<=T.size:=by
 rw[z3a]at h;have h1:=(List.isPrefixOf_iff_prefix.1 h).length_le;rw[List.length_drop]at h1;have e1:N.data.toList.length=N.size:=rfl;have e2:T.data.toList.length=T.size:=rfl;omega
theorem z3c{C:Nat}{T:ByteArray}{i:Nat}(h:Jd C T i=true):i<T.size:=by
 unfold Jd at h;rcases Nat.lt_or_ge i T.size with h1|h1
 ·exact h1
 ·rw[Array.getElem?_eq_none h1]at h
  cases h
theorem Sp{j:Jb}{i:Nat}{e:Option Nat}{n:Nat}(h:Mt B T j i e n):i<=T.size->∀x,e=some x->i<=x/\x<=T.size:=by
 induction h with
 |emp|row_nil=>intro hi x hx;cases hx;exact⟨Nat.le_refl _,hi⟩
 |lit=>
  intro hi x hx;unfold Xb at hx;split at hx
  ·rename_i h
   cases hx;exact⟨Nat.le_add_right _ _,z3b hi h⟩
  ·cases hx
 |set|any=>
  intro hi x hx;unfold Xb at hx;split at hx
  ·rename_i h
   cases hx;exact⟨Nat.le_add_right _ _,z3c h⟩
  ·cases hx
 |ref _ _ ih=>exact ih
 |seq _ ih|cho _ ih|star _ ih=>exact ih
 |alt_ok _ ih=>exact ih
 |opt _ ih=>
  intro hi x hx;cases hx;rename_i e _ _;cases e with
  |none=>exact⟨Nat.le_refl _,hi⟩
  |some y=>exact ih hi y rfl
 |plus_no|row_no|alt_nil=>intro hi x hx;cases hx
 |plus_ok _ _ ih1 ih2|row_ok _ _ ih1 ih2|rep_go _ _ ih1 ih2=>
  intro hi x hx;obtain⟨h1,h2⟩:=ih1 hi _ rfl;obtain⟨h3,h4⟩:=ih2 h2 x hx;exact⟨Nat.le_trans h1 h3,h4⟩
 |and _ ih|not _ ih=>
  intro hi x hx;unfold Xb at hx;split at hx
  ·cases hx;exact⟨Nat.le_refl _,hi⟩
  ·cases hx
 |alt_no _ _ _ ih=>exact ih
 |rep_end _ ih=>intro hi x hx;cases hx;exact⟨Nat.le_refl _,hi⟩
end
theorem Ql{w:World}{g:Nat}{cur:Array Value}{t:TypeId}(h:w.heap[g]? =some (.cells cur t))(j:Nat)(v:Value)(hj:cur[j]? =some v):w.cell? ⟨g,j,none⟩=some v/\w.frozen? ⟨g,j,none⟩=false:=by
 constructor
 ·simp[World.cell?,h,hj]
 ·simp[World.frozen?,h]
theorem Zz{w:World}{g:Nat}{cur:Array Value}{t:TypeId}(h:w.heap[g]? =some (.cells cur t))(j:Nat)(v:Value):(w.setCell ⟨g,j,none⟩ v).heap[g]? =some (.cells (cur.setIfInBounds j v) t):=by
 obtain⟨hlt,hk⟩:=Array.getElem?_eq_some_iff.1 h;show(w.heap.modify g _)[g]? =_;rw[Array.getElem?_eq_getElem (by rw[Array.size_modify];exact hlt),Array.getElem_modify_self,hk];rfl
section
attribute [local go_sem] Oper.semAt_some
structure Nq where
 k:Int
 T:ByteArray
 a:Int
 b:Int
 c:Int
 d:Int
 so:Option Addr
 n:Nat
 cap:Nat
 p:Int
 z:T.size<=9223372036854775807
@[reducible] def Nq.v (x:Nq):Value:=.agg #[.int .i64 x.k,.string x.T,.int .u64 x.a,.int .u64 x.b,.int .u64 x.c,.int .u64 x.d,.slice x.so x.n x.cap,.int .i64 x.p]
def Nq.tp(x:Nq):ByteArray×Int:=(x.T,x.p)
def tps(q:List Nq):List (ByteArray×Int):=q.map Nq.tp
theorem Sc(a b:List Nq):tps (a++b)=tps a++tps b:=List.map_append
theorem y0e(a:List Nq):(tps a).length=a.length:=List.length_map _
mutual
def rfT:RT->List (ByteArray×Int)
 | .mk k T _ _ _ _ s p=>if k=5 then [(T,p)]else rfL s
def rfL:List RT->List (ByteArray×Int)
 |[]=>[]
 |t::r=>rfT t++rfL r
end
theorem Sl:∀(a b:List RT),rfL (a++b)=rfL a++rfL b
 |[],b=>by rw[List.nil_append,rfL,List.nil_append]
 |x::r,b=>by rw[List.cons_append,rfL,rfL,Sl r b,List.append_assoc]
theorem y0f(s:List RT)(j:Nat)(hj:j<s.length):rfL (s.take (j+1))=rfL (s.take j)++rfT s[j]:=by
 rw[show s.take (j+1)=s.take j++[s[j]] by simp,Sl,rfL,rfL,List.append_nil]
theorem y0g(s:List RT)(j:Nat):∃r,rfL s=rfL (s.take j)++r:=by
 refine⟨rfL (s.drop j),?_⟩;rw[<-Sl,List.take_append_drop]
structure Yr (s0 l N:Nat) (J Jx:List Nq->World->Prop):Prop where
 grow:∀s A B,J s A->A.grownBy B none->J s B
 call:∀m pre (x:Nq) W,J pre W->pre.length<N->YieldAt Fence.wide m prog l #[x.v] W fun e W'=>
  (e=.returned (.bool true)/\J (pre++[x]) W'/\Kt s0 W W')∨(e=.returned (.bool false)/\Jx (pre++[x]) W')
def Yq(s0:Nat)(J Jx:List Nq->World->Prop)(pre:List Nq)(ps:List (ByteArray×Int))(W:World)(e:Ending)(W':World):Prop:=
 (e=.returned (.bool true)/\(∃q,tps q=ps/\J (pre++q) W')/\Kt s0 W W')∨(e=.returned (.bool false)/\∃q,tps q<+:ps/\Jx (pre++q) W')
def YR(s0 l N:Nat)(J Jx:List Nq->World->Prop)(t:RT):Prop:=
 ∀(m:Nat) (cs:List Value) (pre:List Nq) (W:World),Qk W s0 t cs->RtZ t->J pre W->pre.length+(rfT t).length<=N->
  CallsIn Fence.wide m prog 168 #[.agg cs.toArray,.func (.yield l) #[] #[]] W (Yq s0 J Jx pre (rfT t) W)
section
variable {s0 l N:Nat} {J Jx:List Nq->World->Prop}
theorem Yr.alloc(h:Yr s0 l N J Jx){s:List Nq}{A:World}(hs:J s A)(o:Obj):J s (A.alloc o):=h.grow s A _ hs (World.grownBy_alloc A o none)
theorem y0h(hY:Yr s0 l N J Jx)(T:ByteArray)(a b c d p:Int)(s:List RT):YR s0 l N J Jx (.mk 5 T a b c d s p):=by
 intro m cs pre W ht hz hJ hl;rw[Qk]at ht;obtain⟨so,cap,rfl,-⟩:=ht;rw[RtZ]at hz;have hTz:=hz.1;rw[rfT,if_pos rfl]at hl ⊢;have hdd:=Xg;have HK1:=hid (fun o:Obj=>Kt.alloc (s0:=s0) W o);obtain⟨n,hn⟩:∃n,n=Qw s:=⟨_,rfl⟩;obtain⟨fn,tmps,assign,Qm,hy,hR⟩:=hY.call (m-1) pre ⟨5,T,a,b,c,d,so,n,cap,p,hTz⟩ (W.alloc (.cells #[.int .i64 5,.string T,.int .u64 a,.int .u64 b,.int .u64 c,.int .u64 d,.slice so n cap,.int .i64 p] 30)) (hY.alloc hJ _) (by simp at hl;omega);have HR:=hid hR;rw[<-hn];clear hR hY hJ hl hn;dsimp only[Nq.v]at hy;refine callsIn_of_wp func168 rfl trivial ?_ rfl;simp only[ntmps168,List.size_toArray,List.length_cons,List.length_nil,Nat.reduceAdd,Nat.reduceSub,Array.replicate_succ,Array.replicate_zero,List.push_toArray,List.append_toArray,List.nil_append,List.cons_append]
 gi_wp2
 refine⟨hdd _,HR.out.mono ?_⟩;clear HR hy;rintro e W2 (⟨rfl,hJ2,hk2⟩|⟨rfl,hx2⟩)
 ·gi_wp2
  go_ret;exact .inl ⟨rfl,⟨[⟨5,T,a,b,c,d,so,n,cap,p,hTz⟩],rfl,hJ2⟩,(HK1.out _).trans hk2⟩
 ·gi_wp2
  go_ret;exact .inr ⟨rfl,[⟨5,T,a,b,c,d,so,n,cap,p,hTz⟩],List.prefix_refl _,hx2⟩
theorem y0i(hY:Yr s0 l N J Jx)(k:Int)(hk:k≠5)(T:ByteArray)(a b c d p:Int)(s:List RT)(hN:∀t∈s,YR s0 l N J Jx t):YR s0 l N J Jx (.mk k T a b c d s p):=by
 intro m cs pre W ht hz hJ hl;rw[Qk]at ht;obtain⟨so,cap,rfl,hso⟩:=ht;rw[RtZ]at hz;have HZs:=hid hz.2;clear hz;rw[rfT,if_neg hk]at hl ⊢;have hdd:=Xg;have hk2:(k == 5)=false:=by simp[hk]
 have hk3:decide (k=5)=false:=by simp[hk]
 obtain⟨n,hn⟩:∃n,n=s.length:=⟨_,rfl⟩;have HC:Hid (∀j (hj:j<s.length),∃g o,so=some ⟨g,o,none⟩/\g<s0/\Qc W s0 g o s):=fun j hj=>by
  rcases hso with h1|⟨_,g,o,h2,h3,_,h5⟩
  ·cases s
   ·simp at hj
   ·simp at h1
  ·exact⟨g,o,h2,h3,h5⟩
 have hn6:n<=9223372036854775807:=by
  rcases hso with h1|⟨_,g,o,_,_,h4,_⟩
  ·cases s
   ·simp at hn;omega
   ·simp at h1
  ·rw[Xk]at h4
   unfold maxLen at h4;omega
 rw[Xk,<-hn];obtain⟨W1,hW1⟩:∃W1,W1=W.alloc (.cells #[.int .i64 k,.string T,.int .u64 a,.int .u64 b,.int .u64 c,.int .u64 d,.slice so n cap,.int .i64 p] 30):=⟨_,rfl⟩;have HK1:Hid (Kt s0 W W1):=by rw[hW1];exact Kt.alloc W _
 have HB1:Hid (W1.heap[W.heap.size]? =some (.cells #[.int .i64 k,.string T,.int .u64 a,.int .u64 b,.int .u64 c,.int .u64 d,.slice so n cap,.int .i64 p] 30)):=by rw[hW1];exact Qx W _ rfl
 have HJ1:Hid (J pre W1):=by rw[hW1];exact hY.alloc hJ _
 have HY:Hid (Yr s0 l N J Jx):=hY;have HN:=hid hN;have HNl:Hid (n=s.length):=hn;have HL:=hid hl;have HW1:=hid hW1;clear hJ hY hN hl hn hW1 hso;refine callsIn_of_wp func168 rfl trivial ?_ rfl;simp only[ntmps168,List.size_toArray,List.length_cons,List.length_nil,Nat.reduceAdd,Nat.reduceSub,Array.replicate_succ,Array.replicate_zero,List.push_toArray,List.append_toArray,List.nil_append,List.cons_append]
 gi_wp2
 rw[<-HW1.out];clear HW1
 gi_loopw [16] (fun i wr=>∃j:Nat,i=.int .i64 j/\j<=n/\Hid (∃q,tps q=rfL (s.take j)/\J (pre++q) wr)/\Hid (Kt s0 W1 wr)) (fun i _=>n-(intOf i).toNat)
 case atStart=>exact⟨0,rfl,Nat.zero_le _,⟨[],by rw[List.take_zero,rfL];rfl,by rw[List.append_nil];exact HJ1.out⟩,hid (Kt.refl _)⟩
 case round=>
  obtain⟨j,rfl,hj,HJr,HKr⟩:=hrel;by_cases hjn:j<n
  ·have hjI:(j:Int)<(n:Int):=by omega
   have a0:decide ((j:Int)<(n:Int))=true:=by simp;omega
   have hjs:j<s.length:=by rw[<-HNl.out];exact hjn
   obtain⟨⟨c0,c1,c2,c3,c4,c5,c6,c7⟩,_⟩:=Qv (HKr.out.eight HB1.out);have hKw:Kt s0 W wr:=HK1.out.trans HKr.out;obtain⟨g,o,rfl,hg,hrt⟩:=HC.out j hjs;obtain⟨k1,T1,a1,b1,c1',d1,so1,n1,cap1,p1,rt1,z0,z1,z2,z3,z4,z5,z6,z7⟩:=Ab (Qc.kept (fun q c u hq hu=>hKw.cell hq hu) hg s o hrt) j hjs;have hgl:g<wr.heap.size:=World.block_lt_of_cell? wr _ z0;obtain⟨q,hq,hJq⟩:=HJr.out;obtain⟨rr,hrr⟩:=y0g s (j+1);have hnx:=y0f s j hjs;have hlj:(pre++q).length+(rfT s[j]).length<=N:=by
    have h1:=HL.out;rw[hrr,hnx]at h1;have h2:=congrArg List.length hq;rw[y0e]at h2;simp only[List.length_append]at h1 ⊢;omega
   have K2:=hid (Kt.alloc (s0:=s0) wr (.cells #[.int .i64 k1,.string T1,.int .u64 a1,.int .u64 b1,.int .u64 c1',.int .u64 d1,.slice so1 n1 cap1,.int .i64 p1] 30));have HS:=hid (HN.out s[j] (List.getElem_mem hjs) (m-1) _ (pre++q) (wr.alloc (.cells #[.int .i64 k1,.string T1,.int .u64 a1,.int .u64 b1,.int .u64 c1',.int .u64 d1,.slice so1 n1 cap1,.int .i64 p1] 30)) (Qk.kept (fun g o u hg hu=>K2.out.cell hg hu) _ _ rt1) (HZs.out.get j hjs) (HY.out.alloc hJq _) hlj);have HQ:Hid (tps q=rfL (s.take j)):=hq;have HNX:=hid hnx;have HRR:=hid hrr;clear hJq hq hlj rt1 hrt hrr hnx HJr;dsimp only[r8]at HS
   gi_wp2
   refine⟨trivial,hdd _,HS.out.mono ?_⟩;clear HS z0 z1 z2 z3 z4 z5 z6 z7;rintro e W4 (⟨rfl,⟨q2,hq2,hJ2⟩,hk4⟩|⟨rfl,q2,hq2,hx4⟩)
   ·gi_wp2
    go_roundw
    case rel=>exact⟨j+1,by go_num,by omega,hid ⟨q++q2,by rw[Sc,HQ.out,hq2,HNX.out],by rw[<-List.append_assoc];exact hJ2⟩,hid ((HKr.out.trans K2.out).trans hk4)⟩
    case measure=>simp[intOf];omega
   ·gi_wp2
    go_ret;refine .inr ⟨rfl,q++q2,?_,by rw[<-List.append_assoc];exact hx4⟩;obtain⟨r,hr⟩:=hq2;refine⟨r++rr,?_⟩;rw[HRR.out,HNX.out,<-hr,Sc,HQ.out];simp
  ·have a0:decide ((j:Int)<(n:Int))=false:=by simp;omega
   have hjn':s.take j=s:=List.take_of_length_le (by rw[<-HNl.out];omega);rw[hjn']at HJr;clear hjn'
   gi_wp2
   go_ret;obtain⟨q,hq,hJq⟩:=HJr.out;exact .inl ⟨rfl,⟨q,hq,hJq⟩,HK1.out.trans HKr.out⟩
theorem z3d(hY:Yr s0 l N J Jx):∀(Q:Nat) (t:RT),SizeOf.sizeOf t<Q->YR s0 l N J Jx t
 |0,t,h=>by omega
 |Q+1,.mk k T a b c d s p,h=>by
  by_cases hk:k=5
  ·subst hk
   exact y0h hY T a b c d p s
  ·refine y0i hY k hk T a b c d p s fun t ht=>z3d hY Q t ?_
   have h1:=List.sizeOf_lt_of_mem ht;simp only[RT.mk.sizeOf_spec]at h;omega
end
end
end Go.Proofs.YtgmcjddjdidpjabGreatDoor
