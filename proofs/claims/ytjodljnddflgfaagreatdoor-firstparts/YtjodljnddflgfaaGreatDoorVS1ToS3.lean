/- Lemmas for the last text. Conditions: those that each names. -/
import Derived.Test.YtjodljnddflgfaaGreatDoorVR8ToR9
import Derived.Test.YtjodljnddflgfaaGreatDoorVKPlainToKG2
set_option linter.unusedVariables false
set_option maxRecDepth 100000
set_option maxHeartbeats 8000000
namespace Go.Proofs.YtjodljnddflgfaaGreatDoor
open Go.Proofs.Tryz
open Go.RowKit Go.Shelf
abbrev Rr:=ByteArray×RT×Int
def Rk(w:World)(B g o:Nat)(x:Rr):Prop:=∃k T a b c d so n cap p,Qk w B x.2.1 (r8 k T a b c d so n cap p)/\w.cell? ⟨g,o,none⟩=some (.string x.1)/\w.cell? ⟨g,o+1,none⟩=some (.int .i64 k)/\w.cell? ⟨g,o+2,none⟩=some (.string T)/\w.cell? ⟨g,o+3,none⟩=some (.int .u64 a)/\w.cell? ⟨g,o+4,none⟩=some (.int .u64 b)/\w.cell? ⟨g,o+5,none⟩=some (.int .u64 c)/\w.cell? ⟨g,o+6,none⟩=some (.int .u64 d)/\w.cell? ⟨g,o+7,none⟩=some (.slice so n cap)/\w.cell? ⟨g,o+8,none⟩=some (.int .i64 p)/\w.cell? ⟨g,o+9,none⟩=some (.int .i64 x.2.2)
def Qh(w:World)(B:Nat)(so:Option Addr)(n:Nat)(rs:List Rr):Prop:=n=rs.length/\n<=maxLen/\∀j (hj:j<rs.length),∃g o,so=some ⟨g,o,none⟩/\g<B/\Rk w B g (o+j*10) rs[j]
theorem Rk.below{w w':World}{B g o:Nat}{x:Rr}(h:Rk w B g o x)(hb:Below B w w')(hg:g<B):Rk w' B g o x:=by
 obtain⟨k,T,a,b,c,d,so,n,cap,p,h1,z0,z1,z2,z3,z4,z5,z6,z7,z8,z9⟩:=h;have e:∀j,w'.cell? ⟨g,j,none⟩=w.cell? ⟨g,j,none⟩:=fun j=>hb.cell (p:=⟨g,j,none⟩) hg
 exact⟨k,T,a,b,c,d,so,n,cap,p,h1.below hb,(e _).trans z0,(e _).trans z1,(e _).trans z2,(e _).trans z3,(e _).trans z4,(e _).trans z5,(e _).trans z6,(e _).trans z7,(e _).trans z8,(e _).trans z9⟩
theorem Qh.below{w w':World}{B n:Nat}{so:Option Addr}{rs:List Rr}(h:Qh w B so n rs)(hb:Below B w w'):Qh w' B so n rs:=
 ⟨h.1,h.2.1,fun j hj=>by
   obtain⟨g,o,h1,h2,h3⟩:=h.2.2 j hj;exact⟨g,o,h1,h2,h3.below hb h2⟩⟩
def RgZ(rs:List Rr):Prop:=∀x∈rs,x.1.size<=9223372036854775807/\RtZ x.2.1
def okR(x:Rr):Bool:=nmS x.1&&okT x.2.1
def okG(rs:List Rr):Bool:=decide (1<=rs.length)&&(decide (rs.length<=64)&&rs.all okR)
theorem z2O{rs:List Rr}(j:Nat)(hj:j<rs.length)(h:okR rs[j]=false):rs.all okR=false:=by
 rw[List.all_eq_false];exact⟨_,List.getElem_mem hj,by rw[h];simp⟩
theorem z9E{rs:List Rr}(h:∀j (hj:j<rs.length),okR rs[j]=true):rs.all okR=true:=by
 rw[List.all_eq_true];intro x hx;obtain⟨j,hj,rfl⟩:=List.mem_iff_getElem.1 hx;exact h j hj
theorem z2P(so:Option Addr)(n cap:Nat)(rs:List Rr)(B:Nat)(w:World)(hz:RgZ rs)(h:Qh w B so n rs)(hB:B<=w.heap.size):
  Calls prog 137 #[.agg #[.slice so n cap]] w fun e w'=>e=.returned (.bool (okG rs))/\Below w.heap.size w w':=by
 obtain⟨R,hR⟩:∃R,R=okG rs:=⟨_,rfl⟩;have HR:=hid hR;rw[<-hR];clear hR;have HN:Hid (n=rs.length):=h.1;have hm:n<=9223372036854775807:=by have:=h.2.1;unfold maxLen at this;omega
 have HG:=hid h;have HZ:=hid hz;clear h hz;by_cases h0:n=0
 ·have q0:((n:Int) == 0)=true:=by simp;omega
  clear HG;go_enter func137,ntmps137
  go_wp2_with fail
  go_ret;refine⟨?_,B0q.alloc L0q _⟩;rw[HR.out];unfold okG;rw[decide_eq_false (by have:=HN.out;omega)];rfl
 have q0:((n:Int) == 0)=false:=by simp;omega
 by_cases h1:64<n
 ·have q1:(64:Int)<(n:Int):=by omega
  have q2:decide ((64:Int)<(n:Int))=true:=by simp;omega
  clear HG;go_enter func137,ntmps137
  go_wp2_with fail
  go_ret;refine⟨?_,B0q.alloc L0q _⟩;rw[HR.out];unfold okG;rw[decide_eq_false (p:=rs.length<=64) (by have:=HN.out;omega),Bool.false_and,Bool.and_false];rfl
 have q1:¬(64:Int)<(n:Int):=by omega
 have q2:decide ((64:Int)<(n:Int))=false:=by simp;omega
 have HR2:Hid (R=rs.all okR):=by
  refine HR.out.trans ?_;unfold okG;rw[decide_eq_true (by have:=HN.out;omega),decide_eq_true (p:=rs.length<=64) (by have:=HN.out;omega)];rfl
 clear HR;have HB0:Hid (Below w.heap.size w (w.alloc (.cells #[.slice so n cap] 24))):=(Below.refl _ w).alloc L0q _;go_enter func137,ntmps137
 go_wp2_with fail
 go_loopw [18] (fun i wr=>∃j:Nat,i=.int .i64 j/\j<=n/\Hid (Below w.heap.size w wr)/\Hid (∀i (hi:i<rs.length),i<j->okR rs[i]=true)) (fun i _=>n-(intOf i).toNat)
 case atStart=>exact⟨0,rfl,Nat.zero_le _,HB0,fun i _ h=>absurd h (by omega)⟩
 case round=>
  obtain⟨j,rfl,hj,HB,HO⟩:=hrel;clear HB0;by_cases hjn:j<n
  ·have hjI:(j:Int)<(n:Int):=by omega
   have a0:decide ((j:Int)<(n:Int))=true:=by simp;omega
   have hjs:j<rs.length:=by rw[<-HN.out];exact hjn
   have HGr:=hid (HG.out.below (HB.out.mono hB));obtain⟨g,o,rfl,hg,k1,T1,a1,b1,c1,d1,so1,n1,cap1,p1,rt,z0,z1,z2,z3,z4,z5,z6,z7,z8,z9⟩:=HGr.out.2.2 j hjs;obtain⟨zn,zt⟩:=HZ.out rs[j] (List.getElem_mem hjs);have HE:=hid (fun W (hb:Below wr.heap.size wr W)=>z9D rs[j].2.1 _ B W zt (rt.below (hb.mono (Nat.le_trans hB HB.out.size))) (Nat.le_trans (Nat.le_trans hB HB.out.size) hb.size));have HM:=hid (fun W=>z2I rs[j].1 W zn);obtain⟨Q,hQ⟩:∃Q,Q=okT rs[j].2.1:=⟨_,rfl⟩;obtain⟨M,hM⟩:∃M,M=nmS rs[j].1:=⟨_,rfl⟩;have HQ:Hid (okR rs[j]=(M&&Q)):=by show(nmS rs[j].1&&okT rs[j].2.1)=_;rw[hQ,hM]
   obtain⟨N0,hN0⟩:∃N0,N0=rs[j].1:=⟨_,rfl⟩;obtain⟨p0,hp0⟩:∃p0,p0=rs[j].2.2:=⟨_,rfl⟩;rw[<-hQ]at HE;rw[<-hM,<-hN0]at HM;rw[<-hN0]at z0;rw[<-hp0]at z9;have hgl:g<wr.heap.size:=Nat.lt_of_lt_of_le hg (Nat.le_trans hB HB.out.size);clear rt hQ hM hN0 hp0 HG HGr HZ zn zt;dsimp only[r8]at HE
   go_wp2_with(first|(go_at_call 164;refine(HM.out _).mono ?_;rintro e wz ⟨rfl,rfl⟩)|(go_at_call 165;refine(HE.out _ ?hh).mono ?_;(case hh=>exact B0q.alloc L0q _);rintro e wy ⟨rfl,hby⟩))
   ·rename_i hq
    have hb2:=HB.out.trans ((((Below.refl _ wr).alloc L0q _).trans (hby.mono (by simp))).mono HB.out.size);have hQ0:Q=false:=by simpa using hq
    go_ret;refine⟨?_,hb2⟩;rw[HR2.out,z2O j hjs (by rw[HQ.out,hQ0,Bool.and_false])];rfl
   ·rename_i hM1 hby2 hq
    have hb2:=HB.out.trans ((((Below.refl _ wr).alloc L0q _).trans (hby.mono (by simp))).mono HB.out.size);have hQ1:Q=true:=by simpa using hq
    refine⟨⟨j+1,by go_num,by omega,hb2,fun i hi hij=> ?_⟩,?_⟩
    ·rcases Nat.lt_or_ge i j with h1|h1
     ·exact HO.out i hi h1
     ·obtain rfl:i=j:=by omega
      rw[HQ.out,hQ1]
      first|rfl|(simp_all)
    ·simp[intOf];omega
   ·rename_i hq
    have hM0:M=false:=by simpa using hq
    go_ret;refine⟨?_,HB.out.trans (((Below.refl _ wr).alloc L0q _).mono HB.out.size)⟩;rw[HR2.out,z2O j hjs (by rw[HQ.out,hM0,Bool.false_and])];rfl
  ·have a0:decide ((j:Int)<(n:Int))=false:=by simp;omega
   clear HG HZ
   go_wp2_with fail
   go_ret;refine⟨?_,HB.out⟩;rw[HR2.out,z9E fun i hi=>HO.out i hi (by have:=HN.out;omega)];rfl
@[reducible] def Ot:=Bool×Bool×Bool
def suc(x:Ot):Bool:=x.1||x.2.1
def Nw(a n:Ot):Ot:=(a.1&&n.1,a.2.1&&suc n||a.1&&n.2.1,a.2.2||suc a&&n.2.2)
def Kq(a n:Ot):Ot:=(a.1||a.2.2&&n.1,a.2.1||a.2.2&&n.2.1,a.2.2&&n.2.2)
def Yf(k:Int)(x:Ot):Ot:=
 if k=8 then(x.1||x.2.2,x.2.1,false)else if k=9 then(x.2.2,x.2.1,false)else if k=10 then(x.1&&x.2.2,x.2.1,x.2.2)else if k=11 then(suc x,false,x.2.2)else if k=12 then(x.2.2,false,suc x)else(false,false,false)
mutual
def ofT(K:ByteArray->Ot):RT->Ot
 | .mk k T a b c d s p=>
   if k=1 then(true,false,false)else if k=2 then(if T.size=0 then(true,false,false)else(false,true,true))else if k=3 then(if a=0/\b=0/\c=0/\d=0 then(false,false,true)else(false,true,true))else if k=4 then(false,true,true)else if k=5 then K T else if k=6 then ofS K (true,false,false) s else if k=7 then ofA K (false,false,true) s else Yf k (ofH K s)
def ofS(K:ByteArray->Ot)(acc:Ot):List RT->Ot
 |[]=>acc
 |t::r=>ofS K (Nw acc (ofT K t)) r
def ofA(K:ByteArray->Ot)(acc:Ot):List RT->Ot
 |[]=>acc
 |t::r=>ofA K (Kq acc (ofT K t)) r
def ofH(K:ByteArray->Ot):List RT->Ot
 |[]=>(false,false,false)
 |t::r=>ofT K t
end
def leO(x y:Ot):Bool:=(!x.1||y.1)&&((!x.2.1||y.2.1)&&(!x.2.2||y.2.2))
theorem Jl(x:Ot):leO x x=true:=by obtain⟨a,b,c⟩:=x;revert a b c;decide
theorem Sb{x y z:Ot}:leO x y=true->leO y z=true->leO x z=true:=by
 obtain⟨a,b,c⟩:=x;obtain⟨d,e,f⟩:=y;obtain⟨g,h,i⟩:=z
 revert a b c d e f g h i
 decide
theorem z9F{x y a b:Ot}:leO x y=true->leO a b=true->leO (Nw x a) (Nw y b)=true:=by
 obtain⟨x1,x2,x3⟩:=x;obtain⟨y1,y2,y3⟩:=y;obtain⟨a1,a2,a3⟩:=a;obtain⟨b1,b2,b3⟩:=b
 revert x1 x2 x3 y1 y2 y3 a1 a2 a3 b1 b2 b3
 decide+kernel
theorem z9G{x y a b:Ot}:leO x y=true->leO a b=true->leO (Kq x a) (Kq y b)=true:=by
 obtain⟨x1,x2,x3⟩:=x;obtain⟨y1,y2,y3⟩:=y;obtain⟨a1,a2,a3⟩:=a;obtain⟨b1,b2,b3⟩:=b
 revert x1 x2 x3 y1 y2 y3 a1 a2 a3 b1 b2 b3
 decide+kernel
theorem z9H(k:Int){x y:Ot}:leO x y=true->leO (Yf k x) (Yf k y)=true:=by
 obtain⟨x1,x2,x3⟩:=x;obtain⟨y1,y2,y3⟩:=y;unfold Yf;by_cases h8:k=8
 ·rw[if_pos h8,if_pos h8];revert x1 x2 x3 y1 y2 y3;decide
 rw[if_neg h8,if_neg h8];by_cases h9:k=9
 ·rw[if_pos h9,if_pos h9];revert x1 x2 x3 y1 y2 y3;decide
 rw[if_neg h9,if_neg h9];by_cases h10:k=10
 ·rw[if_pos h10,if_pos h10];revert x1 x2 x3 y1 y2 y3;decide
 rw[if_neg h10,if_neg h10];by_cases h11:k=11
 ·rw[if_pos h11,if_pos h11];revert x1 x2 x3 y1 y2 y3;decide
 rw[if_neg h11,if_neg h11];by_cases h12:k=12
 ·rw[if_pos h12,if_pos h12];revert x1 x2 x3 y1 y2 y3;decide
 rw[if_neg h12,if_neg h12];intro _;exact Jl _
mutual
theorem Ad{K K':ByteArray->Ot}(h:∀s,leO (K s) (K' s)=true):∀t:RT,leO (ofT K t) (ofT K' t)=true
 | .mk k T a b c d s p=>by
   rw[ofT,ofT];by_cases h1:k=1
   ·rw[if_pos h1,if_pos h1];exact Jl _
   rw[if_neg h1,if_neg h1];by_cases h2:k=2
   ·rw[if_pos h2,if_pos h2];exact Jl _
   rw[if_neg h2,if_neg h2];by_cases h3:k=3
   ·rw[if_pos h3,if_pos h3];exact Jl _
   rw[if_neg h3,if_neg h3];by_cases h4:k=4
   ·rw[if_pos h4,if_pos h4];exact Jl _
   rw[if_neg h4,if_neg h4];by_cases h5:k=5
   ·rw[if_pos h5,if_pos h5];exact h T
   rw[if_neg h5,if_neg h5];by_cases h6:k=6
   ·rw[if_pos h6,if_pos h6];exact z2Q h s _ _ (Jl _)
   rw[if_neg h6,if_neg h6];by_cases h7:k=7
   ·rw[if_pos h7,if_pos h7];exact z2R h s _ _ (Jl _)
   rw[if_neg h7,if_neg h7];exact z9H k (z9I h s)
theorem z2Q{K K':ByteArray->Ot}(h:∀s,leO (K s) (K' s)=true):∀(l:List RT) (x y:Ot),leO x y=true->leO (ofS K x l) (ofS K' y l)=true
 |[],x,y,hx=>by rw[ofS,ofS];exact hx
 |t::r,x,y,hx=>by rw[ofS,ofS];exact z2Q h r _ _ (z9F hx (Ad h t))
theorem z2R{K K':ByteArray->Ot}(h:∀s,leO (K s) (K' s)=true):∀(l:List RT) (x y:Ot),leO x y=true->leO (ofA K x l) (ofA K' y l)=true
 |[],x,y,hx=>by rw[ofA,ofA];exact hx
 |t::r,x,y,hx=>by rw[ofA,ofA];exact z2R h r _ _ (z9G hx (Ad h t))
theorem z9I{K K':ByteArray->Ot}(h:∀s,leO (K s) (K' s)=true):∀(l:List RT),leO (ofH K l) (ofH K' l)=true
 |[]=>by rw[ofH,ofH];exact Jl _
 |t::r=>by rw[ofH,ofH];exact Ad h t
end
def Gz(K:ByteArray->Ot)(s:ByteArray)(x:Ot):ByteArray->Ot:=fun t=>if t=s then x else K t
def Ud(K:ByteArray->Ot)(x:Rr):ByteArray->Ot:=Gz K x.1 (ofT K x.2.1)
def swp(K:ByteArray->Ot):List Rr->(ByteArray->Ot)
 |[]=>K
 |x::r=>Ud (swp K r) x
def z0O:ByteArray->Ot:=fun _=>(false,false,false)
def itr(rs:List Rr):Nat->(ByteArray->Ot)
 |0=>z0O
 |n+1=>swp (itr rs n) rs
def Yk(K:ByteArray->Ot)(rs:List Rr):Prop:=∀x∈rs,ofT K x.2.1=K x.1
theorem z2S{K:ByteArray->Ot}{s:ByteArray}{x:Ot}(h:x=K s):Gz K s x=K:=by
 funext t;unfold Gz;by_cases e:t=s
 ·rw[if_pos e,h,e]
 ·rw[if_neg e]
theorem z2T{K:ByteArray->Ot}:∀{rs:List Rr},Yk K rs->swp K rs=K
 |[],_=>rfl
 |x::r,h=>by
  rw[swp,z2T (fun y hy=>h y (List.mem_cons_of_mem _ hy)),Ud];exact z2S (h x (List.mem_cons_self ..))
theorem Sh{rs:List Rr}{n:Nat}(h:Yk (itr rs n) rs):∀m,itr rs (n+m)=itr rs n
 |0=>rfl
 |m+1=>by rw[<-Nat.add_assoc,itr,Sh h m,z2T h]
theorem Ny{rs:List Rr}{n m:Nat}(h:Yk (itr rs n) rs)(k:Yk (itr rs m) rs):itr rs n=itr rs m:=by
 rcases Nat.le_total n m with e|e
 ·rw[<-Nat.add_sub_cancel' e,Sh h]
 ·rw[<-Nat.add_sub_cancel' e,Sh k]
def Nf(K:ByteArray->Ot)(rs:List Rr):Prop:=∀x∈rs,leO (K x.1) (ofT K x.2.1)=true
theorem z2U{K:ByteArray->Ot}{x:Rr}(h:leO (K x.1) (ofT K x.2.1)=true):∀s,leO (K s) (Ud K x s)=true:=fun s=>by
 unfold Ud Gz;by_cases e:s=x.1
 ·rw[if_pos e,e];exact h
 ·rw[if_neg e];exact Jl _
theorem z9J{K:ByteArray->Ot}{rs:List Rr}{x:Rr}(hu:∀y∈rs,y.1=x.1->y=x)(hx:x∈rs)(h:Nf K rs):Nf (Ud K x) rs:=fun y hy=>by
 have hle:=z2U (h x hx);by_cases e:y.1=x.1
 ·rw[hu y hy e]
  refine Sb ?_ (Ad hle x.2.1);unfold Ud Gz;rw[if_pos rfl];exact Jl _
 ·refine Sb ?_ (Sb (h y hy) (Ad hle y.2.1))
  unfold Ud Gz;rw[if_neg e];exact Jl _
def Ng(x:Ot):Nat:=x.1.toNat+(x.2.1.toNat+x.2.2.toNat)
theorem z2V(x:Ot):Ng x<=3:=by obtain⟨a,b,c⟩:=x;revert a b c;decide
theorem z2W{x y:Ot}:leO x y=true->Ng x<=Ng y:=by
 obtain⟨a,b,c⟩:=x;obtain⟨d,e,f⟩:=y
 revert a b c d e f
 decide
theorem z9K{x y:Ot}:leO x y=true->x≠y->Ng x<Ng y:=by
 obtain⟨a,b,c⟩:=x;obtain⟨d,e,f⟩:=y
 revert a b c d e f
 decide
def lck(K:ByteArray->Ot):List Rr->Nat
 |[]=>0
 |x::r=>(3-Ng (K x.1))+lck K r
theorem z2X{K K':ByteArray->Ot}(h:∀s,leO (K s) (K' s)=true):∀rs:List Rr,lck K' rs<=lck K rs
 |[]=>Nat.le_refl _
 |x::r=>by
  have h1:=z2X h r;have h2:=z2W (h x.1);rw[lck,lck];omega
theorem z2Y{K K':ByteArray->Ot}(h:∀s,leO (K s) (K' s)=true):∀{rs:List Rr} {x:Rr},x∈rs->K x.1≠K' x.1->lck K' rs<lck K rs
 |y::r,x,hx,hne=>by
  have h1:=z2X h r;have h2:=z2W (h y.1);have h4:=z2V (K y.1);have h5:=z2V (K' y.1);rw[lck,lck];rcases List.mem_cons.1 hx with rfl|hx
  ·have h3:=z9K (h x.1) hne
   omega
  ·have h3:=z2Y h hx hne
   omega
section
abbrev Ah:=Nat×Bool
def leA(x y:Ah):Prop:=(∀i,x.1.testBit i=true->y.1.testBit i=true)/\(x.2=true->y.2=true)
theorem Um(x:Ah):leA x x:=⟨fun _ h=>h,fun h=>h⟩
theorem Am{x y z:Ah}(h:leA x y)(k:leA y z):leA x z:=⟨fun i hi=>k.1 i (h.1 i hi),fun e=>k.2 (h.2 e)⟩
def Gq(on:Bool)(x y:Ah):Ah:=(if on then x.1&&&y.1 else x.1,x.2&&y.2)
def orA(x y:Ah):Ah:=(x.1|||y.1,x.2||y.2)
theorem z9L{on:Bool}{x x' y y':Ah}(h:leA x x')(k:leA y y'):leA (Gq on x y) (Gq on x' y'):=by
 unfold Gq;refine⟨fun i hi=> ?_,fun e=> ?_⟩
 ·cases on with
  |true=>
   simp only[if_true,Nat.testBit_and,Bool.and_eq_true]at hi ⊢;exact⟨h.1 i hi.1,k.1 i hi.2⟩
  |false=>
   simp only[Bool.false_eq_true,if_false]at hi ⊢;exact h.1 i hi
 ·simp only[Bool.and_eq_true]at e ⊢
  exact⟨h.2 e.1,k.2 e.2⟩
theorem z9M{x x' y y':Ah}(h:leA x x')(k:leA y y'):leA (orA x y) (orA x' y'):=by
 unfold orA;refine⟨fun i hi=> ?_,fun e=> ?_⟩
 ·simp only[Nat.testBit_or,Bool.or_eq_true]at hi ⊢
  exact hi.imp (h.1 i) (k.1 i)
 ·simp only[Bool.or_eq_true]at e ⊢
  exact e.imp h.2 k.2
def Xq:Ah:=(Qj,true)
def rtK:RT->Int
 | .mk k _ _ _ _ _ _ _=>k
def rtT:RT->ByteArray
 | .mk _ T _ _ _ _ _ _=>T
def Ap(t:RT):Bool:=(decide (rtK t=2)&&decide ((rtT t).size=1))||(decide (rtK t=3)||decide (rtK t=4))
def cl4(a b c d:Int):Nat:=cls a.toNat b.toNat c.toNat d.toNat
section
variable (K:ByteArray->Ot)
mutual
def afT(F:ByteArray->Ah):RT->Ah
 | .mk k T a b c d s p=>
   if k=2 then(if T.size=0 then Xq else(2^((T.data[0]?.map (·.toNat)).getD 0),false))else if k=1∨k=8∨k=9 then Xq else if k=3 then(cl4 a b c d,false)else if k=4 then(Qj,false)else if k=5 then F T else if k=6 then afS F true Xq s else if k=7 then afA F (0,false) s else if k=12 then afN F s else afH F s
def afS(F:ByteArray->Ah)(on:Bool)(acc:Ah):List RT->Ah
 |[]=>acc
 |t::r=>afS F (on&& !(ofT K t).2.1) (Gq on acc (afT F t)) r
def afA(F:ByteArray->Ah)(acc:Ah):List RT->Ah
 |[]=>acc
 |t::r=>afA F (orA acc (afT F t)) r
def afN(F:ByteArray->Ah):List RT->Ah
 |[]=>Xq
 |t::_=>if Ap t then(Zv (afT F t).1,true)else Xq
def afH(F:ByteArray->Ah):List RT->Ah
 |[]=>(0,false)
 |t::_=>afT F t
end
theorem z9N{F G:ByteArray->Ah}:∀t:RT,Ap t=true->afT K F t=afT K G t
 | .mk k T a b c d s p,h=>by
   unfold Ap rtK rtT at h;simp only[Bool.or_eq_true,Bool.and_eq_true,decide_eq_true_eq]at h;rw[afT,afT];rcases h with⟨rfl,_⟩|rfl|rfl
   ·rfl
   ·rfl
   ·rfl
mutual
theorem Ac{F G:ByteArray->Ah}(h:∀s,leA (F s) (G s)):∀t:RT,leA (afT K F t) (afT K G t)
 | .mk k T a b c d s p=>by
   rw[afT,afT];by_cases h2:k=2
   ·rw[if_pos h2,if_pos h2];exact Um _
   rw[if_neg h2,if_neg h2];by_cases h1:k=1∨k=8∨k=9
   ·rw[if_pos h1,if_pos h1];exact Um _
   rw[if_neg h1,if_neg h1];by_cases h3:k=3
   ·rw[if_pos h3,if_pos h3];exact Um _
   rw[if_neg h3,if_neg h3];by_cases h4:k=4
   ·rw[if_pos h4,if_pos h4];exact Um _
   rw[if_neg h4,if_neg h4];by_cases h5:k=5
   ·rw[if_pos h5,if_pos h5];exact h T
   rw[if_neg h5,if_neg h5];by_cases h6:k=6
   ·rw[if_pos h6,if_pos h6];exact z2Z h s _ _ _ (Um _)
   rw[if_neg h6,if_neg h6];by_cases h7:k=7
   ·rw[if_pos h7,if_pos h7];exact z3a h s _ _ (Um _)
   rw[if_neg h7,if_neg h7];by_cases h12:k=12
   ·rw[if_pos h12,if_pos h12];exact z9O h s
   rw[if_neg h12,if_neg h12];exact z9P h s
theorem z2Z{F G:ByteArray->Ah}(h:∀s,leA (F s) (G s)):∀(l:List RT) (on:Bool) (x y:Ah),leA x y->leA (afS K F on x l) (afS K G on y l)
 |[],on,x,y,hx=>by rw[afS,afS];exact hx
 |t::r,on,x,y,hx=>by rw[afS,afS];exact z2Z h r _ _ _ (z9L hx (Ac h t))
theorem z3a{F G:ByteArray->Ah}(h:∀s,leA (F s) (G s)):∀(l:List RT) (x y:Ah),leA x y->leA (afA K F x l) (afA K G y l)
 |[],x,y,hx=>by rw[afA,afA];exact hx
 |t::r,x,y,hx=>by rw[afA,afA];exact z3a h r _ _ (z9M hx (Ac h t))
theorem z9O{F G:ByteArray->Ah}(h:∀s,leA (F s) (G s)):∀(l:List RT),leA (afN K F l) (afN K G l)
 |[]=>by rw[afN,afN];exact Um _
 |t::r=>by
  rw[afN,afN];by_cases e:Ap t=true
  ·rw[if_pos e,if_pos e,z9N K (F:=F) (G:=G) t e];exact Um _
  ·rw[if_neg e,if_neg e];exact Um _
theorem z9P{F G:ByteArray->Ah}(h:∀s,leA (F s) (G s)):∀(l:List RT),leA (afH K F l) (afH K G l)
 |[]=>by rw[afH,afH];exact Um _
 |t::r=>by rw[afH,afH];exact Ac h t
end
def Jd(F:ByteArray->Ah)(s:ByteArray)(x:Ah):ByteArray->Ah:=fun t=>if t=s then x else F t
def Jk(F:ByteArray->Ah)(x:Rr):ByteArray->Ah:=Jd F x.1 (afT K F x.2.1)
def Kx(F:ByteArray->Ah):List Rr->(ByteArray->Ah)
 |[]=>F
 |x::r=>Jk K (Kx F r) x
def z0A:ByteArray->Ah:=fun _=>(0,false)
def Qm(rs:List Rr):Nat->(ByteArray->Ah)
 |0=>z0A
 |n+1=>Kx K (Qm rs n) rs
def Uc(F:ByteArray->Ah)(rs:List Rr):Prop:=∀x∈rs,afT K F x.2.1=F x.1
theorem z3b{F:ByteArray->Ah}{s:ByteArray}{x:Ah}(h:x=F s):Jd F s x=F:=by
 funext t;unfold Jd;by_cases e:t=s
 ·rw[if_pos e,h,e]
 ·rw[if_neg e]
theorem z3c{F:ByteArray->Ah}:∀{rs:List Rr},Uc K F rs->Kx K F rs=F
 |[],_=>rfl
 |x::r,h=>by
  rw[Kx,z3c (fun y hy=>h y (List.mem_cons_of_mem _ hy)),Jk];exact z3b (h x (List.mem_cons_self ..))
theorem Sd{rs:List Rr}{n:Nat}(h:Uc K (Qm K rs n) rs):∀m,Qm K rs (n+m)=Qm K rs n
 |0=>rfl
 |m+1=>by rw[<-Nat.add_assoc,Qm,Sd h m,z3c K h]
theorem Nb{rs:List Rr}{n m:Nat}(h:Uc K (Qm K rs n) rs)(k:Uc K (Qm K rs m) rs):Qm K rs n=Qm K rs m:=by
 rcases Nat.le_total n m with e|e
 ·rw[<-Nat.add_sub_cancel' e,Sd K h]
 ·rw[<-Nat.add_sub_cancel' e,Sd K k]
def Nh(F:ByteArray->Ah)(rs:List Rr):Prop:=∀x∈rs,leA (F x.1) (afT K F x.2.1)
theorem z3d{F:ByteArray->Ah}{x:Rr}(h:leA (F x.1) (afT K F x.2.1)):∀s,leA (F s) (Jk K F x s):=fun s=>by
 unfold Jk Jd;by_cases e:s=x.1
 ·rw[if_pos e,e];exact h
 ·rw[if_neg e];exact Um _
theorem z9Q{F:ByteArray->Ah}{rs:List Rr}{x:Rr}(hu:∀y∈rs,y.1=x.1->y=x)(hx:x∈rs)(h:Nh K F rs):Nh K (Jk K F x) rs:=fun y hy=>by
 have hle:=z3d K (h x hx);by_cases e:y.1=x.1
 ·rw[hu y hy e]
  refine Am ?_ (Ac K hle x.2.1);unfold Jk Jd;rw[if_pos rfl];exact Um _
 ·refine Am ?_ (Am (h y hy) (Ac K hle y.2.1))
  unfold Jk Jd;rw[if_neg e];exact Um _
end
def Jv(x:Ah):Nat:=pc 256 x.1+x.2.toNat
theorem Sp{C D:Nat}(h:∀i,C.testBit i=true->D.testBit i=true):∀k,pc k C<=pc k D
 |0=>Nat.le_refl _
 |k+1=>by
  have h1:=Sp h k;have h2:(C.testBit k).toNat<=(D.testBit k).toNat:=by
   cases e:C.testBit k with
   |false=>simp
   |true=>rw[h k e];simp
  rw[pc,pc];omega
theorem z3e{C D:Nat}(h:∀i,C.testBit i=true->D.testBit i=true){j:Nat}(h1:C.testBit j=false)(h2:D.testBit j=true):∀k,j<k->pc k C<pc k D
 |0,hj=>by omega
 |k+1,hj=>by
  have hm:=Sp h k;have hb:(C.testBit k).toNat<=(D.testBit k).toNat:=by
   cases e:C.testBit k with
   |false=>simp
   |true=>rw[h k e];simp
  rw[pc,pc];rcases Nat.lt_or_ge j k with hk|hk
  ·have:=z3e h h1 h2 k hk
   omega
  ·obtain rfl:j=k:=by omega
   rw[h1,h2]at*;simp at*;omega
theorem z3f(x:Ah):Jv x<=257:=by
 have h1:=z0c 256 x.1;have h2:=Bool.toNat_le x.2;unfold Jv;omega
theorem z3g{x y:Ah}(h:leA x y):Jv x<=Jv y:=by
 have h1:=Sp h.1 256;have h2:x.2.toNat<=y.2.toNat:=by
  cases e:x.2 with
  |false=>simp
  |true=>rw[h.2 e];simp
 unfold Jv;omega
theorem z9R{x y:Ah}(hx:x.1<2^256)(hy:y.1<2^256)(h:leA x y)(hne:x≠y):Jv x<Jv y:=by
 have h2:x.2.toNat<=y.2.toNat:=by
  cases e:x.2 with
  |false=>simp
  |true=>rw[h.2 e];simp
 by_cases e1:x.1=y.1
 ·have e2:x.2≠y.2:=fun e=>hne (Prod.ext e1 e)
  have h3:x.2.toNat<y.2.toNat:=by
   cases a:x.2 with
   |true=>exact absurd ((h.2 a).trans a.symm).symm e2
   |false=>
    cases b:y.2 with
    |true=>simp
    |false=>exact absurd (a.trans b.symm) e2
  unfold Jv;rw[e1];omega
 ·have hj:∃j,x.1.testBit j=false/\y.1.testBit j=true:=Classical.byContradiction fun hn=>e1 (Nat.eq_of_testBit_eq fun i=>by
   cases a:x.1.testBit i with
   |true=>exact(h.1 i a).symm
   |false=>
    cases b:y.1.testBit i with
    |false=>rfl
    |true=>exact absurd ⟨i,a,b⟩ hn)
  obtain⟨j,a,b⟩:=hj;have hlt:j<256:=by
   rcases Nat.lt_or_ge j 256 with h|h
   ·exact h
   ·rw[Nat.testBit_lt_two_pow (Nat.lt_of_lt_of_le hy (Nat.pow_le_pow_right (by decide) h))]at b
    cases b
  have:=z3e h.1 a b 256 hlt;unfold Jv;omega
def Xf(F:ByteArray->Ah):List Rr->Nat
 |[]=>0
 |x::r=>(257-Jv (F x.1))+Xf F r
theorem z3h{F G:ByteArray->Ah}(h:∀s,leA (F s) (G s)):∀rs:List Rr,Xf G rs<=Xf F rs
 |[]=>Nat.le_refl _
 |x::r=>by
  have h1:=z3h h r;have h2:=z3g (h x.1);rw[Xf,Xf];omega
theorem z3i{F G:ByteArray->Ah}(h:∀s,leA (F s) (G s))(hF:∀s,(F s).1<2^256)(hG:∀s,(G s).1<2^256):∀{rs:List Rr} {x:Rr},x∈rs->F x.1≠G x.1->Xf G rs<Xf F rs
 |y::r,x,hx,hne=>by
  have h1:=z3h h r;have h2:=z3g (h y.1);have h4:=z3f (F y.1);have h5:=z3f (G y.1);rw[Xf,Xf];rcases List.mem_cons.1 hx with rfl|hx
  ·have h3:=z9R (hF x.1) (hG x.1) (h x.1) hne
   omega
  ·have h3:=z3i h hF hG hx hne
   omega
end
mutual
def Tq:RT->Nd->Prop
 | .mk k T a b c d s _,.mk kd T' C s' _=>k=(kd:Int)/\T'=T/\a=(wd C 0:Nat)/\b=(wd C 1:Nat)/\c=(wd C 2:Nat)/\d=(wd C 3:Nat)/\TqL s s'
def TqL:List RT->List Nd->Prop
 |[],[]=>True
 |t::r,n::q=>Tq t n/\TqL r q
 |_,_=>False
end
theorem TqL.len:∀{s:List RT} {q:List Nd},TqL s q->Gy q=Zw s/\q.isEmpty=s.isEmpty
 |[],[],_=>⟨rfl,rfl⟩
 |[],_::_,h=>by simp[TqL]at h
 |_::_,[],h=>by simp[TqL]at h
 |t::r,n::q,h=>by
  rw[TqL]at h;exact⟨by rw[Gy,Zw,h.2.len.1],rfl⟩
mutual
theorem z3j{w:World}{B s0:Nat}(hB:B<=s0):∀(t:RT) (n:Nd) (cs:List Value),Tq t n->Qk w B t cs->NdV s0 w n cs
 | .mk k T a b c d s p,.mk kd T' C s' pn,cs,h,ht=>by
   rw[Tq]at h;obtain⟨rfl,rfl,rfl,rfl,rfl,rfl,hs⟩:=h;rw[Qk]at ht;obtain⟨so,cap,rfl,ht⟩:=ht;rw[NdV];refine⟨so,cap,p,by rw[hs.len.1],?_⟩;rcases ht with h1|⟨h1,g,o,rfl,h3,h4,h5⟩
   ·exact .inl (by rw[hs.len.2];exact h1)
   ·exact .inr ⟨by rw[hs.len.2];exact h1,g,o,rfl,by omega,by rw[hs.len.1];exact h4,z3k hB s s' g o hs h5⟩
theorem z3k{w:World}{B s0:Nat}(hB:B<=s0):∀(s:List RT) (q:List Nd) (g o:Nat),TqL s q->Qc w B g o s->Yh s0 w g o q
 |[],[],g,o,_,_=>by rw[Yh];trivial
 |[],_::_,_,_,h,_=>by simp[TqL]at h
 |_::_,[],_,_,h,_=>by simp[TqL]at h
 |t::r,n::q,g,o,h,ht=>by
  rw[TqL]at h;rw[Qc]at ht;obtain⟨⟨cs,h1,h2⟩,h3⟩:=ht;rw[Yh];exact⟨⟨cs,z3j hB t n cs h.1 h1,h2⟩,z3k hB r q g _ h.2 h3⟩
end
def TqR:List Rr->List Rl->Prop
 |[],[]=>True
 |x::r,y::q=>y.1=x.1/\Tq x.2.1 y.2.1/\TqR r q
 |_,_=>False
theorem TqR.len:∀{rs:List Rr} {ns:List Rl},TqR rs ns->ns.length=rs.length
 |[],[],_=>rfl
 |[],_::_,h=>by simp[TqR]at h
 |_::_,[],h=>by simp[TqR]at h
 |x::r,y::q,h=>by
  rw[TqR]at h;simp[h.2.2.len]
theorem TqR.get:∀{rs:List Rr} {ns:List Rl},TqR rs ns->∀(j:Nat) (h1:j<rs.length) (h2:j<ns.length),ns[j].1=rs[j].1/\Tq rs[j].2.1 ns[j].2.1
 |[],[],_,j,h1,_=>by simp at h1
 |[],_::_,h,_,_,_=>by simp[TqR]at h
 |_::_,[],h,_,_,_=>by simp[TqR]at h
 |x::r,y::q,h,0,_,_=>by
  rw[TqR]at h;exact⟨h.1,h.2.1⟩
 |x::r,y::q,h,j+1,h1,h2=>by
  rw[TqR]at h;exact h.2.2.get j (by simpa using h1) (by simpa using h2)
theorem z9S{w:World}{B s0 n:Nat}{so:Option Addr}{rs:List Rr}{ns:List Rl}(hB:B<=s0)(hq:TqR rs ns)(h:Qh w B so n rs):RgV s0 w so n ns:=by
 refine⟨by rw[hq.len];exact h.1,h.2.1,fun j hj=> ?_⟩;have hj':j<rs.length:=by rw[<-hq.len];exact hj
 obtain⟨g,o,h1,hg,k,T,a,b,c,d,so1,n1,cap,p,rt,z0,z1,z2,z3,z4,z5,z6,z7,z8,z9⟩:=h.2.2 j hj';obtain⟨e1,e2⟩:=hq.get j hj' hj;have hv:=z3j hB _ _ _ e2 rt;obtain⟨kd,T1,C,so2,sl,sc,p1,e3⟩:=hv.shape;dsimp only[r8,v8]at e3;cases e3;exact⟨g,o,h1,by omega,kd,T,C,so1,n1,cap,p,_,hv,by rw[e1];exact z0,z1,z2,z3,z4,z5,z6,z7,z8,z9⟩
theorem z3l(so:Option Addr)(n cap:Nat)(rs:List Rr)(B:Nat)(w:World)(hz:RgZ rs)(h:Qh w B so n rs)(hB:B<=w.heap.size)(hk:okG rs=false):
  Calls prog 98 #[.agg #[.slice so n cap]] w fun e w'=>e=.returned (.tuple #[.string ⟨#[]⟩,.iface 43 (.int .i64 20)])/\Below w.heap.size w w':=by
 have HI:=hid (fun(W:World) (hb:Below w.heap.size w W)=>z2P so n cap rs B W hz (h.below (hb.mono hB)) (Nat.le_trans hB hb.size));rw[hk]at HI;clear h hz;go_enter func98,ntmps98
 go_wp2_with(first|(go_at_call 137;refine(HI.out _ ?hh).mono ?_;(case hh=>exact B0q.alloc L0q _);rintro e wq ⟨rfl,hbq⟩))
 go_ret2
 exact⟨rfl,((Below.refl _ w).alloc L0q _).trans (hbq.mono (by simp))⟩
theorem Hx(so:Option Addr)(n cap:Nat)(rs:List Rr)(ns:List Rl)(B:Nat)(w:World)(hz:RgZ rs)(h:Qh w B so n rs)(hB:B<=w.heap.size)(hk:okG rs=true)(hq:TqR rs ns)(hx:∀x∈ns,Ruk Nmq x)(hT:TabIs w):
  Calls prog 98 #[.agg #[.slice so n cap]] w fun e w'=>e=.returned (Fq ns)/\Below w.heap.size w w':=by
 have HI:=hid (fun(W:World) (hb:Below w.heap.size w W)=>z2P so n cap rs B W hz (h.below (hb.mono hB)) (Nat.le_trans hB hb.size));have HT:=hid (fun(W:World) (hb:Below w.heap.size w W)=>z9m hx n cap so W (z9S (Nat.le_trans hB hb.size) hq (h.below (hb.mono hB))) (hT.below hb hT.lt));rw[hk]at HI;obtain⟨A,E,hA⟩:∃A E,Fq ns=.tuple #[A,E]:=by
  unfold Fq;split
  ·exact⟨_,_,rfl⟩
  ·split
   ·exact⟨_,_,rfl⟩
   ·exact⟨_,_,rfl⟩
 rw[hA]at HT ⊢;obtain⟨W1,hW1⟩:∃W1,W1=w.alloc (.cells #[.slice so n cap] 24):=⟨_,rfl⟩;have HB1:Hid (Below w.heap.size w W1):=by rw[hW1];exact(Below.refl _ w).alloc L0q _
 have HC1:Hid (W1.heap[w.heap.size]? =some (.cells #[.slice so n cap] 24)):=by rw[hW1];exact Qx w _ rfl
 have HZ1:Hid (W1.heap.size=w.heap.size+1):=by rw[hW1];exact World.size_alloc _ _
 have HW1:=hid hW1;clear hW1 h hz hT hx hq hA;go_enter func98,ntmps98
 go_wp2_with(first|(go_at_call 137;rw[<-HW1.out];refine(HI.out _ HB1.out).mono ?_;rintro e wq ⟨rfl,hbq⟩;have c0:=(Qw ((hbq.block _ (by rw[HZ1.out];exact Nat.lt_succ_self _)).trans HC1.out)).1;have HBq:Hid (Below w.heap.size w wq):=HB1.out.trans (hbq.mono HB1.out.size))|(go_at_call 138;refine(HT.out _ HBq.out).mono ?_;rintro e wz ⟨rfl,hbz⟩))
 go_ret2
 exact⟨rfl,HBq.out.trans (hbz.mono HBq.out.size)⟩
mutual
def toR:Nd->RT
 | .mk kd T C s p=>.mk (kd:Int) T (wd C 0:Nat) (wd C 1:Nat) (wd C 2:Nat) (wd C 3:Nat) (Uj s) (p:Int)
def Uj:List Nd->List RT
 |[]=>[]
 |n::r=>toR n::Uj r
end
mutual
theorem z3m:∀n:Nd,Tq (toR n) n
 | .mk kd T C s p=>by
   rw[toR,Tq];exact⟨rfl,rfl,rfl,rfl,rfl,rfl,z3n s⟩
theorem z3n:∀s:List Nd,TqL (Uj s) s
 |[]=>by rw[Uj,TqL];trivial
 |n::r=>by
  rw[Uj,TqL];exact⟨z3m n,z3n r⟩
end
theorem Hj:∀s:List Nd,Zw (Uj s)=Gy s/\(Uj s).isEmpty=s.isEmpty
 |[]=>⟨rfl,rfl⟩
 |n::r=>⟨by rw[Uj,Zw,Gy,(Hj r).1],by rw[Uj];rfl⟩
mutual
theorem z3o{w:World}{P:Nat->Prop}:∀(n:Nd) (cs:List Value),Sm n n->Qb w P n cs->Qk w w.heap.size (toR n) cs
 | .mk kd T C s p,cs,hs,h=>by
   rw[Sm]at hs;rw[Qb]at h;obtain⟨_,_,_,hl,hn⟩:=hs;obtain⟨sv,rfl,h⟩:=h;rw[toR,Qk];rcases h with⟨h1,rfl⟩|⟨h1,g,cap,cur,rfl,_,hg,_,h5⟩
   ·have hs0:s=[]:=by simpa using h1
    subst hs0;exact⟨none,0,rfl,.inl rfl⟩
   ·refine⟨some ⟨g,0,none⟩,cap,by rw[(Hj s).1],.inr ⟨by rw[(Hj s).2];exact h1,g,0,rfl,Qz hg,by rw[(Hj s).1,Nx];unfold maxLen;omega,z3p s cur.toList g 0 hl h5 fun j u hj=> ?_⟩⟩
    rw[Array.getElem?_toList]at hj;simp[World.cell?,hg,hj]
theorem z3p{w:World}{P:Nat->Prop}:∀(s:List Nd) (vs:List Value) (g o:Nat),SmL s s->Zq w P s vs->(∀j u,vs[j]? =some u->w.cell? ⟨g,o+j,none⟩=some u)->Qc w w.heap.size g o (Uj s)
 |[],vs,g,o,_,_,_=>by rw[Uj,Qc];trivial
 |n::r,vs,g,o,hs,h,hc=>by
  rw[SmL]at hs;rw[Zq]at h;obtain⟨c,rest,rfl,h1,h2⟩:=h;have hl:=h1.len;rw[Uj,Qc];refine⟨⟨c,z3o n c hs.1 h1,fun j u hj=>hc j u ?_⟩,z3p r rest g (o+8) hs.2 h2 fun j u hj=> ?_⟩
  ·have:j<c.length:=(List.getElem?_eq_some_iff.1 hj).1
   rw[List.getElem?_append_left this];exact hj
  ·rw[Nat.add_assoc]
   refine hc (8+j) u ?_;rw[List.getElem?_append_right (by omega),hl,Nat.add_sub_cancel_left];exact hj
end
theorem Np{T:ByteArray}(h:T={data:=#[]}):T.toList.isEmpty=true:=by
 subst h;rw[ByteArray.toList_eq];rfl
theorem Al{T:ByteArray}(h:T.toList.isEmpty=true):T={data:=#[]}:=by
 rw[ByteArray.toList_eq]at h;apply ByteArray.ext;simpa using h
theorem TqL.length{s:List RT}{q:List Nd}(h:TqL s q):q.length=Zw s:=by rw[<-Nx];exact h.len.1
theorem Nc:zc ((wd 0 0:Nat):Int) ((wd 0 1:Nat):Int) ((wd 0 2:Nat):Int) ((wd 0 3:Nat):Int)=true:=by decide
theorem z9T{kd:Nat}{T:ByteArray}{C n:Nat}{s:List Nd}(hn:s.length=n)(hv:(kd=1/\T={data:=#[]}/\C=0/\s=[])∨(kd=2/\C=0/\s=[])∨(kd=3/\T={data:=#[]}/\s=[])∨(kd=4/\T={data:=#[]}/\C=0/\s=[])∨(kd=5/\C=0/\s=[])∨
   ((kd=6∨kd=7)/\T={data:=#[]}/\C=0/\2<=s.length)∨(8<=kd/\kd<=12/\T={data:=#[]}/\C=0/\s.length=1))(w2:kd=2->T.size<=255)(w5:kd=5->nmS T=true):
  okN (kd:Int) T (wd C 0:Nat) (wd C 1:Nat) (wd C 2:Nat) (wd C 3:Nat) n=true:=by
 unfold okN;subst hn;rcases hv with⟨rfl,hT,rfl,rfl⟩|⟨rfl,rfl,rfl⟩|⟨rfl,hT,rfl⟩|⟨rfl,hT,rfl,rfl⟩|⟨rfl,rfl,rfl⟩|⟨hk,hT,rfl,hl⟩|⟨h8,h12,hT,rfl,hl⟩
 ·rw[if_pos (by decide),Np hT,Nc];rfl
 ·rw[if_neg (by decide),if_pos (by decide),Nc,decide_eq_true (by have:=w2 rfl;omega)];rfl
 ·rw[if_neg (by decide),if_neg (by decide),if_pos (by decide),Np hT];rfl
 ·rw[if_pos (by decide),Np hT,Nc];rfl
 ·rw[if_neg (by decide),if_neg (by decide),if_neg (by decide),if_pos (by decide),Nc,w5 rfl];rfl
 ·rw[if_neg (by omega),if_neg (by omega),if_neg (by omega),if_neg (by omega),if_pos (by omega),Np hT,Nc,decide_eq_true (by omega)];rfl
 ·rw[if_neg (by omega),if_neg (by omega),if_neg (by omega),if_neg (by omega),if_neg (by omega),if_pos (by omega),Np hT,Nc,hl];rfl
mutual
theorem Sc:∀(t:RT) (n:Nd),Tq t n->Vk n->Wf Nmq n->okT t=true/\RtZ t
 | .mk k T a b c d s p,.mk kd T' C s' pn,h,hv,hw=>by
   rw[Tq]at h;obtain⟨rfl,rfl,rfl,rfl,rfl,rfl,hs⟩:=h;have hkd:=hv.kd;rw[Vk]at hv;rw[Wf]at hw;obtain⟨hv1,hvs⟩:=hv;obtain⟨w2,w5,wc,ws⟩:=hw;obtain⟨h1,h2⟩:=z3q s s' hs hvs ws;rw[okT,RtZ,h1,Bool.and_true];refine⟨z9T hs.length hv1 w2 w5,?_,h2⟩;have hz:∀T:ByteArray,T={data:=#[]}->T.size<=9223372036854775807:=fun T h=>by rw[h];decide
   rcases hv1 with q|q|q|q|q|q|q
   ·exact hz _ q.2.1
   ·have:=w2 q.1;omega
   ·exact hz _ q.2.1
   ·exact hz _ q.2.1
   ·have:=Ec (w5 q.1);omega
   ·exact hz _ q.2.1
   ·exact hz _ q.2.2.1
theorem z3q:∀(s:List RT) (q:List Nd),TqL s q->VkL q->WfL Nmq q->okL s=true/\Yy s
 |[],[],_,_,_=>by rw[okL,Yy];exact⟨rfl,trivial⟩
 |[],_::_,h,_,_=>by simp[TqL]at h
 |_::_,[],h,_,_=>by simp[TqL]at h
 |t::r,n::q,h,hv,hw=>by
  rw[TqL]at h;rw[VkL]at hv;rw[WfL]at hw;obtain⟨a1,a2⟩:=Sc t n h.1 hv.1 hw.1;obtain⟨b1,b2⟩:=z3q r q h.2 hv.2 hw.2;rw[okL,Yy,a1,b1];exact⟨rfl,a2,b2⟩
end
end Go.Proofs.YtjodljnddflgfaaGreatDoor
