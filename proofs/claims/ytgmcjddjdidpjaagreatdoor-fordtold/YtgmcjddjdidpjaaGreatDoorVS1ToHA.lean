/- Lemmas for the last text. Conditions: those that each names. -/
import Derived.Test.YtgmcjddjdidpjaaGreatDoorVR8ToR9
import Derived.Test.YtgmcjddjdidpjaaGreatDoorVKPlainToKG2
import Derived.Test.YtgmcjddjdidpjaaGreatDoorVX7ToX9
set_option linter.unusedVariables false
set_option maxRecDepth 100000
set_option maxHeartbeats 8000000
namespace Go.Proofs.YtgmcjddjdidpjaaGreatDoor
open Go.Proofs.Tryz
open Go.RowKit Go.Shelf
abbrev Rr:=ByteArray×RT×Int
def Rk(w:World)(B g o:Nat)(x:Rr):Prop:=∃k T a b c d so n cap p,Qv w B x.2.1 (r8 k T a b c d so n cap p)/\w.cell? ⟨g,o,none⟩=some (.string x.1)/\w.cell? ⟨g,o+1,none⟩=some (.int .i64 k)/\w.cell? ⟨g,o+2,none⟩=some (.string T)/\w.cell? ⟨g,o+3,none⟩=some (.int .u64 a)/\w.cell? ⟨g,o+4,none⟩=some (.int .u64 b)/\w.cell? ⟨g,o+5,none⟩=some (.int .u64 c)/\w.cell? ⟨g,o+6,none⟩=some (.int .u64 d)/\w.cell? ⟨g,o+7,none⟩=some (.slice so n cap)/\w.cell? ⟨g,o+8,none⟩=some (.int .i64 p)/\w.cell? ⟨g,o+9,none⟩=some (.int .i64 x.2.2)
def Qg(w:World)(B:Nat)(so:Option Addr)(n:Nat)(rs:List Rr):Prop:=n=rs.length/\n<=maxLen/\∀j (hj:j<rs.length),∃g o,so=some ⟨g,o,none⟩/\g<B/\Rk w B g (o+j*10) rs[j]
theorem Rk.below{w w':World}{B g o:Nat}{x:Rr}(h:Rk w B g o x)(hb:Below B w w')(hg:g<B):Rk w' B g o x:=by
 obtain⟨k,T,a,b,c,d,so,n,cap,p,h1,z0,z1,z2,z3,z4,z5,z6,z7,z8,z9⟩:=h;have e:∀j,w'.cell? ⟨g,j,none⟩=w.cell? ⟨g,j,none⟩:=fun j=>hb.cell (p:=⟨g,j,none⟩) hg
 exact⟨k,T,a,b,c,d,so,n,cap,p,h1.below hb,(e _).trans z0,(e _).trans z1,(e _).trans z2,(e _).trans z3,(e _).trans z4,(e _).trans z5,(e _).trans z6,(e _).trans z7,(e _).trans z8,(e _).trans z9⟩
theorem Qg.below{w w':World}{B n:Nat}{so:Option Addr}{rs:List Rr}(h:Qg w B so n rs)(hb:Below B w w'):Qg w' B so n rs:=
 ⟨h.1,h.2.1,fun j hj=>by
   obtain⟨g,o,h1,h2,h3⟩:=h.2.2 j hj;exact⟨g,o,h1,h2,h3.below hb h2⟩⟩
def RgZ(rs:List Rr):Prop:=∀x∈rs,x.1.size<=9223372036854775807/\RtZ x.2.1
def okR(x:Rr):Bool:=nmS x.1&&okT x.2.1
def okG(rs:List Rr):Bool:=decide (1<=rs.length)&&(decide (rs.length<=64)&&rs.all okR)
theorem z3q{rs:List Rr}(j:Nat)(hj:j<rs.length)(h:okR rs[j]=false):rs.all okR=false:=by
 rw[List.all_eq_false];exact⟨_,List.getElem_mem hj,by rw[h];simp⟩
theorem y0G{rs:List Rr}(h:∀j (hj:j<rs.length),okR rs[j]=true):rs.all okR=true:=by
 rw[List.all_eq_true];intro x hx;obtain⟨j,hj,rfl⟩:=List.mem_iff_getElem.1 hx;exact h j hj
theorem z3r(so:Option Addr)(n cap:Nat)(rs:List Rr)(B:Nat)(w:World)(hz:RgZ rs)(h:Qg w B so n rs)(hB:B<=w.heap.size):
  Calls prog 182 #[.agg #[.slice so n cap]] w fun e w'=>e=.returned (.bool (okG rs))/\Below w.heap.size w w':=by
 obtain⟨R,hR⟩:∃R,R=okG rs:=⟨_,rfl⟩;have HR:=hid hR;rw[<-hR];clear hR;have HN:Hid (n=rs.length):=h.1;have hm:n<=9223372036854775807:=by have:=h.2.1;unfold maxLen at this;omega
 have HG:=hid h;have HZ:=hid hz;clear h hz;by_cases h0:n=0
 ·have q0:((n:Int) == 0)=true:=by simp;omega
  clear HG;go_enter func182,ntmps182
  go_wp2_with fail
  go_ret;refine⟨?_,B0q.alloc L0q _⟩;rw[HR.out];unfold okG;rw[decide_eq_false (by have:=HN.out;omega)];rfl
 have q0:((n:Int) == 0)=false:=by simp;omega
 by_cases h1:64<n
 ·have q1:(64:Int)<(n:Int):=by omega
  have q2:decide ((64:Int)<(n:Int))=true:=by simp;omega
  clear HG;go_enter func182,ntmps182
  go_wp2_with fail
  go_ret;refine⟨?_,B0q.alloc L0q _⟩;rw[HR.out];unfold okG;rw[decide_eq_false (p:=rs.length<=64) (by have:=HN.out;omega),Bool.false_and,Bool.and_false];rfl
 have q1:¬(64:Int)<(n:Int):=by omega
 have q2:decide ((64:Int)<(n:Int))=false:=by simp;omega
 have HR2:Hid (R=rs.all okR):=by
  refine HR.out.trans ?_;unfold okG;rw[decide_eq_true (by have:=HN.out;omega),decide_eq_true (p:=rs.length<=64) (by have:=HN.out;omega)];rfl
 clear HR;have HB0:Hid (Below w.heap.size w (w.alloc (.cells #[.slice so n cap] 24))):=(Below.refl _ w).alloc L0q _;go_enter func182,ntmps182
 go_wp2_with fail
 go_loopw [18] (fun i wr=>∃j:Nat,i=.int .i64 j/\j<=n/\Hid (Below w.heap.size w wr)/\Hid (∀i (hi:i<rs.length),i<j->okR rs[i]=true)) (fun i _=>n-(intOf i).toNat)
 case atStart=>exact⟨0,rfl,Nat.zero_le _,HB0,fun i _ h=>absurd h (by omega)⟩
 case round=>
  obtain⟨j,rfl,hj,HB,HO⟩:=hrel;clear HB0;by_cases hjn:j<n
  ·have hjI:(j:Int)<(n:Int):=by omega
   have a0:decide ((j:Int)<(n:Int))=true:=by simp;omega
   have hjs:j<rs.length:=by rw[<-HN.out];exact hjn
   have HGr:=hid (HG.out.below (HB.out.mono hB));obtain⟨g,o,rfl,hg,k1,T1,a1,b1,c1,d1,so1,n1,cap1,p1,rt,z0,z1,z2,z3,z4,z5,z6,z7,z8,z9⟩:=HGr.out.2.2 j hjs;obtain⟨zn,zt⟩:=HZ.out rs[j] (List.getElem_mem hjs);have HE:=hid (fun W (hb:Below wr.heap.size wr W)=>y0F rs[j].2.1 _ B W zt (rt.below (hb.mono (Nat.le_trans hB HB.out.size))) (Nat.le_trans (Nat.le_trans hB HB.out.size) hb.size));have HM:=hid (fun W=>z3k rs[j].1 W zn);obtain⟨Q,hQ⟩:∃Q,Q=okT rs[j].2.1:=⟨_,rfl⟩;obtain⟨M,hM⟩:∃M,M=nmS rs[j].1:=⟨_,rfl⟩;have HQ:Hid (okR rs[j]=(M&&Q)):=by show(nmS rs[j].1&&okT rs[j].2.1)=_;rw[hQ,hM]
   obtain⟨N0,hN0⟩:∃N0,N0=rs[j].1:=⟨_,rfl⟩;obtain⟨p0,hp0⟩:∃p0,p0=rs[j].2.2:=⟨_,rfl⟩;rw[<-hQ]at HE;rw[<-hM,<-hN0]at HM;rw[<-hN0]at z0;rw[<-hp0]at z9;have hgl:g<wr.heap.size:=Nat.lt_of_lt_of_le hg (Nat.le_trans hB HB.out.size);clear rt hQ hM hN0 hp0 HG HGr HZ zn zt;dsimp only[r8]at HE
   go_wp2_with(first|(go_at_call 219;refine(HM.out _).mono ?_;rintro e wz ⟨rfl,rfl⟩)|(go_at_call 220;refine(HE.out _ ?hh).mono ?_;(case hh=>exact B0q.alloc L0q _);rintro e wy ⟨rfl,hby⟩))
   ·rename_i hq
    have hb2:=HB.out.trans ((((Below.refl _ wr).alloc L0q _).trans (hby.mono (by simp))).mono HB.out.size);have hQ0:Q=false:=by simpa using hq
    go_ret;refine⟨?_,hb2⟩;rw[HR2.out,z3q j hjs (by rw[HQ.out,hQ0,Bool.and_false])];rfl
   ·rename_i hM1 hby2 hq
    have hb2:=HB.out.trans ((((Below.refl _ wr).alloc L0q _).trans (hby.mono (by simp))).mono HB.out.size);have hQ1:Q=true:=by simpa using hq
    refine⟨⟨j+1,by go_num,by omega,hb2,fun i hi hij=> ?_⟩,?_⟩
    ·rcases Nat.lt_or_ge i j with h1|h1
     ·exact HO.out i hi h1
     ·obtain rfl:i=j:=by omega
      rw[HQ.out,hQ1]
      first|rfl|(simp_all)
    ·simp[intOf];omega
   ·rename_i hq
    have hM0:M=false:=by simpa using hq
    go_ret;refine⟨?_,HB.out.trans (((Below.refl _ wr).alloc L0q _).mono HB.out.size)⟩;rw[HR2.out,z3q j hjs (by rw[HQ.out,hM0,Bool.false_and])];rfl
  ·have a0:decide ((j:Int)<(n:Int))=false:=by simp;omega
   clear HG HZ
   go_wp2_with fail
   go_ret;refine⟨?_,HB.out⟩;rw[HR2.out,y0G fun i hi=>HO.out i hi (by have:=HN.out;omega)];rfl
@[reducible] def Ot:=Bool×Bool×Bool
def suc(x:Ot):Bool:=x.1||x.2.1
def Gg(a n:Ot):Ot:=(a.1&&n.1,a.2.1&&suc n||a.1&&n.2.1,a.2.2||suc a&&n.2.2)
def Jl(a n:Ot):Ot:=(a.1||a.2.2&&n.1,a.2.1||a.2.2&&n.2.1,a.2.2&&n.2.2)
def Zc(k:Int)(x:Ot):Ot:=
 if k=8 then(x.1||x.2.2,x.2.1,false)else if k=9 then(x.2.2,x.2.1,false)else if k=10 then(x.1&&x.2.2,x.2.1,x.2.2)else if k=11 then(suc x,false,x.2.2)else if k=12 then(x.2.2,false,suc x)else(false,false,false)
mutual
def ofT(K:ByteArray->Ot):RT->Ot
 | .mk k T a b c d s p=>
   if k=1 then(true,false,false)else if k=2 then(if T.size=0 then(true,false,false)else(false,true,true))else if k=3 then(if a=0/\b=0/\c=0/\d=0 then(false,false,true)else(false,true,true))else if k=4 then(false,true,true)else if k=5 then K T else if k=6 then ofS K (true,false,false) s else if k=7 then ofA K (false,false,true) s else Zc k (ofH K s)
def ofS(K:ByteArray->Ot)(acc:Ot):List RT->Ot
 |[]=>acc
 |t::r=>ofS K (Gg acc (ofT K t)) r
def ofA(K:ByteArray->Ot)(acc:Ot):List RT->Ot
 |[]=>acc
 |t::r=>ofA K (Jl acc (ofT K t)) r
def ofH(K:ByteArray->Ot):List RT->Ot
 |[]=>(false,false,false)
 |t::r=>ofT K t
end
def leO(x y:Ot):Bool:=(!x.1||y.1)&&((!x.2.1||y.2.1)&&(!x.2.2||y.2.2))
theorem Gb(x:Ot):leO x x=true:=by obtain⟨a,b,c⟩:=x;revert a b c;decide
theorem Wl{x y z:Ot}:leO x y=true->leO y z=true->leO x z=true:=by
 obtain⟨a,b,c⟩:=x;obtain⟨d,e,f⟩:=y;obtain⟨g,h,i⟩:=z
 revert a b c d e f g h i
 decide
theorem y0H{x y a b:Ot}:leO x y=true->leO a b=true->leO (Gg x a) (Gg y b)=true:=by
 obtain⟨x1,x2,x3⟩:=x;obtain⟨y1,y2,y3⟩:=y;obtain⟨a1,a2,a3⟩:=a;obtain⟨b1,b2,b3⟩:=b
 revert x1 x2 x3 y1 y2 y3 a1 a2 a3 b1 b2 b3
 decide+kernel
theorem y0I{x y a b:Ot}:leO x y=true->leO a b=true->leO (Jl x a) (Jl y b)=true:=by
 obtain⟨x1,x2,x3⟩:=x;obtain⟨y1,y2,y3⟩:=y;obtain⟨a1,a2,a3⟩:=a;obtain⟨b1,b2,b3⟩:=b
 revert x1 x2 x3 y1 y2 y3 a1 a2 a3 b1 b2 b3
 decide+kernel
theorem y0J(k:Int){x y:Ot}:leO x y=true->leO (Zc k x) (Zc k y)=true:=by
 obtain⟨x1,x2,x3⟩:=x;obtain⟨y1,y2,y3⟩:=y;unfold Zc;by_cases h8:k=8
 ·rw[if_pos h8,if_pos h8];revert x1 x2 x3 y1 y2 y3;decide
 rw[if_neg h8,if_neg h8];by_cases h9:k=9
 ·rw[if_pos h9,if_pos h9];revert x1 x2 x3 y1 y2 y3;decide
 rw[if_neg h9,if_neg h9];by_cases h10:k=10
 ·rw[if_pos h10,if_pos h10];revert x1 x2 x3 y1 y2 y3;decide
 rw[if_neg h10,if_neg h10];by_cases h11:k=11
 ·rw[if_pos h11,if_pos h11];revert x1 x2 x3 y1 y2 y3;decide
 rw[if_neg h11,if_neg h11];by_cases h12:k=12
 ·rw[if_pos h12,if_pos h12];revert x1 x2 x3 y1 y2 y3;decide
 rw[if_neg h12,if_neg h12];intro _;exact Gb _
mutual
theorem Cg{K K':ByteArray->Ot}(h:∀s,leO (K s) (K' s)=true):∀t:RT,leO (ofT K t) (ofT K' t)=true
 | .mk k T a b c d s p=>by
   rw[ofT,ofT];by_cases h1:k=1
   ·rw[if_pos h1,if_pos h1];exact Gb _
   rw[if_neg h1,if_neg h1];by_cases h2:k=2
   ·rw[if_pos h2,if_pos h2];exact Gb _
   rw[if_neg h2,if_neg h2];by_cases h3:k=3
   ·rw[if_pos h3,if_pos h3];exact Gb _
   rw[if_neg h3,if_neg h3];by_cases h4:k=4
   ·rw[if_pos h4,if_pos h4];exact Gb _
   rw[if_neg h4,if_neg h4];by_cases h5:k=5
   ·rw[if_pos h5,if_pos h5];exact h T
   rw[if_neg h5,if_neg h5];by_cases h6:k=6
   ·rw[if_pos h6,if_pos h6];exact z3s h s _ _ (Gb _)
   rw[if_neg h6,if_neg h6];by_cases h7:k=7
   ·rw[if_pos h7,if_pos h7];exact z3t h s _ _ (Gb _)
   rw[if_neg h7,if_neg h7];exact y0J k (y0K h s)
theorem z3s{K K':ByteArray->Ot}(h:∀s,leO (K s) (K' s)=true):∀(l:List RT) (x y:Ot),leO x y=true->leO (ofS K x l) (ofS K' y l)=true
 |[],x,y,hx=>by rw[ofS,ofS];exact hx
 |t::r,x,y,hx=>by rw[ofS,ofS];exact z3s h r _ _ (y0H hx (Cg h t))
theorem z3t{K K':ByteArray->Ot}(h:∀s,leO (K s) (K' s)=true):∀(l:List RT) (x y:Ot),leO x y=true->leO (ofA K x l) (ofA K' y l)=true
 |[],x,y,hx=>by rw[ofA,ofA];exact hx
 |t::r,x,y,hx=>by rw[ofA,ofA];exact z3t h r _ _ (y0I hx (Cg h t))
theorem y0K{K K':ByteArray->Ot}(h:∀s,leO (K s) (K' s)=true):∀(l:List RT),leO (ofH K l) (ofH K' l)=true
 |[]=>by rw[ofH,ofH];exact Gb _
 |t::r=>by rw[ofH,ofH];exact Cg h t
end
def Gh(K:ByteArray->Ot)(s:ByteArray)(x:Ot):ByteArray->Ot:=fun t=>if t=s then x else K t
def Uc(K:ByteArray->Ot)(x:Rr):ByteArray->Ot:=Gh K x.1 (ofT K x.2.1)
def swp(K:ByteArray->Ot):List Rr->(ByteArray->Ot)
 |[]=>K
 |x::r=>Uc (swp K r) x
def z0O:ByteArray->Ot:=fun _=>(false,false,false)
def itr(rs:List Rr):Nat->(ByteArray->Ot)
 |0=>z0O
 |n+1=>swp (itr rs n) rs
def Yv(K:ByteArray->Ot)(rs:List Rr):Prop:=∀x∈rs,ofT K x.2.1=K x.1
theorem z3u{K:ByteArray->Ot}{s:ByteArray}{x:Ot}(h:x=K s):Gh K s x=K:=by
 funext t;unfold Gh;by_cases e:t=s
 ·rw[if_pos e,h,e]
 ·rw[if_neg e]
theorem z3v{K:ByteArray->Ot}:∀{rs:List Rr},Yv K rs->swp K rs=K
 |[],_=>rfl
 |x::r,h=>by
  rw[swp,z3v (fun y hy=>h y (List.mem_cons_of_mem _ hy)),Uc];exact z3u (h x (List.mem_cons_self ..))
theorem z0a{rs:List Rr}{n:Nat}(h:Yv (itr rs n) rs):∀m,itr rs (n+m)=itr rs n
 |0=>rfl
 |m+1=>by rw[<-Nat.add_assoc,itr,z0a h m,z3v h]
theorem y0L{rs:List Rr}{n m:Nat}(h:Yv (itr rs n) rs)(k:Yv (itr rs m) rs):itr rs n=itr rs m:=by
 rcases Nat.le_total n m with e|e
 ·rw[<-Nat.add_sub_cancel' e,z0a h]
 ·rw[<-Nat.add_sub_cancel' e,z0a k]
def Mh(K:ByteArray->Ot)(rs:List Rr):Prop:=∀x∈rs,leO (K x.1) (ofT K x.2.1)=true
theorem z3w{K:ByteArray->Ot}{x:Rr}(h:leO (K x.1) (ofT K x.2.1)=true):∀s,leO (K s) (Uc K x s)=true:=fun s=>by
 unfold Uc Gh;by_cases e:s=x.1
 ·rw[if_pos e,e];exact h
 ·rw[if_neg e];exact Gb _
theorem y0M{K:ByteArray->Ot}{rs:List Rr}{x:Rr}(hu:∀y∈rs,y.1=x.1->y=x)(hx:x∈rs)(h:Mh K rs):Mh (Uc K x) rs:=fun y hy=>by
 have hle:=z3w (h x hx);by_cases e:y.1=x.1
 ·rw[hu y hy e]
  refine Wl ?_ (Cg hle x.2.1);unfold Uc Gh;rw[if_pos rfl];exact Gb _
 ·refine Wl ?_ (Wl (h y hy) (Cg hle y.2.1))
  unfold Uc Gh;rw[if_neg e];exact Gb _
def Md(x:Ot):Nat:=x.1.toNat+(x.2.1.toNat+x.2.2.toNat)
theorem z3x(x:Ot):Md x<=3:=by obtain⟨a,b,c⟩:=x;revert a b c;decide
theorem z3y{x y:Ot}:leO x y=true->Md x<=Md y:=by
 obtain⟨a,b,c⟩:=x;obtain⟨d,e,f⟩:=y
 revert a b c d e f
 decide
theorem y0N{x y:Ot}:leO x y=true->x≠y->Md x<Md y:=by
 obtain⟨a,b,c⟩:=x;obtain⟨d,e,f⟩:=y
 revert a b c d e f
 decide
def lck(K:ByteArray->Ot):List Rr->Nat
 |[]=>0
 |x::r=>(3-Md (K x.1))+lck K r
theorem z3z{K K':ByteArray->Ot}(h:∀s,leO (K s) (K' s)=true):∀rs:List Rr,lck K' rs<=lck K rs
 |[]=>Nat.le_refl _
 |x::r=>by
  have h1:=z3z h r;have h2:=z3y (h x.1);rw[lck,lck];omega
theorem z3A{K K':ByteArray->Ot}(h:∀s,leO (K s) (K' s)=true):∀{rs:List Rr} {x:Rr},x∈rs->K x.1≠K' x.1->lck K' rs<lck K rs
 |y::r,x,hx,hne=>by
  have h1:=z3z h r;have h2:=z3y (h y.1);have h4:=z3x (K y.1);have h5:=z3x (K' y.1);rw[lck,lck];rcases List.mem_cons.1 hx with rfl|hx
  ·have h3:=y0N (h x.1) hne
   omega
  ·have h3:=z3A h hx hne
   omega
section
abbrev Ah:=Nat×Bool
def leA(x y:Ah):Prop:=(∀i,x.1.testBit i=true->y.1.testBit i=true)/\(x.2=true->y.2=true)
theorem Ul(x:Ah):leA x x:=⟨fun _ h=>h,fun h=>h⟩
theorem Lx{x y z:Ah}(h:leA x y)(k:leA y z):leA x z:=⟨fun i hi=>k.1 i (h.1 i hi),fun e=>k.2 (h.2 e)⟩
def Gz(on:Bool)(x y:Ah):Ah:=(if on then x.1&&&y.1 else x.1,x.2&&y.2)
def orA(x y:Ah):Ah:=(x.1|||y.1,x.2||y.2)
theorem y0O{on:Bool}{x x' y y':Ah}(h:leA x x')(k:leA y y'):leA (Gz on x y) (Gz on x' y'):=by
 unfold Gz;refine⟨fun i hi=> ?_,fun e=> ?_⟩
 ·cases on with
  |true=>
   simp only[if_true,Nat.testBit_and,Bool.and_eq_true]at hi ⊢;exact⟨h.1 i hi.1,k.1 i hi.2⟩
  |false=>
   simp only[Bool.false_eq_true,if_false]at hi ⊢;exact h.1 i hi
 ·simp only[Bool.and_eq_true]at e ⊢
  exact⟨h.2 e.1,k.2 e.2⟩
theorem y0P{x x' y y':Ah}(h:leA x x')(k:leA y y'):leA (orA x y) (orA x' y'):=by
 unfold orA;refine⟨fun i hi=> ?_,fun e=> ?_⟩
 ·simp only[Nat.testBit_or,Bool.or_eq_true]at hi ⊢
  exact hi.imp (h.1 i) (k.1 i)
 ·simp only[Bool.or_eq_true]at e ⊢
  exact e.imp h.2 k.2
def Xx:Ah:=(Qj,true)
def rtK:RT->Int
 | .mk k _ _ _ _ _ _ _=>k
def rtT:RT->ByteArray
 | .mk _ T _ _ _ _ _ _=>T
def Dl(t:RT):Bool:=(decide (rtK t=2)&&decide ((rtT t).size=1))||(decide (rtK t=3)||decide (rtK t=4))
def cl4(a b c d:Int):Nat:=cls a.toNat b.toNat c.toNat d.toNat
section
variable (K:ByteArray->Ot)
mutual
def afT(F:ByteArray->Ah):RT->Ah
 | .mk k T a b c d s p=>
   if k=2 then(if T.size=0 then Xx else(2^((T.data[0]?.map (·.toNat)).getD 0),false))else if k=1∨k=8∨k=9 then Xx else if k=3 then(cl4 a b c d,false)else if k=4 then(Qj,false)else if k=5 then F T else if k=6 then afS F true Xx s else if k=7 then afA F (0,false) s else if k=12 then afN F s else afH F s
def afS(F:ByteArray->Ah)(on:Bool)(acc:Ah):List RT->Ah
 |[]=>acc
 |t::r=>afS F (on&& !(ofT K t).2.1) (Gz on acc (afT F t)) r
def afA(F:ByteArray->Ah)(acc:Ah):List RT->Ah
 |[]=>acc
 |t::r=>afA F (orA acc (afT F t)) r
def afN(F:ByteArray->Ah):List RT->Ah
 |[]=>Xx
 |t::_=>if Dl t then(Zj (afT F t).1,true)else Xx
def afH(F:ByteArray->Ah):List RT->Ah
 |[]=>(0,false)
 |t::_=>afT F t
end
theorem y0Q{F G:ByteArray->Ah}:∀t:RT,Dl t=true->afT K F t=afT K G t
 | .mk k T a b c d s p,h=>by
   unfold Dl rtK rtT at h;simp only[Bool.or_eq_true,Bool.and_eq_true,decide_eq_true_eq]at h;rw[afT,afT];rcases h with⟨rfl,_⟩|rfl|rfl
   ·rfl
   ·rfl
   ·rfl
mutual
theorem Ch{F G:ByteArray->Ah}(h:∀s,leA (F s) (G s)):∀t:RT,leA (afT K F t) (afT K G t)
 | .mk k T a b c d s p=>by
   rw[afT,afT];by_cases h2:k=2
   ·rw[if_pos h2,if_pos h2];exact Ul _
   rw[if_neg h2,if_neg h2];by_cases h1:k=1∨k=8∨k=9
   ·rw[if_pos h1,if_pos h1];exact Ul _
   rw[if_neg h1,if_neg h1];by_cases h3:k=3
   ·rw[if_pos h3,if_pos h3];exact Ul _
   rw[if_neg h3,if_neg h3];by_cases h4:k=4
   ·rw[if_pos h4,if_pos h4];exact Ul _
   rw[if_neg h4,if_neg h4];by_cases h5:k=5
   ·rw[if_pos h5,if_pos h5];exact h T
   rw[if_neg h5,if_neg h5];by_cases h6:k=6
   ·rw[if_pos h6,if_pos h6];exact z3B h s _ _ _ (Ul _)
   rw[if_neg h6,if_neg h6];by_cases h7:k=7
   ·rw[if_pos h7,if_pos h7];exact z3C h s _ _ (Ul _)
   rw[if_neg h7,if_neg h7];by_cases h12:k=12
   ·rw[if_pos h12,if_pos h12];exact y0R h s
   rw[if_neg h12,if_neg h12];exact y0S h s
theorem z3B{F G:ByteArray->Ah}(h:∀s,leA (F s) (G s)):∀(l:List RT) (on:Bool) (x y:Ah),leA x y->leA (afS K F on x l) (afS K G on y l)
 |[],on,x,y,hx=>by rw[afS,afS];exact hx
 |t::r,on,x,y,hx=>by rw[afS,afS];exact z3B h r _ _ _ (y0O hx (Ch h t))
theorem z3C{F G:ByteArray->Ah}(h:∀s,leA (F s) (G s)):∀(l:List RT) (x y:Ah),leA x y->leA (afA K F x l) (afA K G y l)
 |[],x,y,hx=>by rw[afA,afA];exact hx
 |t::r,x,y,hx=>by rw[afA,afA];exact z3C h r _ _ (y0P hx (Ch h t))
theorem y0R{F G:ByteArray->Ah}(h:∀s,leA (F s) (G s)):∀(l:List RT),leA (afN K F l) (afN K G l)
 |[]=>by rw[afN,afN];exact Ul _
 |t::r=>by
  rw[afN,afN];by_cases e:Dl t=true
  ·rw[if_pos e,if_pos e,y0Q K (F:=F) (G:=G) t e];exact Ul _
  ·rw[if_neg e,if_neg e];exact Ul _
theorem y0S{F G:ByteArray->Ah}(h:∀s,leA (F s) (G s)):∀(l:List RT),leA (afH K F l) (afH K G l)
 |[]=>by rw[afH,afH];exact Ul _
 |t::r=>by rw[afH,afH];exact Ch h t
end
def Gq(F:ByteArray->Ah)(s:ByteArray)(x:Ah):ByteArray->Ah:=fun t=>if t=s then x else F t
def Gx(F:ByteArray->Ah)(x:Rr):ByteArray->Ah:=Gq F x.1 (afT K F x.2.1)
def Cd(F:ByteArray->Ah):List Rr->(ByteArray->Ah)
 |[]=>F
 |x::r=>Gx K (Cd F r) x
def z0A:ByteArray->Ah:=fun _=>(0,false)
def Xw(rs:List Rr):Nat->(ByteArray->Ah)
 |0=>z0A
 |n+1=>Cd K (Xw rs n) rs
def Mm(F:ByteArray->Ah)(rs:List Rr):Prop:=∀x∈rs,afT K F x.2.1=F x.1
theorem y0T{F:ByteArray->Ah}{s:ByteArray}{x:Ah}(h:x=F s):Gq F s x=F:=by
 funext t;unfold Gq;by_cases e:t=s
 ·rw[if_pos e,h,e]
 ·rw[if_neg e]
def Mp(F:ByteArray->Ah)(rs:List Rr):Prop:=∀x∈rs,leA (F x.1) (afT K F x.2.1)
theorem z3D{F:ByteArray->Ah}{x:Rr}(h:leA (F x.1) (afT K F x.2.1)):∀s,leA (F s) (Gx K F x s):=fun s=>by
 unfold Gx Gq;by_cases e:s=x.1
 ·rw[if_pos e,e];exact h
 ·rw[if_neg e];exact Ul _
theorem y0U{F:ByteArray->Ah}{rs:List Rr}{x:Rr}(hu:∀y∈rs,y.1=x.1->y=x)(hx:x∈rs)(h:Mp K F rs):Mp K (Gx K F x) rs:=fun y hy=>by
 have hle:=z3D K (h x hx);by_cases e:y.1=x.1
 ·rw[hu y hy e]
  refine Lx ?_ (Ch K hle x.2.1);unfold Gx Gq;rw[if_pos rfl];exact Ul _
 ·refine Lx ?_ (Lx (h y hy) (Ch K hle y.2.1))
  unfold Gx Gq;rw[if_neg e];exact Ul _
end
def Jy(x:Ah):Nat:=pc 256 x.1+x.2.toNat
theorem z0b{C D:Nat}(h:∀i,C.testBit i=true->D.testBit i=true):∀k,pc k C<=pc k D
 |0=>Nat.le_refl _
 |k+1=>by
  have h1:=z0b h k;have h2:(C.testBit k).toNat<=(D.testBit k).toNat:=by
   cases e:C.testBit k with
   |false=>simp
   |true=>rw[h k e];simp
  rw[pc,pc];omega
theorem z3E{C D:Nat}(h:∀i,C.testBit i=true->D.testBit i=true){j:Nat}(h1:C.testBit j=false)(h2:D.testBit j=true):∀k,j<k->pc k C<pc k D
 |0,hj=>by omega
 |k+1,hj=>by
  have hm:=z0b h k;have hb:(C.testBit k).toNat<=(D.testBit k).toNat:=by
   cases e:C.testBit k with
   |false=>simp
   |true=>rw[h k e];simp
  rw[pc,pc];rcases Nat.lt_or_ge j k with hk|hk
  ·have:=z3E h h1 h2 k hk
   omega
  ·obtain rfl:j=k:=by omega
   rw[h1,h2]at*;simp at*;omega
theorem z3F(x:Ah):Jy x<=257:=by
 have h1:=z0N 256 x.1;have h2:=Bool.toNat_le x.2;unfold Jy;omega
theorem z3G{x y:Ah}(h:leA x y):Jy x<=Jy y:=by
 have h1:=z0b h.1 256;have h2:x.2.toNat<=y.2.toNat:=by
  cases e:x.2 with
  |false=>simp
  |true=>rw[h.2 e];simp
 unfold Jy;omega
theorem y0V{x y:Ah}(hx:x.1<2^256)(hy:y.1<2^256)(h:leA x y)(hne:x≠y):Jy x<Jy y:=by
 have h2:x.2.toNat<=y.2.toNat:=by
  cases e:x.2 with
  |false=>simp
  |true=>rw[h.2 e];simp
 by_cases e1:x.1=y.1
 ·have e2:x.2≠y.2:=fun e=>hne (Prod.ext e1 e)
  have h3:x.2.toNat<y.2.toNat:=by
   cases a:x.2 with
   |true=>exact absurd ((h.2 a).trans a.symm).symm e2
   |false=>
    cases b:y.2 with
    |true=>simp
    |false=>exact absurd (a.trans b.symm) e2
  unfold Jy;rw[e1];omega
 ·have hj:∃j,x.1.testBit j=false/\y.1.testBit j=true:=Classical.byContradiction fun hn=>e1 (Nat.eq_of_testBit_eq fun i=>by
   cases a:x.1.testBit i with
   |true=>exact(h.1 i a).symm
   |false=>
    cases b:y.1.testBit i with
    |false=>rfl
    |true=>exact absurd ⟨i,a,b⟩ hn)
  obtain⟨j,a,b⟩:=hj;have hlt:j<256:=by
   rcases Nat.lt_or_ge j 256 with h|h
   ·exact h
   ·rw[Nat.testBit_lt_two_pow (Nat.lt_of_lt_of_le hy (Nat.pow_le_pow_right (by decide) h))]at b
    cases b
  have:=z3E h.1 a b 256 hlt;unfold Jy;omega
def Xg(F:ByteArray->Ah):List Rr->Nat
 |[]=>0
 |x::r=>(257-Jy (F x.1))+Xg F r
theorem z3H{F G:ByteArray->Ah}(h:∀s,leA (F s) (G s)):∀rs:List Rr,Xg G rs<=Xg F rs
 |[]=>Nat.le_refl _
 |x::r=>by
  have h1:=z3H h r;have h2:=z3G (h x.1);rw[Xg,Xg];omega
theorem z3I{F G:ByteArray->Ah}(h:∀s,leA (F s) (G s))(hF:∀s,(F s).1<2^256)(hG:∀s,(G s).1<2^256):∀{rs:List Rr} {x:Rr},x∈rs->F x.1≠G x.1->Xg G rs<Xg F rs
 |y::r,x,hx,hne=>by
  have h1:=z3H h r;have h2:=z3G (h y.1);have h4:=z3F (F y.1);have h5:=z3F (G y.1);rw[Xg,Xg];rcases List.mem_cons.1 hx with rfl|hx
  ·have h3:=y0V (hF x.1) (hG x.1) (h x.1) hne
   omega
  ·have h3:=z3I h hF hG hx hne
   omega
end
section
inductive Jb where
 |one (t:RT)
 |row (s:List RT)
 |alt (s:List RT)
 |rep (t:RT)
def Gd(N T:ByteArray)(at':Nat):Bool:=Lib.hasPrefix (T.extract at' T.size).data.toList N.data.toList
def Yw(C:Nat)(T:ByteArray)(at':Nat):Bool:=match T.data[at']? with
 |some x=>C.testBit x.toNat
 |none=>false
def Yj(b:Bool)(e:Nat):Option Nat:=if b then some e else none
section
variable (B:ByteArray->Option RT) (T:ByteArray)
inductive Mt:Jb->Nat->Option Nat->Nat->Prop
 |emp {N a b c d s p i}:Mt (.one (.mk 1 N a b c d s p)) i (some i) 1
 |lit {N a b c d s p i}:Mt (.one (.mk 2 N a b c d s p)) i (Yj (Gd N T i) (i+N.size)) 1
 |set {N a b c d s p i}:Mt (.one (.mk 3 N a b c d s p)) i (Yj (Yw (cl4 a b c d) T i) (i+1)) 1
 |any {N a b c d s p i}:Mt (.one (.mk 4 N a b c d s p)) i (Yj (Yw Qj T i) (i+1)) 1
 |ref {N a b c d s p i t e n}:B N=some t->Mt (.one t) i e n->Mt (.one (.mk 5 N a b c d s p)) i e (n+1)
 |seq {N a b c d s p i e n}:Mt (.row s) i e n->Mt (.one (.mk 6 N a b c d s p)) i e (n+1)
 |cho {N a b c d s p i e n}:Mt (.alt s) i e n->Mt (.one (.mk 7 N a b c d s p)) i e (n+1)
 |opt {N a b c d t r p i e n}:Mt (.one t) i e n->Mt (.one (.mk 8 N a b c d (t::r) p)) i (some (e.getD i)) (n+1)
 |star {N a b c d t r p i e n}:Mt (.rep t) i e n->Mt (.one (.mk 9 N a b c d (t::r) p)) i e (n+1)
 |plus_no {N a b c d t r p i n}:Mt (.one t) i none n->Mt (.one (.mk 10 N a b c d (t::r) p)) i none (n+1)
 |plus_ok {N a b c d t r p i x e n m}:Mt (.one t) i (some x) n->Mt (.rep t) x e m->Mt (.one (.mk 10 N a b c d (t::r) p)) i e (n+m+1)
 |and {N a b c d t r p i e n}:Mt (.one t) i e n->Mt (.one (.mk 11 N a b c d (t::r) p)) i (Yj e.isSome i) (n+1)
 |not {N a b c d t r p i e n}:Mt (.one t) i e n->Mt (.one (.mk 12 N a b c d (t::r) p)) i (Yj e.isNone i) (n+1)
 |row_nil {i}:Mt (.row []) i (some i) 0
 |row_no {t r i n}:Mt (.one t) i none n->Mt (.row (t::r)) i none n
 |row_ok {t r i x e n m}:Mt (.one t) i (some x) n->Mt (.row r) x e m->Mt (.row (t::r)) i e (n+m)
 |alt_nil {i}:Mt (.alt []) i none 0
 |alt_ok {t r i x n}:Mt (.one t) i (some x) n->Mt (.alt (t::r)) i (some x) n
 |alt_no {t r i e n m}:Mt (.one t) i none n->Mt (.alt r) i e m->Mt (.alt (t::r)) i e (n+m)
 |rep_end {t i n}:Mt (.one t) i none n->Mt (.rep t) i (some i) n
 |rep_go {t i x e n m}:Mt (.one t) i (some x) n->Mt (.rep t) x e m->Mt (.rep t) i e (n+m)
end
variable {B:ByteArray->Option RT} {T:ByteArray}
theorem Dx{j:Jb}{i:Nat}{e:Option Nat}{n:Nat}(h:Mt B T j i e n):∀{e':Option Nat} {n':Nat},Mt B T j i e' n'->e=e'/\n=n':=by
 induction h with
 |emp|lit|set|any=>intro e' n' k;cases k;exact⟨rfl,rfl⟩
 |row_nil|alt_nil=>intro e' n' k;cases k;exact⟨rfl,rfl⟩
 |ref h1 h2 ih=>
  intro e' n' k;cases k with
  |ref k1 k2=>
   rw[h1]at k1;cases k1;obtain⟨rfl,rfl⟩:=ih k2;exact⟨rfl,rfl⟩
 |seq _ ih|cho _ ih|opt _ ih|star _ ih|and _ ih|not _ ih=>
  intro e' n' k;cases k;rename_i k;obtain⟨rfl,rfl⟩:=ih k;exact⟨rfl,rfl⟩
 |plus_no _ ih=>
  intro e' n' k;cases k with
  |plus_no k=>obtain⟨_,rfl⟩:=ih k;exact⟨rfl,rfl⟩
  |plus_ok k _=>cases(ih k).1
 |plus_ok _ _ ih1 ih2=>
  intro e' n' k;cases k with
  |plus_no k=>cases(ih1 k).1
  |plus_ok k1 k2=>
   obtain⟨h1,rfl⟩:=ih1 k1;cases h1;obtain⟨rfl,rfl⟩:=ih2 k2;exact⟨rfl,rfl⟩
 |row_no _ ih=>
  intro e' n' k;cases k with
  |row_no k=>obtain⟨_,rfl⟩:=ih k;exact⟨rfl,rfl⟩
  |row_ok k _=>cases(ih k).1
 |row_ok _ _ ih1 ih2=>
  intro e' n' k;cases k with
  |row_no k=>cases(ih1 k).1
  |row_ok k1 k2=>
   obtain⟨h1,rfl⟩:=ih1 k1;cases h1;obtain⟨rfl,rfl⟩:=ih2 k2;exact⟨rfl,rfl⟩
 |alt_ok _ ih=>
  intro e' n' k;cases k with
  |alt_ok k=>exact ih k
  |alt_no k _=>cases(ih k).1
 |alt_no _ _ ih1 ih2=>
  intro e' n' k;cases k with
  |alt_ok k=>cases(ih1 k).1
  |alt_no k1 k2=>
   obtain⟨_,rfl⟩:=ih1 k1;obtain⟨rfl,rfl⟩:=ih2 k2;exact⟨rfl,rfl⟩
 |rep_end _ ih=>
  intro e' n' k;cases k with
  |rep_end k=>obtain⟨_,rfl⟩:=ih k;exact⟨rfl,rfl⟩
  |rep_go k _=>cases(ih k).1
 |rep_go _ _ ih1 ih2=>
  intro e' n' k;cases k with
  |rep_end k=>cases(ih1 k).1
  |rep_go k1 k2=>
   obtain⟨h1,rfl⟩:=ih1 k1;cases h1;obtain⟨rfl,rfl⟩:=ih2 k2;exact⟨rfl,rfl⟩
theorem z3J{t:RT}{i:Nat}{e:Option Nat}{n:Nat}(h:Mt B T (.one t) i e n):1<=n:=by
 cases h<;>omega
theorem y0W(T:ByteArray)(i:Nat):(T.extract i T.size).data.toList=T.data.toList.drop i:=by
 have h:(T.extract i T.size).data=T.data.extract i T.size:=by
  rw[ByteArray.data_extract]
 rw[h,Array.toList_extract];show List.extract T.data.toList i T.size=_;rw[List.extract_eq_take_drop];exact List.take_of_length_le (by rw[List.length_drop];exact Nat.le_refl _)
theorem Cm(N T:ByteArray)(i:Nat):Gd N T i=Lib.hasPrefix (T.data.toList.drop i) N.data.toList:=by
 unfold Gd;rw[y0W]
theorem z3K{N T:ByteArray}{i:Nat}(hi:i<=T.size)(h:Gd N T i=true):i+N.size<=T.size:=by
 rw[Cm]at h;have h1:=(List.isPrefixOf_iff_prefix.1 h).length_le;rw[List.length_drop]at h1;have e1:N.data.toList.length=N.size:=rfl;have e2:T.data.toList.length=T.size:=rfl;omega
theorem z3L{C:Nat}{T:ByteArray}{i:Nat}(h:Yw C T i=true):i<T.size:=by
 unfold Yw at h;rcases Nat.lt_or_ge i T.size with h1|h1
 ·exact h1
 ·rw[Array.getElem?_eq_none h1]at h
  cases h
theorem Cp{j:Jb}{i:Nat}{e:Option Nat}{n:Nat}(h:Mt B T j i e n):i<=T.size->∀x,e=some x->i<=x/\x<=T.size:=by
 induction h with
 |emp|row_nil=>intro hi x hx;cases hx;exact⟨Nat.le_refl _,hi⟩
 |lit=>
  intro hi x hx;unfold Yj at hx;split at hx
  ·rename_i h
   cases hx;exact⟨Nat.le_add_right _ _,z3K hi h⟩
  ·cases hx
 |set|any=>
  intro hi x hx;unfold Yj at hx;split at hx
  ·rename_i h
   cases hx;exact⟨Nat.le_add_right _ _,z3L h⟩
  ·cases hx
 |ref _ _ ih=>exact ih
 |seq _ ih|cho _ ih|star _ ih=>exact ih
 |alt_ok _ ih=>exact ih
 |opt _ ih=>
  intro hi x hx;cases hx;rename_i e _ _;cases e with
  |none=>exact⟨Nat.le_refl _,hi⟩
  |some y=>exact ih hi y rfl
 |plus_no|row_no|alt_nil=>intro hi x hx;cases hx
 |plus_ok _ _ ih1 ih2|row_ok _ _ ih1 ih2|rep_go _ _ ih1 ih2=>
  intro hi x hx;obtain⟨h1,h2⟩:=ih1 hi _ rfl;obtain⟨h3,h4⟩:=ih2 h2 x hx;exact⟨Nat.le_trans h1 h3,h4⟩
 |and _ ih|not _ ih=>
  intro hi x hx;unfold Yj at hx;split at hx
  ·cases hx;exact⟨Nat.le_refl _,hi⟩
  ·cases hx
 |alt_no _ _ _ ih=>exact ih
 |rep_end _ ih=>intro hi x hx;cases hx;exact⟨Nat.le_refl _,hi⟩
end
section
def okO(o:Ot)(i:Nat):Option Nat->Prop
 |none=>o.2.2=true
 |some e=>i<=e/\(e=i->o.1=true)/\(i<e->o.2.1=true)
def y0X(o:Ot)(i:Nat):Option Nat->Prop
 |none=>False
 |some e=>i<=e/\(e=i->o.2.2=true)/\(i<e->o.2.1=true)
def Okj(K:ByteArray->Ot):Jb->Nat->Option Nat->Prop
 | .one t,i,e=>okO (ofT K t) i e
 | .row s,i,e=>∀(acc:Ot) (i0:Nat),i0<=i->(i=i0->acc.1=true)->(i0<i->acc.2.1=true)->okO (ofS K acc s) i0 e
 | .alt s,i,e=>∀acc:Ot,acc.2.2=true->okO (ofA K acc s) i e
 | .rep t,i,e=>y0X (ofT K t) i e
theorem z3M(K:ByteArray->Ot):∀(s:List RT) (a:Ot),a.2.2=true->(ofS K a s).2.2=true
 |[],a,h=>by rw[ofS];exact h
 |t::r,a,h=>by rw[ofS];exact z3M K r _ (by simp[Gg,h])
theorem z3N(K:ByteArray->Ot):∀(s:List RT) (a:Ot),a.1=true->(ofA K a s).1=true
 |[],a,h=>by rw[ofA];exact h
 |t::r,a,h=>by rw[ofA];exact z3N K r _ (by simp[Jl,h])
theorem z3O(K:ByteArray->Ot):∀(s:List RT) (a:Ot),a.2.1=true->(ofA K a s).2.1=true
 |[],a,h=>by rw[ofA];exact h
 |t::r,a,h=>by rw[ofA];exact z3O K r _ (by simp[Jl,h])
theorem y0Y{N T:ByteArray}{i:Nat}(h:N.size=0):Gd N T i=true:=by
 rw[Cm];have:N.data.toList=[]:=List.length_eq_zero_iff.1 h;rw[this];exact List.isPrefixOf_iff_prefix.2 (List.nil_prefix)
theorem y0Z:cl4 0 0 0 0=0:=by decide
theorem z0c{b:Bool}{i m:Nat}{o:Ot}(hf:b=false->o.2.2=true)(hs:b=true->(m=0->o.1=true)/\(0<m->o.2.1=true)):okO o i (Yj b (i+m)):=by
 unfold Yj;cases b with
 |true=>exact⟨by omega,fun e=>(hs rfl).1 (by omega),fun e=>(hs rfl).2 (by omega)⟩
 |false=>exact hf rfl
variable {B:ByteArray->Option RT} {T:ByteArray} {K:ByteArray->Ot}
theorem z3P(hB:∀N t,B N=some t->ofT K t=K N){j:Jb}{i:Nat}{e:Option Nat}{n:Nat}(h:Mt B T j i e n):Okj K j i e:=by
 induction h with
 |emp=>exact⟨Nat.le_refl _,fun _=>by rw[ofT];rfl,fun h=>absurd h (Nat.lt_irrefl _)⟩
 | @lit N a b c d s p i=>
   simp only[Okj];rw[ofT];by_cases h0:N.size=0
   ·rw[y0Y h0,h0];exact⟨Nat.le_refl _,fun _=>by simp,fun h=>absurd h (by simp)⟩
   ·refine z0c (fun _=>by simp[h0]) (fun _=>⟨fun h=>absurd h h0,fun _=>by simp[h0]⟩)
 | @set N a b c d s p i=>
   simp only[Okj];rw[ofT];by_cases h0:a=0/\b=0/\c=0/\d=0
   ·obtain⟨rfl,rfl,rfl,rfl⟩:=h0
    have:Yw (cl4 0 0 0 0) T i=false:=by
     unfold Yw;rw[y0Z];cases T.data[i]? <;>simp
    rw[this]
    (show Prod.snd (Prod.snd _)=true;simp)
   ·refine z0c (fun _=>by simp[h0]) (fun _=>⟨fun h=>by omega,fun _=>by simp[h0]⟩)
 |any=>exact z0c (fun _=>by rw[ofT];rfl) (fun _=>⟨fun h=>by omega,fun _=>by rw[ofT];rfl⟩)
 |ref h1 _ ih=>
  have h2:=hB _ _ h1;simp only[Okj]at ih ⊢;rw[h2]at ih;rw[ofT];exact ih
 |seq _ ih=>
  have:=ih (true,false,false) _ L0q (fun _=>rfl) (fun h=>absurd h (Nat.lt_irrefl _));simp only[Okj];rw[ofT];exact this
 |cho _ ih=>
  have:=ih (false,false,true) rfl;simp only[Okj];rw[ofT];exact this
 | @opt N a b c d t r p i e n _ ih=>
   simp only[Okj]at ih ⊢;rw[ofT,ofH];cases e with
   |none=>exact⟨Nat.le_refl _,fun _=>by have:(ofT K t).2.2=true:=ih;simp[Zc,this],fun h=>absurd h (Nat.lt_irrefl _)⟩
   |some x=>exact⟨ih.1,fun h=>by simp[Zc,ih.2.1 h],fun h=>by simp[Zc,ih.2.2 h]⟩
 | @star N a b c d t r p i e n _ ih=>
   simp only[Okj]at ih ⊢;rw[ofT,ofH];cases e with
   |none=>exact ih.elim
   |some x=>exact⟨ih.1,fun h=>by simp[Zc,ih.2.1 h],fun h=>by simp[Zc,ih.2.2 h]⟩
 | @plus_no N a b c d t r p i n _ ih=>
   simp only[Okj]at ih ⊢;rw[ofT,ofH];have:(ofT K t).2.2=true:=ih
   (show Prod.snd (Prod.snd _)=true;simp[Zc,this])
 | @plus_ok N a b c d t r p i x e n m _ _ ih1 ih2=>
   simp only[Okj]at ih1 ih2 ⊢;rw[ofT,ofH];cases e with
   |none=>exact ih2.elim
   |some y=>
    obtain⟨a1,a2,a3⟩:=ih1;obtain⟨b1,b2,b3⟩:=ih2;refine⟨Nat.le_trans a1 b1,fun h=> ?_,fun h=> ?_⟩
    ·have h1:x=i:=by omega
     simp[Zc,a2 h1,b2 (by omega)]
    ·have:(ofT K t).2.1=true:=by
      by_cases hx:i<x
      ·exact a3 hx
      ·exact b3 (by omega)
     simp[Zc,this]
 | @and N a b c d t r p i e n _ ih=>
   simp only[Okj]at ih ⊢;rw[ofT,ofH];cases e with
   |none=>(show Prod.snd (Prod.snd _)=true;have:(ofT K t).2.2=true:=ih;simp[Zc,this])
   |some x=>
    refine⟨Nat.le_refl _,fun _=> ?_,fun h=>absurd h (Nat.lt_irrefl _)⟩;have:suc (ofT K t)=true:=by
     unfold suc;rcases Nat.lt_or_ge i x with h|h
     ·rw[ih.2.2 h,Bool.or_true]
     ·rw[ih.2.1 (Nat.le_antisymm h ih.1),Bool.true_or]
    simp[Zc,this]
 | @not N a b c d t r p i e n _ ih=>
   simp only[Okj]at ih ⊢;rw[ofT,ofH];cases e with
   |none=>exact⟨Nat.le_refl _,fun _=>by have:(ofT K t).2.2=true:=ih;simp[Zc,this],fun h=>absurd h (Nat.lt_irrefl _)⟩
   |some x=>
    have:suc (ofT K t)=true:=by
     unfold suc;rcases Nat.lt_or_ge i x with h|h
     ·rw[ih.2.2 h,Bool.or_true]
     ·rw[ih.2.1 (Nat.le_antisymm h ih.1),Bool.true_or]
    (show Prod.snd (Prod.snd _)=true;simp[Zc,this])
 |row_nil=>
  intro acc i0 h0 h1 h2;rw[ofS];exact⟨h0,h1,h2⟩
 | @row_no t r i n _ ih=>
   intro acc i0 h0 h1 h2;rw[ofS];have hf:(ofT K t).2.2=true:=ih;have hs:suc acc=true:=by
    unfold suc;rcases Nat.lt_or_ge i0 i with h|h
    ·rw[h2 h,Bool.or_true]
    ·rw[h1 (by omega),Bool.true_or]
   show Prod.snd (Prod.snd _)=true;exact z3M K r _ (by simp[Gg,hf,hs])
 | @row_ok t r i x e n m _ _ ih1 ih2=>
   intro acc i0 h0 h1 h2;rw[ofS];obtain⟨a1,a2,a3⟩:=ih1;have hs:suc (ofT K t)=true:=by
    unfold suc;rcases Nat.lt_or_ge i x with h|h
    ·rw[a3 h,Bool.or_true]
    ·rw[a2 (by omega),Bool.true_or]
   refine ih2 _ i0 (by omega) (fun h=> ?_) (fun h=> ?_)
   ·simp[Gg,h1 (by omega),a2 (by omega)]
   ·rcases Nat.lt_or_ge i0 i with h'|h'
    ·simp[Gg,h2 h',hs]
    ·simp[Gg,h1 (by omega),a3 (by omega)]
 |alt_nil=>
  intro acc h;rw[ofA];exact h
 | @alt_ok t r i x n _ ih=>
   intro acc h;rw[ofA];obtain⟨a1,a2,a3⟩:=ih;exact⟨a1,fun e=>z3N K r _ (by simp[Jl,h,a2 e]),fun e=>z3O K r _ (by simp[Jl,h,a3 e])⟩
 | @alt_no t r i e n m _ _ ih1 ih2=>
   intro acc h;rw[ofA];have hf:(ofT K t).2.2=true:=ih1;exact ih2 _ (by simp[Jl,h,hf])
 |rep_end _ ih=>exact⟨Nat.le_refl _,fun _=>ih,fun h=>absurd h (Nat.lt_irrefl _)⟩
 | @rep_go t i x e n m _ _ ih1 ih2=>
   simp only[Okj]at ih1 ih2 ⊢;cases e with
   |none=>exact ih2.elim
   |some y=>
    obtain⟨a1,a2,a3⟩:=ih1;obtain⟨b1,b2,b3⟩:=ih2;refine⟨Nat.le_trans a1 b1,fun h=>b2 (by omega),fun h=> ?_⟩;by_cases hx:i<x
    ·exact a3 hx
    ·exact b3 (by omega)
end
end Go.Proofs.YtgmcjddjdidpjaaGreatDoor
