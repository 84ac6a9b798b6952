/- Lemmas for the last text. Conditions: those that each names. -/
import Derived.Test.YtmelafeingcgnaaGreatDoorVT14ToT16
import Derived.Test.YtmelafeingcgnaaGreatDoorVT13ToT15
import Derived.Test.YtmelafeingcgnaaGreatDoorVU3ToU8
set_option linter.unusedVariables false
set_option maxRecDepth 100000
set_option maxHeartbeats 8000000
namespace Go.Proofs.YtmelafeingcgnaaGreatDoor
open Go.Proofs.Tryz
open Go.RowKit Go.Shelf Go.Maps
variable {W W':World} {bB:Nat}
structure Ev (w0:World) (sB aB:Nat) (so0:Option Addr) (n0 cap0:Nat) (at':Int) (W:World):Prop where
 sbx:W.heap[sB]? =some (.cells #[.slice so0 n0 cap0] 51)
 abx:W.heap[aB]? =some (.cells #[zI at'] 3)
 be:zB w0 W
theorem Ev.ne{w0:World}{sB o:Nat}{y:Option Addr}{A D:Nat}{at':Int}(h:Ev w0 sB o y A D at' W):sB≠o:=fun e=>by
 have r:=h.sbx;rw[e,h.abx]at r;cases r
theorem Ev.alloc{w0:World}{sB r:Nat}{y:Option Addr}{A D:Nat}{at':Int}{W:World}(h:Ev w0 sB r y A D at' W)(o:Obj):Ev w0 sB r y A D at' (W.alloc o):=
 ⟨(Below.heap_alloc _ _ _ (Qq h.sbx)).trans h.sbx,(Below.heap_alloc _ _ _ (Qq h.abx)).trans h.abx,h.be.alloc h.be.size _⟩
theorem Ev.drew{w0:World}{sB o:Nat}{r:Option Addr}{y A:Nat}{at':Int}{W:World}(h:Ev w0 sB o r y A at' W):Ev w0 sB o r y A at' W.drew:=⟨h.sbx,h.abx,h.be.drew⟩
theorem Ev.step{w0:World}{sB o:Nat}{r:Option Addr}{y A:Nat}{at' q:Int}{W W':World}(h:Ev w0 sB o r y A at' W)(D:W.grownBy W' (some o))(E:w0.heap.size<=o)(ha:zH W' o (.cells #[zI q] 3)):Ev w0 sB o r y A q W':=
 ⟨(D.block _ (Qq h.sbx) (fun e=>h.ne (Option.some.inj e))).trans h.sbx,ha,h.be.grown D h.be.size (fun g e=>by have:=Option.some.inj e;omega)⟩
theorem z3X{K:zA->Ot}:∀{s:List RT},(∀i (o:i<s.length),flT K s[i]=none)->flL K s=none
 |[],_=>by rw[flL]
 |t::r,h=>by
  have y:flT K t=none:=h 0 (by simp);rw[flL,y];exact z3X fun i o=>h (i+1) (by simpa using o)
theorem z3Y{K:zA->Ot}{q:Int}:∀{s:List RT} (j:Nat) (y:j<s.length),(∀i (A:i<s.length),i<j->flT K s[i]=none)->flT K s[j]=some q->flL K s=some q
 |t::r,0,_,_,h=>by
  have o:flT K t=some q:=h;rw[flL,o]
 |t::r,j+1,y,h,hq=>by
  have o:flT K t=none:=h 0 (by simp) (by omega);rw[flL,o];exact z3Y j (by simpa using y) (fun i A D=>h (i+1) (by simpa using A) (by omega)) hq
theorem y2S{k:Int}{T:zA}{a b c d p:Int}{s:List RT}(h:okT (.mk k T a b c d s p)=true)(r:k=9∨k=10):s.length=1:=by
 rw[okT,Bool.and_eq_true]at h;have:=h.1;unfold okN at this;rw[if_neg (by omega),if_neg (by omega),if_neg (by omega),if_neg (by omega),if_neg (by omega),if_pos (by omega)]at this;simp only[Bool.and_eq_true]at this;have o:=this.2.2;have y:((Qb s:Nat):Int)=1:=by simpa using o
 rw[<-Xg];omega
theorem y2T(w0:World)(sB D:Nat)(E:Option Addr)(U V:Nat)(rs:List Rr)(K:zA->Ot)(B:Nat)(fp:Addr)(hB:B<=w0.heap.size)(hg:Qg w0 w0.heap.size E U (bG rs K))(ah:okG rs=true)(ai:ckR rs=none)(hz:RgZ rs)(hT:TabIs w0)(hF:zC w0 (1) 0 (.iface 405 (.pointer (some fp))))(ap:w0.heap.size<=D)
  (k:Int)(T:zA)(a b c d:Int)(s:List RT)(p:Int)(so:Option Addr)(Y:Nat)(W:World)(at':Int)(A:Ev w0 sB D E U V at' W)(ht:Qw w0 B (.mk k T a b c d s p) (r8 k T a b c d so (Qb s) Y p))(hf:Fit (nmL rs) (.mk k T a b c d s p)):
  Calls prog 146 #[.agg #[zI k,zT T,zU a,zU b,zU c,zU d,.slice so (Qb s) Y,zI p],zP sB 0,zP D 0] W (LkQ fp D (if(k=9∨k=10)/\(ofH K s).1=true then some p else none) at' W):=by
 by_cases hk:k=9∨k=10
 ·have h1:=y2S hf.ok hk
  rw[Qw]at ht;obtain⟨aq,ar,e,aj⟩:=ht;simp only[r8,List.cons.injEq,Value.slice.injEq,true_and,and_true]at e;obtain⟨rfl,rfl⟩:=e;obtain⟨g,o,rfl,ak,k1,T1,a1,b1,c1,d1,aa,n1,ab,p1,hc,al⟩:=Az hB aj 0 (by omega);rw[Nat.zero_mul,Nat.add_zero]at hc;have am:=hf.sub 0 (by omega);have ad:ofH K s=ofT K (s[0]'(by omega)):=by
   cases s with
   |nil=>simp at h1
   |cons t r=>rw[ofH];rfl
  have ae:=hc.below A.be ak;have ac:∀W':World,zB W W'->Calls prog 148 #[.agg #[.slice E U V],.agg #[zI k1,zT T1,zU a1,zU b1,zU c1,zU d1,.slice aa n1 ab,zI p1]] W' fun e w'=>e=.returned (ov (ofT K (s[0]'(by omega))))/\zB W' w':=fun W' ao=>by
   have Z:=A.be.trans (ao.mono A.be.size);exact z3T E U V rs K k1 T1 a1 b1 c1 d1 p1 aa n1 ab _ w0.heap.size B W' (hg.below Z) Z.size ah ai hz (hT.below Z hT.lt) (al.below (Z.mono hB)) (Nat.le_trans hB Z.size) am
  have af:=(Qy A.sbx).1;have hl:Qb s=1:=by rw[Xg];exact h1
  rw[hl];obtain⟨⟨q1,q2,q3⟩,hq⟩:∃q,q=ofT K (s[0]'(by omega)):=⟨_,rfl⟩;rw[<-hq]at ac ad;rw[ad];cases q1 with
  |false=>
   rw[if_neg (by simp)];refine(y2Q k T a b c d p g o Y sB D W hk k1 T1 a1 b1 c1 d1 p1 aa n1 ab E U V q2 q3 af ae (hid ac)).mono fun e w' y=> ?_
   exact⟨G.below y.2,.inl ⟨rfl,y.1,(y.2.block _ (Qq A.abx)).trans A.abx⟩⟩
  |true=>
   rw[if_pos ⟨hk,rfl⟩];have ag:=World.block_lt_of_cell? w0 _ hF;refine(y2R k T a b c d p g o Y sB D W hk k1 T1 a1 b1 c1 d1 p1 aa n1 ab E U V q2 q3 fp _ A.abx ((A.be.cell (p:=⟨1,0,none⟩) ag).trans hF) (fun e=>by have h9:1<w0.heap.size:=ag;omega) af ae (hid ac)).mono fun e w' y=> ?_
   exact⟨y.2.1,.inr ⟨p,rfl,y.1,y.2.2⟩⟩
 ·rw[if_neg (fun h=>hk h.1)]
  refine(y2P k T a b c d p so (Qb s) Y sB D W (fun e=>hk (.inl e)) (fun e=>hk (.inr e))).mono fun e w' y=> ?_
  exact⟨G.below y.2,.inl ⟨rfl,y.1,(y.2.block _ (Qq A.abx)).trans A.abx⟩⟩
theorem y2U(w0:World)(sB r:Nat)(ab:Option Addr)(n0 ac:Nat)(K:zA->Ot)(fp:Addr)(av:w0.heap.size<=r)(k:Int)(T:zA)(a b c d p:Int)(so:Option Addr)(n ah:Nat)(s:List RT)(r0:Option Int)(at':Int)(W:World)(hn:n<=9223372036854775807)(HN:Hid (n=s.length))(HE:Hid (Ev w0 sB r ab n0 ac at' W))
  (HV:Hid (∀W',Ev w0 sB r ab n0 ac at' W'->Calls prog 146 #[.agg #[zI k,zT T,zU a,zU b,zU c,zU d,.slice so n ah,zI p],zP sB 0,zP r 0] W' (LkQ fp r r0 at' W')))
  (HC:Hid (∀j (hj:j<s.length),∃g o,so=some ⟨g,o,none⟩/\g<w0.heap.size/\∃y A a1 D c1 E U V Y p1,Rc w0 g (o+j*8) y A a1 D c1 E (.slice U V Y) p1/\
    ∀W',Ev w0 sB r ab n0 ac at' W'->Calls prog 150 #[.agg #[zI y,zT A,zU a1,zU D,zU c1,zU E,.slice U V Y,zI p1],.func (.func 146) #[] #[zP sB 0,zP r 0]] W' (LkQ fp r (flT K s[j]) at' W'))):
  Calls prog 150 #[.agg #[zI k,zT T,zU a,zU b,zU c,zU d,.slice so n ah,zI p],.func (.func 146) #[] #[zP sB 0,zP r 0]] W (LkQ fp r (match r0 with|some q=>some q|none=>flL K s) at' W):=by
 obtain⟨Z,ad⟩:∃Z,Z=W.alloc (.cells #[zI k,zT T,zU a,zU b,zU c,zU d,.slice so n ah,zI p] 119):=⟨_,rfl⟩;have ai:Hid (Ev w0 sB r ab n0 ac at' Z):=by rw[ad];exact HE.out.alloc _
 have aj:Hid (W.grownBy Z (some r)):=by rw[ad];exact World.grownBy_alloc _ _ _
 obtain⟨nB,ak⟩:∃nB,nB=W.heap.size:=⟨_,rfl⟩;have al:Hid (zH Z nB (.cells #[zI k,zT T,zU a,zU b,zU c,zU d,.slice so n ah,zI p] 119)):=by rw[ad,ak];exact Qx W _ rfl
 have aF:nB≠r:=by have:=Qq HE.out.abx;omega
 have HS:=hid (HV.out Z ai.out);have aw:=hid ad;clear ad HV;go_enter func150,ntmps150
 go_wp2_with fail
 rw[<-aw.out];clear aw;refine HS.out.mono ?_;clear HS;rintro e w2 ⟨aa,⟨rfl,rfl,ae⟩|⟨q,rfl,rfl,ae⟩⟩
 ·have ap:=hid ((aa.block _ (Qq al.out) (fun e=>aF (Option.some.inj e))).trans al.out)
  rw[<-ak];obtain⟨⟨y0,y1,y2,y3,y4,y5,y6,y7⟩,_⟩:=Qf ap.out;have ln:=Qq ap.out;have ax:=hid (ai.out.step aa av ae);have am:=hid (G.trans aj.out aa);clear aa ae ai aj al ak
  go_wp2_with fail
  go_loopw [18] (fun i wr=>∃j:Nat,i=zI (j:Int)/\j<=n/\Hid (Ev w0 sB r ab n0 ac at' wr)/\Hid (W.grownBy wr (some r))/\Hid (∀i (hi:i<s.length),i<j->flT K s[i]=none)) (fun i _=>n-(intOf i).toNat)
  case atStart=>exact⟨0,rfl,Nat.zero_le _,ax,am,fun i _ h=>absurd h (by omega)⟩
  case round=>
   obtain⟨j,rfl,hj,ao,ay,aq⟩:=hrel;clear ax am y0 y1 y2 y3 y4 y5 y6 y7 ln ap;by_cases hjn:j<n
   ·have aK:(j:Int)<(n:Int):=by omega
    have a0:decide ((j:Int)<(n:Int))=true:=by simp;omega
    have az:j<s.length:=by rw[<-HN.out];exact hjn
    obtain⟨g,o,rfl,hg,y,A,a1,D,c1,E,U,V,Y,p1,aA,aC⟩:=HC.out j az;obtain⟨z0,z1,z2,z3,z4,z5,z6,z7⟩:=aA.below ao.out.be hg;have aL:g<wr.heap.size:=World.block_lt_of_cell? wr _ z0;obtain⟨r1,ar⟩:∃r1,r1=flT K s[j]:=⟨_,rfl⟩;have HS:=hid (aC _ (ao.out.alloc (.cells #[zI y,zT A,zU a1,zU D,zU c1,zU E,.slice U V Y,zI p1] 119)));rw[<-ar]at HS;have aD:=hid ar;have aE:=hid (G.trans ay.out (World.grownBy_alloc wr (.cells #[zI y,zT A,zU a1,zU D,zU c1,zU E,.slice U V Y,zI p1] 119) (some r)));have aG:=hid (ao.out.alloc (.cells #[zI y,zT A,zU a1,zU D,zU c1,zU E,.slice U V Y,zI p1] 119));clear aC aA ar
    go_wp2_with fail
    refine HS.out.mono ?_;clear HS;rintro e w3 ⟨af,⟨rfl,rfl,ag⟩|⟨q,rfl,rfl,ag⟩⟩
    ·have aH:=hid (aG.out.step af av ag)
     have au:=hid (G.trans aE.out af);clear af ag
     go_wp2_with fail
     refine⟨⟨j+1,by go_num,by omega,aH,au,fun i hi aM=> ?_⟩,by simp[intOf];omega⟩;rcases Nat.lt_or_ge i j with h1|h1
     ·exact aq.out i hi h1
     ·obtain rfl:i=j:=by omega
      exact aD.out.symm
    ·have au:=hid (G.trans aE.out af)
     have aI:=hid ag;clear af ag
     go_wp2_with fail
     go_ret;exact⟨au.out,.inr ⟨q,z3Y j az aq.out aD.out.symm,rfl,aI.out⟩⟩
   ·have a0:decide ((j:Int)<(n:Int))=false:=by simp;omega
    clear HC
    go_wp2_with fail
    go_ret;exact⟨ay.out,.inl ⟨z3X fun i hi=>aq.out i hi (by have:=HN.out;omega),rfl,ao.out.abx⟩⟩
 ·have am:=hid (G.trans aj.out aa)
  have aJ:=hid ae;clear aa ae ai aj al ak
  go_wp2_with fail
  go_ret;exact⟨am.out,.inr ⟨q,rfl,rfl,aJ.out⟩⟩
theorem y2V(K:zA->Ot)(k:Int)(T:zA)(a b c d:Int)(s:List RT)(p:Int):(match(if(k=9∨k=10)/\(ofH K s).1=true then some p else none:Option Int)with|some q=>some q|none=>flL K s)=flT K (.mk k T a b c d s p):=by
 rw[flT];by_cases h:(k=9∨k=10)/\(ofH K s).1=true
 ·rw[if_pos h,if_pos h]
 ·rw[if_neg h,if_neg h]
theorem z3Z(w0:World)(sB r:Nat)(y:Option Addr)(A E:Nat)(rs:List Rr)(K:zA->Ot)(B:Nat)(D:Addr)(G:B<=w0.heap.size)(hg:Qg w0 w0.heap.size y A (bG rs K))(aa:okG rs=true)(ab:ckR rs=none)(hz:RgZ rs)(hT:TabIs w0)(hF:zC w0 (1) 0 (.iface 405 (.pointer (some D))))(U:w0.heap.size<=r):
  ∀(N:Nat) (t:RT) (V:List Value) (W:World) (at':Int),SizeOf.sizeOf t<N->Ev w0 sB r y A E at' W->Qw w0 B t V->Fit (nmL rs) t->Calls prog 150 #[.agg V.toArray,.func (.func 146) #[] #[zP sB 0,zP r 0]] W (LkQ D r (flT K t) at' W)
 |0,t,_,_,_,h,_,_,_=>by omega
 |N+1,.mk k T a b c d s p,V,W,at',hN,hE,ht,hf=>by
  have ae:=ht;rw[Qw]at ht;obtain⟨so,ac,rfl,ad⟩:=ht;have:=y2U w0 sB r y A E K D U k T a b c d p so (Qb s) ac s _ at' W (El ad) (Xg s) (hid hE) (hid fun W' Y=>y2T w0 sB r y A E rs K B D G hg aa ab hz hT hF U k T a b c d s p so ac W' at' Y ae hf) (hid fun j Z=> ?_)
  ·rw[y2V]at this
   exact this
  ·obtain⟨g,o,h1,h2,k1,T1,a1,b1,c1,d1,af,n1,ag,p1,h3,h4⟩:=Az G ad j Z
   refine⟨g,o,h1,h2,k1,T1,a1,b1,c1,d1,af,n1,ag,p1,h3,fun W' Y=> ?_⟩;have ah:=List.sizeOf_lt_of_mem (List.getElem_mem Z);simp only[RT.mk.sizeOf_spec]at hN;exact z3Z w0 sB r y A E rs K B D G hg aa ab hz hT hF U N s[j] _ W' at' (by omega) Y h4 (hf.sub j Z)
theorem z4a{o y:Nat}{v x0 x1 x2 x3 A D E G:Value}(h:zC W (1) 0 v/\zC W o 1 x0/\zC W o 2 x1/\zC W o 3 x2/\zC W o 4 x3/\zC W o 5 A/\zC W o 6 D/\zC W o 7 E/\zC W o 8 G)(U:1≠y)(r:o≠y)(V:W.grownBy W' (some y)):zC W' (1) 0 v/\zC W' o 1 x0/\zC W' o 2 x1/\zC W' o 3 x2/\zC W' o 4 x3/\zC W' o 5 A/\zC W' o 6 D/\zC W' o 7 E/\zC W' o 8 G:=by
 obtain⟨Y,Z,h2,h3,h4,h5,h6,h7,h8⟩:=h;have e:∀{a:Addr} {u:Value},a.block≠y->W.cell? a=some u->W'.cell? a=some u:=fun{a u} aa h=>(V.cell_far a (World.block_lt_of_cell? W _ h) (fun e=>aa (Option.some.inj e))).trans h
 exact⟨e U Y,e r Z,e r h2,e r h3,e r h4,e r h5,e r h6,e r h7,e r h8⟩
theorem z4b{K:zA->Ot}:∀{rs:List Rr},(∀i (o:i<rs.length),flT K rs[i].2.1=none)->flG K rs=none
 |[],_=>by rw[flG]
 |t::r,h=>by
  have y:flT K t.2.1=none:=h 0 (by simp);rw[flG,y];exact z4b fun i o=>h (i+1) (by simpa using o)
theorem z4c{K:zA->Ot}{q:Int}:∀{rs:List Rr} (j:Nat) (y:j<rs.length),(∀i (A:i<rs.length),i<j->flT K rs[i].2.1=none)->flT K rs[j].2.1=some q->flG K rs=some q
 |t::r,0,_,_,h=>by
  have o:flT K t.2.1=some q:=h;rw[flG,o]
 |t::r,j+1,y,h,hq=>by
  have o:flT K t.2.1=none:=h 0 (by simp) (by omega);rw[flG,o];exact z4c j (by simpa using y) (fun i A D=>h (i+1) (by simpa using A) (by omega)) hq
def flX(K:zA->Ot)(rs:List Rr):Option (Int ⊕ (Int×Int)):=(flG K rs).map fun p=>.inr (40,p)
theorem y2W(so:Option Addr)(n av:Nat)(G:Option Addr)(U Y:Nat)(rs:List Rr)(K:zA->Ot)(V:Addr)(w:World)(h:Qg w w.heap.size so n rs)(hn:n<=1048576)(hg:Qg w w.heap.size G U (bG rs K))(aw:okG rs=true)(aj:ckR rs=none)(hz:RgZ rs)(hP:PrG rs)(hT:TabIs w)(hF:zC w (1) 0 (.iface 405 (.pointer (some V)))):
  Calls prog 119 #[.agg #[.slice so n av],.agg #[.slice G U Y]] w fun e w'=>∃v,e=.returned v/\Zd (flX K rs) w.heap.size w' v/\zB w w':=by
 obtain⟨W3,ak⟩:∃W3,W3=((w.alloc (.cells #[.slice so n av] 51)).alloc (.cells #[.slice G U Y] 51)).alloc (.cells #[zI 0] 3):=⟨_,rfl⟩;have al:Hid (Ev w (w.heap.size+1) (w.heap.size+1+1) G U Y 0 W3):=by
  rw[ak];exact⟨(Below.heap_alloc _ _ _ (by simp)).trans (Qx _ _ (by simp)),Qx _ _ (by simp),(((Below.refl _ w).alloc L0q _).alloc (by simp) _).alloc (by simp;omega) _⟩
 have aK:1<w.heap.size:=World.block_lt_of_cell? w _ hF;have ax:Hid (n=rs.length):=h.1;have HG:=hid h;have am:=hid (fun(t:RT) (cs:List Value) (W:World) (hE:Ev w (w.heap.size+1) (w.heap.size+1+1) G U Y 0 W) (ht:Qw w w.heap.size t cs) (hf:Fit (nmL rs) t)=>z3Z w (w.heap.size+1) (w.heap.size+1+1) G U Y rs K w.heap.size V L0q hg aw aj hz hT hF (by omega) _ t cs W 0 (Nat.lt_succ_self _) hE ht hf);have aL:=hid (fun(x:Rr) (hx:x∈rs)=>Sf hP aj hz hx);have HF:=hid hF;clear h hg aw aj hz hP hT hF;go_enter func119,ntmps119
 go_wp2_with fail
 rw[<-ak];clear ak;obtain⟨A,ay⟩:∃A,A=w.heap.size+1+1:=⟨_,rfl⟩;obtain⟨sB,az⟩:∃sB,sB=w.heap.size+1:=⟨_,rfl⟩;rw[<-ay,<-az]at al am ⊢;have aA:w.heap.size<=A:=by omega
 have aC:1≠A:=by omega
 clear ay az
 go_loopw [13] (fun i wr=>∃j:Nat,i=zI (j:Int)/\j<=n/\Hid (Ev w sB A G U Y 0 wr)/\Hid (∀i (hi:i<rs.length),i<j->flT K rs[i].2.1=none)) (fun i _=>n-(intOf i).toNat)
 case atStart=>exact⟨0,rfl,Nat.zero_le _,al,fun i _ h=>absurd h (by omega)⟩
 case round=>
  obtain⟨j,rfl,hj,ah,ao⟩:=hrel;clear al;by_cases hjn:j<n
  ·have aN:(j:Int)<(n:Int):=by omega
   have a0:decide ((j:Int)<(n:Int))=true:=by simp;omega
   have ap:j<rs.length:=by rw[<-ax.out];exact hjn
   obtain⟨g,o,rfl,hg,Z,T1,a1,b1,c1,d1,aa,n1,ab,p1,aD,r0⟩:=HG.out.2.2 j ap;have aE:∀q,wr.cell? ⟨g,q,none⟩=w.cell? ⟨g,q,none⟩:=fun q=>ah.out.be.cell (p:=⟨g,q,none⟩) hg
   simp only[<-aE]at r0;obtain⟨z0,z1,z2,z3,z4,z5,z6,z7,z8,z9⟩:=r0;have aO:g<wr.heap.size:=World.block_lt_of_cell? wr _ z0;obtain⟨N0,aF⟩:∃N0,N0=rs[j].1:=⟨_,rfl⟩;obtain⟨q1,aG⟩:∃q1,q1=rs[j].2.2:=⟨_,rfl⟩;rw[<-aF]at z0;rw[<-aG]at z9;obtain⟨W4,ae⟩:∃W4,W4=wr.alloc (.cells #[zT N0,zI Z,zT T1,zU a1,zU b1,zU c1,zU d1,.slice aa n1 ab,zI p1,zI q1] 121):=⟨_,rfl⟩;have ai:Hid (Ev w sB A G U Y 0 W4.drew):=by rw[ae];exact(ah.out.alloc _).drew
   have D:W4.drew.heap[wr.heap.size]? =some (.cells #[zT N0,zI Z,zT T1,zU a1,zU b1,zU c1,zU d1,.slice aa n1 ab,zI p1,zI q1] 121):=by rw[ae];exact Qx wr _ rfl
   obtain⟨r,ag⟩:∃r,r=wr.heap.size:=⟨_,rfl⟩;rw[<-ag]at D;have aH:r≠A:=by have:=Qq ah.out.abx;omega
   have aI:Hid (zC W4.drew (1) 0 (.iface 405 (.pointer (some V)))/\zC W4.drew r 1 (zI Z)/\zC W4.drew r 2 (zT T1)/\zC W4.drew r 3 (zU a1)/\zC W4.drew r 4 (zU b1)/\zC W4.drew r 5 (zU c1)/\zC W4.drew r 6 (zU d1)/\zC W4.drew r 7 (.slice aa n1 ab)/\zC W4.drew r 8 (zI p1)):=⟨(ai.out.be.cell (p:=⟨1,0,none⟩) aK).trans HF.out,(Qj D 1 _ rfl).1,(Qj D 2 _ rfl).1,(Qj D 3 _ rfl).1,(Qj D 4 _ rfl).1,(Qj D 5 _ rfl).1,(Qj D 6 _ rfl).1,(Qj D 7 _ rfl).1,(Qj D 8 _ rfl).1⟩;have af:=hid (am.out rs[j].2.1 _ W4.drew ai.out aD (aL.out _ (List.getElem_mem ap)));dsimp only[r8]at af;obtain⟨r1,aq⟩:∃r1,r1=flT K rs[j].2.1:=⟨_,rfl⟩;rw[<-aq]at af;have aJ:=hid aq;have aP:r<W4.drew.heap.size:=Qq D;clear aE aF aG aq aD D;cases r1 with
   |none=>
    have ar:Hid (Calls prog 150 #[.agg #[zI Z,zT T1,zU a1,zU b1,zU c1,zU d1,.slice aa n1 ab,zI p1],.func (.func 146) #[] #[zP sB 0,zP A 0]] W4.drew fun e w'=>W4.drew.grownBy w' (some A)/\e=.returned .nilIface/\zH w' A (.cells #[zI 0] 3)):=af.out.mono fun e w' he=>by
     obtain⟨h1,⟨_,h2,h3⟩|⟨q,h2,_⟩⟩:=he
     ·exact⟨h1,h2,h3⟩
     ·cases h2
    clear af
    go_wp2_with fail
    rw[<-ae,<-ag];clear ae ag z0 z1 z2 z3 z4 z5 z6 z7 z8 z9;refine Qc 99 (fun W:World=>zC W (1) 0 (.iface 405 (.pointer (some V)))/\zC W r 1 (zI Z)/\zC W r 2 (zT T1)/\zC W r 3 (zU a1)/\zC W r 4 (zU b1)/\zC W r 5 (zU c1)/\zC W r 6 (zU d1)/\zC W r 7 (.slice aa n1 ab)/\zC W r 8 (zI p1)) (by kernel_rfl) aI.out (fun y=> ?_);refine Qz 0 y ?_;refine Qz 1 y ?_;refine Qz 2 y ?_;refine Qz 4 y ?_
    (refine Qv 3 (fun K E=> ?_);go_simp;refine(ar.out).mono ?_;rintro e w6 ⟨ac,rfl,ad⟩;go_simp;replace y:=z4a y aC aH ac;refine E.out _ _ y ?_;clear E K)
    (try simp only[Act.put,zY])
    (refine Qv 5 (fun K E=> ?_);go_simp;refine(y2O V _).mono ?_;rintro e w7 ⟨rfl,rfl⟩;go_simp;refine E.out _ _ y ?_;clear E K)
    (try simp only[Act.put,zY])
    refine⟨by kernel_rfl,?_⟩;have aM:=hid (ai.out.step ac aA ad);clear ac ad y
    go_wp2_with fail
    refine⟨⟨j+1,by go_num,by omega,aM,fun i hi aQ=> ?_⟩,by simp[intOf];omega⟩;rcases Nat.lt_or_ge i j with h1|h1
    ·exact ao.out i hi h1
    ·obtain rfl:i=j:=by omega
     exact aJ.out.symm
   |some q=>
    have ar:Hid (Calls prog 150 #[.agg #[zI Z,zT T1,zU a1,zU b1,zU c1,zU d1,.slice aa n1 ab,zI p1],.func (.func 146) #[] #[zP sB 0,zP A 0]] W4.drew fun e w'=>W4.drew.grownBy w' (some A)/\e=.returned (.iface 405 (.pointer (some V)))/\zH w' A (.cells #[zI q] 3)):=af.out.mono fun e w' he=>by
     obtain⟨h1,⟨h2,_⟩|⟨q',h2,h3,h4⟩⟩:=he
     ·cases h2
     ·cases h2
      exact⟨h1,h3,h4⟩
    clear af
    go_wp2_with fail
    rw[<-ae,<-ag];clear ae ag z0 z1 z2 z3 z4 z5 z6 z7 z8 z9;refine Qc 99 (fun W:World=>zC W (1) 0 (.iface 405 (.pointer (some V)))/\zC W r 1 (zI Z)/\zC W r 2 (zT T1)/\zC W r 3 (zU a1)/\zC W r 4 (zU b1)/\zC W r 5 (zU c1)/\zC W r 6 (zU d1)/\zC W r 7 (.slice aa n1 ab)/\zC W r 8 (zI p1)) (by kernel_rfl) aI.out (fun y=> ?_);refine Qz 0 y ?_;refine Qz 1 y ?_;refine Qz 2 y ?_;refine Qz 4 y ?_
    (refine Qv 3 (fun K E=> ?_);go_simp;refine(ar.out).mono ?_;rintro e w6 ⟨ac,rfl,ad⟩;go_simp;replace y:=z4a y aC aH ac;refine E.out _ _ y ?_;clear E K)
    (try simp only[Act.put,zY])
    (refine Qv 5 (fun K E=> ?_);go_simp;refine(y2N V _).mono ?_;rintro e w7 ⟨rfl,rfl⟩;go_simp;refine E.out _ _ y ?_;clear E K)
    (try simp only[Act.put,zY])
    refine⟨by kernel_rfl,?_⟩;have au:=hid (ai.out.step ac aA ad).be;obtain⟨t0,t1⟩:=Qy ad;have la:=Qq ad;clear ac ad y
    go_wp2_with fail
    go_ret;refine⟨_,rfl,?_,au.out.alloc au.out.size _⟩;have e:flX K rs=some (.inr (40,q)):=by unfold flX;rw[z4c j ap ao.out aJ.out.symm];rfl
    rw[e];exact⟨_,rfl,au.out.size,Qx _ _ rfl⟩
  ·have a0:decide ((j:Int)<(n:Int))=false:=by simp;omega
   clear am
   go_wp2_with fail
   go_ret;refine⟨_,rfl,?_,ah.out.be⟩;have e:flX K rs=none:=by unfold flX;rw[z4b fun i hi=>ao.out i hi (by have:=ax.out;omega)];rfl
   rw[e];rfl
theorem z4d{o r:Nat}{v0 v1 v2:Value}(h:zC W bB 0 v0/\zC W o 0 v1/\zC W r 1 v2)(y:zB W W'):zC W' bB 0 v0/\zC W' o 0 v1/\zC W' r 1 v2:=by
 obtain⟨A,D,E⟩:=h;have e:∀{a:Addr} {u:Value},W.cell? a=some u->W'.cell? a=some u:=fun{a u} h=>(y.cell (p:=a) (World.block_lt_of_cell? W _ h)).trans h
 exact⟨e A,e D,e E⟩
theorem y2X{o r:Nat}{v0 v1 v2:Value}{row:Option Nat}(h:zC W bB 0 v0/\zC W o 0 v1/\zC W r 1 v2)(y:some bB≠row)(A:some o≠row)(D:some r≠row)(E:W.grownBy W' row):zC W' bB 0 v0/\zC W' o 0 v1/\zC W' r 1 v2:=by
 obtain⟨G,U,V⟩:=h;have e:∀{a:Addr} {u:Value},some a.block≠row->W.cell? a=some u->W'.cell? a=some u:=fun{a u} Y h=>(E.cell_far a (World.block_lt_of_cell? W _ h) Y).trans h
 exact⟨e y G,e A U,e D V⟩
theorem y2Y(a b c:Bool)(w:World):(Instr.field 264 (.agg #[.bool a,.bool b,.bool c]) 0).run prog w=.ok (.bool a) w:=by kernel_rfl
def Fv(bB:Nat)(W W':World):Prop:=W.heap.size<=W'.heap.size/\∀b cur t,b≠bB->t≠3->W.heap[b]? =some (.cells cur t)->W'.heap[b]? =some (.cells cur t)
theorem Fv.refl(bB:Nat)(W:World):Fv bB W W:=⟨Nat.le_refl _,fun _ _ _ _ _ h=>h⟩
theorem Fv.trans{a b c:World}(h:Fv bB a b)(k:Fv bB b c):Fv bB a c:=⟨Nat.le_trans h.1 k.1,fun i o t r y A=>k.2 i o t r y (h.2 i o t r y A)⟩
theorem Fv.below(h:zB W W'):Fv bB W W':=⟨h.size,fun b r t _ _ o=>(h.block b (Qq o)).trans o⟩
structure Bv (w0:World) (bB:Nat) (zs:List Int) (W:World):Prop where
 be:zB w0 W
 bx:∃v,W.heap[bB]? =some (.cells #[v] 24)/\W.ownsRow w0.heap.size 3 1 v zs.length (zs.map (Value.int .i64))
theorem Bv.below{w0:World}{zs:List Int}(h:Bv w0 bB zs W)(o:zB W W'):Bv w0 bB zs W':=by
 obtain⟨r,v,y,A⟩:=h;exact⟨r.trans (o.mono r.size),v,(o.block _ (Qq y)).trans y,Xf A o⟩
def VsQ(w0:World)(bB:Nat)(zs:List Int)(W:World)(e:Ending)(w':World):Prop:=e=.returned (.tuple #[])/\Bv w0 bB zs w'/\Fv bB W w'
theorem y2Z(base bB Y:Nat)(so:Option Addr)(n ac:Nat)(k:Int)(T:zA)(a b c d p:Int)(ag:Option Addr)(n1 ah:Nat)(j:Nat)(xs:List Value)(y:Option Addr)(A:Nat)(fd:Int)(W:World)(Z:zH W bB (.cells #[.slice y j A] 24))(ho:W.ownsRow base 3 1 (.slice y j A) j xs)(hg:zH W Y (.cells #[.slice so n ac] 51))(hj:j<=1048576)(aq:base<=W.heap.size)
  (HF:Hid (∀W',zB W W'->Calls prog 122 #[.agg #[.slice so n ac],zT T] W' fun e w'=>e=.returned (zI fd)/\zB W' w')):
  Calls prog 152 #[.agg #[zI k,zT T,zU a,zU b,zU c,zU d,.slice ag n1 ah,zI p],zP bB 0,zP Y 0] W fun e w'=>e=.returned (.tuple #[])/\∃W4 U g6 aa,zB W W4/\W4.grownBy U (Value.slice y j A).ownBlock/\w'=U.setCell ⟨bB,0,none⟩ (zS g6 (j+1) aa)/\U.ownsRow base 3 1 (zS g6 (j+1) aa) (j+1) (xs++[zI fd])/\zH U bB (.cells #[.slice y j A] 24):=by
 obtain⟨i0,ar,au,av,aw⟩:=info_parts Tryz.infoInt;obtain⟨r,ab⟩:∃r,r=W.alloc (.cells #[zI k,zT T,zU a,zU b,zU c,zU d,.slice ag n1 ah,zI p] 119):=⟨_,rfl⟩;have V:Hid (zB W r.drew):=by rw[ab];exact((Below.refl _ W).alloc L0q _).drew
 have ax:r.drew.heap.size=W.heap.size+1:=by rw[ab];exact World.size_alloc _ _
 have ai:r.drew.heap[W.heap.size]? =some (.cells #[zI k,zT T,zU a,zU b,zU c,zU d,.slice ag n1 ah,zI p] 119):=by rw[ab];exact Qx W _ rfl
 obtain⟨nB,aj⟩:∃nB,nB=W.heap.size:=⟨_,rfl⟩;rw[<-aj]at ai;have lb:=Qq Z;have ay:Hid (zC r.drew bB 0 (.slice y j A)/\zC r.drew Y 0 (.slice so n ac)/\zC r.drew nB 1 (zT T)):=⟨(Qy ((V.out.block _ lb).trans Z)).1,(Qy ((V.out.block _ (Qq hg)).trans hg)).1,(Qf ai).1.2.1⟩;have ak:Hid (∀o,Below r.drew.heap.size r.drew o->base<=o.heap.size/\bB<o.heap.size):=fun o h=>by
  have:=h.size;constructor<;>omega
 have az:Hid (∀o,Below r.drew.heap.size r.drew o->zH o bB (.cells #[.slice y j A] 24)):=fun o h=>(h.block _ (by omega)).trans ((V.out.block _ lb).trans Z)
 have aA:Hid (∀o,Below r.drew.heap.size r.drew o->o.ownsRow base 3 1 (.slice y j A) j xs):=fun o h=>Xf (Xf ho V.out) h
 have al:Hid (some bB≠(Value.slice y j A).ownBlock):=fun e=>Gm ho Z (fun aB e=>by cases e) e.symm
 have aC:Hid (some Y≠(Value.slice y j A).ownBlock):=fun e=>Gm ho hg (fun aB e=>by cases e) e.symm
 have aD:Hid (some nB≠(Value.slice y j A).ownBlock):=fun e=>by have:=(ho.lt _ e.symm).2;omega
 have m1:j+1<=maxLen:=by unfold maxLen;omega
 have m2:(j+1)*8<=140737488355328:=by omega
 have aE:Hid (W.heap.size<=r.drew.heap.size):=V.out.size;clear Z ho hg ai lb aq ax;go_enter func152,ntmps152
 go_wp2_with fail
 rw[<-ab,<-aj];clear ab aj;refine Qc 7 (fun W:World=>zC W bB 0 (.slice y j A)/\zC W Y 0 (.slice so n ac)/\zC W nB 1 (zT T)) (by kernel_rfl) ay.out (fun D=> ?_);refine Qz 0 D ?_;refine Qz 1 D ?_;refine Qz 2 D ?_;refine Qz 3 D ?_
 (refine Qv 4 (fun K E=> ?_);go_simp;refine(HF.out _ V.out).mono ?_;rintro e o ⟨rfl,G⟩;go_simp;replace D:=z4d D G;refine E.out _ _ D ?_;clear E K)
 (try simp only[Act.put,zY])
 (refine Qv 5 (fun K E=> ?_);go_simp;replace D:=z4d D ((Below.refl _ o).alloc L0q (.cells #[zI fd] 3));refine E.out _ _ D ?_;clear E K)
 (try simp only[Act.put,zY])
 (refine Qv 6 (fun K E=> ?_);refine step_append_lies _ rfl (.tmp 4) (.tmp 9) 24 rfl base 3 i0 (zI 0) 1 8 Tryz.underlying24 ar au av aw rfl (by decide) (.slice y j A) j xs (by rfl) ((aA.out o G).alloc _) ⟨o.heap.size,0,none⟩ 1 1 [zI fd] (by rfl) rfl (cell_one_new _ _ _) (by simp[Value.oneCell']) (by decide) m1 m2 (by rw[World.size_alloc];have:=ak.out o G;omega) _ rfl ?_;intro g6 aa U am ad aF aG;have ae:=((ad.block bB (by rw[World.size_alloc];have:=ak.out o G;omega) al.out).trans (Below.heap_alloc _ _ _ (ak.out o G).2)).trans (az.out o G);replace D:=y2X D al.out aC.out aD.out ad;refine E.out _ _ D ?_;clear E K)
 (try simp only[Act.put,zY])
 refine Yj (fun K E=> ?_);obtain⟨s0,s1⟩:=Qy ae;have ls:=Qq ae;clear D
 go_simp
 refine E.out _ _ ?_;clear E K;have aH:Hid (∃W4 af ao ap,zB W W4/\W4.grownBy af (Value.slice y j A).ownBlock/\U.setCell ⟨bB,0,none⟩ (zS g6 (j+1) aa)=af.setCell ⟨bB,0,none⟩ (zS ao (j+1) ap)/\af.ownsRow base 3 1 (zS ao (j+1) ap) (j+1) (xs++[zI fd])/\zH af bB (.cells #[.slice y j A] 24)):=by
  have h1:=V.out.trans (G.mono aE.out);exact⟨_,U,g6,aa,h1.alloc h1.size _,ad,rfl,am,ae⟩
 clear ad am aF aG ae G s0 s1
 go_wp2_with fail
 first|refine bodyPost_end (results_none rfl _ _ _) rfl ?_ |refine bodyPost_ret (results_none rfl _ _ _) rfl ?_
 exact⟨rfl,aH.out⟩
theorem y3a(w0:World)(bB E:Nat)(o:Option Addr)(n G:Nat)(rs:List Rr)(B:Nat)(Z:B<=w0.heap.size)(hg:zH w0 E (.cells #[.slice o n G] 51))(hr:Qg w0 B o n rs)(ad:w0.heap.size<=bB)(k:Int)(T:zA)(a b c d p:Int)(aa:Option Addr)(n1 ab:Nat)(zs:List Int)(W:World)(hV:Bv w0 bB zs W)(hz:zs.length<=1048576):
  Calls prog 152 #[.agg #[zI k,zT T,zU a,zU b,zU c,zU d,.slice aa n1 ab,zI p],zP bB 0,zP E 0] W (VsQ w0 bB (zs++[fdI T (nmL rs)]) W):=by
 obtain⟨h,v,h1,r⟩:=hV;obtain⟨U,V,rfl⟩:=Ux r;refine(y2Z w0.heap.size bB E o n G k T a b c d p aa n1 ab zs.length _ U V (fdI T (nmL rs)) W h1 r ((h.block _ (Qq hg)).trans hg) hz h.size (hid fun W' ae=> ?_)).mono fun e w' he=> ?_
 ·have y:=h.trans (ae.mono h.size)
  exact Rp T o n G rs B W' (hr.below (y.mono Z)) (Nat.le_trans Z y.size)
 ·obtain⟨rfl,W4,w6,g6,af,A,Y,rfl,q4,q5⟩:=he
  have ag:∀g,(Value.slice U zs.length V).ownBlock=some g->w0.heap.size<=g/\g<W.heap.size:=fun g e=>r.lt g e
  have ac:=h.trans (A.mono h.size);have ah:zB w0 w6:=ac.grown Y ac.size (fun g e=>(ag g e).1);refine⟨rfl,⟨ah.setCell (p:=⟨bB,0,none⟩) ad _,_,Qk q5 0 _,?_⟩,?_,fun b ai t y ht D=> ?_⟩
  ·have:=q4.kept (grownBy_setCell' w6 bB (zS g6 (zs.length+1) af)) (.inr (Gm q4 q5 (fun ai e=>by cases e)))
   rw[List.length_append,List.map_append];exact this
  ·rw[World.size_setCell]
   exact Nat.le_trans A.size Y.size
  ·have aj:some b≠(Value.slice U zs.length V).ownBlock:=fun e=>by
    refine Gm r D (fun ak e2=> ?_) e.symm;injection e2 with _ e3 _
    exact ht e3
   exact(Below.heap_setCell _ _ _ _ y).trans ((Y.block b (Nat.lt_of_lt_of_le (Qq D) A.size) aj).trans ((A.block b (Qq D)).trans D))
theorem y3b{K:zA->Ot}{h:Bool}{s:List RT}{j:Nat}(o:j<s.length):fbL K h (s.drop j)=fbT K s[j]++(if h&& !(ofT K s[j]).1 then []else fbL K h (s.drop (j+1))):=by
 rw[List.drop_eq_getElem_cons o,fbL]
theorem y3c(w0:World)(bB gB:Nat)(D:Option Addr)(E G:Nat)(rs:List Rr)(K:zA->Ot)(ao:Hid (w0.heap.size<=bB))(T:zA)(a b c d p:Int)(r:Option Addr)(y:Nat)(zs:List Int)(W:World)(HV:Hid (Bv w0 bB zs W))
  (aa:Hid (∀W',Bv w0 bB zs W'->Calls prog 152 #[.agg #[zI 5,zT T,zU a,zU b,zU c,zU d,.slice r 0 y,zI p],zP bB 0,zP gB 0] W' (VsQ w0 bB (zs++[fdI T (nmL rs)]) W'))):
  Calls prog 151 #[.agg #[.slice D E G],.agg #[zI 5,zT T,zU a,zU b,zU c,zU d,.slice r 0 y,zI p],.func (.func 152) #[] #[zP bB 0,zP gB 0]] W (VsQ w0 bB (zs++[fdI T (nmL rs)]) W):=by
 obtain⟨h,o⟩:∃h,h=(W.alloc (.cells #[.slice D E G] 51)).alloc (.cells #[zI 5,zT T,zU a,zU b,zU c,zU d,.slice r 0 y,zI p] 119):=⟨_,rfl⟩;have U:zB W h:=by rw[o];exact((Below.refl _ W).alloc L0q _).alloc (by simp) _
 obtain⟨sB,ab⟩:∃sB,sB=W.heap.size:=⟨_,rfl⟩;obtain⟨A,V⟩:∃A,A=W.heap.size+1:=⟨_,rfl⟩;have ai:Hid (zH h sB (.cells #[.slice D E G] 51)):=by rw[o,ab];exact(Below.heap_alloc _ _ _ (by simp)).trans (Qx _ _ (by simp))
 have ac:Hid (zH h A (.cells #[zI 5,zT T,zU a,zU b,zU c,zU d,.slice r 0 y,zI p] 119)):=by rw[o,V];exact Qx _ _ (by simp)
 have aj:bB<W.heap.size:=by obtain⟨v,h1,_⟩:=HV.out.bx;exact Qq h1
 have ap:sB≠bB:=by omega
 have ak:A≠bB:=by omega
 have ad:=hid (HV.out.below U);have ae:Hid (Fv bB W h):=Fv.below U;clear U aj;have HS:=hid (aa.out h ad.out);clear aa;go_enter func151,ntmps151
 go_wp2_with fail
 rw[<-o];refine HS.out.mono ?_;clear HS o;rintro e w2 ⟨rfl,af,Y⟩;have Z:=hid (Y.2 _ _ _ ak (by decide) ac.out);have ag:=hid af;have ah:=hid (ae.out.trans Y);obtain⟨⟨y0,y1,y2,y3,y4,y5,y6,y7⟩,_⟩:=Qf Z.out;have ln:=Qq Z.out;rw[<-V];clear af Y ac ai ad ae ab V
 go_wp2_with fail
 go_loopw [17] (fun i wr=>i=zI 0/\Hid (Bv w0 bB (zs++[fdI T (nmL rs)]) wr)/\Hid (Fv bB W wr)) (fun i _=>0)
 case atStart=>exact⟨rfl,ag,ah⟩
 case round=>
  obtain⟨rfl,al,am⟩:=hrel;clear ag ah y0 y1 y2 y3 y4 y5 y6 y7 ln Z
  go_wp2_with fail
  first|refine bodyPost_end (results_none rfl _ _ _) rfl ?_ |refine bodyPost_ret (results_none rfl _ _ _) rfl ?_
  exact⟨rfl,al.out,am.out⟩
theorem y3d(w0:World)(bB gB:Nat)(ac:Option Addr)(n0 ad:Nat)(rs:List Rr)(K:zA->Ot)(aY:Hid (w0.heap.size<=bB))(k:Int)(hk:k≠5)(T:zA)(a b c d p:Int)(ag:Option Addr)(y al:Nat)(s:List RT)(zs:List Int)(W:World)(HV:Hid (Bv w0 bB zs W))(hn:y<=9223372036854775807)(HN:Hid (y=s.length))
  (HL:Hid (zs.length+(fbL K (decide (k=6)) s).length<=1048576))
  (HO:Hid (∀j (hj:j<s.length),∃g o,ag=some ⟨g,o,none⟩/\g<w0.heap.size/\∃D E a1 G c1 U V Y Z p1,Rc w0 g (o+j*8) D E a1 G c1 U (.slice V Y Z) p1/\
    (∀(ys:List Int) (W':World),Bv w0 bB ys W'->ys.length+(fbT K s[j]).length<=1048576->Calls prog 151 #[.agg #[.slice ac n0 ad],.agg #[zI D,zT E,zU a1,zU G,zU c1,zU U,.slice V Y Z,zI p1],.func (.func 152) #[] #[zP bB 0,zP gB 0]] W' (VsQ w0 bB (ys++(fbT K s[j]).map fun x=>fdI x (nmL rs)) W'))/\
    ∀W':World,zB w0 W'->Calls prog 148 #[.agg #[.slice ac n0 ad],.agg #[zI D,zT E,zU a1,zU G,zU c1,zU U,.slice V Y Z,zI p1]] W' fun e w'=>e=.returned (ov (ofT K s[j]))/\zB W' w')):
  Calls prog 151 #[.agg #[.slice ac n0 ad],.agg #[zI k,zT T,zU a,zU b,zU c,zU d,.slice ag y al,zI p],.func (.func 152) #[] #[zP bB 0,zP gB 0]] W (VsQ w0 bB (zs++(fbL K (decide (k=6)) s).map fun x=>fdI x (nmL rs)) W):=by
 have aZ:=y2Y;have a2:(k == 5)=false:=by simp[hk]
 have a3:decide (k=5)=false:=by simp[hk]
 obtain⟨W1,ae⟩:∃W1,W1=(W.alloc (.cells #[.slice ac n0 ad] 51)).alloc (.cells #[zI k,zT T,zU a,zU b,zU c,zU d,.slice ag y al,zI p] 119):=⟨_,rfl⟩;have am:zB W W1:=by rw[ae];exact((Below.refl _ W).alloc L0q _).alloc (by simp) _
 obtain⟨sB,ah⟩:∃sB,sB=W.heap.size:=⟨_,rfl⟩;have aO:Hid (zH W1 sB (.cells #[.slice ac n0 ad] 51)):=by rw[ae,ah];exact(Below.heap_alloc _ _ _ (by simp)).trans (Qx _ _ (by simp))
 have aP:Hid (W1.heap[sB+1]? =some (.cells #[zI k,zT T,zU a,zU b,zU c,zU d,.slice ag y al,zI p] 119)):=by rw[ae,ah];exact Qx _ _ (by simp)
 have aQ:bB<W.heap.size:=by obtain⟨v,h1,_⟩:=HV.out.bx;exact Qq h1
 have aC:sB≠bB:=by omega
 have aD:sB+1≠bB:=by omega
 have aR:=hid (HV.out.below am);have aE:Hid (Fv bB W W1):=Fv.below am;clear am aQ;go_enter func151,ntmps151
 go_wp2_with fail
 rw[<-ae,<-ah];clear ae ah
 go_loopw [17] (fun i wr=>∃(j:Nat) (acc:List ByteArray),i=zI (j:Int)/\j<=y/\Hid (Bv w0 bB (zs++acc.map fun x=>fdI x (nmL rs)) wr)/\Hid (Fv bB W1 wr)/\Hid (fbL K (decide (k=6)) s=acc++fbL K (decide (k=6)) (s.drop j))) (fun i _=>y-(intOf i).toNat)
 case atStart=>exact⟨0,[],rfl,Nat.zero_le _,by rw[List.map_nil,List.append_nil];exact aR,Fv.refl _ _,by rw[List.drop_zero,List.nil_append];rfl⟩
 case round=>
  obtain⟨j,acc,rfl,hj,ai,aF,aG⟩:=hrel;by_cases hjn:j<y
  ·have a4:(j:Int)<(y:Int):=by omega
   have a0:decide ((j:Int)<(y:Int))=true:=by simp;omega
   have aH:j<s.length:=by rw[<-HN.out];exact hjn
   obtain⟨g,o,rfl,hg,D,E,a1,G,c1,U,V,Y,Z,p1,aI,aJ,aK⟩:=HO.out j aH;obtain⟨z0,z1,z2,z3,z4,z5,z6,z7⟩:=aI.below ai.out.be hg;have a5:g<wr.heap.size:=World.block_lt_of_cell? wr _ z0;have ao:=(Below.refl _ wr).alloc L0q (.cells #[zI D,zT E,zU a1,zU G,zU c1,zU U,.slice V Y Z,zI p1] 119);have aS:=hid (ai.out.below ao);have ap:=hid (aF.out.trans (Fv.below ao));have aj:=ap.out.2 _ _ _ aC (by decide) aO.out;have aL:=ap.out.2 _ _ _ aD (by decide) aP.out;obtain⟨g0,_⟩:=Qy aj;have lg:=Qq aj;have aT:=hid aj;have aU:=hid aL;have h:=aG.out;rw[y3b aH]at h;have aM:(zs++acc.map fun x=>fdI x (nmL rs)).length+(fbT K s[j]).length<=1048576:=by
    have h1:=congrArg List.length h;have h2:=HL.out;simp only[List.length_append,List.length_map]at h1 ⊢;omega
   have HS:=hid (aJ _ _ aS.out aM);have aN:=hid aK;have aq:=hid h;have aV:∀W',Fv bB wr W'->True:=fun _ _=>trivial
   have aW:Hid ((wr.alloc (.cells #[zI D,zT E,zU a1,zU G,zU c1,zU U,.slice V Y Z,zI p1] 119)).heap[wr.heap.size]? =some (.cells #[zI D,zT E,zU a1,zU G,zU c1,zU U,.slice V Y Z,zI p1] 119)):=hid (Qx wr _ rfl);have aX:wr.heap.size≠bB:=by obtain⟨v,h1,_⟩:=ai.out.bx;have:=Qq h1;omega
   clear aJ aK aI aj aL h aM ao aV
   go_wp2_with fail
   refine HS.out.mono ?_;clear HS;rintro e w3 ⟨rfl,ar,af⟩;have au:=af.2 _ _ _ aC (by decide) aT.out;have av:=af.2 _ _ _ aD (by decide) aU.out;have aw:=af.2 _ _ _ aX (by decide) aW.out;have ak:=hid ar;have ax:=hid (ap.out.trans af);obtain⟨t0,_⟩:=Qy au;obtain⟨⟨y0,y1,y2,y3,y4,y5,y6,y7⟩,_⟩:=Qf av;obtain⟨⟨x0,x1,x2,x3,x4,x5,x6,x7⟩,_⟩:=Qf aw;have ls:=Qq au;have ln:=Qq av;have lx:=Qq aw;have ab:=hid (aN.out w3 ar.be);have ez:∀A:List ByteArray,zs++acc.map (fun x=>fdI x (nmL rs))++A.map (fun x=>fdI x (nmL rs))=zs++(acc++A).map fun x=>fdI x (nmL rs):=fun A=>by rw[List.map_append,List.append_assoc]
   rw[ez]at ak;have a6:=hid ez;clear ar af au av aw aN ez;by_cases hk6:k=6
   ·have q6:(k == 6)=true:=by simp[hk6]
    have ay:decide (k=6)=true:=by simp[hk6]
    obtain⟨⟨r1,r2,r3⟩,hr⟩:∃r,r=ofT K s[j]:=⟨_,rfl⟩;rw[<-hr]at ab;have HR:=hid hr;clear hr;dsimp only[ov]at ab;have az:Hid (decide (k=6)=true):=ay;have a7:Hid (k=6):=hk6;clear hk6;cases r1 with
    |false=>
     go_wp2_with(first
      |(go_at_call 148;refine ab.out.mono ?_;clear ab;rintro e w4 ⟨rfl,aa⟩;have aA:=hid (ak.out.below aa);have aB:=hid (ax.out.trans (Fv.below aa));clear aa))
     first|refine bodyPost_end (results_none rfl _ _ _) rfl ?_ |refine bodyPost_ret (results_none rfl _ _ _) rfl ?_
     have h:=aq.out;rw[<-HR.out]at h;rw[az.out]at h ⊢;have e:fbL K true s=acc++fbT K s[j]:=by simpa using h
     rw[e];exact⟨rfl,aA.out,aE.out.trans aB.out⟩
    |true=>
     go_wp2_with(first
      |(go_at_call 148;refine ab.out.mono ?_;clear ab;rintro e w4 ⟨rfl,aa⟩;have aA:=hid (ak.out.below aa);have aB:=hid (ax.out.trans (Fv.below aa));clear aa))
     refine⟨⟨j+1,acc++fbT K s[j],by go_num,by omega,aA,aB,?_⟩,by simp[intOf];omega⟩;have h:=aq.out;rw[<-HR.out]at h;show _=_;rw[List.append_assoc];simpa using h
   ·have q6:(k == 6)=false:=by simp[hk6]
    have ay:decide (k=6)=false:=by simp[hk6]
    have az:Hid (decide (k=6)=false):=ay;clear hk6
    go_wp2_with fail
    refine⟨⟨j+1,acc++fbT K s[j],by go_num,by omega,ak,ax,?_⟩,by simp[intOf];omega⟩;have h:=aq.out;show _=_;rw[List.append_assoc];rw[az.out]at h ⊢;simpa using h
  ·have a0:decide ((j:Int)<(y:Int))=false:=by simp;omega
   clear HO
   go_wp2_with fail
   first|refine bodyPost_end (results_none rfl _ _ _) rfl ?_ |refine bodyPost_ret (results_none rfl _ _ _) rfl ?_
   have hA:=aG.out;rw[List.drop_eq_nil_of_le (by have:=HN.out;omega),fbL,List.append_nil]at hA;rw[hA];exact⟨rfl,ai.out,aE.out.trans aF.out⟩
theorem z4e(w0:World)(bB y:Nat)(U:Option Addr)(n Y:Nat)(A:Option Addr)(D E:Nat)(rs:List Rr)(K:zA->Ot)(B:Nat)(r:B<=w0.heap.size)(hg:zH w0 y (.cells #[.slice U n Y] 51))(hr:Qg w0 B U n rs)(hs:Qg w0 B A D (bG rs K))(ad:okG rs=true)(ae:ckR rs=none)(hz:RgZ rs)(Z:TabIs w0)(V:w0.heap.size<=bB):
  ∀(N:Nat) (t:RT) (cs:List Value) (zs:List Int) (W:World),SizeOf.sizeOf t<N->Bv w0 bB zs W->Qw w0 B t cs->Fit (nmL rs) t->zs.length+(fbT K t).length<=1048576->Calls prog 151 #[.agg #[.slice A D E],.agg cs.toArray,.func (.func 152) #[] #[zP bB 0,zP y 0]] W (VsQ w0 bB (zs++(fbT K t).map fun x=>fdI x (nmL rs)) W)
 |0,t,_,_,_,h,_,_,_,_=>by omega
 |N+1,.mk k T a b c d s p,cs,zs,W,hN,hV,ht,hf,hl=>by
  have al:=ht;rw[Qw]at ht;obtain⟨aa,ab,rfl,af⟩:=ht;by_cases hk:k=5
  ·subst hk
   have aj:=Sy hf.ok;subst aj;have e:fbT K (.mk 5 T a b c d [] p)=[T]:=by rw[fbT,if_pos rfl,fbL];rfl
   rw[e];exact y3c w0 bB y A D E rs K V T a b c d p aa ab zs W (hid hV) (hid fun W' ac=>y3a w0 bB y U n Y rs B r hg hr V 5 T a b c d p aa 0 ab zs W' ac (by omega))
  ·have e:fbT K (.mk k T a b c d s p)=fbL K (decide (k=6)) s:=by rw[fbT,if_neg hk,List.nil_append]
   rw[e]at hl ⊢;refine y3d w0 bB y A D E rs K V k hk T a b c d p aa _ ab s zs W (hid hV) (El af) (Xg s) (hid hl) (hid fun j hj=> ?_);obtain⟨g,o,h1,h2,k1,T1,a1,b1,c1,d1,ag,n2,ah,p1,h3,h4⟩:=Az r af j hj;have ai:=hf.sub j hj;refine⟨g,o,h1,h2,k1,T1,a1,b1,c1,d1,ag,n2,ah,p1,h3,fun ys W' ac ak=> ?_,fun W' G=> ?_⟩
   ·have am:=List.sizeOf_lt_of_mem (List.getElem_mem hj)
    simp only[RT.mk.sizeOf_spec]at hN;exact z4e w0 bB y U n Y A D E rs K B r hg hr hs ad ae hz Z V N s[j] _ ys W' (by omega) ac h4 ai ak
   ·exact z3T A D E rs K k1 T1 a1 b1 c1 d1 p1 ag n2 ah _ B B W' (hs.below (G.mono r)) (Nat.le_trans r G.size) ad ae hz (Z.below G Z.lt) (h4.below (G.mono r)) (Nat.le_trans r G.size) ai
end Go.Proofs.YtmelafeingcgnaaGreatDoor
