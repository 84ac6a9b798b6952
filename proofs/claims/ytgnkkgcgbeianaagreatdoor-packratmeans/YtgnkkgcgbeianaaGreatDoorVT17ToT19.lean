/- Lemmas for the last text. Conditions: those that each names. -/
import Derived.Test.YtgnkkgcgbeianaaGreatDoorVT14ToT16
import Derived.Test.YtgnkkgcgbeianaaGreatDoorVT13ToT15
import Derived.Test.YtgnkkgcgbeianaaGreatDoorVU3ToU8
set_option linter.unusedVariables false
set_option maxRecDepth 100000
set_option maxHeartbeats 8000000
namespace Go.Proofs.YtgnkkgcgbeianaaGreatDoor
open Go.Proofs.Tryz
open Go.RowKit Go.Shelf Go.Maps
variable {W W':World} {bB:Nat}
structure Ev (w0:World) (sB aB:Nat) (so0:Option Addr) (n0 cap0:Nat) (at':Int) (W:World):Prop where
 sbx:W.heap[sB]? =some (.cells #[.slice so0 n0 cap0] 43)
 abx:W.heap[aB]? =some (.cells #[zI at'] 3)
 be:zB w0 W
theorem Ev.ne{w0:World}{sB o:Nat}{t:Option Addr}{y A:Nat}{at':Int}(h:Ev w0 sB o t y A at' W):sB≠o:=fun e=>by
 have r:=h.sbx;rw[e,h.abx]at r;cases r
theorem Ev.alloc{w0:World}{sB r:Nat}{t:Option Addr}{y A:Nat}{at':Int}{W:World}(h:Ev w0 sB r t y A at' W)(o:Obj):Ev w0 sB r t y A at' (W.alloc o):=
 ⟨(Below.heap_alloc _ _ _ (Qq h.sbx)).trans h.sbx,(Below.heap_alloc _ _ _ (Qq h.abx)).trans h.abx,h.be.alloc h.be.size _⟩
theorem Ev.drew{w0:World}{sB o:Nat}{r:Option Addr}{t y:Nat}{at':Int}{W:World}(h:Ev w0 sB o r t y at' W):Ev w0 sB o r t y at' W.drew:=⟨h.sbx,h.abx,h.be.drew⟩
theorem Ev.step{w0:World}{sB o:Nat}{r:Option Addr}{t y:Nat}{at' q:Int}{W W':World}(h:Ev w0 sB o r t y at' W)(A:W.grownBy W' (some o))(D:w0.heap.size<=o)(ha:zH W' o (.cells #[zI q] 3)):Ev w0 sB o r t y q W':=
 ⟨(A.block _ (Qq h.sbx) (fun e=>h.ne (Option.some.inj e))).trans h.sbx,ha,h.be.grown A h.be.size (fun g e=>by have:=Option.some.inj e;omega)⟩
theorem z3U{K:zA->Ot}:∀{s:List RT},(∀i (o:i<s.length),flT K s[i]=none)->flL K s=none
 |[],_=>by rw[flL]
 |t::r,h=>by
  have y:flT K t=none:=h 0 (by simp);rw[flL,y];exact z3U fun i o=>h (i+1) (by simpa using o)
theorem z3V{K:zA->Ot}{q:Int}:∀{s:List RT} (j:Nat) (y:j<s.length),(∀i (A:i<s.length),i<j->flT K s[i]=none)->flT K s[j]=some q->flL K s=some q
 |t::r,0,_,_,h=>by
  have o:flT K t=some q:=h;rw[flL,o]
 |t::r,j+1,y,h,hq=>by
  have o:flT K t=none:=h 0 (by simp) (by omega);rw[flL,o];exact z3V j (by simpa using y) (fun i A D=>h (i+1) (by simpa using A) (by omega)) hq
theorem y2F{k:Int}{T:zA}{a b c d p:Int}{s:List RT}(h:okT (.mk k T a b c d s p)=true)(r:k=9∨k=10):s.length=1:=by
 rw[okT,Bool.and_eq_true]at h;have:=h.1;unfold okN at this;rw[if_neg (by omega),if_neg (by omega),if_neg (by omega),if_neg (by omega),if_neg (by omega),if_pos (by omega)]at this;simp only[Bool.and_eq_true]at this;have o:=this.2.2;have t:((Qv s:Nat):Int)=1:=by simpa using o
 rw[<-Zm];omega
theorem y2G(w0:World)(sB D:Nat)(E:Option Addr)(I U:Nat)(rs:List Rr)(K:zA->Ot)(B:Nat)(fp:Addr)(hB:B<=w0.heap.size)(hg:Qb w0 w0.heap.size E I (bG rs K))(ah:okG rs=true)(ai:ckR rs=none)(hz:RgZ rs)(hT:TabIs w0)(hF:zC w0 (1) 0 (.iface 363 (.pointer (some fp))))(ap:w0.heap.size<=D)
  (k:Int)(T:zA)(a b c d:Int)(s:List RT)(p:Int)(so:Option Addr)(V:Nat)(W:World)(at':Int)(A:Ev w0 sB D E I U at' W)(ht:Qy w0 B (.mk k T a b c d s p) (r8 k T a b c d so (Qv s) V p))(hf:Fit (nmL rs) (.mk k T a b c d s p)):
  Calls prog 110 #[.agg #[zI k,zT T,zU a,zU b,zU c,zU d,.slice so (Qv s) V,zI p],zP sB 0,zP D 0] W (LkQ fp D (if(k=9∨k=10)/\(ofH K s).1=true then some p else none) at' W):=by
 by_cases hk:k=9∨k=10
 ·have h1:=y2F hf.ok hk
  rw[Qy]at ht;obtain⟨aq,ar,e,aj⟩:=ht;simp only[r8,List.cons.injEq,Value.slice.injEq,true_and,and_true]at e;obtain⟨rfl,rfl⟩:=e;obtain⟨g,o,rfl,ak,Z,T1,a1,b1,c1,d1,aa,n1,ab,p1,hc,al⟩:=Kw hB aj 0 (by omega);rw[Nat.zero_mul,Nat.add_zero]at hc;have am:=hf.sub 0 (by omega);have ad:ofH K s=ofT K (s[0]'(by omega)):=by
   cases s with
   |nil=>simp at h1
   |cons t r=>rw[ofH];rfl
  have ae:=hc.below A.be ak;have ac:∀W':World,zB W W'->Calls prog 112 #[.agg #[.slice E I U],.agg #[zI Z,zT T1,zU a1,zU b1,zU c1,zU d1,.slice aa n1 ab,zI p1]] W' fun e w'=>e=.returned (ov (ofT K (s[0]'(by omega))))/\zB W' w':=fun W' ao=>by
   have Y:=A.be.trans (ao.mono A.be.size);exact z3Q E I U rs K Z T1 a1 b1 c1 d1 p1 aa n1 ab _ w0.heap.size B W' (hg.below Y) Y.size ah ai hz (hT.below Y hT.lt) (al.below (Y.mono hB)) (Nat.le_trans hB Y.size) am
  have af:=(Qk A.sbx).1;have hl:Qv s=1:=by rw[Zm];exact h1
  rw[hl];obtain⟨⟨q1,q2,q3⟩,hq⟩:∃q,q=ofT K (s[0]'(by omega)):=⟨_,rfl⟩;rw[<-hq]at ac ad;rw[ad];cases q1 with
  |false=>
   rw[if_neg (by simp)];refine(y2D k T a b c d p g o V sB D W hk Z T1 a1 b1 c1 d1 p1 aa n1 ab E I U q2 q3 af ae (hid ac)).mono fun e w' y=> ?_
   exact⟨G.below y.2,.inl ⟨rfl,y.1,(y.2.block _ (Qq A.abx)).trans A.abx⟩⟩
  |true=>
   rw[if_pos ⟨hk,rfl⟩];have ag:=World.block_lt_of_cell? w0 _ hF;refine(y2E k T a b c d p g o V sB D W hk Z T1 a1 b1 c1 d1 p1 aa n1 ab E I U q2 q3 fp _ A.abx ((A.be.cell (p:=⟨1,0,none⟩) ag).trans hF) (fun e=>by have h9:1<w0.heap.size:=ag;omega) af ae (hid ac)).mono fun e w' y=> ?_
   exact⟨y.2.1,.inr ⟨p,rfl,y.1,y.2.2⟩⟩
 ·rw[if_neg (fun h=>hk h.1)]
  refine(y2C k T a b c d p so (Qv s) V sB D W (fun e=>hk (.inl e)) (fun e=>hk (.inr e))).mono fun e w' y=> ?_
  exact⟨G.below y.2,.inl ⟨rfl,y.1,(y.2.block _ (Qq A.abx)).trans A.abx⟩⟩
theorem y2H(w0:World)(sB r:Nat)(aa:Option Addr)(n0 ab:Nat)(K:zA->Ot)(fp:Addr)(au:w0.heap.size<=r)(k:Int)(T:zA)(a b c d p:Int)(so:Option Addr)(n ag:Nat)(s:List RT)(r0:Option Int)(at':Int)(W:World)(hn:n<=9223372036854775807)(HN:Hid (n=s.length))(HE:Hid (Ev w0 sB r aa n0 ab at' W))
  (HV:Hid (∀W',Ev w0 sB r aa n0 ab at' W'->Calls prog 110 #[.agg #[zI k,zT T,zU a,zU b,zU c,zU d,.slice so n ag,zI p],zP sB 0,zP r 0] W' (LkQ fp r r0 at' W')))
  (HC:Hid (∀j (hj:j<s.length),∃g o,so=some ⟨g,o,none⟩/\g<w0.heap.size/\∃t y a1 A c1 D E I U p1,Rc w0 g (o+j*8) t y a1 A c1 D (.slice E I U) p1/\
    ∀W',Ev w0 sB r aa n0 ab at' W'->Calls prog 114 #[.agg #[zI t,zT y,zU a1,zU A,zU c1,zU D,.slice E I U,zI p1],.func (.func 110) #[] #[zP sB 0,zP r 0]] W' (LkQ fp r (flT K s[j]) at' W'))):
  Calls prog 114 #[.agg #[zI k,zT T,zU a,zU b,zU c,zU d,.slice so n ag,zI p],.func (.func 110) #[] #[zP sB 0,zP r 0]] W (LkQ fp r (match r0 with|some q=>some q|none=>flL K s) at' W):=by
 obtain⟨V,ac⟩:∃V,V=W.alloc (.cells #[zI k,zT T,zU a,zU b,zU c,zU d,.slice so n ag,zI p] 81):=⟨_,rfl⟩;have ah:Hid (Ev w0 sB r aa n0 ab at' V):=by rw[ac];exact HE.out.alloc _
 have ai:Hid (W.grownBy V (some r)):=by rw[ac];exact World.grownBy_alloc _ _ _
 obtain⟨nB,aj⟩:∃nB,nB=W.heap.size:=⟨_,rfl⟩;have ak:Hid (zH V nB (.cells #[zI k,zT T,zU a,zU b,zU c,zU d,.slice so n ag,zI p] 81)):=by rw[ac,aj];exact Qx W _ rfl
 have aE:nB≠r:=by have:=Qq HE.out.abx;omega
 have Y:=hid (HV.out V ah.out);have av:=hid ac;clear ac HV;go_enter func114,ntmps114
 go_wp2_with fail
 rw[<-av.out];clear av;refine Y.out.mono ?_;clear Y;rintro e w2 ⟨Z,⟨rfl,rfl,ad⟩|⟨q,rfl,rfl,ad⟩⟩
 ·have ao:=hid ((Z.block _ (Qq ak.out) (fun e=>aE (Option.some.inj e))).trans ak.out)
  rw[<-aj];obtain⟨⟨y0,y1,y2,y3,y4,y5,y6,y7⟩,_⟩:=Qg ao.out;have ln:=Qq ao.out;have aw:=hid (ah.out.step Z au ad);have al:=hid (G.trans ai.out Z);clear Z ad ah ai ak aj
  go_wp2_with fail
  go_loopw [18] (fun i wr=>∃j:Nat,i=zI (j:Int)/\j<=n/\Hid (Ev w0 sB r aa n0 ab at' wr)/\Hid (W.grownBy wr (some r))/\Hid (∀i (hi:i<s.length),i<j->flT K s[i]=none)) (fun i _=>n-(intOf i).toNat)
  case atStart=>exact⟨0,rfl,Nat.zero_le _,aw,al,fun i _ h=>absurd h (by omega)⟩
  case round=>
   obtain⟨j,rfl,hj,am,ax,ap⟩:=hrel;clear aw al y0 y1 y2 y3 y4 y5 y6 y7 ln ao;by_cases hjn:j<n
   ·have aJ:(j:Int)<(n:Int):=by omega
    have a0:decide ((j:Int)<(n:Int))=true:=by simp;omega
    have ay:j<s.length:=by rw[<-HN.out];exact hjn
    obtain⟨g,o,rfl,hg,t,y,a1,A,c1,D,E,I,U,p1,az,aA⟩:=HC.out j ay;obtain⟨z0,z1,z2,z3,z4,z5,z6,z7⟩:=az.below am.out.be hg;have aK:g<wr.heap.size:=World.block_lt_of_cell? wr _ z0;obtain⟨r1,aq⟩:∃r1,r1=flT K s[j]:=⟨_,rfl⟩;have Y:=hid (aA _ (am.out.alloc (.cells #[zI t,zT y,zU a1,zU A,zU c1,zU D,.slice E I U,zI p1] 81)));rw[<-aq]at Y;have aC:=hid aq;have aD:=hid (G.trans ax.out (World.grownBy_alloc wr (.cells #[zI t,zT y,zU a1,zU A,zU c1,zU D,.slice E I U,zI p1] 81) (some r)));have aF:=hid (am.out.alloc (.cells #[zI t,zT y,zU a1,zU A,zU c1,zU D,.slice E I U,zI p1] 81));clear aA az aq
    go_wp2_with fail
    refine Y.out.mono ?_;clear Y;rintro e w3 ⟨ae,⟨rfl,rfl,af⟩|⟨q,rfl,rfl,af⟩⟩
    ·have aG:=hid (aF.out.step ae au af)
     have ar:=hid (G.trans aD.out ae);clear ae af
     go_wp2_with fail
     refine⟨⟨j+1,by go_num,by omega,aG,ar,fun i hi aL=> ?_⟩,by simp[intOf];omega⟩;rcases Nat.lt_or_ge i j with h1|h1
     ·exact ap.out i hi h1
     ·obtain rfl:i=j:=by omega
      exact aC.out.symm
    ·have ar:=hid (G.trans aD.out ae)
     have aH:=hid af;clear ae af
     go_wp2_with fail
     go_ret;exact⟨ar.out,.inr ⟨q,z3V j ay ap.out aC.out.symm,rfl,aH.out⟩⟩
   ·have a0:decide ((j:Int)<(n:Int))=false:=by simp;omega
    clear HC
    go_wp2_with fail
    go_ret;exact⟨ax.out,.inl ⟨z3U fun i hi=>ap.out i hi (by have:=HN.out;omega),rfl,am.out.abx⟩⟩
 ·have al:=hid (G.trans ai.out Z)
  have aI:=hid ad;clear Z ad ah ai ak aj
  go_wp2_with fail
  go_ret;exact⟨al.out,.inr ⟨q,rfl,rfl,aI.out⟩⟩
theorem y2I(K:zA->Ot)(k:Int)(T:zA)(a b c d:Int)(s:List RT)(p:Int):(match(if(k=9∨k=10)/\(ofH K s).1=true then some p else none:Option Int)with|some q=>some q|none=>flL K s)=flT K (.mk k T a b c d s p):=by
 rw[flT];by_cases h:(k=9∨k=10)/\(ofH K s).1=true
 ·rw[if_pos h,if_pos h]
 ·rw[if_neg h,if_neg h]
theorem z3W(w0:World)(sB r:Nat)(y:Option Addr)(A E:Nat)(rs:List Rr)(K:zA->Ot)(B:Nat)(D:Addr)(G:B<=w0.heap.size)(Z:Qb w0 w0.heap.size y A (bG rs K))(aa:okG rs=true)(ab:ckR rs=none)(hz:RgZ rs)(hT:TabIs w0)(hF:zC w0 (1) 0 (.iface 363 (.pointer (some D))))(I:w0.heap.size<=r):
  ∀(N:Nat) (t:RT) (U:List Value) (W:World) (at':Int),SizeOf.sizeOf t<N->Ev w0 sB r y A E at' W->Qy w0 B t U->Fit (nmL rs) t->Calls prog 114 #[.agg U.toArray,.func (.func 110) #[] #[zP sB 0,zP r 0]] W (LkQ D r (flT K t) at' W)
 |0,t,_,_,_,h,_,_,_=>by omega
 |N+1,.mk k T a b c d s p,U,W,at',hN,hE,ht,hf=>by
  have ae:=ht;rw[Qy]at ht;obtain⟨so,ac,rfl,ad⟩:=ht;have:=y2H w0 sB r y A E K D I k T a b c d p so (Qv s) ac s _ at' W (Ep ad) (Zm s) (hid hE) (hid fun W' V=>y2G w0 sB r y A E rs K B D G Z aa ab hz hT hF I k T a b c d s p so ac W' at' V ae hf) (hid fun j Y=> ?_)
  ·rw[y2I]at this
   exact this
  ·obtain⟨g,o,h1,h2,k1,T1,a1,b1,c1,d1,af,n1,ag,p1,h3,h4⟩:=Kw G ad j Y
   refine⟨g,o,h1,h2,k1,T1,a1,b1,c1,d1,af,n1,ag,p1,h3,fun W' V=> ?_⟩;have ah:=List.sizeOf_lt_of_mem (List.getElem_mem Y);simp only[RT.mk.sizeOf_spec]at hN;exact z3W w0 sB r y A E rs K B D G Z aa ab hz hT hF I N s[j] _ W' at' (by omega) V h4 (hf.sub j Y)
theorem z3X{o t:Nat}{v x0 x1 x2 x3 y A D E:Value}(h:zC W (1) 0 v/\zC W o 1 x0/\zC W o 2 x1/\zC W o 3 x2/\zC W o 4 x3/\zC W o 5 y/\zC W o 6 A/\zC W o 7 D/\zC W o 8 E)(G:1≠t)(r:o≠t)(I:W.grownBy W' (some t)):zC W' (1) 0 v/\zC W' o 1 x0/\zC W' o 2 x1/\zC W' o 3 x2/\zC W' o 4 x3/\zC W' o 5 y/\zC W' o 6 A/\zC W' o 7 D/\zC W' o 8 E:=by
 obtain⟨U,V,Y,Z,h4,h5,h6,h7,h8⟩:=h;have e:∀{a:Addr} {u:Value},a.block≠t->W.cell? a=some u->W'.cell? a=some u:=fun{a u} aa h=>(I.cell_far a (World.block_lt_of_cell? W _ h) (fun e=>aa (Option.some.inj e))).trans h
 exact⟨e G U,e r V,e r Y,e r Z,e r h4,e r h5,e r h6,e r h7,e r h8⟩
theorem z3Y{K:zA->Ot}:∀{rs:List Rr},(∀i (o:i<rs.length),flT K rs[i].2.1=none)->flG K rs=none
 |[],_=>by rw[flG]
 |t::r,h=>by
  have y:flT K t.2.1=none:=h 0 (by simp);rw[flG,y];exact z3Y fun i o=>h (i+1) (by simpa using o)
theorem z3Z{K:zA->Ot}{q:Int}:∀{rs:List Rr} (j:Nat) (y:j<rs.length),(∀i (A:i<rs.length),i<j->flT K rs[i].2.1=none)->flT K rs[j].2.1=some q->flG K rs=some q
 |t::r,0,_,_,h=>by
  have o:flT K t.2.1=some q:=h;rw[flG,o]
 |t::r,j+1,y,h,hq=>by
  have o:flT K t.2.1=none:=h 0 (by simp) (by omega);rw[flG,o];exact z3Z j (by simpa using y) (fun i A D=>h (i+1) (by simpa using A) (by omega)) hq
def flX(K:zA->Ot)(rs:List Rr):Option (Int ⊕ (Int×Int)):=(flG K rs).map fun p=>.inr (40,p)
theorem y2J(so:Option Addr)(n av:Nat)(G:Option Addr)(I V:Nat)(rs:List Rr)(K:zA->Ot)(U:Addr)(w:World)(h:Qb w w.heap.size so n rs)(hn:n<=1048576)(hg:Qb w w.heap.size G I (bG rs K))(aw:okG rs=true)(aj:ckR rs=none)(hz:RgZ rs)(hP:PrG rs)(hT:TabIs w)(hF:zC w (1) 0 (.iface 363 (.pointer (some U)))):
  Calls prog 82 #[.agg #[.slice so n av],.agg #[.slice G I V]] w fun e w'=>∃v,e=.returned v/\Zh (flX K rs) w.heap.size w' v/\zB w w':=by
 obtain⟨W3,ak⟩:∃W3,W3=((w.alloc (.cells #[.slice so n av] 43)).alloc (.cells #[.slice G I V] 43)).alloc (.cells #[zI 0] 3):=⟨_,rfl⟩;have al:Hid (Ev w (w.heap.size+1) (w.heap.size+1+1) G I V 0 W3):=by
  rw[ak];exact⟨(Below.heap_alloc _ _ _ (by simp)).trans (Qx _ _ (by simp)),Qx _ _ (by simp),(((Below.refl _ w).alloc L0q _).alloc (by simp) _).alloc (by simp;omega) _⟩
 have aK:1<w.heap.size:=World.block_lt_of_cell? w _ hF;have ax:Hid (n=rs.length):=h.1;have HG:=hid h;have am:=hid (fun(t:RT) (cs:List Value) (W:World) (hE:Ev w (w.heap.size+1) (w.heap.size+1+1) G I V 0 W) (ht:Qy w w.heap.size t cs) (hf:Fit (nmL rs) t)=>z3W w (w.heap.size+1) (w.heap.size+1+1) G I V rs K w.heap.size U L0q hg aw aj hz hT hF (by omega) _ t cs W 0 (Nat.lt_succ_self _) hE ht hf);have aL:=hid (fun(x:Rr) (hx:x∈rs)=>Hc hP aj hz hx);have HF:=hid hF;clear h hg aw aj hz hP hT hF;go_enter func82,ntmps82
 go_wp2_with fail
 rw[<-ak];clear ak;obtain⟨A,ay⟩:∃A,A=w.heap.size+1+1:=⟨_,rfl⟩;obtain⟨sB,az⟩:∃sB,sB=w.heap.size+1:=⟨_,rfl⟩;rw[<-ay,<-az]at al am ⊢;have aA:w.heap.size<=A:=by omega
 have aC:1≠A:=by omega
 clear ay az
 go_loopw [13] (fun i wr=>∃j:Nat,i=zI (j:Int)/\j<=n/\Hid (Ev w sB A G I V 0 wr)/\Hid (∀i (hi:i<rs.length),i<j->flT K rs[i].2.1=none)) (fun i _=>n-(intOf i).toNat)
 case atStart=>exact⟨0,rfl,Nat.zero_le _,al,fun i _ h=>absurd h (by omega)⟩
 case round=>
  obtain⟨j,rfl,hj,ah,ao⟩:=hrel;clear al;by_cases hjn:j<n
  ·have aN:(j:Int)<(n:Int):=by omega
   have a0:decide ((j:Int)<(n:Int))=true:=by simp;omega
   have ap:j<rs.length:=by rw[<-ax.out];exact hjn
   obtain⟨g,o,rfl,hg,Y,Z,a1,b1,c1,d1,aa,n1,ab,p1,aD,r0⟩:=HG.out.2.2 j ap;have aE:∀q,wr.cell? ⟨g,q,none⟩=w.cell? ⟨g,q,none⟩:=fun q=>ah.out.be.cell (p:=⟨g,q,none⟩) hg
   simp only[<-aE]at r0;obtain⟨z0,z1,z2,z3,z4,z5,z6,z7,z8,z9⟩:=r0;have aO:g<wr.heap.size:=World.block_lt_of_cell? wr _ z0;obtain⟨N0,aF⟩:∃N0,N0=rs[j].1:=⟨_,rfl⟩;obtain⟨q1,aG⟩:∃q1,q1=rs[j].2.2:=⟨_,rfl⟩;rw[<-aF]at z0;rw[<-aG]at z9;obtain⟨W4,ae⟩:∃W4,W4=wr.alloc (.cells #[zT N0,zI Y,zT Z,zU a1,zU b1,zU c1,zU d1,.slice aa n1 ab,zI p1,zI q1] 83):=⟨_,rfl⟩;have ai:Hid (Ev w sB A G I V 0 W4.drew):=by rw[ae];exact(ah.out.alloc _).drew
   have D:W4.drew.heap[wr.heap.size]? =some (.cells #[zT N0,zI Y,zT Z,zU a1,zU b1,zU c1,zU d1,.slice aa n1 ab,zI p1,zI q1] 83):=by rw[ae];exact Qx wr _ rfl
   obtain⟨r,ag⟩:∃r,r=wr.heap.size:=⟨_,rfl⟩;rw[<-ag]at D;have aH:r≠A:=by have:=Qq ah.out.abx;omega
   have aI:Hid (zC W4.drew (1) 0 (.iface 363 (.pointer (some U)))/\zC W4.drew r 1 (zI Y)/\zC W4.drew r 2 (zT Z)/\zC W4.drew r 3 (zU a1)/\zC W4.drew r 4 (zU b1)/\zC W4.drew r 5 (zU c1)/\zC W4.drew r 6 (zU d1)/\zC W4.drew r 7 (.slice aa n1 ab)/\zC W4.drew r 8 (zI p1)):=⟨(ai.out.be.cell (p:=⟨1,0,none⟩) aK).trans HF.out,(Qj D 1 _ rfl).1,(Qj D 2 _ rfl).1,(Qj D 3 _ rfl).1,(Qj D 4 _ rfl).1,(Qj D 5 _ rfl).1,(Qj D 6 _ rfl).1,(Qj D 7 _ rfl).1,(Qj D 8 _ rfl).1⟩;have af:=hid (am.out rs[j].2.1 _ W4.drew ai.out aD (aL.out _ (List.getElem_mem ap)));dsimp only[r8]at af;obtain⟨r1,aq⟩:∃r1,r1=flT K rs[j].2.1:=⟨_,rfl⟩;rw[<-aq]at af;have aJ:=hid aq;have aP:r<W4.drew.heap.size:=Qq D;clear aE aF aG aq aD D;cases r1 with
   |none=>
    have ar:Hid (Calls prog 114 #[.agg #[zI Y,zT Z,zU a1,zU b1,zU c1,zU d1,.slice aa n1 ab,zI p1],.func (.func 110) #[] #[zP sB 0,zP A 0]] W4.drew fun e w'=>W4.drew.grownBy w' (some A)/\e=.returned .nilIface/\zH w' A (.cells #[zI 0] 3)):=af.out.mono fun e w' he=>by
     obtain⟨h1,⟨_,h2,h3⟩|⟨q,h2,_⟩⟩:=he
     ·exact⟨h1,h2,h3⟩
     ·cases h2
    clear af
    go_wp2_with fail
    rw[<-ae,<-ag];clear ae ag z0 z1 z2 z3 z4 z5 z6 z7 z8 z9;refine Qc 99 (fun W:World=>zC W (1) 0 (.iface 363 (.pointer (some U)))/\zC W r 1 (zI Y)/\zC W r 2 (zT Z)/\zC W r 3 (zU a1)/\zC W r 4 (zU b1)/\zC W r 5 (zU c1)/\zC W r 6 (zU d1)/\zC W r 7 (.slice aa n1 ab)/\zC W r 8 (zI p1)) (by kernel_rfl) aI.out (fun y=> ?_);refine Qz 0 y ?_;refine Qz 1 y ?_;refine Qz 2 y ?_;refine Qz 4 y ?_
    (refine Qf 3 (fun K E=> ?_);go_simp;refine(ar.out).mono ?_;rintro e w6 ⟨ac,rfl,ad⟩;go_simp;replace y:=z3X y aC aH ac;refine E.out _ _ y ?_;clear E K)
    (try simp only[Act.put,zY])
    (refine Qf 5 (fun K E=> ?_);go_simp;refine(y2B U _).mono ?_;rintro e w7 ⟨rfl,rfl⟩;go_simp;refine E.out _ _ y ?_;clear E K)
    (try simp only[Act.put,zY])
    refine⟨by kernel_rfl,?_⟩;have aM:=hid (ai.out.step ac aA ad);clear ac ad y
    go_wp2_with fail
    refine⟨⟨j+1,by go_num,by omega,aM,fun i hi aQ=> ?_⟩,by simp[intOf];omega⟩;rcases Nat.lt_or_ge i j with h1|h1
    ·exact ao.out i hi h1
    ·obtain rfl:i=j:=by omega
     exact aJ.out.symm
   |some q=>
    have ar:Hid (Calls prog 114 #[.agg #[zI Y,zT Z,zU a1,zU b1,zU c1,zU d1,.slice aa n1 ab,zI p1],.func (.func 110) #[] #[zP sB 0,zP A 0]] W4.drew fun e w'=>W4.drew.grownBy w' (some A)/\e=.returned (.iface 363 (.pointer (some U)))/\zH w' A (.cells #[zI q] 3)):=af.out.mono fun e w' he=>by
     obtain⟨h1,⟨h2,_⟩|⟨q',h2,h3,h4⟩⟩:=he
     ·cases h2
     ·cases h2
      exact⟨h1,h3,h4⟩
    clear af
    go_wp2_with fail
    rw[<-ae,<-ag];clear ae ag z0 z1 z2 z3 z4 z5 z6 z7 z8 z9;refine Qc 99 (fun W:World=>zC W (1) 0 (.iface 363 (.pointer (some U)))/\zC W r 1 (zI Y)/\zC W r 2 (zT Z)/\zC W r 3 (zU a1)/\zC W r 4 (zU b1)/\zC W r 5 (zU c1)/\zC W r 6 (zU d1)/\zC W r 7 (.slice aa n1 ab)/\zC W r 8 (zI p1)) (by kernel_rfl) aI.out (fun y=> ?_);refine Qz 0 y ?_;refine Qz 1 y ?_;refine Qz 2 y ?_;refine Qz 4 y ?_
    (refine Qf 3 (fun K E=> ?_);go_simp;refine(ar.out).mono ?_;rintro e w6 ⟨ac,rfl,ad⟩;go_simp;replace y:=z3X y aC aH ac;refine E.out _ _ y ?_;clear E K)
    (try simp only[Act.put,zY])
    (refine Qf 5 (fun K E=> ?_);go_simp;refine(y2A U _).mono ?_;rintro e w7 ⟨rfl,rfl⟩;go_simp;refine E.out _ _ y ?_;clear E K)
    (try simp only[Act.put,zY])
    refine⟨by kernel_rfl,?_⟩;have au:=hid (ai.out.step ac aA ad).be;obtain⟨t0,t1⟩:=Qk ad;have la:=Qq ad;clear ac ad y
    go_wp2_with fail
    go_ret;refine⟨_,rfl,?_,au.out.alloc au.out.size _⟩;have e:flX K rs=some (.inr (40,q)):=by unfold flX;rw[z3Z j ap ao.out aJ.out.symm];rfl
    rw[e];exact⟨_,rfl,au.out.size,Qx _ _ rfl⟩
  ·have a0:decide ((j:Int)<(n:Int))=false:=by simp;omega
   clear am
   go_wp2_with fail
   go_ret;refine⟨_,rfl,?_,ah.out.be⟩;have e:flX K rs=none:=by unfold flX;rw[z3Y fun i hi=>ao.out i hi (by have:=ax.out;omega)];rfl
   rw[e];rfl
theorem z4a{o r:Nat}{v0 v1 v2:Value}(h:zC W bB 0 v0/\zC W o 0 v1/\zC W r 1 v2)(t:zB W W'):zC W' bB 0 v0/\zC W' o 0 v1/\zC W' r 1 v2:=by
 obtain⟨y,A,D⟩:=h;have e:∀{a:Addr} {u:Value},W.cell? a=some u->W'.cell? a=some u:=fun{a u} h=>(t.cell (p:=a) (World.block_lt_of_cell? W _ h)).trans h
 exact⟨e y,e A,e D⟩
theorem y2K{o r:Nat}{v0 v1 v2:Value}{row:Option Nat}(h:zC W bB 0 v0/\zC W o 0 v1/\zC W r 1 v2)(t:some bB≠row)(y:some o≠row)(A:some r≠row)(D:W.grownBy W' row):zC W' bB 0 v0/\zC W' o 0 v1/\zC W' r 1 v2:=by
 obtain⟨E,G,I⟩:=h;have e:∀{a:Addr} {u:Value},some a.block≠row->W.cell? a=some u->W'.cell? a=some u:=fun{a u} U h=>(D.cell_far a (World.block_lt_of_cell? W _ h) U).trans h
 exact⟨e t E,e y G,e A I⟩
theorem y2L(a b c:Bool)(w:World):(Instr.field 210 (.agg #[.bool a,.bool b,.bool c]) 0).run prog w=.ok (.bool a) w:=by kernel_rfl
def Fv(bB:Nat)(W W':World):Prop:=W.heap.size<=W'.heap.size/\∀b cur t,b≠bB->t≠3->W.heap[b]? =some (.cells cur t)->W'.heap[b]? =some (.cells cur t)
theorem Fv.refl(bB:Nat)(W:World):Fv bB W W:=⟨Nat.le_refl _,fun _ _ _ _ _ h=>h⟩
theorem Fv.trans{a b c:World}(h:Fv bB a b)(k:Fv bB b c):Fv bB a c:=⟨Nat.le_trans h.1 k.1,fun i o t r y A=>k.2 i o t r y (h.2 i o t r y A)⟩
theorem Fv.below(h:zB W W'):Fv bB W W':=⟨h.size,fun b r t _ _ o=>(h.block b (Qq o)).trans o⟩
structure Bv (w0:World) (bB:Nat) (zs:List Int) (W:World):Prop where
 be:zB w0 W
 bx:∃v,W.heap[bB]? =some (.cells #[v] 24)/\W.ownsRow w0.heap.size 3 1 v zs.length (zs.map (Value.int .i64))
theorem Bv.below{w0:World}{zs:List Int}(h:Bv w0 bB zs W)(o:zB W W'):Bv w0 bB zs W':=by
 obtain⟨r,v,t,y⟩:=h;exact⟨r.trans (o.mono r.size),v,(o.block _ (Qq t)).trans t,Xh y o⟩
def VsQ(w0:World)(bB:Nat)(zs:List Int)(W:World)(e:Ending)(w':World):Prop:=e=.returned (.tuple #[])/\Bv w0 bB zs w'/\Fv bB W w'
theorem y2M(base bB U:Nat)(so:Option Addr)(n ac:Nat)(k:Int)(T:zA)(a b c d p:Int)(ag:Option Addr)(n1 ah:Nat)(j:Nat)(xs:List Value)(t:Option Addr)(y:Nat)(V:Int)(W:World)(Y:zH W bB (.cells #[.slice t j y] 24))(Z:W.ownsRow base 3 1 (.slice t j y) j xs)(hg:zH W U (.cells #[.slice so n ac] 43))(hj:j<=1048576)(aq:base<=W.heap.size)
  (HF:Hid (∀W',zB W W'->Calls prog 85 #[.agg #[.slice so n ac],zT T] W' fun e w'=>e=.returned (zI V)/\zB W' w')):
  Calls prog 116 #[.agg #[zI k,zT T,zU a,zU b,zU c,zU d,.slice ag n1 ah,zI p],zP bB 0,zP U 0] W fun e w'=>e=.returned (.tuple #[])/\∃W4 G g6 aa,zB W W4/\W4.grownBy G (Value.slice t j y).ownBlock/\w'=G.setCell ⟨bB,0,none⟩ (zS g6 (j+1) aa)/\G.ownsRow base 3 1 (zS g6 (j+1) aa) (j+1) (xs++[zI V])/\zH G bB (.cells #[.slice t j y] 24):=by
 obtain⟨i0,ar,au,av,aw⟩:=info_parts Tryz.infoInt;obtain⟨r,ab⟩:∃r,r=W.alloc (.cells #[zI k,zT T,zU a,zU b,zU c,zU d,.slice ag n1 ah,zI p] 81):=⟨_,rfl⟩;have I:Hid (zB W r.drew):=by rw[ab];exact((Below.refl _ W).alloc L0q _).drew
 have ax:r.drew.heap.size=W.heap.size+1:=by rw[ab];exact World.size_alloc _ _
 have ai:r.drew.heap[W.heap.size]? =some (.cells #[zI k,zT T,zU a,zU b,zU c,zU d,.slice ag n1 ah,zI p] 81):=by rw[ab];exact Qx W _ rfl
 obtain⟨nB,aj⟩:∃nB,nB=W.heap.size:=⟨_,rfl⟩;rw[<-aj]at ai;have lb:=Qq Y;have ay:Hid (zC r.drew bB 0 (.slice t j y)/\zC r.drew U 0 (.slice so n ac)/\zC r.drew nB 1 (zT T)):=⟨(Qk ((I.out.block _ lb).trans Y)).1,(Qk ((I.out.block _ (Qq hg)).trans hg)).1,(Qg ai).1.2.1⟩;have ak:Hid (∀o,Below r.drew.heap.size r.drew o->base<=o.heap.size/\bB<o.heap.size):=fun o h=>by
  have:=h.size;constructor<;>omega
 have az:Hid (∀o,Below r.drew.heap.size r.drew o->zH o bB (.cells #[.slice t j y] 24)):=fun o h=>(h.block _ (by omega)).trans ((I.out.block _ lb).trans Y)
 have aA:Hid (∀o,Below r.drew.heap.size r.drew o->o.ownsRow base 3 1 (.slice t j y) j xs):=fun o h=>Xh (Xh Z I.out) h
 have al:Hid (some bB≠(Value.slice t j y).ownBlock):=fun e=>Fq Z Y (fun aB e=>by cases e) e.symm
 have aC:Hid (some U≠(Value.slice t j y).ownBlock):=fun e=>Fq Z hg (fun aB e=>by cases e) e.symm
 have aD:Hid (some nB≠(Value.slice t j y).ownBlock):=fun e=>by have:=(Z.lt _ e.symm).2;omega
 have m1:j+1<=maxLen:=by unfold maxLen;omega
 have m2:(j+1)*8<=140737488355328:=by omega
 have aE:Hid (W.heap.size<=r.drew.heap.size):=I.out.size;clear Y Z hg ai lb aq ax;go_enter func116,ntmps116
 go_wp2_with fail
 rw[<-ab,<-aj];clear ab aj;refine Qc 7 (fun W:World=>zC W bB 0 (.slice t j y)/\zC W U 0 (.slice so n ac)/\zC W nB 1 (zT T)) (by kernel_rfl) ay.out (fun A=> ?_);refine Qz 0 A ?_;refine Qz 1 A ?_;refine Qz 2 A ?_;refine Qz 3 A ?_
 (refine Qf 4 (fun K D=> ?_);go_simp;refine(HF.out _ I.out).mono ?_;rintro e o ⟨rfl,E⟩;go_simp;replace A:=z4a A E;refine D.out _ _ A ?_;clear D K)
 (try simp only[Act.put,zY])
 (refine Qf 5 (fun K D=> ?_);go_simp;replace A:=z4a A ((Below.refl _ o).alloc L0q (.cells #[zI V] 3));refine D.out _ _ A ?_;clear D K)
 (try simp only[Act.put,zY])
 (refine Qf 6 (fun K D=> ?_);refine step_append_lies _ rfl (.tmp 4) (.tmp 9) 24 rfl base 3 i0 (zI 0) 1 8 Tryz.underlying24 ar au av aw rfl (by decide) (.slice t j y) j xs (by rfl) ((aA.out o E).alloc _) ⟨o.heap.size,0,none⟩ 1 1 [zI V] (by rfl) rfl (cell_one_new _ _ _) (by simp[Value.oneCell']) (by decide) m1 m2 (by rw[World.size_alloc];have:=ak.out o E;omega) _ rfl ?_;intro g6 aa G am ad aF aG;have ae:=((ad.block bB (by rw[World.size_alloc];have:=ak.out o E;omega) al.out).trans (Below.heap_alloc _ _ _ (ak.out o E).2)).trans (az.out o E);replace A:=y2K A al.out aC.out aD.out ad;refine D.out _ _ A ?_;clear D K)
 (try simp only[Act.put,zY])
 refine Yj (fun K D=> ?_);obtain⟨s0,s1⟩:=Qk ae;have ls:=Qq ae;clear A
 go_simp
 refine D.out _ _ ?_;clear D K;have aH:Hid (∃W4 af ao ap,zB W W4/\W4.grownBy af (Value.slice t j y).ownBlock/\G.setCell ⟨bB,0,none⟩ (zS g6 (j+1) aa)=af.setCell ⟨bB,0,none⟩ (zS ao (j+1) ap)/\af.ownsRow base 3 1 (zS ao (j+1) ap) (j+1) (xs++[zI V])/\zH af bB (.cells #[.slice t j y] 24)):=by
  have h1:=I.out.trans (E.mono aE.out);exact⟨_,G,g6,aa,h1.alloc h1.size _,ad,rfl,am,ae⟩
 clear ad am aF aG ae E s0 s1
 go_wp2_with fail
 first|refine bodyPost_end (results_none rfl _ _ _) rfl ?_ |refine bodyPost_ret (results_none rfl _ _ _) rfl ?_
 exact⟨rfl,aH.out⟩
theorem y2N(w0:World)(bB E:Nat)(o:Option Addr)(n G:Nat)(rs:List Rr)(B:Nat)(Y:B<=w0.heap.size)(Z:zH w0 E (.cells #[.slice o n G] 43))(hr:Qb w0 B o n rs)(ad:w0.heap.size<=bB)(k:Int)(T:zA)(a b c d p:Int)(aa:Option Addr)(n1 ab:Nat)(zs:List Int)(W:World)(hV:Bv w0 bB zs W)(hz:zs.length<=1048576):
  Calls prog 116 #[.agg #[zI k,zT T,zU a,zU b,zU c,zU d,.slice aa n1 ab,zI p],zP bB 0,zP E 0] W (VsQ w0 bB (zs++[fdI T (nmL rs)]) W):=by
 obtain⟨h,v,h1,r⟩:=hV;obtain⟨I,U,rfl⟩:=Vm r;refine(y2M w0.heap.size bB E o n G k T a b c d p aa n1 ab zs.length _ I U (fdI T (nmL rs)) W h1 r ((h.block _ (Qq Z)).trans Z) hz h.size (hid fun W' ae=> ?_)).mono fun e w' he=> ?_
 ·have y:=h.trans (ae.mono h.size)
  exact Sz T o n G rs B W' (hr.below (y.mono Y)) (Nat.le_trans Y y.size)
 ·obtain⟨rfl,W4,w6,g6,af,A,V,rfl,q4,q5⟩:=he
  have ag:∀g,(Value.slice I zs.length U).ownBlock=some g->w0.heap.size<=g/\g<W.heap.size:=fun g e=>r.lt g e
  have ac:=h.trans (A.mono h.size);have ah:zB w0 w6:=ac.grown V ac.size (fun g e=>(ag g e).1);refine⟨rfl,⟨ah.setCell (p:=⟨bB,0,none⟩) ad _,_,Qw q5 0 _,?_⟩,?_,fun b ai t y ht D=> ?_⟩
  ·have:=q4.kept (grownBy_setCell' w6 bB (zS g6 (zs.length+1) af)) (.inr (Fq q4 q5 (fun ai e=>by cases e)))
   rw[List.length_append,List.map_append];exact this
  ·rw[World.size_setCell]
   exact Nat.le_trans A.size V.size
  ·have aj:some b≠(Value.slice I zs.length U).ownBlock:=fun e=>by
    refine Fq r D (fun ak e2=> ?_) e.symm;injection e2 with _ e3 _
    exact ht e3
   exact(Below.heap_setCell _ _ _ _ y).trans ((V.block b (Nat.lt_of_lt_of_le (Qq D) A.size) aj).trans ((A.block b (Qq D)).trans D))
theorem y2O{K:zA->Ot}{h:Bool}{s:List RT}{j:Nat}(o:j<s.length):fbL K h (s.drop j)=fbT K s[j]++(if h&& !(ofT K s[j]).1 then []else fbL K h (s.drop (j+1))):=by
 rw[List.drop_eq_getElem_cons o,fbL]
theorem y2P(w0:World)(bB Y:Nat)(A:Option Addr)(D E:Nat)(rs:List Rr)(K:zA->Ot)(ao:Hid (w0.heap.size<=bB))(T:zA)(a b c d p:Int)(r:Option Addr)(t:Nat)(zs:List Int)(W:World)(Z:Hid (Bv w0 bB zs W))
  (aa:Hid (∀W',Bv w0 bB zs W'->Calls prog 116 #[.agg #[zI 5,zT T,zU a,zU b,zU c,zU d,.slice r 0 t,zI p],zP bB 0,zP Y 0] W' (VsQ w0 bB (zs++[fdI T (nmL rs)]) W'))):
  Calls prog 115 #[.agg #[.slice A D E],.agg #[zI 5,zT T,zU a,zU b,zU c,zU d,.slice r 0 t,zI p],.func (.func 116) #[] #[zP bB 0,zP Y 0]] W (VsQ w0 bB (zs++[fdI T (nmL rs)]) W):=by
 obtain⟨h,o⟩:∃h,h=(W.alloc (.cells #[.slice A D E] 43)).alloc (.cells #[zI 5,zT T,zU a,zU b,zU c,zU d,.slice r 0 t,zI p] 81):=⟨_,rfl⟩;have G:zB W h:=by rw[o];exact((Below.refl _ W).alloc L0q _).alloc (by simp) _
 obtain⟨sB,ab⟩:∃sB,sB=W.heap.size:=⟨_,rfl⟩;obtain⟨y,I⟩:∃y,y=W.heap.size+1:=⟨_,rfl⟩;have ai:Hid (zH h sB (.cells #[.slice A D E] 43)):=by rw[o,ab];exact(Below.heap_alloc _ _ _ (by simp)).trans (Qx _ _ (by simp))
 have ac:Hid (zH h y (.cells #[zI 5,zT T,zU a,zU b,zU c,zU d,.slice r 0 t,zI p] 81)):=by rw[o,I];exact Qx _ _ (by simp)
 have aj:bB<W.heap.size:=by obtain⟨v,h1,_⟩:=Z.out.bx;exact Qq h1
 have ap:sB≠bB:=by omega
 have ak:y≠bB:=by omega
 have ad:=hid (Z.out.below G);have ae:Hid (Fv bB W h):=Fv.below G;clear G aj;have HS:=hid (aa.out h ad.out);clear aa;go_enter func115,ntmps115
 go_wp2_with fail
 rw[<-o];refine HS.out.mono ?_;clear HS o;rintro e w2 ⟨rfl,af,U⟩;have V:=hid (U.2 _ _ _ ak (by decide) ac.out);have ag:=hid af;have ah:=hid (ae.out.trans U);obtain⟨⟨y0,y1,y2,y3,y4,y5,y6,y7⟩,_⟩:=Qg V.out;have ln:=Qq V.out;rw[<-I];clear af U ac ai ad ae ab I
 go_wp2_with fail
 go_loopw [17] (fun i wr=>i=zI 0/\Hid (Bv w0 bB (zs++[fdI T (nmL rs)]) wr)/\Hid (Fv bB W wr)) (fun i _=>0)
 case atStart=>exact⟨rfl,ag,ah⟩
 case round=>
  obtain⟨rfl,al,am⟩:=hrel;clear ag ah y0 y1 y2 y3 y4 y5 y6 y7 ln V
  go_wp2_with fail
  first|refine bodyPost_end (results_none rfl _ _ _) rfl ?_ |refine bodyPost_ret (results_none rfl _ _ _) rfl ?_
  exact⟨rfl,al.out,am.out⟩
theorem y2Q(w0:World)(bB gB:Nat)(ab:Option Addr)(n0 ac:Nat)(rs:List Rr)(K:zA->Ot)(aX:Hid (w0.heap.size<=bB))(k:Int)(hk:k≠5)(T:zA)(a b c d p:Int)(af:Option Addr)(t ak:Nat)(s:List RT)(zs:List Int)(W:World)(HV:Hid (Bv w0 bB zs W))(hn:t<=9223372036854775807)(HN:Hid (t=s.length))
  (HL:Hid (zs.length+(fbL K (decide (k=6)) s).length<=1048576))
  (HO:Hid (∀j (hj:j<s.length),∃g o,af=some ⟨g,o,none⟩/\g<w0.heap.size/\∃y D a1 E c1 G I U V p1,Rc w0 g (o+j*8) y D a1 E c1 G (.slice I U V) p1/\
    (∀(ys:List Int) (W':World),Bv w0 bB ys W'->ys.length+(fbT K s[j]).length<=1048576->Calls prog 115 #[.agg #[.slice ab n0 ac],.agg #[zI y,zT D,zU a1,zU E,zU c1,zU G,.slice I U V,zI p1],.func (.func 116) #[] #[zP bB 0,zP gB 0]] W' (VsQ w0 bB (ys++(fbT K s[j]).map fun x=>fdI x (nmL rs)) W'))/\
    ∀W':World,zB w0 W'->Calls prog 112 #[.agg #[.slice ab n0 ac],.agg #[zI y,zT D,zU a1,zU E,zU c1,zU G,.slice I U V,zI p1]] W' fun e w'=>e=.returned (ov (ofT K s[j]))/\zB W' w')):
  Calls prog 115 #[.agg #[.slice ab n0 ac],.agg #[zI k,zT T,zU a,zU b,zU c,zU d,.slice af t ak,zI p],.func (.func 116) #[] #[zP bB 0,zP gB 0]] W (VsQ w0 bB (zs++(fbL K (decide (k=6)) s).map fun x=>fdI x (nmL rs)) W):=by
 have aY:=y2L;have aZ:(k == 5)=false:=by simp[hk]
 have a2:decide (k=5)=false:=by simp[hk]
 obtain⟨Y,ad⟩:∃Y,Y=(W.alloc (.cells #[.slice ab n0 ac] 43)).alloc (.cells #[zI k,zT T,zU a,zU b,zU c,zU d,.slice af t ak,zI p] 81):=⟨_,rfl⟩;have al:zB W Y:=by rw[ad];exact((Below.refl _ W).alloc L0q _).alloc (by simp) _
 obtain⟨sB,ag⟩:∃sB,sB=W.heap.size:=⟨_,rfl⟩;have aN:Hid (zH Y sB (.cells #[.slice ab n0 ac] 43)):=by rw[ad,ag];exact(Below.heap_alloc _ _ _ (by simp)).trans (Qx _ _ (by simp))
 have aO:Hid (Y.heap[sB+1]? =some (.cells #[zI k,zT T,zU a,zU b,zU c,zU d,.slice af t ak,zI p] 81)):=by rw[ad,ag];exact Qx _ _ (by simp)
 have aP:bB<W.heap.size:=by obtain⟨v,h1,_⟩:=HV.out.bx;exact Qq h1
 have aB:sB≠bB:=by omega
 have aC:sB+1≠bB:=by omega
 have aQ:=hid (HV.out.below al);have aD:Hid (Fv bB W Y):=Fv.below al;clear al aP;go_enter func115,ntmps115
 go_wp2_with fail
 rw[<-ad,<-ag];clear ad ag
 go_loopw [17] (fun i wr=>∃(j:Nat) (acc:List ByteArray),i=zI (j:Int)/\j<=t/\Hid (Bv w0 bB (zs++acc.map fun x=>fdI x (nmL rs)) wr)/\Hid (Fv bB Y wr)/\Hid (fbL K (decide (k=6)) s=acc++fbL K (decide (k=6)) (s.drop j))) (fun i _=>t-(intOf i).toNat)
 case atStart=>exact⟨0,[],rfl,Nat.zero_le _,by rw[List.map_nil,List.append_nil];exact aQ,Fv.refl _ _,by rw[List.drop_zero,List.nil_append];rfl⟩
 case round=>
  obtain⟨j,acc,rfl,hj,ah,aE,aF⟩:=hrel;by_cases hjn:j<t
  ·have a3:(j:Int)<(t:Int):=by omega
   have a0:decide ((j:Int)<(t:Int))=true:=by simp;omega
   have aG:j<s.length:=by rw[<-HN.out];exact hjn
   obtain⟨g,o,rfl,hg,y,D,a1,E,c1,G,I,U,V,p1,aH,aI,aJ⟩:=HO.out j aG;obtain⟨z0,z1,z2,z3,z4,z5,z6,z7⟩:=aH.below ah.out.be hg;have a4:g<wr.heap.size:=World.block_lt_of_cell? wr _ z0;have am:=(Below.refl _ wr).alloc L0q (.cells #[zI y,zT D,zU a1,zU E,zU c1,zU G,.slice I U V,zI p1] 81);have aR:=hid (ah.out.below am);have ao:=hid (aE.out.trans (Fv.below am));have ai:=ao.out.2 _ _ _ aB (by decide) aN.out;have aK:=ao.out.2 _ _ _ aC (by decide) aO.out;obtain⟨g0,_⟩:=Qk ai;have lg:=Qq ai;have aS:=hid ai;have aT:=hid aK;have h:=aF.out;rw[y2O aG]at h;have aL:(zs++acc.map fun x=>fdI x (nmL rs)).length+(fbT K s[j]).length<=1048576:=by
    have h1:=congrArg List.length h;have h2:=HL.out;simp only[List.length_append,List.length_map]at h1 ⊢;omega
   have HS:=hid (aI _ _ aR.out aL);have aM:=hid aJ;have ap:=hid h;have aU:∀W',Fv bB wr W'->True:=fun _ _=>trivial
   have aV:Hid ((wr.alloc (.cells #[zI y,zT D,zU a1,zU E,zU c1,zU G,.slice I U V,zI p1] 81)).heap[wr.heap.size]? =some (.cells #[zI y,zT D,zU a1,zU E,zU c1,zU G,.slice I U V,zI p1] 81)):=hid (Qx wr _ rfl);have aW:wr.heap.size≠bB:=by obtain⟨v,h1,_⟩:=ah.out.bx;have:=Qq h1;omega
   clear aI aJ aH ai aK h aL am aU
   go_wp2_with fail
   refine HS.out.mono ?_;clear HS;rintro e w3 ⟨rfl,aq,ae⟩;have ar:=ae.2 _ _ _ aB (by decide) aS.out;have au:=ae.2 _ _ _ aC (by decide) aT.out;have av:=ae.2 _ _ _ aW (by decide) aV.out;have aj:=hid aq;have aw:=hid (ao.out.trans ae);obtain⟨t0,_⟩:=Qk ar;obtain⟨⟨y0,y1,y2,y3,y4,y5,y6,y7⟩,_⟩:=Qg au;obtain⟨⟨x0,x1,x2,x3,x4,x5,x6,x7⟩,_⟩:=Qg av;have ls:=Qq ar;have ln:=Qq au;have lx:=Qq av;have aa:=hid (aM.out w3 aq.be);have ez:∀A:List ByteArray,zs++acc.map (fun x=>fdI x (nmL rs))++A.map (fun x=>fdI x (nmL rs))=zs++(acc++A).map fun x=>fdI x (nmL rs):=fun A=>by rw[List.map_append,List.append_assoc]
   rw[ez]at aj;have a5:=hid ez;clear aq ae ar au av aM ez;by_cases hk6:k=6
   ·have q6:(k == 6)=true:=by simp[hk6]
    have ax:decide (k=6)=true:=by simp[hk6]
    obtain⟨⟨r1,r2,r3⟩,hr⟩:∃r,r=ofT K s[j]:=⟨_,rfl⟩;rw[<-hr]at aa;have HR:=hid hr;clear hr;dsimp only[ov]at aa;have ay:Hid (decide (k=6)=true):=ax;have a6:Hid (k=6):=hk6;clear hk6;cases r1 with
    |false=>
     go_wp2_with(first
      |(go_at_call 112;refine aa.out.mono ?_;clear aa;rintro e w4 ⟨rfl,Z⟩;have az:=hid (aj.out.below Z);have aA:=hid (aw.out.trans (Fv.below Z));clear Z))
     first|refine bodyPost_end (results_none rfl _ _ _) rfl ?_ |refine bodyPost_ret (results_none rfl _ _ _) rfl ?_
     have h:=ap.out;rw[<-HR.out]at h;rw[ay.out]at h ⊢;have e:fbL K true s=acc++fbT K s[j]:=by simpa using h
     rw[e];exact⟨rfl,az.out,aD.out.trans aA.out⟩
    |true=>
     go_wp2_with(first
      |(go_at_call 112;refine aa.out.mono ?_;clear aa;rintro e w4 ⟨rfl,Z⟩;have az:=hid (aj.out.below Z);have aA:=hid (aw.out.trans (Fv.below Z));clear Z))
     refine⟨⟨j+1,acc++fbT K s[j],by go_num,by omega,az,aA,?_⟩,by simp[intOf];omega⟩;have h:=ap.out;rw[<-HR.out]at h;show _=_;rw[List.append_assoc];simpa using h
   ·have q6:(k == 6)=false:=by simp[hk6]
    have ax:decide (k=6)=false:=by simp[hk6]
    have ay:Hid (decide (k=6)=false):=ax;clear hk6
    go_wp2_with fail
    refine⟨⟨j+1,acc++fbT K s[j],by go_num,by omega,aj,aw,?_⟩,by simp[intOf];omega⟩;have h:=ap.out;show _=_;rw[List.append_assoc];rw[ay.out]at h ⊢;simpa using h
  ·have a0:decide ((j:Int)<(t:Int))=false:=by simp;omega
   clear HO
   go_wp2_with fail
   first|refine bodyPost_end (results_none rfl _ _ _) rfl ?_ |refine bodyPost_ret (results_none rfl _ _ _) rfl ?_
   have hA:=aF.out;rw[List.drop_eq_nil_of_le (by have:=HN.out;omega),fbL,List.append_nil]at hA;rw[hA];exact⟨rfl,ah.out,aD.out.trans aE.out⟩
theorem z4b(w0:World)(bB y:Nat)(I:Option Addr)(n V:Nat)(A:Option Addr)(D E:Nat)(rs:List Rr)(K:zA->Ot)(B:Nat)(r:B<=w0.heap.size)(hg:zH w0 y (.cells #[.slice I n V] 43))(hr:Qb w0 B I n rs)(hs:Qb w0 B A D (bG rs K))(ad:okG rs=true)(ae:ckR rs=none)(hz:RgZ rs)(Y:TabIs w0)(U:w0.heap.size<=bB):
  ∀(N:Nat) (t:RT) (Z:List Value) (zs:List Int) (W:World),SizeOf.sizeOf t<N->Bv w0 bB zs W->Qy w0 B t Z->Fit (nmL rs) t->zs.length+(fbT K t).length<=1048576->Calls prog 115 #[.agg #[.slice A D E],.agg Z.toArray,.func (.func 116) #[] #[zP bB 0,zP y 0]] W (VsQ w0 bB (zs++(fbT K t).map fun x=>fdI x (nmL rs)) W)
 |0,t,_,_,_,h,_,_,_,_=>by omega
 |N+1,.mk k T a b c d s p,Z,zs,W,hN,hV,ht,hf,hl=>by
  have al:=ht;rw[Qy]at ht;obtain⟨aa,ab,rfl,af⟩:=ht;by_cases hk:k=5
  ·subst hk
   have aj:=Sg hf.ok;subst aj;have e:fbT K (.mk 5 T a b c d [] p)=[T]:=by rw[fbT,if_pos rfl,fbL];rfl
   rw[e];exact y2P w0 bB y A D E rs K U T a b c d p aa ab zs W (hid hV) (hid fun W' ac=>y2N w0 bB y I n V rs B r hg hr U 5 T a b c d p aa 0 ab zs W' ac (by omega))
  ·have e:fbT K (.mk k T a b c d s p)=fbL K (decide (k=6)) s:=by rw[fbT,if_neg hk,List.nil_append]
   rw[e]at hl ⊢;refine y2Q w0 bB y A D E rs K U k hk T a b c d p aa _ ab s zs W (hid hV) (Ep af) (Zm s) (hid hl) (hid fun j hj=> ?_);obtain⟨g,o,h1,h2,k1,T1,a1,b1,c1,d1,ag,n2,ah,p1,h3,h4⟩:=Kw r af j hj;have ai:=hf.sub j hj;refine⟨g,o,h1,h2,k1,T1,a1,b1,c1,d1,ag,n2,ah,p1,h3,fun ys W' ac ak=> ?_,fun W' G=> ?_⟩
   ·have am:=List.sizeOf_lt_of_mem (List.getElem_mem hj)
    simp only[RT.mk.sizeOf_spec]at hN;exact z4b w0 bB y I n V A D E rs K B r hg hr hs ad ae hz Y U N s[j] _ ys W' (by omega) ac h4 ai ak
   ·exact z3Q A D E rs K k1 T1 a1 b1 c1 d1 p1 ag n2 ah _ B B W' (hs.below (G.mono r)) (Nat.le_trans r G.size) ad ae hz (Y.below G Y.lt) (h4.below (G.mono r)) (Nat.le_trans r G.size) ai
end Go.Proofs.YtgnkkgcgbeianaaGreatDoor
