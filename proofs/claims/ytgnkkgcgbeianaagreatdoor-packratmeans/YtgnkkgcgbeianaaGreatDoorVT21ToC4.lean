/- Lemmas for the last text. Conditions: those that each names. -/
import Derived.Test.YtgnkkgcgbeianaaGreatDoorVT14ToT16
import Derived.Test.YtgnkkgcgbeianaaGreatDoorVT17ToT19
import Derived.Test.YtgnkkgcgbeianaaGreatDoorVT20ToT6
import Derived.Test.YtgnkkgcgbeianaaGreatDoorVO5ToS4
import Derived.Test.YtgnkkgcgbeianaaGreatDoorVR8ToO4
import Derived.Deep.AppendLies
set_option linter.unusedVariables false
set_option maxRecDepth 100000
set_option maxHeartbeats 16000000
namespace Go.Proofs.YtgnkkgcgbeianaaGreatDoor
open Go.Proofs.Tryz
open Go.RowKit Go.Shelf Go.Maps
theorem y2Z{W W':World}{r o:Nat}{v:Value}(h:zC W r o v)(t:zB W W'):zC W' r o v:=(t.cell (p:=⟨r,o,none⟩) (World.block_lt_of_cell? W _ h)).trans h
noncomputable def kG (rs:List Rr):zA->Ot:=itr rs (Classical.epsilon fun m=>Xk (itr rs m) rs)
theorem Sh{rs:List Rr}{m:Nat}(h:Xk (itr rs m) rs):itr rs m=kG rs:=y0H h (Classical.epsilon_spec (p:=fun m=>Xk (itr rs m) rs) ⟨m,h⟩)
noncomputable def bgU (rs:List Rr):List (List Int):=rs.map (bgR rs (kG rs))
theorem Zh.to{X:Option (Int ⊕ (Int×Int))}{S:Nat}{w w':World}{v:Value}(h:Zh X S w v)(o:zB w w'):Zh X S w' v:=by
 match X,h with
 |none,h=>exact h
 |some (.inl c),h=>exact h
 |some (.inr q),⟨g,h1,h2,h3⟩=>exact⟨g,h1,h2,(o.block g (Qq h3)).trans h3⟩
theorem Iz(rs:List Rr):(bgU rs).length=rs.length:=List.length_map _
noncomputable def bkB (rs:List Rr) (i:Nat):Bool:= @decide (Bck (bgU rs) i) (Classical.propDecidable _)
theorem Sd{rs:List Rr}{i:Nat}:bkB rs i=true↔Bck (bgU rs) i:= @decide_eq_true_iff _ (Classical.propDecidable _)
theorem z4f{rs:List Rr}{i:Nat}(h:¬Bck (bgU rs) i):bkB rs i=false:=by
 cases e:bkB rs i with
 |true=>exact absurd (Sd.1 e) h
 |false=>rfl
noncomputable def lfG (rs:List Rr):Option Int:=((List.range rs.length).find? (bkB rs)).map fun i=>((rs[i]?).map (·.2.2)).getD 0
theorem y3a{rs:List Rr}{j:Nat}(o:j<rs.length)(h:Bck (bgU rs) j)(r:∀i,i<j->¬Bck (bgU rs) i):lfG rs=some rs[j].2.2:=by
 have e:(List.range rs.length).find? (bkB rs)=some j:=by
  rw[List.find?_range_eq_some];exact⟨Sd.2 h,List.mem_range.2 o,fun i t=>by rw[z4f (r i t)];rfl⟩
 unfold lfG;rw[e];simp[o]
theorem z4g{rs:List Rr}(h:∀i,i<rs.length->¬Bck (bgU rs) i):lfG rs=none:=by
 have e:(List.range rs.length).find? (bkB rs)=none:=by
  rw[List.find?_eq_none];exact fun i o=>by rw[z4f (h i (List.mem_range.1 o))];simp
 unfold lfG;rw[e];rfl
theorem y3b{rs:List Rr}(h:lfG rs=none):∀i,i<rs.length->¬Bck (bgU rs) i:=fun i o r=>by
 unfold lfG at h;rw[Option.map_eq_none_iff,List.find?_eq_none]at h;exact h i (List.mem_range.2 o) (Sd.2 r)
noncomputable def soZ (rs:List Rr) (X:Option (Int ⊕ (Int×Int))):Option (Int ⊕ (Int×Int)):=match X with
 |some x=>some x
 |none=>match flX (kG rs) rs with
  |some x=>some x
  |none=>(lfG rs).map fun p=>.inr (41,p)
def SbP(rs:List Rr)(X:Option (Int ⊕ (Int×Int)))(W:World)(e:Ending)(w':World):Prop:=zB W w'/\
 ((soZ rs X≠none/\∃v,e=.returned (.tuple #[.slice none 0 0,v])/\Zh (soZ rs X) W.heap.size w' v)∨
  (soZ rs X=none/\X=none/\∃ub vs,e=.returned (.tuple #[zS ub rs.length rs.length,.nilIface])/\vs.length=rs.length/\Uw W ub rs.length vs (bgU rs) w'))
theorem Uw.from{w0 w:World}{r n:Nat}{vs:List Value}{us:List (List Int)}{W:World}(h:Uw w r n vs us W)(o:zB w0 w):Uw w0 r n vs us W:=⟨h.blk,h.len,fun i t y=>z2i (h.row i t y) o.size,o.trans (h.be.mono o.size),Nat.le_trans o.size h.lo⟩
theorem y3c{W W':World}{t:Value}{us:List (List Int)}(h:UsM W W.heap.size t us)(r:zB W W'):UsM W' W'.heap.size t us:=by
 obtain⟨G,I,U,V,Y⟩:=h;refine⟨G,I,U,V,fun i Z=> ?_⟩;obtain⟨g,o,rv,e1,y,e3,aa,ab,f1,f2,f3⟩:=Y i Z;refine⟨g,o,rv,e1,Nat.lt_of_lt_of_le y r.size,(r.cell (p:=⟨g,o+i,none⟩) y).trans e3,aa,ab,f1,f2,fun j hj=> ?_⟩;obtain⟨A,D,q1,E,q3⟩:=f3 j hj;exact⟨A,D,q1,Nat.lt_of_lt_of_le E r.size,(r.cell (p:=⟨A,D+j,none⟩) E).trans q3⟩
theorem y3d{rs:List Rr}{K:zA->Ot}{x:Rr}(h:okT x.2.1=true):(bgR rs K x).length<=(rfT x.2.1).length:=by
 unfold bgR;refine Nat.le_trans (z2g _) ?_;rw[My,List.length_map];exact Sb _ h
theorem z4h{rs:List Rr}(h:okG rs=true)(o:ckR rs=none):∀u∈bgU rs,∀x∈u,∃m:Nat,m<rs.length/\x=(m:Int):=fun u r x hx=>by
 obtain⟨y,t,rfl⟩:=List.mem_map.1 r;exact y2p h o t x hx
theorem y3e{rs:List Rr}(o:okG rs=true)(hl:∀x∈rs,(rfT x.2.1).length<=8192):∀u∈bgU rs,u.length<=1048576:=fun u r=>by
 obtain⟨y,h,rfl⟩:=List.mem_map.1 r;have t:=y3d (rs:=rs) (K:=kG rs) (Fk o y h).2;have A:=hl y h;omega
theorem y3f(r:Option Addr)(n t:Nat)(X:Option (Int ⊕ (Int×Int)))(w:World)
  (G:Hid (∀W:World,zB w W->Calls prog 81 #[.agg #[.slice r n t]] W fun e w'=>∃y A,e=.returned (.tuple #[.agg #[.slice none 0 0],.iface y A])/\Zh X W.heap.size w' (.iface y A)/\zB W w')):
  Calls prog 50 #[.agg #[.slice r n t]] w fun e w'=>∃v,e=.returned (.tuple #[.slice none 0 0,v])/\Zh X w.heap.size w' v/\zB w w':=by
 obtain⟨h,D⟩:∃h,h=w.alloc (.cells #[.slice r n t] 43):=⟨_,rfl⟩;have E:zB w h:=by rw[D];exact(Below.refl _ w).alloc L0q _
 have I:=hid (G.out h E);have o:=hid E;have U:=hid D;clear D E G;go_enter func50,ntmps50
 go_wp2_with fail
 rw[<-U.out];refine I.out.mono ?_;rintro e w2 ⟨y,A,rfl,V,Y⟩;have HV:=hid (V.lo o.out.size);have Z:=hid (o.out.trans (Y.mono o.out.size));clear V Y I U o
 go_wp2_with fail
 go_ret2
 have aa:=(Below.refl _ w2).alloc L0q (.cells #[.slice none 0 0] 43);refine⟨_,rfl,?_,Z.out.trans (aa.mono Z.out.size)⟩;exact Zh.to HV.out aa
theorem y3g(G:Option Addr)(n V:Nat)(rs:List Rr)(w:World)(h:Qb w w.heap.size G n rs)(hn:n<=1048576)(hX:CkX rs none)
  (HC:Hid (∀W:World,zB w W->Calls prog 81 #[.agg #[.slice G n V]] W (BfP rs none W)))
  (aI:Hid (∀(W:World) (t:Option Addr) (E:Nat),zB w W->Qb W W.heap.size t n (bG rs (kG rs))->Calls prog 82 #[.agg #[.slice G n V],.agg #[.slice t n E]] W fun e w'=>∃v,e=.returned v/\Zh (flX (kG rs) rs) W.heap.size w' v/\zB W w'))
  (ap:Hid (∀(W:World) (t:Option Addr) (E:Nat),zB w W->Qb W W.heap.size t n (bG rs (kG rs))->Calls prog 83 #[.agg #[.slice G n V],.agg #[.slice t n E]] W fun e w'=>∃Y vs,e=.returned (zS Y n n)/\vs.length=n/\Uw W Y n vs (bgU rs) w')):
  Calls prog 50 #[.agg #[.slice G n V]] w (SbP rs none w):=by
 obtain⟨W1,ag⟩:∃W1,W1=w.alloc (.cells #[.slice G n V] 43):=⟨_,rfl⟩;have aq:zB w W1:=by rw[ag];exact(Below.refl _ w).alloc L0q _
 have ar:Hid (W1.heap[w.heap.size]? =some (.cells #[.slice G n V] 43)):=by rw[ag];exact Qx w _ rfl
 have HS:=hid (HC.out W1 aq);have au:=hid aq;have aJ:=hid ag;have HR:=hid h;have A:Hid (n=rs.length):=h.1;have ah:=hid hX;clear ag aq HC h hX;go_enter func50,ntmps50
 go_wp2_with fail
 rw[<-aJ.out];refine HS.out.mono ?_;rintro e w2 ⟨av,a8⟩;rcases a8 with⟨hx,_⟩|⟨_,t,E,m,rfl,aK,aw⟩
 ·exact absurd rfl hx
 rw[<-A.out];rw[Sh aK,<-A.out]at aw;have ax:=hid (au.out.trans (av.mono au.out.size));have ab:=hid ((av.block _ (Qq ar.out)).trans ar.out);obtain⟨W3,ai⟩:∃W3,W3=w2.alloc (.cells #[.slice t n E] 43):=⟨_,rfl⟩;have r:zB w2 W3:=by rw[ai];exact(Below.refl _ w2).alloc L0q _
 have ac:=hid (ax.out.trans (r.mono ax.out.size));have ay:=hid ((r.block _ (Qq ab.out)).trans ab.out);obtain⟨sB,az⟩:∃sB,sB=w2.heap.size:=⟨_,rfl⟩;have aA:Hid (zH W3 sB (.cells #[.slice t n E] 43)):=by rw[ai,az];exact Qx _ _ rfl
 have aB:=(aw.below r).upto r.size;have aL:=hid (aI.out W3 t E ac.out aB);have aM:=hid aB;obtain⟨g2,_⟩:=Qk ab.out;have a9:=Qq ab.out;have ba:w.heap.size<w2.heap.size+1:=by omega
 have aN:=hid ai;clear HS aJ ar au av aK aw r aB ai aI
 go_wp2_with fail
 rw[<-aN.out];refine aL.out.mono ?_;clear aL aN g2 a9 ba;rintro e w3 ⟨v,rfl,Z,r⟩;have aa:=hid (ac.out.trans (r.mono ac.out.size));have ad:=hid ((r.block _ (Qq ay.out)).trans ay.out);have aC:=hid ((r.block _ (Qq aA.out)).trans aA.out);have aO:=hid ((aM.out.below r).upto r.size);have HV:=hid (Z.lo ac.out.size);rw[<-az];clear ax ac ab ay aA aM r az;cases hfl:flX (kG rs) rs with
 |some x=>
  have I:Hid (soZ rs none=some x):=by show _=_;unfold soZ;simp only;rw[hfl]
  rw[hfl]at Z HV;obtain⟨tt,uu,rfl⟩:=Z.shape (by simp);clear Z hfl ap
  go_wp2_with fail
  go_ret2
  refine⟨aa.out,.inl ⟨by rw[I.out];simp,_,rfl,?_⟩⟩;rw[I.out];exact HV.out
 |none=>
  have aP:Hid (flX (kG rs) rs=none):=hfl;rw[hfl]at Z;obtain rfl:v=.nilIface:=Z;have aQ:=hid (ap.out w3 t E aa.out aO.out);obtain⟨g4,_⟩:=Qk ad.out;have bb:=Qq ad.out;obtain⟨s4,_⟩:=Qk aC.out;have bc:=Qq aC.out;clear hfl ap HV aO
  go_wp2_with fail
  refine aQ.out.mono ?_;clear aQ g4 bb s4 bc;rintro e w4 ⟨Y,vs,rfl,aD,hU⟩;have bd:Hid (vs.length=n):=aD;have HU:=hid hU;have aR:=hid ((hU.be.block _ (Qq ad.out)).trans ad.out);have aj:=hid (aa.out.trans (hU.be.mono aa.out.size));obtain⟨g5,_⟩:=Qk aR.out;have bf:=Qq aR.out;have bg:=hid (hU.from aa.out);have bh:=hid (y0w hU aD (y3e ah.out.1 ah.out.2.2) hn);clear aD hU ad aC aa HU
  go_wp2_with fail
  clear g5 bf
  go_loopw [30] (fun i wr=>∃j:Nat,i=zI (j:Int)/\j<=n/\Hid (zB w4 wr)/\Hid (∀i,i<j->¬Bck (bgU rs) i)) (fun i _=>n-(intOf i).toNat)
  case atStart=>exact⟨0,rfl,Nat.zero_le _,Below.refl _ _,fun i h=>absurd h (by omega)⟩
  case round=>
   obtain⟨j,rfl,hj,ak,aE⟩:=hrel;by_cases hjn:j<n
   ·have bo:(j:Int)<(n:Int):=by omega
    have a0:decide ((j:Int)<(n:Int))=true:=by simp;omega
    have aS:j<rs.length:=by rw[<-A.out];exact hjn
    obtain⟨g,o,rfl,hg,k1,T1,a1,b1,c1,d1,aT,n1,aU,p1,bi,r0⟩:=HR.out.2.2 j aS;have aV:=aj.out.trans (ak.out.mono aj.out.size);have aW:∀q,wr.cell? ⟨g,q,none⟩=w.cell? ⟨g,q,none⟩:=fun q=>aV.cell (p:=⟨g,q,none⟩) hg
    simp only[<-aW]at r0;obtain⟨z0,z1,z2,z3,z4,z5,z6,z7,z8,z9⟩:=r0;have bp:g<wr.heap.size:=World.block_lt_of_cell? wr _ z0;obtain⟨N0,aX⟩:∃N0,N0=rs[j].1:=⟨_,rfl⟩;obtain⟨D,aF⟩:∃D,D=rs[j].2.2:=⟨_,rfl⟩;rw[<-aX]at z0;rw[<-aF]at z9;have bj:Hid (D=rs[j].2.2):=aF;obtain⟨U,al⟩:∃U,U=wr.alloc (.cells #[zT N0,zI k1,zT T1,zU a1,zU b1,zU c1,zU d1,.slice aT n1 aU,zI p1,zI D] 83):=⟨_,rfl⟩;have aG:zB w4 U:=by rw[al];exact ak.out.alloc ak.out.size _
    have aY:U.heap[wr.heap.size]? =some (.cells #[zT N0,zI k1,zT T1,zU a1,zU b1,zU c1,zU d1,.slice aT n1 aU,zI p1,zI D] 83):=by rw[al];exact Qx wr _ rfl
    have aZ:UsM U U.heap.size (zS Y n n) (bgU rs):=y3c bh.out aG;have a2:=hid (y2Y (zS Y n n) (bgU rs) n j U aZ (by rw[Iz];exact A.out.symm) (fun u hu x hx=>by rw[A.out];exact z4h ah.out.1 ah.out.2.1 u hu x hx) hn hjn);have am:=hid aG;have a3:=hid aY;have a4:=hid al;clear aW aX aF bi aV aG aY aZ al
    go_wp2_with fail
    rw[<-a4.out];refine a2.out.mono ?_;clear a2 a4 z0 z1 z2 z3 z4 z5 z6 z7 z8 z9;rintro e w5 ⟨⟨rfl,ae⟩|⟨rfl,ae⟩,af⟩
    ·have ao:=(af.block _ (Qq a3.out)).trans a3.out
     obtain⟨rB,a5⟩:∃rB,rB=wr.heap.size:=⟨_,rfl⟩;rw[<-a5]at ao ⊢;have bk:Hid (zC w5.drew rB 9 (zI D)):=(Qj ao 9 _ rfl).1;have bq:=Qq ao;have aH:=aj.out.trans ((am.out.trans (af.mono am.out.size)).mono aj.out.size);have a6:=hid aH;have bl:w.heap.size<=w5.heap.size:=aH.size;have I:Hid (soZ rs none=some (.inr (41,D))):=by
      show _=_;unfold soZ;simp only;rw[aP.out];simp only;rw[y3a aS ae aE.out,<-bj.out];rfl
     clear ae af a5 aH ao
     go_wp2_with fail
     refine Qc 99 (fun W:World=>zC W rB 9 (zI D)) (by kernel_rfl) bk.out (fun y=> ?_);refine Qz 0 y ?_;refine Qz 1 y ?_;refine Qz 2 y ?_;refine Qz 5 y ?_
     (refine Qf 3 (fun K hK=> ?_);go_simp;replace y:=y2Z y ((Below.refl _ w5.drew).alloc L0q (.cells #[zI 41,zI D] 136));refine hK.out _ _ y ?_;clear hK K)
     (try simp only[Act.put,zY])
     refine Qz 4 y ?_;refine Qz 6 y ?_;refine⟨by kernel_rfl,?_⟩;clear y
     go_wp2_with fail
     go_ret2
     refine⟨(a6.out.alloc a6.out.size _).drew,.inl ⟨by rw[I.out];simp,_,rfl,?_⟩⟩;rw[I.out];exact⟨_,rfl,bl,Qx w5 _ rfl⟩
    ·have bm:=hid ae
     have bn:=hid (am.out.trans (af.mono am.out.size));clear ae af
     go_wp2_with fail
     refine⟨⟨j+1,by go_num,by omega,bn,fun i hi=> ?_⟩,by simp[intOf];omega⟩;rcases Nat.lt_or_ge i j with h1|h1
     ·exact aE.out i h1
     ·obtain rfl:i=j:=by omega
      exact bm.out
   ·have a0:decide ((j:Int)<(n:Int))=false:=by simp;omega
    have I:Hid (soZ rs none=none):=by
     show _=_;unfold soZ;simp only;rw[aP.out];simp only;rw[z4g (fun i hi=>aE.out i (by have:=A.out;omega))];rfl
    go_wp2_with fail
    go_ret2
    have a7:=bg.out.below (ak.out);refine⟨a7.be,.inr ⟨I.out,rfl,Y,vs,by rw[<-A.out];rfl,by rw[<-A.out];exact bd.out,?_⟩⟩;rw[<-A.out];exact a7
theorem y3h(r:Option Addr)(n A:Nat)(rs:List Rr)(X:Option (Int ⊕ (Int×Int)))(B:Nat)(fp:Addr)(w:World)(t:CkX rs X)(hP:X=none->PrG rs)(hC:CkC r n A rs X w)(U:RgZ rs)(h:Qb w B r n rs)(D:B<=w.heap.size)(E:TabIs w)(hF:zC w (1) 0 (.iface 363 (.pointer (some fp)))):∀W:World,zB w W->Calls prog 50 #[.agg #[.slice r n A]] W (SbP rs X W):=fun W G=>by
 have y:∀{W'},zB W W'->zB w W':=fun o=>G.trans (o.mono G.size)
 have ac:=fun(W':World) (o:zB W W')=>y2z r n A rs X B w t hC U h D W' (y o)
 cases X with
 |some x=>
  refine(y3f r n A (some x) W (hid fun W' o=>(ac W' o).mono fun e w' V=> ?_)).mono fun e w' V=> ?_
  ·obtain⟨hb,⟨_,v,Y,I⟩|⟨h0,_⟩⟩:=V
   ·obtain⟨tt,uu,rfl⟩:=I.shape (by simp)
    exact⟨tt,uu,Y,I,hb⟩
   ·cases h0
  ·obtain⟨v,Y,I,h3⟩:=V
   exact⟨h3,.inl ⟨by unfold soZ;simp,v,Y,I⟩⟩
 |none=>
  have af:=(Jm t.1).2;have ad:=hP rfl;have Z:n<=1048576:=by have:=h.1;omega
  have ae:1<w.heap.size:=World.block_lt_of_cell? w _ hF;refine y3g r n A rs W ((h.below (G.mono D)).upto (Nat.le_trans D G.size)) Z t (hid ac) (hid fun W' aa ab o hg=> ?_) (hid fun W' aa ab o hg=> ?_)
  ·exact y2J r n A aa n ab rs (kG rs) fp W' ((h.below ((y o).mono D)).upto (Nat.le_trans D (y o).size)) Z hg t.1 t.2.1 U ad (E.below (y o) E.lt) (((y o).cell (p:=⟨1,0,none⟩) ae).trans hF)
  ·exact y2R r n A aa n ab rs (kG rs) W' ((h.below ((y o).mono D)).upto (Nat.le_trans D (y o).size)) Z hg t.1 t.2.1 U ad (E.below (y o) E.lt) t.2.2
section
def rkF(us:List (List Int)):Nat->Nat->Nat
 |0,_=>0
 |f+1,i=>(us.getD i []).foldl (fun o x=>max o (rkF us f x.toNat+1)) 0
def Acy(us:List (List Int)):Prop:=∀i j:Nat,(j:Int)∈us.getD i []->¬Rch us j i
theorem Sp{g:Int->Nat}:∀(l:List Int) (o:Nat),o<=l.foldl (fun o x=>max o (g x)) o/\∀x∈l,g x<=l.foldl (fun o x=>max o (g x)) o
 |[],o=>⟨Nat.le_refl _,fun x hx=>by simp at hx⟩
 |a::r,o=>by
  have h:=Sp (g:=g) r (max o (g a));rw[List.foldl_cons];refine⟨by omega,fun x hx=> ?_⟩;rcases List.mem_cons.1 hx with rfl|hx
  ·omega
  ·exact h.2 x hx
theorem Sc{g:Int->Nat}:∀(l:List Int) (o:Nat),l.foldl (fun o x=>max o (g x)) o=o∨∃x∈l,l.foldl (fun o x=>max o (g x)) o=g x
 |[],o=>.inl rfl
 |a::r,o=>by
  rw[List.foldl_cons];rcases Sc (g:=g) r (max o (g a))with h|⟨x,hx,h⟩
  ·rcases Nat.le_total o (g a)with t|t
   ·exact .inr ⟨a,by simp,by rw[h];omega⟩
   ·exact .inl (by rw[h];omega)
  ·exact .inr ⟨x,by simp[hx],h⟩
theorem z4i{g h:Int->Nat}:∀(l:List Int) (o:Nat),(∀x∈l,g x=h x)->l.foldl (fun o x=>max o (g x)) o=l.foldl (fun o x=>max o (h x)) o
 |[],_,_=>rfl
 |a::r,o,e=>by
  rw[List.foldl_cons,List.foldl_cons,e a (by simp)];exact z4i r _ fun x hx=>e x (by simp[hx])
theorem Sl(us:List (List Int)):∀(f i:Nat),rkF us f i<=f
 |0,i=>Nat.le_refl _
 |f+1,i=>by
  rw[rkF];rcases Sc (g:=fun x=>rkF us f x.toNat+1) (us.getD i []) 0 with h|⟨x,hx,h⟩
  ·rw[h];omega
  ·rw[h]
   have:=Sl us f x.toNat;omega
theorem z4j(us:List (List Int)):∀(f i:Nat),rkF us (f+1) i≠rkF us f i->rkF us (f+1) i=f+1
 |0,i,h=>by
  have r:rkF us (0+1) i<=0+1:=Sl us (0+1) i;have D:rkF us 0 i=0:=rfl;omega
 |f+1,i,h=>by
  have t:=Sl us (f+2) i;have y:∃x∈us.getD i [],rkF us (f+1) x.toNat≠rkF us f x.toNat:=Classical.byContradiction fun A=>h (by
   rw[rkF,rkF];exact z4i _ _ fun x hx=>Classical.byContradiction fun o=>A ⟨x,hx,fun e=>o (by omega)⟩)
  obtain⟨x,hx,o⟩:=y;have r:=z4j us f x.toNat o;have E:=(Sp (g:=fun x=>rkF us (f+1) x.toNat+1) (us.getD i []) 0).2 x hx;rw[rkF];rw[rkF]at t;omega
inductive Pth (us:List (List Int)):Nat->List Nat->Prop where
 |one (i:Nat):Pth us i [i]
 |more {i j:Nat} {p:List Nat}:(j:Int)∈us.getD i []->Pth us j p->Pth us i (i::p)
theorem Pth.mem{us:List (List Int)}{i:Nat}{p:List Nat}(h:Pth us i p):∀k∈p,Rch us i k:=by
 induction h with
 |one i=>intro k o;rw[List.mem_singleton]at o;subst o;exact .refl
 | @more i j p hj _ ih=>
   intro k o;rcases List.mem_cons.1 o with rfl|o
   ·exact .refl
   ·exact(Rch.step .refl hj).trans (ih k o)
theorem Pth.nodup{us:List (List Int)}(ha:Acy us){i:Nat}{p:List Nat}(h:Pth us i p):p.Nodup:=by
 induction h with
 |one i=>simp
 | @more i j p hj hp ih=>
   rw[List.nodup_cons];exact⟨fun o=>ha i j hj (hp.mem i o),ih⟩
theorem z4k(us:List (List Int))(hx:∀i x,x∈us.getD i []->0<=x):∀(f i:Nat),∃p,Pth us i p/\p.length=rkF us f i+1
 |0,i=>⟨[i],.one i,rfl⟩
 |f+1,i=>by
  rw[rkF];rcases Sc (g:=fun x=>rkF us f x.toNat+1) (us.getD i []) 0 with h|⟨x,o,h⟩
  ·exact⟨[i],.one i,by rw[h];rfl⟩
  ·obtain⟨p,r,hl⟩:=z4k us hx f x.toNat
   refine⟨i::p,.more (j:=x.toNat) (by rw[Int.toNat_of_nonneg (hx i x o)];exact o) r,?_⟩;rw[h,List.length_cons,hl]
theorem z4l:∀{n:Nat} {p:List Nat},p.Nodup->(∀k∈p,k<n)->p.length<=n
 |0,[],_,_=>Nat.le_refl _
 |0,k::_,_,h=>absurd (h k (by simp)) (by omega)
 |n+1,p,hn,h=>by
  have t:=z4l (n:=n) (p:=p.erase n) (hn.erase n) fun k o=>by
   have r:=h k (List.mem_of_mem_erase o);have y:k≠n:=fun e=>by
    subst e;exact(List.Nodup.not_mem_erase hn) o
   omega
  have r:p.length<=(p.erase n).length+1:=by
   rw[List.length_erase];split<;>omega
  omega
def rkP(us:List (List Int))(i:Nat):Nat:=rkF us us.length i
section
variable {us:List (List Int)} (ha:Acy us) (hx:∀i x,x∈us.getD i []->∃m:Nat,m<us.length/\x=(m:Int))
include ha hx
theorem y3i{f i:Nat}(r:i<us.length):rkF us f i<us.length:=by
 obtain⟨p,o,hl⟩:=z4k us (fun i x h=>by obtain⟨m,_,rfl⟩:=hx i x h;omega) f i;have t:∀{k:Nat},Rch us i k->k<us.length:=fun{k} y=>by
  induction y with
  |refl=>exact r
  |step _ h ih=>
   obtain⟨m,D,E⟩:=hx _ _ h;omega
 have:=z4l (o.nodup ha) (fun k A=>t (o.mem k A));omega
theorem y3j{i:Nat}(r:i<us.length):rkP us i=(us.getD i []).foldl (fun o x=>max o (rkP us x.toNat+1)) 0:=by
 have t:rkF us (us.length+1) i=rkF us us.length i:=Classical.byContradiction fun h=>by
  have y:=z4j us us.length i h;have A:=y3i ha hx (f:=us.length+1) r;omega
 exact t.symm
theorem y3k{i:Nat}(o:i<us.length){x:Int}(h:x∈us.getD i []):rkP us x.toNat<rkP us i:=by
 rw[y3j ha hx o];exact(Sp (g:=fun x=>rkP us x.toNat+1) (us.getD i []) 0).2 x h
end
end
theorem y3l(o:Option Addr)(n r:Nat)(rs:List Rr)(X:Option (Int ⊕ (Int×Int)))(w:World)
  (E:Hid (∀W:World,zB w W->Calls prog 50 #[.agg #[.slice o n r]] W (SbP rs X W))):
  Calls prog 28 #[.agg #[.slice o n r]] w fun e w'=>∃v,e=.returned v/\Zh (soZ rs X) w.heap.size w' v/\zB w w':=by
 obtain⟨h,y⟩:∃h,h=w.alloc (.cells #[.slice o n r] 43):=⟨_,rfl⟩;have A:zB w h:=by rw[y];exact(Below.refl _ w).alloc L0q _
 have G:Hid (Calls prog 50 #[.agg #[.slice o n r]] h fun e w'=>∃a v,e=.returned (.tuple #[a,v])/\Zh (soZ rs X) h.heap.size w' v/\zB h w'):=(E.out h A).mono fun e w' Z=>by
  obtain⟨I,⟨_,v,D,h2⟩|⟨h0,_,ub,vs,D,_⟩⟩:=Z
  ·exact⟨_,v,D,h2,I⟩
  ·exact⟨_,_,D,by rw[h0];rfl,I⟩
 have t:=hid A;have U:=hid y;clear y A E;go_enter func28,ntmps28
 go_wp2_with fail
 rw[<-U.out];refine G.out.mono ?_;rintro e w2 ⟨a,v,rfl,V,Y⟩;have HV:=hid (V.lo t.out.size);have aa:=hid (t.out.trans (Y.mono t.out.size));clear V Y G U t
 go_wp2_with fail
 go_ret;exact⟨_,rfl,HV.out,aa.out⟩
theorem z4m(o:Option Addr)(n r:Nat)(rs:List Rr)(X:Option (Int ⊕ (Int×Int)))(B:Nat)(t:Addr)(w:World)(A:CkX rs X)(D:X=none->PrG rs)(E:CkC o n r rs X w)(G:RgZ rs)(h:Qb w B o n rs)(I:B<=w.heap.size)(U:TabIs w)(V:zC w (1) 0 (.iface 363 (.pointer (some t)))):∀W:World,zB w W->Calls prog 28 #[.agg #[.slice o n r]] W fun e w'=>∃v,e=.returned v/\Zh (soZ rs X) W.heap.size w' v/\zB W w':=fun W y=>
 y3l o n r rs X W (hid fun W' Y=>y3h o n r rs X B t w A D E G h I U V W' (y.trans (Y.mono y.size)))
theorem y3m{rs:List Rr}{X:Option (Int ⊕ (Int×Int))}(h:soZ rs X=none):Acy (bgU rs):=by
 have r:lfG rs=none:=by
  unfold soZ at h;cases X with
  |some x=>simp at h
  |none=>
   simp only at h;cases e:flX (kG rs) rs with
   |some x=>rw[e]at h;simp at h
   |none=>rw[e]at h;simpa using h
 intro i j o t;by_cases hi:i<rs.length
 ·exact y3b r i hi ⟨j,o,t⟩
 ·rw[List.getD_eq_getElem?_getD,List.getElem?_eq_none (by rw[Iz];omega)]at o
  simp at o
theorem y3n(s:List Int)(i:Int):sbT (s++[i])=sbT s++(Lib.itoa i++[32]):=by
 induction s with
 |nil=>rw[List.nil_append,sbT,sbT,sbT,List.nil_append]
 |cons a r ih=>rw[List.cons_append,sbT,sbT,ih,List.append_assoc,List.cons_append]
theorem Ak(w:World)(x:Value)(t:TypeId):∀j u,[x][j]? =some u->(w.alloc (.cells #[x] t)).cell? ((⟨w.heap.size,0,none⟩:Addr).add j)=some u:=World.news_of_block (Qx w (.cells #[x] t) rfl)
theorem Dw(w:World)(A B:Obj):zB w ((w.alloc A).alloc B)/\((w.alloc A).alloc B).heap[w.heap.size]? =some A/\((w.alloc A).alloc B).heap[w.heap.size+1]? =some B:=by
 have h:(w.alloc A).heap.size=w.heap.size+1:=by simp
 have r:zB w (w.alloc A):=(Below.refl _ w).alloc L0q _;have o:Below (w.heap.size+1) (w.alloc A) ((w.alloc A).alloc B):=B0q.alloc (Nat.le_of_eq h.symm) _;refine⟨r.trans (o.mono (by omega)),?_,?_⟩
 ·rw[o.block _ (by omega)];exact Qx w _ rfl
 ·exact Qx (w.alloc A) _ h.symm
theorem y3o(a b:List Int):sbT (a++b)=sbT a++sbT b:=by
 induction a with
 |nil=>rw[List.nil_append,sbT,List.nil_append]
 |cons x r ih=>rw[List.cons_append,sbT,sbT,ih,List.append_assoc,List.cons_append]
theorem z4n(s:List Int)(j:Nat):(sbT (s.take j)).length<=(sbT s).length:=by
 have h:=y3o (s.take j) (s.drop j);rw[List.take_append_drop]at h;rw[h,List.length_append];omega
theorem y3p(s:List Int)(j:Nat)(h:j<s.length):sbT (s.take (j+1))=sbT (s.take j)++(Lib.itoa s[j]++[32]):=by
 rw[List.take_succ_eq_append_getElem h,y3n]
theorem y3q{w:World}{base n:Nat}{v:Value}{l:List UInt8}(h:w.ownsRow base 5 1 v n (Lib.byteCells l)):(convert 185 9 v).run prog w=.ok (zT ⟨l.toArray⟩) w:=by
 have e:Lib.byteCells l=nv (l.map fun b=>b.toNat):=by unfold Lib.byteCells nv;rw[List.map_map];rfl
 rw[e]at h;rw[Bl h (fun x hx=>by obtain⟨b,_,rfl⟩:=List.mem_map.1 hx;exact b.toNat_lt)];have:nb (l.map fun b=>b.toNat)=⟨l.toArray⟩:=by unfold nb;rw[List.map_map];simp[Function.comp_def]
 rw[this]
theorem Yk{w:World}{g:Nat}{t:TypeId}{o a1 a2 a3 a4 r y:Value}(h:w.heap[g]? =some (.cells #[o,a1,a2,a3,a4,r,y] t)):(w.cell? ⟨g,0,none⟩=some o/\w.cell? ⟨g,1,none⟩=some a1/\w.cell? ⟨g,2,none⟩=some a2/\w.cell? ⟨g,3,none⟩=some a3/\w.cell? ⟨g,4,none⟩=some a4/\w.cell? ⟨g,5,none⟩=some r/\w.cell? ⟨g,6,none⟩=some y)/\(w.frozen? ⟨g,0,none⟩=false/\w.frozen? ⟨g,1,none⟩=false/\w.frozen? ⟨g,2,none⟩=false/\w.frozen? ⟨g,3,none⟩=false/\w.frozen? ⟨g,4,none⟩=false/\w.frozen? ⟨g,5,none⟩=false/\w.frozen? ⟨g,6,none⟩=false):=by
 refine⟨⟨?_,?_,?_,?_,?_,?_,?_⟩,⟨?_,?_,?_,?_,?_,?_,?_⟩⟩<;>simp[World.cell?,World.frozen?,h]
theorem Tz{W:World}{R:Nat}{t:TypeId}{y a1 a2 a3 a4 r o v0 v1 v2 v3 v4 v5 v6:Value}(h:zH W R (.cells #[y,a1,a2,a3,a4,r,o] t)):(((((((W.setCell ⟨R,0,none⟩ v0).setCell ⟨R,1,none⟩ v1).setCell ⟨R,2,none⟩ v2).setCell ⟨R,3,none⟩ v3).setCell ⟨R,4,none⟩ v4).setCell ⟨R,5,none⟩ v5).setCell ⟨R,6,none⟩ v6).heap[R]? =some (.cells #[v0,v1,v2,v3,v4,v5,v6] t):=by
 have A:(W.setCell ⟨R,0,none⟩ v0).heap[R]? =some (.cells #[v0,a1,a2,a3,a4,r,o] t):=Qw h 0 v0;have D:((W.setCell ⟨R,0,none⟩ v0).setCell ⟨R,1,none⟩ v1).heap[R]? =some (.cells #[v0,v1,a2,a3,a4,r,o] t):=Qw A 1 v1;have E:(((W.setCell ⟨R,0,none⟩ v0).setCell ⟨R,1,none⟩ v1).setCell ⟨R,2,none⟩ v2).heap[R]? =some (.cells #[v0,v1,v2,a3,a4,r,o] t):=Qw D 2 v2;have G:((((W.setCell ⟨R,0,none⟩ v0).setCell ⟨R,1,none⟩ v1).setCell ⟨R,2,none⟩ v2).setCell ⟨R,3,none⟩ v3).heap[R]? =some (.cells #[v0,v1,v2,v3,a4,r,o] t):=Qw E 3 v3;have I:(((((W.setCell ⟨R,0,none⟩ v0).setCell ⟨R,1,none⟩ v1).setCell ⟨R,2,none⟩ v2).setCell ⟨R,3,none⟩ v3).setCell ⟨R,4,none⟩ v4).heap[R]? =some (.cells #[v0,v1,v2,v3,v4,r,o] t):=Qw G 4 v4;have U:((((((W.setCell ⟨R,0,none⟩ v0).setCell ⟨R,1,none⟩ v1).setCell ⟨R,2,none⟩ v2).setCell ⟨R,3,none⟩ v3).setCell ⟨R,4,none⟩ v4).setCell ⟨R,5,none⟩ v5).heap[R]? =some (.cells #[v0,v1,v2,v3,v4,v5,o] t):=Qw I 5 v5;have V:(((((((W.setCell ⟨R,0,none⟩ v0).setCell ⟨R,1,none⟩ v1).setCell ⟨R,2,none⟩ v2).setCell ⟨R,3,none⟩ v3).setCell ⟨R,4,none⟩ v4).setCell ⟨R,5,none⟩ v5).setCell ⟨R,6,none⟩ v6).heap[R]? =some (.cells #[v0,v1,v2,v3,v4,v5,v6] t):=Qw U 6 v6;exact V
theorem Iq{A W:World}{R B:Nat}{v0 v1 v2 v3 v4 v5 v6:Value}(h:Below B A W)(o:B<=R):Below B A (((((((W.setCell ⟨R,0,none⟩ v0).setCell ⟨R,1,none⟩ v1).setCell ⟨R,2,none⟩ v2).setCell ⟨R,3,none⟩ v3).setCell ⟨R,4,none⟩ v4).setCell ⟨R,5,none⟩ v5).setCell ⟨R,6,none⟩ v6):=
 (((((((h.setCell (p:=⟨R,0,none⟩) o v0).setCell (p:=⟨R,1,none⟩) o v1).setCell (p:=⟨R,2,none⟩) o v2).setCell (p:=⟨R,3,none⟩) o v3).setCell (p:=⟨R,4,none⟩) o v4).setCell (p:=⟨R,5,none⟩) o v5).setCell (p:=⟨R,6,none⟩) o v6)
theorem y3r(n:Nat)(x:Int):0<n+(Lib.itoa x).length:=by
 have:0<(Lib.itoa x).length:=by
  unfold Lib.itoa;split
  ·simp
  ·rw[Lib.decDigits];split<;>simp
 omega
def SbZ(s:List Int):Prop:=(∀i∈s,-9223372036854775808<=i/\i<=9223372036854775807)/\(sbT s).length<=1073741824
theorem y3s(k:Int)(T:zA)(a b c d:Int)(s:List Int)(D:Option Addr)(n G B:Nat)(w:World)(Z:Hid (n=s.length))(aD:n<=1048576)(HR:Hid (Eg w B (.slice D n G) s))(hB:B<=w.heap.size)(E:Hid (SbZ s))(HP:Hid (Xm w)):
  Calls prog 53 #[.agg #[zI k,zT T,zU a,zU b,zU c,zU d,.slice D n G]] w fun e w'=>e=.returned (qV (k,T,(a,b,c,d),s))/\zB w w':=by
 obtain⟨i0,hi,ao,ap,aq⟩:=info_parts Tryz.infoByte;obtain⟨aa,e0,t⟩:=Dw w (.cells #[zI k,zT T,zU a,zU b,zU c,zU d,.slice D n G] 56) (.cells #[zI 0,zT {data:=#[]},zU 0,zU 0,zU 0,zU 0,zT {data:=#[]}] 125);obtain⟨y,I⟩:∃y,y=(w.alloc (.cells #[zI k,zT T,zU a,zU b,zU c,zU d,.slice D n G] 56)).alloc (.cells #[zI 0,zT {data:=#[]},zU 0,zU 0,zU 0,zU 0,zT {data:=#[]}] 125):=⟨_,rfl⟩;rw[<-I]at aa e0 t;have ag:=hid aa;have E0:=hid e0;have E1:=hid t;have ar:Hid (y.heap.size=w.heap.size+1+1):=hid (by rw[I,World.size_alloc,World.size_alloc]);have ah:=hid I;clear aa e0 t I;go_enter func53,ntmps53
 go_wp2_with fail
 rw[<-ah.out];clear ah
 go_loopw [3,9] (fun v i wr=>∃j:Nat,i=zI (j:Int)/\j<=n/\Hid (wr.ownsRow (w.heap.size+2) 5 1 v (sbT (s.take j)).length (Lib.byteCells (sbT (s.take j))))/\Hid (Below (w.heap.size+2) y wr)) (fun _ i _=>n-(intOf i).toNat)
 case atStart=>exact⟨0,rfl,Nat.zero_le _,hid (by rw[List.take_zero];exact World.ownsRow_nil _ _ _ _),hid B0q⟩
 case round=>
  obtain⟨j,rfl,hj,U,A⟩:=hrel;have au:y.heap.size=w.heap.size+2:=by
   have:=ar.out;omega
  have ab:Hid (zB w wr):=hid (ag.out.trans (A.out.mono (by omega)));by_cases hjn:j<n
  ·have aE:(j:Int)<(n:Int):=by omega
   have a0:decide ((j:Int)<(n:Int))=true:=by simp;omega
   have ac:j<s.length:=by rw[<-Z.out];exact hjn
   obtain⟨g,o,rfl,hg,V⟩:∃g o,D=some ⟨g,o,none⟩/\g<B/\zC w g (o+j) (zI s[j]):=by
    obtain⟨aF,aG,t,_,av⟩:=HR.out;obtain⟨g,o,e2,hg,V⟩:=av j ac;injection t with t _ _
    exact⟨g,o,t.trans e2,hg,V⟩
   have z0:=(ab.out.cell (p:=⟨g,o+j,none⟩) (by show g<w.heap.size;omega)).trans V;have zl:g<wr.heap.size:=World.block_lt_of_cell? wr _ z0;obtain⟨x,hx⟩:∃x,x=s[j]:=⟨_,rfl⟩;rw[<-hx]at z0;have ad:=E.out.1 x (by rw[hx];exact List.getElem_mem ac);have aw:(sbT (s.take j)).length<=1073741824:=Nat.le_trans (z4n s j) E.out.2;have HA:=hid (z9V (w.heap.size+2) _ x ad.1 ad.2 u3 _ w wr U.out (by omega) (by have:=A.out.size;omega) ab.out (by omega) HP.out);have ae:=hid (y3p s j ac);rw[<-hx]at ae;have ax:=hid (show(sbT (s.take (j+1))).length<=1073741824 from Nat.le_trans (z4n s (j+1)) E.out.2);have M0:(sbT (s.take j)).length+(Lib.itoa x).length+1<=1073741824:=by
    have h:=ax.out;rw[ae.out,List.length_append,List.length_append]at h;exact h
   have M1:(sbT (s.take j)).length+(Lib.itoa x).length+1<=maxLen:=by unfold maxLen;omega
   have M2:((sbT (s.take j)).length+(Lib.itoa x).length+1)*1<=140737488355328:=by omega
   have ai:Hid (∀r:World,Below (w.heap.size+2) y r->w.heap.size+2<=(r.alloc (.cells #[.int .u8 32] 5)).heap.size):=fun r h2=>by
    have h3:=h2.size;rw[World.size_alloc];omega
   have ay:Hid (∀r:World,Below (w.heap.size+2) y r->w.heap.size+2<=r.heap.size):=fun r h2=>by
    have h3:=h2.size;omega
   clear V hx ad HR E aw M0
   go_wp2_with(first
    |(go_at_call 86;refine HA.out.mono ?_;rintro e r ⟨v2,rfl,af,aj⟩;obtain⟨g2,az,rfl,_,_⟩:=af.form (y3r _ _);have Y:=hid (A.out.trans aj);have ak:=hid af;clear af aj HA U)
    |(at_builtin;refine wpList_append_lies _ rfl (.tmp 16) (.tmp 17) 185 rfl (w.heap.size+2) 5 i0 (.int .u8 0) 1 1 Tryz.underlying185 hi ao ap aq rfl (by decide) (zS g2 ((sbT (s.take j)).length+(Lib.itoa x).length) az) ((sbT (s.take j)).length+(Lib.itoa x).length) (Lib.byteCells (sbT (s.take j))++Lib.byteCells (Lib.itoa x)) rfl (ak.out.alloc _) ⟨r.heap.size,0,none⟩ 1 1 [.int .u8 32] rfl rfl (Ak _ _ _) (by simp[Value.oneCell']) (by decide) M1 M2 (ai.out r Y.out) _ rfl ?_;intro g6 aH w6 al am aA aI;have aB:=hid al;have aC:=hid ((Y.out.alloc (ay.out r Y.out) _).grown am (ai.out r Y.out) (fun g e=>(ak.out.lt g e).1));clear al am aA))
   refine⟨⟨j+1,by go_num,by omega,hid ?_,aC⟩,by simp[intOf];omega⟩;have h6:=aB.out;rw[ae.out];simpa [Lib.byteCells,Nat.add_assoc]using h6
  ·have a0:decide ((j:Int)<(n:Int))=false:=by simp;omega
   obtain rfl:j=n:=by omega
   have HC:Hid ((convert 185 9 u3).run prog wr=.ok (zT ⟨(sbT s).toArray⟩) wr):=by
    have h:=y3q U.out;rw[List.take_of_length_le (by have:=Z.out;omega)]at h;exact h
   have F0:=hid ((A.out.block _ (by omega)).trans E0.out);have F1:=hid ((A.out.block _ (by omega)).trans E1.out);obtain⟨⟨m0,m1,m2,m3,m4,m5,m6⟩,_⟩:=Yk F0.out;obtain⟨⟨k0,k1,k2,k3,k4,k5,k6⟩,⟨f0,f1,f2,f3,f4,f5,f6⟩⟩:=Yk F1.out;have l0:=Qq F0.out;have l1:=Qq F1.out;have aJ:=HC.out;clear U A ag E0 E1 HR E HP Z hj hjn au
   go_wp2_with fail
   obtain⟨⟨r0,r1,r2,r3,r4,r5,r6⟩,_⟩:=Yk (Tz (v0:=zI k) (v1:=zT T) (v2:=zU a) (v3:=zU b) (v4:=zU c) (v5:=zU d) (v6:=zT ⟨(sbT s).toArray⟩) F1.out);refine bodyPost_ret (v:=qV (k,T,(a,b,c,d),s)) (by simp[results,Tryz.results53,go_sem,r0,r1,r2,r3,r4,r5,r6,qV]) rfl ⟨rfl,Iq ab.out (by omega)⟩
theorem Tryz.infoOp:(Tryz.prog.info? 56).map (fun i=>(i.zero,i.size,i.bytes))=some (some (.agg #[zI 0,zT {data:=#[]},zU 0,zU 0,zU 0,zU 0,.slice none 0 0]),7,80):=by kernel_rfl
def RwC(W:World)(P:Nat->Prop)(so:Option Addr)(s:List Int):Prop:=∀j (hj:j<s.length),∃g q,so=some ⟨g,q,none⟩/\P g/\W.cell? ⟨g,q+j,none⟩=some (zI s[j])
def OpC(W:World)(P:Nat->Prop)(o:Ox)(cs:List Value):Prop:=∃so cap,cs=[zI o.1,zT o.2.1,zU o.2.2.1.1,zU o.2.2.1.2.1,zU o.2.2.1.2.2.1,zU o.2.2.1.2.2.2,.slice so o.2.2.2.length cap]/\o.2.2.2.length<=1048576/\RwC W P so o.2.2.2
def Av(W:World)(P:Nat->Prop)(ops:List Ox)(xs:List Value):Prop:=∀i (hi:i<ops.length),∃c,OpC W P ops[i] c/\∀q u,c[q]? =some u->xs[i*7+q]? =some u
structure Mkr (W:World) (Q:Nat->Prop) (B mB mp:Nat) (gv vn vr:Value) (ops:List Ox) (v:Value) (xs:List Value):Prop where
 hm:W.heap[mB]? =some (.cells #[gv,v,vn,vr,.map (some mp)] 78)
 ho:W.ownsRow B 56 7 v ops.length xs
 hops:Av W Q ops xs
 hmap:Pk W mp (ops.map qB)
 hq:∀g,Q g->g<W.heap.size/\g≠mB/\g≠mp/\v.ownBlock≠some g
 hmB:mB<B
 hmp:mp<B
 hne:mB≠mp
structure Frm (mB mp:Nat) (W:World) (v:Value) (W':World) (v':Value):Prop where
 os:W'.os=W.os
 tape:W'.tape=W.tape
 output:W'.output=W.output
 size:W.heap.size<=W'.heap.size
 block:∀k,k<W.heap.size->k≠mB->k≠mp->v.ownBlock≠some k->W'.heap[k]? =W.heap[k]?
 row:∀g,v'.ownBlock=some g->v.ownBlock=some g∨W.heap.size<=g
theorem Frm.trans{mB mp:Nat}{W t y:World}{v v1 v2:Value}(h:Frm mB mp W v t v1)(o:Frm mB mp t v1 y v2):Frm mB mp W v y v2:=
 ⟨o.os.trans h.os,o.tape.trans h.tape,o.output.trans h.output,Nat.le_trans h.size o.size,fun k A D E G=>(o.block k (Nat.lt_of_lt_of_le A h.size) D E (fun e=>(h.row k e).elim G (fun r=>by omega))).trans (h.block k A D E G),fun g I=>by
   rcases o.row g I with r|r
   ·exact h.row g r
   ·exact .inr (Nat.le_trans h.size r)⟩
theorem Frm.of_below{mB mp:Nat}{W W':World}{v:Value}(h:zB W W'):Frm mB mp W v W' v:=⟨h.os,h.tape,h.output,h.size,fun k o _ _ _=>h.block k o,fun _ h=>.inl h⟩
theorem Frm.below{mB mp B:Nat}{A W W':World}{v o:Value}(h:Frm mB mp W v W' o)(r:Below B A W)(y:B<=W.heap.size)(D:B<=mB)(E:B<=mp)(t:∀g,v.ownBlock=some g->B<=g):Below B A W':=
 r.trans ⟨h.os,h.tape,h.output,h.size,fun k G=>h.block k (by omega) (by omega) (by omega) (fun e=>by have:=t k e;omega)⟩
theorem RwC.keep{W W':World}{P o:Nat->Prop}{r:Option Addr}{s:List Int}(h:RwC W P r s)(t:∀g,P g->o g/\W'.heap[g]? =W.heap[g]?):RwC W' o r s:=fun j A=>by
 obtain⟨g,q,D,y,E⟩:=h j A;exact⟨g,q,D,(t g y).1,(World.cell?_of_block (t g y).2).trans E⟩
theorem OpC.keep{W W':World}{P r:Nat->Prop}{o:Ox}{t:List Value}(h:OpC W P o t)(y:∀g,P g->r g/\W'.heap[g]? =W.heap[g]?):OpC W' r o t:=by
 obtain⟨A,D,E,G,I⟩:=h;exact⟨A,D,E,G,I.keep y⟩
theorem Av.keep{W W':World}{P o:Nat->Prop}{ops:List Ox}{xs:List Value}(h:Av W P ops xs)(r:∀g,P g->o g/\W'.heap[g]? =W.heap[g]?):Av W' o ops xs:=fun i t=>by
 obtain⟨c,y,A⟩:=h i t;exact⟨c,y.keep r,A⟩
theorem Yc{W W':World}{B e size n:Nat}{v:Value}{xs:List Value}(h:W.ownsRow B e size v n xs)(t:∀g,v.ownBlock=some g->W'.heap[g]? =W.heap[g]?):W'.ownsRow B e size v n xs:=by
 obtain⟨y,o⟩:=h;refine⟨y,?_⟩;rcases o with o|⟨g,A,D,r,E,G,I⟩
 ·exact .inl o
 ·exact .inr ⟨g,A,D,r,E,(t g (by rw[r];rfl)).trans G,I⟩
theorem Mkr.kept{W W':World}{Q:Nat->Prop}{B mB mp:Nat}{t vn vr v:Value}{ops:List Ox}{xs:List Value}(h:Mkr W Q B mB mp t vn vr ops v xs)(y:W.heap.size<=W'.heap.size)(X:Nat->Prop)(r:∀k,k<W.heap.size->¬X k->W'.heap[k]? =W.heap[k]?)(A:¬X mB)(D:¬X mp)(E:∀g,v.ownBlock=some g->¬X g)(G:∀g,Q g->¬X g):Mkr W' Q B mB mp t vn vr ops v xs:=
 ⟨(r _ (Qq h.hm) A).trans h.hm,Yc h.ho fun g o=>r g (h.ho.lt g o).2 (E g o),h.hops.keep fun g o=>⟨o,r g (h.hq g o).1 (G g o)⟩,h.hmap.same (r _ h.hmap.lt D),fun g o=>⟨Nat.lt_of_lt_of_le (h.hq g o).1 y,(h.hq g o).2⟩,h.hmB,h.hmp,h.hne⟩
theorem Mkr.below{W W':World}{Q:Nat->Prop}{B mB mp:Nat}{o vn vr v:Value}{ops:List Ox}{xs:List Value}(h:Mkr W Q B mB mp o vn vr ops v xs)(r:zB W W'):Mkr W' Q B mB mp o vn vr ops v xs:=
 h.kept r.size (fun _=>False) (fun k t _=>r.block k t) id id (fun _ _=>id) (fun _ _=>id)
def OnP(ix:zA->Int)(t:RT)(Q:Nat->Prop)(B mB mp:Nat)(gv vn vr:Value)(ops:List Ox)(v:Value)(W:World)(e:Ending)(W':World):Prop:=
 ∃(o:Ox) (cs:List Value) (Q':Nat->Prop) (v':Value) (xs':List Value) (ops':List Ox),e=.returned (.agg cs.toArray)/\OpC W' (fun g=>W.heap.size<=g/\g<W'.heap.size/\¬Q' g/\v'.ownBlock≠some g) o cs/\mkT ix t ops=plO o ops'/\(qW o/\SbZ o.2.2.2/\o.2.1.size<=1073741824/\ops'.length<=1048576)/\Mkr W' Q' B mB mp gv vn vr ops' v' xs'/\(∀g,Q' g->Q g∨W.heap.size<=g)/\Frm mB mp W v W' v'
def PlP(ix:zA->Int)(t:RT)(Q:Nat->Prop)(B mB mp:Nat)(gv vn vr:Value)(ops:List Ox)(v:Value)(W:World)(e:Ending)(W':World):Prop:=
 ∃(Q':Nat->Prop) (v':Value) (xs':List Value),e=.returned (zI ((mkT ix t ops).1:Nat))/\Mkr W' Q' B mB mp gv vn vr (mkT ix t ops).2 v' xs'/\(∀g,Q' g->Q g∨W.heap.size<=g)/\Frm mB mp W v W' v'
end Go.Proofs.YtgnkkgcgbeianaaGreatDoor
