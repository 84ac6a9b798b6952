/- Lemmas for the last text. Conditions: those that each names. -/
import Derived.Test.YtmelafeingcgnaaGreatDoorVT14ToT16
import Derived.Test.YtmelafeingcgnaaGreatDoorVT17ToT19
import Derived.Test.YtmelafeingcgnaaGreatDoorVT20ToT6
import Derived.Test.YtmelafeingcgnaaGreatDoorVO5ToS4
import Derived.Test.YtmelafeingcgnaaGreatDoorVF1ToO4
import Derived.Test.YtmelafeingcgnaaGreatDoorVU15ToT11
import Derived.Test.YtmelafeingcgnaaGreatDoorVU9ToU14
import Derived.DeepKeys4
import Derived.Lib.ItoaNum
set_option linter.unusedVariables false
set_option maxRecDepth 100000
set_option maxHeartbeats 8000000
namespace Go.Proofs.YtmelafeingcgnaaGreatDoor
open Go.Proofs.Tryz
open Go.RowKit Go.Shelf Go.Maps
theorem y3m{W W':World}{r o:Nat}{v:Value}(h:zC W r o v)(y:zB W W'):zC W' r o v:=(y.cell (p:=⟨r,o,none⟩) (World.block_lt_of_cell? W _ h)).trans h
noncomputable def kG (rs:List Rr):zA->Ot:=itr rs (Classical.epsilon fun m=>Xq (itr rs m) rs)
theorem Sb{rs:List Rr}{m:Nat}(h:Xq (itr rs m) rs):itr rs m=kG rs:=z9Z h (Classical.epsilon_spec (p:=fun m=>Xq (itr rs m) rs) ⟨m,h⟩)
noncomputable def bgU (rs:List Rr):List (List Int):=rs.map (bgR rs (kG rs))
theorem Zd.to{X:Option (Int ⊕ (Int×Int))}{S:Nat}{w w':World}{v:Value}(h:Zd X S w v)(o:zB w w'):Zd X S w' v:=by
 match X,h with
 |none,h=>exact h
 |some (.inl c),h=>exact h
 |some (.inr q),⟨g,h1,h2,h3⟩=>exact⟨g,h1,h2,(o.block g (Qq h3)).trans h3⟩
theorem Hd(rs:List Rr):(bgU rs).length=rs.length:=List.length_map _
noncomputable def bkB (rs:List Rr) (i:Nat):Bool:= @decide (Bck (bgU rs) i) (Classical.propDecidable _)
theorem Sh{rs:List Rr}{i:Nat}:bkB rs i=true↔Bck (bgU rs) i:= @decide_eq_true_iff _ (Classical.propDecidable _)
theorem z4i{rs:List Rr}{i:Nat}(h:¬Bck (bgU rs) i):bkB rs i=false:=by
 cases e:bkB rs i with
 |true=>exact absurd (Sh.1 e) h
 |false=>rfl
noncomputable def lfG (rs:List Rr):Option Int:=((List.range rs.length).find? (bkB rs)).map fun i=>((rs[i]?).map (·.2.2)).getD 0
theorem y3n{rs:List Rr}{j:Nat}(o:j<rs.length)(h:Bck (bgU rs) j)(r:∀i,i<j->¬Bck (bgU rs) i):lfG rs=some rs[j].2.2:=by
 have e:(List.range rs.length).find? (bkB rs)=some j:=by
  rw[List.find?_range_eq_some];exact⟨Sh.2 h,List.mem_range.2 o,fun i y=>by rw[z4i (r i y)];rfl⟩
 unfold lfG;rw[e];simp[o]
theorem z4j{rs:List Rr}(h:∀i,i<rs.length->¬Bck (bgU rs) i):lfG rs=none:=by
 have e:(List.range rs.length).find? (bkB rs)=none:=by
  rw[List.find?_eq_none];exact fun i o=>by rw[z4i (h i (List.mem_range.1 o))];simp
 unfold lfG;rw[e];rfl
theorem y3o{rs:List Rr}(h:lfG rs=none):∀i,i<rs.length->¬Bck (bgU rs) i:=fun i o r=>by
 unfold lfG at h;rw[Option.map_eq_none_iff,List.find?_eq_none]at h;exact h i (List.mem_range.2 o) (Sh.2 r)
noncomputable def soZ (rs:List Rr) (X:Option (Int ⊕ (Int×Int))):Option (Int ⊕ (Int×Int)):=match X with
 |some x=>some x
 |none=>match flX (kG rs) rs with
  |some x=>some x
  |none=>(lfG rs).map fun p=>.inr (41,p)
def SbP(rs:List Rr)(X:Option (Int ⊕ (Int×Int)))(W:World)(e:Ending)(w':World):Prop:=zB W w'/\
 ((soZ rs X≠none/\∃v,e=.returned (.tuple #[.slice none 0 0,v])/\Zd (soZ rs X) W.heap.size w' v)∨
  (soZ rs X=none/\X=none/\∃ub vs,e=.returned (.tuple #[zS ub rs.length rs.length,.nilIface])/\vs.length=rs.length/\Uw W ub rs.length vs (bgU rs) w'))
theorem Uw.from{w0 w:World}{r n:Nat}{vs:List Value}{us:List (List Int)}{W:World}(h:Uw w r n vs us W)(o:zB w0 w):Uw w0 r n vs us W:=⟨h.blk,h.len,fun i y A=>z2u (h.row i y A) o.size,o.trans (h.be.mono o.size),Nat.le_trans o.size h.lo⟩
theorem y3p{W W':World}{y:Value}{us:List (List Int)}(h:UsM W W.heap.size y us)(r:zB W W'):UsM W' W'.heap.size y us:=by
 obtain⟨U,V,Y,Z,h3⟩:=h;refine⟨U,V,Y,Z,fun i hi=> ?_⟩;obtain⟨g,o,rv,e1,A,e3,aa,ab,f1,f2,f3⟩:=h3 i hi;refine⟨g,o,rv,e1,Nat.lt_of_lt_of_le A r.size,(r.cell (p:=⟨g,o+i,none⟩) A).trans e3,aa,ab,f1,f2,fun j hj=> ?_⟩;obtain⟨D,E,q1,G,q3⟩:=f3 j hj;exact⟨D,E,q1,Nat.lt_of_lt_of_le G r.size,(r.cell (p:=⟨D,E+j,none⟩) G).trans q3⟩
theorem y3q{rs:List Rr}{K:zA->Ot}{x:Rr}(h:okT x.2.1=true):(bgR rs K x).length<=(rfT x.2.1).length:=by
 unfold bgR;refine Nat.le_trans (z2s _) ?_;rw[My,List.length_map];exact Sg _ h
theorem z4k{rs:List Rr}(h:okG rs=true)(o:ckR rs=none):∀u∈bgU rs,∀x∈u,∃m:Nat,m<rs.length/\x=(m:Int):=fun u r x hx=>by
 obtain⟨y,A,rfl⟩:=List.mem_map.1 r;exact y2C h o A x hx
theorem y3r{rs:List Rr}(o:okG rs=true)(hl:∀x∈rs,(rfT x.2.1).length<=8192):∀u∈bgU rs,u.length<=1048576:=fun u r=>by
 obtain⟨y,h,rfl⟩:=List.mem_map.1 r;have A:=y3q (rs:=rs) (K:=kG rs) (Gc o y h).2;have D:=hl y h;omega
theorem y3s(r:Option Addr)(n y:Nat)(X:Option (Int ⊕ (Int×Int)))(w:World)
  (U:Hid (∀W:World,zB w W->Calls prog 118 #[.agg #[.slice r n y]] W fun e w'=>∃A D,e=.returned (.tuple #[.agg #[.slice none 0 0],.iface A D])/\Zd X W.heap.size w' (.iface A D)/\zB W w')):
  Calls prog 78 #[.agg #[.slice r n y]] w fun e w'=>∃v,e=.returned (.tuple #[.slice none 0 0,v])/\Zd X w.heap.size w' v/\zB w w':=by
 obtain⟨h,E⟩:∃h,h=w.alloc (.cells #[.slice r n y] 51):=⟨_,rfl⟩;have G:zB w h:=by rw[E];exact(Below.refl _ w).alloc L0q _
 have V:=hid (U.out h G);have o:=hid G;have Y:=hid E;clear E G U;go_enter func78,ntmps78
 go_wp2_with fail
 rw[<-Y.out];refine V.out.mono ?_;rintro e w2 ⟨A,D,rfl,Z,aa⟩;have HV:=hid (Z.lo o.out.size);have ab:=hid (o.out.trans (aa.mono o.out.size));clear Z aa V Y o
 go_wp2_with fail
 go_ret2
 have ac:=(Below.refl _ w2).alloc L0q (.cells #[.slice none 0 0] 51);refine⟨_,rfl,?_,ab.out.trans (ac.mono ab.out.size)⟩;exact Zd.to HV.out ac
theorem y3t(U:Option Addr)(n Z:Nat)(rs:List Rr)(w:World)(h:Qg w w.heap.size U n rs)(hn:n<=1048576)(hX:CkX rs none)
  (HC:Hid (∀W:World,zB w W->Calls prog 118 #[.agg #[.slice U n Z]] W (BfP rs none W)))
  (aI:Hid (∀(W:World) (y:Option Addr) (G:Nat),zB w W->Qg W W.heap.size y n (bG rs (kG rs))->Calls prog 119 #[.agg #[.slice U n Z],.agg #[.slice y n G]] W fun e w'=>∃v,e=.returned v/\Zd (flX (kG rs) rs) W.heap.size w' v/\zB W w'))
  (ap:Hid (∀(W:World) (y:Option Addr) (G:Nat),zB w W->Qg W W.heap.size y n (bG rs (kG rs))->Calls prog 120 #[.agg #[.slice U n Z],.agg #[.slice y n G]] W fun e w'=>∃ub vs,e=.returned (zS ub n n)/\vs.length=n/\Uw W ub n vs (bgU rs) w')):
  Calls prog 78 #[.agg #[.slice U n Z]] w (SbP rs none w):=by
 obtain⟨W1,ag⟩:∃W1,W1=w.alloc (.cells #[.slice U n Z] 51):=⟨_,rfl⟩;have aq:zB w W1:=by rw[ag];exact(Below.refl _ w).alloc L0q _
 have ar:Hid (W1.heap[w.heap.size]? =some (.cells #[.slice U n Z] 51)):=by rw[ag];exact Qx w _ rfl
 have HS:=hid (HC.out W1 aq);have au:=hid aq;have aJ:=hid ag;have HR:=hid h;have D:Hid (n=rs.length):=h.1;have ah:=hid hX;clear ag aq HC h hX;go_enter func78,ntmps78
 go_wp2_with fail
 rw[<-aJ.out];refine HS.out.mono ?_;rintro e w2 ⟨av,a8⟩;rcases a8 with⟨hx,_⟩|⟨_,y,G,m,rfl,aK,aw⟩
 ·exact absurd rfl hx
 rw[<-D.out];rw[Sb aK,<-D.out]at aw;have ax:=hid (au.out.trans (av.mono au.out.size));have ab:=hid ((av.block _ (Qq ar.out)).trans ar.out);obtain⟨W3,ai⟩:∃W3,W3=w2.alloc (.cells #[.slice y n G] 51):=⟨_,rfl⟩;have r:zB w2 W3:=by rw[ai];exact(Below.refl _ w2).alloc L0q _
 have ac:=hid (ax.out.trans (r.mono ax.out.size));have ay:=hid ((r.block _ (Qq ab.out)).trans ab.out);obtain⟨sB,az⟩:∃sB,sB=w2.heap.size:=⟨_,rfl⟩;have aA:Hid (zH W3 sB (.cells #[.slice y n G] 51)):=by rw[ai,az];exact Qx _ _ rfl
 have aB:=(aw.below r).upto r.size;have aL:=hid (aI.out W3 y G ac.out aB);have aM:=hid aB;obtain⟨g2,_⟩:=Qy ab.out;have a9:=Qq ab.out;have ba:w.heap.size<w2.heap.size+1:=by omega
 have aN:=hid ai;clear HS aJ ar au av aK aw r aB ai aI
 go_wp2_with fail
 rw[<-aN.out];refine aL.out.mono ?_;clear aL aN g2 a9 ba;rintro e w3 ⟨v,rfl,hv,r⟩;have aa:=hid (ac.out.trans (r.mono ac.out.size));have ad:=hid ((r.block _ (Qq ay.out)).trans ay.out);have aC:=hid ((r.block _ (Qq aA.out)).trans aA.out);have aO:=hid ((aM.out.below r).upto r.size);have HV:=hid (hv.lo ac.out.size);rw[<-az];clear ax ac ab ay aA aM r az;cases hfl:flX (kG rs) rs with
 |some x=>
  have V:Hid (soZ rs none=some x):=by show _=_;unfold soZ;simp only;rw[hfl]
  rw[hfl]at hv HV;obtain⟨tt,uu,rfl⟩:=hv.shape (by simp);clear hv hfl ap
  go_wp2_with fail
  go_ret2
  refine⟨aa.out,.inl ⟨by rw[V.out];simp,_,rfl,?_⟩⟩;rw[V.out];exact HV.out
 |none=>
  have aP:Hid (flX (kG rs) rs=none):=hfl;rw[hfl]at hv;obtain rfl:v=.nilIface:=hv;have aQ:=hid (ap.out w3 y G aa.out aO.out);obtain⟨g4,_⟩:=Qy ad.out;have bb:=Qq ad.out;obtain⟨s4,_⟩:=Qy aC.out;have bc:=Qq aC.out;clear hfl ap HV aO
  go_wp2_with fail
  refine aQ.out.mono ?_;clear aQ g4 bb s4 bc;rintro e w4 ⟨ub,vs,rfl,aD,hU⟩;have bd:Hid (vs.length=n):=aD;have HU:=hid hU;have aR:=hid ((hU.be.block _ (Qq ad.out)).trans ad.out);have aj:=hid (aa.out.trans (hU.be.mono aa.out.size));obtain⟨g5,_⟩:=Qy aR.out;have bf:=Qq aR.out;have bg:=hid (hU.from aa.out);have bh:=hid (y0O hU aD (y3r ah.out.1 ah.out.2.2) hn);clear aD hU ad aC aa HU
  go_wp2_with fail
  clear g5 bf
  go_loopw [30] (fun i wr=>∃j:Nat,i=zI (j:Int)/\j<=n/\Hid (zB w4 wr)/\Hid (∀i,i<j->¬Bck (bgU rs) i)) (fun i _=>n-(intOf i).toNat)
  case atStart=>exact⟨0,rfl,Nat.zero_le _,Below.refl _ _,fun i h=>absurd h (by omega)⟩
  case round=>
   obtain⟨j,rfl,hj,ak,aE⟩:=hrel;by_cases hjn:j<n
   ·have bo:(j:Int)<(n:Int):=by omega
    have a0:decide ((j:Int)<(n:Int))=true:=by simp;omega
    have aS:j<rs.length:=by rw[<-D.out];exact hjn
    obtain⟨g,o,rfl,hg,k1,T1,a1,b1,c1,d1,aT,n1,aU,p1,bi,r0⟩:=HR.out.2.2 j aS;have aV:=aj.out.trans (ak.out.mono aj.out.size);have aW:∀q,wr.cell? ⟨g,q,none⟩=w.cell? ⟨g,q,none⟩:=fun q=>aV.cell (p:=⟨g,q,none⟩) hg
    simp only[<-aW]at r0;obtain⟨z0,z1,z2,z3,z4,z5,z6,z7,z8,z9⟩:=r0;have bp:g<wr.heap.size:=World.block_lt_of_cell? wr _ z0;obtain⟨N0,aX⟩:∃N0,N0=rs[j].1:=⟨_,rfl⟩;obtain⟨E,aF⟩:∃E,E=rs[j].2.2:=⟨_,rfl⟩;rw[<-aX]at z0;rw[<-aF]at z9;have bj:Hid (E=rs[j].2.2):=aF;obtain⟨Y,al⟩:∃Y,Y=wr.alloc (.cells #[zT N0,zI k1,zT T1,zU a1,zU b1,zU c1,zU d1,.slice aT n1 aU,zI p1,zI E] 121):=⟨_,rfl⟩;have aG:zB w4 Y:=by rw[al];exact ak.out.alloc ak.out.size _
    have aY:Y.heap[wr.heap.size]? =some (.cells #[zT N0,zI k1,zT T1,zU a1,zU b1,zU c1,zU d1,.slice aT n1 aU,zI p1,zI E] 121):=by rw[al];exact Qx wr _ rfl
    have aZ:UsM Y Y.heap.size (zS ub n n) (bgU rs):=y3p bh.out aG;have a2:=hid (y3l (zS ub n n) (bgU rs) n j Y aZ (by rw[Hd];exact D.out.symm) (fun u hu x hx=>by rw[D.out];exact z4k ah.out.1 ah.out.2.1 u hu x hx) hn hjn);have am:=hid aG;have a3:=hid aY;have a4:=hid al;clear aW aX aF bi aV aG aY aZ al
    go_wp2_with fail
    rw[<-a4.out];refine a2.out.mono ?_;clear a2 a4 z0 z1 z2 z3 z4 z5 z6 z7 z8 z9;rintro e w5 ⟨⟨rfl,ae⟩|⟨rfl,ae⟩,af⟩
    ·have ao:=(af.block _ (Qq a3.out)).trans a3.out
     obtain⟨rB,a5⟩:∃rB,rB=wr.heap.size:=⟨_,rfl⟩;rw[<-a5]at ao ⊢;have bk:Hid (zC w5.drew rB 9 (zI E)):=(Qj ao 9 _ rfl).1;have bq:=Qq ao;have aH:=aj.out.trans ((am.out.trans (af.mono am.out.size)).mono aj.out.size);have a6:=hid aH;have bl:w.heap.size<=w5.heap.size:=aH.size;have V:Hid (soZ rs none=some (.inr (41,E))):=by
      show _=_;unfold soZ;simp only;rw[aP.out];simp only;rw[y3n aS ae aE.out,<-bj.out];rfl
     clear ae af a5 aH ao
     go_wp2_with fail
     refine Qc 99 (fun W:World=>zC W rB 9 (zI E)) (by kernel_rfl) bk.out (fun A=> ?_);refine Qz 0 A ?_;refine Qz 1 A ?_;refine Qz 2 A ?_;refine Qz 5 A ?_
     (refine Qv 3 (fun K hK=> ?_);go_simp;replace A:=y3m A ((Below.refl _ w5.drew).alloc L0q (.cells #[zI 41,zI E] 183));refine hK.out _ _ A ?_;clear hK K)
     (try simp only[Act.put,zY])
     refine Qz 4 A ?_;refine Qz 6 A ?_;refine⟨by kernel_rfl,?_⟩;clear A
     go_wp2_with fail
     go_ret2
     refine⟨(a6.out.alloc a6.out.size _).drew,.inl ⟨by rw[V.out];simp,_,rfl,?_⟩⟩;rw[V.out];exact⟨_,rfl,bl,Qx w5 _ rfl⟩
    ·have bm:=hid ae
     have bn:=hid (am.out.trans (af.mono am.out.size));clear ae af
     go_wp2_with fail
     refine⟨⟨j+1,by go_num,by omega,bn,fun i hi=> ?_⟩,by simp[intOf];omega⟩;rcases Nat.lt_or_ge i j with h1|h1
     ·exact aE.out i h1
     ·obtain rfl:i=j:=by omega
      exact bm.out
   ·have a0:decide ((j:Int)<(n:Int))=false:=by simp;omega
    have V:Hid (soZ rs none=none):=by
     show _=_;unfold soZ;simp only;rw[aP.out];simp only;rw[z4j (fun i hi=>aE.out i (by have:=D.out;omega))];rfl
    go_wp2_with fail
    go_ret2
    have a7:=bg.out.below (ak.out);refine⟨a7.be,.inr ⟨V.out,rfl,ub,vs,by rw[<-D.out];rfl,by rw[<-D.out];exact bd.out,?_⟩⟩;rw[<-D.out];exact a7
theorem y3u(r:Option Addr)(n D:Nat)(rs:List Rr)(X:Option (Int ⊕ (Int×Int)))(B:Nat)(fp:Addr)(w:World)(y:CkX rs X)(hP:X=none->PrG rs)(hC:CkC r n D rs X w)(Y:RgZ rs)(h:Qg w B r n rs)(E:B<=w.heap.size)(G:TabIs w)(hF:zC w (1) 0 (.iface 405 (.pointer (some fp)))):∀W:World,zB w W->Calls prog 78 #[.agg #[.slice r n D]] W (SbP rs X W):=fun W U=>by
 have A:∀{W'},zB W W'->zB w W':=fun o=>U.trans (o.mono U.size)
 have ac:=fun(W':World) (o:zB W W')=>y2M r n D rs X B w y hC Y h E W' (A o)
 cases X with
 |some x=>
  refine(y3s r n D (some x) W (hid fun W' o=>(ac W' o).mono fun e w' Z=> ?_)).mono fun e w' Z=> ?_
  ·obtain⟨hb,⟨_,v,h1,V⟩|⟨h0,_⟩⟩:=Z
   ·obtain⟨tt,uu,rfl⟩:=V.shape (by simp)
    exact⟨tt,uu,h1,V,hb⟩
   ·cases h0
  ·obtain⟨v,h1,V,h3⟩:=Z
   exact⟨h3,.inl ⟨by unfold soZ;simp,v,h1,V⟩⟩
 |none=>
  have af:=(Gz y.1).2;have ad:=hP rfl;have hn:n<=1048576:=by have:=h.1;omega
  have ae:1<w.heap.size:=World.block_lt_of_cell? w _ hF;refine y3t r n D rs W ((h.below (U.mono E)).upto (Nat.le_trans E U.size)) hn y (hid ac) (hid fun W' aa ab o hg=> ?_) (hid fun W' aa ab o hg=> ?_)
  ·exact y2W r n D aa n ab rs (kG rs) fp W' ((h.below ((A o).mono E)).upto (Nat.le_trans E (A o).size)) hn hg y.1 y.2.1 Y ad (G.below (A o) G.lt) (((A o).cell (p:=⟨1,0,none⟩) ae).trans hF)
  ·exact y3e r n D aa n ab rs (kG rs) W' ((h.below ((A o).mono E)).upto (Nat.le_trans E (A o).size)) hn hg y.1 y.2.1 Y ad (G.below (A o) G.lt) y.2.2
section
def rkF(us:List (List Int)):Nat->Nat->Nat
 |0,_=>0
 |f+1,i=>(us.getD i []).foldl (fun o x=>max o (rkF us f x.toNat+1)) 0
def Acy(us:List (List Int)):Prop:=∀i j:Nat,(j:Int)∈us.getD i []->¬Rch us j i
theorem Sd{g:Int->Nat}:∀(l:List Int) (o:Nat),o<=l.foldl (fun o x=>max o (g x)) o/\∀x∈l,g x<=l.foldl (fun o x=>max o (g x)) o
 |[],o=>⟨Nat.le_refl _,fun x hx=>by simp at hx⟩
 |a::r,o=>by
  have h:=Sd (g:=g) r (max o (g a));rw[List.foldl_cons];refine⟨by omega,fun x hx=> ?_⟩;rcases List.mem_cons.1 hx with rfl|hx
  ·omega
  ·exact h.2 x hx
theorem Sp{g:Int->Nat}:∀(l:List Int) (o:Nat),l.foldl (fun o x=>max o (g x)) o=o∨∃x∈l,l.foldl (fun o x=>max o (g x)) o=g x
 |[],o=>.inl rfl
 |a::r,o=>by
  rw[List.foldl_cons];rcases Sp (g:=g) r (max o (g a))with h|⟨x,hx,h⟩
  ·rcases Nat.le_total o (g a)with y|y
   ·exact .inr ⟨a,by simp,by rw[h];omega⟩
   ·exact .inl (by rw[h];omega)
  ·exact .inr ⟨x,by simp[hx],h⟩
theorem z4l{g h:Int->Nat}:∀(l:List Int) (o:Nat),(∀x∈l,g x=h x)->l.foldl (fun o x=>max o (g x)) o=l.foldl (fun o x=>max o (h x)) o
 |[],_,_=>rfl
 |a::r,o,e=>by
  rw[List.foldl_cons,List.foldl_cons,e a (by simp)];exact z4l r _ fun x hx=>e x (by simp[hx])
theorem Sc(us:List (List Int)):∀(f i:Nat),rkF us f i<=f
 |0,i=>Nat.le_refl _
 |f+1,i=>by
  rw[rkF];rcases Sp (g:=fun x=>rkF us f x.toNat+1) (us.getD i []) 0 with h|⟨x,hx,h⟩
  ·rw[h];omega
  ·rw[h]
   have:=Sc us f x.toNat;omega
theorem z4m(us:List (List Int)):∀(f i:Nat),rkF us (f+1) i≠rkF us f i->rkF us (f+1) i=f+1
 |0,i,h=>by
  have r:rkF us (0+1) i<=0+1:=Sc us (0+1) i;have E:rkF us 0 i=0:=rfl;omega
 |f+1,i,h=>by
  have y:=Sc us (f+2) i;have A:∃x∈us.getD i [],rkF us (f+1) x.toNat≠rkF us f x.toNat:=Classical.byContradiction fun D=>h (by
   rw[rkF,rkF];exact z4l _ _ fun x hx=>Classical.byContradiction fun o=>D ⟨x,hx,fun e=>o (by omega)⟩)
  obtain⟨x,hx,o⟩:=A;have r:=z4m us f x.toNat o;have G:=(Sd (g:=fun x=>rkF us (f+1) x.toNat+1) (us.getD i []) 0).2 x hx;rw[rkF];rw[rkF]at y;omega
inductive Pth (us:List (List Int)):Nat->List Nat->Prop where
 |one (i:Nat):Pth us i [i]
 |more {i j:Nat} {p:List Nat}:(j:Int)∈us.getD i []->Pth us j p->Pth us i (i::p)
theorem Pth.mem{us:List (List Int)}{i:Nat}{p:List Nat}(h:Pth us i p):∀k∈p,Rch us i k:=by
 induction h with
 |one i=>intro k o;rw[List.mem_singleton]at o;subst o;exact .refl
 | @more i j p hj _ ih=>
   intro k o;rcases List.mem_cons.1 o with rfl|o
   ·exact .refl
   ·exact(Rch.step .refl hj).trans (ih k o)
theorem Pth.nodup{us:List (List Int)}(ha:Acy us){i:Nat}{p:List Nat}(h:Pth us i p):p.Nodup:=by
 induction h with
 |one i=>simp
 | @more i j p hj hp ih=>
   rw[List.nodup_cons];exact⟨fun o=>ha i j hj (hp.mem i o),ih⟩
theorem z4n(us:List (List Int))(hx:∀i x,x∈us.getD i []->0<=x):∀(f i:Nat),∃p,Pth us i p/\p.length=rkF us f i+1
 |0,i=>⟨[i],.one i,rfl⟩
 |f+1,i=>by
  rw[rkF];rcases Sp (g:=fun x=>rkF us f x.toNat+1) (us.getD i []) 0 with h|⟨x,o,h⟩
  ·exact⟨[i],.one i,by rw[h];rfl⟩
  ·obtain⟨p,r,hl⟩:=z4n us hx f x.toNat
   refine⟨i::p,.more (j:=x.toNat) (by rw[Int.toNat_of_nonneg (hx i x o)];exact o) r,?_⟩;rw[h,List.length_cons,hl]
theorem z4o:∀{n:Nat} {p:List Nat},p.Nodup->(∀k∈p,k<n)->p.length<=n
 |0,[],_,_=>Nat.le_refl _
 |0,k::_,_,h=>absurd (h k (by simp)) (by omega)
 |n+1,p,hn,h=>by
  have y:=z4o (n:=n) (p:=p.erase n) (hn.erase n) fun k o=>by
   have r:=h k (List.mem_of_mem_erase o);have A:k≠n:=fun e=>by
    subst e;exact(List.Nodup.not_mem_erase hn) o
   omega
  have r:p.length<=(p.erase n).length+1:=by
   rw[List.length_erase];split<;>omega
  omega
def rkP(us:List (List Int))(i:Nat):Nat:=rkF us us.length i
section
variable {us:List (List Int)} (ha:Acy us) (hx:∀i x,x∈us.getD i []->∃m:Nat,m<us.length/\x=(m:Int))
include ha hx
theorem y3v{f i:Nat}(r:i<us.length):rkF us f i<us.length:=by
 obtain⟨p,o,hl⟩:=z4n us (fun i x h=>by obtain⟨m,_,rfl⟩:=hx i x h;omega) f i;have y:∀{k:Nat},Rch us i k->k<us.length:=fun{k} A=>by
  induction A with
  |refl=>exact r
  |step _ h ih=>
   obtain⟨m,E,G⟩:=hx _ _ h;omega
 have:=z4o (o.nodup ha) (fun k D=>y (o.mem k D));omega
theorem y3w{i:Nat}(r:i<us.length):rkP us i=(us.getD i []).foldl (fun o x=>max o (rkP us x.toNat+1)) 0:=by
 have y:rkF us (us.length+1) i=rkF us us.length i:=Classical.byContradiction fun h=>by
  have A:=z4m us us.length i h;have D:=y3v ha hx (f:=us.length+1) r;omega
 exact y.symm
theorem y3x{i:Nat}(o:i<us.length){x:Int}(h:x∈us.getD i []):rkP us x.toNat<rkP us i:=by
 rw[y3w ha hx o];exact(Sd (g:=fun x=>rkP us x.toNat+1) (us.getD i []) 0).2 x h
end
end
theorem y3y(o:Option Addr)(n r:Nat)(rs:List Rr)(X:Option (Int ⊕ (Int×Int)))(w:World)
  (G:Hid (∀W:World,zB w W->Calls prog 78 #[.agg #[.slice o n r]] W (SbP rs X W))):
  Calls prog 44 #[.agg #[.slice o n r]] w fun e w'=>∃v,e=.returned v/\Zd (soZ rs X) w.heap.size w' v/\zB w w':=by
 obtain⟨h,A⟩:∃h,h=w.alloc (.cells #[.slice o n r] 51):=⟨_,rfl⟩;have D:zB w h:=by rw[A];exact(Below.refl _ w).alloc L0q _
 have U:Hid (Calls prog 78 #[.agg #[.slice o n r]] h fun e w'=>∃a v,e=.returned (.tuple #[a,v])/\Zd (soZ rs X) h.heap.size w' v/\zB h w'):=(G.out h D).mono fun e w' he=>by
  obtain⟨V,⟨_,v,E,h2⟩|⟨h0,_,ub,vs,E,_⟩⟩:=he
  ·exact⟨_,v,E,h2,V⟩
  ·exact⟨_,_,E,by rw[h0];rfl,V⟩
 have y:=hid D;have Y:=hid A;clear A D G;go_enter func44,ntmps44
 go_wp2_with fail
 rw[<-Y.out];refine U.out.mono ?_;rintro e w2 ⟨a,v,rfl,Z,aa⟩;have HV:=hid (Z.lo y.out.size);have ab:=hid (y.out.trans (aa.mono y.out.size));clear Z aa U Y y
 go_wp2_with fail
 go_ret;exact⟨_,rfl,HV.out,ab.out⟩
theorem y3z(o:Option Addr)(n r:Nat)(rs:List Rr)(X:Option (Int ⊕ (Int×Int)))(B:Nat)(y:Addr)(w:World)(D:CkX rs X)(E:X=none->PrG rs)(G:CkC o n r rs X w)(U:RgZ rs)(h:Qg w B o n rs)(V:B<=w.heap.size)(Y:TabIs w)(Z:zC w (1) 0 (.iface 405 (.pointer (some y)))):∀W:World,zB w W->Calls prog 44 #[.agg #[.slice o n r]] W fun e w'=>∃v,e=.returned v/\Zd (soZ rs X) W.heap.size w' v/\zB W w':=fun W A=>
 y3y o n r rs X W (hid fun W' aa=>y3u o n r rs X B y w D E G U h V Y Z W' (A.trans (aa.mono A.size)))
theorem y3A{rs:List Rr}{X:Option (Int ⊕ (Int×Int))}(h:soZ rs X=none):Acy (bgU rs):=by
 have r:lfG rs=none:=by
  unfold soZ at h;cases X with
  |some x=>simp at h
  |none=>
   simp only at h;cases e:flX (kG rs) rs with
   |some x=>rw[e]at h;simp at h
   |none=>rw[e]at h;simpa using h
 intro i j o y;by_cases hi:i<rs.length
 ·exact y3o r i hi ⟨j,o,y⟩
 ·rw[List.getD_eq_getElem?_getD,List.getElem?_eq_none (by rw[Hd];omega)]at o
  simp at o
section
section
variable {B:ByteArray->Option RT} {T:ByteArray} {K:ByteArray->Ot}
def Dv(B:zA->Option RT)(T:zA)(j:Jb)(i:Nat):Prop:=∃e n,Mt B T j i e n
def Ltr(B:zA->Option RT)(T:zA)(i:Nat):Prop:=∀i',i<i'->i'<=T.size->∀N t',B N=some t'->Dv B T (.one t') i'
def Hds(B:zA->Option RT)(T:zA)(l:List ByteArray)(i:Nat):Prop:=∀N∈l,∀t',B N=some t'->Dv B T (.one t') i
def Gd(B:zA->Option RT)(T:zA)(K:zA->Ot)(t:RT):Prop:=∀i,i<=T.size->Ltr B T i->Hds B T (fbT K t) i->Dv B T (.one t) i
theorem Ltr.on{i x:Nat}(h:Ltr B T i)(hx:i<=x):Ltr B T x:=fun o y r=>h o (by omega) r
theorem Ltr.heads{i x:Nat}(h:Ltr B T i)(hx:i<x)(o:x<=T.size)(l:List ByteArray):Hds B T l x:=fun N _ r y=>h x hx o N r y
theorem Sl(y:∀N t,B N=some t->ofT K t=K N):∀(s:List RT),(∀t∈s,Gd B T K t)->∀i,i<=T.size->Ltr B T i->Hds B T (fbL K true s) i->Dv B T (.row s) i
 |[],_,i,_,_,_=>⟨_,_,.row_nil⟩
 |t::r,hg,i,hi,hl,hh=>by
  rw[fbL]at hh;obtain⟨e,n,o⟩:=hg t (by simp) i hi hl (fun N A=>hh N (List.mem_append_left _ A));cases e with
  |none=>exact⟨_,_,.row_no o⟩
  |some x=>
   obtain⟨G,E⟩:=Pg o hi x rfl;have U:okO (ofT K t) i (some x):=Mv y o;have V:Dv B T (.row r) x:=by
    rcases Nat.lt_or_ge i x with h|h
    ·exact Sl y r (fun u D=>hg u (by simp[D])) x E (hl.on G) (hl.heads h E _)
    ·obtain rfl:x=i:=by omega
     have Y:=U.2.1 rfl;refine Sl y r (fun u D=>hg u (by simp[D])) x hi hl (fun N A=>hh N (List.mem_append_right _ ?_));simp[Y,A]
   obtain⟨e2,n2,Z⟩:=V;exact⟨_,_,.row_ok o Z⟩
theorem z4p:∀(s:List RT),(∀t∈s,Gd B T K t)->∀i,i<=T.size->Ltr B T i->Hds B T (fbL K false s) i->Dv B T (.alt s) i
 |[],_,i,_,_,_=>⟨_,_,.alt_nil⟩
 |t::r,hg,i,hi,hl,hh=>by
  rw[fbL]at hh;obtain⟨e,n,o⟩:=hg t (by simp) i hi hl (fun N h=>hh N (List.mem_append_left _ h));cases e with
  |some x=>exact⟨_,_,.alt_ok o⟩
  |none=>
   obtain⟨D,E,y⟩:=z4p r (fun u A=>hg u (by simp[A])) i hi hl (fun N h=>hh N (List.mem_append_right _ (by simpa using h)));exact⟨_,_,.alt_no o y⟩
theorem Tz(r:∀N t,B N=some t->ofT K t=K N){t:RT}(y:Gd B T K t)(A:(ofT K t).1=false):∀(d i:Nat),T.size-i<=d->i<=T.size->Ltr B T i->Hds B T (fbT K t) i->Dv B T (.rep t) i
 |d,i,hd,hi,hl,hh=>by
  obtain⟨e,n,o⟩:=y i hi hl hh;cases e with
  |none=>exact⟨_,_,.rep_end o⟩
  |some x=>
   obtain⟨E,D⟩:=Pg o hi x rfl;have G:okO (ofT K t) i (some x):=Mv r o;have hx:i<x:=by
    rcases Nat.lt_or_ge i x with h|h
    ·exact h
    ·have:=G.2.1 (by omega)
     rw[A]at this;cases this
   match d,hd with
   |0,hd=>omega
   |d+1,hd=>
    obtain⟨V,Y,U⟩:=Tz r y A d x (by omega) D (hl.on E) (hl.heads hx D _);exact⟨_,_,.rep_go o U⟩
theorem Hm{s:List RT}(h:Qb s=1):∃t,s=[t]:=by
 match s,h with
 |[],h=>simp[Qb]at h
 |[t],_=>exact⟨t,rfl⟩
 |_::_::_,h=>simp[Qb]at h
theorem Tj{K:zA->Ot}:∀{s:List RT},flL K s=none->∀t∈s,flT K t=none
 |[],_,t,h=>by simp at h
 |a::r,hf,t,h=>by
  rw[flL]at hf;cases ha:flT K a with
  |some p=>rw[ha]at hf;cases hf
  |none=>
   rw[ha]at hf;rcases List.mem_cons.1 h with rfl|h
   ·exact ha
   ·exact Tj hf t h
theorem Tv:∀{s:List RT},okL s=true->∀t∈s,okT t=true
 |[],_,t,h=>by simp at h
 |a::r,ho,t,h=>by
  rw[okL,Bool.and_eq_true]at ho;rcases List.mem_cons.1 h with rfl|h
  ·exact ho.1
  ·exact Tv ho.2 t h
theorem y3B{t:RT}:∀{s:List RT},t∈s->SizeOf.sizeOf t<SizeOf.sizeOf s:=fun h=>List.sizeOf_lt_of_mem h
theorem Tw(E:∀N t,B N=some t->ofT K t=K N):∀(Q:Nat) (t:RT),SizeOf.sizeOf t<Q->okT t=true->flT K t=none->(∀y∈rfT t,∃D,B y.1=some D)->Gd B T K t
 |0,t,h=>by omega
 |Q+1,.mk k N a b c d s p,h=>by
  intro V A ad i G hl Y;rw[okT,Bool.and_eq_true]at V;rw[flT]at A;rw[fbT]at Y;have hs:∀t∈s,Gd B T K t:=by
   have ag:flL K s=none:=by
    by_cases e:(k=9∨k=10)/\(ofH K s).1=true
    ·rw[if_pos e]at A;cases A
    ·rw[if_neg e]at A;exact A
   intro t U;refine Tw E Q t ?_ (Tv V.2 t U) (Tj ag t U) (fun y hy=>ad y ?_)
   ·have:=y3B U
    simp at h;omega
   ·rw[rfT]
    by_cases h5:k=5
    ·exfalso
     subst h5;have:=V.1;unfold okN at this;simp at this;have h0:Qb s=0:=by omega
     cases s with
     |nil=>cases U
     |cons=>simp[Qb]at h0
    ·simp[h5,Aj U hy]
  have r:=V.1;unfold okN at r;by_cases h14:k=1∨k=4
  ·rcases h14 with rfl|rfl
   ·exact⟨_,_,.emp⟩
   ·exact⟨_,_,.any⟩
  rw[if_neg h14]at r;by_cases h2:k=2
  ·subst h2;exact⟨_,_,.lit⟩
  rw[if_neg h2]at r;by_cases h3:k=3
  ·subst h3;exact⟨_,_,.set⟩
  rw[if_neg h3]at r;by_cases h5:k=5
  ·subst h5
   obtain⟨D,ae⟩:=ad (N,p) (by rw[rfT];simp);obtain⟨e,n,o⟩:=Y N (by simp) D ae;exact⟨_,_,.ref ae o⟩
  rw[if_neg h5]at r Y;have Z:∀M∈fbL K (decide (k=6)) s,∀D,B M=some D->Dv B T (.one D) i:=fun M o=>Y M (by simpa using o)
  by_cases h6:k=6
  ·subst h6
   obtain⟨e,n,o⟩:=Sl E s hs i G hl Z;exact⟨_,_,.seq o⟩
  have ah:decide (k=6)=false:=by simp[h6]
  rw[ah]at Z;by_cases h7:k=7
  ·subst h7
   obtain⟨e,n,o⟩:=z4p s hs i G hl Z;exact⟨_,_,.cho o⟩
  rw[if_neg (by omega)]at r;by_cases h8:8<=k/\k<=12
  ·rw[if_pos h8]at r
   simp only[Bool.and_eq_true,beq_iff_eq]at r;obtain⟨t,rfl⟩:=Hm (s:=s) (by omega);have aa:=hs t (by simp);have af:Hds B T (fbT K t) i:=fun M o=>Z M (by rw[fbL];exact List.mem_append_left _ o)
   obtain⟨e,n,o⟩:=aa i G hl af;have ab:k=9∨k=10->(ofT K t).1=false:=fun hk=>by
    cases hz:(ofT K t).1 with
    |false=>rfl
    |true=>
     rw[if_pos ⟨hk,by rw[ofH];exact hz⟩]at A;cases A
   rcases(by omega:k=8∨k=9∨k=10∨k=11∨k=12)with rfl|rfl|rfl|rfl|rfl
   ·exact⟨_,_,.opt o⟩
   ·obtain⟨e2,n2,ac⟩:=Tz E aa (ab (.inl rfl)) _ i L0q G hl af
    exact⟨_,_,.star ac⟩
   ·cases e with
    |none=>exact⟨_,_,.plus_no o⟩
    |some x=>
     obtain⟨l1,l2⟩:=Pg o G x rfl;have ho:okO (ofT K t) i (some x):=Mv E o;have hx:i<x:=by
      rcases Nat.lt_or_ge i x with h|h
      ·exact h
      ·have:=ho.2.1 (by omega)
       rw[ab (.inr rfl)]at this;cases this
     obtain⟨e2,n2,ac⟩:=Tz E aa (ab (.inr rfl)) _ x L0q l2 (hl.on l1) (hl.heads hx l2 _);exact⟨_,_,.plus_ok o ac⟩
   ·exact⟨_,_,.and o⟩
   ·exact⟨_,_,.not o⟩
  ·rw[if_neg h8]at r
   cases r
end
end
theorem z4q(K:zA->Ot):∀rs:List Rr,lck K rs<=3*rs.length
 |[]=>Nat.le_refl _
 |x::r=>by
  have:=z4q K r;rw[lck,List.length_cons];omega
theorem Ty{rs:List Rr}(A:∀x∈rs,∀y∈rs,y.1=x.1->y=x){K0:zA->Ot}:∀(r l:List Rr) (K:zA->Ot) (b:Bool) (n:Nat),Rnd rs K0 K l b n->(∀x∈r,x∈rs)->∃D E G,Rnd rs K0 D (l++r) E G
 |[],l,K,b,n,h,_=>⟨K,b,n,by rw[List.append_nil];exact h⟩
 |x::r,l,K,b,n,h,hr=>by
  have hx:=hr x (by simp);have e:l++x::r=(l++[x])++r:=by simp
  rw[e];by_cases hs:ofT K x.2.1=K x.1
  ·exact Ty A r _ K b n (h.same hs) (fun y o=>hr y (by simp[o]))
  ·exact Ty A r _ _ true (n+1) (h.new hx (fun y o=>A x hx y o) hs) (fun y o=>hr y (by simp[o]))
theorem y3C{rs:List Rr}(y:ckR rs=none):∃m,Xq (itr rs m) rs:=by
 have A:∀(k m:Nat),Fm (itr rs m) rs->lck (itr rs m) rs<=k->∃D,Xq (itr rs D) rs:=by
  intro k
  induction k using Nat.strongRecOn with
  |_ k ih=>
   intro m E hl;obtain⟨G,b,n,h⟩:=Ty (z3t y) rs.reverse [] _ false 0 (Rnd.start E (by have:=z4q (itr rs m) rs;omega)) (fun x hx=>List.mem_reverse.1 hx);rw[List.nil_append]at h;cases b with
   |false=>exact⟨m,h.fix.2⟩
   |true=>
    have o:=h.yes rfl;have r:=h.inv;rw[h.last]at o r;exact ih (lck (itr rs (m+1)) rs) (Nat.lt_of_lt_of_le o hl) (m+1) r L0q
 exact A _ 0 (z3m rs) L0q
theorem Hc{K:zA->Ot}:∀{rs:List Rr},flG K rs=none->∀x∈rs,flT K x.2.1=none
 |[],_,x,hx=>by simp at hx
 |a::r,h,x,hx=>by
  rw[flG]at h;cases e:flT K a.2.1 with
  |some p=>rw[e]at h;cases h
  |none=>
   rw[e]at h;rcases List.mem_cons.1 hx with rfl|hx
   ·exact e
   ·exact Hc h x hx
theorem z4r{K:zA->Ot}:∀{rs:List Rr},(∀x∈rs,flT K x.2.1=none)->flG K rs=none
 |[],_=>by rw[flG]
 |a::r,h=>by
  rw[flG,h a (by simp)];exact z4r fun x hx=>h x (by simp[hx])
theorem y3D{rs:List Rr}{i:Nat}(h:i<rs.length):(bgU rs).getD i []=bgR rs (kG rs) rs[i]:=by
 unfold bgU;rw[List.getD_eq_getElem?_getD,List.getElem?_map,List.getElem?_eq_getElem h];rfl
def bdQ(rs:List Rr)(N:zA):Option RT:=(rs[ixN N (nmL rs)]?).map (·.2.1)
theorem z4s{s:zA}:∀(l:List ByteArray) (i:Nat),ixN s l=i->∀x,l[i]? =some x->x=s
 |[],i,_,x,h=>by simp at h
 |y::l,i,hi,x,h=>by
  unfold ixN at hi;by_cases e:y=s
  ·simp[e]at hi
   subst hi;simp at h;exact h.symm.trans e
  ·simp[e]at hi
   subst hi;rw[show(y::l)[ixN s l+1]? =l[ixN s l]? from rfl]at h;exact z4s l _ rfl x h
theorem Dx{rs:List Rr}{N:zA}{t:RT}(h:bdQ rs N=some t):∃x∈rs,x.1=N/\x.2.1=t:=by
 unfold bdQ at h;cases hx:rs[ixN N (nmL rs)]? with
 |none=>rw[hx]at h;cases h
 |some x=>
  rw[hx]at h;refine⟨x,List.mem_of_getElem? hx,?_,Option.some.inj h⟩;refine z4s (nmL rs) _ rfl _ ?_;rw[show(nmL rs)[ixN N (nmL rs)]? =(rs[ixN N (nmL rs)]?).map (·.1)from List.getElem?_map ..,hx];rfl
theorem Vj(rs:List Rr):(nmL rs).length=rs.length:=List.length_map _
theorem Hl{rs:List Rr}{N:zA}(h:inN N (nmL rs)=true):∃(o:ixN N (nmL rs)<rs.length),bdQ rs N=some (rs[ixN N (nmL rs)]'o).2.1:=by
 have o:=Gh N (nmL rs) h;rw[Vj]at o;refine⟨o,?_⟩;unfold bdQ;rw[List.getElem?_eq_getElem o];rfl
theorem Iz{rs:List Rr}(o:ckR rs=none):Xq (kG rs) rs:=by
 obtain⟨m,h⟩:=y3C o;rw[<-Sb h];exact h
theorem Tf{rs:List Rr}(h:soZ rs none=none):flG (kG rs) rs=none:=by
 unfold soZ at h;simp only at h;cases e:flX (kG rs) rs with
 |some x=>rw[e]at h;cases h
 |none=>
  unfold flX at e;cases e2:flG (kG rs) rs with
  |none=>rfl
  |some p=>rw[e2]at e;cases e
theorem Tg{rs:List Rr}(h:okG rs=true){x:Rr}(hx:x∈rs):okT x.2.1=true:=by
 unfold okG at h;simp only[Bool.and_eq_true,List.all_eq_true]at h;have:=h.2.2 x hx;unfold okR at this;simp only[Bool.and_eq_true]at this;exact this.2
theorem Iq{rs:List Rr}(h:ckR rs=none){x:Rr}(hx:x∈rs):∀y∈rfT x.2.1,inN y.1 (nmL rs)=true:=fun y o=>Aq (Hw h) y (Ky.2 ⟨x,hx,o⟩)
theorem y3E{rs:List Rr}(G:okG rs=true)(r:ckR rs=none)(Y:soZ rs none=none)(T:zA):∀(D R j i:Nat) (A:j<rs.length),T.size-i<=D->rkP (bgU rs) j<=R->i<=T.size->Dv (bdQ rs) T (.one rs[j].2.1) i:=by
 have ab:=Iz r;have ac:=Hc (Tf Y);have hB:∀N t,bdQ rs N=some t->ofT (kG rs) t=kG rs N:=fun N t h=>by
  obtain⟨x,hx,rfl,rfl⟩:=Dx h;exact ab x hx
 have ad:=y3A Y;have hg:∀i x,x∈(bgU rs).getD i []->∃m:Nat,m<(bgU rs).length/\x=(m:Int):=fun i x hx=>by
  rw[List.getD_eq_getElem?_getD]at hx;cases e:(bgU rs)[i]? with
  |none=>rw[e]at hx;simp at hx
  |some u=>
   rw[e]at hx;rw[Hd];exact z4k G r u (List.mem_of_getElem? e) x hx
 intro D
 induction D using Nat.strongRecOn with
 |_ D ihD=>
  intro R
  induction R using Nat.strongRecOn with
  |_ R ihR=>
   intro j i A hD hR Z;have o:rs[j]∈rs:=List.getElem_mem A;refine Tw hB _ _ (Nat.lt_succ_self _) (Tg G o) (ac _ o) (fun y U=> ?_) i Z ?_ ?_
   ·obtain⟨_,h⟩:=Hl (Iq r o y U)
    exact⟨_,h⟩
   ·intro i' h1 h2 N t' E
    obtain⟨x,hx,rfl,rfl⟩:=Dx E;obtain⟨q,V,rfl⟩:=List.getElem_of_mem hx;exact ihD (T.size-i') (by omega) _ q i' V L0q L0q h2
   ·intro N hN t' E
    obtain⟨y,U,rfl⟩:=Sk _ _ (Nat.lt_succ_self _) (Tg G o) N hN;have aa:=Iq r o y U;obtain⟨V,he⟩:=Hl aa;rw[he]at E;obtain rfl:=Option.some.inj E;have ae:((ixN y.1 (nmL rs):Nat):Int)∈(bgU rs).getD j []:=by
     rw[y3D A];refine Sv.2 ⟨y.1,hN,?_⟩;unfold fdI;rw[if_pos aa]
    have af:=y3x ad hg (i:=j) (by rw[Hd];exact A) ae;exact ihR (rkP (bgU rs) (ixN y.1 (nmL rs))) (by have:((ixN y.1 (nmL rs):Nat):Int).toNat=ixN y.1 (nmL rs):=(by omega);rw[this]at af;omega) _ i V hD L0q Z
abbrev Ox:=Int×ByteArray×(Int×Int×Int×Int)×List Int
def sbT:List Int->List UInt8
 |[]=>[]
 |i::r=>Lib.itoa i++32::sbT r
def qB(o:Ox):List UInt8:=keyBytes [.int .i64 o.1,.string o.2.1.data.toList,.int .u64 o.2.2.1.1,.int .u64 o.2.2.1.2.1,.int .u64 o.2.2.1.2.2.1,.int .u64 o.2.2.1.2.2.2,.string (sbT o.2.2.2)]
def qV(o:Ox):Value:=.agg #[zI o.1,zT o.2.1,zU o.2.2.1.1,zU o.2.2.1.2.1,zU o.2.2.1.2.2.1,zU o.2.2.1.2.2.2,zT ⟨(sbT o.2.2.2).toArray⟩]
def qW(o:Ox):Prop:=(Lit.int .i64 o.1).wf=true/\o.2.1.size<=maxLen/\(Lit.int .u64 o.2.2.1.1).wf=true/\(Lit.int .u64 o.2.2.1.2.1).wf=true/\(Lit.int .u64 o.2.2.1.2.2.1).wf=true/\(Lit.int .u64 o.2.2.1.2.2.2).wf=true/\(sbT o.2.2.2).length<=maxLen
theorem Tryz.deepKey:Tryz.prog.keyType 177=true:=by kernel_rfl
theorem Tryz.rowKey:(177:TypeId)<Tryz.prog.types.size:=of_decide_eq_true (by kernel_rfl)
theorem Tryz.wideKey:(match Tryz.prog.underlying 177 with|some (.array _ _)|some (.struct _)=>true|_=>false)=true:=by kernel_rfl
theorem y3F(hl:laidOutB prog=true):Keyed prog 177:=Keyed.of_law (deep_law_laid hl (m:=4) (by omega) Tryz.rowKey (by kernel_rfl) Tryz.wideKey)
theorem Tryz.keyN:∃n,Tryz.prog.types.size+1=n+1+1+1:=⟨_,rfl⟩
theorem Tryz.cells3:Tryz.prog.cellsOf 3=1:=by kernel_rfl
theorem Tryz.cells9:Tryz.prog.cellsOf 9=1:=by kernel_rfl
theorem Tryz.cellsCl:Tryz.prog.cellsOf 63=4:=by kernel_rfl
theorem Tryz.cellsU:Tryz.prog.cellsOf 61=1:=by kernel_rfl
theorem Tryz.cellsKey:Tryz.prog.cellsOf 177=7:=by kernel_rfl
theorem y3G(n:Nat)(x:Int)(h:(Lit.int .i64 x).wf=true):Tryz.prog.keyLits (n+1) 3 [.int .i64 x]=some [.int .i64 x]:=by
 unfold Program.keyLits;simp only[Tryz.underlying3];simp[h]
theorem z4t(n:Nat)(x:ByteArray)(h:x.size<=maxLen):Tryz.prog.keyLits (n+1) 9 [.string x]=some [.string x.data.toList]:=by
 unfold Program.keyLits;simp only[Tryz.underlying9];simp[h]
theorem Ix(n:Nat)(x:Int)(h:(Lit.int .u64 x).wf=true):Tryz.prog.keyLits (n+1) 61 [.int .u64 x]=some [.int .u64 x]:=by
 unfold Program.keyLits;simp only[Tryz.underlying61];simp[h]
theorem y3H(n:Nat)(a b c d:Int)(ha:(Lit.int .u64 a).wf=true)(h:(Lit.int .u64 b).wf=true)(o:(Lit.int .u64 c).wf=true)(r:(Lit.int .u64 d).wf=true):Tryz.prog.keyLits (n+1+1) 63 [.int .u64 a,.int .u64 b,.int .u64 c,.int .u64 d]=some [.int .u64 a,.int .u64 b,.int .u64 c,.int .u64 d]:=by
 unfold Program.keyLits;simp only[Tryz.underlying63];simp only[List.length_cons,List.length_nil,Tryz.cellsCl,Tryz.cellsU,Nat.zero_add,Nat.reduceAdd,if_true];rw[show List.range 4=[0,1,2,3]from rfl];simp[Ix n _ ha,Ix n _ h,Ix n _ o,Ix n _ r]
theorem z4u(o:Ox)(h:qW o):keyOf prog 177 (qV o)=some (.string (qB o)):=by
 obtain⟨r,y,A,D,E,G,U⟩:=h;obtain⟨n,V⟩:=Tryz.keyN;have Y:(qV o).formed prog 177=true:=by simp[Value.formed,qV,Tryz.underlying177,Tryz.cellsKey]
 have Z:Tryz.prog.keyLits (n+1+1+1) 177 (qV o).cells.toList=some [.int .i64 o.1,.string o.2.1.data.toList,.int .u64 o.2.2.1.1,.int .u64 o.2.2.1.2.1,.int .u64 o.2.2.1.2.2.1,.int .u64 o.2.2.1.2.2.2,.string (sbT o.2.2.2)]:=by
  unfold Program.keyLits;simp only[Tryz.underlying177];have e1:=y3G (n+1) _ r;have e2:=z4t (n+1) _ y;have e3:=y3H n _ _ _ _ A D E G;have e4:=z4t (n+1) ⟨(sbT o.2.2.2).toArray⟩ (by simpa [ByteArray.size]using U);simp only[qV,Value.cells,Tryz.cellsKey,List.length_cons,List.length_nil,Nat.zero_add,Nat.reduceAdd];simp[Tryz.cells3,Tryz.cells9,Tryz.cellsCl,e1,e2,e3,e4]
 unfold keyOf;rw[Tryz.deepKey,Y,V,Z,Tryz.underlying177];rfl
section
inductive Jo where
 |nd (k:Int)
 |wk (kd:Int) (M:ByteArray) (cl:Int×Int×Int×Int) (s:List Int)
 |row (s:List Int)
 |alt (s:List Int)
 |rep (k:Int)
section
variable (ops:List Ox) (ro:List Int) (T:ByteArray)
inductive Mo:Jo->Nat->Option Nat->Nat->Prop
 |nd {k kd M cl s i e n}:ops[k.toNat]? =some (kd,M,cl,s)->Mo (.wk kd M cl s) i e n->Mo (.nd k) i e (n+1)
 |emp {M cl s i}:Mo (.wk 1 M cl s) i (some i) 0
 |lit {M cl s i}:Mo (.wk 2 M cl s) i (Zm (Uk M T i) (i+M.size)) 0
 |set {M a b c d s i}:Mo (.wk 3 M (a,b,c,d) s) i (Zm (Xx (cl4 a b c d) T i) (i+1)) 0
 |any {M cl s i}:Mo (.wk 4 M cl s) i (Zm (Xx Vm T i) (i+1)) 0
 |ref {M cl r s q i e n}:ro[r.toNat]? =some q->Mo (.nd q) i e n->Mo (.wk 5 M cl (r::s)) i e n
 |seq {M cl s i e n}:Mo (.row s) i e n->Mo (.wk 6 M cl s) i e n
 |cho {M cl s i e n}:Mo (.alt s) i e n->Mo (.wk 7 M cl s) i e n
 |opt {M cl k s i e n}:Mo (.nd k) i e n->Mo (.wk 8 M cl (k::s)) i (some (e.getD i)) n
 |star {M cl k s i e n}:Mo (.rep k) i e n->Mo (.wk 9 M cl (k::s)) i e n
 |plus_no {M cl k s i n}:Mo (.nd k) i none n->Mo (.wk 10 M cl (k::s)) i none n
 |plus_ok {M cl k s i x e n m}:Mo (.nd k) i (some x) n->Mo (.rep k) x e m->Mo (.wk 10 M cl (k::s)) i e (n+m)
 |and {M cl k s i e n}:Mo (.nd k) i e n->Mo (.wk 11 M cl (k::s)) i (Zm e.isSome i) n
 |not {M cl k s i e n}:Mo (.nd k) i e n->Mo (.wk 12 M cl (k::s)) i (Zm e.isNone i) n
 |row_nil {i}:Mo (.row []) i (some i) 0
 |row_no {k r i n}:Mo (.nd k) i none n->Mo (.row (k::r)) i none n
 |row_ok {k r i x e n m}:Mo (.nd k) i (some x) n->Mo (.row r) x e m->Mo (.row (k::r)) i e (n+m)
 |alt_nil {i}:Mo (.alt []) i none 0
 |alt_ok {k r i x n}:Mo (.nd k) i (some x) n->Mo (.alt (k::r)) i (some x) n
 |alt_no {k r i e n m}:Mo (.nd k) i none n->Mo (.alt r) i e m->Mo (.alt (k::r)) i e (n+m)
 |rep_end {k i n}:Mo (.nd k) i none n->Mo (.rep k) i (some i) n
 |rep_go {k i x e n m}:Mo (.nd k) i (some x) n->Mo (.rep k) x e m->Mo (.rep k) i e (n+m)
end
variable {ops:List Ox} {ro:List Int} {T:ByteArray}
theorem Ij{j:Jo}{i:Nat}{e:Option Nat}{n:Nat}(h:Mo ops ro T j i e n):∀{o:Option Nat} {r:Nat},Mo ops ro T j i o r->e=o/\n=r:=by
 induction h with
 |nd y h2 ih=>
  intro o r k;cases k with
  |nd k1 k2=>
   rw[y]at k1;cases k1;obtain⟨rfl,rfl⟩:=ih k2;exact⟨rfl,rfl⟩
 |emp|lit|set|any=>intro o r k;cases k;exact⟨rfl,rfl⟩
 |row_nil|alt_nil=>intro o r k;cases k;exact⟨rfl,rfl⟩
 |ref y h2 ih=>
  intro o r k;cases k with
  |ref k1 k2=>
   rw[y]at k1;cases k1;exact ih k2
 |seq _ ih|cho _ ih|opt _ ih|star _ ih|and _ ih|not _ ih=>
  intro o r k;cases k;rename_i k;obtain⟨rfl,rfl⟩:=ih k;exact⟨rfl,rfl⟩
 |plus_no _ ih=>
  intro o r k;cases k with
  |plus_no k=>obtain⟨_,rfl⟩:=ih k;exact⟨rfl,rfl⟩
  |plus_ok k _=>cases(ih k).1
 |plus_ok _ _ ih1 ih2=>
  intro o r k;cases k with
  |plus_no k=>cases(ih1 k).1
  |plus_ok k1 k2=>
   obtain⟨y,rfl⟩:=ih1 k1;cases y;obtain⟨rfl,rfl⟩:=ih2 k2;exact⟨rfl,rfl⟩
 |row_no _ ih=>
  intro o r k;cases k with
  |row_no k=>obtain⟨_,rfl⟩:=ih k;exact⟨rfl,rfl⟩
  |row_ok k _=>cases(ih k).1
 |row_ok _ _ ih1 ih2=>
  intro o r k;cases k with
  |row_no k=>cases(ih1 k).1
  |row_ok k1 k2=>
   obtain⟨y,rfl⟩:=ih1 k1;cases y;obtain⟨rfl,rfl⟩:=ih2 k2;exact⟨rfl,rfl⟩
 |alt_ok _ ih=>
  intro o r k;cases k with
  |alt_ok k=>exact ih k
  |alt_no k _=>cases(ih k).1
 |alt_no _ _ ih1 ih2=>
  intro o r k;cases k with
  |alt_ok k=>cases(ih1 k).1
  |alt_no k1 k2=>
   obtain⟨_,rfl⟩:=ih1 k1;obtain⟨rfl,rfl⟩:=ih2 k2;exact⟨rfl,rfl⟩
 |rep_end _ ih=>
  intro o r k;cases k with
  |rep_end k=>obtain⟨_,rfl⟩:=ih k;exact⟨rfl,rfl⟩
  |rep_go k _=>cases(ih k).1
 |rep_go _ _ ih1 ih2=>
  intro o r k;cases k with
  |rep_end k=>cases(ih1 k).1
  |rep_go k1 k2=>
   obtain⟨y,rfl⟩:=ih1 k1;cases y;obtain⟨rfl,rfl⟩:=ih2 k2;exact⟨rfl,rfl⟩
theorem Tb{j:Jo}{i:Nat}{e:Option Nat}{n:Nat}(h:Mo ops ro T j i e n):i<=T.size->∀x,e=some x->i<=x/\x<=T.size:=by
 induction h with
 |nd _ _ ih=>exact ih
 |emp=>intro o x e;cases e;exact⟨Nat.le_refl _,o⟩
 | @lit M cl s i=>
   intro o x e;cases hb:Uk M T i with
   |false=>rw[hb]at e;cases e
   |true=>rw[hb]at e;cases e;exact⟨by omega,Mk o hb⟩
 | @set M a b c d s i=>
   intro o x e;cases hb:Xx (cl4 a b c d) T i with
   |false=>rw[hb]at e;cases e
   |true=>rw[hb]at e;cases e;have:=Fp hb;exact⟨by omega,by omega⟩
 | @any M cl s i=>
   intro o x e;cases hb:Xx Vm T i with
   |false=>rw[hb]at e;cases e
   |true=>rw[hb]at e;cases e;have:=Fp hb;exact⟨by omega,by omega⟩
 |ref _ _ ih|seq _ ih|cho _ ih|star _ ih=>exact ih
 | @opt M cl k s i e n _ ih=>
   intro o x hx;cases e with
   |none=>cases hx;exact⟨Nat.le_refl _,o⟩
   |some y=>cases hx;exact ih o y rfl
 |plus_no _ _=>intro _ x e;cases e
 |plus_ok _ _ ih1 ih2=>
  intro o x e;have r:=ih1 o _ rfl;have A:=ih2 r.2 x e;omega
 | @and M cl k s i e n _ ih=>
   intro o x hx;cases e with
   |none=>cases hx
   |some y=>cases hx;exact⟨Nat.le_refl _,o⟩
 | @not M cl k s i e n _ ih=>
   intro o x hx;cases e with
   |some y=>cases hx
   |none=>cases hx;exact⟨Nat.le_refl _,o⟩
 |row_nil=>intro o x e;cases e;exact⟨Nat.le_refl _,o⟩
 |row_no _ _=>intro _ x e;cases e
 |row_ok _ _ ih1 ih2=>
  intro o x e;have r:=ih1 o _ rfl;have A:=ih2 r.2 x e;omega
 |alt_nil=>intro _ x e;cases e
 |alt_ok _ ih=>exact ih
 |alt_no _ _ _ ih2=>exact ih2
 |rep_end _ _=>intro o x e;cases e;exact⟨Nat.le_refl _,o⟩
 |rep_go _ _ ih1 ih2=>
  intro o x e;have r:=ih1 o _ rfl;have A:=ih2 r.2 x e;omega
abbrev Wq:=Int×Nat×Nat×Nat
abbrev Nt:=Int->Nat->Option (Option Nat)
def Zk(N:Nt)(k:Int)(i:Nat)(e:Option Nat):Nt:=fun k' i'=>if k'=k/\i'=i then some e else N k' i'
inductive Mde where
 |beg (k:Int) (i:Nat)
 |ret (e:Option Nat)
section
variable (ops:List Ox) (ro:List Int) (T:ByteArray)
def prt(o:Ox)(p:Nat):Int:=if o.1=5 then ro.getD (o.2.2.2.getD p 0).toNat 0 else o.2.2.2.getD p 0
def aln(o:Ox)(i:Nat):Option Nat:=
 if o.1=2 then Zm (Uk o.2.1 T i) (i+o.2.1.size)else if o.1=3 then Zm (Xx (cl4 o.2.2.1.1 o.2.2.1.2.1 o.2.2.1.2.2.1 o.2.2.1.2.2.2) T i) (i+1)else if o.1=4 then Zm (Xx Vm T i) (i+1)else if o.1=1 then some i else none
def nxt(o:Ox)(w:Wq)(e:Option Nat):Option Wq:=
 if o.1=6 then(match e with
  |some x=>if w.2.2.1+1=o.2.2.2.length then none else some (w.1,w.2.1,w.2.2.1+1,x)
  |none=>none)
 else if o.1=7 then(match e with
  |some _=>none
  |none=>if w.2.2.1+1=o.2.2.2.length then none else some (w.1,w.2.1,w.2.2.1+1,w.2.1))
 else if o.1=9∨o.1=10 then e.map fun x=>(w.1,w.2.1,0,x)
 else none
def otc(o:Ox)(w:Wq)(e:Option Nat):Option Nat:=
 if o.1=8 then some (e.getD w.2.1)else if o.1=9 then some w.2.2.2 else if o.1=10 then(if w.2.1<w.2.2.2 then some w.2.2.2 else e)else if o.1=11 then Zm e.isSome w.2.1 else if o.1=12 then Zm e.isNone w.2.1 else e
inductive Mch (mo:Nat):Nt->Nat->List Wq->Mde->Option (Option Nat×Nat×Nt)->Nat->Prop
 |done {N c e}:Mch mo N c [] (.ret e) (some (e,c,N)) 0
 |bud {N S k i}:N k i=none->Mch mo N mo S (.beg k i) none 0
 |noted {N c S k i e r q}:N k i=some e->Mch mo N c S (.ret e) r q->Mch mo N c S (.beg k i) r (q+1)
 |leaf {N c S k i o r q}:N k i=none->c≠mo->ops[k.toNat]? =some o->o.2.2.2=[]->Mch mo (Zk N k i (aln T o i)) (c+1) S (.ret (aln T o i)) r q->Mch mo N c S (.beg k i) r (q+1)
 |push {N c S k i o r q}:N k i=none->c≠mo->ops[k.toNat]? =some o->o.2.2.2≠[]->Mch mo N (c+1) ((k,i,0,i)::S) (.beg (prt ro o 0) i) r q->Mch mo N c S (.beg k i) r (q+1)
 |next {N c S w w' o e r q}:ops[w.1.toNat]? =some o->nxt o w e=some w'->Mch mo N c (w'::S) (.beg (prt ro o w'.2.2.1) w'.2.2.2) r q->Mch mo N c (w::S) (.ret e) r (q+1)
 |pop {N c S w o e r q}:ops[w.1.toNat]? =some o->nxt o w e=none->Mch mo (Zk N w.1 w.2.1 (otc o w e)) c S (.ret (otc o w e)) r q->Mch mo N c (w::S) (.ret e) r (q+1)
end
end
section
section
variable {ops:List Ox} {ro:List Int} {T:ByteArray}
def Val(ops:List Ox)(ro:List Int)(T:zA)(N:Nt):Prop:=∀k i e,N k i=some e->∃n,Mo ops ro T (.nd k) i e n
def Xt(ops:List Ox)(ro:List Int)(T:zA)(N N':Nt)(n:Nat):Prop:=∀k i e,N' k i=some e->N k i=some e∨∃m,m<=n/\Mo ops ro T (.nd k) i e m
def plc:Nat->Nat->List (Int×Nat)
 |0,_=>[]
 |L+1,M=>plc L M++(List.range M).map fun i=>((L:Int),i)
def crd(L M:Nat)(N:Nt):Nat:=(plc L M).countP fun p=>(N p.1 p.2).isSome
theorem z4v{M:Nat}{p:Int×Nat}:∀{L:Nat},p∈plc L M->p.1<(L:Int)
 |0,h=>by simp[plc]at h
 |L+1,h=>by
  rw[plc,List.mem_append]at h;rcases h with h|h
  ·have:=z4v h;omega
  ·obtain⟨i,_,rfl⟩:=List.mem_map.1 h
   show(L:Int)<_;omega
theorem z4w(M:Nat):∀L:Nat,(plc L M).Nodup
 |0=>by rw[plc];exact List.Pairwise.nil
 |L+1=>by
  rw[plc,List.nodup_append];refine⟨z4w M L,?_,fun a ha b o=> ?_⟩
  ·unfold List.Nodup
   rw[List.pairwise_map];exact List.Pairwise.imp (fun h e=>h (by cases e;rfl)) (List.nodup_range (n:=M))
  ·have:=z4v ha
   obtain⟨i,_,rfl⟩:=List.mem_map.1 o;rintro rfl;exact Int.lt_irrefl _ this
theorem z4x{M:Nat}{k:Int}{i:Nat}(o:0<=k)(r:i<M):∀{L:Nat},k.toNat<L->(k,i)∈plc L M
 |0,h=>by omega
 |L+1,h=>by
  rw[plc,List.mem_append];by_cases e:k.toNat=L
  ·refine .inr (List.mem_map.2 ⟨i,List.mem_range.2 r,?_⟩)
   rw[<-e,Int.toNat_of_nonneg o]
  ·exact .inl (z4x o r (by omega))
theorem z4y(M:Nat):∀L:Nat,(plc L M).length=L*M
 |0=>by simp[plc]
 |L+1=>by rw[plc,List.length_append,z4y M L,List.length_map,List.length_range,Nat.succ_mul]
theorem z4z(N:Nt)(k:Int)(i:Nat)(e:Option Nat)(y:N k i=none):∀(l:List (Int×Nat)),l.Nodup->(k,i)∈l->l.countP (fun p=>((Zk N k i e) p.1 p.2).isSome)=l.countP (fun p=>(N p.1 p.2).isSome)+1
 |[],_,h=>by cases h
 |a::l,hd,h=>by
  rw[List.nodup_cons]at hd;rw[List.countP_cons,List.countP_cons];by_cases ha:a=(k,i)
  ·subst ha
   have hl:l.countP (fun p=>((Zk N k i e) p.1 p.2).isSome)=l.countP (fun p=>(N p.1 p.2).isSome):=by
    refine List.countP_congr fun p A=> ?_
    have o:¬(p.1=k/\p.2=i):=fun hx=>hd.1 (by
     obtain⟨p1,p2⟩:=p;obtain⟨rfl,rfl⟩:=hx;exact A)
    unfold Zk;rw[if_neg o]
   rw[hl];have r:((Zk N k i e) k i).isSome=true:=by unfold Zk;rw[if_pos ⟨rfl,rfl⟩];rfl
   have D:(N k i).isSome=false:=by rw[y];rfl
   simp[r,D]
  ·have E:(k,i)∈l:=by
    rcases List.mem_cons.1 h with h|h
    ·exact absurd h.symm ha
    ·exact h
   rw[z4z N k i e y l hd.2 E];have o:¬(a.1=k/\a.2=i):=fun hx=>ha (by obtain⟨a1,a2⟩:=a;obtain⟨rfl,rfl⟩:=hx;rfl)
   have r:(Zk N k i e) a.1 a.2=N a.1 a.2:=by unfold Zk;rw[if_neg o]
   rw[r];omega
theorem y3I{L M:Nat}{N:Nt}{k:Int}{i:Nat}(e:Option Nat)(h:N k i=none)(o:0<=k)(r:k.toNat<L)(y:i<M):crd L M (Zk N k i e)=crd L M N+1:=
 z4z N k i e h _ (z4w M L) (z4x o y r)
theorem y3J(L M:Nat)(N:Nt):crd L M N<=L*M:=by
 rw[<-z4y M L];exact List.countP_le_length
theorem Xt.refl{N:Nt}{n:Nat}:Xt ops ro T N N n:=fun k i e h=>.inl h
theorem Xt.trans{N r y:Nt}{n m:Nat}(h:Xt ops ro T N r n)(A:Xt ops ro T r y m):Xt ops ro T N y (n+m):=fun k i e D=>by
 rcases A k i e D with E|⟨q,G,o⟩
 ·rcases h k i e E with U|⟨q,G,o⟩
  ·exact .inl U
  ·exact .inr ⟨q,by omega,o⟩
 ·exact .inr ⟨q,by omega,o⟩
theorem Ik{l:List Int}{p:Nat}{k:Int}{r:List Int}(h:l.drop p=k::r):l.getD p 0=k/\l.drop (p+1)=r/\p<l.length/\(p+1=l.length↔r=[]):=by
 have o:p<l.length:=by
  rcases Nat.lt_or_ge p l.length with y|y
  ·exact y
  ·rw[List.drop_eq_nil_of_le y]at h;cases h
 rw[List.drop_eq_getElem_cons o]at h;injection h with h1 h2
 refine⟨?_,h2,o,?_⟩
 ·rw[List.getD_eq_getElem?_getD,List.getElem?_eq_getElem o];exact h1
 ·rw[<-h2]
  constructor
  ·intro e;exact List.drop_eq_nil_of_le (by omega)
  ·intro e
   have:=List.drop_eq_nil_iff.1 e;omega
structure Wfo (ops:List Ox) (ro:List Int) (T:zA):Prop where
 sub:∀o∈ops,∀x∈o.2.2.2,0<=x
 rt:∀x∈ro,0<=x
 go:∀(k:Int) (M:zA) (cl:Int×Int×Int×Int) (k':Int) (l:List Int),ops[k.toNat]? =some (10,M,cl,k'::l)->∀i x n,i<=T.size->Mo ops ro T (.nd k') i (some x) n->i<x
 few:∀o∈ops,(o.1=1∨o.1=2∨o.1=3∨o.1=4)->o.2.2.2=[]
 two:∀o∈ops,(o.1=6∨o.1=7)->o.2.2.2≠[]
end
end
end Go.Proofs.YtmelafeingcgnaaGreatDoor
