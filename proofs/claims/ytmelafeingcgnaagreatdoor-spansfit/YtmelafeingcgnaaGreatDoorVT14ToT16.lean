/- Lemmas for the last text. Conditions: those that each names. -/
import Derived.Test.YtmelafeingcgnaaGreatDoorVT13ToT15
import Derived.Test.YtmelafeingcgnaaGreatDoorVU3ToU8
import Derived.Test.YtmelafeingcgnaaGreatDoorVO5ToS4
import Derived.LaidEql
import Derived.Stop.Asserts
import Derived.RowKitTokens
import Derived.Test.YtmelafeingcgnaaGreatDoorVU15ToT11
set_option linter.unusedVariables false
set_option maxRecDepth 100000
set_option maxHeartbeats 8000000
namespace Go.Proofs.YtmelafeingcgnaaGreatDoor
open Go.Proofs.Tryz
open Go.RowKit Go.Shelf Go.Maps
variable {W W':World} {sB:Nat}
theorem z3U{r o y A D:Nat}{v0 v1 v2 v3 v4:Value}(h:zC W sB 0 v0/\zC W r 0 v1/\zC W o y v2/\zC W o A v3/\zC W o D v4)(E:zB W W'):zC W' sB 0 v0/\zC W' r 0 v1/\zC W' o y v2/\zC W' o A v3/\zC W' o D v4:=by
 obtain⟨G,U,V,Y,Z⟩:=h;have e:∀{a:Addr} {u:Value},W.cell? a=some u->W'.cell? a=some u:=fun{a u} h=>(E.cell (p:=a) (World.block_lt_of_cell? W _ h)).trans h
 exact⟨e G,e U,e V,e Y,e Z⟩
theorem y2H{r o A D E:Nat}{v0 v1 v2 v3 v4:Value}{row:Option Nat}(h:zC W sB 0 v0/\zC W r 0 v1/\zC W o A v2/\zC W o D v3/\zC W o E v4)(G:some sB≠row)(U:some r≠row)(y:some o≠row)(V:W.grownBy W' row):zC W' sB 0 v0/\zC W' r 0 v1/\zC W' o A v2/\zC W' o D v3/\zC W' o E v4:=by
 obtain⟨Y,Z,h2,h3,h4⟩:=h;have e:∀{a:Addr} {u:Value},some a.block≠row->W.cell? a=some u->W'.cell? a=some u:=fun{a u} aa h=>(V.cell_far a (World.block_lt_of_cell? W _ h) aa).trans h
 exact⟨e G Y,e U Z,e y h2,e y h3,e y h4⟩
theorem y2I(nm:zA)(y1 y2 y3:Bool)(w:World):Calls prog 145 #[zT nm,.agg #[.bool y1,.bool y2,.bool y3]] w (CnA (sI nm (y1,y2,y3)) w):=by
 cases y1<;>cases y2<;>cases y3
 ·exact y2v nm w
 ·exact y2t nm w
 ·exact y2y nm w
 ·exact y2u nm w
 ·exact y2s nm w
 ·exact y2x nm w
 ·exact y2w nm w
 ·exact y2z nm w
def BfP(rs:List Rr)(X:Option (Int ⊕ (Int×Int)))(W:World)(e:Ending)(w':World):Prop:=zB W w'/\
 ((X≠none/\∃v,e=.returned (.tuple #[.agg #[.slice none 0 0],v])/\Zd X W.heap.size w' v)∨
  (X=none/\∃so' cap' m,e=.returned (.tuple #[.agg #[.slice so' rs.length cap'],.nilIface])/\Xq (itr rs m) rs/\Qg w' w'.heap.size so' rs.length (bG rs (itr rs m))))
theorem y2J(G:Option Addr)(n U:Nat)(X:Option (Int ⊕ (Int×Int)))(w:World)
  (Z:Hid (∀W:World,zB w W->Calls prog 144 #[.agg #[.slice G n U]] W fun e w'=>∃o r,e=.returned (.tuple #[.slice none 0 0,.iface o r])/\Zd X W.heap.size w' (.iface o r)/\zB W w')):
  Calls prog 118 #[.agg #[.slice G n U]] w fun e w'=>∃v,e=.returned (.tuple #[.agg #[.slice none 0 0],v])/\Zd X w.heap.size w' v/\zB w w':=by
 obtain⟨h,y⟩:∃h,h=(w.alloc (.cells #[.slice G n U] 51)).alloc (.cells #[.slice none 0 0] 51):=⟨_,rfl⟩;have V:zB w h:=by rw[y];exact((Below.refl _ w).alloc L0q _).alloc (by simp) _
 have A:Hid (h.heap[w.heap.size+1]? =some (.cells #[.slice none 0 0] 51)):=by rw[y];exact Qx _ _ (by simp)
 have HS:=hid (Z.out h V);have D:=hid V;have ab:=Qq A.out;have aa:=hid y;clear y V Z;go_enter func118,ntmps118
 go_wp2_with fail
 rw[<-aa.out];refine HS.out.mono ?_;rintro e w2 ⟨o,r,rfl,hv,Y⟩;have E:=(Y.block _ (Qq A.out)).trans A.out;obtain⟨u0,f0⟩:=Qy E;have lr:=Qq E;have ac:=hid E;have HV:=hid hv;have ad:=hid (D.out.trans (Y.mono D.out.size));have ae:=hid D.out.size;clear hv Y E HS aa A D
 go_wp2_with fail
 have r0:=(Qy (Qk ac.out 0 (.slice none 0 0))).1;refine bodyPost_ret (v:=.tuple #[.agg #[.slice none 0 0],.iface o r]) (by simp[results,Tryz.results118,go_sem,r0]) rfl ?_;exact⟨_,rfl,(HV.out.kept (grownBy_setCell' _ _ _) ab).lo ae.out,ad.out.setCell (p:=⟨w.heap.size+1,0,none⟩) (by show w.heap.size<=_+1;omega) _⟩
theorem z3V(rs:List Rr)(K:zA->Ot):(bG rs K).length=rs.length:=List.length_map _
theorem y2K(rs:List Rr)(K:zA->Ot)(j:Nat)(h:j<rs.length){o:j<(bG rs K).length}:(bG rs K)[j]=(rs[j].1,sI rs[j].1 (K rs[j].1),0):=by simp[bG]
theorem PqR.put{o:World}{j:Nat}{r:List Rr}{xs:List Value}{a v u:Value}(h:PqR o j r xs a W)(y:zH W sB (.cells #[u] 51))(D:o.heap.size<=sB):PqR o j r xs a (W.setCell ⟨sB,0,none⟩ v):=by
 refine⟨h.be.setCell (p:=⟨sB,0,none⟩) D _,h.ow.kept (grownBy_setCell' _ _ _) (.inr (Gm h.ow y (fun E e=>by cases e))),Zv.kept (fun g E G A=>⟨Below.heap_setCell _ _ _ _ (fun e=> ?_),G⟩) _ _ h.rq⟩;have U:g=sB:=e;subst U;rw[zH,y]at A;cases A
theorem y2L(so:Option Addr)(n ai:Nat)(rs:List Rr)(w:World)(h:Qg w w.heap.size so n rs)(hn:n<=1048576)
  (HC:Hid (∀W:World,zB w W->Calls prog 144 #[.agg #[.slice so n ai]] W (RuP rs none W))):
  Calls prog 118 #[.agg #[.slice so n ai]] w (BfP rs none w):=by
 obtain⟨iT,a5,a6,a7,a8⟩:=info_parts Tryz.infoRl;obtain⟨W1,ac⟩:∃W1,W1=(w.alloc (.cells #[.slice so n ai] 51)).alloc (.cells #[.slice none 0 0] 51):=⟨_,rfl⟩;have au:zB w W1:=by rw[ac];exact((Below.refl _ w).alloc L0q _).alloc (by simp) _
 have av:Hid (W1.heap[w.heap.size+1]? =some (.cells #[.slice none 0 0] 51)):=by rw[ac];exact Qx _ _ (by simp)
 have aw:Hid (W1.heap[w.heap.size]? =some (.cells #[.slice so n ai] 51)):=by rw[ac];exact(Below.heap_alloc _ _ _ (by simp)).trans (Qx w _ rfl)
 have HS:=hid (HC.out W1 au);have ax:=hid au;have aH:=hid ac;have HG:=hid h;have ad:Hid (n=rs.length):=h.1;clear ac au HC h;go_enter func118,ntmps118
 go_wp2_with fail
 rw[<-aH.out];refine HS.out.mono ?_;rintro e V ⟨aj,a9⟩;rcases a9 with⟨hx,_⟩|⟨_,Z,m,cs,rfl,ba,aI,aJ,ay⟩
 ·exact absurd rfl hx
 rw[<-ad.out];obtain⟨U,az⟩:∃U,U=itr rs m:=⟨_,rfl⟩;have bb:=hid aI;have bc:Hid (U=itr rs m):=az;rw[<-az]at ay;have bd:=hid ay;have aA:=hid aJ;have aK:=hid (ax.out.trans (aj.mono ax.out.size));have ak:=hid ((aj.block _ (Qq av.out)).trans av.out);have aL:=hid ((aj.block _ (Qq aw.out)).trans aw.out);obtain⟨g2,_⟩:=Qy aL.out;have bf:=Qq aL.out;obtain⟨W3,al⟩:∃W3,W3=V.alloc (.cells #[.slice none 0 0] 51):=⟨_,rfl⟩;have aM:Hid (PqR V 0 (bG rs U) [] (.slice none 0 0) W3):=by
  rw[al];exact⟨B0q.alloc L0q _,World.ownsRow_nil _ _ _ _,by rw[List.take_zero,Zv];trivial⟩
 have aB:Hid (W3.heap[V.heap.size]? =some (.cells #[.slice none 0 0] 51)):=by rw[al];exact Qx _ _ rfl
 clear HS aH av aw ax aj aJ ay aI az ba
 go_wp2_with fail
 rw[<-al];clear al g2 bf;obtain⟨sB,aC⟩:∃sB,sB=V.heap.size:=⟨_,rfl⟩;rw[<-aC]at aB ⊢;have bg:Hid (sB=V.heap.size):=aC;clear aC
 go_loopw [21] (fun i wr=>∃(j:Nat) (xs:List Value) (v:Value),i=zI (j:Int)/\j<=n/\Hid (PqR V j (bG rs U) xs v wr)/\Hid (zH wr sB (.cells #[v] 51))) (fun i _=>n-(intOf i).toNat)
 case atStart=>exact⟨0,[],_,rfl,Nat.zero_le _,aM,aB⟩
 case round=>
  obtain⟨j,xs,v,rfl,hj,G,ab⟩:=hrel;clear aM aB;have aN:=hid (aK.out.trans (G.out.be.mono aK.out.size));obtain⟨D,E,rfl⟩:=Yd G.out.ow;by_cases hjn:j<n
  ·have bC:(j:Int)<(n:Int):=by omega
   have a0:decide ((j:Int)<(n:Int))=true:=by simp;omega
   have ae:j<rs.length:=by rw[<-ad.out];exact hjn
   have bh:j<(bG rs U).length:=by rw[z3V];exact ae
   obtain⟨g,o,rfl,hg,k1,T1,a1,b1,c1,d1,bi,n1,bj,p1,bk,r0⟩:=HG.out.2.2 j ae;have aO:∀q,wr.cell? ⟨g,q,none⟩=w.cell? ⟨g,q,none⟩:=fun q=>aN.out.cell (p:=⟨g,q,none⟩) hg
   simp only[<-aO]at r0;obtain⟨z0,z1,z2,z3,z4,z5,z6,z7,z8,z9⟩:=r0;have bD:g<wr.heap.size:=World.block_lt_of_cell? wr _ z0;obtain⟨N0,am⟩:∃N0,N0=rs[j].1:=⟨_,rfl⟩;obtain⟨q1,aP⟩:∃q1,q1=rs[j].2.2:=⟨_,rfl⟩;rw[<-am]at z0;rw[<-aP]at z9;obtain⟨⟨y1,y2,y3⟩,hy⟩:∃y,y=U N0:=⟨_,rfl⟩;have aQ:(N0,sI N0 (y1,y2,y3),(0:Int))=(bG rs U)[j]:=by
    rw[y2K rs U j ae,hy,am]
   have bl:=hid aQ;obtain⟨e0,e1,e2⟩:=bd.out.2 j ae ae;rw[<-am,<-hy]at e0 e1 e2;have af:=(G.out.be.block _ (Qq aA.out)).trans aA.out;have x0:=(Qj af _ _ e0).1;have x1:=(Qj af _ _ e1).1;have x2:=(Qj af _ _ e2).1;have lu:=Qq af;have bE:Z<V.heap.size:=Qq aA.out;obtain⟨t0,t1⟩:=Qy ab.out;have aR:=Qq ab.out;have bF:=G.out.be.size;have aS:=hid (y2I N0 y1 y2 y3);clear bk aO am aP hy aQ e0 e1 e2 af
   go_wp2_with fail
   obtain⟨W4,ag⟩:∃W4,W4=wr.alloc (.cells #[zT N0,zI k1,zT T1,zU a1,zU b1,zU c1,zU d1,.slice bi n1 bj,zI p1,zI q1] 121):=⟨_,rfl⟩;have ao:Hid (zB wr W4.drew):=by rw[ag];exact((Below.refl _ wr).alloc L0q _).drew
   have aT:W4.drew.heap.size=wr.heap.size+1:=by rw[ag];exact World.size_alloc _ _
   obtain⟨rB,ap⟩:∃rB,rB=wr.heap.size:=⟨_,rfl⟩;have aU:Hid (zC W4.drew sB 0 (.slice D j E)/\zC W4.drew rB 0 (zT N0)/\zC W4.drew Z (j*3) (.bool y1)/\zC W4.drew Z (j*3+1) (.bool y2)/\zC W4.drew Z (j*3+2) (.bool y3)):=by
    have e:∀{a:Addr} {u:Value},wr.cell? a=some u->W4.drew.cell? a=some u:=fun{a u} h=>(ao.out.cell (p:=a) (World.block_lt_of_cell? wr _ h)).trans h
    refine⟨e t0,?_,e x0,e x1,e x2⟩;rw[ag,ap];exact(Qj (Qx wr _ rfl) 0 _ rfl).1
   rw[<-ag,<-ap];have aD:Hid (∀r,Hid (Below W4.drew.heap.size W4.drew r)->V.heap.size<=r.heap.size/\sB<r.heap.size):=fun r h=>by
    have:=h.out.size;constructor<;>omega
   have bm:Hid (∀r,Hid (Below W4.drew.heap.size W4.drew r)->zH r sB (.cells #[.slice D j E] 51)):=fun r h=>(h.out.block _ (by omega)).trans ((ao.out.block _ aR).trans ab.out)
   have bn:Hid (∀r,Hid (Below W4.drew.heap.size W4.drew r)->r.ownsRow V.heap.size 121 10 (.slice D j E) j xs):=fun r h=>Xf (Xf G.out.ow ao.out) h.out
   have aV:Hid (some sB≠(Value.slice D j E).ownBlock):=fun e=>Gm G.out.ow ab.out (fun aW e=>by cases e) e.symm
   have bo:Hid (some rB≠(Value.slice D j E).ownBlock):=fun e=>by have:=(G.out.ow.lt _ e.symm).2;omega
   have bp:Hid (some Z≠(Value.slice D j E).ownBlock):=fun e=>by have:=(G.out.ow.lt _ e.symm).1;omega
   have bH:Hid (rB=wr.heap.size):=ap;have m1:j+1<=maxLen:=by unfold maxLen;omega
   have m2:(j+1)*112<=140737488355328:=by omega
   clear ag ap z0 z1 z2 z3 z4 z5 z6 z7 z8 z9 t0 t1 x0 x1 x2;refine Qc 15 (fun W:World=>zC W sB 0 (.slice D j E)/\zC W rB 0 (zT N0)/\zC W Z (j*3) (.bool y1)/\zC W Z (j*3+1) (.bool y2)/\zC W Z (j*3+2) (.bool y3)) (by kernel_rfl) aU.out (fun A=> ?_);refine Qz 0 A ?_;refine Qz 1 A ?_;refine Qz 2 A ?_;refine Qz 3 A ?_;refine Qz 4 A ?_;refine Qz 5 A ?_;refine Qz 6 A ?_;refine Qz 7 A ?_;refine Qz 8 A ?_;refine Qz 9 A ?_
   (refine Qv 10 (fun K Y=> ?_);go_simp;refine(aS.out _).mono ?_;rintro e r ⟨k3,T3,a3,b3,c3,d3,aE,n3,aF,p3,rfl,aX,aa⟩;go_simp;replace A:=z3U A aa.out;refine Y.out _ _ A ?_;clear Y K)
   (try simp only[Act.put,zY])
   refine Qz 11 A ?_
   (refine Qv 12 (fun K Y=> ?_);go_simp;replace A:=z3U A ((Below.refl _ r).alloc L0q (.cells #[zT N0,zI k3,zT T3,zU a3,zU b3,zU c3,zU d3,.slice aE n3 aF,zI p3,zI 0] 121));refine Y.out _ _ A ?_;clear Y K)
   (try simp only[Act.put,zY])
   (refine Qv 13 (fun K Y=> ?_);refine step_append_lies _ rfl (.tmp 27) (.tmp 38) 49 rfl V.heap.size 121 iT (.agg #[zT {data:=#[]},zI 0,zT {data:=#[]},zU 0,zU 0,zU 0,zU 0,.slice none 0 0,zI 0,zI 0]) 10 112 Tryz.underlying49 a5 a6 a7 a8 rfl (by decide) (.slice D j E) j xs (by rfl) ((bn.out r aa).alloc _) ⟨r.heap.size,0,none⟩ 1 1 [zT N0,zI k3,zT T3,zU a3,zU b3,zU c3,zU d3,.slice aE n3 aF,zI p3,zI 0] (by rfl) rfl (Ow r _ _ _ _ _ _ _ _ _ _ _) (z2Z _ _ _ _ _ _ _ _ _ _ _ _) (by decide) m1 m2 (by rw[World.size_alloc];have:=aD.out r aa;omega) _ rfl ?_;intro g6 aY w6 aZ aq bq br;have ah:=((aq.block sB (by rw[World.size_alloc];have:=aD.out r aa;omega) aV.out).trans (Below.heap_alloc _ _ _ (aD.out r aa).2)).trans (bm.out r aa);replace A:=y2H A aV.out bo.out bp.out aq;refine Y.out _ _ A ?_;clear Y K)
   (try simp only[Act.put,zY])
   refine Qz 14 A ?_;refine Yj (fun K Y=> ?_);obtain⟨s0,s1⟩:=Qy ah;have ls:=Qq ah;clear A
   go_simp
   refine Y.out _ _ ?_;clear Y K;have a2:=PqR.step G.out bh bl.out (ao.out.trans (aa.out.mono (by rw[aT];omega))) ⟨r8 k3 T3 a3 b3 c3 d3 aE n3 aF p3,rfl,Zw.kept (fun g aW hp _=>⟨rfl,Nat.le_trans (by rw[aT];omega) hp⟩) _ _ aX.out⟩ ((Below.refl _ r).alloc L0q _) aZ aq;have bs:=hid (a2.put (v:=zS g6 (j+1) aY) ah (by rw[bg.out];exact Nat.le_refl _));have bt:=hid (Qk ah 0 (zS g6 (j+1) aY));clear a2 aZ aq bq br ah aX aa s0 s1 aS aU
   go_wp2_with fail
   exact⟨⟨j+1,_,_,by go_num,by omega,bs,bt⟩,by simp[intOf];omega⟩
  ·have a0:decide ((j:Int)<(n:Int))=false:=by simp;omega
   obtain rfl:j=n:=by omega
   have aG:(bG rs U).length=j:=by rw[z3V];exact ad.out.symm
   have hq:=G.out.rq;rw[List.take_of_length_le (by rw[aG];exact Nat.le_refl _)]at hq;have ar:=(G.out.be.block _ (Qq ak.out)).trans ak.out;obtain⟨u0,f0⟩:=Qy ar;have lr:=Qq ar;have bu:=hid ar;obtain⟨t0,t1⟩:=Qy ab.out;have aR:=Qq ab.out;have a4:wr.grownBy (wr.setCell ⟨w.heap.size+1,0,none⟩ (.slice D j E)) (some (w.heap.size+1)):=grownBy_setCell' _ _ _;have bv:Hid (Qg (wr.setCell ⟨w.heap.size+1,0,none⟩ (.slice D j E)) (wr.setCell ⟨w.heap.size+1,0,none⟩ (.slice D j E)).heap.size D j (bG rs U)):=by
    have bw:=G.out.ow.kept a4 (.inr (fun e=>by have:=(G.out.ow.lt _ e).1;have:=Qq ak.out;omega));have bx:Zv (wr.setCell ⟨w.heap.size+1,0,none⟩ (.slice D j E)) (fun g=>V.heap.size<=g) (bG rs U) xs:=Zv.kept (fun g aW hp _=>⟨Below.heap_setCell _ _ _ _ (fun e=>by have e2:g=w.heap.size+1:=e;have:=Qq ak.out;omega),hp⟩) _ _ hq;obtain⟨bI,bJ,ea,bz⟩:=Zv.is bw aG.symm bx;simp only[Value.slice.injEq]at ea;obtain⟨rfl,-,rfl⟩:=ea;exact bz
   have bA:Hid (zB w (wr.setCell ⟨w.heap.size+1,0,none⟩ (.slice D j E))):=aN.out.setCell (p:=⟨w.heap.size+1,0,none⟩) (by show w.heap.size<=_+1;omega) _;clear hq a4 ar aG
   go_wp2_with fail
   have r0:=(Qy (Qk bu.out 0 (.slice D j E))).1;refine bodyPost_ret (v:=.tuple #[.agg #[.slice D j E],.nilIface]) (by simp[results,Tryz.results118,go_sem,r0]) rfl ?_;refine⟨bA.out,.inr ⟨rfl,D,E,m,by rw[<-ad.out],bb.out,?_⟩⟩;rw[<-ad.out,<-bc.out];exact bv.out
theorem y2M(o:Option Addr)(n r:Nat)(rs:List Rr)(X:Option (Int ⊕ (Int×Int)))(B:Nat)(w:World)(V:CkX rs X)(Z:CkC o n r rs X w)(hz:RgZ rs)(h:Qg w B o n rs)(E:B<=w.heap.size):∀W:World,zB w W->Calls prog 118 #[.agg #[.slice o n r]] W (BfP rs X W):=fun W A=>by
 have aa:∀{W'},zB W W'->zB w W':=fun y=>A.trans (y.mono A.size)
 have Y:=fun(W':World) (y:zB W W')=>y2c o n r rs X B w V Z hz h E W' (aa y)
 cases X with
 |some x=>
  refine(y2J o n r (some x) W (hid fun W' y=>(Y W' y).mono fun e w' G=> ?_)).mono fun e w' G=> ?_
  ·obtain⟨hb,⟨_,v,U,D⟩|⟨h0,_⟩⟩:=G
   ·obtain⟨tt,uu,rfl⟩:=D.shape (by simp)
    exact⟨tt,uu,U,D,hb⟩
   ·cases h0
  ·obtain⟨v,U,D,h3⟩:=G
   exact⟨h3,.inl ⟨by simp,v,U,D⟩⟩
 |none=>
  have ab:=(Gz V.1).2;exact y2L o n r rs W ((h.below (A.mono E)).upto (Nat.le_trans E A.size)) (by have:=h.1;omega) (hid Y)
open Go.Extern.Stop Go.Stop Go.Extern
theorem Tryz.isTypeOf(v:Value)(w:World):(Extern.ReflectliteType.typeOf #[.iface 405 v]).run prog w=.ok (.iface 203 (.agg #[zP (6) (405)])) w:=by kernel_rfl
theorem Tryz.isComparable(w:World):((Extern.ReflectliteType.method fun t=>do Go.Extern.Rtype.noPackHeld "Comparable" t;pure (Value.bool (<-typeInfo t).comparable)) #[.agg #[zP (6) (405)]]).run prog w=.ok (.bool true) w:=by kernel_rfl
theorem Tryz.callComparable(w:World):(callFunc 349 #[.agg #[zP (6) (405)]]).run prog w=.ok (.value (.bool true)) w:=by
 rw[@run_callFunc_extern prog 349 _ (Extern.ReflectliteType.method fun t=>do Go.Extern.Rtype.noPackHeld "Comparable" t;pure (Value.bool (<-typeInfo t).comparable)) func349 (by kernel_rfl) (by kernel_rfl) (by kernel_rfl) (by kernel_rfl),Tryz.isComparable];rfl
theorem Tryz.isMethodComparable(v:Value)(w:World):(Go.method 535 203 v "Comparable").run prog w=.ok (349,v) w:=by kernel_rfl
theorem Tryz.isComp:(Tryz.prog.info? 405).map (·.comparable)=some true:=by kernel_rfl
theorem Tryz.isSize:(Tryz.prog.info? 423).map (·.size)=some 1:=by kernel_rfl
theorem y2N(a:Addr)(w:World):
  Calls prog 149 #[.iface 405 (.pointer (some a)),.iface 405 (.pointer (some a))] w fun e w'=>e=.returned (.bool true)/\w'=w:=by
 obtain⟨i,h,o⟩:=Option.map_eq_some_iff.1 Tryz.isComp;obtain⟨j,r,y⟩:=Option.map_eq_some_iff.1 Tryz.isSize;have A:= @run_callFunc_extern prog 98 _ Extern.ReflectliteType.typeOf func98 (by kernel_rfl) (by kernel_rfl) (by kernel_rfl) (by kernel_rfl);have D:=Tryz.callComparable;have E:=Tryz.isTypeOf;have G:=Tryz.isMethodComparable;have U:=run_eql_iface_ptr_same (P:=prog) w a Tryz.underlying31 Tryz.underlying405 h o r;go_enter func149,ntmps149
 go_wp2
 refine wp_loop_rounds 1 ?_;rw[rounds_succ]
 go_wp2
 go_ret;exact⟨rfl,rfl⟩
theorem y2O(b:Addr)(w:World):
  Calls prog 149 #[.nilIface,.iface 405 (.pointer (some b))] w fun e w'=>e=.returned (.bool false)/\w'=w:=by
 have h:=run_eql_iface_nil_left (P:=prog) w 405 (.pointer (some b)) Tryz.underlying31;go_enter func149,ntmps149
 go_wp2
 go_ret;exact⟨rfl,rfl⟩
theorem Hh{r g o:Nat}{v x0 x1 x2 x3 y A D E y0 y1 y2 y3 G U V Y:Value}(h:zC W sB 0 v/\(zC W r 0 x0/\zC W r 1 x1/\zC W r 2 x2/\zC W r 3 x3/\zC W r 4 y/\zC W r 5 A/\zC W r 6 D/\zC W r 7 E)/\zC W g o y0/\zC W g (o+1) y1/\zC W g (o+2) y2/\zC W g (o+3) y3/\zC W g (o+4) G/\zC W g (o+5) U/\zC W g (o+6) V/\zC W g (o+7) Y)(Z:zB W W'):zC W' sB 0 v/\(zC W' r 0 x0/\zC W' r 1 x1/\zC W' r 2 x2/\zC W' r 3 x3/\zC W' r 4 y/\zC W' r 5 A/\zC W' r 6 D/\zC W' r 7 E)/\zC W' g o y0/\zC W' g (o+1) y1/\zC W' g (o+2) y2/\zC W' g (o+3) y3/\zC W' g (o+4) G/\zC W' g (o+5) U/\zC W' g (o+6) V/\zC W' g (o+7) Y:=by
 obtain⟨h0,h1,h2,h3,h4,h5,h6,h7,h8,h9⟩:=h;have e:∀{a:Addr} {u:Value},W.cell? a=some u->W'.cell? a=some u:=fun{a u} h=>(Z.cell (p:=a) (World.block_lt_of_cell? W _ h)).trans h
 exact⟨e h0,Kv h1 Z,e h2,e h3,e h4,e h5,e h6,e h7,e h8,e h9⟩
theorem z3W(a b c:Bool)(w:World):(Instr.field 264 (.agg #[.bool a,.bool b,.bool c]) 0).run prog w=.ok (.bool a) w:=by kernel_rfl
def LkQ(fp:Addr)(aB:Nat)(r:Option Int)(at':Int)(W:World)(e:Ending)(w':World):Prop:=W.grownBy w' (some aB)/\
 ((r=none/\e=.returned .nilIface/\w'.heap[aB]? =some (.cells #[zI at'] 3))∨∃q,r=some q/\e=.returned (.iface 405 (.pointer (some fp)))/\w'.heap[aB]? =some (.cells #[zI q] 3))
theorem y2P(k:Int)(T:zA)(a b c d p:Int)(A:Option Addr)(n D sB aB:Nat)(W:World)(h1:k≠9)(h2:k≠10):
  Calls prog 146 #[.agg #[zI k,zT T,zU a,zU b,zU c,zU d,.slice A n D,zI p],zP sB 0,zP aB 0] W fun e w'=>e=.returned .nilIface/\zB W w':=by
 obtain⟨y,E⟩:∃y,y=W.alloc (.cells #[zI k,zT T,zU a,zU b,zU c,zU d,.slice A n D,zI p] 119):=⟨_,rfl⟩;have Y:Hid (zB W y.drew):=by rw[E];exact((Below.refl _ W).alloc L0q _).drew
 have G:y.drew.heap[W.heap.size]? =some (.cells #[zI k,zT T,zU a,zU b,zU c,zU d,.slice A n D,zI p] 119):=by rw[E];exact Qx W _ rfl
 obtain⟨o,U⟩:∃o,o=W.heap.size:=⟨_,rfl⟩;rw[<-U]at G;have aa:Hid (zC y.drew o 0 (zI k)/\zC y.drew o 1 (zT T)/\zC y.drew o 2 (zU a)/\zC y.drew o 3 (zU b)/\zC y.drew o 4 (zU c)/\zC y.drew o 5 (zU d)/\zC y.drew o 6 (.slice A n D)/\zC y.drew o 7 (zI p)):=hid (Qf G).1;clear G;go_enter func146,ntmps146
 go_wp2_with fail
 rw[<-E,<-U];clear E U;refine Qc 99 (fun W:World=>zC W o 0 (zI k)/\zC W o 1 (zT T)/\zC W o 2 (zU a)/\zC W o 3 (zU b)/\zC W o 4 (zU c)/\zC W o 5 (zU d)/\zC W o 6 (.slice A n D)/\zC W o 7 (zI p)) (by kernel_rfl) aa.out (fun r=> ?_);refine Qz 0 r ?_
 (refine Qv 1 (fun K V=> ?_);go_simp;refine(y2q k T a b c d p A n D _ h1 h2).mono ?_;rintro e w2 ⟨rfl,Z⟩;go_simp;replace r:=Kv r Z;refine V.out _ _ r ?_;clear V K)
 (try simp only[Act.put,zY])
 refine Qz 2 r ?_;refine Qz 3 r ?_;refine Qz 4 r ?_;refine Qz 5 r ?_;refine Qz 6 r ?_;refine Qz 7 r ?_;refine Qz 8 r ?_
 first
  |(refine Kw (i:=9) (oi:=({dst:=some 14,op:=Op.call {callee:=Callee.value (Operand.func 148),args:=#[Operand.tmp 9,Operand.tmp 13],argTypes:=#[51,119]},type:=264,pos:="sound.go:62",after:=#[{on:=4,ground:=Ground.data},{on:=8,ground:=Ground.data},{on:=3,ground:=Ground.chain},{on:=3,ground:=Ground.guard}],guard:=some (3,false)}:Oper)) (v:=undef) rfl (by kernel_rfl) (by kernel_rfl) (by kernel_rfl) (fun _ _ _ h=>h) (Or.inr ⟨by rfl,rfl⟩) r ?_)
  |(refine Qv 9 (fun K V=> ?_);fail)
 (try simp only[Act.put,zY])
 refine Qz 10 r ?_;refine Qz 11 r ?_;refine Qz 12 r ?_;refine⟨by kernel_rfl,?_⟩
 go_wp2_with fail
 go_ret;exact⟨rfl,Y.out.trans (Z.mono Y.out.size)⟩
theorem y2Q(k:Int)(T:zA)(a b c d p:Int)(g o E sB aB:Nat)(W:World)(hk:k=9∨k=10)(U:Int)(V:zA)(a1 Y c1 Z p1:Int)(aa:Option Addr)(n1 ab:Nat)(ac:Option Addr)(n0 ad:Nat)(q2 q3:Bool)
  (hs:zC W sB 0 (.slice ac n0 ad))(hc:Rc W g o U V a1 Y c1 Z (.slice aa n1 ab) p1)
  (HO:Hid (∀W':World,zB W W'->Calls prog 148 #[.agg #[.slice ac n0 ad],.agg #[zI U,zT V,zU a1,zU Y,zU c1,zU Z,.slice aa n1 ab,zI p1]] W' fun e w'=>e=.returned (.agg #[.bool false,.bool q2,.bool q3])/\zB W' w')):
  Calls prog 146 #[.agg #[zI k,zT T,zU a,zU b,zU c,zU d,.slice (some ⟨g,o,none⟩) 1 E,zI p],zP sB 0,zP aB 0] W fun e w'=>e=.returned .nilIface/\zB W w':=by
 obtain⟨r,ae⟩:∃r,r=W.alloc (.cells #[zI k,zT T,zU a,zU b,zU c,zU d,.slice (some ⟨g,o,none⟩) 1 E,zI p] 119):=⟨_,rfl⟩;have D:Hid (zB W r.drew):=by rw[ae];exact((Below.refl _ W).alloc L0q _).drew
 have af:r.drew.heap[W.heap.size]? =some (.cells #[zI k,zT T,zU a,zU b,zU c,zU d,.slice (some ⟨g,o,none⟩) 1 E,zI p] 119):=by rw[ae];exact Qx W _ rfl
 obtain⟨y,ah⟩:∃y,y=W.heap.size:=⟨_,rfl⟩;rw[<-ah]at af;have ao:=hid af;have aj:Hid (zC r.drew sB 0 (.slice ac n0 ad)/\(zC r.drew y 0 (zI k)/\zC r.drew y 1 (zT T)/\zC r.drew y 2 (zU a)/\zC r.drew y 3 (zU b)/\zC r.drew y 4 (zU c)/\zC r.drew y 5 (zU d)/\zC r.drew y 6 (.slice (some ⟨g,o,none⟩) 1 E)/\zC r.drew y 7 (zI p))/\zC r.drew g o (zI U)/\zC r.drew g (o+1) (zT V)/\zC r.drew g (o+2) (zU a1)/\zC r.drew g (o+3) (zU Y)/\zC r.drew g (o+4) (zU c1)/\zC r.drew g (o+5) (zU Z)/\zC r.drew g (o+6) (.slice aa n1 ab)/\zC r.drew g (o+7) (zI p1)):=by
  have e:∀{a:Addr} {u:Value},W.cell? a=some u->r.drew.cell? a=some u:=fun{a u} h=>(D.out.cell (p:=a) (World.block_lt_of_cell? W _ h)).trans h
  obtain⟨c0,ak,c2,c3,c4,c5,c6,c7⟩:=hc;exact⟨e hs,(Qf af).1,e c0,e ak,e c2,e c3,e c4,e c5,e c6,e c7⟩
 have ap:=hid hs;have al:g<r.drew.heap.size:=Nat.lt_of_lt_of_le (World.block_lt_of_cell? W _ hc.1) D.out.size;have aq:=z3W;clear af hs hc al;go_enter func146,ntmps146
 go_wp2_with fail
 rw[<-ae,<-ah];clear ae ah;refine Qc 99 (fun W:World=>zC W sB 0 (.slice ac n0 ad)/\(zC W y 0 (zI k)/\zC W y 1 (zT T)/\zC W y 2 (zU a)/\zC W y 3 (zU b)/\zC W y 4 (zU c)/\zC W y 5 (zU d)/\zC W y 6 (.slice (some ⟨g,o,none⟩) 1 E)/\zC W y 7 (zI p))/\zC W g o (zI U)/\zC W g (o+1) (zT V)/\zC W g (o+2) (zU a1)/\zC W g (o+3) (zU Y)/\zC W g (o+4) (zU c1)/\zC W g (o+5) (zU Z)/\zC W g (o+6) (.slice aa n1 ab)/\zC W g (o+7) (zI p1)) (by kernel_rfl) aj.out (fun A=> ?_);refine Qz 0 A ?_
 (refine Qv 1 (fun K G=> ?_);go_simp;refine(z3K k T a b c d p (some ⟨g,o,none⟩) 1 E _ hk).mono ?_;rintro e w2 ⟨rfl,ag⟩;go_simp;replace A:=Hh A ag;refine G.out _ _ A ?_;clear G K)
 (try simp only[Act.put,zY])
 refine Qz 2 A ?_;refine Qz 3 A ?_;refine Qz 4 A ?_;refine Qz 5 A ?_;refine Qz 6 A ?_;refine Qz 7 A ?_;refine Qz 8 A ?_
 first
  |(refine Kw (i:=9) (oi:=({dst:=some 14,op:=Op.call {callee:=Callee.value (Operand.func 148),args:=#[Operand.tmp 9,Operand.tmp 13],argTypes:=#[51,119]},type:=264,pos:="sound.go:62",after:=#[{on:=4,ground:=Ground.data},{on:=8,ground:=Ground.data},{on:=3,ground:=Ground.chain},{on:=3,ground:=Ground.guard}],guard:=some (3,false)}:Oper)) (v:=undef) rfl (by kernel_rfl) (by kernel_rfl) (by kernel_rfl) (fun _ _ _ h=>h) (Or.inr ⟨by rfl,rfl⟩) A ?_)
  |(refine Qv 9 (fun K G=> ?_);go_simp;refine(HO.out _ (D.out.trans (ag.mono D.out.size))).mono ?_;rintro e w3 ⟨rfl,ai⟩;go_simp;replace A:=Hh A ai;refine G.out _ _ A ?_;clear G K)
 (try simp only[Act.put,zY])
 refine Qz 10 A ?_;refine Qz 11 A ?_;refine Qz 12 A ?_;refine⟨by kernel_rfl,?_⟩;have am:=hid ((D.out.trans (ag.mono D.out.size)).trans (ai.mono (Nat.le_trans D.out.size ag.size)))
 go_wp2_with fail
 go_ret;exact⟨rfl,am.out⟩
theorem y2R(k:Int)(T:zA)(a b c d p:Int)(g o U sB V:Nat)(W:World)(hk:k=9∨k=10)(Z:Int)(T1:zA)(a1 b1 c1 d1 p1:Int)(aa:Option Addr)(n1 ab:Nat)(ac:Option Addr)(n0 ad:Nat)(q2 q3:Bool)(fp:Addr)(x:Value)(ha:zH W V (.cells #[x] 3))(hf:zC W (1) 0 (.iface 405 (.pointer (some fp))))(ao:1≠V)
  (hs:zC W sB 0 (.slice ac n0 ad))(hc:Rc W g o Z T1 a1 b1 c1 d1 (.slice aa n1 ab) p1)
  (HO:Hid (∀W':World,zB W W'->Calls prog 148 #[.agg #[.slice ac n0 ad],.agg #[zI Z,zT T1,zU a1,zU b1,zU c1,zU d1,.slice aa n1 ab,zI p1]] W' fun e w'=>e=.returned (.agg #[.bool true,.bool q2,.bool q3])/\zB W' w')):
  Calls prog 146 #[.agg #[zI k,zT T,zU a,zU b,zU c,zU d,.slice (some ⟨g,o,none⟩) 1 U,zI p],zP sB 0,zP V 0] W fun e w'=>e=.returned (.iface 405 (.pointer (some fp)))/\W.grownBy w' (some V)/\zH w' V (.cells #[zI p] 3):=by
 obtain⟨r,ae⟩:∃r,r=W.alloc (.cells #[zI k,zT T,zU a,zU b,zU c,zU d,.slice (some ⟨g,o,none⟩) 1 U,zI p] 119):=⟨_,rfl⟩;have D:Hid (zB W r.drew):=by rw[ae];exact((Below.refl _ W).alloc L0q _).drew
 have af:r.drew.heap[W.heap.size]? =some (.cells #[zI k,zT T,zU a,zU b,zU c,zU d,.slice (some ⟨g,o,none⟩) 1 U,zI p] 119):=by rw[ae];exact Qx W _ rfl
 obtain⟨A,ai⟩:∃A,A=W.heap.size:=⟨_,rfl⟩;rw[<-ai]at af;have aj:=hid af;have am:Hid (zC r.drew sB 0 (.slice ac n0 ad)/\(zC r.drew A 0 (zI k)/\zC r.drew A 1 (zT T)/\zC r.drew A 2 (zU a)/\zC r.drew A 3 (zU b)/\zC r.drew A 4 (zU c)/\zC r.drew A 5 (zU d)/\zC r.drew A 6 (.slice (some ⟨g,o,none⟩) 1 U)/\zC r.drew A 7 (zI p))/\zC r.drew g o (zI Z)/\zC r.drew g (o+1) (zT T1)/\zC r.drew g (o+2) (zU a1)/\zC r.drew g (o+3) (zU b1)/\zC r.drew g (o+4) (zU c1)/\zC r.drew g (o+5) (zU d1)/\zC r.drew g (o+6) (.slice aa n1 ab)/\zC r.drew g (o+7) (zI p1)):=by
  have e:∀{a:Addr} {u:Value},W.cell? a=some u->r.drew.cell? a=some u:=fun{a u} h=>(D.out.cell (p:=a) (World.block_lt_of_cell? W _ h)).trans h
  obtain⟨c0,ap,c2,c3,c4,c5,c6,c7⟩:=hc;exact⟨e hs,(Qf af).1,e c0,e ap,e c2,e c3,e c4,e c5,e c6,e c7⟩
 have av:=hid hs;have aq:g<r.drew.heap.size:=Nat.lt_of_lt_of_le (World.block_lt_of_cell? W _ hc.1) D.out.size;have aw:=z3W;clear af hs hc aq;go_enter func146,ntmps146
 go_wp2_with fail
 rw[<-ae,<-ai];clear ae ai;refine Qc 99 (fun W:World=>zC W sB 0 (.slice ac n0 ad)/\(zC W A 0 (zI k)/\zC W A 1 (zT T)/\zC W A 2 (zU a)/\zC W A 3 (zU b)/\zC W A 4 (zU c)/\zC W A 5 (zU d)/\zC W A 6 (.slice (some ⟨g,o,none⟩) 1 U)/\zC W A 7 (zI p))/\zC W g o (zI Z)/\zC W g (o+1) (zT T1)/\zC W g (o+2) (zU a1)/\zC W g (o+3) (zU b1)/\zC W g (o+4) (zU c1)/\zC W g (o+5) (zU d1)/\zC W g (o+6) (.slice aa n1 ab)/\zC W g (o+7) (zI p1)) (by kernel_rfl) am.out (fun y=> ?_);refine Qz 0 y ?_
 (refine Qv 1 (fun K Y=> ?_);go_simp;refine(z3K k T a b c d p (some ⟨g,o,none⟩) 1 U _ hk).mono ?_;rintro e w2 ⟨rfl,E⟩;go_simp;replace y:=Hh y E;refine Y.out _ _ y ?_;clear Y K)
 (try simp only[Act.put,zY])
 refine Qz 2 y ?_;refine Qz 3 y ?_;refine Qz 4 y ?_;refine Qz 5 y ?_;refine Qz 6 y ?_;refine Qz 7 y ?_;refine Qz 8 y ?_
 first
  |(refine Kw (i:=9) (oi:=({dst:=some 14,op:=Op.call {callee:=Callee.value (Operand.func 148),args:=#[Operand.tmp 9,Operand.tmp 13],argTypes:=#[51,119]},type:=264,pos:="sound.go:62",after:=#[{on:=4,ground:=Ground.data},{on:=8,ground:=Ground.data},{on:=3,ground:=Ground.chain},{on:=3,ground:=Ground.guard}],guard:=some (3,false)}:Oper)) (v:=undef) rfl (by kernel_rfl) (by kernel_rfl) (by kernel_rfl) (fun _ _ _ h=>h) (Or.inr ⟨by rfl,rfl⟩) y ?_)
  |(refine Qv 9 (fun K Y=> ?_);go_simp;refine(HO.out _ (D.out.trans (E.mono D.out.size))).mono ?_;rintro e w3 ⟨rfl,ag⟩;go_simp;replace y:=Hh y ag;refine Y.out _ _ y ?_;clear Y K)
 (try simp only[Act.put,zY])
 refine Qz 10 y ?_;refine Qz 11 y ?_;refine Qz 12 y ?_;refine⟨by kernel_rfl,?_⟩;have ak:=hid ((D.out.trans (E.mono D.out.size)).trans (ag.mono (Nat.le_trans D.out.size E.size)));have al:=(ag.block _ (Nat.lt_of_lt_of_le (Qq aj.out) E.size)).trans ((E.block _ (Qq aj.out)).trans aj.out);have n7:=(Qf al).1.2.2.2.2.2.2.2;have ln:=Qq al;have ah:=(ak.out.block _ (Qq ha)).trans ha;have ar:=hid ah;obtain⟨t0,t1⟩:=Qy ah;have la:=Qq ah;have au:=(ak.out.cell (p:=⟨1,0,none⟩) (World.block_lt_of_cell? W _ hf)).trans hf;have ax:(w3.setCell ⟨V,0,none⟩ (zI p)).cell? ⟨1,0,none⟩=some (.iface 405 (.pointer (some fp))):=(World.cell?_of_block (Below.heap_setCell _ _ _ _ ao)).trans au;clear al ah hf ha y E ag HO am
 go_wp2_with fail
 go_ret;exact⟨rfl,G.setR (G.below ak.out),Qk ar.out 0 _⟩
end Go.Proofs.YtmelafeingcgnaaGreatDoor
