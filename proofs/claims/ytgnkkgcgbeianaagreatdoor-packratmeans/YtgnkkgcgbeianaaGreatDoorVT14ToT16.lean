/- Lemmas for the last text. Conditions: those that each names. -/
import Derived.Test.YtgnkkgcgbeianaaGreatDoorVT13ToT15
import Derived.Test.YtgnkkgcgbeianaaGreatDoorVU3ToU8
import Derived.Test.YtgnkkgcgbeianaaGreatDoorVO5ToS4
import Derived.LaidEql
import Derived.Stop.Asserts
import Derived.RowKitTokens
import Derived.Test.YtgnkkgcgbeianaaGreatDoorVU15ToT11
set_option linter.unusedVariables false
set_option maxRecDepth 100000
set_option maxHeartbeats 8000000
namespace Go.Proofs.YtgnkkgcgbeianaaGreatDoor
open Go.Proofs.Tryz
open Go.RowKit Go.Shelf Go.Maps
variable {W W':World} {sB:Nat}
theorem z3R{r o t y A:Nat}{v0 v1 v2 v3 v4:Value}(h:zC W sB 0 v0/\zC W r 0 v1/\zC W o t v2/\zC W o y v3/\zC W o A v4)(D:zB W W'):zC W' sB 0 v0/\zC W' r 0 v1/\zC W' o t v2/\zC W' o y v3/\zC W' o A v4:=by
 obtain⟨E,G,I,U,V⟩:=h;have e:∀{a:Addr} {u:Value},W.cell? a=some u->W'.cell? a=some u:=fun{a u} h=>(D.cell (p:=a) (World.block_lt_of_cell? W _ h)).trans h
 exact⟨e E,e G,e I,e U,e V⟩
theorem y2u{r o y A D:Nat}{v0 v1 v2 v3 v4:Value}{row:Option Nat}(h:zC W sB 0 v0/\zC W r 0 v1/\zC W o y v2/\zC W o A v3/\zC W o D v4)(E:some sB≠row)(G:some r≠row)(t:some o≠row)(I:W.grownBy W' row):zC W' sB 0 v0/\zC W' r 0 v1/\zC W' o y v2/\zC W' o A v3/\zC W' o D v4:=by
 obtain⟨U,V,Y,Z,h4⟩:=h;have e:∀{a:Addr} {u:Value},some a.block≠row->W.cell? a=some u->W'.cell? a=some u:=fun{a u} aa h=>(I.cell_far a (World.block_lt_of_cell? W _ h) aa).trans h
 exact⟨e E U,e G V,e t Y,e t Z,e t h4⟩
theorem y2v(nm:zA)(y1 y2 y3:Bool)(w:World):Calls prog 109 #[zT nm,.agg #[.bool y1,.bool y2,.bool y3]] w (CnA (sI nm (y1,y2,y3)) w):=by
 cases y1<;>cases y2<;>cases y3
 ·exact y2i nm w
 ·exact y2g nm w
 ·exact y2l nm w
 ·exact y2h nm w
 ·exact y2f nm w
 ·exact y2k nm w
 ·exact y2j nm w
 ·exact y2m nm w
def BfP(rs:List Rr)(X:Option (Int ⊕ (Int×Int)))(W:World)(e:Ending)(w':World):Prop:=zB W w'/\
 ((X≠none/\∃v,e=.returned (.tuple #[.agg #[.slice none 0 0],v])/\Zh X W.heap.size w' v)∨
  (X=none/\∃so' cap' m,e=.returned (.tuple #[.agg #[.slice so' rs.length cap'],.nilIface])/\Xk (itr rs m) rs/\Qb w' w'.heap.size so' rs.length (bG rs (itr rs m))))
theorem y2w(E:Option Addr)(n G:Nat)(X:Option (Int ⊕ (Int×Int)))(w:World)
  (V:Hid (∀W:World,zB w W->Calls prog 108 #[.agg #[.slice E n G]] W fun e w'=>∃o r,e=.returned (.tuple #[.slice none 0 0,.iface o r])/\Zh X W.heap.size w' (.iface o r)/\zB W w')):
  Calls prog 81 #[.agg #[.slice E n G]] w fun e w'=>∃v,e=.returned (.tuple #[.agg #[.slice none 0 0],v])/\Zh X w.heap.size w' v/\zB w w':=by
 obtain⟨h,t⟩:∃h,h=(w.alloc (.cells #[.slice E n G] 43)).alloc (.cells #[.slice none 0 0] 43):=⟨_,rfl⟩;have I:zB w h:=by rw[t];exact((Below.refl _ w).alloc L0q _).alloc (by simp) _
 have y:Hid (h.heap[w.heap.size+1]? =some (.cells #[.slice none 0 0] 43)):=by rw[t];exact Qx _ _ (by simp)
 have Y:=hid (V.out h I);have A:=hid I;have aa:=Qq y.out;have Z:=hid t;clear t I V;go_enter func81,ntmps81
 go_wp2_with fail
 rw[<-Z.out];refine Y.out.mono ?_;rintro e w2 ⟨o,r,rfl,hv,U⟩;have D:=(U.block _ (Qq y.out)).trans y.out;obtain⟨u0,f0⟩:=Qk D;have lr:=Qq D;have ab:=hid D;have HV:=hid hv;have ac:=hid (A.out.trans (U.mono A.out.size));have ad:=hid A.out.size;clear hv U D Y Z y A
 go_wp2_with fail
 have r0:=(Qk (Qw ab.out 0 (.slice none 0 0))).1;refine bodyPost_ret (v:=.tuple #[.agg #[.slice none 0 0],.iface o r]) (by simp[results,Tryz.results81,go_sem,r0]) rfl ?_;exact⟨_,rfl,(HV.out.kept (grownBy_setCell' _ _ _) aa).lo ad.out,ac.out.setCell (p:=⟨w.heap.size+1,0,none⟩) (by show w.heap.size<=_+1;omega) _⟩
theorem z3S(rs:List Rr)(K:zA->Ot):(bG rs K).length=rs.length:=List.length_map _
theorem y2x(rs:List Rr)(K:zA->Ot)(j:Nat)(h:j<rs.length){o:j<(bG rs K).length}:(bG rs K)[j]=(rs[j].1,sI rs[j].1 (K rs[j].1),0):=by simp[bG]
theorem PqR.put{o:World}{j:Nat}{r:List Rr}{xs:List Value}{a v u:Value}(h:PqR o j r xs a W)(t:zH W sB (.cells #[u] 43))(A:o.heap.size<=sB):PqR o j r xs a (W.setCell ⟨sB,0,none⟩ v):=by
 refine⟨h.be.setCell (p:=⟨sB,0,none⟩) A _,h.ow.kept (grownBy_setCell' _ _ _) (.inr (Fq h.ow t (fun D e=>by cases e))),Zk.kept (fun g D E y=>⟨Below.heap_setCell _ _ _ _ (fun e=> ?_),E⟩) _ _ h.rq⟩;have G:g=sB:=e;subst G;rw[zH,t]at y;cases y
theorem y2y(so:Option Addr)(n ah:Nat)(rs:List Rr)(w:World)(h:Qb w w.heap.size so n rs)(hn:n<=1048576)
  (HC:Hid (∀W:World,zB w W->Calls prog 108 #[.agg #[.slice so n ah]] W (RuP rs none W))):
  Calls prog 81 #[.agg #[.slice so n ah]] w (BfP rs none w):=by
 obtain⟨iT,a4,a5,a6,a7⟩:=info_parts Tryz.infoRl;obtain⟨Z,ab⟩:∃Z,Z=(w.alloc (.cells #[.slice so n ah] 43)).alloc (.cells #[.slice none 0 0] 43):=⟨_,rfl⟩;have ar:zB w Z:=by rw[ab];exact((Below.refl _ w).alloc L0q _).alloc (by simp) _
 have au:Hid (Z.heap[w.heap.size+1]? =some (.cells #[.slice none 0 0] 43)):=by rw[ab];exact Qx _ _ (by simp)
 have av:Hid (Z.heap[w.heap.size]? =some (.cells #[.slice so n ah] 43)):=by rw[ab];exact(Below.heap_alloc _ _ _ (by simp)).trans (Qx w _ rfl)
 have HS:=hid (HC.out Z ar);have aw:=hid ar;have aG:=hid ab;have HG:=hid h;have ac:Hid (n=rs.length):=h.1;clear ab ar HC h;go_enter func81,ntmps81
 go_wp2_with fail
 rw[<-aG.out];refine HS.out.mono ?_;rintro e I ⟨ai,a8⟩;rcases a8 with⟨hx,_⟩|⟨_,V,m,cs,rfl,a9,aH,aI,ax⟩
 ·exact absurd rfl hx
 rw[<-ac.out];obtain⟨G,ay⟩:∃G,G=itr rs m:=⟨_,rfl⟩;have ba:=hid aH;have bb:Hid (G=itr rs m):=ay;rw[<-ay]at ax;have bc:=hid ax;have az:=hid aI;have aJ:=hid (aw.out.trans (ai.mono aw.out.size));have aj:=hid ((ai.block _ (Qq au.out)).trans au.out);have aK:=hid ((ai.block _ (Qq av.out)).trans av.out);obtain⟨g2,_⟩:=Qk aK.out;have bd:=Qq aK.out;obtain⟨W3,ak⟩:∃W3,W3=I.alloc (.cells #[.slice none 0 0] 43):=⟨_,rfl⟩;have aL:Hid (PqR I 0 (bG rs G) [] (.slice none 0 0) W3):=by
  rw[ak];exact⟨B0q.alloc L0q _,World.ownsRow_nil _ _ _ _,by rw[List.take_zero,Zk];trivial⟩
 have aA:Hid (W3.heap[I.heap.size]? =some (.cells #[.slice none 0 0] 43)):=by rw[ak];exact Qx _ _ rfl
 clear HS aG au av aw ai aI ax aH ay a9
 go_wp2_with fail
 rw[<-ak];clear ak g2 bd;obtain⟨sB,aB⟩:∃sB,sB=I.heap.size:=⟨_,rfl⟩;rw[<-aB]at aA ⊢;have bf:Hid (sB=I.heap.size):=aB;clear aB
 go_loopw [21] (fun i wr=>∃(j:Nat) (xs:List Value) (v:Value),i=zI (j:Int)/\j<=n/\Hid (PqR I j (bG rs G) xs v wr)/\Hid (zH wr sB (.cells #[v] 43))) (fun i _=>n-(intOf i).toNat)
 case atStart=>exact⟨0,[],_,rfl,Nat.zero_le _,aL,aA⟩
 case round=>
  obtain⟨j,xs,v,rfl,hj,E,aa⟩:=hrel;clear aL aA;have aM:=hid (aJ.out.trans (E.out.be.mono aJ.out.size));obtain⟨A,D,rfl⟩:=Dd E.out.ow;by_cases hjn:j<n
  ·have bA:(j:Int)<(n:Int):=by omega
   have a0:decide ((j:Int)<(n:Int))=true:=by simp;omega
   have ad:j<rs.length:=by rw[<-ac.out];exact hjn
   have bg:j<(bG rs G).length:=by rw[z3S];exact ad
   obtain⟨g,o,rfl,hg,k1,T1,a1,b1,c1,d1,bh,n1,bi,p1,bj,r0⟩:=HG.out.2.2 j ad;have aN:∀q,wr.cell? ⟨g,q,none⟩=w.cell? ⟨g,q,none⟩:=fun q=>aM.out.cell (p:=⟨g,q,none⟩) hg
   simp only[<-aN]at r0;obtain⟨z0,z1,z2,z3,z4,z5,z6,z7,z8,z9⟩:=r0;have bC:g<wr.heap.size:=World.block_lt_of_cell? wr _ z0;obtain⟨N0,al⟩:∃N0,N0=rs[j].1:=⟨_,rfl⟩;obtain⟨q1,aO⟩:∃q1,q1=rs[j].2.2:=⟨_,rfl⟩;rw[<-al]at z0;rw[<-aO]at z9;obtain⟨⟨y1,y2,y3⟩,hy⟩:∃y,y=G N0:=⟨_,rfl⟩;have aP:(N0,sI N0 (y1,y2,y3),(0:Int))=(bG rs G)[j]:=by
    rw[y2x rs G j ad,hy,al]
   have bk:=hid aP;obtain⟨e0,e1,e2⟩:=bc.out.2 j ad ad;rw[<-al,<-hy]at e0 e1 e2;have ae:=(E.out.be.block _ (Qq az.out)).trans az.out;have x0:=(Qj ae _ _ e0).1;have x1:=(Qj ae _ _ e1).1;have x2:=(Qj ae _ _ e2).1;have lu:=Qq ae;have bD:V<I.heap.size:=Qq az.out;obtain⟨t0,t1⟩:=Qk aa.out;have aQ:=Qq aa.out;have bE:=E.out.be.size;have aR:=hid (y2v N0 y1 y2 y3);clear bj aN al aO hy aP e0 e1 e2 ae
   go_wp2_with fail
   obtain⟨W4,af⟩:∃W4,W4=wr.alloc (.cells #[zT N0,zI k1,zT T1,zU a1,zU b1,zU c1,zU d1,.slice bh n1 bi,zI p1,zI q1] 83):=⟨_,rfl⟩;have am:Hid (zB wr W4.drew):=by rw[af];exact((Below.refl _ wr).alloc L0q _).drew
   have aS:W4.drew.heap.size=wr.heap.size+1:=by rw[af];exact World.size_alloc _ _
   obtain⟨rB,ao⟩:∃rB,rB=wr.heap.size:=⟨_,rfl⟩;have aT:Hid (zC W4.drew sB 0 (.slice A j D)/\zC W4.drew rB 0 (zT N0)/\zC W4.drew V (j*3) (.bool y1)/\zC W4.drew V (j*3+1) (.bool y2)/\zC W4.drew V (j*3+2) (.bool y3)):=by
    have e:∀{a:Addr} {u:Value},wr.cell? a=some u->W4.drew.cell? a=some u:=fun{a u} h=>(am.out.cell (p:=a) (World.block_lt_of_cell? wr _ h)).trans h
    refine⟨e t0,?_,e x0,e x1,e x2⟩;rw[af,ao];exact(Qj (Qx wr _ rfl) 0 _ rfl).1
   rw[<-af,<-ao];have aC:Hid (∀r,Hid (Below W4.drew.heap.size W4.drew r)->I.heap.size<=r.heap.size/\sB<r.heap.size):=fun r h=>by
    have:=h.out.size;constructor<;>omega
   have bl:Hid (∀r,Hid (Below W4.drew.heap.size W4.drew r)->zH r sB (.cells #[.slice A j D] 43)):=fun r h=>(h.out.block _ (by omega)).trans ((am.out.block _ aQ).trans aa.out)
   have bm:Hid (∀r,Hid (Below W4.drew.heap.size W4.drew r)->r.ownsRow I.heap.size 83 10 (.slice A j D) j xs):=fun r h=>Xh (Xh E.out.ow am.out) h.out
   have aU:Hid (some sB≠(Value.slice A j D).ownBlock):=fun e=>Fq E.out.ow aa.out (fun aV e=>by cases e) e.symm
   have bn:Hid (some rB≠(Value.slice A j D).ownBlock):=fun e=>by have:=(E.out.ow.lt _ e.symm).2;omega
   have bo:Hid (some V≠(Value.slice A j D).ownBlock):=fun e=>by have:=(E.out.ow.lt _ e.symm).1;omega
   have bF:Hid (rB=wr.heap.size):=ao;have m1:j+1<=maxLen:=by unfold maxLen;omega
   have m2:(j+1)*112<=140737488355328:=by omega
   clear af ao z0 z1 z2 z3 z4 z5 z6 z7 z8 z9 t0 t1 x0 x1 x2;refine Qc 15 (fun W:World=>zC W sB 0 (.slice A j D)/\zC W rB 0 (zT N0)/\zC W V (j*3) (.bool y1)/\zC W V (j*3+1) (.bool y2)/\zC W V (j*3+2) (.bool y3)) (by kernel_rfl) aT.out (fun t=> ?_);refine Qz 0 t ?_;refine Qz 1 t ?_;refine Qz 2 t ?_;refine Qz 3 t ?_;refine Qz 4 t ?_;refine Qz 5 t ?_;refine Qz 6 t ?_;refine Qz 7 t ?_;refine Qz 8 t ?_;refine Qz 9 t ?_
   (refine Qf 10 (fun K U=> ?_);go_simp;refine(aR.out _).mono ?_;rintro e r ⟨k3,T3,a3,b3,c3,d3,aD,n3,aE,p3,rfl,aW,Y⟩;go_simp;replace t:=z3R t Y.out;refine U.out _ _ t ?_;clear U K)
   (try simp only[Act.put,zY])
   refine Qz 11 t ?_
   (refine Qf 12 (fun K U=> ?_);go_simp;replace t:=z3R t ((Below.refl _ r).alloc L0q (.cells #[zT N0,zI k3,zT T3,zU a3,zU b3,zU c3,zU d3,.slice aD n3 aE,zI p3,zI 0] 83));refine U.out _ _ t ?_;clear U K)
   (try simp only[Act.put,zY])
   (refine Qf 13 (fun K U=> ?_);refine step_append_lies _ rfl (.tmp 27) (.tmp 38) 41 rfl I.heap.size 83 iT (.agg #[zT {data:=#[]},zI 0,zT {data:=#[]},zU 0,zU 0,zU 0,zU 0,.slice none 0 0,zI 0,zI 0]) 10 112 Tryz.underlying41 a4 a5 a6 a7 rfl (by decide) (.slice A j D) j xs (by rfl) ((bm.out r Y).alloc _) ⟨r.heap.size,0,none⟩ 1 1 [zT N0,zI k3,zT T3,zU a3,zU b3,zU c3,zU d3,.slice aD n3 aE,zI p3,zI 0] (by rfl) rfl (Og r _ _ _ _ _ _ _ _ _ _ _) (z2N _ _ _ _ _ _ _ _ _ _ _ _) (by decide) m1 m2 (by rw[World.size_alloc];have:=aC.out r Y;omega) _ rfl ?_;intro g6 aX w6 aY ap bp bq;have ag:=((ap.block sB (by rw[World.size_alloc];have:=aC.out r Y;omega) aU.out).trans (Below.heap_alloc _ _ _ (aC.out r Y).2)).trans (bl.out r Y);replace t:=y2u t aU.out bn.out bo.out ap;refine U.out _ _ t ?_;clear U K)
   (try simp only[Act.put,zY])
   refine Qz 14 t ?_;refine Yj (fun K U=> ?_);obtain⟨s0,s1⟩:=Qk ag;have ls:=Qq ag;clear t
   go_simp
   refine U.out _ _ ?_;clear U K;have aZ:=PqR.step E.out bg bk.out (am.out.trans (Y.out.mono (by rw[aS];omega))) ⟨r8 k3 T3 a3 b3 c3 d3 aD n3 aE p3,rfl,Zv.kept (fun g aV hp _=>⟨rfl,Nat.le_trans (by rw[aS];omega) hp⟩) _ _ aW.out⟩ ((Below.refl _ r).alloc L0q _) aY ap;have br:=hid (aZ.put (v:=zS g6 (j+1) aX) ag (by rw[bf.out];exact Nat.le_refl _));have bs:=hid (Qw ag 0 (zS g6 (j+1) aX));clear aZ aY ap bp bq ag aW Y s0 s1 aR aT
   go_wp2_with fail
   exact⟨⟨j+1,_,_,by go_num,by omega,br,bs⟩,by simp[intOf];omega⟩
  ·have a0:decide ((j:Int)<(n:Int))=false:=by simp;omega
   obtain rfl:j=n:=by omega
   have aF:(bG rs G).length=j:=by rw[z3S];exact ac.out.symm
   have hq:=E.out.rq;rw[List.take_of_length_le (by rw[aF];exact Nat.le_refl _)]at hq;have aq:=(E.out.be.block _ (Qq aj.out)).trans aj.out;obtain⟨u0,f0⟩:=Qk aq;have lr:=Qq aq;have bt:=hid aq;obtain⟨t0,t1⟩:=Qk aa.out;have aQ:=Qq aa.out;have a2:wr.grownBy (wr.setCell ⟨w.heap.size+1,0,none⟩ (.slice A j D)) (some (w.heap.size+1)):=grownBy_setCell' _ _ _;have bu:Hid (Qb (wr.setCell ⟨w.heap.size+1,0,none⟩ (.slice A j D)) (wr.setCell ⟨w.heap.size+1,0,none⟩ (.slice A j D)).heap.size A j (bG rs G)):=by
    have bv:=E.out.ow.kept a2 (.inr (fun e=>by have:=(E.out.ow.lt _ e).1;have:=Qq aj.out;omega));have bw:Zk (wr.setCell ⟨w.heap.size+1,0,none⟩ (.slice A j D)) (fun g=>I.heap.size<=g) (bG rs G) xs:=Zk.kept (fun g aV hp _=>⟨Below.heap_setCell _ _ _ _ (fun e=>by have e2:g=w.heap.size+1:=e;have:=Qq aj.out;omega),hp⟩) _ _ hq;obtain⟨bH,bI,ea,bx⟩:=Zk.is bv aF.symm bw;simp only[Value.slice.injEq]at ea;obtain⟨rfl,-,rfl⟩:=ea;exact bx
   have bz:Hid (zB w (wr.setCell ⟨w.heap.size+1,0,none⟩ (.slice A j D))):=aM.out.setCell (p:=⟨w.heap.size+1,0,none⟩) (by show w.heap.size<=_+1;omega) _;clear hq a2 aq aF
   go_wp2_with fail
   have r0:=(Qk (Qw bt.out 0 (.slice A j D))).1;refine bodyPost_ret (v:=.tuple #[.agg #[.slice A j D],.nilIface]) (by simp[results,Tryz.results81,go_sem,r0]) rfl ?_;refine⟨bz.out,.inr ⟨rfl,A,D,m,by rw[<-ac.out],ba.out,?_⟩⟩;rw[<-ac.out,<-bb.out];exact bu.out
theorem y2z(o:Option Addr)(n r:Nat)(rs:List Rr)(X:Option (Int ⊕ (Int×Int)))(B:Nat)(w:World)(I:CkX rs X)(V:CkC o n r rs X w)(Y:RgZ rs)(h:Qb w B o n rs)(D:B<=w.heap.size):∀W:World,zB w W->Calls prog 81 #[.agg #[.slice o n r]] W (BfP rs X W):=fun W y=>by
 have Z:∀{W'},zB W W'->zB w W':=fun t=>y.trans (t.mono y.size)
 have U:=fun(W':World) (t:zB W W')=>y1P o n r rs X B w I V Y h D W' (Z t)
 cases X with
 |some x=>
  refine(y2w o n r (some x) W (hid fun W' t=>(U W' t).mono fun e w' E=> ?_)).mono fun e w' E=> ?_
  ·obtain⟨hb,⟨_,v,G,A⟩|⟨h0,_⟩⟩:=E
   ·obtain⟨tt,uu,rfl⟩:=A.shape (by simp)
    exact⟨tt,uu,G,A,hb⟩
   ·cases h0
  ·obtain⟨v,G,A,h3⟩:=E
   exact⟨h3,.inl ⟨by simp,v,G,A⟩⟩
 |none=>
  have aa:=(Jm I.1).2;exact y2y o n r rs W ((h.below (y.mono D)).upto (Nat.le_trans D y.size)) (by have:=h.1;omega) (hid U)
open Go.Extern.Stop Go.Stop Go.Extern
theorem Tryz.isTypeOf(v:Value)(w:World):(Extern.ReflectliteType.typeOf #[.iface 363 v]).run prog w=.ok (.iface 168 (.agg #[zP (6) (363)])) w:=by kernel_rfl
theorem Tryz.isComparable(w:World):((Extern.ReflectliteType.method fun t=>do Go.Extern.Rtype.noPackHeld "Comparable" t;pure (Value.bool (<-typeInfo t).comparable)) #[.agg #[zP (6) (363)]]).run prog w=.ok (.bool true) w:=by kernel_rfl
theorem Tryz.callComparable(w:World):(callFunc 340 #[.agg #[zP (6) (363)]]).run prog w=.ok (.value (.bool true)) w:=by
 rw[@run_callFunc_extern prog 340 _ (Extern.ReflectliteType.method fun t=>do Go.Extern.Rtype.noPackHeld "Comparable" t;pure (Value.bool (<-typeInfo t).comparable)) func340 (by kernel_rfl) (by kernel_rfl) (by kernel_rfl) (by kernel_rfl),Tryz.isComparable];rfl
theorem Tryz.isMethodComparable(v:Value)(w:World):(Go.method 493 168 v "Comparable").run prog w=.ok (340,v) w:=by kernel_rfl
theorem Tryz.isComp:(Tryz.prog.info? 363).map (·.comparable)=some true:=by kernel_rfl
theorem Tryz.isSize:(Tryz.prog.info? 381).map (·.size)=some 1:=by kernel_rfl
theorem y2A(a:Addr)(w:World):
  Calls prog 113 #[.iface 363 (.pointer (some a)),.iface 363 (.pointer (some a))] w fun e w'=>e=.returned (.bool true)/\w'=w:=by
 obtain⟨i,h,o⟩:=Option.map_eq_some_iff.1 Tryz.isComp;obtain⟨j,r,t⟩:=Option.map_eq_some_iff.1 Tryz.isSize;have y:= @run_callFunc_extern prog 78 _ Extern.ReflectliteType.typeOf func78 (by kernel_rfl) (by kernel_rfl) (by kernel_rfl) (by kernel_rfl);have A:=Tryz.callComparable;have D:=Tryz.isTypeOf;have E:=Tryz.isMethodComparable;have G:=run_eql_iface_ptr_same (P:=prog) w a Tryz.underlying30 Tryz.underlying363 h o r;go_enter func113,ntmps113
 go_wp2
 refine wp_loop_rounds 1 ?_;rw[rounds_succ]
 go_wp2
 go_ret;exact⟨rfl,rfl⟩
theorem y2B(b:Addr)(w:World):
  Calls prog 113 #[.nilIface,.iface 363 (.pointer (some b))] w fun e w'=>e=.returned (.bool false)/\w'=w:=by
 have h:=run_eql_iface_nil_left (P:=prog) w 363 (.pointer (some b)) Tryz.underlying30;go_enter func113,ntmps113
 go_wp2
 go_ret;exact⟨rfl,rfl⟩
theorem Hl{r g o:Nat}{v x0 x1 x2 x3 t y A D y0 y1 y2 y3 E G I U:Value}(h:zC W sB 0 v/\(zC W r 0 x0/\zC W r 1 x1/\zC W r 2 x2/\zC W r 3 x3/\zC W r 4 t/\zC W r 5 y/\zC W r 6 A/\zC W r 7 D)/\zC W g o y0/\zC W g (o+1) y1/\zC W g (o+2) y2/\zC W g (o+3) y3/\zC W g (o+4) E/\zC W g (o+5) G/\zC W g (o+6) I/\zC W g (o+7) U)(V:zB W W'):zC W' sB 0 v/\(zC W' r 0 x0/\zC W' r 1 x1/\zC W' r 2 x2/\zC W' r 3 x3/\zC W' r 4 t/\zC W' r 5 y/\zC W' r 6 A/\zC W' r 7 D)/\zC W' g o y0/\zC W' g (o+1) y1/\zC W' g (o+2) y2/\zC W' g (o+3) y3/\zC W' g (o+4) E/\zC W' g (o+5) G/\zC W' g (o+6) I/\zC W' g (o+7) U:=by
 obtain⟨Y,Z,h2,h3,h4,h5,h6,h7,h8,h9⟩:=h;have e:∀{a:Addr} {u:Value},W.cell? a=some u->W'.cell? a=some u:=fun{a u} h=>(V.cell (p:=a) (World.block_lt_of_cell? W _ h)).trans h
 exact⟨e Y,Kk Z V,e h2,e h3,e h4,e h5,e h6,e h7,e h8,e h9⟩
theorem z3T(a b c:Bool)(w:World):(Instr.field 210 (.agg #[.bool a,.bool b,.bool c]) 0).run prog w=.ok (.bool a) w:=by kernel_rfl
def LkQ(fp:Addr)(aB:Nat)(r:Option Int)(at':Int)(W:World)(e:Ending)(w':World):Prop:=W.grownBy w' (some aB)/\
 ((r=none/\e=.returned .nilIface/\w'.heap[aB]? =some (.cells #[zI at'] 3))∨∃q,r=some q/\e=.returned (.iface 363 (.pointer (some fp)))/\w'.heap[aB]? =some (.cells #[zI q] 3))
theorem y2C(k:Int)(T:zA)(a b c d p:Int)(y:Option Addr)(n A sB Y:Nat)(W:World)(Z:k≠9)(h2:k≠10):
  Calls prog 110 #[.agg #[zI k,zT T,zU a,zU b,zU c,zU d,.slice y n A,zI p],zP sB 0,zP Y 0] W fun e w'=>e=.returned .nilIface/\zB W w':=by
 obtain⟨t,D⟩:∃t,t=W.alloc (.cells #[zI k,zT T,zU a,zU b,zU c,zU d,.slice y n A,zI p] 81):=⟨_,rfl⟩;have U:Hid (zB W t.drew):=by rw[D];exact((Below.refl _ W).alloc L0q _).drew
 have E:t.drew.heap[W.heap.size]? =some (.cells #[zI k,zT T,zU a,zU b,zU c,zU d,.slice y n A,zI p] 81):=by rw[D];exact Qx W _ rfl
 obtain⟨o,G⟩:∃o,o=W.heap.size:=⟨_,rfl⟩;rw[<-G]at E;have aa:Hid (zC t.drew o 0 (zI k)/\zC t.drew o 1 (zT T)/\zC t.drew o 2 (zU a)/\zC t.drew o 3 (zU b)/\zC t.drew o 4 (zU c)/\zC t.drew o 5 (zU d)/\zC t.drew o 6 (.slice y n A)/\zC t.drew o 7 (zI p)):=hid (Qg E).1;clear E;go_enter func110,ntmps110
 go_wp2_with fail
 rw[<-D,<-G];clear D G;refine Qc 99 (fun W:World=>zC W o 0 (zI k)/\zC W o 1 (zT T)/\zC W o 2 (zU a)/\zC W o 3 (zU b)/\zC W o 4 (zU c)/\zC W o 5 (zU d)/\zC W o 6 (.slice y n A)/\zC W o 7 (zI p)) (by kernel_rfl) aa.out (fun r=> ?_);refine Qz 0 r ?_
 (refine Qf 1 (fun K I=> ?_);go_simp;refine(y2d k T a b c d p y n A _ Z h2).mono ?_;rintro e w2 ⟨rfl,V⟩;go_simp;replace r:=Kk r V;refine I.out _ _ r ?_;clear I K)
 (try simp only[Act.put,zY])
 refine Qz 2 r ?_;refine Qz 3 r ?_;refine Qz 4 r ?_;refine Qz 5 r ?_;refine Qz 6 r ?_;refine Qz 7 r ?_;refine Qz 8 r ?_
 first
  |(refine Fx (i:=9) (oi:=({dst:=some 14,op:=Op.call {callee:=Callee.value (Operand.func 112),args:=#[Operand.tmp 9,Operand.tmp 13],argTypes:=#[43,81]},type:=210,pos:="sound.go:62",after:=#[{on:=4,ground:=Ground.data},{on:=8,ground:=Ground.data},{on:=3,ground:=Ground.chain},{on:=3,ground:=Ground.guard}],guard:=some (3,false)}:Oper)) (v:=undef) rfl (by kernel_rfl) (by kernel_rfl) (by kernel_rfl) (fun _ _ _ h=>h) (Or.inr ⟨by rfl,rfl⟩) r ?_)
  |(refine Qf 9 (fun K I=> ?_);fail)
 (try simp only[Act.put,zY])
 refine Qz 10 r ?_;refine Qz 11 r ?_;refine Qz 12 r ?_;refine⟨by kernel_rfl,?_⟩
 go_wp2_with fail
 go_ret;exact⟨rfl,U.out.trans (V.mono U.out.size)⟩
theorem y2D(k:Int)(T:zA)(a b c d p:Int)(g o D sB aB:Nat)(W:World)(hk:k=9∨k=10)(G:Int)(I:zA)(a1 U c1 V p1:Int)(Y:Option Addr)(Z aa:Nat)(ab:Option Addr)(n0 ac:Nat)(q2 q3:Bool)
  (hs:zC W sB 0 (.slice ab n0 ac))(hc:Rc W g o G I a1 U c1 V (.slice Y Z aa) p1)
  (HO:Hid (∀W':World,zB W W'->Calls prog 112 #[.agg #[.slice ab n0 ac],.agg #[zI G,zT I,zU a1,zU U,zU c1,zU V,.slice Y Z aa,zI p1]] W' fun e w'=>e=.returned (.agg #[.bool false,.bool q2,.bool q3])/\zB W' w')):
  Calls prog 110 #[.agg #[zI k,zT T,zU a,zU b,zU c,zU d,.slice (some ⟨g,o,none⟩) 1 D,zI p],zP sB 0,zP aB 0] W fun e w'=>e=.returned .nilIface/\zB W w':=by
 obtain⟨r,ad⟩:∃r,r=W.alloc (.cells #[zI k,zT T,zU a,zU b,zU c,zU d,.slice (some ⟨g,o,none⟩) 1 D,zI p] 81):=⟨_,rfl⟩;have A:Hid (zB W r.drew):=by rw[ad];exact((Below.refl _ W).alloc L0q _).drew
 have ae:r.drew.heap[W.heap.size]? =some (.cells #[zI k,zT T,zU a,zU b,zU c,zU d,.slice (some ⟨g,o,none⟩) 1 D,zI p] 81):=by rw[ad];exact Qx W _ rfl
 obtain⟨t,ag⟩:∃t,t=W.heap.size:=⟨_,rfl⟩;rw[<-ag]at ae;have am:=hid ae;have ai:Hid (zC r.drew sB 0 (.slice ab n0 ac)/\(zC r.drew t 0 (zI k)/\zC r.drew t 1 (zT T)/\zC r.drew t 2 (zU a)/\zC r.drew t 3 (zU b)/\zC r.drew t 4 (zU c)/\zC r.drew t 5 (zU d)/\zC r.drew t 6 (.slice (some ⟨g,o,none⟩) 1 D)/\zC r.drew t 7 (zI p))/\zC r.drew g o (zI G)/\zC r.drew g (o+1) (zT I)/\zC r.drew g (o+2) (zU a1)/\zC r.drew g (o+3) (zU U)/\zC r.drew g (o+4) (zU c1)/\zC r.drew g (o+5) (zU V)/\zC r.drew g (o+6) (.slice Y Z aa)/\zC r.drew g (o+7) (zI p1)):=by
  have e:∀{a:Addr} {u:Value},W.cell? a=some u->r.drew.cell? a=some u:=fun{a u} h=>(A.out.cell (p:=a) (World.block_lt_of_cell? W _ h)).trans h
  obtain⟨c0,aj,c2,c3,c4,c5,c6,c7⟩:=hc;exact⟨e hs,(Qg ae).1,e c0,e aj,e c2,e c3,e c4,e c5,e c6,e c7⟩
 have ao:=hid hs;have ak:g<r.drew.heap.size:=Nat.lt_of_lt_of_le (World.block_lt_of_cell? W _ hc.1) A.out.size;have ap:=z3T;clear ae hs hc ak;go_enter func110,ntmps110
 go_wp2_with fail
 rw[<-ad,<-ag];clear ad ag;refine Qc 99 (fun W:World=>zC W sB 0 (.slice ab n0 ac)/\(zC W t 0 (zI k)/\zC W t 1 (zT T)/\zC W t 2 (zU a)/\zC W t 3 (zU b)/\zC W t 4 (zU c)/\zC W t 5 (zU d)/\zC W t 6 (.slice (some ⟨g,o,none⟩) 1 D)/\zC W t 7 (zI p))/\zC W g o (zI G)/\zC W g (o+1) (zT I)/\zC W g (o+2) (zU a1)/\zC W g (o+3) (zU U)/\zC W g (o+4) (zU c1)/\zC W g (o+5) (zU V)/\zC W g (o+6) (.slice Y Z aa)/\zC W g (o+7) (zI p1)) (by kernel_rfl) ai.out (fun y=> ?_);refine Qz 0 y ?_
 (refine Qf 1 (fun K E=> ?_);go_simp;refine(z3G k T a b c d p (some ⟨g,o,none⟩) 1 D _ hk).mono ?_;rintro e w2 ⟨rfl,af⟩;go_simp;replace y:=Hl y af;refine E.out _ _ y ?_;clear E K)
 (try simp only[Act.put,zY])
 refine Qz 2 y ?_;refine Qz 3 y ?_;refine Qz 4 y ?_;refine Qz 5 y ?_;refine Qz 6 y ?_;refine Qz 7 y ?_;refine Qz 8 y ?_
 first
  |(refine Fx (i:=9) (oi:=({dst:=some 14,op:=Op.call {callee:=Callee.value (Operand.func 112),args:=#[Operand.tmp 9,Operand.tmp 13],argTypes:=#[43,81]},type:=210,pos:="sound.go:62",after:=#[{on:=4,ground:=Ground.data},{on:=8,ground:=Ground.data},{on:=3,ground:=Ground.chain},{on:=3,ground:=Ground.guard}],guard:=some (3,false)}:Oper)) (v:=undef) rfl (by kernel_rfl) (by kernel_rfl) (by kernel_rfl) (fun _ _ _ h=>h) (Or.inr ⟨by rfl,rfl⟩) y ?_)
  |(refine Qf 9 (fun K E=> ?_);go_simp;refine(HO.out _ (A.out.trans (af.mono A.out.size))).mono ?_;rintro e w3 ⟨rfl,ah⟩;go_simp;replace y:=Hl y ah;refine E.out _ _ y ?_;clear E K)
 (try simp only[Act.put,zY])
 refine Qz 10 y ?_;refine Qz 11 y ?_;refine Qz 12 y ?_;refine⟨by kernel_rfl,?_⟩;have al:=hid ((A.out.trans (af.mono A.out.size)).trans (ah.mono (Nat.le_trans A.out.size af.size)))
 go_wp2_with fail
 go_ret;exact⟨rfl,al.out⟩
theorem y2E(k:Int)(T:zA)(a b c d p:Int)(g o E sB I:Nat)(W:World)(hk:k=9∨k=10)(V:Int)(Y:zA)(a1 Z c1 d1 p1:Int)(aa:Option Addr)(n1 ab:Nat)(ac:Option Addr)(n0 ad:Nat)(q2 q3:Bool)(fp:Addr)(x:Value)(ha:zH W I (.cells #[x] 3))(hf:zC W (1) 0 (.iface 363 (.pointer (some fp))))(ao:1≠I)
  (hs:zC W sB 0 (.slice ac n0 ad))(hc:Rc W g o V Y a1 Z c1 d1 (.slice aa n1 ab) p1)
  (HO:Hid (∀W':World,zB W W'->Calls prog 112 #[.agg #[.slice ac n0 ad],.agg #[zI V,zT Y,zU a1,zU Z,zU c1,zU d1,.slice aa n1 ab,zI p1]] W' fun e w'=>e=.returned (.agg #[.bool true,.bool q2,.bool q3])/\zB W' w')):
  Calls prog 110 #[.agg #[zI k,zT T,zU a,zU b,zU c,zU d,.slice (some ⟨g,o,none⟩) 1 E,zI p],zP sB 0,zP I 0] W fun e w'=>e=.returned (.iface 363 (.pointer (some fp)))/\W.grownBy w' (some I)/\zH w' I (.cells #[zI p] 3):=by
 obtain⟨r,ae⟩:∃r,r=W.alloc (.cells #[zI k,zT T,zU a,zU b,zU c,zU d,.slice (some ⟨g,o,none⟩) 1 E,zI p] 81):=⟨_,rfl⟩;have A:Hid (zB W r.drew):=by rw[ae];exact((Below.refl _ W).alloc L0q _).drew
 have af:r.drew.heap[W.heap.size]? =some (.cells #[zI k,zT T,zU a,zU b,zU c,zU d,.slice (some ⟨g,o,none⟩) 1 E,zI p] 81):=by rw[ae];exact Qx W _ rfl
 obtain⟨y,ai⟩:∃y,y=W.heap.size:=⟨_,rfl⟩;rw[<-ai]at af;have aj:=hid af;have am:Hid (zC r.drew sB 0 (.slice ac n0 ad)/\(zC r.drew y 0 (zI k)/\zC r.drew y 1 (zT T)/\zC r.drew y 2 (zU a)/\zC r.drew y 3 (zU b)/\zC r.drew y 4 (zU c)/\zC r.drew y 5 (zU d)/\zC r.drew y 6 (.slice (some ⟨g,o,none⟩) 1 E)/\zC r.drew y 7 (zI p))/\zC r.drew g o (zI V)/\zC r.drew g (o+1) (zT Y)/\zC r.drew g (o+2) (zU a1)/\zC r.drew g (o+3) (zU Z)/\zC r.drew g (o+4) (zU c1)/\zC r.drew g (o+5) (zU d1)/\zC r.drew g (o+6) (.slice aa n1 ab)/\zC r.drew g (o+7) (zI p1)):=by
  have e:∀{a:Addr} {u:Value},W.cell? a=some u->r.drew.cell? a=some u:=fun{a u} h=>(A.out.cell (p:=a) (World.block_lt_of_cell? W _ h)).trans h
  obtain⟨c0,ap,c2,c3,c4,c5,c6,c7⟩:=hc;exact⟨e hs,(Qg af).1,e c0,e ap,e c2,e c3,e c4,e c5,e c6,e c7⟩
 have av:=hid hs;have aq:g<r.drew.heap.size:=Nat.lt_of_lt_of_le (World.block_lt_of_cell? W _ hc.1) A.out.size;have aw:=z3T;clear af hs hc aq;go_enter func110,ntmps110
 go_wp2_with fail
 rw[<-ae,<-ai];clear ae ai;refine Qc 99 (fun W:World=>zC W sB 0 (.slice ac n0 ad)/\(zC W y 0 (zI k)/\zC W y 1 (zT T)/\zC W y 2 (zU a)/\zC W y 3 (zU b)/\zC W y 4 (zU c)/\zC W y 5 (zU d)/\zC W y 6 (.slice (some ⟨g,o,none⟩) 1 E)/\zC W y 7 (zI p))/\zC W g o (zI V)/\zC W g (o+1) (zT Y)/\zC W g (o+2) (zU a1)/\zC W g (o+3) (zU Z)/\zC W g (o+4) (zU c1)/\zC W g (o+5) (zU d1)/\zC W g (o+6) (.slice aa n1 ab)/\zC W g (o+7) (zI p1)) (by kernel_rfl) am.out (fun t=> ?_);refine Qz 0 t ?_
 (refine Qf 1 (fun K U=> ?_);go_simp;refine(z3G k T a b c d p (some ⟨g,o,none⟩) 1 E _ hk).mono ?_;rintro e w2 ⟨rfl,D⟩;go_simp;replace t:=Hl t D;refine U.out _ _ t ?_;clear U K)
 (try simp only[Act.put,zY])
 refine Qz 2 t ?_;refine Qz 3 t ?_;refine Qz 4 t ?_;refine Qz 5 t ?_;refine Qz 6 t ?_;refine Qz 7 t ?_;refine Qz 8 t ?_
 first
  |(refine Fx (i:=9) (oi:=({dst:=some 14,op:=Op.call {callee:=Callee.value (Operand.func 112),args:=#[Operand.tmp 9,Operand.tmp 13],argTypes:=#[43,81]},type:=210,pos:="sound.go:62",after:=#[{on:=4,ground:=Ground.data},{on:=8,ground:=Ground.data},{on:=3,ground:=Ground.chain},{on:=3,ground:=Ground.guard}],guard:=some (3,false)}:Oper)) (v:=undef) rfl (by kernel_rfl) (by kernel_rfl) (by kernel_rfl) (fun _ _ _ h=>h) (Or.inr ⟨by rfl,rfl⟩) t ?_)
  |(refine Qf 9 (fun K U=> ?_);go_simp;refine(HO.out _ (A.out.trans (D.mono A.out.size))).mono ?_;rintro e w3 ⟨rfl,ag⟩;go_simp;replace t:=Hl t ag;refine U.out _ _ t ?_;clear U K)
 (try simp only[Act.put,zY])
 refine Qz 10 t ?_;refine Qz 11 t ?_;refine Qz 12 t ?_;refine⟨by kernel_rfl,?_⟩;have ak:=hid ((A.out.trans (D.mono A.out.size)).trans (ag.mono (Nat.le_trans A.out.size D.size)));have al:=(ag.block _ (Nat.lt_of_lt_of_le (Qq aj.out) D.size)).trans ((D.block _ (Qq aj.out)).trans aj.out);have n7:=(Qg al).1.2.2.2.2.2.2.2;have ln:=Qq al;have ah:=(ak.out.block _ (Qq ha)).trans ha;have ar:=hid ah;obtain⟨t0,t1⟩:=Qk ah;have la:=Qq ah;have au:=(ak.out.cell (p:=⟨1,0,none⟩) (World.block_lt_of_cell? W _ hf)).trans hf;have ax:(w3.setCell ⟨I,0,none⟩ (zI p)).cell? ⟨1,0,none⟩=some (.iface 363 (.pointer (some fp))):=(World.cell?_of_block (Below.heap_setCell _ _ _ _ ao)).trans au;clear al ah hf ha t D ag HO am
 go_wp2_with fail
 go_ret;exact⟨rfl,G.setR (G.below ak.out),Qw ar.out 0 _⟩
end Go.Proofs.YtgnkkgcgbeianaaGreatDoor
