/- Lemmas for the last text. Conditions: those that each names. -/
import Derived.Test.YtgnkkgcgbeianaaGreatDoorVT17ToT19
import Derived.Test.YtgnkkgcgbeianaaGreatDoorVO5ToS4
set_option linter.unusedVariables false
set_option maxRecDepth 100000
set_option maxHeartbeats 8000000
namespace Go.Proofs.YtgnkkgcgbeianaaGreatDoor
open Go.Proofs.Tryz
open Go.RowKit Go.Shelf Go.Maps
variable {to:Nat}
mutual
theorem Sb{K:zA->Ot}:∀t:RT,okT t=true->(fbT K t).length<=(rfT t).length
 | .mk k T a b c d s p,h=>by
   rw[fbT,rfT];by_cases h5:k=5
   ·subst h5
    have:=Sg h;subst this;rw[if_pos rfl,if_pos rfl,fbL];simp
   ·rw[if_neg h5,if_neg h5,List.nil_append]
    rw[okT,Bool.and_eq_true]at h;exact z4c (decide (k=6)) s h.2
theorem z4c{K:zA->Ot}(o:Bool):∀s:List RT,okL s=true->(fbL K o s).length<=(rfL s).length
 |[],_=>by rw[fbL,rfL];simp
 |t::r,h=>by
  rw[okL,Bool.and_eq_true]at h;have y:=Sb (K:=K) t h.1;have A:=z4c (K:=K) o r h.2;rw[fbL,rfL,List.length_append,List.length_append];split
  ·simp;omega
  ·omega
end
theorem y2R(A:Option Addr)(n D:Nat)(E:Option Addr)(G Z:Nat)(rs:List Rr)(K:zA->Ot)(w:World)(h:Qb w w.heap.size A n rs)(hn:n<=1048576)(hs:Qb w w.heap.size E G (bG rs K))(am:okG rs=true)(ao:ckR rs=none)(hz:RgZ rs)(hP:PrG rs)(hT:TabIs w)(hl:∀x∈rs,(rfT x.2.1).length<=8192):
  Calls prog 83 #[.agg #[.slice A n D],.agg #[.slice E G Z]] w fun e w'=>∃r vs,e=.returned (zS r n n)/\vs.length=n/\Uw w r n vs (rs.map (bgR rs K)) w':=by
 have ba:=y0i n hn;obtain⟨W2,I⟩:∃W2,W2=(w.alloc (.cells #[.slice A n D] 43)).alloc (.cells #[.slice E G Z] 43):=⟨_,rfl⟩;have ap:zB w W2:=by rw[I];exact((Below.refl _ w).alloc L0q _).alloc (by simp) _
 have aF:W2.heap.size=w.heap.size+1+1:=by rw[I];simp
 obtain⟨r,ac⟩:∃r,r=w.heap.size+1+1:=⟨_,rfl⟩;obtain⟨W3,U⟩:∃W3,W3=W2.alloc (.cells (Array.replicate n (Value.slice none 0 0)) 24):=⟨_,rfl⟩;have aG:Hid (Uw w r n [] [] W3):=by
  refine⟨?_,rfl,fun i h1=>by simp at h1,by rw[U];exact ap.alloc ap.size _,by omega⟩;rw[U,ac,Qx _ _ aF.symm];simp
 have aH:Hid (W3.heap[w.heap.size]? =some (.cells #[.slice A n D] 43)):=by rw[U,I];exact(Below.heap_alloc _ _ _ (by simp;omega)).trans ((Below.heap_alloc _ _ _ (by simp)).trans (Qx w _ rfl))
 have aq:Hid (W3.heap[w.heap.size+1]? =some (.cells #[.slice E G Z] 43)):=by rw[U,I];exact(Below.heap_alloc _ _ _ (by simp)).trans (Qx _ _ (by simp))
 have HR:=hid h;have aI:Hid (n=rs.length):=h.1;have aJ:=hid (fun(w0:World) (hb:zB w w0) (bB:Nat) (ad:w0.heap.size<=bB) (hg:w0.heap[w.heap.size]? =some (.cells #[.slice A n D] 43)) (t:RT) (cs:List Value) (W:World) (hV:Bv w0 bB [] W) (ht:Qy w w.heap.size t cs) (hf:Fit (nmL rs) t) (bv:(fbT K t).length<=8192)=>z4b w0 bB w.heap.size A n D E G Z rs K w.heap.size hb.size hg (h.below hb) (hs.below hb) am ao hz (hT.below hb hT.lt) ad _ t cs [] W (Nat.lt_succ_self _) hV (ht.below hb) hf (by simp;omega));have bb:=hid (fun(x:Rr) (hx:x∈rs)=>Hc hP ao hz hx);have aK:=hid (fun(x:Rr) (hx:x∈rs)=>Nat.le_trans (Sb (K:=K) x.2.1 (Fk am x hx).2) (hl x hx));clear h hs am ao hz hP hT hl ap aF;go_enter func83,ntmps83
 go_wp2_with fail
 rw[<-I,<-U,<-ac];obtain⟨sB,ar⟩:∃sB,sB=w.heap.size+1:=⟨_,rfl⟩;rw[<-ar]at aq ⊢;have aL:Hid (r=w.heap.size+1+1):=ac;have bc:Hid (sB=w.heap.size+1):=ar;clear I U ac ba ar
 go_loopw [16] (fun i wr=>∃j:Nat,i=zI (j:Int)/\j<=n/\Hid (∃vs,vs.length=j/\Uw w r n vs ((rs.take j).map (bgR rs K)) wr)/\Hid (wr.heap[w.heap.size]? =some (.cells #[.slice A n D] 43))/\Hid (zH wr sB (.cells #[.slice E G Z] 43))) (fun i _=>n-(intOf i).toNat)
 case atStart=>exact⟨0,rfl,Nat.zero_le _,⟨[],rfl,by rw[List.take_zero];exact aG.out⟩,aH,aq⟩
 case round=>
  obtain⟨j,rfl,hj,ae,aa,ab⟩:=hrel;clear aG aH aq;by_cases hjn:j<n
  ·have bw:(j:Int)<(n:Int):=by omega
   have a0:decide ((j:Int)<(n:Int))=true:=by simp;omega
   have aM:j<rs.length:=by rw[<-aI.out];exact hjn
   obtain⟨g,o,rfl,hg,k1,T1,a1,b1,c1,d1,bd,n1,bf,p1,aN,r0⟩:=HR.out.2.2 j aM;obtain⟨vs,au,y⟩:=ae.out;have aO:∀q,wr.cell? ⟨g,q,none⟩=w.cell? ⟨g,q,none⟩:=fun q=>y.be.cell (p:=⟨g,q,none⟩) hg
   simp only[<-aO]at r0;obtain⟨z0,z1,z2,z3,z4,z5,z6,z7,z8,z9⟩:=r0;have bx:g<wr.heap.size:=World.block_lt_of_cell? wr _ z0;obtain⟨N0,aP⟩:∃N0,N0=rs[j].1:=⟨_,rfl⟩;obtain⟨q1,aQ⟩:∃q1,q1=rs[j].2.2:=⟨_,rfl⟩;rw[<-aP]at z0;rw[<-aQ]at z9;obtain⟨W4,af⟩:∃W4,W4=wr.alloc (.cells #[zT N0,zI k1,zT T1,zU a1,zU b1,zU c1,zU d1,.slice bd n1 bf,zI p1,zI q1] 83):=⟨_,rfl⟩;have ag:zB wr W4:=by rw[af];exact(Below.refl _ wr).alloc L0q _
   have aR:W4.heap.size=wr.heap.size+1:=by rw[af];simp
   obtain⟨W5,av⟩:∃W5,W5=W4.alloc (.cells #[.slice none 0 0] 24):=⟨_,rfl⟩;obtain⟨bB,ad⟩:∃bB,bB=wr.heap.size+1:=⟨_,rfl⟩;have aS:Bv W4 bB [] W5:=by
    rw[av];exact⟨B0q.alloc L0q _,_,Qx _ _ (by omega),World.ownsRow_nil _ _ _ _⟩
   have aT:=y.be.trans (ag.mono y.be.size);have hx:=List.getElem_mem aM;have HC:=hid (aJ.out W4 aT bB (by omega) ((ag.block _ (Qq aa.out)).trans aa.out) rs[j].2.1 _ W5 aS aN (bb.out _ hx) (aK.out _ hx));dsimp only[r8]at HC;rw[List.nil_append]at HC;obtain⟨sb,sg⟩:=Qk ab.out;have ls:=Qq ab.out;have bg:sB<wr.heap.size+1:=by omega
   obtain⟨zs,ah⟩:∃zs,zs=(fbT K rs[j].2.1).map fun x=>fdI x (nmL rs):=⟨_,rfl⟩
   rw[<-ah]at HC;have bh:zs.length<=8192:=by rw[ah,List.length_map];exact aK.out _ hx
   have bi:Hid (bgR rs K rs[j]=Lib.compact (srt zs)):=by show _=_;unfold bgR;rw[ah]
   have aU:=hid y;have V:Hid (vs.length=j):=au;have Y:=hid ag;have bj:=hid av;have aV:=hid af;have lu:r<wr.heap.size:=Qq y.blk;have bk:Hid (W4.heap.size=wr.heap.size+1):=aR;clear aP aQ aO aN y au ae aT aS ag af av ah hx aR
   go_wp2_with fail
   rw[<-ad]
   first|rw[<-aV.out,<-bj.out]|rw[<-aV.out]|skip
   refine HC.out.mono ?_;clear HC sb sg ls bg ad;rintro e w6 ⟨rfl,⟨aW,v6,ai,aj⟩,bl⟩;obtain⟨aX,aY,rfl⟩:=Vm aj;have aw:=hid (y0d aj (by omega));obtain⟨c6,_⟩:=Qk ai;have l6:=Qq ai;have ax:=hid ai;have ay:=hid aj;have aZ:=hid aW;clear aW ai aj bl;obtain⟨kz,az⟩:∃kz,kz=zs.length:=⟨_,rfl⟩;rw[<-az]at aw ay ax c6 bh;have a2:Hid (kz=zs.length):=az;clear az
   go_wp2_with fail
   refine aw.out.mono ?_;clear aw c6;rintro e w7 ⟨rfl,a3,aA⟩;have bm:some bB≠(Value.slice aX kz aY).ownBlock:=fun e=>Fq ay.out ax.out (fun bz e=>by cases e) e.symm
   have aB:=(aA.block _ l6 bm).trans ax.out;have a4:=hid (y0e (zs:=srt zs) (by rw[My,<-a2.out];exact a3) (by rw[My,<-a2.out];omega));obtain⟨c7,_⟩:=Qk aB;have l7:=Qq aB;have aC:∀g,(Value.slice aX kz aY).ownBlock=some g->W4.heap.size<=g/\g<w6.heap.size:=fun g e=>ay.out.lt g e
   have a5:=hid (aZ.out.grown aA aZ.out.size (fun g e=>(aC g e).1));have bn:=hid aC;clear a3 aA aB aC
   go_wp2_with fail
   refine a4.out.mono ?_;clear a4 c7;rintro e w8 ⟨v8,rfl,aD,a6⟩;have ak:=a5.out.grown a6 a5.out.size (fun g e=>(bn.out g e).1);have al:=aU.out.below (Y.out.trans (ak.mono (by rw[bk.out];omega)));obtain⟨k8,a7⟩:∃k8,k8=(Lib.compact (srt zs)).length:=⟨_,rfl⟩;have aE:=aD;rw[<-a7]at aE;obtain⟨bo,bp,rfl⟩:=Vm aE;have bA:r<w8.heap.size:=Qq al.blk;obtain⟨x8,f8⟩:=Qj al.blk j (.slice none 0 0) (by have:=y0f vs n (Value.slice none 0 0) (by rw[V.out];exact hjn);rw[V.out]at this;rw[V.out];exact this);have bq:=hid ((ak.block _ (Nat.lt_of_lt_of_le (Qq aa.out) Y.out.size)).trans ((Y.out.block _ (Qq aa.out)).trans aa.out));have br:=hid ((ak.block _ (Nat.lt_of_lt_of_le (Qq ab.out) Y.out.size)).trans ((Y.out.block _ (Qq ab.out)).trans ab.out));have bs:=hid al;have bt:=hid aD;have bu:=hid (Nat.le_trans aU.out.be.size Y.out.size);clear aD aE a6 ak al a7
   go_wp2_with fail
   refine⟨⟨j+1,by go_num,by omega,hid ⟨vs++[.slice bo k8 bp],by rw[List.length_append,V.out];rfl,?_⟩,hid ((Below.heap_setCell _ _ _ _ (by have:=aL.out;show w.heap.size≠r;omega)).trans bq.out),hid ((Below.heap_setCell _ _ _ _ (by have:=aL.out;have:=bc.out;show sB≠r;omega)).trans br.out)⟩,by simp[intOf];omega⟩;have a8:=bs.out.step (u:=bgR rs K rs[j]) (by rw[V.out];exact hjn) (by rw[bi.out];exact z2i bt.out bu.out);rw[V.out]at a8;rw[show(rs.take (j+1)).map (bgR rs K)=(rs.take j).map (bgR rs K)++[bgR rs K rs[j]] by rw[show rs.take (j+1)=rs.take j++[rs[j]] by simp,List.map_append];rfl];exact a8
  ·have a0:decide ((j:Int)<(n:Int))=false:=by simp;omega
   have a9:rs.take j=rs:=List.take_of_length_le (by rw[<-aI.out];omega);rw[a9]at ae;clear a9 aJ
   go_wp2_with fail
   go_ret;obtain⟨vs,au,y⟩:=ae.out;exact⟨r,vs,rfl,by omega,y⟩
def Cb(us:List (List Int))(to:Nat)(sn sn':List Bool):Prop:=sn'.length=sn.length/\(∀i:Nat,sn[i]? =some true->sn'[i]? =some true)/\∀i:Nat,sn[i]? =some false->sn'[i]? =some true->∀k∈us.getD i [],∃m:Nat,k=(m:Int)/\m≠to/\sn'[m]? =some true
theorem Cb.refl(us:List (List Int))(to:Nat)(o:List Bool):Cb us to o o:=⟨rfl,fun _ h=>h,fun i t r=>by rw[t]at r;cases r⟩
theorem Cb.trans{us:List (List Int)}{to:Nat}{r o t:List Bool}(h:Cb us to r o)(k:Cb us to o t):Cb us to r t:=by
 obtain⟨y,D,E⟩:=h;obtain⟨G,A,I⟩:=k;refine⟨G.trans y,fun i U=>A i (D i U),fun i a b x hx=> ?_⟩;have hl:i<o.length:=by rw[y];exact(List.getElem?_eq_some_iff.1 a).1
 cases e:o[i]with
 |true=>
  obtain⟨m,V,Y,Z⟩:=E i a (by rw[List.getElem?_eq_getElem hl,e]) x hx;exact⟨m,V,Y,A m Z⟩
 |false=>exact I i (by rw[List.getElem?_eq_getElem hl,e]) b x hx
theorem Cb.mark{us:List (List Int)}{p:Nat}{o r:List Bool}(h:Cb us to (o.set p true) r)(A:o[p]? =some false)(ha:∀k∈us.getD p [],∃m:Nat,k=(m:Int)/\m≠to/\r[m]? =some true):Cb us to o r/\r[p]? =some true:=by
 obtain⟨D,t,E⟩:=h;have y:p<o.length:=(List.getElem?_eq_some_iff.1 A).1;refine⟨⟨by rw[D,List.length_set],fun i G=>t i ?_,fun i a b=> ?_⟩,t p (List.getElem?_set_self y)⟩
 ·by_cases e:p=i
  ·subst e;exact List.getElem?_set_self y
  ·rw[List.getElem?_set_ne e];exact G
 ·by_cases e:p=i
  ·subst e;exact ha
  ·exact E i (by rw[List.getElem?_set_ne e];exact a) b
def Bck(us:List (List Int))(to:Nat):Prop:=∃x:Nat,(x:Int)∈us.getD to []/\Rch us x to
theorem y2S{us:List (List Int)}{n:Nat}{o:List Bool}(h:Cb us to (List.replicate n false) o)(ha:∀k∈us.getD to [],∃m:Nat,k=(m:Int)/\m≠to/\o[m]? =some true):¬Bck us to:=fun⟨x,hx,y⟩=>by
 obtain⟨A,_,D⟩:=h;have E:∀b,Rch us x b->b≠to/\o[b]? =some true:=fun b G=>by
  induction G with
  |refl=>
   obtain⟨m,I,r,t⟩:=ha _ hx;obtain rfl:x=m:=by omega
   exact⟨r,t⟩
  | @step b c _ hm ih=>
    have hl:b<n:=by
     have:=(List.getElem?_eq_some_iff.1 ih.2).1;rw[A,List.length_replicate]at this;exact this
    obtain⟨m,I,r,t⟩:=D b (by rw[List.getElem?_replicate,if_pos hl]) ih.2 _ hm;obtain rfl:c=m:=by omega
    exact⟨r,t⟩
 exact(E to y).1 rfl
structure Bs (base n to bB tB sB lB sb:Nat) (uv:Value) (w0:World) (sn:List Bool) (W:World):Prop where
 bbx:Boxed W bB 69 uv
 tbx:Boxed W tB 3 (zI (to:Int))
 sbx:Boxed W sB 220 (zS sb n n)
 sbl:W.heap[sb]? =some (.cells (sn.map Value.bool).toArray 4)
 lbx:Boxed W lB 221 (.func (.func 119) #[] #[zP bB 0,zP tB 0,zP sB 0,zP lB 0])
 be:Below base w0 W
 len:sn.length=n
theorem Bs.mark{base n bB o sB r sb:Nat}{t:Value}{w0 W:World}{A:List Bool}(h:Bs base n to bB o sB r sb t w0 A W)(E:base<=sb)(p:Nat):Bs base n to bB o sB r sb t w0 (A.set p true) (W.setCell ⟨sb,p,none⟩ (.bool true)):=by
 have keep:∀{b:Nat} {y:Array Value} {u:TypeId},zH W b (.cells y u)->u≠4->(W.setCell ⟨sb,p,none⟩ (.bool true)).heap[b]? =some (.cells y u):=fun D G=>(Below.heap_setCell _ _ _ _ (fun e=>y0j D h.sbl G e)).trans D
 refine⟨keep h.bbx (by decide),keep h.tbx (by decide),keep h.sbx (by decide),?_,keep h.lbx (by decide),h.be.setCell (p:=⟨sb,p,none⟩) E _,by rw[List.length_set,h.len]⟩;rw[Qw h.sbl];congr 2;apply Array.ext';simp[List.map_set]
theorem y2T(to o sB r:Nat)(W:World)(h:Boxed W o 3 (zI (to:Int))):
  Calls prog 121 #[zI (to:Int),zP o 0,zP sB 0,zP r 0] W fun e w'=>e=.returned (.bool true)/\w'=W:=by
 have c1:=h.cell;have t:((to:Int) == (to:Int))=true:=by simp
 go_enter func121,ntmps121
 go_wp2_with fail
 go_ret;exact⟨rfl,rfl⟩
theorem y2U(o to n r sB t sb:Nat)(W:World)(h:Boxed W r 3 (zI (to:Int)))(y:Boxed W sB 220 (zS sb n n))(A:zC W sb o (.bool true))(D:o≠to)(E:o<n)(G:n<=1048576):
  Calls prog 121 #[zI (o:Int),zP r 0,zP sB 0,zP t 0] W fun e w'=>e=.returned (.bool false)/\w'=W:=by
 have c1:=h.cell;have c2:=y.cell;have I:((o:Int) == (to:Int))=false:=by rw[beq_eq_false_iff_ne];omega
 go_enter func121,ntmps121
 go_wp2_with fail
 go_ret;exact⟨rfl,rfl⟩
def NxP(base n to bB tB sB lB sb:Nat)(uv:Value)(us:List (List Int))(w0:World)(sn:List Bool)(nx:Nat)(e:Ending)(w':World):Prop:=∃sn',Bs base n to bB tB sB lB sb uv w0 sn' w'/\((e=.returned (.bool true)/\Rch us nx to)∨(e=.returned (.bool false)/\Cb us to sn sn'/\nx≠to/\sn'[nx]? =some true))
def LeP(base n to bB tB sB lB sb:Nat)(uv:Value)(us:List (List Int))(w0:World)(sn:List Bool)(fr:Nat)(e:Ending)(w':World):Prop:=∃sn',Bs base n to bB tB sB lB sb uv w0 sn' w'/\((e=.returned (.bool true)/\∃x:Nat,(x:Int)∈us.getD fr []/\Rch us x to)∨(e=.returned (.bool false)/\Cb us to sn sn'/\∀k∈us.getD fr [],∃m:Nat,k=(m:Int)/\m≠to/\sn'[m]? =some true))
theorem y2V{us:List (List Int)}{o r:List Bool}(h:Cb us to o r):unm r<=unm o:=z2l o r h.1 h.2.1
theorem y2W(base n to bB t sB y sb:Nat)(D:Value)(us:List (List Int))(w0:World)(hn:n<=1048576)(N:Nat)(HN:Hid (∀(h:List Bool) (W:World) (r:Nat),unm h<N->Bs base n to bB t sB y sb D w0 h W->r<n->Calls prog 121 #[zI (r:Int),zP t 0,zP sB 0,zP y 0] W (NxP base n to bB t sB y sb D us w0 h r)))
  (u:List Int)(rso:Option Addr)(k ae:Nat)(hk:k=u.length)(ak:k<=1048576)(HR:Hid (∀j (hj:j<u.length),∃g o,rso=some ⟨g,o,none⟩/\g<base/\zC w0 g (o+j) (zI u[j])))(HX:Hid (∀x∈u,∃m:Nat,m<n/\x=(m:Int)))
  (h:List Bool)(W:World)(ab:unm h<N)(hB:Bs base n to bB t sB y sb D w0 h W):
  Calls prog 159 #[.slice rso k ae,.func (.func 121) #[] #[zP t 0,zP sB 0,zP y 0]] W fun e w'=>∃U,Bs base n to bB t sB y sb D w0 U w'/\((∃j:Nat,e=.returned (zI (j:Int))/\∃x:Nat,(x:Int)∈u/\Rch us x to)∨(e=.returned (zI (-1))/\Cb us to h U/\∀x∈u,∃m:Nat,x=(m:Int)/\m≠to/\U[m]? =some true)):=by
 have HB:=hid hB;have HK:Hid (k=u.length):=hk;have af:Hid (unm h<N):=ab;clear hB hk ab;go_enter func159,ntmps159
 go_wp2_with fail
 go_loopw [8] (fun i wr=>∃j:Nat,i=zI (j:Int)/\j<=k/\Hid (∃A,Bs base n to bB t sB y sb D w0 A wr/\Cb us to h A/\∀i (V:i<u.length),i<j->∃m:Nat,u[i]=(m:Int)/\m≠to/\A[m]? =some true)) (fun i _=>k-(intOf i).toNat)
 case atStart=>exact⟨0,rfl,Nat.zero_le _,h,HB.out,Cb.refl _ _ _,fun i V h0=>by omega⟩
 case round=>
  obtain⟨j,rfl,hj,Y⟩:=hrel;by_cases hjn:j<k
  ·have al:(j:Int)<(k:Int):=by omega
   have a0:decide ((j:Int)<(k:Int))=true:=by simp;omega
   have Z:j<u.length:=by rw[<-HK.out];exact hjn
   obtain⟨A,E,G,I⟩:=Y.out;obtain⟨rg,ro,rfl,ag,ac⟩:=HR.out j Z;have cr:=(E.be.cell (p:=⟨rg,ro+j,none⟩) ag).trans ac;obtain⟨r,ah,aa⟩:=HX.out u[j] (List.getElem_mem Z);rw[aa]at cr;have HC:=hid (HN.out A wr r (by have:=y2V G;have:=af.out;omega) E ah);have ai:=hid G;have HA:=hid I;have HE:Hid (u[j]=(r:Int)):=aa;clear E G I ac aa Y
   go_wp2_with(first
    |(go_at_call 121;refine HC.out.mono ?_;clear HC;rintro e w5 ⟨ad,v5,⟨rfl,r5⟩|⟨rfl,c5,n5,m5⟩⟩))
   ·go_ret
    exact⟨ad,v5,.inl ⟨j,rfl,r,by rw[<-HE.out];exact List.getElem_mem Z,r5⟩⟩
   ·refine⟨⟨j+1,by go_num,by omega,hid ⟨ad,v5,ai.out.trans c5,fun i V am=> ?_⟩⟩,by simp[intOf];omega⟩
    by_cases e:i=j
    ·subst e
     exact⟨r,HE.out,n5,m5⟩
    ·obtain⟨m,h1,h2,h3⟩:=HA.out i V (by omega)
     exact⟨m,h1,h2,c5.2.1 m h3⟩
  ·have a0:decide ((j:Int)<(k:Int))=false:=by simp;omega
   go_wp2_with fail
   go_ret;obtain⟨A,E,G,I⟩:=Y.out;refine⟨A,E,.inr ⟨rfl,G,fun x hx=> ?_⟩⟩;obtain⟨q,hq,rfl⟩:=List.getElem_of_mem hx;exact I q hq (by have:=HK.out;omega)
theorem y2X(base n to bB r sB t sb:Nat)(y:Value)(us:List (List Int))(w0:World)(hn:n<=1048576)(N:Nat)(E:Hid (∀(h:List Bool) (W:World) (A:Nat),unm h<N->Bs base n to bB r sB t sb y w0 h W->A<n->Calls prog 121 #[zI (A:Int),zP r 0,zP sB 0,zP t 0] W (NxP base n to bB r sB t sb y us w0 h A)))
  (u:List Int)(rso:Option Addr)(k G:Nat)(I:k=u.length)(U:k<=1048576)(V:Hid (∀j (hj:j<u.length),∃g o,rso=some ⟨g,o,none⟩/\g<base/\zC w0 g (o+j) (zI u[j])))(Y:Hid (∀x∈u,∃m:Nat,m<n/\x=(m:Int)))
  (h:List Bool)(W:World)(Z:unm h<N)(hB:Bs base n to bB r sB t sb y w0 h W):
  Calls prog 120 #[.slice rso k G,.func (.func 121) #[] #[zP r 0,zP sB 0,zP t 0]] W fun e w'=>∃D,Bs base n to bB r sB t sb y w0 D w'/\((e=.returned (.bool true)/\∃x:Nat,(x:Int)∈u/\Rch us x to)∨(e=.returned (.bool false)/\Cb us to h D/\∀x∈u,∃m:Nat,x=(m:Int)/\m≠to/\D[m]? =some true)):=by
 have HC:=hid (y2W base n to bB r sB t sb y us w0 hn N E u rso k G I U V Y h W Z hB);clear E I U V Y Z hB;go_enter func120,ntmps120
 go_wp2_with fail
 refine HC.out.mono ?_;clear HC;rintro e w5 ⟨aa,v5,⟨j,rfl,hx⟩|⟨rfl,c5,a5⟩⟩
 ·have a0:decide ((0:Int)<=(j:Int))=true:=by simp
  go_wp2_with fail
  go_ret;exact⟨aa,v5,.inl ⟨by simp,hx⟩⟩
 ·go_wp2_with fail
  go_ret;exact⟨aa,v5,.inr ⟨rfl,c5,a5⟩⟩
theorem z4d(base n to bB r sB t sb:Nat)(y:Value)(us:List (List Int))(w0:World)(HU:Hid (UsM w0 base y us))(ae:Hid (us.length=n))(V:Hid (∀u∈us,∀x∈u,∃m:Nat,m<n/\x=(m:Int)))(hn:n<=1048576)(N:Nat)(Y:Hid (∀(o:List Bool) (W:World) (E:Nat),unm o<N->Bs base n to bB r sB t sb y w0 o W->E<n->Calls prog 121 #[zI (E:Int),zP r 0,zP sB 0,zP t 0] W (NxP base n to bB r sB t sb y us w0 o E)))
  (o:List Bool)(W:World)(h:Nat)(Z:unm o<N)(A:Bs base n to bB r sB t sb y w0 o W)(af:h<n):
  Calls prog 119 #[zI (h:Int),zP bB 0,zP r 0,zP sB 0,zP t 0] W (LeP base n to bB r sB t sb y us w0 o h):=by
 obtain⟨ai,aj,rfl,ak,aa⟩:=HU.out;have G:h<us.length:=by rw[ae.out];exact af
 obtain⟨ug,uo,rv,rfl,ag,ab,rso,ah,rfl,I,ac⟩:=aa h G;have cb:=A.bbx.cell;have cr:=(A.be.cell (p:=⟨ug,uo+h,none⟩) ag).trans ab;have U:Hid (us.getD h []=us[h]):=by
  show _=_;rw[List.getD_eq_getElem?_getD,List.getElem?_eq_getElem G];rfl
 have D:=hid (y2X base n to bB r sB t sb _ us w0 hn N Y us[h] rso us[h].length ah rfl I ac (hid (V.out us[h] (List.getElem_mem G))) o W Z A);obtain⟨u,hu⟩:∃u,u=us[h]:=⟨_,rfl⟩;rw[<-hu]at D U cr I;obtain⟨k,hk⟩:∃k,k=u.length:=⟨_,rfl⟩;rw[<-hk]at D cr I;clear Y aa ac ab A Z hu hk V;go_enter func119,ntmps119
 go_wp2_with fail
 refine D.out.mono ?_;clear D;rintro e w5 ⟨ad,v5,⟨rfl,x,hx,hr⟩|⟨rfl,c5,a5⟩⟩
 ·go_wp2_with fail
  go_ret;exact⟨ad,v5,.inl ⟨rfl,x,by rw[U.out];exact hx,hr⟩⟩
 ·go_wp2_with fail
  go_ret;exact⟨ad,v5,.inr ⟨rfl,c5,by rw[U.out];exact a5⟩⟩
theorem z4e(base n to bB r sB t sb:Nat)(A:Value)(us:List (List Int))(w0:World)(E:Hid (UsM w0 base A us))(G:Hid (us.length=n))(I:Hid (∀u∈us,∀x∈u,∃m:Nat,m<n/\x=(m:Int)))(U:base<=sb)(V:n<=1048576):
  ∀(N:Nat) (o:List Bool) (W:World) (h:Nat),unm o<N->Bs base n to bB r sB t sb A w0 o W->h<n->Calls prog 121 #[zI (h:Int),zP r 0,zP sB 0,zP t 0] W (NxP base n to bB r sB t sb A us w0 o h)
 |0,o,W,h,hN,_,_=>by omega
 |N+1,o,W,h,hN,hB,hp=>by
  by_cases e:h=to
  ·subst e
   refine(y2T h r sB t W hB.tbx).mono fun e w' D=> ?_
   rw[D.2];exact⟨o,hB,.inl ⟨D.1,.refl⟩⟩
  have Y:h<o.length:=by rw[hB.len];exact hp
  cases hb:o[h]with
  |true=>
   have y:o[h]? =some true:=by rw[List.getElem?_eq_getElem Y,hb]
   refine(y2U h to n r sB t sb W hB.tbx hB.sbx (z2m hB.sbl y).1 e hp V).mono fun e' w' D=> ?_
   rw[D.2];exact⟨o,hB,.inr ⟨D.1,Cb.refl _ _ _,e,y⟩⟩
  |false=>
   have y:o[h]? =some false:=by rw[List.getElem?_eq_getElem Y,hb]
   have ab:=z2k o h y;have Z:=hid (z4d base n to bB r sB t sb A us w0 E G I V N (hid (z4e base n to bB r sB t sb A us w0 E G I U V N)) (o.set h true) (W.setCell ⟨sb,h,none⟩ (.bool true)) h (by omega) (hB.mark U h) hp);have c1:=hB.tbx.cell;have c2:=hB.sbx.cell;obtain⟨x1,f1⟩:=z2m hB.sbl y;have cl:=(hB.mark U h).lbx.cell;have a0:((h:Int) == (to:Int))=false:=by rw[beq_eq_false_iff_ne];omega
   have HS:=hid y;have HE:Hid (h≠to):=e;clear y ab hB hb e E G I;go_enter func121,ntmps121
   go_wp2_with(first
    |(go_at_call 119;refine Z.out.mono ?_;clear Z;rintro e w5 ⟨aa,v5,⟨rfl,x,hx,hr⟩|⟨rfl,c5,a5⟩⟩))
   ·go_ret
    exact⟨aa,v5,.inl ⟨rfl,(Rch.refl.step hx).trans hr⟩⟩
   ·go_ret
    obtain⟨q1,q2⟩:=c5.mark HS.out a5;exact⟨aa,v5,.inr ⟨rfl,q1,HE.out,q2⟩⟩
theorem y2Y(G:Value)(us:List (List Int))(n to:Nat)(w:World)(I:UsM w w.heap.size G us)(r:us.length=n)(A:∀u∈us,∀x∈u,∃m:Nat,m<n/\x=(m:Int))(D:n<=1048576)(ha:to<n):
  Calls prog 84 #[G,zI (to:Int)] w fun e w'=>((e=.returned (.bool true)/\Bck us to)∨(e=.returned (.bool false)/\¬Bck us to))/\zB w w':=by
 have aa:=y0k n D;have t:=hid I;obtain⟨h,o,rfl,ab,Y⟩:=I;rw[r]at t ⊢;clear Y;go_enter func84,ntmps84;obtain⟨y,E⟩:∃y,y=((((w.alloc (.cells #[.slice h n o] 69)).alloc (.cells #[zI (to:Int)] 3)).alloc (.cells (Array.replicate n (Value.bool false)) 4)).alloc (.cells #[zS (w.heap.size+1+1) n n] 220)).alloc (.cells #[.func (.func 119) #[] #[zP w.heap.size 0,zP (w.heap.size+1) 0,zP (w.heap.size+1+1+1) 0,zP (w.heap.size+1+1+1+1) 0]] 221):=⟨_,rfl⟩;have U:Bs w.heap.size n to w.heap.size (w.heap.size+1) (w.heap.size+1+1+1) (w.heap.size+1+1+1+1) (w.heap.size+1+1) (.slice h n o) w (List.replicate n false) y:=by
  rw[E];refine⟨?_,?_,?_,?_,?_,?_,List.length_replicate⟩
  ·exact((((Boxed.new w 69 (.slice h n o)).alloc _).alloc _).alloc _).alloc _
  ·have:=(((Boxed.new (w.alloc (.cells #[.slice h n o] 69)) 3 (zI (to:Int))).alloc (.cells (Array.replicate n (Value.bool false)) 4)).alloc (.cells #[zS (w.heap.size+1+1) n n] 220)).alloc (.cells #[.func (.func 119) #[] #[zP w.heap.size 0,zP (w.heap.size+1) 0,zP (w.heap.size+1+1+1) 0,zP (w.heap.size+1+1+1+1) 0]] 221)
   simpa only[World.size_alloc]using this
  ·have:=(Boxed.new (((w.alloc (.cells #[.slice h n o] 69)).alloc (.cells #[zI (to:Int)] 3)).alloc (.cells (Array.replicate n (Value.bool false)) 4)) 220 (zS (w.heap.size+1+1) n n)).alloc (.cells #[.func (.func 119) #[] #[zP w.heap.size 0,zP (w.heap.size+1) 0,zP (w.heap.size+1+1+1) 0,zP (w.heap.size+1+1+1+1) 0]] 221)
   simpa only[World.size_alloc]using this
  ·refine(Below.heap_alloc _ _ _ (by simp)).trans ((Below.heap_alloc _ _ _ (by simp)).trans ?_)
   rw[Qx _ _ (by simp)];simp
  ·have:=Boxed.new ((((w.alloc (.cells #[.slice h n o] 69)).alloc (.cells #[zI (to:Int)] 3)).alloc (.cells (Array.replicate n (Value.bool false)) 4)).alloc (.cells #[zS (w.heap.size+1+1) n n] 220)) 221 (.func (.func 119) #[] #[zP w.heap.size 0,zP (w.heap.size+1) 0,zP (w.heap.size+1+1+1) 0,zP (w.heap.size+1+1+1+1) 0])
   simpa only[World.size_alloc]using this
  ·exact(((((Below.refl _ w).alloc L0q _).alloc (by simp) _).alloc (by simp;omega) _).alloc (by simp;omega) _).alloc (by simp;omega) _
 have Z:unm (List.replicate n false)=n:=by simp[unm]
 have V:=hid (z4d w.heap.size n to _ _ _ _ _ _ us w t r A D (n+1) (hid (z4e w.heap.size n to _ _ _ _ _ _ us w t r A (by omega) D (n+1))) (List.replicate n false) y to (by omega) U ha);clear U Z t A r
 go_wp2_with fail
 rw[<-E];refine V.out.mono ?_;clear V E;rintro e w6 ⟨ac,v6,⟨rfl,hb⟩|⟨rfl,c6,a6⟩⟩
 ·go_wp2_with fail
  go_ret;exact⟨.inl ⟨rfl,hb⟩,v6.be⟩
 ·go_wp2_with fail
  go_ret;exact⟨.inr ⟨rfl,y2S c6 a6⟩,v6.be⟩
end Go.Proofs.YtgnkkgcgbeianaaGreatDoor
