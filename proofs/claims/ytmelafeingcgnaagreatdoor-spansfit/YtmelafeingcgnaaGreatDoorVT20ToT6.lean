/- Lemmas for the last text. Conditions: those that each names. -/
import Derived.Test.YtmelafeingcgnaaGreatDoorVT17ToT19
import Derived.Test.YtmelafeingcgnaaGreatDoorVO5ToS4
set_option linter.unusedVariables false
set_option maxRecDepth 100000
set_option maxHeartbeats 8000000
namespace Go.Proofs.YtmelafeingcgnaaGreatDoor
open Go.Proofs.Tryz
open Go.RowKit Go.Shelf Go.Maps
variable {to:Nat}
mutual
theorem Sg{K:zA->Ot}:∀t:RT,okT t=true->(fbT K t).length<=(rfT t).length
 | .mk k T a b c d s p,h=>by
   rw[fbT,rfT];by_cases h5:k=5
   ·subst h5
    have:=Sy h;subst this;rw[if_pos rfl,if_pos rfl,fbL];simp
   ·rw[if_neg h5,if_neg h5,List.nil_append]
    rw[okT,Bool.and_eq_true]at h;exact z4f (decide (k=6)) s h.2
theorem z4f{K:zA->Ot}(o:Bool):∀s:List RT,okL s=true->(fbL K o s).length<=(rfL s).length
 |[],_=>by rw[fbL,rfL];simp
 |t::r,h=>by
  rw[okL,Bool.and_eq_true]at h;have y:=Sg (K:=K) t h.1;have A:=z4f (K:=K) o r h.2;rw[fbL,rfL,List.length_append,List.length_append];split
  ·simp;omega
  ·omega
end
theorem y3e(A:Option Addr)(n D:Nat)(E:Option Addr)(G aa:Nat)(rs:List Rr)(K:zA->Ot)(w:World)(h:Qg w w.heap.size A n rs)(hn:n<=1048576)(hs:Qg w w.heap.size E G (bG rs K))(ao:okG rs=true)(ap:ckR rs=none)(hz:RgZ rs)(hP:PrG rs)(hT:TabIs w)(hl:∀x∈rs,(rfT x.2.1).length<=8192):
  Calls prog 120 #[.agg #[.slice A n D],.agg #[.slice E G aa]] w fun e w'=>∃r vs,e=.returned (zS r n n)/\vs.length=n/\Uw w r n vs (rs.map (bgR rs K)) w':=by
 have bb:=y0A n hn;obtain⟨W2,U⟩:∃W2,W2=(w.alloc (.cells #[.slice A n D] 51)).alloc (.cells #[.slice E G aa] 51):=⟨_,rfl⟩;have aq:zB w W2:=by rw[U];exact((Below.refl _ w).alloc L0q _).alloc (by simp) _
 have aG:W2.heap.size=w.heap.size+1+1:=by rw[U];simp
 obtain⟨r,ad⟩:∃r,r=w.heap.size+1+1:=⟨_,rfl⟩;obtain⟨W3,V⟩:∃W3,W3=W2.alloc (.cells (Array.replicate n (Value.slice none 0 0)) 24):=⟨_,rfl⟩;have aH:Hid (Uw w r n [] [] W3):=by
  refine⟨?_,rfl,fun i h1=>by simp at h1,by rw[V];exact aq.alloc aq.size _,by omega⟩;rw[V,ad,Qx _ _ aG.symm];simp
 have aI:Hid (W3.heap[w.heap.size]? =some (.cells #[.slice A n D] 51)):=by rw[V,U];exact(Below.heap_alloc _ _ _ (by simp;omega)).trans ((Below.heap_alloc _ _ _ (by simp)).trans (Qx w _ rfl))
 have ar:Hid (W3.heap[w.heap.size+1]? =some (.cells #[.slice E G aa] 51)):=by rw[V,U];exact(Below.heap_alloc _ _ _ (by simp)).trans (Qx _ _ (by simp))
 have HR:=hid h;have aJ:Hid (n=rs.length):=h.1;have aK:=hid (fun(w0:World) (hb:zB w w0) (bB:Nat) (ae:w0.heap.size<=bB) (hg:w0.heap[w.heap.size]? =some (.cells #[.slice A n D] 51)) (t:RT) (cs:List Value) (W:World) (hV:Bv w0 bB [] W) (ht:Qw w w.heap.size t cs) (hf:Fit (nmL rs) t) (bw:(fbT K t).length<=8192)=>z4e w0 bB w.heap.size A n D E G aa rs K w.heap.size hb.size hg (h.below hb) (hs.below hb) ao ap hz (hT.below hb hT.lt) ae _ t cs [] W (Nat.lt_succ_self _) hV (ht.below hb) hf (by simp;omega));have bc:=hid (fun(x:Rr) (hx:x∈rs)=>Sf hP ap hz hx);have aL:=hid (fun(x:Rr) (hx:x∈rs)=>Nat.le_trans (Sg (K:=K) x.2.1 (Gc ao x hx).2) (hl x hx));clear h hs ao ap hz hP hT hl aq aG;go_enter func120,ntmps120
 go_wp2_with fail
 rw[<-U,<-V,<-ad];obtain⟨sB,au⟩:∃sB,sB=w.heap.size+1:=⟨_,rfl⟩;rw[<-au]at ar ⊢;have aM:Hid (r=w.heap.size+1+1):=ad;have bd:Hid (sB=w.heap.size+1):=au;clear U V ad bb au
 go_loopw [16] (fun i wr=>∃j:Nat,i=zI (j:Int)/\j<=n/\Hid (∃vs,vs.length=j/\Uw w r n vs ((rs.take j).map (bgR rs K)) wr)/\Hid (wr.heap[w.heap.size]? =some (.cells #[.slice A n D] 51))/\Hid (zH wr sB (.cells #[.slice E G aa] 51))) (fun i _=>n-(intOf i).toNat)
 case atStart=>exact⟨0,rfl,Nat.zero_le _,⟨[],rfl,by rw[List.take_zero];exact aH.out⟩,aI,ar⟩
 case round=>
  obtain⟨j,rfl,hj,af,ab,ac⟩:=hrel;clear aH aI ar;by_cases hjn:j<n
  ·have bx:(j:Int)<(n:Int):=by omega
   have a0:decide ((j:Int)<(n:Int))=true:=by simp;omega
   have aN:j<rs.length:=by rw[<-aJ.out];exact hjn
   obtain⟨g,o,rfl,hg,k1,T1,a1,b1,c1,d1,bf,n1,bg,p1,aO,r0⟩:=HR.out.2.2 j aN;obtain⟨vs,av,y⟩:=af.out;have aP:∀q,wr.cell? ⟨g,q,none⟩=w.cell? ⟨g,q,none⟩:=fun q=>y.be.cell (p:=⟨g,q,none⟩) hg
   simp only[<-aP]at r0;obtain⟨z0,z1,z2,z3,z4,z5,z6,z7,z8,z9⟩:=r0;have bz:g<wr.heap.size:=World.block_lt_of_cell? wr _ z0;obtain⟨N0,aQ⟩:∃N0,N0=rs[j].1:=⟨_,rfl⟩;obtain⟨q1,aR⟩:∃q1,q1=rs[j].2.2:=⟨_,rfl⟩;rw[<-aQ]at z0;rw[<-aR]at z9;obtain⟨W4,ag⟩:∃W4,W4=wr.alloc (.cells #[zT N0,zI k1,zT T1,zU a1,zU b1,zU c1,zU d1,.slice bf n1 bg,zI p1,zI q1] 121):=⟨_,rfl⟩;have ah:zB wr W4:=by rw[ag];exact(Below.refl _ wr).alloc L0q _
   have aS:W4.heap.size=wr.heap.size+1:=by rw[ag];simp
   obtain⟨W5,aw⟩:∃W5,W5=W4.alloc (.cells #[.slice none 0 0] 24):=⟨_,rfl⟩;obtain⟨bB,ae⟩:∃bB,bB=wr.heap.size+1:=⟨_,rfl⟩;have aT:Bv W4 bB [] W5:=by
    rw[aw];exact⟨B0q.alloc L0q _,_,Qx _ _ (by omega),World.ownsRow_nil _ _ _ _⟩
   have aU:=y.be.trans (ah.mono y.be.size);have hx:=List.getElem_mem aN;have HC:=hid (aK.out W4 aU bB (by omega) ((ah.block _ (Qq ab.out)).trans ab.out) rs[j].2.1 _ W5 aT aO (bc.out _ hx) (aL.out _ hx));dsimp only[r8]at HC;rw[List.nil_append]at HC;obtain⟨sb,sg⟩:=Qy ac.out;have ls:=Qq ac.out;have bh:sB<wr.heap.size+1:=by omega
   obtain⟨zs,ai⟩:∃zs,zs=(fbT K rs[j].2.1).map fun x=>fdI x (nmL rs):=⟨_,rfl⟩
   rw[<-ai]at HC;have bi:zs.length<=8192:=by rw[ai,List.length_map];exact aL.out _ hx
   have bj:Hid (bgR rs K rs[j]=Lib.compact (srt zs)):=by show _=_;unfold bgR;rw[ai]
   have aV:=hid y;have Y:Hid (vs.length=j):=av;have Z:=hid ah;have bk:=hid aw;have aW:=hid ag;have lu:r<wr.heap.size:=Qq y.blk;have bl:Hid (W4.heap.size=wr.heap.size+1):=aS;clear aQ aR aP aO y av af aU aT ah ag aw ai hx aS
   go_wp2_with fail
   rw[<-ae]
   first|rw[<-aW.out,<-bk.out]|rw[<-aW.out]|skip
   refine HC.out.mono ?_;clear HC sb sg ls bh ae;rintro e w6 ⟨rfl,⟨aX,v6,aj,ak⟩,bm⟩;obtain⟨aY,aZ,rfl⟩:=Ux ak;have ax:=hid (y0v ak (by omega));obtain⟨c6,_⟩:=Qy aj;have l6:=Qq aj;have ay:=hid aj;have az:=hid ak;have a2:=hid aX;clear aX aj ak bm;obtain⟨kz,aA⟩:∃kz,kz=zs.length:=⟨_,rfl⟩;rw[<-aA]at ax az ay c6 bi;have a3:Hid (kz=zs.length):=aA;clear aA
   go_wp2_with fail
   refine ax.out.mono ?_;clear ax c6;rintro e w7 ⟨rfl,a4,aB⟩;have bn:some bB≠(Value.slice aY kz aZ).ownBlock:=fun e=>Gm az.out ay.out (fun bA e=>by cases e) e.symm
   have aC:=(aB.block _ l6 bn).trans ay.out;have a5:=hid (y0w (zs:=srt zs) (by rw[My,<-a3.out];exact a4) (by rw[My,<-a3.out];omega));obtain⟨c7,_⟩:=Qy aC;have l7:=Qq aC;have aD:∀g,(Value.slice aY kz aZ).ownBlock=some g->W4.heap.size<=g/\g<w6.heap.size:=fun g e=>az.out.lt g e
   have a6:=hid (a2.out.grown aB a2.out.size (fun g e=>(aD g e).1));have bo:=hid aD;clear a4 aB aC aD
   go_wp2_with fail
   refine a5.out.mono ?_;clear a5 c7;rintro e w8 ⟨v8,rfl,aE,a7⟩;have al:=a6.out.grown a7 a6.out.size (fun g e=>(bo.out g e).1);have am:=aV.out.below (Z.out.trans (al.mono (by rw[bl.out];omega)));obtain⟨k8,a8⟩:∃k8,k8=(Lib.compact (srt zs)).length:=⟨_,rfl⟩;have aF:=aE;rw[<-a8]at aF;obtain⟨bp,bq,rfl⟩:=Ux aF;have bC:r<w8.heap.size:=Qq am.blk;obtain⟨x8,f8⟩:=Qj am.blk j (.slice none 0 0) (by have:=y0x vs n (Value.slice none 0 0) (by rw[Y.out];exact hjn);rw[Y.out]at this;rw[Y.out];exact this);have br:=hid ((al.block _ (Nat.lt_of_lt_of_le (Qq ab.out) Z.out.size)).trans ((Z.out.block _ (Qq ab.out)).trans ab.out));have bs:=hid ((al.block _ (Nat.lt_of_lt_of_le (Qq ac.out) Z.out.size)).trans ((Z.out.block _ (Qq ac.out)).trans ac.out));have bt:=hid am;have bu:=hid aE;have bv:=hid (Nat.le_trans aV.out.be.size Z.out.size);clear aE aF a7 al am a8
   go_wp2_with fail
   refine⟨⟨j+1,by go_num,by omega,hid ⟨vs++[.slice bp k8 bq],by rw[List.length_append,Y.out];rfl,?_⟩,hid ((Below.heap_setCell _ _ _ _ (by have:=aM.out;show w.heap.size≠r;omega)).trans br.out),hid ((Below.heap_setCell _ _ _ _ (by have:=aM.out;have:=bd.out;show sB≠r;omega)).trans bs.out)⟩,by simp[intOf];omega⟩;have a9:=bt.out.step (u:=bgR rs K rs[j]) (by rw[Y.out];exact hjn) (by rw[bj.out];exact z2u bu.out bv.out);rw[Y.out]at a9;rw[show(rs.take (j+1)).map (bgR rs K)=(rs.take j).map (bgR rs K)++[bgR rs K rs[j]] by rw[show rs.take (j+1)=rs.take j++[rs[j]] by simp,List.map_append];rfl];exact a9
  ·have a0:decide ((j:Int)<(n:Int))=false:=by simp;omega
   have ba:rs.take j=rs:=List.take_of_length_le (by rw[<-aJ.out];omega);rw[ba]at af;clear ba aK
   go_wp2_with fail
   go_ret;obtain⟨vs,av,y⟩:=af.out;exact⟨r,vs,rfl,by omega,y⟩
def Cb(us:List (List Int))(to:Nat)(sn sn':List Bool):Prop:=sn'.length=sn.length/\(∀i:Nat,sn[i]? =some true->sn'[i]? =some true)/\∀i:Nat,sn[i]? =some false->sn'[i]? =some true->∀k∈us.getD i [],∃m:Nat,k=(m:Int)/\m≠to/\sn'[m]? =some true
theorem Cb.refl(us:List (List Int))(to:Nat)(o:List Bool):Cb us to o o:=⟨rfl,fun _ h=>h,fun i y r=>by rw[y]at r;cases r⟩
theorem Cb.trans{us:List (List Int)}{to:Nat}{r o y:List Bool}(h:Cb us to r o)(k:Cb us to o y):Cb us to r y:=by
 obtain⟨A,E,G⟩:=h;obtain⟨U,D,V⟩:=k;refine⟨U.trans A,fun i Y=>D i (E i Y),fun i a b x hx=> ?_⟩;have hl:i<o.length:=by rw[A];exact(List.getElem?_eq_some_iff.1 a).1
 cases e:o[i]with
 |true=>
  obtain⟨m,Z,e2,e3⟩:=G i a (by rw[List.getElem?_eq_getElem hl,e]) x hx;exact⟨m,Z,e2,D m e3⟩
 |false=>exact V i (by rw[List.getElem?_eq_getElem hl,e]) b x hx
theorem Cb.mark{us:List (List Int)}{p:Nat}{o r:List Bool}(h:Cb us to (o.set p true) r)(D:o[p]? =some false)(ha:∀k∈us.getD p [],∃m:Nat,k=(m:Int)/\m≠to/\r[m]? =some true):Cb us to o r/\r[p]? =some true:=by
 obtain⟨E,y,G⟩:=h;have A:p<o.length:=(List.getElem?_eq_some_iff.1 D).1;refine⟨⟨by rw[E,List.length_set],fun i U=>y i ?_,fun i a b=> ?_⟩,y p (List.getElem?_set_self A)⟩
 ·by_cases e:p=i
  ·subst e;exact List.getElem?_set_self A
  ·rw[List.getElem?_set_ne e];exact U
 ·by_cases e:p=i
  ·subst e;exact ha
  ·exact G i (by rw[List.getElem?_set_ne e];exact a) b
def Bck(us:List (List Int))(to:Nat):Prop:=∃x:Nat,(x:Int)∈us.getD to []/\Rch us x to
theorem y3f{us:List (List Int)}{n:Nat}{o:List Bool}(h:Cb us to (List.replicate n false) o)(ha:∀k∈us.getD to [],∃m:Nat,k=(m:Int)/\m≠to/\o[m]? =some true):¬Bck us to:=fun⟨x,hx,A⟩=>by
 obtain⟨D,_,E⟩:=h;have G:∀b,Rch us x b->b≠to/\o[b]? =some true:=fun b U=>by
  induction U with
  |refl=>
   obtain⟨m,V,r,y⟩:=ha _ hx;obtain rfl:x=m:=by omega
   exact⟨r,y⟩
  | @step b c _ hm ih=>
    have hl:b<n:=by
     have:=(List.getElem?_eq_some_iff.1 ih.2).1;rw[D,List.length_replicate]at this;exact this
    obtain⟨m,V,r,y⟩:=E b (by rw[List.getElem?_replicate,if_pos hl]) ih.2 _ hm;obtain rfl:c=m:=by omega
    exact⟨r,y⟩
 exact(G to A).1 rfl
structure Bs (base n to bB tB sB lB sb:Nat) (uv:Value) (w0:World) (sn:List Bool) (W:World):Prop where
 bbx:Boxed W bB 141 uv
 tbx:Boxed W tB 3 (zI (to:Int))
 sbx:Boxed W sB 274 (zS sb n n)
 sbl:W.heap[sb]? =some (.cells (sn.map Value.bool).toArray 4)
 lbx:Boxed W lB 275 (.func (.func 155) #[] #[zP bB 0,zP tB 0,zP sB 0,zP lB 0])
 be:Below base w0 W
 len:sn.length=n
theorem Bs.mark{base n bB o sB r sb:Nat}{A:Value}{w0 W:World}{D:List Bool}(h:Bs base n to bB o sB r sb A w0 D W)(G:base<=sb)(p:Nat):Bs base n to bB o sB r sb A w0 (D.set p true) (W.setCell ⟨sb,p,none⟩ (.bool true)):=by
 have keep:∀{b:Nat} {y:Array Value} {u:TypeId},zH W b (.cells y u)->u≠4->(W.setCell ⟨sb,p,none⟩ (.bool true)).heap[b]? =some (.cells y u):=fun E U=>(Below.heap_setCell _ _ _ _ (fun e=>y0B E h.sbl U e)).trans E
 refine⟨keep h.bbx (by decide),keep h.tbx (by decide),keep h.sbx (by decide),?_,keep h.lbx (by decide),h.be.setCell (p:=⟨sb,p,none⟩) G _,by rw[List.length_set,h.len]⟩;rw[Qk h.sbl];congr 2;apply Array.ext';simp[List.map_set]
theorem y3g(to o sB r:Nat)(W:World)(h:Boxed W o 3 (zI (to:Int))):
  Calls prog 157 #[zI (to:Int),zP o 0,zP sB 0,zP r 0] W fun e w'=>e=.returned (.bool true)/\w'=W:=by
 have c1:=h.cell;have y:((to:Int) == (to:Int))=true:=by simp
 go_enter func157,ntmps157
 go_wp2_with fail
 go_ret;exact⟨rfl,rfl⟩
theorem y3h(o to n r sB y sb:Nat)(W:World)(h:Boxed W r 3 (zI (to:Int)))(A:Boxed W sB 274 (zS sb n n))(D:zC W sb o (.bool true))(E:o≠to)(G:o<n)(U:n<=1048576):
  Calls prog 157 #[zI (o:Int),zP r 0,zP sB 0,zP y 0] W fun e w'=>e=.returned (.bool false)/\w'=W:=by
 have c1:=h.cell;have c2:=A.cell;have V:((o:Int) == (to:Int))=false:=by rw[beq_eq_false_iff_ne];omega
 go_enter func157,ntmps157
 go_wp2_with fail
 go_ret;exact⟨rfl,rfl⟩
def NxP(base n to bB tB sB lB sb:Nat)(uv:Value)(us:List (List Int))(w0:World)(sn:List Bool)(nx:Nat)(e:Ending)(w':World):Prop:=∃sn',Bs base n to bB tB sB lB sb uv w0 sn' w'/\((e=.returned (.bool true)/\Rch us nx to)∨(e=.returned (.bool false)/\Cb us to sn sn'/\nx≠to/\sn'[nx]? =some true))
def LeP(base n to bB tB sB lB sb:Nat)(uv:Value)(us:List (List Int))(w0:World)(sn:List Bool)(fr:Nat)(e:Ending)(w':World):Prop:=∃sn',Bs base n to bB tB sB lB sb uv w0 sn' w'/\((e=.returned (.bool true)/\∃x:Nat,(x:Int)∈us.getD fr []/\Rch us x to)∨(e=.returned (.bool false)/\Cb us to sn sn'/\∀k∈us.getD fr [],∃m:Nat,k=(m:Int)/\m≠to/\sn'[m]? =some true))
theorem y3i{us:List (List Int)}{o r:List Bool}(h:Cb us to o r):unm r<=unm o:=z2x o r h.1 h.2.1
theorem y3j(base n to bB y sB A sb:Nat)(E:Value)(us:List (List Int))(w0:World)(hn:n<=1048576)(N:Nat)(HN:Hid (∀(h:List Bool) (W:World) (r:Nat),unm h<N->Bs base n to bB y sB A sb E w0 h W->r<n->Calls prog 157 #[zI (r:Int),zP y 0,zP sB 0,zP A 0] W (NxP base n to bB y sB A sb E us w0 h r)))
  (u:List Int)(rso:Option Addr)(k af:Nat)(hk:k=u.length)(al:k<=1048576)(HR:Hid (∀j (hj:j<u.length),∃g o,rso=some ⟨g,o,none⟩/\g<base/\zC w0 g (o+j) (zI u[j])))(HX:Hid (∀x∈u,∃m:Nat,m<n/\x=(m:Int)))
  (h:List Bool)(W:World)(ac:unm h<N)(hB:Bs base n to bB y sB A sb E w0 h W):
  Calls prog 181 #[.slice rso k af,.func (.func 157) #[] #[zP y 0,zP sB 0,zP A 0]] W fun e w'=>∃Y,Bs base n to bB y sB A sb E w0 Y w'/\((∃j:Nat,e=.returned (zI (j:Int))/\∃x:Nat,(x:Int)∈u/\Rch us x to)∨(e=.returned (zI (-1))/\Cb us to h Y/\∀x∈u,∃m:Nat,x=(m:Int)/\m≠to/\Y[m]? =some true)):=by
 have HB:=hid hB;have HK:Hid (k=u.length):=hk;have ag:Hid (unm h<N):=ac;clear hB hk ac;go_enter func181,ntmps181
 go_wp2_with fail
 go_loopw [8] (fun i wr=>∃j:Nat,i=zI (j:Int)/\j<=k/\Hid (∃D,Bs base n to bB y sB A sb E w0 D wr/\Cb us to h D/\∀i (Z:i<u.length),i<j->∃m:Nat,u[i]=(m:Int)/\m≠to/\D[m]? =some true)) (fun i _=>k-(intOf i).toNat)
 case atStart=>exact⟨0,rfl,Nat.zero_le _,h,HB.out,Cb.refl _ _ _,fun i Z h0=>by omega⟩
 case round=>
  obtain⟨j,rfl,hj,HJ⟩:=hrel;by_cases hjn:j<k
  ·have am:(j:Int)<(k:Int):=by omega
   have a0:decide ((j:Int)<(k:Int))=true:=by simp;omega
   have aa:j<u.length:=by rw[<-HK.out];exact hjn
   obtain⟨D,G,U,V⟩:=HJ.out;obtain⟨rg,ro,rfl,ah,ad⟩:=HR.out j aa;have cr:=(G.be.cell (p:=⟨rg,ro+j,none⟩) ah).trans ad;obtain⟨r,ai,ab⟩:=HX.out u[j] (List.getElem_mem aa);rw[ab]at cr;have HC:=hid (HN.out D wr r (by have:=y3i U;have:=ag.out;omega) G ai);have ak:=hid U;have HA:=hid V;have HE:Hid (u[j]=(r:Int)):=ab;clear G U V ad ab HJ
   go_wp2_with(first
    |(go_at_call 157;refine HC.out.mono ?_;clear HC;rintro e w5 ⟨ae,v5,⟨rfl,r5⟩|⟨rfl,c5,n5,m5⟩⟩))
   ·go_ret
    exact⟨ae,v5,.inl ⟨j,rfl,r,by rw[<-HE.out];exact List.getElem_mem aa,r5⟩⟩
   ·refine⟨⟨j+1,by go_num,by omega,hid ⟨ae,v5,ak.out.trans c5,fun i Z ao=> ?_⟩⟩,by simp[intOf];omega⟩
    by_cases e:i=j
    ·subst e
     exact⟨r,HE.out,n5,m5⟩
    ·obtain⟨m,h1,h2,h3⟩:=HA.out i Z (by omega)
     exact⟨m,h1,h2,c5.2.1 m h3⟩
  ·have a0:decide ((j:Int)<(k:Int))=false:=by simp;omega
   go_wp2_with fail
   go_ret;obtain⟨D,G,U,V⟩:=HJ.out;refine⟨D,G,.inr ⟨rfl,U,fun x hx=> ?_⟩⟩;obtain⟨q,hq,rfl⟩:=List.getElem_of_mem hx;exact V q hq (by have:=HK.out;omega)
theorem y3k(base n to bB r sB y sb:Nat)(A:Value)(us:List (List Int))(w0:World)(hn:n<=1048576)(N:Nat)(G:Hid (∀(h:List Bool) (W:World) (D:Nat),unm h<N->Bs base n to bB r sB y sb A w0 h W->D<n->Calls prog 157 #[zI (D:Int),zP r 0,zP sB 0,zP y 0] W (NxP base n to bB r sB y sb A us w0 h D)))
  (u:List Int)(rso:Option Addr)(k U:Nat)(V:k=u.length)(Y:k<=1048576)(Z:Hid (∀j (hj:j<u.length),∃g o,rso=some ⟨g,o,none⟩/\g<base/\zC w0 g (o+j) (zI u[j])))(HX:Hid (∀x∈u,∃m:Nat,m<n/\x=(m:Int)))
  (h:List Bool)(W:World)(aa:unm h<N)(hB:Bs base n to bB r sB y sb A w0 h W):
  Calls prog 156 #[.slice rso k U,.func (.func 157) #[] #[zP r 0,zP sB 0,zP y 0]] W fun e w'=>∃E,Bs base n to bB r sB y sb A w0 E w'/\((e=.returned (.bool true)/\∃x:Nat,(x:Int)∈u/\Rch us x to)∨(e=.returned (.bool false)/\Cb us to h E/\∀x∈u,∃m:Nat,x=(m:Int)/\m≠to/\E[m]? =some true)):=by
 have HC:=hid (y3j base n to bB r sB y sb A us w0 hn N G u rso k U V Y Z HX h W aa hB);clear G V Y Z HX aa hB;go_enter func156,ntmps156
 go_wp2_with fail
 refine HC.out.mono ?_;clear HC;rintro e w5 ⟨ab,v5,⟨j,rfl,hx⟩|⟨rfl,c5,a5⟩⟩
 ·have a0:decide ((0:Int)<=(j:Int))=true:=by simp
  go_wp2_with fail
  go_ret;exact⟨ab,v5,.inl ⟨by simp,hx⟩⟩
 ·go_wp2_with fail
  go_ret;exact⟨ab,v5,.inr ⟨rfl,c5,a5⟩⟩
theorem z4g(base n to bB r sB y sb:Nat)(A:Value)(us:List (List Int))(w0:World)(HU:Hid (UsM w0 base A us))(af:Hid (us.length=n))(Z:Hid (∀u∈us,∀x∈u,∃m:Nat,m<n/\x=(m:Int)))(hn:n<=1048576)(N:Nat)(HN:Hid (∀(o:List Bool) (W:World) (G:Nat),unm o<N->Bs base n to bB r sB y sb A w0 o W->G<n->Calls prog 157 #[zI (G:Int),zP r 0,zP sB 0,zP y 0] W (NxP base n to bB r sB y sb A us w0 o G)))
  (o:List Bool)(W:World)(h:Nat)(aa:unm o<N)(D:Bs base n to bB r sB y sb A w0 o W)(ag:h<n):
  Calls prog 155 #[zI (h:Int),zP bB 0,zP r 0,zP sB 0,zP y 0] W (LeP base n to bB r sB y sb A us w0 o h):=by
 obtain⟨aj,ak,rfl,al,ab⟩:=HU.out;have U:h<us.length:=by rw[af.out];exact ag
 obtain⟨ug,uo,rv,rfl,ah,ac,rso,ai,rfl,V,ad⟩:=ab h U;have cb:=D.bbx.cell;have cr:=(D.be.cell (p:=⟨ug,uo+h,none⟩) ah).trans ac;have Y:Hid (us.getD h []=us[h]):=by
  show _=_;rw[List.getD_eq_getElem?_getD,List.getElem?_eq_getElem U];rfl
 have E:=hid (y3k base n to bB r sB y sb _ us w0 hn N HN us[h] rso us[h].length ai rfl V ad (hid (Z.out us[h] (List.getElem_mem U))) o W aa D);obtain⟨u,hu⟩:∃u,u=us[h]:=⟨_,rfl⟩;rw[<-hu]at E Y cr V;obtain⟨k,hk⟩:∃k,k=u.length:=⟨_,rfl⟩;rw[<-hk]at E cr V;clear HN ab ad ac D aa hu hk Z;go_enter func155,ntmps155
 go_wp2_with fail
 refine E.out.mono ?_;clear E;rintro e w5 ⟨ae,v5,⟨rfl,x,hx,hr⟩|⟨rfl,c5,a5⟩⟩
 ·go_wp2_with fail
  go_ret;exact⟨ae,v5,.inl ⟨rfl,x,by rw[Y.out];exact hx,hr⟩⟩
 ·go_wp2_with fail
  go_ret;exact⟨ae,v5,.inr ⟨rfl,c5,by rw[Y.out];exact a5⟩⟩
theorem z4h(base n to bB r sB y sb:Nat)(D:Value)(us:List (List Int))(w0:World)(G:Hid (UsM w0 base D us))(U:Hid (us.length=n))(V:Hid (∀u∈us,∀x∈u,∃m:Nat,m<n/\x=(m:Int)))(Y:base<=sb)(Z:n<=1048576):
  ∀(N:Nat) (o:List Bool) (W:World) (h:Nat),unm o<N->Bs base n to bB r sB y sb D w0 o W->h<n->Calls prog 157 #[zI (h:Int),zP r 0,zP sB 0,zP y 0] W (NxP base n to bB r sB y sb D us w0 o h)
 |0,o,W,h,hN,_,_=>by omega
 |N+1,o,W,h,hN,hB,hp=>by
  by_cases e:h=to
  ·subst e
   refine(y3g h r sB y W hB.tbx).mono fun e w' E=> ?_
   rw[E.2];exact⟨o,hB,.inl ⟨E.1,.refl⟩⟩
  have aa:h<o.length:=by rw[hB.len];exact hp
  cases hb:o[h]with
  |true=>
   have A:o[h]? =some true:=by rw[List.getElem?_eq_getElem aa,hb]
   refine(y3h h to n r sB y sb W hB.tbx hB.sbx (z2y hB.sbl A).1 e hp Z).mono fun e' w' E=> ?_
   rw[E.2];exact⟨o,hB,.inr ⟨E.1,Cb.refl _ _ _,e,A⟩⟩
  |false=>
   have A:o[h]? =some false:=by rw[List.getElem?_eq_getElem aa,hb]
   have ac:=z2w o h A;have HC:=hid (z4g base n to bB r sB y sb D us w0 G U V Z N (hid (z4h base n to bB r sB y sb D us w0 G U V Y Z N)) (o.set h true) (W.setCell ⟨sb,h,none⟩ (.bool true)) h (by omega) (hB.mark Y h) hp);have c1:=hB.tbx.cell;have c2:=hB.sbx.cell;obtain⟨x1,f1⟩:=z2y hB.sbl A;have cl:=(hB.mark Y h).lbx.cell;have a0:((h:Int) == (to:Int))=false:=by rw[beq_eq_false_iff_ne];omega
   have HS:=hid A;have HE:Hid (h≠to):=e;clear A ac hB hb e G U V;go_enter func157,ntmps157
   go_wp2_with(first
    |(go_at_call 155;refine HC.out.mono ?_;clear HC;rintro e w5 ⟨ab,v5,⟨rfl,x,hx,hr⟩|⟨rfl,c5,a5⟩⟩))
   ·go_ret
    exact⟨ab,v5,.inl ⟨rfl,(Rch.refl.step hx).trans hr⟩⟩
   ·go_ret
    obtain⟨q1,q2⟩:=c5.mark HS.out a5;exact⟨ab,v5,.inr ⟨rfl,q1,HE.out,q2⟩⟩
theorem y3l(U:Value)(us:List (List Int))(n to:Nat)(w:World)(V:UsM w w.heap.size U us)(r:us.length=n)(D:∀u∈us,∀x∈u,∃m:Nat,m<n/\x=(m:Int))(E:n<=1048576)(ha:to<n):
  Calls prog 121 #[U,zI (to:Int)] w fun e w'=>((e=.returned (.bool true)/\Bck us to)∨(e=.returned (.bool false)/\¬Bck us to))/\zB w w':=by
 have ac:=y0C n E;have y:=hid V;obtain⟨h,o,rfl,ad,aa⟩:=V;rw[r]at y ⊢;clear aa;go_enter func121,ntmps121;obtain⟨A,G⟩:∃A,A=((((w.alloc (.cells #[.slice h n o] 141)).alloc (.cells #[zI (to:Int)] 3)).alloc (.cells (Array.replicate n (Value.bool false)) 4)).alloc (.cells #[zS (w.heap.size+1+1) n n] 274)).alloc (.cells #[.func (.func 155) #[] #[zP w.heap.size 0,zP (w.heap.size+1) 0,zP (w.heap.size+1+1+1) 0,zP (w.heap.size+1+1+1+1) 0]] 275):=⟨_,rfl⟩;have Y:Bs w.heap.size n to w.heap.size (w.heap.size+1) (w.heap.size+1+1+1) (w.heap.size+1+1+1+1) (w.heap.size+1+1) (.slice h n o) w (List.replicate n false) A:=by
  rw[G];refine⟨?_,?_,?_,?_,?_,?_,List.length_replicate⟩
  ·exact((((Boxed.new w 141 (.slice h n o)).alloc _).alloc _).alloc _).alloc _
  ·have:=(((Boxed.new (w.alloc (.cells #[.slice h n o] 141)) 3 (zI (to:Int))).alloc (.cells (Array.replicate n (Value.bool false)) 4)).alloc (.cells #[zS (w.heap.size+1+1) n n] 274)).alloc (.cells #[.func (.func 155) #[] #[zP w.heap.size 0,zP (w.heap.size+1) 0,zP (w.heap.size+1+1+1) 0,zP (w.heap.size+1+1+1+1) 0]] 275)
   simpa only[World.size_alloc]using this
  ·have:=(Boxed.new (((w.alloc (.cells #[.slice h n o] 141)).alloc (.cells #[zI (to:Int)] 3)).alloc (.cells (Array.replicate n (Value.bool false)) 4)) 274 (zS (w.heap.size+1+1) n n)).alloc (.cells #[.func (.func 155) #[] #[zP w.heap.size 0,zP (w.heap.size+1) 0,zP (w.heap.size+1+1+1) 0,zP (w.heap.size+1+1+1+1) 0]] 275)
   simpa only[World.size_alloc]using this
  ·refine(Below.heap_alloc _ _ _ (by simp)).trans ((Below.heap_alloc _ _ _ (by simp)).trans ?_)
   rw[Qx _ _ (by simp)];simp
  ·have:=Boxed.new ((((w.alloc (.cells #[.slice h n o] 141)).alloc (.cells #[zI (to:Int)] 3)).alloc (.cells (Array.replicate n (Value.bool false)) 4)).alloc (.cells #[zS (w.heap.size+1+1) n n] 274)) 275 (.func (.func 155) #[] #[zP w.heap.size 0,zP (w.heap.size+1) 0,zP (w.heap.size+1+1+1) 0,zP (w.heap.size+1+1+1+1) 0])
   simpa only[World.size_alloc]using this
  ·exact(((((Below.refl _ w).alloc L0q _).alloc (by simp) _).alloc (by simp;omega) _).alloc (by simp;omega) _).alloc (by simp;omega) _
 have ab:unm (List.replicate n false)=n:=by simp[unm]
 have Z:=hid (z4g w.heap.size n to _ _ _ _ _ _ us w y r D E (n+1) (hid (z4h w.heap.size n to _ _ _ _ _ _ us w y r D (by omega) E (n+1))) (List.replicate n false) A to (by omega) Y ha);clear Y ab y D r
 go_wp2_with fail
 rw[<-G];refine Z.out.mono ?_;clear Z G;rintro e w6 ⟨ae,v6,⟨rfl,hb⟩|⟨rfl,c6,a6⟩⟩
 ·go_wp2_with fail
  go_ret;exact⟨.inl ⟨rfl,hb⟩,v6.be⟩
 ·go_wp2_with fail
  go_ret;exact⟨.inr ⟨rfl,y3f c6 a6⟩,v6.be⟩
end Go.Proofs.YtmelafeingcgnaaGreatDoor
