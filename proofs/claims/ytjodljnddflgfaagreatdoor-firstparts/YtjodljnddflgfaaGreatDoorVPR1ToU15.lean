/- Lemmas for the last text. Conditions: those that each names. -/
import Derived.Test.YtjodljnddflgfaaGreatDoorVF6ToU5
import Derived.Test.YtjodljnddflgfaaGreatDoorVU12ToU13
import Derived.Test.YtjodljnddflgfaaGreatDoorVO5ToO16
set_option linter.unusedVariables false
set_option maxRecDepth 100000
set_option maxHeartbeats 8000000
namespace Go.Proofs.YtjodljnddflgfaaGreatDoor
open Go.Proofs.Tryz
open Go.RowKit Go.Shelf
variable {j:Nat} {rs:List Rr}
structure PqR (w2:World) (j:Nat) (ps:List Rr) (xs:List Value) (a:Value) (W:World):Prop where
 be:Below w2.heap.size w2 W
 ow:W.ownsRow w2.heap.size 57 10 a j xs
 rq:Zl W (fun g=>w2.heap.size<=g) (ps.take j) xs
theorem PqR.step{w2:World}{ps:List Rr}{xs cs:List Value}{a a':Value}{wr w3 W4 w6:World}{x:Rr}
  (h:PqR w2 j ps xs a wr)(hj:j<ps.length)(hx:x=ps[j])(hb:Below wr.heap.size wr w3)(hq:RqR w3 (fun g=>wr.heap.size<=g) x cs)
  (h4:Below w3.heap.size w3 W4)(hown:w6.ownsRow w2.heap.size 57 10 a' (j+1) (xs++cs))(hgr:W4.grownBy w6 a.ownBlock):PqR w2 (j+1) ps (xs++cs) a' w6:=by
 have hs2:=h.be.size;have hs3:=hb.size;have hs4:=h4.size;have hbe:=h.be.trans ((hb.trans (h4.mono hs3)).mono hs2);have key:∀g cur,g<w3.heap.size->w2.heap.size<=g->w3.heap[g]? =some (.cells cur 30)->w6.heap[g]? =w3.heap[g]? :=fun g cur h1 h3 h5=>by
  refine(hgr.block g (by omega) (fun e=> ?_)).trans (h4.block g h1);have hl:=(h.ow.lt g e.symm).2;have h6:wr.heap[g]? =some (.cells cur 30):=(hb.block g hl).symm.trans h5;exact Wj h.ow h6 (fun cur e=>by cases e) e.symm
 refine⟨hbe.grown hgr hbe.size (fun j ej=>(h.ow.lt j ej).1),hown,?_⟩;rw[List.take_succ_eq_append_getElem hj,<-hx];refine Zl.append _ _ _ _ (Zl.kept (fun g cur hp hq=> ?_) _ _ h.rq) (by rw[List.length_take,Nat.min_eq_left (by omega)];exact h.ow.1) ?_
 ·have hlt:=Qz hq
  exact⟨(key g cur (by omega) hp ((hb.block g hlt).trans hq)).trans (hb.block g hlt),hp⟩
 ·obtain⟨c,h1,h2⟩:=hq
  exact⟨c,h1,Xv.kept (fun g cur hp hq=>⟨key g cur (Qz hq) (by omega) hq,by omega⟩) _ _ h2⟩
open Go.Maps
def ExV(t:RT)(V:ByteArray):Prop:=(okT t=false->V.size=0)/\(okT t=true->∃nd,Tq t nd/\Vk nd/\Wf Nmq nd/\V=exS nd)
def ExP(rs:List Rr)(t:RT)(X:Option (Int ⊕ (Int×Int)))(V:ByteArray)(W:World)(e:Ending)(w':World):Prop:=Below W.heap.size W w'/\
 ((X≠none/\∃v,e=.returned (.tuple #[ov (false,false,false),v])/\Zd X W.heap.size w' v)∨
  (X=none/\(V.size=0∨hrT (nmL rs) t=false)/\e=.returned (.tuple #[ov (false,false,false),.iface 43 (.int .i64 1)]))∨
  (X=none/\V.size≠0/\hrT (nmL rs) t=true/\∃m,Yk (itr rs m) rs/\e=.returned (.tuple #[ov (ofT (itr rs m) t),.nilIface])))
theorem z4B(h:ckR rs=none):∀x∈rs,∀y∈rs,y.1=x.1->y=x:=fun x hx y hy e=>by
 obtain⟨i,hi,rfl⟩:=List.getElem_of_mem hx;obtain⟨j,hj,rfl⟩:=List.getElem_of_mem hy;have h1:=z4g h i hi;have h2:=z4g h j hj;rw[e,h1]at h2;obtain rfl:i=j:=by omega
 rfl
theorem Bf(h:okG rs=true):∀x∈rs,nmS x.1=true/\okT x.2.1=true:=fun x hx=>by
 unfold okG at h;rw[Bool.and_eq_true,Bool.and_eq_true]at h;have:=List.all_eq_true.1 h.2.2 x hx;unfold okR at this;rw[Bool.and_eq_true]at this;exact this
theorem z4C{V:ByteArray}(h:V.size=0):V={data:=#[]}:=by
 apply ByteArray.ext;exact Array.eq_empty_of_size_eq_zero h
theorem Ix{V:ByteArray}(h:V.size≠0):V.toList.isEmpty=false:=by
 cases e:V.toList with
 |nil=>
  exfalso;apply h;have:=congrArg List.length e;rw[ByteArray.toList_eq]at this;simpa using this
 |cons x r=>rfl
theorem Wh(so:Option Addr)(n cap:Nat)(rs:List Rr)(B:Nat)(W:World)(h:Qh W B so n rs)(hB:B<=W.heap.size)(hz:RgZ rs)(hok:okG rs=true)(hck:ckR rs=none):Calls prog 61 #[.agg #[.slice so n cap]] W (LsP rs W):=
 callsIn_wide.1 (y1x so n cap rs W (h.upto hB) hz (fun x hx=>(Bf hok x hx).2) (z4B hck) (Dx hok).2 0)
theorem y1H(k:Int)(T:ByteArray)(a b c d p:Int)(so:Option Addr)(n cap:Nat)(t:RT)(w:World)(hT:TabIs w)(ht:Qk w w.heap.size t (r8 k T a b c d so n cap p))(hz:RtZ t)(hu:RtU t):
  ∃V,ExV t V/\∀W:World,Below w.heap.size w W->Calls prog 59 #[.agg (r8 k T a b c d so n cap p).toArray] W fun e w'=>e=.returned (.string V)/\Below W.heap.size W w':=by
 cases hk:okT t with
 |false=>
  refine⟨{data:=#[]},⟨fun _=>rfl,(fun h=>by rw[hk]at h;cases h)⟩,fun W hW=> ?_⟩;exact y1D k T a b c d p so n cap t W (Qk.upto hW.size t _ (ht.below hW)) hz hk
 |true=>
  obtain⟨nd,h1,h2,h3⟩:=Th t hk hu;refine⟨exS nd,⟨(fun h=>by rw[hk]at h;cases h),fun _=>⟨nd,h1,h2,h3,rfl⟩⟩,fun W hW=> ?_⟩;exact z4y k T a b c d p so n cap t nd W (hT.below hW hT.lt) (Qk.upto hW.size t _ (ht.below hW)) hz h1 h2 h3
theorem y1I(so:Option Addr)(n cap:Nat)(rs:List Rr)(X:Option (Int ⊕ (Int×Int)))(k:Int)(T:ByteArray)(a b c d p:Int)(so1:Option Addr)(n1 cap1:Nat)(t:RT)(B:Nat)(w:World)(hX:CkX rs X)(hC:CkC so n cap rs X w)(hT:TabIs w)(hz:RgZ rs)(h:Qh w B so n rs)(hB:B<=w.heap.size)(ht:Qk w w.heap.size t (r8 k T a b c d so1 n1 cap1 p))(htz:RtZ t)(htu:RtU t):
  ∃V,ExV t V/\∀W:World,Below w.heap.size w W->Calls prog 29 #[.agg #[.slice so n cap],.agg (r8 k T a b c d so1 n1 cap1 p).toArray] W (ExP rs t X V W):=by
 obtain⟨V,hV,hE⟩:=y1H k T a b c d p so1 n1 cap1 t w hT ht htz htu;refine⟨V,hV,fun W hW=> ?_⟩;have hCh:∀W':World,Below W.heap.size W W'->Calls prog 58 #[.agg #[.slice so n cap]] W' fun e w'=>∃v,e=.returned v/\Zd X W'.heap.size w' v/\Below W'.heap.size W' w':=fun W' hW'=>Wq so n cap rs X W' (hC.from (hW.trans (hW'.mono hW.size)))
 have hup:∀{W'},Below W.heap.size W W'->Below w.heap.size w W':=fun hW'=>hW.trans (hW'.mono hW.size)
 cases X with
 |some x=>
  refine(y1G so n cap (some x) k T a b c d so1 n1 cap1 p W (by simp) hCh).mono fun e w' he=> ?_
  obtain⟨v,h1,h2,h3⟩:=he;exact⟨h3,.inl ⟨by simp,v,h1,h2⟩⟩
 |none=>
  have hN:∀W':World,Below W.heap.size W W'->Calls prog 58 #[.agg #[.slice so n cap]] W' fun e w'=>e=.returned .nilIface/\Below W'.heap.size W' w':=fun W' hW'=>(hCh W' hW').mono fun e w' he=>by
   obtain⟨v,h1,h2,h3⟩:=he;have h2:v=.nilIface:=h2;rw[h1,h2];exact⟨rfl,h3⟩
  have hE2:=fun(W':World) (hW':Below W.heap.size W W')=>hE W' (hup hW')
  have hH:∀W':World,Below W.heap.size W W'->Calls prog 60 #[.agg #[.slice so n cap],.agg (r8 k T a b c d so1 n1 cap1 p).toArray] W' fun e w'=>e=.returned (.bool (hrT (nmL rs) t))/\Below W'.heap.size W' w':=fun W' hW'=>
   Wg (nmL rs) rs rfl so n cap B _ t _ w.heap.size W' (Nat.lt_succ_self _) (ht.below (hup hW')) (hup hW').size (h.below ((hup hW').mono hB)) (Nat.le_trans hB (hup hW').size)
  by_cases h0:V.size=0
  ·refine(z4z so n cap k T a b c d so1 n1 cap1 p W V _ (.inl (z4C h0)) hN hE2 hH).mono fun e w' he=> ?_
   exact⟨he.2,.inr (.inl ⟨rfl,.inl h0,he.1⟩)⟩
  ·cases hh:hrT (nmL rs) t with
   |false=>
    refine(z4z so n cap k T a b c d so1 n1 cap1 p W V _ (.inr ⟨Ix h0,hh⟩) hN hE2 hH).mono fun e w' he=> ?_
    exact⟨he.2,.inr (.inl ⟨rfl,.inr hh,he.1⟩)⟩
   |true=>
    rw[hh]at hH;obtain⟨hok,hck,_⟩:=hX;have hokT:okT t=true:=by
     cases e:okT t with
     |true=>rfl
     |false=>exact absurd (hV.1 e) h0
    refine(z4A so n cap rs k T a b c d so1 n1 cap1 p t W V (Ix h0) hN hE2 hH (fun W' hW'=>Wh so n cap rs B W' (h.below ((hup hW').mono hB)) (Nat.le_trans hB (hup hW').size) hz hok hck) (fun W' M nn m hW' hNm=>Wy M nn (itr rs m) t _ W' w.heap.size (ht.below (hup hW')) (hup hW').size htz hokT hNm)).mono fun e w' he=> ?_
    obtain⟨m,h1,h2,h3⟩:=he;exact⟨h3,.inr (.inr ⟨rfl,h0,hh,m,h1,h2⟩)⟩
theorem Tryz.infoOut:(Tryz.prog.info? 71).map (fun i=>(i.zero,i.size,i.bytes))=some (some (.agg #[.bool false,.bool false,.bool false]),3,3):=by kernel_rfl
theorem Tryz.sliceOuts:Tryz.prog.underlying 48=some (.slice 71):=by kernel_rfl
theorem y1J(n:Nat)(hn:n<=1048576)(W:World):(Instr.makeSlice 48 (.int .i64 n) (.int .i64 n)).run prog W=.ok (.slice (some ⟨W.heap.size,0,none⟩) n n) (W.alloc (.cells (madeCells #[.bool false,.bool false,.bool false] (n*3)) 71)):=by
 obtain⟨i0,hi0,hz0,hz1,hz2⟩:=info_parts Tryz.infoOut;rw[run_make W 48 71 i0 _ Tryz.sliceOuts hi0 hz0 .i64 .i64 n n (by omega) (by omega) (by rw[hz2];omega) (by omega),hz1];simp[Value.cells]
def OuC(cs:Array Value)(rs:List Rr)(K:ByteArray->Ot)(j:Nat):Prop:=cs.size=rs.length*3/\∀i (hi:i<rs.length),i<j->cs[i*3]? =some (.bool (K rs[i].1).1)/\cs[i*3+1]? =some (.bool (K rs[i].1).2.1)/\cs[i*3+2]? =some (.bool (K rs[i].1).2.2)
theorem OuC.old{cs:Array Value}{K:ByteArray->Ot}(h:OuC cs rs K j)(hj:j<rs.length):∃v0 v1 v2,cs[j*3]? =some v0/\cs[j*3+1]? =some v1/\cs[j*3+2]? =some v2:=
 ⟨_,_,_,Array.getElem?_eq_getElem (by rw[h.1];omega),Array.getElem?_eq_getElem (by rw[h.1];omega),Array.getElem?_eq_getElem (by rw[h.1];omega)⟩
theorem OuC.step{cs:Array Value}{K:ByteArray->Ot}(h:OuC cs rs K j)(hj:j<rs.length){y1 y2 y3:Bool}(hy:(y1,y2,y3)=K rs[j].1):OuC (((cs.setIfInBounds (j*3) (.bool y1)).setIfInBounds (j*3+1) (.bool y2)).setIfInBounds (j*3+2) (.bool y3)) rs K (j+1):=by
 have hs:=h.1;refine⟨by simp[hs],fun i hi hij=> ?_⟩;have g:∀k v,k<cs.size->k≠j*3->k≠j*3+1->k≠j*3+2->cs[k]? =some v->(((cs.setIfInBounds (j*3) (.bool y1)).setIfInBounds (j*3+1) (.bool y2)).setIfInBounds (j*3+2) (.bool y3))[k]? =some v:=fun k v hk h0 h1 h2 hv=>by
  rw[Array.getElem?_setIfInBounds_ne (fun e=>h2 e.symm),Array.getElem?_setIfInBounds_ne (fun e=>h1 e.symm),Array.getElem?_setIfInBounds_ne (fun e=>h0 e.symm)];exact hv
 rcases Nat.lt_or_ge i j with h1|h1
 ·obtain⟨a,b,c⟩:=h.2 i hi h1
  exact⟨g _ _ (by omega) (by omega) (by omega) (by omega) a,g _ _ (by omega) (by omega) (by omega) (by omega) b,g _ _ (by omega) (by omega) (by omega) (by omega) c⟩
 ·obtain rfl:i=j:=by omega
  rw[<-hy];refine⟨?_,?_,?_⟩
  ·rw[Array.getElem?_setIfInBounds_ne (by omega),Array.getElem?_setIfInBounds_ne (by omega),Array.getElem?_setIfInBounds_self_of_lt (by omega)]
  ·rw[Array.getElem?_setIfInBounds_ne (by omega),Array.getElem?_setIfInBounds_self_of_lt (by simp;omega)]
  ·rw[Array.getElem?_setIfInBounds_self_of_lt (by simp;omega)]
def RuP(rs:List Rr)(X:Option (Int ⊕ (Int×Int)))(W:World)(e:Ending)(w':World):Prop:=Below W.heap.size W w'/\
 ((X≠none/\∃v,e=.returned (.tuple #[.slice none 0 0,v])/\Zd X W.heap.size w' v)∨
  (X=none/\∃ub m cs,e=.returned (.tuple #[.slice (some ⟨ub,0,none⟩) rs.length rs.length,.nilIface])/\W.heap.size<=ub/\Yk (itr rs m) rs/\w'.heap[ub]? =some (.cells cs 71)/\OuC cs rs (itr rs m) rs.length))
theorem y1K(so:Option Addr)(n cap:Nat)(X:Option (Int ⊕ (Int×Int)))(w:World)(hX:X≠none)
  (HC:Hid (∀W:World,Below w.heap.size w W->Calls prog 58 #[.agg #[.slice so n cap]] W fun e w'=>∃v,e=.returned v/\Zd X W.heap.size w' v/\Below W.heap.size W w')):
  Calls prog 55 #[.agg #[.slice so n cap]] w fun e w'=>∃v,e=.returned (.tuple #[.slice none 0 0,v])/\Zd X w.heap.size w' v/\Below w.heap.size w w':=by
 obtain⟨W1,hW1⟩:∃W1,W1=w.alloc (.cells #[.slice so n cap] 24):=⟨_,rfl⟩;have hB1:Below w.heap.size w W1:=by rw[hW1];exact(Below.refl _ w).alloc L0q _
 have HS:=hid (HC.out W1 hB1);have HB1:=hid hB1;have HW1:=hid hW1;clear hW1 hB1 HC;go_enter func55,ntmps55
 go_wp2_with fail
 rw[<-HW1.out];refine HS.out.mono ?_;rintro e w2 ⟨v,rfl,hv,hb2⟩;obtain⟨tt,uu,rfl⟩:=hv.shape hX;have HV:=hid hv;have HB2:=hid (HB1.out.trans (hb2.mono HB1.out.size));have HSz:=hid HB1.out.size;clear hv hb2 HS HW1 HB1
 go_wp2_with fail
 go_ret2
 exact⟨_,rfl,HV.out.lo HSz.out,HB2.out⟩
theorem y1L(so:Option Addr)(n cap:Nat)(rs:List Rr)(w:World)(h:Qh w w.heap.size so n rs)(HZ:Hid (RgZ rs))(hn:n<=1048576)
  (HC:Hid (∀W:World,Below w.heap.size w W->Calls prog 58 #[.agg #[.slice so n cap]] W fun e w'=>e=.returned .nilIface/\Below W.heap.size W w'))
  (HL:Hid (∀W:World,Below w.heap.size w W->Calls prog 61 #[.agg #[.slice so n cap]] W (LsP rs W))):
  Calls prog 55 #[.agg #[.slice so n cap]] w (RuP rs none w):=by
 obtain⟨W1,hW1⟩:∃W1,W1=w.alloc (.cells #[.slice so n cap] 24):=⟨_,rfl⟩;have hB1:Below w.heap.size w W1:=by rw[hW1];exact(Below.refl _ w).alloc L0q _
 have HG1:Hid (W1.heap[w.heap.size]? =some (.cells #[.slice so n cap] 24)):=by rw[hW1];exact Qx w _ rfl
 have HS:=hid (HC.out W1 hB1);have HB1:=hid hB1;have HW1:=hid hW1;have hmk:=y1J n hn;have HR:=hid h;have HNl:Hid (n=rs.length):=h.1;clear hW1 hB1 HC h;go_enter func55,ntmps55
 go_wp2_with fail
 rw[<-HW1.out];refine HS.out.mono ?_;rintro e w2 ⟨rfl,hb2⟩;have HB2:=hid (HB1.out.trans (hb2.mono HB1.out.size));have HG2:=hid ((hb2.block _ (Qz HG1.out)).trans HG1.out);obtain⟨g2,_⟩:=Qw HG2.out;have lg2:=Qz HG2.out;clear hb2 HS HW1 HB1 HG1
 go_wp2_with(first
  |(go_at_call 61;refine(HL.out _ HB2.out).mono ?_;rintro e w3 ⟨M,nn,m,rfl,hM,hNm,hFx,hb3⟩;have HB3:=hid (HB2.out.trans (hb3.mono HB2.out.size));have HG3:=hid ((hb3.block _ lg2).trans HG2.out);obtain⟨g3,_⟩:=Qw HG3.out;have lg3:=Qz HG3.out;have HNm:=hid hNm;have HFx:=hid hFx;clear hNm hFx hb3))
 obtain⟨ub,hub⟩:∃ub,ub=w3.heap.size:=⟨_,rfl⟩;obtain⟨W4,hW4⟩:∃W4,W4=w3.alloc (.cells (madeCells #[.bool false,.bool false,.bool false] (n*3)) 71):=⟨_,rfl⟩;have HB4:Hid (Below w.heap.size w W4):=by rw[hW4];exact HB3.out.alloc HB3.out.size _
 have HN4:Hid (Nm W4 M nn (itr rs m)):=by rw[hW4];exact HNm.out.kept (World.grownBy_alloc _ _ none) (by simp)
 have HU4:Hid (W4.heap[ub]? =some (.cells (madeCells #[.bool false,.bool false,.bool false] (n*3)) 71)):=by rw[hW4,hub];exact Qx _ _ rfl
 have HO4:Hid (OuC (madeCells #[.bool false,.bool false,.bool false] (n*3)) rs (itr rs m) 0):=⟨by rw[size_madeCells,HNl.out],fun i hi h0=>by omega⟩;have hMu:M<ub:=by rw[hub];exact HNm.out.lt
 have hwu:w.heap.size<=ub:=by rw[hub];exact HB3.out.size
 rw[<-hW4,<-hub];clear hW4 hub HB3 HG3 g3 lg3 HNm hmk HB2 HG2 g2 lg2 HL
 go_loopw [23] (fun i wr=>∃j:Nat,i=.int .i64 j/\j<=n/\Hid (Below w.heap.size w wr)/\Hid (Nm wr M nn (itr rs m))/\Hid (∃cs,wr.heap[ub]? =some (.cells cs 71)/\OuC cs rs (itr rs m) j)) (fun i _=>n-(intOf i).toNat)
 case atStart=>exact⟨0,rfl,Nat.zero_le _,HB4,HN4,⟨_,HU4.out,HO4.out⟩⟩
 case round=>
  obtain⟨j,rfl,hj,HB,HN,HC⟩:=hrel;by_cases hjn:j<n
  ·have hjI:(j:Int)<(n:Int):=by omega
   have a0:decide ((j:Int)<(n:Int))=true:=by simp;omega
   have hjs:j<rs.length:=by rw[<-HNl.out];exact hjn
   obtain⟨g,o,rfl,hg,k1,T1,a1,b1,c1,d1,so1,n1,cap1,p1,hrt,r0⟩:=HR.out.2.2 j hjs;have hce:∀q,wr.cell? ⟨g,q,none⟩=w.cell? ⟨g,q,none⟩:=fun q=>HB.out.cell (p:=⟨g,q,none⟩) hg
   simp only[<-hce]at r0;obtain⟨z0,z1,z2,z3,z4,z5,z6,z7,z8,z9⟩:=r0;have hgl:g<wr.heap.size:=World.block_lt_of_cell? wr _ z0;obtain⟨N0,hN0⟩:∃N0,N0=rs[j].1:=⟨_,rfl⟩;obtain⟨q1,hq1⟩:∃q1,q1=rs[j].2.2:=⟨_,rfl⟩;rw[<-hN0]at z0;rw[<-hq1]at z9;have hNz:N0.size<=maxLen:=by rw[hN0];exact(HZ.out _ (List.getElem_mem hjs)).1
   obtain⟨⟨y1,y2,y3⟩,hy⟩:∃y,y=itr rs m N0:=⟨_,rfl⟩;have hbA:=(Below.refl _ wr).alloc L0q (.cells #[.string N0,.int .i64 k1,.string T1,.int .u64 a1,.int .u64 b1,.int .u64 c1,.int .u64 d1,.slice so1 n1 cap1,.int .i64 p1,.int .i64 q1] 57);have hNA:=HN.out.below hbA HN.out.lt;have hL:=hNA.look hNz;rw[<-hy]at hL;dsimp only[ov]at hL;obtain⟨cs,hcs,hou⟩:=HC.out;have hcA:=(hbA.block _ (Qz hcs)).trans hcs;obtain⟨v0,v1,v2,e0,e1,e2⟩:=hou.old hjs;obtain⟨x0,f0⟩:=Zj hcA _ _ e0;obtain⟨x1,f1⟩:=Zj hcA _ _ e1;obtain⟨x2,f2⟩:=Zj hcA _ _ e2;have lu:=Qz hcA;have HY:Hid ((y1,y2,y3)=itr rs m rs[j].1):=by rw[<-hN0];exact hy
   have HCA:=hid hcA;have HOU:=hid hou;have HNA:=hid hNA;have HBA:=hid (HB.out.alloc HB.out.size (.cells #[.string N0,.int .i64 k1,.string T1,.int .u64 a1,.int .u64 b1,.int .u64 c1,.int .u64 d1,.slice so1 n1 cap1,.int .i64 p1,.int .i64 q1] 57));clear hce hN0 hq1 hy hbA hNA hcs hou hcA e0 e1 e2 HC hrt
   go_wp2_with fail
   have hgs:∀(W:World) (a b c:Value),W.grownBy (((W.setCell ⟨ub,j*3,none⟩ a).setCell ⟨ub,j*3+1,none⟩ b).setCell ⟨ub,j*3+2,none⟩ c) (some ub):=fun W a b c=>G.setR (G.setR (G.setR (G.refl _ _)))
   exact⟨⟨j+1,by go_num,by omega,hid (HBA.out.grown (hgs _ _ _ _) HBA.out.size (fun g e=>by have:=Option.some.inj e;omega)),hid (HNA.out.kept (hgs _ _ _ _) (fun e=>by have:=Option.some.inj e;omega)),hid ⟨_,Qy (Qy (Qy HCA.out _ _) _ _) _ _,HOU.out.step hjs HY.out⟩⟩,by simp[intOf];omega⟩
  ·have a0:decide ((j:Int)<(n:Int))=false:=by simp;omega
   obtain⟨cs,hcs,hou⟩:=HC.out;have HCS:=hid hcs;have hjn2:j=n:=by omega
   subst hjn2;have HOU:=hid hou;rw[HNl.out]at HOU;clear hcs hou HC
   go_wp2_with fail
   go_ret2
   exact⟨HB.out,.inr ⟨rfl,ub,m,cs,by rw[<-HNl.out];rfl,hwu,HFx.out,HCS.out,HOU.out⟩⟩
theorem y1M(so:Option Addr)(n cap:Nat)(rs:List Rr)(X:Option (Int ⊕ (Int×Int)))(B:Nat)(w:World)(hX:CkX rs X)(hC:CkC so n cap rs X w)(hz:RgZ rs)(h:Qh w B so n rs)(hB:B<=w.heap.size):∀W:World,Below w.heap.size w W->Calls prog 55 #[.agg #[.slice so n cap]] W (RuP rs X W):=fun W hW=>by
 have hup:∀{W'},Below W.heap.size W W'->Below w.heap.size w W':=fun hW'=>hW.trans (hW'.mono hW.size)
 have hCh:∀W':World,Below W.heap.size W W'->Calls prog 58 #[.agg #[.slice so n cap]] W' fun e w'=>∃v,e=.returned v/\Zd X W'.heap.size w' v/\Below W'.heap.size W' w':=fun W' hW'=>Wq so n cap rs X W' (hC.from (hup hW'))
 cases X with
 |some x=>
  refine(y1K so n cap (some x) W (by simp) hCh).mono fun e w' he=> ?_
  obtain⟨v,h1,h2,h3⟩:=he;exact⟨h3,.inl ⟨by simp,v,h1,h2⟩⟩
 |none=>
  obtain⟨hok,hck,_⟩:=hX;have hlen:=(Dx hok).2;refine y1L so n cap rs W ((h.below (hW.mono hB)).upto (Nat.le_trans hB hW.size)) hz (by have:=h.1;omega) (fun W' hW'=>(hCh W' hW').mono fun e w' he=> ?_) (fun W' hW'=>Wh so n cap rs B W' (h.below ((hup hW').mono hB)) (Nat.le_trans hB (hup hW').size) hz hok hck);obtain⟨v,h1,h2,h3⟩:=he;have h2:v=.nilIface:=h2;rw[h1,h2];exact⟨rfl,h3⟩
end Go.Proofs.YtjodljnddflgfaaGreatDoor
