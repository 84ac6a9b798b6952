/- Lemmas for the last text. Conditions: those that each names. -/
import Derived.Test.YtjodljnddflgfaaGreatDoorVO18ToF5
import Derived.Deep.RegionHeld3
import Derived.Maps.AppendAt
import Derived.Test.YtjodljnddflgfaaGreatDoorVU3ToO4
import Derived.ProofKit
set_option linter.unusedVariables false
set_option maxRecDepth 100000
set_option maxHeartbeats 8000000
namespace Go.Proofs.YtjodljnddflgfaaGreatDoor
open Go.Proofs.Tryz
open Go.RowKit Go.Shelf Go.Maps
def MmA(A:ByteArray->Ot)(t:RT)(w:World)(e:Ending)(w':World):Prop:=∃k T a b c d so n cap p po pn pc l,e=.returned (.agg #[.int .i64 k,.string T,.int .u64 a,.int .u64 b,.int .u64 c,.int .u64 d,.slice so n cap,.int .i64 p,.slice po pn pc,.int .i64 l])/\Hid (Zk A w' (fun g=>w.heap.size<=g) t (r10 k T a b c d so n cap p po pn pc l))/\Hid (Below w.heap.size w w')
theorem Mq.app2{A:ByteArray->Ot}{base j:Nat}{a a':Value}{xs cs:List Value}{acc:List RT}{t:RT}{wr w2 W4 w6:World}
  (ho:wr.ownsRow base 77 10 a j xs)(hl:acc.length=j)(hr:Zz A wr (fun g=>base<=g/\a.ownBlock≠some g) acc xs)(hb0:base<=wr.heap.size)(hb:Below wr.heap.size wr w2)
  (hq:Zk A w2 (fun g=>wr.heap.size<=g) t cs)(h4:w2.heap.size<=W4.heap.size)(h4b:∀g,g<w2.heap.size->W4.heap[g]? =w2.heap[g]?)(hgr:W4.grownBy w6 a.ownBlock)(hat:a'.ownBlock=a.ownBlock∨a'.ownBlock=some W4.heap.size):
  Zz A w6 (fun g=>base<=g/\a'.ownBlock≠some g) (acc++[t]) (xs++cs):=by
 have key:∀g,g<w2.heap.size->a.ownBlock≠some g->w6.heap[g]? =w2.heap[g]? /\a'.ownBlock≠some g:=fun g hl hne=>by
  refine⟨(hgr.block g (by omega) (fun e=>hne e.symm)).trans (h4b g hl),?_⟩;rcases hat with h|h
  ·rw[h];exact hne
  ·rw[h];intro e;have:=Option.some.inj e;omega
 refine Zz.append _ _ _ _ (Zz.kept (fun g cur hp hq=> ?_) _ _ hr) (by rw[hl];exact ho.1) (Zk.kept (fun g cur hp hq=> ?_) _ _ hq)
 ·have hlt:=Qz hq
  have:=hb.size;have h:=key g (by omega) hp.2;exact⟨h.1.trans (hb.block g hlt),hp.1,h.2⟩
 ·have h:=key g (Qz hq) (fun e=>by have:=(ho.lt g e).2;omega)
  exact⟨h.1,by omega,h.2⟩
structure Ms4 (so0:Option Addr) (n0 cap0:Nat) (k:Int) (T:ByteArray) (a b c d:Int) (so:Option Addr) (n cap:Nat) (p:Int) (S:Nat) (v:Value) (l:Int) (W:World):Prop where
 g:W.heap[S]? =some (.cells #[.slice so0 n0 cap0] 24)
 nd:W.heap[S+1]? =some (.cells #[.int .i64 k,.string T,.int .u64 a,.int .u64 b,.int .u64 c,.int .u64 d,.slice so n cap,.int .i64 p] 30)
 z:W.heap[S+2]? =some (.cells #[.int .i64 0,.string ⟨#[]⟩,.int .u64 0,.int .u64 0,.int .u64 0,.int .u64 0,.slice none 0 0,.int .i64 0,.slice none 0 0,.int .i64 0] 77)
 m:W.heap[S+3]? =some (.cells #[.int .i64 k,.string T,.int .u64 a,.int .u64 b,.int .u64 c,.int .u64 d,.slice so n cap,.int .i64 p,v,.int .i64 l] 77)
theorem Ms4.keep{so0:Option Addr}{n0 cap0:Nat}{k:Int}{T:ByteArray}{a b c d:Int}{so:Option Addr}{n cap:Nat}{p:Int}{S:Nat}{v:Value}{l:Int}{W W':World}(h:Ms4 so0 n0 cap0 k T a b c d so n cap p S v l W)(hk:∀g,g<S+4->g<W.heap.size->W'.heap[g]? =W.heap[g]?):Ms4 so0 n0 cap0 k T a b c d so n cap p S v l W':=
 ⟨(hk _ (by omega) (Qz h.g)).trans h.g,(hk _ (by omega) (Qz h.nd)).trans h.nd,(hk _ (by omega) (Qz h.z)).trans h.z,(hk _ (by omega) (Qz h.m)).trans h.m⟩
theorem y0T{A:ByteArray->Ot}{w wr w2 w6:World}{so0:Option Addr}{n0 cap0:Nat}{k a b c d p:Int}{T:ByteArray}{so:Option Addr}{n cap:Nat}{j g6 cap6:Nat}{v:Value}{xs cs:List Value}{acc:List RT}{t:RT}{X:Obj}
  (hs:w.heap.size+4<=wr.heap.size)(ho:wr.ownsRow (w.heap.size+4) 77 10 v j xs)(hl:acc.length=j)(hr:Zz A wr (fun g=>w.heap.size+4<=g/\v.ownBlock≠some g) acc xs)(hB:Below w.heap.size w wr)(hb:Below wr.heap.size wr w2)
  (hq:Zk A w2 (fun g=>wr.heap.size<=g) t cs)(hz:Ms4 so0 n0 cap0 k T a b c d so n cap p w.heap.size v 0 wr)(hown:w6.ownsRow (w.heap.size+4) 77 10 (.slice (some ⟨g6,0,none⟩) (j+1) cap6) (j+1) (xs++cs))(hgr:(w2.alloc X).grownBy w6 v.ownBlock)(hat:v.ownBlock=some g6∨g6=w2.heap.size+1):
  w.heap.size+4<=(w6.setCell ⟨w.heap.size+3,8,none⟩ (.slice (some ⟨g6,0,none⟩) (j+1) cap6)).heap.size/\Ms4 so0 n0 cap0 k T a b c d so n cap p w.heap.size (.slice (some ⟨g6,0,none⟩) (j+1) cap6) 0 (w6.setCell ⟨w.heap.size+3,8,none⟩ (.slice (some ⟨g6,0,none⟩) (j+1) cap6))/\(w6.setCell ⟨w.heap.size+3,8,none⟩ (.slice (some ⟨g6,0,none⟩) (j+1) cap6)).ownsRow (w.heap.size+4) 77 10 (.slice (some ⟨g6,0,none⟩) (j+1) cap6) (j+1) (xs++cs)/\Zz A (w6.setCell ⟨w.heap.size+3,8,none⟩ (.slice (some ⟨g6,0,none⟩) (j+1) cap6)) (fun g=>w.heap.size+4<=g/\(Value.slice (some ⟨g6,0,none⟩) (j+1) cap6).ownBlock≠some g) (acc++[t]) (xs++cs)/\Below w.heap.size w (w6.setCell ⟨w.heap.size+3,8,none⟩ (.slice (some ⟨g6,0,none⟩) (j+1) cap6)):=by
 have hlt:∀g,v.ownBlock=some g->w.heap.size+4<=g/\g<wr.heap.size:=fun g e=>ho.lt g e
 have h2:=hb.size;have ea:(w2.alloc X).heap.size=w2.heap.size+1:=World.size_alloc _ _;have h6:=hgr.size;have hB2:Below w.heap.size w (w2.alloc X):=(hB.trans (hb.mono hB.size)).alloc (Nat.le_trans hB.size h2) _;have hB6:Below w.heap.size w w6:=hB2.grown hgr hB2.size (fun g e=>by have:=hlt g e;omega);have k6:∀g,g<w.heap.size+4->g<wr.heap.size->w6.heap[g]? =wr.heap[g]? :=fun g h1 h3=>(hgr.block _ (by omega) (fun e=>by have:=hlt _ e.symm;omega)).trans ((Below.heap_alloc _ _ _ (by omega)).trans (hb.block _ h3))
 have hz6:=hz.keep k6;refine⟨by rw[World.size_setCell];omega,⟨(Below.heap_setCell _ _ _ _ (by simp)).trans hz6.g,(Below.heap_setCell _ _ _ _ (by simp)).trans hz6.nd,(Below.heap_setCell _ _ _ _ (by simp)).trans hz6.z,Qy hz6.m 8 _⟩,hown.kept (row:=some (w.heap.size+3)) ⟨rfl,rfl,rfl,by simp,fun i hi hne=>Below.heap_setCell _ _ _ _ (fun e=>hne (by rw[e]))⟩ (.inr (fun e=>by have:=(hown.lt _ e).1;omega)),?_,hB6.setCell (p:=⟨w.heap.size+3,8,none⟩) (by show w.heap.size<=w.heap.size+3;omega) _⟩;refine Zz.kept (fun g cur hp hq=>⟨Below.heap_setCell _ _ _ _ (fun e=>by have:=hp.1;simp at e;omega),hp⟩) _ _ (Mq.app2 (W4:=w2.alloc X) ho hl hr hs hb hq (by omega) (fun g hg=>Below.heap_alloc _ _ _ hg) hgr ?_);rcases hat with h|h
 ·exact .inl h.symm
 ·exact .inr (by rw[h,ea];rfl)
theorem y0U{A:ByteArray->Ot}{w wr W:World}{k a b c d p:Int}{T:ByteArray}{so:Option Addr}{n cap:Nat}{s:List RT}{sa:Option Addr}{sc:Nat}{xs:List Value}{ld:Nat}(hm:s.length*120<=140737488351232)(hld:ld=ldK A k s)
  (hO:wr.ownsRow (w.heap.size+4) 77 10 (.slice sa s.length sc) s.length xs)(hr:Zz A wr (fun g=>w.heap.size+4<=g/\(Value.slice sa s.length sc).ownBlock≠some g) s xs)(hB:Below w.heap.size w W)(hk:∀g,w.heap.size+4<=g->g<wr.heap.size->W.heap[g]? =wr.heap[g]?):
  MmA A (.mk k T a b c d s p) w (.returned (.agg #[.int .i64 k,.string T,.int .u64 a,.int .u64 b,.int .u64 c,.int .u64 d,.slice so n cap,.int .i64 p,.slice sa s.length sc,.int .i64 (ld:Nat)])) W:=by
 refine⟨k,T,a,b,c,d,so,n,cap,p,sa,s.length,sc,(ld:Nat),rfl,hid ?_,hid hB⟩;rw[Zk];refine⟨so,n,cap,sa,sc,by rw[Xc,hld],?_⟩;cases s with
 |nil=>exact .inl rfl
 |cons t r=>
  refine .inr ⟨rfl,?_⟩;obtain⟨_,⟨_,h0⟩|⟨g,cap',cur,e1,hg1,hg2,_,_,_,ht⟩⟩:=hO
  ·simp at h0
  ·obtain⟨rfl,_,_⟩:=Value.slice.inj e1
   refine⟨g,cur,rfl,by omega,(hk g hg1 (Qz hg2)).trans hg2,by rw[Xc];unfold maxLen;omega,?_⟩;have h2:=Zz.more _ _ (cur.toList.drop ((t::r).length*10)) (Zz.kept (w':=W) (Q:=fun g=>w.heap.size<=g) (fun g cur hp hq=>⟨hk g hp.1 (Qz hq),by have:=hp.1;omega⟩) _ _ hr);rw[<-ht,List.take_append_drop]at h2;exact h2
theorem y0V(A:ByteArray->Ot)(so0:Option Addr)(n0 cap0:Nat)(k:Int)(T:ByteArray)(a b c d p:Int)(so:Option Addr)(n cap:Nat)(s:List RT)(w:World)(HN:Hid (n=s.length))(hn:n*120<=140737488351232)
  (HL:Hid (k=6->∀W:World,Below w.heap.size w W->Calls prog 69 #[.agg #[.slice so0 n0 cap0],.slice so n cap] W fun e w'=>e=.returned (.int .i64 (Xb A s:Nat))/\Below W.heap.size W w'))
  (HC:Hid (∀j (hj:j<s.length),∃g o,so=some ⟨g,o,none⟩/\g<w.heap.size/\∃k1 T1 a1 b1 c1 d1 so1 n1 cap1 p1,Rc w g (o+j*8) k1 T1 a1 b1 c1 d1 (.slice so1 n1 cap1) p1/\
    ∀W:World,Below w.heap.size w W->Calls prog 31 #[.agg #[.slice so0 n0 cap0],.agg #[.int .i64 k1,.string T1,.int .u64 a1,.int .u64 b1,.int .u64 c1,.int .u64 d1,.slice so1 n1 cap1,.int .i64 p1]] W (MmA A s[j] W))):
  Calls prog 31 #[.agg #[.slice so0 n0 cap0],.agg #[.int .i64 k,.string T,.int .u64 a,.int .u64 b,.int .u64 c,.int .u64 d,.slice so n cap,.int .i64 p]] w (MmA A (.mk k T a b c d s p) w):=by
 obtain⟨iT,hiT,hzT0,hzT1,hzT2⟩:=info_parts Tryz.infoMs;have hn63:n<=9223372036854775807:=by omega
 obtain⟨W0,hW0⟩:∃W0,W0=(((w.alloc (.cells #[.slice so0 n0 cap0] 24)).alloc (.cells #[.int .i64 k,.string T,.int .u64 a,.int .u64 b,.int .u64 c,.int .u64 d,.slice so n cap,.int .i64 p] 30)).alloc (.cells #[.int .i64 0,.string ⟨#[]⟩,.int .u64 0,.int .u64 0,.int .u64 0,.int .u64 0,.slice none 0 0,.int .i64 0,.slice none 0 0,.int .i64 0] 77)).alloc (.cells #[.int .i64 k,.string T,.int .u64 a,.int .u64 b,.int .u64 c,.int .u64 d,.slice so n cap,.int .i64 p,.slice none 0 0,.int .i64 0] 77):=⟨_,rfl⟩;have HB0:Hid (Below w.heap.size w W0):=by rw[hW0];exact((((Below.refl _ w).alloc L0q _).alloc (by simp) _).alloc (by simp;omega) _).alloc (by simp;omega) _
 have H40:Hid (Ms4 so0 n0 cap0 k T a b c d so n cap p w.heap.size (.slice none 0 0) 0 W0):=by
  rw[hW0];refine⟨?_,?_,?_,?_⟩
  ·exact(Below.heap_alloc _ _ _ (by simp;omega)).trans ((Below.heap_alloc _ _ _ (by simp;omega)).trans ((Below.heap_alloc _ _ _ (by simp)).trans (Qx w _ rfl)))
  ·exact(Below.heap_alloc _ _ _ (by simp)).trans ((Below.heap_alloc _ _ _ (by simp)).trans (Qx _ _ (by simp)))
  ·exact(Below.heap_alloc _ _ _ (by simp)).trans (Qx _ _ (by simp))
  ·exact Qx _ _ (by simp)
 have HS0:Hid (w.heap.size+4<=W0.heap.size):=hid (by rw[hW0];simp);have HW0:=hid hW0;clear hW0;go_enter func31,ntmps31
 go_wp2_with fail
 rw[<-HW0.out];clear HW0
 go_loopw [13] (fun i wr=>∃(j:Nat) (v:Value) (xs:List Value),i=.int .i64 j/\j<=n/\Hid (w.heap.size+4<=wr.heap.size)/\Hid (Ms4 so0 n0 cap0 k T a b c d so n cap p w.heap.size v 0 wr)/\Hid (wr.ownsRow (w.heap.size+4) 77 10 v j xs)/\Hid (Zz A wr (fun g=>w.heap.size+4<=g/\v.ownBlock≠some g) (s.take j) xs)/\Hid (Below w.heap.size w wr)) (fun i _=>n-(intOf i).toNat)
 case atStart=>exact⟨0,.slice none 0 0,[],rfl,Nat.zero_le _,HS0,H40,World.ownsRow_nil _ _ _ _,(by rw[List.take_zero,Zz];trivial),HB0⟩
 case round=>
  obtain⟨j,v,xs,rfl,hj,HS,H4,HO,HR,HB⟩:=hrel;by_cases hjn:j<n
  ·have hjI:(j:Int)<(n:Int):=by omega
   have a0:decide ((j:Int)<(n:Int))=true:=by simp;omega
   have hjs:j<s.length:=by rw[<-HN.out];exact hjn
   obtain⟨g,o,rfl,hg,k1,T1,a1,b1,c1,d1,so1,n1,cap1,p1,rc,hc⟩:=HC.out j hjs;obtain⟨z0,z1,z2,z3,z4,z5,z6,z7⟩:=rc.below HB.out hg;obtain⟨t,ht⟩:∃t,t=s[j]:=⟨_,rfl⟩;rw[<-ht]at hc;have HT:=hid ht;have HG:=hid hc;clear hc rc ht HC
   go_wp2_with fail
   obtain⟨W1,hW1⟩:∃W1,W1=wr.alloc (.cells #[.int .i64 k1,.string T1,.int .u64 a1,.int .u64 b1,.int .u64 c1,.int .u64 d1,.slice so1 n1 cap1,.int .i64 p1] 30):=⟨_,rfl⟩;have hZ1:W1.heap.size=wr.heap.size+1:=by rw[hW1];exact World.size_alloc _ _
   have HC1:Hid (W1.heap[wr.heap.size]? =some (.cells #[.int .i64 k1,.string T1,.int .u64 a1,.int .u64 b1,.int .u64 c1,.int .u64 d1,.slice so1 n1 cap1,.int .i64 p1] 30)):=by rw[hW1];exact Qx wr _ rfl
   have HB1:Hid (Below wr.heap.size wr W1):=by rw[hW1];exact(Below.refl _ wr).alloc L0q _
   have HO1:Hid (W1.ownsRow (w.heap.size+4) 77 10 v j xs):=by rw[hW1];exact HO.out.alloc _
   rw[<-hW1];clear hW1 z0 z1 z2 z3 z4 z5 z6 z7;have hsz:=HS.out;have h41:=H4.out.keep (fun g _ h=>HB1.out.block g h);obtain⟨⟨y0,y1,y2,y3,y4,y5,y6,y7⟩,yf⟩:=Qg HC1.out;obtain⟨⟨_,_,_,_,_,_,_,_,x8,_⟩,_⟩:=Yg h41.m;have xg:=(Qw h41.g).1;have H41:=hid h41;have HGd:=hid (HG.out W1.drew (HB.out.trans (HB1.out.mono HB.out.size)).drew);have l0:w.heap.size<W1.heap.size:=by omega
   have l1:wr.heap.size<W1.heap.size:=by omega
   have l3:w.heap.size+3<W1.heap.size:=by omega
   obtain⟨sa,sc,rfl⟩:=Cd HO.out;have HK2:Hid (∀w2,Hid (Below W1.drew.heap.size W1.drew w2)->w2.cell? ⟨w.heap.size+3,8,none⟩=some (.slice sa j sc)/\w.heap.size+3<w2.heap.size/\w2.ownsRow (w.heap.size+4) 77 10 (.slice sa j sc) j xs/\Ms4 so0 n0 cap0 k T a b c d _ n cap p w.heap.size (.slice sa j sc) 0 w2/\Below wr.heap.size wr w2/\w.heap.size+4<=w2.heap.size):=fun w2 h=>by
    have hs:=h.out.size;have e:W1.drew.heap.size=W1.heap.size:=rfl;have hd:Ms4 so0 n0 cap0 k T a b c d _ n cap p w.heap.size (.slice sa j sc) 0 W1.drew:=⟨H41.out.g,H41.out.nd,H41.out.z,H41.out.m⟩;have hb:=hd.keep (fun g _ hg=>h.out.block g hg);have ho:W1.drew.ownsRow (w.heap.size+4) 77 10 (.slice sa j sc) j xs:=HO1.out;refine⟨(Yg hb.m).1.2.2.2.2.2.2.2.2.1,by omega,Jw ho h.out,hb,HB1.out.drew.trans (h.out.mono (by omega)),by omega⟩
   clear h41 HG HO1;have HNe:Hid (some (w.heap.size+3)≠(Value.slice sa j sc).ownBlock):=fun e=>by have:=(HO.out.lt _ e.symm).1;omega
   have m0:0<(10:Nat):=by decide
   have m3:0<(1:Nat):=by decide
   have m1:j+1<=maxLen:=by unfold maxLen;omega
   have m2:(j+1)*120<=140737488355328:=by omega
   go_region_law (first
    |(go_simp;go_at_call 31;refine HGd.out.mono ?_;rintro e w2 ⟨k2,T2,a2,b2,c2,d2,so2,n2,cap2,p2,po2,pn2,pc2,ll2,rfl,HQ2,HB2⟩;have hw2:=HK2.out w2 HB2;have q6:=hw2.1;have l2:=hw2.2.1;have l4:=hw2.2.2.2.2.2)
    |(refine step_append_lies _ rfl (.tmp 18) (.tmp 22) 75 rfl (w.heap.size+4) 77 iT (.agg #[.int .i64 0,.string ⟨#[]⟩,.int .u64 0,.int .u64 0,.int .u64 0,.int .u64 0,.slice none 0 0,.int .i64 0,.slice none 0 0,.int .i64 0]) 10 120 Tryz.underlying75 hiT hzT0 hzT1 hzT2 rfl m0 (.slice sa j sc) j xs (by rfl) (hw2.2.2.1.alloc _) ⟨w2.heap.size,0,none⟩ 1 1 [.int .i64 k2,.string T2,.int .u64 a2,.int .u64 b2,.int .u64 c2,.int .u64 d2,.slice so2 n2 cap2,.int .i64 p2,.slice po2 pn2 pc2,.int .i64 ll2] (by rfl) rfl (z4i _ _ _ _ _ _ _ _ _ _ _ _) (z4j _ _ _ _ _ _ _ _ _ _ _ _ _ _) m3 m1 m2 (y0P l4) (w2.heap.size+1) (World.size_alloc _ _) ?_;intro g6 cap6 w6 hown6 hgr6 hat6 hlt6;have hv6:=(hgr6.block (w.heap.size+3) (by rw[World.size_alloc];omega) HNe.out).trans ((Below.heap_alloc _ _ _ l2).trans hw2.2.2.2.1.m);have f6:=(Yg hv6).2.2.2.2.2.2.2.2.2.1;have c6:=(Yg hv6).1.2.2.2.2.2.2.2.2.1))
   all_goals
    have HEnd:=hid (y0T (acc:=s.take j) HS.out HO.out (by rw[List.length_take];omega) HR.out HB.out hw2.2.2.2.2.1 (Zk.kept (w':=w2) (Q:=fun g=>wr.heap.size<=g) (fun g cur hp _=>⟨rfl,Nat.le_trans (by rw[<-hZ1]at*;exact Nat.le_trans (Nat.le_of_lt l1) L0q) hp⟩) _ _ HQ2.out) H4.out hown6 hgr6 hat6);clear hown6 hgr6 hat6 hlt6 hv6 hw2 HQ2 HB2 HO HR HS H4 HB
    go_wp2_with fail
    obtain⟨e1,e2,e4,e5,e6⟩:=HEnd.out;refine⟨⟨j+1,_,_,by go_num,by omega,e1,e2,e4,?_,e6⟩,?_⟩
    ·rw[List.take_succ_eq_append_getElem hjs,<-HT.out]
     exact e5
    ·simp[intOf];omega
  ·have a0:decide ((j:Int)<(n:Int))=false:=by simp;omega
   have hjn':j=s.length:=by have:=HN.out;omega
   obtain⟨sa,sc,rfl⟩:=Cd HO.out;subst hjn';have hr:=HR.out;rw[List.take_length]at hr;have HFin:Hid (∀(W:World) (ld:Nat),ld=ldK A k s->Below w.heap.size w W->(∀g,w.heap.size+4<=g->g<wr.heap.size->W.heap[g]? =wr.heap[g]?)->MmA A (.mk k T a b c d s p) w (.returned (.agg #[.int .i64 k,.string T,.int .u64 a,.int .u64 b,.int .u64 c,.int .u64 d,.slice so n cap,.int .i64 p,.slice sa s.length sc,.int .i64 (ld:Nat)])) W):=fun W ld hld h1 h2=>y0U (by have:=HN.out;omega) hld HO.out hr h1 h2
   clear hr HR HO HC;have h4:=H4.out;obtain⟨⟨y0,y1,y2,y3,y4,y5,y6,y7⟩,yf⟩:=Qg h4.nd;have xg:=(Qw h4.g).1;have lg:=Qz h4.g;have lm:=Qz h4.m;by_cases hk:k=6
   ·subst hk
    have HLd:=hid (HL.out rfl wr HB.out);have HLk:Hid (Xb A s=ldK A 6 s):=hid rfl;clear HL h4
    go_wp2_with(first
     |(go_at_call 69;refine HLd.out.mono ?_;rintro e w5 ⟨rfl,hb5⟩;have h45:=H4.out.keep (fun g _ h=>hb5.block g h);have HB5:=hid (HB.out.trans (hb5.mono HB.out.size));have HK5:=hid (fun g (h:g<wr.heap.size)=>hb5.block g h);obtain⟨⟨q0,q1,q2,q3,q4,q5,q6,q7,q8,q9⟩,f0,f1,f2,f3,f4,f5,f6,f7,f8,f9⟩:=Yg h45.m;have hm9:=Qy h45.m 9 (.int .i64 (Xb A s:Nat));have hz9:=(Below.heap_setCell w5 ⟨w.heap.size+3,9,none⟩ (.int .i64 (Xb A s:Nat)) (w.heap.size+2) (by simp)).trans h45.z;obtain⟨⟨r0,r1,r2,r3,r4,r5,r6,r7,r8,r9⟩,-⟩:=Yg hm9;obtain⟨⟨u0,u1,u2,u3,u4,u5,u6,u7,u8,u9⟩,e0,e1,e2,e3,e4,e5,e6,e7,e8,e9⟩:=Yg hz9;have lm5:=Qz h45.m;have lm9:=Qz hm9;have lz9:=Qz hz9;have HZ9:Hid ((w5.setCell ⟨w.heap.size+1+1+1,9,none⟩ (.int .i64 (Xb A s:Nat))).heap[w.heap.size+1+1]? =some (.cells #[.int .i64 0,.string ⟨#[]⟩,.int .u64 0,.int .u64 0,.int .u64 0,.int .u64 0,.slice none 0 0,.int .i64 0,.slice none 0 0,.int .i64 0] 77)):=hid hz9;clear hm9 hz9 h45 hb5 HLd))
    have hP:=z4k (v0:=.int .i64 6) (v1:=.string T) (v2:=.int .u64 a) (v3:=.int .u64 b) (v4:=.int .u64 c) (v5:=.int .u64 d) (v6:=.slice so n cap) (v7:=.int .i64 p) (v8:=.slice sa s.length sc) (v9:=.int .i64 (Xb A s:Nat)) HZ9.out;obtain⟨⟨p0,p1,p2,p3,p4,p5,p6,p7,p8,p9⟩,-⟩:=Yg hP;unfold Hc at p0 p1 p2 p3 p4 p5 p6 p7 p8 p9;refine bodyPost_ret (v:=.agg #[.int .i64 6,.string T,.int .u64 a,.int .u64 b,.int .u64 c,.int .u64 d,.slice so n cap,.int .i64 p,.slice sa s.length sc,.int .i64 (Xb A s:Nat)]) (by simp[results,Tryz.results31,go_sem,p0,p1,p2,p3,p4,p5,p6,p7,p8,p9]) rfl ?_;have hB6:=HB5.out.setCell (p:=⟨w.heap.size+1+1+1,9,none⟩) (by show w.heap.size<=w.heap.size+1+1+1;omega) (.int .i64 (Xb A s:Nat));refine HFin.out _ _ HLk.out (hB6.grown (Hl _ (w.heap.size+1+1) (.int .i64 6) (.string T) (.int .u64 a) (.int .u64 b) (.int .u64 c) (.int .u64 d) (.slice so n cap) (.int .i64 p) (.slice sa s.length sc) (.int .i64 (Xb A s:Nat))) hB6.size (fun g e=>by have:=Option.some.inj e;omega)) (fun g h1 h2=> ?_);have h3:=HK5.out g h2;have h5:g<w5.heap.size:=by
     rcases Nat.lt_or_ge g w5.heap.size with h|h
     ·exact h
     ·rw[Array.getElem?_eq_none h,Array.getElem?_eq_getElem h2]at h3
      cases h3
    exact((Hl _ (w.heap.size+1+1) (.int .i64 6) (.string T) (.int .u64 a) (.int .u64 b) (.int .u64 c) (.int .u64 d) (.slice so n cap) (.int .i64 p) (.slice sa s.length sc) (.int .i64 (Xb A s:Nat))).block g (by rw[World.size_setCell];exact h5) (fun e=>by have:=Option.some.inj e;omega)).trans ((Below.heap_setCell _ _ _ _ (fun e=>by simp at e;omega)).trans h3)
   ·have hk2:(k == 6)=false:=by simp[hk]
    have hk3:decide (k=6)=false:=by simp[hk]
    have HLk:Hid (0=ldK A k s):=by unfold ldK;rw[if_neg hk];exact hid rfl
    obtain⟨⟨r0,r1,r2,r3,r4,r5,r6,r7,r8,r9⟩,-⟩:=Yg h4.m;obtain⟨⟨u0,u1,u2,u3,u4,u5,u6,u7,u8,u9⟩,e0,e1,e2,e3,e4,e5,e6,e7,e8,e9⟩:=Yg h4.z;have lz:=Qz h4.z;have HZ9:Hid (wr.heap[w.heap.size+1+1]? =some (.cells #[.int .i64 0,.string ⟨#[]⟩,.int .u64 0,.int .u64 0,.int .u64 0,.int .u64 0,.slice none 0 0,.int .i64 0,.slice none 0 0,.int .i64 0] 77)):=hid h4.z;clear HL h4 hk
    go_wp2_with fail
    have hP:=z4k (v0:=.int .i64 k) (v1:=.string T) (v2:=.int .u64 a) (v3:=.int .u64 b) (v4:=.int .u64 c) (v5:=.int .u64 d) (v6:=.slice so n cap) (v7:=.int .i64 p) (v8:=.slice sa s.length sc) (v9:=.int .i64 0) HZ9.out;obtain⟨⟨p0,p1,p2,p3,p4,p5,p6,p7,p8,p9⟩,-⟩:=Yg hP;unfold Hc at p0 p1 p2 p3 p4 p5 p6 p7 p8 p9;refine bodyPost_ret (v:=.agg #[.int .i64 k,.string T,.int .u64 a,.int .u64 b,.int .u64 c,.int .u64 d,.slice so n cap,.int .i64 p,.slice sa s.length sc,.int .i64 0]) (by simp[results,Tryz.results31,go_sem,p0,p1,p2,p3,p4,p5,p6,p7,p8,p9]) rfl ?_;refine HFin.out _ 0 HLk.out (HB.out.grown (Hl _ (w.heap.size+1+1) (.int .i64 k) (.string T) (.int .u64 a) (.int .u64 b) (.int .u64 c) (.int .u64 d) (.slice so n cap) (.int .i64 p) (.slice sa s.length sc) (.int .i64 0)) HB.out.size (fun g e=>by have:=Option.some.inj e;omega)) (fun g h1 h2=> ?_);exact(Hl _ (w.heap.size+1+1) (.int .i64 k) (.string T) (.int .u64 a) (.int .u64 b) (.int .u64 c) (.int .u64 d) (.slice so n cap) (.int .i64 p) (.slice sa s.length sc) (.int .i64 0)).block g h2 (fun e=>by have:=Option.some.inj e;omega)
def RqR(w:World)(P:Nat->Prop)(x:Rr)(cs:List Value):Prop:=∃c,cs=.string x.1::(c++[.int .i64 x.2.2])/\Xv w P x.2.1 c
def Zl(w:World)(P:Nat->Prop):List Rr->List Value->Prop
 |[],_=>True
 |x::r,vs=>∃c rest,vs=c++rest/\RqR w P x c/\Zl w P r rest
theorem RqR.len{w:World}{P:Nat->Prop}{x:Rr}{c:List Value}(h:RqR w P x c):c.length=10:=by
 obtain⟨c1,rfl,h2⟩:=h;have:=h2.len;simp;omega
theorem Zl.kept{w w':World}{P Q:Nat->Prop}(hk:∀g cur,P g->w.heap[g]? =some (.cells cur 30)->w'.heap[g]? =w.heap[g]? /\Q g):∀(l:List Rr) (vs:List Value),Zl w P l vs->Zl w' Q l vs
 |[],vs,h=>by rw[Zl];trivial
 |n::r,vs,h=>by
  rw[Zl]at h ⊢;obtain⟨c,rest,h1,⟨c1,h2,h3⟩,h4⟩:=h;exact⟨c,rest,h1,⟨c1,h2,Xv.kept hk _ _ h3⟩,Zl.kept hk r rest h4⟩
theorem Zl.append{w:World}{P:Nat->Prop}:∀(l:List Rr) (vs:List Value) (n:Rr) (c:List Value),Zl w P l vs->vs.length=l.length*10->RqR w P n c->Zl w P (l++[n]) (vs++c)
 |[],vs,n,c,_,hl,hn=>by
  have:vs=[]:=List.eq_nil_of_length_eq_zero (by simpa using hl);subst this;rw[List.nil_append,Zl];exact⟨c,[],by simp,hn,by rw[Zl];trivial⟩
 |m::r,vs,n,c,h,hl,hn=>by
  rw[Zl]at h;obtain⟨d,rest,rfl,h2,h3⟩:=h;have hd:=h2.len;rw[List.cons_append,Zl];refine⟨d,rest++c,by rw[List.append_assoc],h2,Zl.append r rest n c h3 ?_ hn⟩;simp at hl;omega
mutual
theorem Xv.is{w:World}{P:Nat->Prop}:∀(t:RT) (c:List Value),Xv w P t c->Qk w w.heap.size t c
 | .mk k T a b c d s p,cs,h=>by
   rw[Xv]at h;rw[Qk];obtain⟨so,cap,h1,h2⟩:=h;refine⟨so,cap,h1,?_⟩;rcases h2 with h2|⟨h3,g,cur,h4,h5,h6,h7,h8⟩
   ·exact .inl h2
   ·exact .inr ⟨h3,g,0,h4,Qz h6,h7,Yd.is s cur.toList g 0 cur h6 (fun i u hu=>by rw[Nat.zero_add];simpa using hu) h8⟩
theorem Yd.is{w:World}{P:Nat->Prop}:∀(s:List RT) (vs:List Value) (g o:Nat) (cur:Array Value),w.heap[g]? =some (.cells cur 30)->(∀i u,vs[i]? =some u->cur[o+i]? =some u)->Yd w P s vs->Qc w w.heap.size g o s
 |[],_,_,_,_,_,_,_=>by rw[Qc];trivial
 |t::r,vs,g,o,cur,hg,hv,h=>by
  rw[Yd]at h;rw[Qc];obtain⟨c,rest,rfl,h2,h3⟩:=h;have hc:=h2.len;refine⟨⟨c,Xv.is t c h2,fun j u hu=> ?_⟩,Yd.is r rest g (o+8) cur hg (fun i u hu=> ?_) h3⟩
  ·have hj:j<c.length:=by
    rcases Nat.lt_or_ge j c.length with h|h
    ·exact h
    ·rw[List.getElem?_eq_none h]at hu;cases hu
   have:=hv j u (by rw[List.getElem?_append_left hj];exact hu);simp[World.cell?,hg,this]
  ·have:=hv (8+i) u (by rw[List.getElem?_append_right (by omega),hc,Nat.add_sub_cancel_left];exact hu)
   rw[Nat.add_assoc];exact this
end
theorem Zl.get{w:World}{P:Nat->Prop}:∀(l:List Rr) (vs:List Value),Zl w P l vs->∀(j:Nat) (hj:j<l.length),∃c,RqR w P l[j] c/\∀i u,c[i]? =some u->vs[j*10+i]? =some u
 |[],_,_,j,hj=>by simp at hj
 |x::r,vs,h,0,_=>by
  rw[Zl]at h;obtain⟨c,rest,rfl,h2,_⟩:=h;refine⟨c,h2,fun i u hu=> ?_⟩;have hi:i<c.length:=by
   rcases Nat.lt_or_ge i c.length with h|h
   ·exact h
   ·rw[List.getElem?_eq_none h]at hu;cases hu
  rw[Nat.zero_mul,Nat.zero_add,List.getElem?_append_left hi];exact hu
 |x::r,vs,h,j+1,hj=>by
  rw[Zl]at h;obtain⟨c,rest,rfl,h2,h3⟩:=h;obtain⟨c',h4,h5⟩:=Zl.get r rest h3 j (by simpa using hj);have hc:=h2.len;refine⟨c',h4,fun i u hu=> ?_⟩;rw[List.getElem?_append_right (by omega),hc,show(j+1)*10+i-10=j*10+i by omega];exact h5 i u hu
theorem Zl.is{w:World}{base n:Nat}{P:Nat->Prop}{a:Value}{xs:List Value}{rs:List Rr}(ho:w.ownsRow base 57 10 a n xs)(hn:n=rs.length)(h:Zl w P rs xs):∃so cap,a=.slice so n cap/\Qh w w.heap.size so n rs:=by
 obtain⟨hx,⟨h1,h0⟩|⟨g,cap,cur,e1,hg1,hg2,hc1,hc2,hc3,ht⟩⟩:=ho
 ·exact⟨none,0,by rw[h1,h0],hn,by rw[h0];unfold maxLen;omega,fun j hj=>by omega⟩
 ·refine⟨some ⟨g,0,none⟩,cap,e1,hn,by omega,fun j hj=>⟨g,0,rfl,Qz hg2,?_⟩⟩
  obtain⟨c,⟨c1,rfl,h2⟩,h3⟩:=Zl.get rs xs h j hj;have rt:=h2.is;obtain⟨k,T,a,b,c,d,so,n1,cap1,p,rfl⟩:=rt.shape;have hcell:∀i u,(Value.string rs[j].1::(r8 k T a b c d so n1 cap1 p++[.int .i64 rs[j].2.2]))[i]? =some u->w.cell? ⟨g,0+j*10+i,none⟩=some u:=fun i u hu=>by
   have h4:=h3 i u hu;rw[<-ht]at h4;have hlt:j*10+i<n*10:=by
    rcases Nat.lt_or_ge (j*10+i) (n*10)with h|h
    ·exact h
    ·rw[List.getElem?_eq_none (by rw[List.length_take];omega)]at h4;cases h4
   rw[List.getElem?_take_of_lt hlt]at h4;have h5:cur[j*10+i]? =some u:=by simpa using h4
   rw[Nat.zero_add];simp[World.cell?,hg2,h5]
  exact⟨k,T,a,b,c,d,so,n1,cap1,p,rt,hcell 0 _ rfl,hcell 1 _ rfl,hcell 2 _ rfl,hcell 3 _ rfl,hcell 4 _ rfl,hcell 5 _ rfl,hcell 6 _ rfl,hcell 7 _ rfl,hcell 8 _ rfl,hcell 9 _ rfl⟩
theorem Wj{w:World}{base e size n i:Nat}{v:Value}{xs:List Value}{o:Obj}(h:w.ownsRow base e size v n xs)(ho:w.heap[i]? =some o)(hne:∀cur,o≠.cells cur e (0,0)):v.ownBlock≠some i:=by
 obtain⟨_,⟨h1,_⟩|⟨g,cap,cur,rfl,_,hg,_⟩⟩:=h
 ·subst h1;simp[Value.ownBlock]
 ·intro e2
  simp[Value.ownBlock]at e2;subst e2;rw[hg]at ho;cases ho;exact hne cur rfl
theorem y0W(N:ByteArray)(a:Int)(T:ByteArray)(c0 c1 c2 c3:Int)(so:Option Addr)(sl sc:Nat)(p q:Int):∀u∈[Value.string N,Value.int .i64 a,.string T,.int .u64 c0,.int .u64 c1,.int .u64 c2,.int .u64 c3,.slice so sl sc,.int .i64 p,.int .i64 q],u.oneCell'=true:=z1r N a T c0 c1 c2 c3 so sl sc p q
def dO(x:Ot):DataW Unit:=.agg [.lit (.bool x.1),.lit (.bool x.2.1),.lit (.bool x.2.2)]
def oEl(v:Value):Option (DataW Unit×List MemPlace):=match v with
 | .agg cs=>match cs.toList with
   |[.bool a,.bool b,.bool c]=>some (dO (a,b,c),[])
   |_=>none
 |_=>none
theorem y0X{x y:Ot}(h:dO x=dO y):x=y:=by
 obtain⟨a,b,c⟩:=x;obtain⟨d,e,f⟩:=y;simp only[dO,DataW.agg.injEq,List.cons.injEq,DataW.lit.injEq,Lit.bool.injEq,and_true]at h;obtain⟨rfl,rfl,rfl⟩:=h;rfl
theorem z4l(x:Ot):oEl (ov x)=some (dO x,[]):=rfl
theorem y0Y{v:Value}{x:Ot}{ps:List MemPlace}(h:oEl v=some (dO x,ps)):v=ov x:=by
 unfold oEl at h;split at h
 ·rename_i cs
  split at h
  ·rename_i a b c hc
   have e:=y0X (Prod.mk.inj (Option.some.inj h)).1;subst e;obtain⟨l⟩:=cs;simp only at hc;subst hc;rfl
  ·cases h
 ·cases h
theorem y0Z(w:World):(zeroValue 71).run prog w=.ok (ov (false,false,false)) w:=by kernel_rfl
theorem z4m:Tryz.prog.underlying 122=some (.map 9 71):=by kernel_rfl
def Nm(W:World)(B:Nat)(n:Nat)(K:ByteArray->Ot):Prop:=∃D:DataW Unit,W.ownsMap prog 9 oEl B n D/\∀s,D.atKey (kls s) (dO (false,false,false))=dO (K s)
theorem Nm.made(w:World):Nm (w.alloc (.map #[] 0)) w.heap.size 0 z0O:=⟨.map [],World.ownsMap_made w _ _ _,fun s=>rfl⟩
theorem Nm.kept{W W':World}{B n:Nat}{K:ByteArray->Ot}{row:Option Nat}(h:Nm W B n K)(hg:W.grownBy W' row)(hne:some B≠row):Nm W' B n K:=by
 obtain⟨D,h1,h2⟩:=h;exact⟨D,h1.kept hg hne,h2⟩
theorem Nm.below{W W':World}{B n base:Nat}{K:ByteArray->Ot}(h:Nm W B n K)(hb:Below base W W')(hB:B<base):Nm W' B n K:=by
 obtain⟨D,⟨es,ck,h1,h2,h3,h4⟩,h5⟩:=h;exact⟨D,⟨es,ck,(hb.block B hB).trans h1,h2,h3,h4⟩,h5⟩
theorem Nm.look{W:World}{B n:Nat}{K:ByteArray->Ot}(h:Nm W B n K){s:ByteArray}(hs:s.size<=maxLen):(Instr.lookup 122 (.map (some B)) (.string s) false).run prog W=.ok (ov (K s)) W:=by
 obtain⟨D,h1,h2⟩:=h;obtain⟨v,ps,h3,h4⟩:=h1.lookup Fk z4m (y0Z W) (z4l (false,false,false)) (Fv hs);rw[h2 s]at h4;rw[h3,y0Y h4]
theorem Nm.put{W:World}{B n:Nat}{K:ByteArray->Ot}(h:Nm W B n K){s:ByteArray}(hs:s.size<=maxLen)(x:Ot)(hn:n<maxLen):∃W',(Instr.mapUpdate 122 (.map (some B)) (.string s) (ov x)).run prog W=.ok () W'/\Nm W' B (n+1) (Gz K s x)/\W.grownBy W' (some B):=by
 obtain⟨D,h1,h2⟩:=h;obtain⟨W',h3,h4,h5⟩:=h1.update Fk z4m hn (Fv hs) (z4l x);refine⟨W',h3,⟨_,h4,fun t=> ?_⟩,h5⟩;unfold Gz;by_cases e:t=s
 ·subst e
  rw[if_pos rfl,Maps.atKey_put_same h1.isMap (Hf _)]
 ·rw[if_neg e,Maps.atKey_put_other (fun h=>e (Tc h)),h2 t]
section
section
variable {P:Program} {md:Region.Mode} {ops:Array Oper} {Q:Exit->Act->World->Prop} {S:World->Prop} {z:Nat}
def Ul(P:Program)(md:Region.Mode)(ops:Array Oper)(Q:Exit->Act->World->Prop)(S:World->Prop)(z:Nat):Nat->Array Bool->Act->World->Prop
 |0,l,a,w=>Region.ready md ops l=[]/\Q .normal a w
 |n+1,l,a,w=>(Region.ready md ops l=[]->Q .normal a w)/\∀i∈Region.ready md ops l,wpOp P ops Q i (fun a' w'=>(i≠z->S w')/\Ul P md ops Q S z n (l.setIfInBounds i true) a' w') a w
theorem Wk:∀(n:Nat) (l:Array Bool) (a:Act) (w:World),Ul P md ops Q S z n l a w->wpAny P md ops Q n l a w
 |0,_,_,_,h=>h
 |n+1,_,_,_,h=>⟨h.1,fun i hi=>wpOp_mono (fun a' w' k=>Wk n _ a' w' k.2) (h.2 i hi)⟩
def Iz(md:Region.Mode)(ops:Array Oper)(z i:Nat):Bool:=match ops[z]? with
 |some o=>o.after.any fun e=>Region.binds md e&&e.on == i
 |none=>true
theorem y1a{i:Nat}{l:Array Bool}(h:Iz md ops z i=true)(hr:i∈Region.ready md ops l):z ∉ Region.ready md ops l:=fun hz=>by
 obtain⟨_,oz,hoz,hall⟩:=mem_ready.1 hz;unfold Iz at h;rw[hoz]at h;simp only[Array.any_eq_true']at h;obtain⟨e,he,hb⟩:=h;rw[Bool.and_eq_true,beq_iff_eq]at hb;have h1:=hall e he hb.1;have h0:=(mem_ready.1 hr).1;rw[hb.2]at h1;rcases Nat.lt_or_ge i l.size with h'|h'
 ·simp[h']at h0 h1;rw[h0]at h1;cases h1
 ·simp[Array.getElem?_eq_none h']at h1
theorem y1b{i:Nat}{oi:Oper}{v:Value}(hi:ops[i]? =some oi)(hsel:∀(j:Nat) (o:Oper) cs b,ops[j]? =some o->o.op≠.select cs b)(hz:Iz md ops z i=true)
  (hQ:∀c a w,Q (.panic c) (a.put oi.dst v) w->Q (.panic c) a w):
  ∀(n:Nat) (l:Array Bool) (a:Act) (w:World),
   (∀j oj,ops[j]? =some oj->j≠i->l.getD j true=false->(∀e∈oj.after,Region.binds md e=true->e.on≠i)->oi.apart ops oj=true)->
   i∈Region.ready md ops l->YieldsIf P ops S oi v a->S w->
   Ul P md ops Q S z n (l.setIfInBounds i true) (a.put oi.dst v) w->Ul P md ops Q S z (n+1) l a w:=by
 intro n
 induction n with
 |zero=>
  intro l a w _ hr hy hS H;refine⟨fun h=>(by rw[h]at hr;cases hr),fun j hj=> ?_⟩;by_cases hji:j=i
  ·subst hji;exact hy.wpOp hi hS ⟨fun _=>hS,H⟩
  ·have:=ready_mono hj hji
   rw[H.1]at this;cases this
 |succ n ih=>
  intro l a w hfree hr hy hS H;refine⟨fun h=>(by rw[h]at hr;cases hr),fun j hj=> ?_⟩;by_cases hji:j=i
  ·subst hji;exact hy.wpOp hi hS ⟨fun _=>hS,H⟩
  ·have h1:=H.2 j (ready_mono hj hji)
   have hjz:j≠z:=fun e=>y1a hz hr (e▸hj)
   obtain⟨hjun,oj,hoj,hall⟩:=mem_ready.1 hj;have hnot:∀e∈oj.after,Region.binds md e=true->e.on≠i:=fun e he hb heq=>by
    have h1:=hall e he hb;have h0:=(mem_ready.1 hr).1;rw[heq]at h1;rcases Nat.lt_or_ge i l.size with h'|h'
    ·simp[h']at h0 h1;rw[h0]at h1;cases h1
    ·simp[Array.getElem?_eq_none h']at h1
   have h2:=wpOp_putIf hoj (hfree j oj hoj hji hjun hnot) (fun cs b=>hsel i oi cs b hi) (fun cs b=>hsel j oj cs b hoj) hQ hy h1;have hfree':∀k ok,ops[k]? =some ok->k≠i->(l.setIfInBounds j true).getD k true=false->
     (∀e∈ok.after,Region.binds md e=true->e.on≠i)->oi.apart ops ok=true:=fun k ok hk hki hun hno=>by
    refine hfree k ok hk hki ?_ hno;by_cases hjk:j=k
    ·subst hjk;exact hjun
    ·rw[getD_set_ne true hjk]at hun;exact hun
   refine wpOp_mono (fun a' w' h3=>⟨fun _=>h3.2.1 hjz,ih (l.setIfInBounds j true) a' w' hfree' (ready_mono hr (Ne.symm hji)) h3.1 (h3.2.1 hjz) ?_⟩) h2;rw[Array.setIfInBounds_comm _ _ hji];exact h3.2.2
theorem Qq{i:Nat}{oi:Oper}{v:Value}{n:Nat}{l:Array Bool}{a:Act}{w:World}(hi:ops[i]? =some oi)
  (hs:Region.noSelect ops=true)(hf:(Region.free md ops l i&&Iz md ops z i)=true)(hr:(Region.ready md ops l).contains i=true)
  (hQ:∀c a w,Q (.panic c) (a.put oi.dst v) w->Q (.panic c) a w)(hy:YieldsIf P ops S oi v a)(hS:S w)
  (h:Ul P md ops Q S z n (l.setIfInBounds i true) (a.put oi.dst v) w):Ul P md ops Q S z (n+1) l a w:=by
 rw[Bool.and_eq_true]at hf;exact y1b hi (Region.noSelect_spec hs) hf.2 hQ n l a w (Region.free_spec hi hf.1) (by simpa using hr) hy hS h
theorem Ym{i:Nat}{o:Oper}{n:Nat}{l:Array Bool}{a:Act}{w:World}(hr:Region.ready md ops l=[i])(ho:ops[i]? =some o)
  (h:∀K':Act->World->Prop,Shut (∀a w,S w->Ul P md ops Q S z n (l.setIfInBounds i true) a w->K' a w)->if Region.wanted o (yielded ops a.tmps)=true then Oper.wp P o a w K' Q else K' (a.put o.dst undef) w):Ul P md ops Q S z (n+1) l a w:=by
 refine⟨(fun h0=>by rw[hr]at h0;cases h0),fun j hj=> ?_⟩;rw[hr,List.mem_singleton]at hj;subst hj;exact wpOp_step ho fun K' hK=>h K' fun a w hS hW=>hK a w ⟨fun _=>hS,hW⟩
theorem Bq{o:Oper}{n:Nat}{l:Array Bool}{a:Act}{w:World}(hr:Region.ready md ops l=[z])(hl:Region.ready md ops (l.setIfInBounds z true)=[])(ho:ops[z]? =some o)
  (h:∀K':Act->World->Prop,Shut (∀a w,Q .normal a w->K' a w)->if Region.wanted o (yielded ops a.tmps)=true then Oper.wp P o a w K' Q else K' (a.put o.dst undef) w):Ul P md ops Q S z (n+1) l a w:=by
 refine⟨(fun h0=>by rw[hr]at h0;cases h0),fun j hj=> ?_⟩;rw[hr,List.mem_singleton]at hj;subst hj;refine wpOp_step ho fun K' hK=>h K' fun a w hW=>hK a w ⟨fun hne=>absurd rfl hne,?_⟩
 cases n with
 |zero=>exact⟨hl,hW⟩
 |succ n=>exact⟨fun _=>hW,fun i hi=>by rw[hl]at hi;cases hi⟩
theorem Fw{id:Nat}{a:Act}{w:World}(z:Nat)(S:World->Prop)(hm:P.follows .mixedOrders=true)(hS:S w.drew)
  (h:S w.drew->Ul P .any ops Q S z ops.size (Array.replicate ops.size false) a w.drew):(Code.region id ops true).wp P Q a w:=
 wp_region_any hm (Wk _ _ _ _ (h hS))
end
end
theorem Nm.lt{W:World}{B n:Nat}{K:ByteArray->Ot}(h:Nm W B n K):B<W.heap.size:=by
 obtain⟨D,h1,_⟩:=h;exact h1.lt
theorem z4n(K:ByteArray->Ot)(t:RT):∀(l:List RT) (x:Ot),ofS K x (l++[t])=Nw (ofS K x l) (ofT K t)
 |[],x=>by rw[List.nil_append,ofS,ofS,ofS]
 |a::r,x=>by rw[List.cons_append,ofS,ofS,z4n K t r]
theorem z4o(K:ByteArray->Ot)(t:RT):∀(l:List RT) (x:Ot),ofA K x (l++[t])=Kq (ofA K x l) (ofT K t)
 |[],x=>by rw[List.nil_append,ofA,ofA,ofA]
 |a::r,x=>by rw[List.cons_append,ofA,ofA,z4o K t r]
theorem y1c(K:ByteArray->Ot)(x:Ot)(s:List RT)(j:Nat)(hj:j<s.length):ofS K x (s.take (j+1))=Nw (ofS K x (s.take j)) (ofT K s[j]):=by
 rw[show s.take (j+1)=s.take j++[s[j]] by simp,z4n]
theorem y1d(K:ByteArray->Ot)(x:Ot)(s:List RT)(j:Nat)(hj:j<s.length):ofA K x (s.take (j+1))=Kq (ofA K x (s.take j)) (ofT K s[j]):=by
 rw[show s.take (j+1)=s.take j++[s[j]] by simp,z4o]
theorem Vj{W:World}{R:Nat}{a b c v0 v1 v2:Value}{t:TypeId}(h:W.heap[R]? =some (.cells #[a,b,c] t)):(((W.setCell ⟨R,0,none⟩ v0).setCell ⟨R,1,none⟩ v1).setCell ⟨R,2,none⟩ v2).heap[R]? =some (.cells #[v0,v1,v2] t):=Qy (Qy (Qy h 0 _) 1 _) 2 _
theorem z4p{w w4 W W':World}{x1 x2 x3 y1 y2 y3:Bool}(h:Hid (Below w.heap.size w W)/\Hid (W.heap[w.heap.size]? =some (.cells #[.bool false,.bool false,.bool false] 71))/\Hid (W.heap[w.heap.size+1]? =some (.cells #[.bool x1,.bool x2,.bool x3] 71))/\W.cell? ⟨w.heap.size+1,0,none⟩=some (.bool x1)/\W.cell? ⟨w.heap.size+1,1,none⟩=some (.bool x2)/\W.cell? ⟨w.heap.size+1,2,none⟩=some (.bool x3)/\W.cell? ⟨w4.heap.size,0,none⟩=some (.bool y1)/\W.cell? ⟨w4.heap.size,1,none⟩=some (.bool y2)/\W.cell? ⟨w4.heap.size,2,none⟩=some (.bool y3))(hb:Below W.heap.size W W'):Hid (Below w.heap.size w W')/\Hid (W'.heap[w.heap.size]? =some (.cells #[.bool false,.bool false,.bool false] 71))/\Hid (W'.heap[w.heap.size+1]? =some (.cells #[.bool x1,.bool x2,.bool x3] 71))/\W'.cell? ⟨w.heap.size+1,0,none⟩=some (.bool x1)/\W'.cell? ⟨w.heap.size+1,1,none⟩=some (.bool x2)/\W'.cell? ⟨w.heap.size+1,2,none⟩=some (.bool x3)/\W'.cell? ⟨w4.heap.size,0,none⟩=some (.bool y1)/\W'.cell? ⟨w4.heap.size,1,none⟩=some (.bool y2)/\W'.cell? ⟨w4.heap.size,2,none⟩=some (.bool y3):=by
 obtain⟨h1,h2,h3,z0,z1,z2,z3,z4,z5⟩:=h;have e:∀(a:Addr) (u:Value),W.cell? a=some u->W'.cell? a=some u:=fun a u h=>(hb.cell (p:=a) (World.block_lt_of_cell? W _ h)).trans h
 exact⟨hid (h1.out.trans (hb.mono h1.out.size)),hid ((hb.block _ (Qz h2.out)).trans h2.out),hid ((hb.block _ (Qz h3.out)).trans h3.out),e _ _ z0,e _ _ z1,e _ _ z2,e _ _ z3,e _ _ z4,e _ _ z5⟩
theorem y1e(W:World)(a b c:Addr)(x y z:Value):(((W.setCell a x).setCell b y).setCell c z).drew=((W.drew.setCell a x).setCell b y).setCell c z:=rfl
theorem y1f{x1 x2 x3 y1 y2 y3 q:Bool}(h:q=suc (y1,y2,y3)):Nw (x1,x2,x3) (y1,y2,y3)=(x1&&y1,x2&&q||x1&&y2,x3||(x1||x2)&&y3):=by rw[h];rfl
theorem y1g(B nn:Nat)(K:ByteArray->Ot)(T:ByteArray)(a b c d:Int)(so:Option Addr)(n cap:Nat)(p:Int)(w:World)(hM:Nm w B nn K)(hT:T.size<=maxLen):Calls prog 62 #[.map (some B),.agg #[.int .i64 5,.string T,.int .u64 a,.int .u64 b,.int .u64 c,.int .u64 d,.slice so n cap,.int .i64 p]] w fun e w'=>e=.returned (ov (K T))/\Hid (Below w.heap.size w w'):=by
 have HB:Hid (∀o1 o2:Obj,Below w.heap.size w ((w.alloc o1).alloc o2)):=fun o1 o2=>((Below.refl _ w).alloc L0q o1).alloc (by simp) o2
 have hL:=((hM.kept (World.grownBy_alloc w (.cells #[.int .i64 5,.string T,.int .u64 a,.int .u64 b,.int .u64 c,.int .u64 d,.slice so n cap,.int .i64 p] 30) none) (by simp)).kept (World.grownBy_alloc _ (.cells #[.bool false,.bool false,.bool false] 71) none) (by simp)).look hT;obtain⟨⟨x1,x2,x3⟩,hx⟩:∃x,x=K T:=⟨_,rfl⟩;rw[<-hx]at hL ⊢;dsimp only[ov]at hL;clear hx hM;go_enter func62,ntmps62
 go_wp2_with fail
 refine bodyPost_ret (v:=.agg #[.bool x1,.bool x2,.bool x3]) (by simp[results,Tryz.results62,go_sem]) rfl ?_;exact⟨rfl,hid (HB.out _ _)⟩
theorem y1h(m:Option Nat)(T:ByteArray)(a b c d:Int)(so:Option Addr)(n cap:Nat)(p:Int)(w:World):Calls prog 62 #[.map m,.agg #[.int .i64 3,.string T,.int .u64 a,.int .u64 b,.int .u64 c,.int .u64 d,.slice so n cap,.int .i64 p]] w fun e w'=>e=.returned (ov (if zc a b c d then(false,false,true)else(false,true,true)))/\Hid (Below w.heap.size w w'):=by
 have HB:Hid (∀o1 o2:Obj,Below w.heap.size w ((w.alloc o1).alloc o2)):=fun o1 o2=>((Below.refl _ w).alloc L0q o1).alloc (by simp) o2
 have e3:∀w:World,(Op.equalIn 10000 27 (.agg #[.int .u64 a,.int .u64 b,.int .u64 c,.int .u64 d]) (.agg #[.int .u64 0,.int .u64 0,.int .u64 0,.int .u64 0])).run prog w=.ok (zc a b c d) w:=fun w=>Ol 9998 w a b c d 0 0 0 0
 cases hz:zc a b c d with
 |true=>
  rw[hz]at e3;clear hz;go_enter func62,ntmps62
  go_wp2_with fail
  refine bodyPost_ret (v:=.agg #[.bool false,.bool false,.bool true]) (by simp[results,Tryz.results62,go_sem]) rfl ?_;exact⟨rfl,hid (HB.out _ _)⟩
 |false=>
  rw[hz]at e3;clear hz;go_enter func62,ntmps62
  go_wp2_with fail
  refine bodyPost_ret (v:=.agg #[.bool false,.bool true,.bool true]) (by simp[results,Tryz.results62,go_sem]) rfl ?_;exact⟨rfl,hid (HB.out _ _)⟩
end Go.Proofs.YtjodljnddflgfaaGreatDoor
