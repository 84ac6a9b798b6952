/- Lemmas for the last text. Conditions: those that each names. -/
import Derived.Test.YtjodljnddflgfaaGreatDoorVFIToFBase
import Derived.Deep.AppendLies
import Derived.Test.YtjodljnddflgfaaGreatDoorEO11ToO16
set_option linter.unusedVariables false
set_option maxRecDepth 100000
set_option maxHeartbeats 8000000
namespace Go.Proofs.YtjodljnddflgfaaGreatDoor
open Go.Proofs.Tryz
open Go.RowKit Go.Shelf
theorem Yd.append{w:World}{P:Nat->Prop}:∀(l:List RT) (vs:List Value) (n:RT) (c:List Value),Yd w P l vs->vs.length=l.length*8->Xv w P n c->Yd w P (l++[n]) (vs++c)
 |[],vs,n,c,_,hl,hn=>by
  have:vs=[]:=List.eq_nil_of_length_eq_zero (by simpa using hl);subst this;rw[List.nil_append,Yd];exact⟨c,[],by simp,hn,by rw[Yd];trivial⟩
 |m::r,vs,n,c,h,hl,hn=>by
  rw[Yd]at h;obtain⟨d,rest,rfl,h2,h3⟩:=h;have hd:=h2.len;rw[List.cons_append,Yd];refine⟨d,rest++c,by rw[List.append_assoc],h2,Yd.append r rest n c h3 ?_ hn⟩;simp at hl;omega
theorem Yd.more{w:World}{P:Nat->Prop}:∀(l:List RT) (vs us:List Value),Yd w P l vs->Yd w P l (vs++us)
 |[],_,_,_=>by rw[Yd];trivial
 |n::r,vs,us,h=>by
  rw[Yd]at h ⊢;obtain⟨c,rest,rfl,h2,h3⟩:=h;exact⟨c,rest++us,by rw[List.append_assoc],h2,Yd.more r rest us h3⟩
theorem Rq.app2{base j:Nat}{a a':Value}{xs cs:List Value}{acc:List RT}{t:RT}{wr w2 W4 w6:World}
  (ho:wr.ownsRow base 30 8 a j xs)(hl:acc.length=j)(hr:Yd wr (fun g=>base<=g/\a.ownBlock≠some g) acc xs)(hb0:base<=wr.heap.size)(hb:Below wr.heap.size wr w2)
  (hq:Xv w2 (fun g=>wr.heap.size<=g) t cs)(h4:w2.heap.size<=W4.heap.size)(h4b:∀g,g<w2.heap.size->W4.heap[g]? =w2.heap[g]?)(hgr:W4.grownBy w6 a.ownBlock)(hat:a'.ownBlock=a.ownBlock∨a'.ownBlock=some W4.heap.size):
  Yd w6 (fun g=>base<=g/\a'.ownBlock≠some g) (acc++[t]) (xs++cs):=by
 have key:∀g,g<w2.heap.size->a.ownBlock≠some g->w6.heap[g]? =w2.heap[g]? /\a'.ownBlock≠some g:=fun g hl hne=>by
  refine⟨(hgr.block g (by omega) (fun e=>hne e.symm)).trans (h4b g hl),?_⟩;rcases hat with h|h
  ·rw[h];exact hne
  ·rw[h];intro e;have:=Option.some.inj e;omega
 refine Yd.append _ _ _ _ (Yd.kept (fun g cur hp hq=> ?_) _ _ hr) (by rw[hl];exact ho.1) (Xv.kept (fun g cur hp hq=> ?_) _ _ hq)
 ·have hlt:=Qz hq
  have:=hb.size;have h:=key g (by omega) hp.2;exact⟨h.1.trans (hb.block g hlt),hp.1,h.2⟩
 ·have h:=key g (Qz hq) (fun e=>by have:=(ho.lt g e).2;omega)
  exact⟨h.1,by omega,h.2⟩
theorem y5t{w wr w2 w6:World}{j g6 cap6:Nat}{k a b c d p:Int}{T:ByteArray}{v:Value}{xs cs:List Value}{acc:List RT}{t:RT}{X:Obj}
  (hs:w.heap.size+2<=wr.heap.size)(ho:wr.ownsRow (w.heap.size+2) 30 8 v j xs)(hl:acc.length=j)(hr:Yd wr (fun g=>w.heap.size+2<=g/\v.ownBlock≠some g) acc xs)(hB:Below w.heap.size w wr)(hb:Below wr.heap.size wr w2)
  (hq:Xv w2 (fun g=>wr.heap.size<=g) t cs)(hz:wr.heap[w.heap.size+1]? =some (.cells #[.int .i64 0,.string ⟨#[]⟩,.int .u64 0,.int .u64 0,.int .u64 0,.int .u64 0,.slice none 0 0,.int .i64 0] 30))(hown:w6.ownsRow (w.heap.size+2) 30 8 (.slice (some ⟨g6,0,none⟩) (j+1) cap6) (j+1) (xs++cs))(hgr:(w2.alloc X).grownBy w6 v.ownBlock)(hat:v.ownBlock=some g6∨g6=w2.heap.size+1)
  (hv6:w6.heap[w.heap.size]? =some (.cells #[.int .i64 k,.string T,.int .u64 a,.int .u64 b,.int .u64 c,.int .u64 d,v,.int .i64 p] 30)):
  w.heap.size+2<=(w6.setCell ⟨w.heap.size,6,none⟩ (.slice (some ⟨g6,0,none⟩) (j+1) cap6)).heap.size/\(w6.setCell ⟨w.heap.size,6,none⟩ (.slice (some ⟨g6,0,none⟩) (j+1) cap6)).heap[w.heap.size]? =some (.cells #[.int .i64 k,.string T,.int .u64 a,.int .u64 b,.int .u64 c,.int .u64 d,.slice (some ⟨g6,0,none⟩) (j+1) cap6,.int .i64 p] 30)/\(w6.setCell ⟨w.heap.size,6,none⟩ (.slice (some ⟨g6,0,none⟩) (j+1) cap6)).heap[w.heap.size+1]? =some (.cells #[.int .i64 0,.string ⟨#[]⟩,.int .u64 0,.int .u64 0,.int .u64 0,.int .u64 0,.slice none 0 0,.int .i64 0] 30)/\(w6.setCell ⟨w.heap.size,6,none⟩ (.slice (some ⟨g6,0,none⟩) (j+1) cap6)).ownsRow (w.heap.size+2) 30 8 (.slice (some ⟨g6,0,none⟩) (j+1) cap6) (j+1) (xs++cs)/\Yd (w6.setCell ⟨w.heap.size,6,none⟩ (.slice (some ⟨g6,0,none⟩) (j+1) cap6)) (fun g=>w.heap.size+2<=g/\(Value.slice (some ⟨g6,0,none⟩) (j+1) cap6).ownBlock≠some g) (acc++[t]) (xs++cs)/\Below w.heap.size w (w6.setCell ⟨w.heap.size,6,none⟩ (.slice (some ⟨g6,0,none⟩) (j+1) cap6)):=by
 have hlt:∀g,v.ownBlock=some g->w.heap.size+2<=g/\g<wr.heap.size:=fun g e=>ho.lt g e
 have h2:=hb.size;have ea:(w2.alloc X).heap.size=w2.heap.size+1:=World.size_alloc _ _;have h6:=hgr.size;have hB2:Below w.heap.size w (w2.alloc X):=(hB.trans (hb.mono hB.size)).alloc (Nat.le_trans hB.size h2) _;have hB6:Below w.heap.size w w6:=hB2.grown hgr hB2.size (fun g e=>by have:=hlt g e;omega);refine⟨by rw[World.size_setCell];omega,Qy hv6 6 _,?_,hown.kept (row:=some w.heap.size) ⟨rfl,rfl,rfl,by simp,fun i hi hne=>Below.heap_setCell _ _ _ _ (fun e=>hne (by rw[e]))⟩ (.inr (fun e=>by have:=(hown.lt _ e).1;omega)),?_,hB6.setCell (p:=⟨w.heap.size,6,none⟩) L0q _⟩
 ·refine(Below.heap_setCell _ _ _ _ (by simp)).trans ((hgr.block _ (by omega) (fun e=>by have:=hlt _ e.symm;omega)).trans ((Below.heap_alloc _ _ _ (by omega)).trans ((hb.block _ (by omega)).trans hz)))
 ·refine Yd.kept (fun g cur hp hq=>⟨Below.heap_setCell _ _ _ _ (fun e=>by have:=hp.1;simp at e;omega),hp⟩) _ _ (Rq.app2 (W4:=w2.alloc X) ho hl hr hs hb hq (by omega) (fun g hg=>Below.heap_alloc _ _ _ hg) hgr ?_)
  rcases hat with h|h
  ·exact .inl h.symm
  ·exact .inr (by rw[h,ea];rfl)
theorem y5u(k:Int)(T:ByteArray)(a b c d p:Int)(so:Option Addr)(n cap:Nat)(s:List RT)(w:World)(hT:T.size<=281474976710656)(HN:Hid (n=s.length))(hn:n*88<=140737488351232)
  (HC:Hid (∀j (hj:j<s.length),∃g o,so=some ⟨g,o,none⟩/\g<w.heap.size/\∃k1 T1 a1 b1 c1 d1 so1 n1 cap1 p1,Rc w g (o+j*8) k1 T1 a1 b1 c1 d1 (.slice so1 n1 cap1) p1/\
    ∀W:World,Below w.heap.size w W->Calls prog 84 #[.agg #[.int .i64 k1,.string T1,.int .u64 a1,.int .u64 b1,.int .u64 c1,.int .u64 d1,.slice so1 n1 cap1,.int .i64 p1]] W (CnA s[j] W))):
  Calls prog 84 #[.agg #[.int .i64 k,.string T,.int .u64 a,.int .u64 b,.int .u64 c,.int .u64 d,.slice so n cap,.int .i64 p]] w (CnA (.mk k T a b c d s p) w):=by
 obtain⟨iT,hiT,hzT0,hzT1,hzT2⟩:=info_parts Tryz.infoNd;have hn63:n<=9223372036854775807:=by omega
 obtain⟨W0,hW0⟩:∃W0,W0=(w.alloc (.cells #[.int .i64 k,.string T,.int .u64 a,.int .u64 b,.int .u64 c,.int .u64 d,.slice so n cap,.int .i64 p] 30)).alloc (.cells #[.int .i64 0,.string ⟨#[]⟩,.int .u64 0,.int .u64 0,.int .u64 0,.int .u64 0,.slice none 0 0,.int .i64 0] 30):=⟨_,rfl⟩;have hB0:Below w.heap.size w W0:=by rw[hW0];exact((Below.refl _ w).alloc L0q _).alloc (by simp) _
 have c0:W0.heap[w.heap.size]? =some (.cells #[.int .i64 k,.string T,.int .u64 a,.int .u64 b,.int .u64 c,.int .u64 d,.slice so n cap,.int .i64 p] 30):=by rw[hW0];exact(Below.heap_alloc _ _ _ (by simp)).trans (Qx w _ rfl)
 have c1:W0.heap[w.heap.size+1]? =some (.cells #[.int .i64 0,.string ⟨#[]⟩,.int .u64 0,.int .u64 0,.int .u64 0,.int .u64 0,.slice none 0 0,.int .i64 0] 30):=by rw[hW0];exact Qx _ _ (by simp)
 have hs0:W0.heap.size=w.heap.size+1+1:=by rw[hW0];simp
 have HCl:=hid (z6k T W0 hT);go_enter func84,ntmps84
 go_wp2_with fail
 rw[<-hW0];clear hW0;refine HCl.out.mono ?_;rintro e w1 ⟨rfl,hb1⟩;have d0:=(hb1.block _ (by omega)).trans c0;have d1':=(hb1.block _ (by omega)).trans c1;obtain⟨⟨y0,y1,y2,y3,y4,y5,y6,y7⟩,yf⟩:=Qg d0;obtain⟨⟨q0,q1,q2,q3,q4,q5,q6,q7⟩,qf⟩:=Qg d1';have l0:=Qz d0;have l1:=Qz d1';have hs1:=hb1.size;have HBw:=hid (hB0.trans (hb1.mono hB0.size));obtain⟨wA,hwA⟩:∃wA,wA=(w1.setCell ⟨w.heap.size,1,none⟩ (.string T)).setCell ⟨w.heap.size,6,none⟩ (.slice none 0 0):=⟨_,rfl⟩;have HA0:Hid (wA.heap[w.heap.size]? =some (.cells #[.int .i64 k,.string T,.int .u64 a,.int .u64 b,.int .u64 c,.int .u64 d,.slice none 0 0,.int .i64 p] 30)):=by rw[hwA];exact Qy (Qy d0 1 _) 6 _
 have HA1:Hid (wA.heap[w.heap.size+1]? =some (.cells #[.int .i64 0,.string ⟨#[]⟩,.int .u64 0,.int .u64 0,.int .u64 0,.int .u64 0,.slice none 0 0,.int .i64 0] 30)):=by
  rw[hwA];exact(Below.heap_setCell _ _ _ _ (by simp)).trans ((Below.heap_setCell _ _ _ _ (by simp)).trans d1')
 have HAB:Hid (Below w.heap.size w wA):=by
  rw[hwA];exact(HBw.out.setCell (p:=⟨w.heap.size,1,none⟩) L0q _).setCell (p:=⟨w.heap.size,6,none⟩) L0q _
 have HAS:Hid (w.heap.size+2<=wA.heap.size):=hid (by
  rw[hwA];simp only[World.size_setCell];omega)
 clear HCl c0 c1
 go_wp2_with fail
 rw[<-hwA];clear hwA d0 d1' yf qf y0 y1 y2 y3 y4 y5 y6 y7 q0 q1 q2 q3 q4 q5 q6 q7 HBw hb1 l0 l1 hs1 hB0 hs0
 go_loopw [15] (fun i wr=>∃(j:Nat) (v:Value) (xs:List Value),i=.int .i64 j/\j<=n/\Hid (w.heap.size+2<=wr.heap.size)/\Hid (wr.heap[w.heap.size]? =some (.cells #[.int .i64 k,.string T,.int .u64 a,.int .u64 b,.int .u64 c,.int .u64 d,v,.int .i64 p] 30))/\Hid (wr.heap[w.heap.size+1]? =some (.cells #[.int .i64 0,.string ⟨#[]⟩,.int .u64 0,.int .u64 0,.int .u64 0,.int .u64 0,.slice none 0 0,.int .i64 0] 30))/\Hid (wr.ownsRow (w.heap.size+2) 30 8 v j xs)/\Hid (Yd wr (fun g=>w.heap.size+2<=g/\v.ownBlock≠some g) (s.take j) xs)/\Hid (Below w.heap.size w wr)) (fun i _=>n-(intOf i).toNat)
 case atStart=>exact⟨0,.slice none 0 0,[],rfl,Nat.zero_le _,HAS,HA0,HA1,World.ownsRow_nil _ _ _ _,(by rw[List.take_zero,Yd];trivial),HAB⟩
 case round=>
  obtain⟨j,v,xs,rfl,hj,HS,HV,HZ,HO,HR,HB⟩:=hrel;by_cases hjn:j<n
  ·have hjI:(j:Int)<(n:Int):=by omega
   have a0:decide ((j:Int)<(n:Int))=true:=by simp;omega
   have hjs:j<s.length:=by rw[<-HN.out];exact hjn
   obtain⟨g,o,rfl,hg,k1,T1,a1,b1,c1,d1,so1,n1,cap1,p1,rc,hc⟩:=HC.out j hjs;obtain⟨z0,z1,z2,z3,z4,z5,z6,z7⟩:=rc.below HB.out hg;obtain⟨t,ht⟩:∃t,t=s[j]:=⟨_,rfl⟩;rw[<-ht]at hc;have HT:=hid ht;have HG:=hid hc;clear hc rc ht HC
   go_wp2_with fail
   obtain⟨W1,hW1⟩:∃W1,W1=wr.alloc (.cells #[.int .i64 k1,.string T1,.int .u64 a1,.int .u64 b1,.int .u64 c1,.int .u64 d1,.slice so1 n1 cap1,.int .i64 p1] 30):=⟨_,rfl⟩;have hZ1:W1.heap.size=wr.heap.size+1:=by rw[hW1];exact World.size_alloc _ _
   have HC1:Hid (W1.heap[wr.heap.size]? =some (.cells #[.int .i64 k1,.string T1,.int .u64 a1,.int .u64 b1,.int .u64 c1,.int .u64 d1,.slice so1 n1 cap1,.int .i64 p1] 30)):=by rw[hW1];exact Qx wr _ rfl
   have HB1:Hid (Below wr.heap.size wr W1):=by rw[hW1];exact(Below.refl _ wr).alloc L0q _
   have HO1:Hid (W1.ownsRow (w.heap.size+2) 30 8 v j xs):=by rw[hW1];exact HO.out.alloc _
   rw[<-hW1];clear hW1 z0 z1 z2 z3 z4 z5 z6 z7;have hsz:=HS.out;have hV1:=(HB1.out.block _ (by omega)).trans HV.out;have HZ1:=hid ((HB1.out.block _ (by omega)).trans HZ.out);obtain⟨⟨y0,y1,y2,y3,y4,y5,y6,y7⟩,yf⟩:=Qg HC1.out;obtain⟨⟨_,_,_,_,_,_,x6,_⟩,_⟩:=Qg hV1;have HV1:=hid hV1;have HGd:=hid (HG.out W1.drew (HB.out.trans (HB1.out.mono HB.out.size)).drew);have l0:w.heap.size<W1.heap.size:=by omega
   have l1:wr.heap.size<W1.heap.size:=by omega
   obtain⟨sa,sc,rfl⟩:=Cd HO.out;have HK2:Hid (∀w2,Hid (Below W1.drew.heap.size W1.drew w2)->w2.cell? ⟨w.heap.size,6,none⟩=some (.slice sa j sc)/\w.heap.size<w2.heap.size/\w2.ownsRow (w.heap.size+2) 30 8 (.slice sa j sc) j xs/\w2.heap[w.heap.size]? =some (.cells #[.int .i64 k,.string T,.int .u64 a,.int .u64 b,.int .u64 c,.int .u64 d,.slice sa j sc,.int .i64 p] 30)/\Below wr.heap.size wr w2/\w.heap.size+2<=w2.heap.size):=fun w2 h=>by
    have hs:=h.out.size;have e:W1.drew.heap.size=W1.heap.size:=rfl;have hb:=(h.out.block w.heap.size (by omega)).trans (show W1.drew.heap[w.heap.size]? =_ from HV1.out);have ho:W1.drew.ownsRow (w.heap.size+2) 30 8 (.slice sa j sc) j xs:=HO1.out;refine⟨(Qg hb).1.2.2.2.2.2.2.1,by omega,Jw ho h.out,hb,HB1.out.drew.trans (h.out.mono (by omega)),by omega⟩
   clear hV1 HG HO1;have HNe:Hid (some w.heap.size≠(Value.slice sa j sc).ownBlock):=fun e=>by have:=(HO.out.lt _ e.symm).1;omega
   have HNf:Hid (some wr.heap.size≠(Value.slice sa j sc).ownBlock):=fun e=>by have:=(HO.out.lt _ e.symm).2;omega
   have HNg:Hid (wr.heap.size≠w.heap.size):=fun e=>by omega
   have m0:0<(8:Nat):=by decide
   have m3:0<(1:Nat):=by decide
   have m1:j+1<=maxLen:=by unfold maxLen;omega
   have m2:(j+1)*88<=140737488355328:=by omega
   go_region_law (first
    |(go_simp;go_at_call 84;refine HGd.out.mono ?_;rintro e w2 ⟨k2,T2,a2,b2,c2,d2,so2,n2,cap2,p2,rfl,HQ2,HB2⟩;have hw2:=HK2.out w2 HB2;have q6:=hw2.1;have l2:=hw2.2.1;have l3:=hw2.2.2.2.2.2)
    |(refine step_append_lies _ rfl (.tmp 20) (.tmp 23) 28 rfl (w.heap.size+2) 30 iT (.agg #[.int .i64 0,.string ⟨#[]⟩,.int .u64 0,.int .u64 0,.int .u64 0,.int .u64 0,.slice none 0 0,.int .i64 0]) 8 88 Tryz.underlying28 hiT hzT0 hzT1 hzT2 rfl m0 (.slice sa j sc) j xs (by rfl) (hw2.2.2.1.alloc _) ⟨w2.heap.size,0,none⟩ 1 1 [.int .i64 k2,.string T2,.int .u64 a2,.int .u64 b2,.int .u64 c2,.int .u64 d2,.slice so2 n2 cap2,.int .i64 p2] (by rfl) rfl (z1k _ _ _ _ _ _ _ _ _ _) (z1l _ _ _ _ _ _ _ _ _ _) m3 m1 m2 (y0P l3) (w2.heap.size+1) (World.size_alloc _ _) ?_;intro g6 cap6 w6 hown6 hgr6 hat6 hlt6;have hv6:=(hgr6.block w.heap.size (by rw[World.size_alloc];omega) HNe.out).trans ((Below.heap_alloc _ _ _ l2).trans hw2.2.2.2.1);have f6:=(Qg hv6).2.2.2.2.2.2.2.1;have c6:=(Qg hv6).1.2.2.2.2.2.2.1))
   all_goals
    have HEnd:=hid (y5t (acc:=s.take j) HS.out HO.out (by rw[List.length_take];omega) HR.out HB.out hw2.2.2.2.2.1 (Xv.kept (w':=w2) (Q:=fun g=>wr.heap.size<=g) (fun g cur hp _=>⟨rfl,Nat.le_trans (by rw[<-hZ1]at*;exact Nat.le_trans (Nat.le_of_lt l1) L0q) hp⟩) _ _ HQ2.out) HZ.out hown6 hgr6 hat6 hv6);clear hown6 hgr6 hat6 hlt6 hv6 hw2 HQ2 HB2 HO HR HS HZ HV HB
    go_wp2_with fail
    obtain⟨e1,e2,e3,e4,e5,e6⟩:=HEnd.out;refine⟨⟨j+1,_,_,by go_num,by omega,e1,e2,e3,e4,?_,e6⟩,?_⟩
    ·rw[List.take_succ_eq_append_getElem hjs,<-HT.out]
     exact e5
    ·simp[intOf];omega
  ·have a0:decide ((j:Int)<(n:Int))=false:=by simp;omega
   have hjn':j=s.length:=by have:=HN.out;omega
   obtain⟨sa,sc,rfl⟩:=Cd HO.out;have HFin:Hid (∀W,wr.grownBy W (some (w.heap.size+1))->CnA (.mk k T a b c d s p) w (.returned (.agg #[.int .i64 k,.string T,.int .u64 a,.int .u64 b,.int .u64 c,.int .u64 d,.slice sa j sc,.int .i64 p])) W):=fun W hW=>by
    have hr:=HR.out;rw[hjn',List.take_length]at hr;refine⟨k,T,a,b,c,d,sa,j,sc,p,rfl,hid ?_,hid (HB.out.grown hW HB.out.size (fun g e=>by have:=Option.some.inj e;omega))⟩;rw[Xv];refine⟨sa,sc,by rw[Xc,hjn'],?_⟩;cases s with
    |nil=>exact .inl rfl
    |cons t r=>
     refine .inr ⟨rfl,?_⟩;have hO:=HO.out;obtain⟨_,⟨_,h0⟩|⟨g,cap',cur,e1,hg1,hg2,_,_,_,ht⟩⟩:=hO
     ·rw[hjn']at h0;simp at h0
     ·obtain⟨rfl,_,_⟩:=Value.slice.inj e1
      have kk:∀g',w.heap.size+2<=g'->∀cur',wr.heap[g']? =some (.cells cur' 30)->W.heap[g']? =wr.heap[g']? :=fun g' h1 cur' h2=>hW.block g' (Qz h2) (fun e=>by have:=Option.some.inj e;omega)
      refine⟨g,cur,rfl,by omega,(kk g hg1 cur hg2).trans hg2,by rw[Xc,<-hjn'];unfold maxLen;omega,?_⟩;have h2:=Yd.more _ _ (cur.toList.drop (j*8)) (Yd.kept (w':=W) (Q:=fun g=>w.heap.size<=g) (fun g cur hp hq=>⟨kk g hp.1 cur hq,by have:=hp.1;omega⟩) _ _ hr);rw[<-ht,List.take_append_drop]at h2;exact h2
   obtain⟨⟨y0,y1,y2,y3,y4,y5,y6,y7⟩,yf⟩:=Qg HV.out;obtain⟨⟨q0,q1,q2,q3,q4,q5,q6,q7⟩,qf0,qf1,qf2,qf3,qf4,qf5,qf6,qf7⟩:=Qg HZ.out;have l0:=Qz HV.out;have l1:=Qz HZ.out;obtain⟨W8,hW8⟩:∃W8,W8=((((((((wr.setCell ⟨w.heap.size+1,0,none⟩ (.int .i64 k)).setCell ⟨w.heap.size+1,1,none⟩ (.string T)).setCell ⟨w.heap.size+1,2,none⟩ (.int .u64 a)).setCell ⟨w.heap.size+1,3,none⟩ (.int .u64 b)).setCell ⟨w.heap.size+1,4,none⟩ (.int .u64 c)).setCell ⟨w.heap.size+1,5,none⟩ (.int .u64 d)).setCell ⟨w.heap.size+1,6,none⟩ (.slice sa j sc)).setCell ⟨w.heap.size+1,7,none⟩ (.int .i64 p)):=⟨_,rfl⟩;have h8:W8.heap[w.heap.size+1]? =some (.cells #[.int .i64 k,.string T,.int .u64 a,.int .u64 b,.int .u64 c,.int .u64 d,.slice sa j sc,.int .i64 p] 30):=by rw[hW8];exact(Qy (Qy (Qy (Qy (Qy (Qy (Qy (Qy HZ.out 0 _) 1 _) 2 _) 3 _) 4 _) 5 _) 6 _) 7 _)
   have HF8:=hid (HFin.out W8 (by rw[hW8];exact(G.setR (G.setR (G.setR (G.setR (G.setR (G.setR (G.setR (G.setR (G.refl _ _)))))))))));have HE8:=hid h8;have HW8:=hid hW8;clear HR HC HO HV HZ HS HB HFin hjn' h8 hW8
   go_wp2_with fail
   rw[<-HW8.out];clear HW8 y0 y1 y2 y3 y4 y5 y6 y7 q0 q1 q2 q3 q4 q5 q6 q7 qf0 qf1 qf2 qf3 qf4 qf5 qf6 qf7 yf;obtain⟨⟨e0,e1,e2,e3,e4,e5,e6,e7⟩,_⟩:=Qg HE8.out;refine bodyPost_ret (v:=.agg #[.int .i64 k,.string T,.int .u64 a,.int .u64 b,.int .u64 c,.int .u64 d,.slice sa j sc,.int .i64 p]) (by simp[results,Tryz.results84,go_sem,e0,e1,e2,e3,e4,e5,e6,e7]) rfl ?_;exact HF8.out
end Go.Proofs.YtjodljnddflgfaaGreatDoor
