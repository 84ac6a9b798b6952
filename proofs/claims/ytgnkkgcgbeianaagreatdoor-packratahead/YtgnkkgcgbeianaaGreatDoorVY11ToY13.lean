/- Lemmas for the last text. Conditions: those that each names. -/
import Derived.Test.YtgnkkgcgbeianaaGreatDoorVY8ToY10
set_option linter.unusedVariables false
set_option maxRecDepth 100000
set_option maxHeartbeats 16000000
namespace Go.Proofs.YtgnkkgcgbeianaaGreatDoor
open Go.Proofs.Tryz
open Go.RowKit
theorem Ro.one{B:Nat}{n:Nd}{o a1 a2 a3 a4 r t y:Value}{W:World}(h:Qh W (fun g=>B<=g) n [o,a1,a2,a3,a4,r,t,y])(D:B<=W.heap.size):Ro B (.slice (some ⟨W.heap.size,0,none⟩) 1 1) [n] (W.alloc (.cells #[o,a1,a2,a3,a4,r,t,y] 81)):=by
 refine⟨[o,a1,a2,a3,a4,r,t,y],⟨rfl,.inr ⟨W.heap.size,1,_,rfl,D,Qx _ _ rfl,Nat.le_refl _,by unfold maxLen;omega,rfl,rfl⟩⟩,?_⟩;rw[Qc];refine⟨[o,a1,a2,a3,a4,r,t,y],[],by simp,Qh.kept (fun g cur E A=>⟨Below.heap_alloc W _ g (Qq A),E,?_⟩) n _ h,by rw[Qc];trivial⟩;intro e;have G:W.heap.size=g:=Option.some.inj e;have:=Qq A;omega
theorem z9N(R b:Nat)(v:Value)(L:List Tok)(ru ne:Nat)(t:Nat->Pr)(hg:Ql L)(ha:Adv L t)(ho:MC 179 (fun k=>Zy L t L.length k []) (fun _=>True) R b v L ru ne):
  MC 145 (chS L t) (fun _=>True) R b v L ru ne:=by
 intro k B w h hk _ hB;obtain⟨iT,aG,aH,aI,aJ⟩:=info_parts Tryz.infoNd;have ag:Hid (En w R b v L k ru ne (w.alloc Zo)):=En.start h;have HM:Hid (MC 179 (fun k=>Zy L t L.length k []) (fun _=>True) R b v L ru ne):=ho;have HG:Hid (Ql L):=hg;have HA:Hid (Adv L t):=ha;have aS:=hg.len;have HO:=hid (ho k (w.heap.size+1) (w.alloc Zo) (h.alloc _) hk trivial (by simp));unfold chS;cases hs:Zy L t L.length k []with
 |inl c=>
  simp only[hs]at HO;clear ho h hg ha HM hs;show Calls _ _ _ _ (fun e w'=>Qd (.inl c) B R b v L ru ne w e w');go_enter func145,ntmps145
  go_wp2_with fail
  refine HO.out.mono ?_;rintro e w1 hA;have ah:Hid (Qd (.inl c) B R b v L ru ne w e w1):=Qd.up ag.out hA;obtain⟨f,rfl,_,_⟩:=hA;clear HO ag
  go_wp2_with fail
  exact⟨rfl,ah.out⟩
 |inr q=>
  obtain⟨n,k1⟩:=q;have aK:=Mf hg ha _ _ _ _ _ hk hs;simp only[hs]at HO;obtain⟨E,hR⟩:∃E,E=Xq L t L.length k1 [n]:=⟨_,rfl⟩;have ao:Hid (Xq L t L.length k1 [n]=E):=hR.symm;show Calls _ _ _ _ (fun e w'=>Qd (Xq L t L.length k1 [n]) B R b v L ru ne w e w');rw[<-hR];clear hR h ho hg ha hs;go_enter func145,ntmps145
  go_wp2_with fail
  refine HO.out.mono ?_;rintro e w1 ⟨cs,rfl,Y,HR,ab⟩;have aa:=hid (ag.out.grown HR.out ab.out);clear HO HR ab ag;obtain⟨kd,T,C,so,sl,sc,I⟩:=Y.out.shape;obtain⟨p,U⟩:∃p,p=n.at':=⟨_,rfl⟩;rw[<-U]at I;subst I;clear U;dsimp only[n8];have ae:=hid (Ro.one Y.out aa.out.size);have ap:=hid (aa.out.alloc (.cells #[.int .i64 kd,.string T,.int .u64 (wd C 0),.int .u64 (wd C 1),.int .u64 (wd C 2),.int .u64 (wd C 3),.slice so sl sc,.int .i64 p] 81));clear Y aa
  go_wp2_with fail
  go_loopw [3] (fun a wr=>∃(f j:Nat) (m:Nd) (r:List Nd),j<L.length/\L.length<=f+j/\r.length<=j/\Hid (Xq L t f j (m::r)=E)/\Hid (Ro (w.heap.size+1) a (m::r) wr)/\Hid (En w R b v L j ru ne wr)) (fun _ wr=>L.length-Jg R wr)
  case atStart=>exact⟨L.length,k1,n,[],aK.2,by omega,by simp,ao,ae,ap⟩
  case round=>
   obtain⟨f,j,m,r,hj,aT,aL,ac,ad,y⟩:=hrel;clear ao ap ae;have V:=Fy R b v L j ru ne hj HG.out;have aU:(j:Int)+1<9223372036854775807:=by omega
   cases f with
   |zero=>omega
   |succ f=>
   by_cases hz:sgT (gL L j)={data:=#[47]}
   ·have aq:=HG.out.sg hj hz
    rw[hz]at V;have HC:=hid (fun(W:World) (h:Rd W R b v L (j+1) ru ne)=>HM.out (j+1) W.heap.size W h aq trivial L0q);cases hs:Zy L t L.length (j+1) []with
    |inl c=>
     have HF:Hid (E=.inl c):=by show _=_;rw[<-ac.out,Xq,if_pos hz,hs]
     simp only[hs]at HC;clear hs hz ac
     go_wp2_with fail
     refine(V.out _ y.out.1).mono ?_;rintro e w2 ⟨rfl,A⟩;have o:=hid (y.out.below A);clear A y V ad;obtain⟨r0,r1,r2,r3,q0,q1,q2,q3⟩:=o.out.1.cells;have ai:=o.out.1.lt;have D:=hid o.out.next;clear o
     go_wp2_with fail
     refine(HC.out _ D.out.1).mono ?_;rintro e w5 hA;have ah:Hid (Qd E B R b v L ru ne w e w5):=by show Qd _ _ _ _ _ _ _ _ _ _ _;rw[HF.out];exact Qd.up D.out hA
     obtain⟨f',rfl,_,_⟩:=hA;clear D HC HF r0 r1 r2 r3 q0 q1 q2 q3 ai
     go_wp2_with fail
     exact⟨rfl,ah.out⟩
    |inr q=>
     obtain⟨n2,k'⟩:=q;have aM:=Mf HG.out HA.out _ _ _ _ _ aq hs;have aN:Hid (Xq L t f k' ((m::r)++[n2])=E):=by show _=_;rw[<-ac.out,Xq,if_pos hz,hs]
     simp only[hs]at HC;clear hs hz ac;have HJ:Hid (Jg R wr=j):=Kp y.out.1
     go_wp2_with fail
     refine(V.out _ y.out.1).mono ?_;rintro e w2 ⟨rfl,A⟩;have o:=hid (y.out.below A);have ar:=hid (ad.out.below A);clear A y V ad;obtain⟨r0,r1,r2,r3,q0,q1,q2,q3⟩:=o.out.1.cells;have ai:=o.out.1.lt;have D:=hid o.out.next;have aj:=hid (ar.out.grown (G.setR (u:=.int .i64 ((j:Int)+1)) (j:=1) (G.refl w2 R)) (by have:=o.out.lt;omega));clear o ar
     go_wp2_with fail
     refine(HC.out _ D.out.1).mono ?_;rintro e w5 ⟨cs,rfl,Y,HR,ab⟩;have ak:=hid (D.out.grown HR.out ab.out);have au:=hid (aj.out.grown ab.out (by have:=D.out.lt;omega));have av:=hid (aj.out.blk);have aw:Hid (w.heap.size+1<=(w2.setCell ⟨R,1,none⟩ (.int .i64 ((j:Int)+1))).heap.size):=D.out.size;clear D aj HR ab HC r0 r1 r2 r3 q0 q1 q2 q3 ai;obtain⟨kd,T,C,so,sl,sc,I⟩:=Y.out.shape;obtain⟨p,U⟩:∃p,p=n2.at':=⟨_,rfl⟩;rw[<-U]at I;subst I;clear U;obtain⟨xs,ax,ay⟩:=au.out;have af:=hid ax;have az:=hid ay;clear ax ay au;rw[List.length_cons]at af;dsimp only[n8]
     go_wp2_with(first|(at_builtin;refine wpList_append_own_at _ rfl (.tmp 17) (.tmp 20) 79 rfl (w.heap.size+1) 81 iT (.agg #[.int .i64 0,.string ⟨#[]⟩,.int .u64 0,.int .u64 0,.int .u64 0,.int .u64 0,.slice none 0 0,.int .i64 0]) 8 88 Tryz.underlying79 aG aH aI aJ rfl (by decide) _ _ _ rfl (af.out.alloc _) ⟨w5.heap.size,0,none⟩ 1 1 (n8 kd T C (.slice so sl sc) p) rfl rfl (Rx w5 _ _ _ _ _ _ _ _ 81) (Rj _ _ _ _ _ _ _ _ _ _) (by unfold maxLen;omega) (by omega) (by have:=ak.out.size;simp;omega) ?_;intro v6 w6 aA al aO aB))
     have aP:Hid (Ro (w.heap.size+1) v6 ((m::r)++[n2]) w6):=Ro.app af.out az.out Y.out aw.out av.out ((Below.refl _ w5).alloc L0q _) aA al aB;have aC:Hid (En w R b v L k' ru ne w6):=(ak.out.alloc _).rowed al (fun g e=>by have:=(af.out.lt g e).1;omega);have aQ:Hid (Jg R w6=k'):=Kp aC.out.1;clear aA al aO aB af az Y ak av aw
     go_wp2_with fail
     go_roundw
     case rel=>exact⟨f,k',m,r++[n2],aM.2,by omega,by simp;omega,aN,aP,aC⟩
     case measure=>rw[HJ.out,aQ.out];omega
   ·have HF:Hid (E=.inr (Vq 7 (m::r),j)):=by show _=_;rw[<-ac.out,Xq,if_neg hz]
    obtain⟨Z,hZ⟩:∃Z,Z=sgT (gL L j):=⟨_,rfl⟩;rw[<-hZ]at V hz;have z1:(Z.toList == [47])=false:=Gv hz;clear hZ hz ac HM;obtain⟨aV,am,_⟩:=ad.out;rw[List.length_cons]at am;obtain⟨g,aW,aR⟩:=Gx am (by omega);clear am;subst aR;obtain⟨q,hq⟩:∃q,q=r.length:=⟨_,rfl⟩;have aD:Hid (q=r.length):=hq;rw[<-hq]at aL ⊢;clear hq
    go_wp2_with fail
    refine(V.out _ y.out.1).mono ?_;rintro e w2 ⟨rfl,A⟩;have aa:=hid (y.out.below A);have ae:=hid (ad.out.below A);clear A y V ad;obtain⟨g',aX,hq,HJ⟩:=ae.out.joined aa.out.size (by rw[<-aD.out];omega) 7;rw[<-aD.out]at HJ hq;cases hq;clear ae
    go_wp2_with fail
    refine HJ.out.mono ?_;rintro e w3 ⟨cs,rfl,aE,aF⟩;have o:=hid (aa.out.below aF.out);clear aF aa HJ;obtain⟨kd,T,C,so,sl,sc,I⟩:=aE.out.shape;obtain⟨p,U⟩:∃p,p=(Vq 7 (m::r)).at':=⟨_,rfl⟩;rw[<-U]at I;subst I;clear U;dsimp only[n8];obtain⟨⟨k0,k1,k2,k3,k4,k5,k6,k7⟩,⟨f0,f1,f2,f3,f4,f5,f6,f7⟩⟩:=o.out.cells
    go_wp2_with fail
    (try simp only[Exit.inBlock,Exit.then])
    obtain⟨⟨c0,c1,c2,c3,c4,c5,c6,c7⟩,_⟩:=Qy (Uz o.out.2.2.1 (kd:Int) T (wd C 0:Nat) (wd C 1:Nat) (wd C 2:Nat) (wd C 3:Nat) (.slice so sl sc) (p:Int));refine bodyPost_ret (v:=.agg (n8 kd T C (.slice so sl sc) p).toArray) (by simp[results,Tryz.results145,go_sem,c0,c1,c2,c3,c4,c5,c6,c7]) rfl ?_;rw[HF.out];exact o.out.fin aE.out hB
theorem Rd.setNest{w:World}{R b:Nat}{v:Value}{L:List Tok}{k ru ne:Nat}(h:Rd w R b v L k ru ne):Rd (w.setCell ⟨R,3,none⟩ (.int .i64 ((ne:Int)+1))) R b v L k ru (ne+1):=by
 have o:=h.nest (ne+1);rw[show(((ne+1:Nat):Int))=(ne:Int)+1 by omega]at o;exact o
theorem En.nestD{w W:World}{R b:Nat}{v:Value}{L:List Tok}{k ru ne:Nat}(h:En w R b v L k ru (ne+1) W):En w R b v L k ru ne (W.setCell ⟨R,3,none⟩ (.int .i64 ne)):=
 ⟨h.1.nest ne,G.setR h.2.1,(Below.heap_setCell _ _ _ _ (show w.heap.size≠R by have:=h.lt;omega)).trans h.2.2.1,h.2.2.2.1,h.2.2.2.2⟩
theorem En.start'{w W:World}{R b:Nat}{v:Value}{L:List Tok}{k t ru ne y:Nat}(o:Rd w R b v L t ru y)(h:Rd W R b v L k ru ne)(r:w.grownBy W (some R))(A:W.heap.size=w.heap.size):En w R b v L k ru ne (W.alloc Zo):=
 ⟨h.alloc _,G.alloc r,by rw[<-A];exact Qx W _ rfl,o.lt,fun g r e=>by have:=(o.2.lt _ e).2;omega⟩
theorem z9O(R b:Nat)(v:Value)(L:List Tok)(ru:Nat)(A:Ql L):
  MC 286 (Zc L 0) (fun k=>sgT (gL L k)={data:=#[40]}) R b v L ru 24:=by
 intro k B w h D _ hB;rw[Zc];have t:=z1X R b v L k ru 24 D A;have o:Hid (En w R b v L k ru 24 (w.alloc Zo)):=En.start h;obtain⟨E,I,U,y,V,Y,Z,q3⟩:=o.out.1.cells;have aa:(w.alloc Zo).cell? ⟨R,3,none⟩=some (.int .i64 24):=y;clear h E I U y V Y Z q3;go_enter func286,ntmps286
 go_wp2_with fail
 refine(t.out 2 _ o.out.1).mono ?_;rintro e w1 ⟨f,rfl,r⟩;have HA:Hid (Qd (.inl (2,(gL L k).2.2.2)) B R b v L ru 24 w (.panicked [{v:=.iface 134 (.pointer (some ⟨f,0,none⟩)),recovered:=false}]) w1):=Qd.up (B':=0) (ne':=24) o.out ⟨f,rfl,hid ⟨r.out.1,r.out.2.1⟩,hid (G.below r.out.2.2)⟩;clear r o t aa
 go_wp2_with fail
 exact⟨rfl,HA.out⟩
theorem z9P(R b:Nat)(v:Value)(L:List Tok)(ru ne d:Nat)(hg:Ql L)(ar:ne<24)(ho:MC 145 (chS L (Zc L d)) (fun _=>True) R b v L ru (ne+1)):
  MC 286 (Zc L (d+1)) (fun k=>sgT (gL L k)={data:=#[40]}) R b v L ru ne:=by
 intro k B w h hk ae hB;rw[Zc];have af:=hg.sg hk ae;have au:(k:Int)+1<9223372036854775807:=by have:=hg.len;omega
 have av:((ne:Int) == 24)=false:=by simp;omega
 have o:Hid (En w R b v L (k+1) ru (ne+1) (((w.setCell ⟨R,1,none⟩ (.int .i64 ((k:Int)+1))).setCell ⟨R,3,none⟩ (.int .i64 ((ne:Int)+1))).alloc Zo)):=En.start' h h.next1.setNest (G.setR (G.setR (G.refl w R))) (by simp);have y:=Eq ho (k+1) (w.heap.size+1) af;have HG:Hid (Ql L):=hg;have ag:=hid (Mg hg d);obtain⟨r0,r1,r2,V,q0,q1,q2,q3⟩:=h.cells;have ad:=h.lt;clear h ho ae hg;cases hs:chS L (Zc L d) (k+1)with
 |inl c=>
  rw[hs]at y;clear hs;show Calls _ _ _ _ (fun e w'=>Qd (.inl c) B R b v L ru ne w e w');go_enter func286,ntmps286
  go_wp2_with fail
  refine(y.out _ o.out.1 (by have:=o.out.size;omega)).mono ?_;rintro e r hA;have HA:Hid (Qd (.inl c) B R b v L ru ne w e r):=Qd.up o.out hA;obtain⟨f,rfl,_,_⟩:=hA;clear o y r0 r1 r2 V q0 q1 q2 q3
  go_wp2_with fail
  exact⟨rfl,HA.out⟩
 |inr q=>
  obtain⟨n,k'⟩:=q;rw[hs]at y;have ah:=Pc HG.out ag.out af hs;have Y:=Fy R b v L k' ru (ne+1) ah.2 HG.out;have HW:=Ez R b v L k' ru (ne+1) ah.2 HG.out;have aw:(k':Int)+1<9223372036854775807:=by have:=HG.out.len;omega
  unfold My;simp only;clear hs ag;by_cases hz:sgT (gL L k')={data:=#[41]}
  ·rw[if_pos hz]
   rw[hz]at Y;clear hz HW;go_enter func286,ntmps286
   go_wp2_with fail
   refine(y.out _ o.out.1 (by have:=o.out.size;omega)).mono ?_;rintro e r ⟨cs,rfl,HN,HR,ab⟩;have aa:=hid (o.out.grown HR.out ab.out);clear o y HR ab r0 r1 r2 V q0 q1 q2 q3 ad;obtain⟨kd,T,C,A,D,E,ac⟩:=HN.out.shape;obtain⟨p,hp⟩:∃p,p=n.at':=⟨_,rfl⟩;rw[<-hp]at ac;subst ac;clear hp;dsimp only[n8];have U:=hid (aa.out.alloc (.cells #[.int .i64 kd,.string T,.int .u64 (wd C 0),.int .u64 (wd C 1),.int .u64 (wd C 2),.int .u64 (wd C 3),.slice A D E,.int .i64 p] 81));have ai:=hid (HN.out.below (((Below.refl _ r).alloc L0q (.cells #[.int .i64 kd,.string T,.int .u64 (wd C 0),.int .u64 (wd C 1),.int .u64 (wd C 2),.int .u64 (wd C 3),.slice A D E,.int .i64 p] 81))));have aj:Hid ((r.alloc (.cells #[.int .i64 kd,.string T,.int .u64 (wd C 0),.int .u64 (wd C 1),.int .u64 (wd C 2),.int .u64 (wd C 3),.slice A D E,.int .i64 p] 81)).heap[r.heap.size]? =some (.cells #[.int .i64 kd,.string T,.int .u64 (wd C 0),.int .u64 (wd C 1),.int .u64 (wd C 2),.int .u64 (wd C 3),.slice A D E,.int .i64 p] 81)):=Qx _ _ rfl;have ak:Hid (w.heap.size<r.heap.size):=aa.out.size;clear aa HN
   go_wp2_with fail
   refine(Y.out _ U.out.1).mono ?_;rintro e w5 ⟨rfl,I⟩;have t:=hid (U.out.below I);have al:=hid (ai.out.below I);have am:=hid ((I.block _ (by simp)).trans aj.out);have ao:Hid (r.heap.size<w5.heap.size):=Nat.lt_of_lt_of_le (by simp) I.size;clear I Y U ai aj;obtain⟨⟨m0,m1,m2,m3,m4,m5,m6,m7⟩,⟨y0,y1,y2,y3,y4,y5,y6,y7⟩⟩:=Qy am.out;obtain⟨⟨k0,k1,k2,k3,k4,k5,k6,k7⟩,⟨f0,f1,f2,f3,f4,f5,f6,f7⟩⟩:=t.out.cells;obtain⟨r0,r1,r2,V,q0,q1,q2,q3⟩:=t.out.1.cells;have ax:w5.cell? ⟨R,3,none⟩=some (.int .i64 ((ne:Int)+1)):=by rw[V];simp
   clear V;have ad:=t.out.lt;have ay:=ak.out;have az:=ao.out;have aA:R≠r.heap.size:=by omega
   have aB:R≠w.heap.size:=by omega
   have aC:w.heap.size≠r.heap.size:=by omega
   have ap:=hid t.out.next.nestD;have aq:=hid (Qh.grown al.out (G.setR (u:=.int .i64 ne) (j:=3) (G.setR (u:=.int .i64 ((k':Int)+1)) (j:=1) (G.refl w5 R))) t.out.1.1);clear t al am ak ao
   go_wp2_with fail
   (try simp only[Exit.inBlock,Exit.then])
   obtain⟨⟨c0,c1,c2,c3,c4,c5,c6,c7⟩,_⟩:=Qy (Uz ap.out.2.2.1 (kd:Int) T (wd C 0:Nat) (wd C 1:Nat) (wd C 2:Nat) (wd C 3:Nat) (.slice A D E) (p:Int));refine bodyPost_ret (v:=.agg (n8 kd T C (.slice A D E) p).toArray) (by simp[results,Tryz.results286,go_sem,c0,c1,c2,c3,c4,c5,c6,c7]) rfl ?_;exact ap.out.fin aq.out hB
  ·rw[if_neg hz]
   obtain⟨Z,hZ⟩:∃Z,Z=sgT (gL L k'):=⟨_,rfl⟩;rw[<-hZ]at Y hz;have z1:(Z.toList == [41])=false:=Gv hz;clear hz hZ;go_enter func286,ntmps286
   go_wp2_with fail
   refine(y.out _ o.out.1 (by have:=o.out.size;omega)).mono ?_;rintro e r ⟨cs,rfl,HN,HR,ab⟩;have aa:=hid (o.out.grown HR.out ab.out);clear o y HR ab r0 r1 r2 V q0 q1 q2 q3 ad;obtain⟨kd,T,C,A,D,E,ac⟩:=HN.out.shape;obtain⟨p,hp⟩:∃p,p=n.at':=⟨_,rfl⟩;rw[<-hp]at ac;subst ac;clear hp;dsimp only[n8];have U:=hid (aa.out.alloc (.cells #[.int .i64 kd,.string T,.int .u64 (wd C 0),.int .u64 (wd C 1),.int .u64 (wd C 2),.int .u64 (wd C 3),.slice A D E,.int .i64 p] 81));clear aa HN
   go_wp2_with fail
   refine(Y.out _ U.out.1).mono ?_;rintro e w5 ⟨rfl,I⟩;have t:=hid (U.out.below I);clear I Y U
   go_wp2_with fail
   refine(HW.out _ t.out.1).mono ?_;rintro e w6 ⟨f,rfl,HP⟩;have HA:Hid (Qd (.inl (wrC (gL L k'),(gL L k').2.2.2)) B R b v L ru ne w (.panicked [{v:=.iface 134 (.pointer (some ⟨f,0,none⟩)),recovered:=false}]) w6):=Qd.up (B':=0) (ne':=ne) t.out ⟨f,rfl,hid ⟨HP.out.1,HP.out.2.1⟩,hid (G.below HP.out.2.2)⟩;clear HP t HW
   go_wp2_with fail
   exact⟨rfl,HA.out⟩
theorem z1Z(R b:Nat)(v:Value)(L:List Tok)(ru ne:Nat)(h:Nat->Pr)(o:Ql L)(ha:Adv L h)(r:MC 286 h (fun k=>sgT (gL L k)={data:=#[40]}) R b v L ru ne):
  MC 145 (chS L h) (fun _=>True) R b v L ru ne:=
 z9N R b v L ru ne h o ha (z9M R b v L ru ne h o ha (z9L R b v L ru ne h o ha (z9K R b v L ru ne h o ha (z9J R b v L ru ne h o r))))
theorem z2a(R b:Nat)(v:Value)(L:List Tok)(ru:Nat)(o:Ql L):∀(d ne:Nat),ne+d=24->MC 145 (chS L (Zc L d)) (fun _=>True) R b v L ru ne
 |0,ne,h=>by
  have r:ne=24:=by omega
  subst r;exact z1Z R b v L ru 24 _ o (Mg o 0) (z9O R b v L ru o)
 |d+1,ne,h=>z1Z R b v L ru ne _ o (Mg o (d+1)) (z9P R b v L ru ne d o (by omega) (z2a R b v L ru o d (ne+1) (by omega)))
section
abbrev Rl:=ByteArray×Nd×Nat
def Yd(w:World)(P:Nat->Prop)(r:Rl)(c:List Value):Prop:=∃cs,c=.string r.1::(cs++[.int .i64 (r.2.2:Int)])/\Qh w P r.2.1 cs
def ruE(N:ByteArray)(p:Nat)(r:Pr):(Nat×Nat) ⊕ (Rl×Nat):=match r with
 | .inl e=>.inl e
 | .inr (n,k')=>.inr ((N,n,p),k')
def ruS(L:List Tok)(ru k:Nat):(Nat×Nat) ⊕ (Rl×Nat):=
 if(gL L k).1≠1 then .inl (wrC (gL L k),(gL L k).2.2.2)
 else if ru=64 then .inl (2,(gL L k).2.2.2)
 else if(gL L (k+1)).1≠2 then .inl (wrC (gL L (k+1)),(gL L (k+1)).2.2.2)
 else ruE (gL L k).2.1 (gL L k).2.2.2 (chS L (Zc L 24) (k+2))
theorem z2b{L:List Tok}(o:Ql L){ru k k':Nat}{x:Rl}(r:k<L.length)(h:ruS L ru k=.inr (x,k')):k+2<=k'/\k'<L.length:=by
 unfold ruS at h;split at h
 ·cases h
 ·rename_i A
  split at h
  ·cases h
  ·split at h
   ·cases h
   ·rename_i D
    have t:=o.nxt k r (by omega);have y:=o.nxt (k+1) t (by omega);cases hs:chS L (Zc L 24) (k+2)with
    |inl e=>rw[hs]at h;cases h
    |inr q=>
     obtain⟨n,j⟩:=q;rw[hs]at h;have:=Pc o (Mg o 24) y hs;simp only[ruE,Sum.inr.injEq,Prod.mk.injEq]at h;omega
def Kc(r:(Nat×Nat) ⊕ (Rl×Nat))(B R b:Nat)(v:Value)(L:List Tok)(ru:Nat)(w:World)(e:Ending)(w':World):Prop:=
 match r with
 | .inr (x,k')=>∃cs:List Value,e=.returned (.agg cs.toArray)/\Hid (Yd w' (fun g=>B<=g) x cs)/\Hid (Rd w' R b v L k' (ru+1) 0)/\Hid (w.grownBy w' (some R))
 | .inl c=>∃f,e=.panicked [{v:=.iface 134 (.pointer (some ⟨f,0,none⟩)),recovered:=false}]/\Hid (w.heap.size<=f/\Flt w' f c)/\Hid (w.grownBy w' (some R))
def Ek(O:Obj)(w:World)(R b:Nat)(v:Value)(L:List Tok)(k ru ne:Nat)(W:World):Prop:=
 Rd W R b v L k ru ne/\w.grownBy W (some R)/\W.heap[w.heap.size]? =some O/\R<w.heap.size/\(∀g,w.heap.size<=g->v.ownBlock≠some g)
section
variable {O:Obj} {w W W':World} {R b:Nat} {v:Value} {L:List Tok} {k k' ru ru' ne ne':Nat}
theorem Ek.start(O:Obj)(h:Rd w R b v L k ru ne):Ek O w R b v L k ru ne (w.alloc O):=
 ⟨h.alloc _,G.alloc (G.refl w R),Qx w _ rfl,h.lt,fun g o e=>by have:=(h.2.lt _ e).2;omega⟩
theorem Ek.size(h:Ek O w R b v L k ru ne W):w.heap.size<W.heap.size:=Qq h.2.2.1
theorem Ek.lt(h:Ek O w R b v L k ru ne W):R<w.heap.size:=h.2.2.2.1
theorem Ek.grown(h:Ek O w R b v L k ru ne W)(r:Rd W' R b v L k' ru' ne')(o:W.grownBy W' (some R)):Ek O w R b v L k' ru' ne' W':=
 ⟨r,G.trans h.2.1 o,(o.block _ h.size (fun e=>by have:=Option.some.inj e;have:=h.lt;omega)).trans h.2.2.1,h.2.2.2.1,h.2.2.2.2⟩
theorem Ek.below(h:Ek O w R b v L k ru ne W)(o:Below W.heap.size W W'):Ek O w R b v L k ru ne W':=h.grown (h.1.below o) (G.below o)
theorem Ek.alloc(h:Ek O w R b v L k ru ne W)(o:Obj):Ek O w R b v L k ru ne (W.alloc o):=h.below (B0q.alloc L0q _)
theorem Ek.next(h:Ek O w R b v L k ru ne W):Ek O w R b v L (k+1) ru ne (W.setCell ⟨R,1,none⟩ (.int .i64 ((k:Int)+1))):=h.grown h.1.next1 (G.setR (G.refl W R))
theorem Ek.rules(h:Ek O w R b v L k ru ne W):Ek O w R b v L k (ru+1) ne (W.setCell ⟨R,2,none⟩ (.int .i64 ((ru:Int)+1))):=by
 have o:=h.1.rules (ru+1);rw[show(((ru+1:Nat):Int))=(ru:Int)+1 by omega]at o;exact h.grown o (G.setR (G.refl W R))
theorem Ek.up(h:Ek O w R b v L k ru ne W){c:Nat×Nat}{B f:Nat}{w':World}(t:W.heap.size<=f)(o:Flt w' f c)(r:W.grownBy w' (some R)):Kc (.inl c) B R b v L ru' w (.panicked [{v:=.iface 134 (.pointer (some ⟨f,0,none⟩)),recovered:=false}]) w':=
 ⟨f,rfl,hid ⟨by have:=h.size;omega,o⟩,hid (G.trans h.2.1 r)⟩
end
@[reducible] def Zr:Obj:=.cells #[.string ⟨#[]⟩,.int .i64 0,.string ⟨#[]⟩,.int .u64 0,.int .u64 0,.int .u64 0,.int .u64 0,.slice none 0 0,.int .i64 0,.int .i64 0] 83
@[reducible] def Ex (w:World) (g:Nat) (N:ByteArray) (kd:Int) (T:ByteArray) (c0 c1 c2 c3:Int) (sv:Value) (p:Int) (q:Int):World:=(((((((((w.setCell ⟨g,0,none⟩ (.string N)).setCell ⟨g,1,none⟩ (.int .i64 kd)).setCell ⟨g,2,none⟩ (.string T)).setCell ⟨g,3,none⟩ (.int .u64 c0)).setCell ⟨g,4,none⟩ (.int .u64 c1)).setCell ⟨g,5,none⟩ (.int .u64 c2)).setCell ⟨g,6,none⟩ (.int .u64 c3)).setCell ⟨g,7,none⟩ sv).setCell ⟨g,8,none⟩ (.int .i64 p)).setCell ⟨g,9,none⟩ (.int .i64 q)
theorem z9Q{w:World}{g:Nat}{o a1 a2 a3 a4 r t y A D:Value}(h:w.heap[g]? =some (.cells #[o,a1,a2,a3,a4,r,t,y,A,D] 83))(N:ByteArray)(kd:Int)(T:ByteArray)(c0 c1 c2 c3:Int)(sv:Value)(p q:Int):
  (Ex w g N kd T c0 c1 c2 c3 sv p q).heap[g]? =some (.cells #[.string N,.int .i64 kd,.string T,.int .u64 c0,.int .u64 c1,.int .u64 c2,.int .u64 c3,sv,.int .i64 p,.int .i64 q] 83):=by
 simp only[World.setCell,Array.getElem?_modify,if_true,Option.map_map];rw[h];simp
theorem Ff{w:World}{g:Nat}{o a1 a2 a3 a4 r t y A D:Value}(h:w.heap[g]? =some (.cells #[o,a1,a2,a3,a4,r,t,y,A,D] 83)):
  (w.cell? ⟨g,0,none⟩=some o/\w.cell? ⟨g,1,none⟩=some a1/\w.cell? ⟨g,2,none⟩=some a2/\w.cell? ⟨g,3,none⟩=some a3/\w.cell? ⟨g,4,none⟩=some a4/\w.cell? ⟨g,5,none⟩=some r/\w.cell? ⟨g,6,none⟩=some t/\w.cell? ⟨g,7,none⟩=some y/\w.cell? ⟨g,8,none⟩=some A/\w.cell? ⟨g,9,none⟩=some D)/\
  (w.frozen? ⟨g,0,none⟩=false/\w.frozen? ⟨g,1,none⟩=false/\w.frozen? ⟨g,2,none⟩=false/\w.frozen? ⟨g,3,none⟩=false/\w.frozen? ⟨g,4,none⟩=false/\w.frozen? ⟨g,5,none⟩=false/\w.frozen? ⟨g,6,none⟩=false/\w.frozen? ⟨g,7,none⟩=false/\w.frozen? ⟨g,8,none⟩=false/\w.frozen? ⟨g,9,none⟩=false):=by
 refine⟨⟨?_,?_,?_,?_,?_,?_,?_,?_,?_,?_⟩,⟨?_,?_,?_,?_,?_,?_,?_,?_,?_,?_⟩⟩<;>simp[World.cell?,World.frozen?,h]
theorem z9R{w:World}{g:Nat}{o a1 a2 a3 a4 t r:Value}(h:w.heap[g]? =some (.cells #[o,a1,a2,a3,a4,t,r] 139)):
  w.cell? ⟨g,0,none⟩=some o/\w.cell? ⟨g,1,none⟩=some a1/\w.cell? ⟨g,6,none⟩=some r:=by
 refine⟨?_,?_,?_⟩<;>simp[World.cell?,h]
theorem Ek.fin{w W:World}{B R b:Nat}{v sv:Value}{L:List Tok}{k ru kd C p q:Nat}{N T:ByteArray}{n:Nd}{o:Obj}(h:Ek Zr w R b v L k ru 0 W)(I:Qh W (fun g=>w.heap.size+1<=g) n (n8 kd T C sv p))(Z:B<=w.heap.size):
  Kc (.inr ((N,n,q),k)) B R b v L ru w (.returned (.agg #[.string N,.int .i64 kd,.string T,.int .u64 (wd C 0),.int .u64 (wd C 1),.int .u64 (wd C 2),.int .u64 (wd C 3),sv,.int .i64 p,.int .i64 q]))
   ((Ex (W.setCell ⟨R,2,none⟩ (.int .i64 ((ru:Int)+1))) w.heap.size N (kd:Int) T (wd C 0:Nat) (wd C 1:Nat) (wd C 2:Nat) (wd C 3:Nat) sv (p:Int) (q:Int)).alloc o):=by
 have A:=h.rules;have r:w.heap.size≠R:=by have:=h.lt;omega
 have t:=h.2.2.2.2 w.heap.size L0q;have y:=Nat.le_refl w.heap.size;have D:∀V:World,Below V.heap.size V (V.alloc o):=fun V=>(Below.refl _ V).alloc L0q _
 refine⟨.string N::(n8 kd T C sv p++[.int .i64 q]),rfl,hid ⟨n8 kd T C sv p,rfl,?_⟩,hid ((((((((((((A.1.other r t).other r t).other r t).other r t).other r t).other r t).other r t).other r t).other r t).other r t)).below (D _)),hid (G.alloc (G.setN (G.setN (G.setN (G.setN (G.setN (G.setN (G.setN (G.setN (G.setN (G.setN A.2.1 y) y) y) y) y) y) y) y) y) y))⟩;refine Qh.below ?_ (D _);refine Qh.kept (fun g cur E hq=>⟨?_,show B<=g by have U:w.heap.size+1<=g:=E;omega⟩) n _ (Qh.grown I (G.setR (u:=.int .i64 ((ru:Int)+1)) (j:=2) (G.refl W R)) h.1.1);have Y:∀j:Nat,g≠(⟨w.heap.size,j,none⟩:Addr).block:=fun j e=>by have e2:g=w.heap.size:=e;have U:w.heap.size+1<=g:=E;omega
 have s:∀(V:World) (j:Nat) (u:Value),(V.setCell ⟨w.heap.size,j,none⟩ u).heap[g]? =V.heap[g]? :=fun V j u=>Below.heap_setCell _ _ _ _ (Y j)
 unfold Ex;rw[s,s,s,s,s,s,s,s,s,s]
theorem z2c(R b:Nat)(v:Value)(L:List Tok)(ru k B:Nat)(w:World)(hg:Ql L)(h:Rd w R b v L k ru 0)(hk:k<L.length)(aC:ru<=64)(hB:B<=w.heap.size):
  Calls prog 97 #[.pointer (some ⟨R,0,none⟩)] w fun e w'=>Kc (ruS L ru k) B R b v L ru w e w':=by
 have aD:=Tryz.fld0;have HT:=Gy R b v L k ru 0 hk hg;have HW:=Ez R b v L k ru 0 hk hg;have HF:=z1X R b v L k ru 0 hk hg;have E:Hid (Ek Zr w R b v L k ru 0 (w.alloc Zr)):=Ek.start Zr h;have aE:(k:Int)+2<9223372036854775807:=by have:=hg.len;omega
 have HG:Hid (Ql L):=hg;unfold ruS;by_cases h1:(gL L k).1=1
 ·rw[if_neg (by omega)]
  have am:=hg.nxt k hk (by omega);have ab:=Gy R b v L (k+1) ru 0 am hg;have aj:=Ez R b v L (k+1) ru 0 am hg;obtain⟨t,ht⟩:∃t,t=gL L k:=⟨_,rfl⟩;rw[<-ht]at HT HF h1 ⊢;clear ht HW;obtain⟨tk,N,r,q⟩:=t;have ax:tk=1:=h1;subst ax;clear h1 h;by_cases h64:ru=64
  ·rw[if_pos h64]
   subst h64;go_enter func97,ntmps97
   go_wp2_with fail
   refine(HT.out _ E.out.1).mono ?_;rintro e y ⟨rfl,U⟩;have A:=hid (E.out.below U);clear U E HT;dsimp only[tkv];have D:=hid (A.out.alloc (.cells #[.int .i64 1,.string N,.int .u64 (wd r 0),.int .u64 (wd r 1),.int .u64 (wd r 2),.int .u64 (wd r 3),.int .i64 q] 139));obtain⟨r0,V,r2,r3,q0,q1,q2,q3⟩:=A.out.1.cells;have ay:y.cell? ⟨R,2,none⟩=some (.int .i64 64):=r2;clear r0 V r2 r3 q0 q1 q2 q3;have af:=A.out.1.lt;clear A
   go_wp2_with fail
   refine(HF.out 2 _ D.out.1).mono ?_;rintro e w3 ⟨f,rfl,Y⟩;have HA:=hid (D.out.up (B:=B) (ru':=64) Y.out.1 Y.out.2.1 (G.below Y.out.2.2));clear Y D HF ay
   go_wp2_with fail
   exact⟨rfl,HA.out⟩
  rw[if_neg h64];have aF:((ru:Int) == 64)=false:=by simp;omega
  by_cases h2:(gL L (k+1)).1=2
  ·rw[if_neg (by omega)]
   have az:=hg.nxt (k+1) am (by omega);have HC:=hid (fun(W:World) (h:Rd W R b v L (k+2) ru 0) (hB:w.heap.size+1<=W.heap.size)=>z2a R b v L ru hg 24 0 (by omega) (k+2) (w.heap.size+1) W h az trivial hB);obtain⟨t,ht⟩:∃t,t=gL L (k+1):=⟨_,rfl⟩;rw[<-ht]at ab h2;clear ht aj;obtain⟨tk,uN,uC,uq⟩:=t;have ao:tk=2:=h2;subst ao;clear h2;cases hs:chS L (Zc L 24) (k+2)with
   |inl c=>
    rw[hs]at HC;show Calls _ _ _ _ (fun e w'=>Kc (.inl c) B R b v L ru w e w');go_enter func97,ntmps97
    go_wp2_with fail
    refine(HT.out _ E.out.1).mono ?_;rintro e y ⟨rfl,U⟩;have A:=hid (E.out.below U);clear U E HT HF;dsimp only[tkv];have D:=hid (A.out.next.alloc (.cells #[.int .i64 1,.string N,.int .u64 (wd r 0),.int .u64 (wd r 1),.int .u64 (wd r 2),.int .u64 (wd r 3),.int .i64 q] 139));have ac:Hid (((y.setCell ⟨R,1,none⟩ (.int .i64 ((k:Int)+1))).alloc (.cells #[.int .i64 1,.string N,.int .u64 (wd r 0),.int .u64 (wd r 1),.int .u64 (wd r 2),.int .u64 (wd r 3),.int .i64 q] 139)).heap[y.heap.size]? =some (.cells #[.int .i64 1,.string N,.int .u64 (wd r 0),.int .u64 (wd r 1),.int .u64 (wd r 2),.int .u64 (wd r 3),.int .i64 q] 139)):=Qx _ _ (by simp);have ad:Hid (w.heap.size<y.heap.size):=A.out.size;obtain⟨r0,V,r2,r3,q0,q1,q2,q3⟩:=A.out.1.cells;have af:=A.out.1.lt;clear A
    go_wp2_with fail
    refine(ab.out _ D.out.1).mono ?_;rintro e w4 ⟨rfl,Z⟩;have I:=hid (D.out.below Z);have ag:=hid ((Z.block _ (by simp)).trans ac.out);have ah:Hid (y.heap.size<w4.heap.size):=Nat.lt_of_lt_of_le (by simp) Z.size;clear Z D ac ab r0 V r2 r3 q0 q1 q2 q3 af;dsimp only[tkv];obtain⟨r0,V,r2,r3,q0,q1,q2,q3⟩:=I.out.1.cells;have ap:w4.cell? ⟨R,1,none⟩=some (.int .i64 ((k:Int)+1)):=by rw[V];simp
    clear V;have aq:=I.out.1.lt;have aa:Hid (Ek Zr w R b v L (k+2) ru 0 (w4.setCell ⟨R,1,none⟩ (.int .i64 ((k:Int)+2)))):=by
     have:=I.out.next;rw[show(((k+1:Nat):Int))+1=(k:Int)+2 by omega]at this;exact this
    have ak:=hid ((Below.heap_setCell w4 ⟨R,1,none⟩ (.int .i64 ((k:Int)+2)) y.heap.size (show y.heap.size≠R by have:=ad.out;have:=I.out.lt;omega)).trans ag.out);have al:=ah;have aA:(k:Int)+1+1=(k:Int)+2:=by omega
    clear I ag ah
    go_wp2_with fail
    refine(HC.out _ aa.out.1 (by have:=aa.out.size;omega)).mono ?_;clear r0 ap r2 r3 q0 q1 q2 q3 aq;rintro e w6 ⟨f,rfl,ar,ae⟩;have HA:=hid (aa.out.up (B:=B) (ru':=ru) ar.out.1 ar.out.2 ae.out);clear aa HC ak ar ae
    go_wp2_with fail
    exact⟨rfl,HA.out⟩
   |inr x=>
    obtain⟨n,k'⟩:=x;rw[hs]at HC;show Calls _ _ _ _ (fun e w'=>Kc (.inr ((N,n,q),k')) B R b v L ru w e w');go_enter func97,ntmps97
    go_wp2_with fail
    refine(HT.out _ E.out.1).mono ?_;rintro e y ⟨rfl,U⟩;have A:=hid (E.out.below U);clear U E HT HF;dsimp only[tkv];have D:=hid (A.out.next.alloc (.cells #[.int .i64 1,.string N,.int .u64 (wd r 0),.int .u64 (wd r 1),.int .u64 (wd r 2),.int .u64 (wd r 3),.int .i64 q] 139));have ac:Hid (((y.setCell ⟨R,1,none⟩ (.int .i64 ((k:Int)+1))).alloc (.cells #[.int .i64 1,.string N,.int .u64 (wd r 0),.int .u64 (wd r 1),.int .u64 (wd r 2),.int .u64 (wd r 3),.int .i64 q] 139)).heap[y.heap.size]? =some (.cells #[.int .i64 1,.string N,.int .u64 (wd r 0),.int .u64 (wd r 1),.int .u64 (wd r 2),.int .u64 (wd r 3),.int .i64 q] 139)):=Qx _ _ (by simp);have ad:Hid (w.heap.size<y.heap.size):=A.out.size;obtain⟨r0,V,r2,r3,q0,q1,q2,q3⟩:=A.out.1.cells;have af:=A.out.1.lt;clear A
    go_wp2_with fail
    refine(ab.out _ D.out.1).mono ?_;rintro e w4 ⟨rfl,Z⟩;have I:=hid (D.out.below Z);have ag:=hid ((Z.block _ (by simp)).trans ac.out);have ah:Hid (y.heap.size<w4.heap.size):=Nat.lt_of_lt_of_le (by simp) Z.size;clear Z D ac ab r0 V r2 r3 q0 q1 q2 q3 af;dsimp only[tkv];obtain⟨r0,V,r2,r3,q0,q1,q2,q3⟩:=I.out.1.cells;have ap:w4.cell? ⟨R,1,none⟩=some (.int .i64 ((k:Int)+1)):=by rw[V];simp
    clear V;have aq:=I.out.1.lt;have aa:Hid (Ek Zr w R b v L (k+2) ru 0 (w4.setCell ⟨R,1,none⟩ (.int .i64 ((k:Int)+2)))):=by
     have:=I.out.next;rw[show(((k+1:Nat):Int))+1=(k:Int)+2 by omega]at this;exact this
    have ak:=hid ((Below.heap_setCell w4 ⟨R,1,none⟩ (.int .i64 ((k:Int)+2)) y.heap.size (show y.heap.size≠R by have:=ad.out;have:=I.out.lt;omega)).trans ag.out);have al:=ah;have aA:(k:Int)+1+1=(k:Int)+2:=by omega
    clear I ag ah
    go_wp2_with fail
    refine(HC.out _ aa.out.1 (by have:=aa.out.size;omega)).mono ?_;clear r0 ap r2 r3 q0 q1 q2 q3 aq;rintro e w6 ⟨cs,rfl,HN,HR,ae⟩;have ai:=hid (aa.out.grown HR.out ae.out);have au:=hid ((ae.out.block _ (by have:=al.out;simp;omega) (fun e=>by have e2:y.heap.size=R:=Option.some.inj e;have:=aa.out.lt;have:=ad.out;omega)).trans ak.out);have av:Hid (y.heap.size<w6.heap.size):=Nat.lt_of_lt_of_le (by have:=al.out;simp;omega) ae.out.size;clear aa HC ak HR ae al;obtain⟨kd,T,C,so,sl,sc,aw⟩:=HN.out.shape;obtain⟨p,hp⟩:∃p,p=n.at':=⟨_,rfl⟩;rw[<-hp]at aw;subst aw;clear hp;dsimp only[n8];obtain⟨z0,z1,z6⟩:=z9R au.out;obtain⟨⟨k0,k1,k2,k3,k4,k5,k6,k7,k8,k9⟩,⟨f0,f1,f2,f3,f4,f5,f6,f7,f8,f9⟩⟩:=Ff ai.out.2.2.1;obtain⟨r0,V,r2,r3,q0,q1,q2,q3⟩:=ai.out.1.cells;have aG:=ai.out.1.lt;have aH:=ai.out.lt;have aI:=ad.out;have aJ:=av.out;have aK:R≠y.heap.size:=by omega
    have aL:R≠w.heap.size:=by omega
    have aM:w.heap.size≠y.heap.size:=by omega
    have aN:w.heap.size<w6.heap.size:=by omega
    have aO:(ru:Int)+1<9223372036854775807:=by omega
    clear au ad av
    go_wp2_with fail
    (try simp only[Exit.inBlock,Exit.then])
    have hS:=z9Q (w:=w6.setCell ⟨R,2,none⟩ (.int .i64 ((ru:Int)+1))) (g:=w.heap.size) ai.out.rules.2.2.1 N (kd:Int) T (wd C 0:Nat) (wd C 1:Nat) (wd C 2:Nat) (wd C 3:Nat) (.slice so sl sc) (p:Int) (q:Int);have aB:=fun o:Obj=>(Below.heap_alloc (Ex (w6.setCell ⟨R,2,none⟩ (.int .i64 ((ru:Int)+1))) w.heap.size N (kd:Int) T (wd C 0:Nat) (wd C 1:Nat) (wd C 2:Nat) (wd C 3:Nat) (.slice so sl sc) (p:Int) (q:Int)) o w.heap.size (by simp;omega)).trans hS
    obtain⟨⟨c0,c1,c2,c3,c4,c5,c6,c7,c8,c9⟩,_⟩:=Ff (aB (.cells #[.int .i64 kd,.string T,.int .u64 (wd C 0),.int .u64 (wd C 1),.int .u64 (wd C 2),.int .u64 (wd C 3),.slice so sl sc,.int .i64 p] 81));refine bodyPost_ret (v:=.agg #[.string N,.int .i64 kd,.string T,.int .u64 (wd C 0),.int .u64 (wd C 1),.int .u64 (wd C 2),.int .u64 (wd C 3),.slice so sl sc,.int .i64 p,.int .i64 q]) (by simp[results,Tryz.results97,go_sem,c0,c1,c2,c3,c4,c5,c6,c7,c8,c9]) rfl ?_;exact ai.out.fin HN.out hB
  ·rw[if_pos h2]
   obtain⟨t,ht⟩:∃t,t=gL L (k+1):=⟨_,rfl⟩;rw[<-ht]at ab aj h2 ⊢;clear ht;obtain⟨tk,uN,uC,uq⟩:=t;have t2:((tk:Int) != 2)=true:=by have ao:tk≠2:=h2;rw[bne_iff_ne];omega
   clear h2;go_enter func97,ntmps97
   go_wp2_with fail
   refine(HT.out _ E.out.1).mono ?_;rintro e y ⟨rfl,U⟩;have A:=hid (E.out.below U);clear U E HT HF;dsimp only[tkv];have D:=hid (A.out.next.alloc (.cells #[.int .i64 1,.string N,.int .u64 (wd r 0),.int .u64 (wd r 1),.int .u64 (wd r 2),.int .u64 (wd r 3),.int .i64 q] 139));have ac:Hid (((y.setCell ⟨R,1,none⟩ (.int .i64 ((k:Int)+1))).alloc (.cells #[.int .i64 1,.string N,.int .u64 (wd r 0),.int .u64 (wd r 1),.int .u64 (wd r 2),.int .u64 (wd r 3),.int .i64 q] 139)).heap[y.heap.size]? =some (.cells #[.int .i64 1,.string N,.int .u64 (wd r 0),.int .u64 (wd r 1),.int .u64 (wd r 2),.int .u64 (wd r 3),.int .i64 q] 139)):=Qx _ _ (by simp);have ad:Hid (w.heap.size<y.heap.size):=A.out.size;obtain⟨r0,V,r2,r3,q0,q1,q2,q3⟩:=A.out.1.cells;have af:=A.out.1.lt;clear A
   go_wp2_with fail
   refine(ab.out _ D.out.1).mono ?_;rintro e w4 ⟨rfl,Z⟩;have I:=hid (D.out.below Z);have ag:=hid ((Z.block _ (by simp)).trans ac.out);have ah:Hid (y.heap.size<w4.heap.size):=Nat.lt_of_lt_of_le (by simp) Z.size;clear Z D ac ab r0 V r2 r3 q0 q1 q2 q3 af;dsimp only[tkv]
   go_wp2_with fail
   refine(aj.out _ I.out.1).mono ?_;rintro e w5 ⟨f,rfl,Y⟩;have HA:=hid (I.out.up (B:=B) (ru':=ru) Y.out.1 Y.out.2.1 (G.below Y.out.2.2));clear Y I aj
   go_wp2_with fail
   exact⟨rfl,HA.out⟩
 ·rw[if_pos h1]
  obtain⟨t,ht⟩:∃t,t=gL L k:=⟨_,rfl⟩;rw[<-ht]at HT HW h1 ⊢;clear ht HF;obtain⟨tk,N,r,q⟩:=t;have t1:((tk:Int) != 1)=true:=by have ao:tk≠1:=h1;rw[bne_iff_ne];omega
  clear h1 h;go_enter func97,ntmps97
  go_wp2_with fail
  refine(HT.out _ E.out.1).mono ?_;rintro e y ⟨rfl,U⟩;have A:=hid (E.out.below U);clear U E HT;dsimp only[tkv];have D:=hid (A.out.alloc (.cells #[.int .i64 tk,.string N,.int .u64 (wd r 0),.int .u64 (wd r 1),.int .u64 (wd r 2),.int .u64 (wd r 3),.int .i64 q] 139));clear A
  go_wp2_with fail
  refine(HW.out _ D.out.1).mono ?_;rintro e w3 ⟨f,rfl,Y⟩;have HA:=hid (D.out.up (B:=B) (ru':=ru) Y.out.1 Y.out.2.1 (G.below Y.out.2.2));clear Y D HW
  go_wp2_with fail
  exact⟨rfl,HA.out⟩
end
end Go.Proofs.YtgnkkgcgbeianaaGreatDoor
