/- Lemmas for the last text. Conditions: those that each names. -/
import Derived.Test.YtikfnaffiehpaaaGreatDoorVS9ToN9
set_option linter.unusedVariables false
set_option maxRecDepth 100000
set_option maxHeartbeats 8000000
namespace Go.Proofs.YtikfnaffiehpaaaGreatDoor
open Go.Proofs.Tryz
open Go.RowKit Go.Shelf
theorem z0A(k:Int)(T:ByteArray)(a b c d p:Int)(so:Option Addr)(n cap:Nat)(w:World)(c0:Int)(hc:c0≠0)
  (HP:Hid (Calls prog 13 #[.agg #[.slice (some ⟨w.heap.size+1,0,none⟩) 1 1]] (wX w k T a b c d so n cap p) fun e w'=>e=.returned (.tuple #[.string ⟨#[]⟩,.int .i64 c0])/\Below (wX w k T a b c d so n cap p).heap.size (wX w k T a b c d so n cap p) w')):
  Calls prog 16 #[.agg (r8 k T a b c d so n cap p).toArray] w fun e w'=>e=.returned (.string ⟨#[]⟩)/\Below w.heap.size w w':=by
 have q1:(c0 != 0)=true:=by rw[bne_iff_ne];exact hc
 have q2:(c0 == 0)=false:=by simp;exact hc
 have HB:=hid (Mc w k T a b c d so n cap p);dsimp only[r8];go_enter func16,ntmps16
 go_wp2_with fail
 refine HP.out.mono ?_;rintro e w1 ⟨rfl,hb1⟩;have HB1:Hid (Below w.heap.size w w1):=HB.out.trans (hb1.mono HB.out.size);clear HP hb1 HB
 go_wp2_with fail
 go_ret;exact⟨rfl,HB1.out⟩
theorem y2P(k:Int)(T:ByteArray)(a b c d p:Int)(so:Option Addr)(n cap:Nat)(w:World)(X L:ByteArray)(hL:L.size=X.size+6)(hX:X.size<=8192)(HX:Hid (L.extract 5 (X.size+5)=X))
  (HP:Hid (Calls prog 13 #[.agg #[.slice (some ⟨w.heap.size+1,0,none⟩) 1 1]] (wX w k T a b c d so n cap p) fun e w'=>e=.returned (.tuple #[.string L,.int .i64 0])/\Below (wX w k T a b c d so n cap p).heap.size (wX w k T a b c d so n cap p) w')):
  Calls prog 16 #[.agg (r8 k T a b c d so n cap p).toArray] w fun e w'=>e=.returned (.string X)/\Below w.heap.size w w':=by
 have HB:=hid (Mc w k T a b c d so n cap p);dsimp only[r8];go_enter func16,ntmps16
 go_wp2_with fail
 refine HP.out.mono ?_;rintro e w1 ⟨rfl,hb1⟩;have HB1:Hid (Below w.heap.size w w1):=HB.out.trans (hb1.mono HB.out.size);have hsl:(Instr.slice 9 (.string L) (some (.int .i64 5)) (some (.int .i64 ((X.size:Int)+6-1))) none).run prog w1=.ok (.string X) w1:=by
  rw[run_slice_string w1 9 L .i64 .i64 5 ((X.size:Int)+6-1) Tryz.underlying9 (by omega) (by omega) (by rw[hL];omega)];rw[show((X.size:Int)+6-1).toNat=X.size+5 by omega];exact congrArg (fun q=>Result.ok (Value.string q) w1) HX.out
 clear HP hb1 HB
 go_wp2_with fail
 go_ret;exact⟨rfl,HB1.out⟩
theorem y2Q(k:Int)(T:ByteArray)(a b c d p:Int)(so:Option Addr)(n cap:Nat)(t:RT)(nd:Nd)(w:World)(ht:Qh w w.heap.size t (r8 k T a b c d so n cap p))(hz:RtZ t)(hq:Tq t nd)(hv:Vk nd)(hw:Wf Nmq nd):
  Calls prog 16 #[.agg (r8 k T a b c d so n cap p).toArray] w fun e w'=>e=.returned (.string (exS nd))/\Below w.heap.size w w':=by
 have hb:=Mc w k T a b c d so n cap p;have hqr:TqR [(bA,t,0)] [(bA,nd,0)]:=by rw[TqR];exact⟨rfl,hq,by rw[TqR];trivial⟩
 have hx:∀x∈[((bA,nd,0):Rl)],Ruk Nmq x:=fun x hx=>by
  obtain rfl:x=(bA,nd,0):=by simpa using hx
  exact⟨z0y 0 (by decide),hv,hw⟩
 have HP:=z4W (some ⟨w.heap.size+1,0,none⟩) 1 1 [(bA,t,0)] [(bA,nd,0)] _ (wX w k T a b c d so n cap p) (Pv hz) (Pk ht) L0q (by rw[Pw];exact(Og t nd hq hv hw).1) hqr hx (by simp) (by simp);unfold exS;rcases Nat.lt_or_ge 8192 (sz (pR qT cT [(bA,nd,0)]))with hlong|hshort
 ·rw[show Dj [(bA,nd,0)]=_ from if_pos hlong]at HP
  rw[if_pos (.inl hlong)];exact z0A k T a b c d p so n cap w 2 (by decide) HP
 rcases Nat.lt_or_ge 24 (dR [(bA,nd,0)])with hdeep|hflat
 ·rw[show Dj [(bA,nd,0)]=_ from(if_neg (by omega)).trans (if_pos hdeep)]at HP
  rw[if_pos (.inr hdeep)];exact z0A k T a b c d p so n cap w 20 (by decide) HP
 rw[show Dj [(bA,nd,0)]=_ from(if_neg (by omega)).trans (if_neg (by omega))]at HP;rw[if_neg (by omega)];have hc:=z4U nd;have hs:(cat (pR qT cT [(bA,nd,0)])).size<=8192:=by rw[My];exact hshort
 exact y2P k T a b c d p so n cap w _ _ hc.1 (by omega) hc.2 HP
theorem y2R(k:Int)(T:ByteArray)(a b c d p:Int)(so:Option Addr)(n cap:Nat)(t:RT)(w:World)(ht:Qh w w.heap.size t (r8 k T a b c d so n cap p))(hz:RtZ t)(hk:okT t=false):
  Calls prog 16 #[.agg (r8 k T a b c d so n cap p).toArray] w fun e w'=>e=.returned (.string ⟨#[]⟩)/\Below w.heap.size w w':=
 z0A k T a b c d p so n cap w 20 (by decide) (z4V (some ⟨w.heap.size+1,0,none⟩) 1 1 [(bA,t,0)] _ (wX w k T a b c d so n cap p) (Pv hz) (Pk ht) L0q (by rw[Pw];exact hk))
theorem y2S(so:Option Addr)(n cap:Nat)(A E:Value)(w:World)
  (HP:Hid (∀W:World,Below w.heap.size w W->Calls prog 11 #[.agg #[.slice so n cap]] W fun e w'=>e=.returned (.tuple #[A,E])/\Below W.heap.size W w')):
  Calls prog 10 #[.agg #[.slice so n cap]] w fun e w'=>e=.returned E/\Below w.heap.size w w':=by
 have HB1:Hid (Below w.heap.size w (w.alloc (.cells #[.slice so n cap] 24))):=(Below.refl _ w).alloc L0q _;go_enter func10,ntmps10
 go_wp2_with(first|(go_at_call 11;refine(HP.out _ HB1.out).mono ?_;rintro e wq ⟨rfl,hbq⟩;have HBq:Hid (Below w.heap.size w wq):=HB1.out.trans (hbq.mono HB1.out.size)))
 go_ret;exact⟨rfl,HBq.out⟩
mutual
def Vx(w:World)(P:Nat->Prop):RT->List Value->Prop
 | .mk k T a b c d s p,cs=>∃so cap,cs=r8 k T a b c d so (Qg s) cap p/\(s.isEmpty=true∨(s.isEmpty=false/\∃g cur,so=some ⟨g,0,none⟩/\P g/\w.heap[g]? =some (.cells cur 30)/\Qg s<=maxLen/\Zk w P s cur.toList))
def Zk(w:World)(P:Nat->Prop):List RT->List Value->Prop
 |[],_=>True
 |t::r,vs=>∃c rest,vs=c++rest/\Vx w P t c/\Zk w P r rest
end
theorem Vx.len{w:World}{P:Nat->Prop}{t:RT}{c:List Value}(h:Vx w P t c):c.length=8:=by
 obtain⟨k,T,a,b,c0,d,s,p⟩:=t;rw[Vx]at h;obtain⟨so,cap,rfl,_⟩:=h;rfl
mutual
theorem Vx.kept{w w':World}{P Q:Nat->Prop}(hk:∀g cur,P g->w.heap[g]? =some (.cells cur 30)->w'.heap[g]? =w.heap[g]? /\Q g):∀(t:RT) (c:List Value),Vx w P t c->Vx w' Q t c
 | .mk k T a b c d s p,cs,h=>by
   rw[Vx]at h ⊢;obtain⟨so,cap,h1,h2⟩:=h;refine⟨so,cap,h1,?_⟩;rcases h2 with h2|⟨h3,g,cur,h4,h5,h6,h7,h8⟩
   ·exact .inl h2
   ·have:=hk g cur h5 h6
    exact .inr ⟨h3,g,cur,h4,this.2,this.1.trans h6,h7,Zk.kept hk s cur.toList h8⟩
theorem Zk.kept{w w':World}{P Q:Nat->Prop}(hk:∀g cur,P g->w.heap[g]? =some (.cells cur 30)->w'.heap[g]? =w.heap[g]? /\Q g):∀(l:List RT) (vs:List Value),Zk w P l vs->Zk w' Q l vs
 |[],vs,h=>by rw[Zk];trivial
 |n::r,vs,h=>by
  rw[Zk]at h ⊢;obtain⟨c,rest,h1,h2,h3⟩:=h;exact⟨c,rest,h1,Vx.kept hk n c h2,Zk.kept hk r rest h3⟩
end
theorem Zk.append{w:World}{P:Nat->Prop}:∀(l:List RT) (vs:List Value) (n:RT) (c:List Value),Zk w P l vs->vs.length=l.length*8->Vx w P n c->Zk w P (l++[n]) (vs++c)
 |[],vs,n,c,_,hl,hn=>by
  have:vs=[]:=List.eq_nil_of_length_eq_zero (by simpa using hl);subst this;rw[List.nil_append,Zk];exact⟨c,[],by simp,hn,by rw[Zk];trivial⟩
 |m::r,vs,n,c,h,hl,hn=>by
  rw[Zk]at h;obtain⟨d,rest,rfl,h2,h3⟩:=h;have hd:=h2.len;rw[List.cons_append,Zk];refine⟨d,rest++c,by rw[List.append_assoc],h2,Zk.append r rest n c h3 ?_ hn⟩;simp at hl;omega
theorem Zk.more{w:World}{P:Nat->Prop}:∀(l:List RT) (vs us:List Value),Zk w P l vs->Zk w P l (vs++us)
 |[],_,_,_=>by rw[Zk];trivial
 |n::r,vs,us,h=>by
  rw[Zk]at h ⊢;obtain⟨c,rest,rfl,h2,h3⟩:=h;exact⟨c,rest++us,by rw[List.append_assoc],h2,Zk.more r rest us h3⟩
def CpA(s:List RT)(w:World)(e:Ending)(w':World):Prop:=∃so cap,e=.returned (.slice so (Qg s) cap)/\Hid (s.isEmpty=true∨(s.isEmpty=false/\∃g cur,so=some ⟨g,0,none⟩/\w.heap.size<=g/\w'.heap[g]? =some (.cells cur 30)/\Zk w' (fun g=>w.heap.size<=g) s cur.toList))/\Hid (Below w.heap.size w w')
theorem Rq.app{base j:Nat}{a a':Value}{xs:List Value}{acc:List RT}{k:Int}{T:ByteArray}{a1 b1 c1 d1 p:Int}{so:Option Addr}{cap:Nat}{s1:List RT}{wr W1 w2 W4 w6:World}
  (ho:wr.ownsRow base 30 8 a j xs)(hl:acc.length=j)(hr:Zk wr (fun g=>base<=g/\a.ownBlock≠some g) acc xs)(hb0:base<=wr.heap.size)(hW1:W1.heap.size=wr.heap.size+1)(hb:Below wr.heap.size wr w2)(hm:Qg s1<=maxLen)
  (hq:s1.isEmpty=true∨(s1.isEmpty=false/\∃g cur,so=some ⟨g,0,none⟩/\W1.heap.size<=g/\w2.heap[g]? =some (.cells cur 30)/\Zk w2 (fun g=>W1.heap.size<=g) s1 cur.toList))
  (h4:w2.heap.size<=W4.heap.size)(h4b:∀g,g<w2.heap.size->g≠wr.heap.size->W4.heap[g]? =w2.heap[g]?)(hgr:W4.grownBy w6 a.ownBlock)(hat:a'.ownBlock=a.ownBlock∨a'.ownBlock=some W4.heap.size):
  Zk w6 (fun g=>base<=g/\a'.ownBlock≠some g) (acc++[.mk k T a1 b1 c1 d1 s1 p]) (xs++r8 k T a1 b1 c1 d1 so (Qg s1) cap p):=by
 have key:∀g,g<w2.heap.size->g≠wr.heap.size->a.ownBlock≠some g->w6.heap[g]? =w2.heap[g]? /\a'.ownBlock≠some g:=fun g hl hn hne=>by
  refine⟨(hgr.block g (by omega) (fun e=>hne e.symm)).trans (h4b g hl hn),?_⟩;rcases hat with h|h
  ·rw[h];exact hne
  ·rw[h];intro e;have:=Option.some.inj e;omega
 refine Zk.append _ _ _ _ (Zk.kept (fun g cur hp hq=> ?_) _ _ hr) (by rw[hl];exact ho.1) ?_
 ·have hlt:=Qz hq
  have:=hb.size;have h:=key g (by omega) (by omega) hp.2;exact⟨h.1.trans (hb.block g hlt),hp.1,h.2⟩
 ·have hk:∀g cur,W1.heap.size<=g->w2.heap[g]? =some (.cells cur 30)->w6.heap[g]? =w2.heap[g]? /\(base<=g/\a'.ownBlock≠some g):=fun g cur hp hq=>by
   have h:=key g (Qz hq) (by omega) (fun e=>by have:=(ho.lt g e).2;omega);exact⟨h.1,by omega,h.2⟩
  rw[Vx];refine⟨so,cap,rfl,?_⟩;rcases hq with h|⟨h1,g,cur,h2,h3,h5,h6⟩
  ·exact .inl h
  ·have:=hk g cur h3 h5
   exact .inr ⟨h1,g,cur,h2,this.2,this.1.trans h5,hm,Zk.kept hk _ _ h6⟩
theorem y2T(so:Option Addr)(n cap:Nat)(s:List RT)(w:World)(HN:Hid (n=s.length))(hn:n*88<=140737488351232)
  (HC:Hid (∀j (hj:j<s.length),∃g o,so=some ⟨g,o,none⟩/\g<w.heap.size/\∃k1 T1 a1 b1 c1 d1 so1 s1 cap1 p1,s[j]=.mk k1 T1 a1 b1 c1 d1 s1 p1/\Qg s1<=maxLen/\Rc w g (o+j*8) k1 T1 a1 b1 c1 d1 (.slice so1 (Qg s1) cap1) p1/\
    ∀W:World,Below w.heap.size w W->Calls prog 20 #[.slice so1 (Qg s1) cap1] W (CpA s1 W))):
  Calls prog 20 #[.slice so n cap] w (CpA s w):=by
 obtain⟨iT,hiT,hzT0,hzT1,hzT2⟩:=info_parts Tryz.infoNd;have hn63:n<=9223372036854775807:=by omega
 go_enter func20,ntmps20
 go_wp2_with fail
 go_loopw [3,4] (fun a i wr=>∃(j:Nat) (xs:List Value),i=.int .i64 j/\j<=n/\Hid (wr.ownsRow w.heap.size 30 8 a j xs)/\Hid (Zk wr (fun g=>w.heap.size<=g/\a.ownBlock≠some g) (s.take j) xs)/\Hid (Below w.heap.size w wr)) (fun _ i _=>n-(intOf i).toNat)
 case atStart=>exact⟨0,[],rfl,Nat.zero_le _,World.ownsRow_nil _ _ _ _,(by rw[List.take_zero,Zk];trivial),Below.refl _ _⟩
 case round=>
  obtain⟨j,xs,rfl,hj,HO,HR,HB⟩:=hrel;by_cases hjn:j<n
  ·have hjI:(j:Int)<(n:Int):=by omega
   have a0:decide ((j:Int)<(n:Int))=true:=by simp;omega
   have hjs:j<s.length:=by rw[<-HN.out];exact hjn
   obtain⟨g,o,rfl,hg,k1,T1,a1,b1,c1,d1,so1,s1,cap1,p1,hs1,hm1,rc,hc⟩:=HC.out j hjs;obtain⟨z0,z1,z2,z3,z4,z5,z6,z7⟩:=rc.below HB.out hg;have HG:=hid (hc _ (HB.out.alloc HB.out.size (.cells #[.int .i64 k1,.string T1,.int .u64 a1,.int .u64 b1,.int .u64 c1,.int .u64 d1,.slice so1 (Qg s1) cap1,.int .i64 p1] 30)));have HS1:=hid hs1;clear hc rc hs1 HC
   go_wp2_with fail
   obtain⟨W1,hW1⟩:∃W1,W1=wr.alloc (.cells #[.int .i64 k1,.string T1,.int .u64 a1,.int .u64 b1,.int .u64 c1,.int .u64 d1,.slice so1 (Qg s1) cap1,.int .i64 p1] 30):=⟨_,rfl⟩;have HZ1:Hid (W1.heap.size=wr.heap.size+1):=by rw[hW1];exact World.size_alloc _ _
   have HC1:Hid (W1.heap[wr.heap.size]? =some (.cells #[.int .i64 k1,.string T1,.int .u64 a1,.int .u64 b1,.int .u64 c1,.int .u64 d1,.slice so1 (Qg s1) cap1,.int .i64 p1] 30)):=by rw[hW1];exact Qq wr _ rfl
   have HB1:Hid (Below wr.heap.size wr W1):=by rw[hW1];exact(Below.refl _ wr).alloc L0q _
   have HO1:Hid (W1.ownsRow w.heap.size 30 8 u3 j xs):=by rw[hW1];exact HO.out.alloc _
   rw[<-hW1]at HG ⊢;clear hW1;refine HG.out.mono ?_;rintro e w2 ⟨so2,cap2,rfl,HQ2,HB2⟩;have HBr:Hid (Below wr.heap.size wr w2):=HB1.out.trans (HB2.out.mono HB1.out.size);have hs2:wr.heap.size<w2.heap.size:=by have:=HB2.out.size;have:=HZ1.out;omega
   have HO2:Hid (w2.ownsRow w.heap.size 30 8 u3 j xs):=Vz HO1.out HB2.out;obtain⟨⟨y0,y1,y2,y3,y4,y5,y6,y7⟩,yf⟩:=Qk ((HB2.out.block _ (by rw[HZ1.out];exact Nat.lt_succ_self _)).trans HC1.out);obtain⟨v2,hv2⟩:∃v2,v2=Value.slice so2 (Qg s1) cap2:=⟨_,rfl⟩;have hset:w2.grownBy (w2.setCell ⟨wr.heap.size,6,none⟩ v2) (some wr.heap.size):=⟨rfl,rfl,rfl,by simp,fun i hi hne=>Below.heap_setCell _ _ _ _ (fun e=>hne (by rw[e]))⟩;have HO3:Hid ((w2.setCell ⟨wr.heap.size,6,none⟩ v2).ownsRow w.heap.size 30 8 u3 j xs):=HO2.out.kept hset (.inr (fun e=>by have:=(HO.out.lt _ e).2;omega));obtain⟨n1,hn1⟩:∃n1,n1=Qg s1:=⟨_,rfl⟩;rw[hv2]at HO3 hset;rw[<-hn1]at HO3 hset y6 ⊢;have HN1:=hid hn1;have HSet:=hid hset;clear hv2 hn1 hset HG HO1 HO2 z0 z1 z2 z3 z4 z5 z6 z7
   go_wp2_with(first|(at_builtin;refine wpList_append_own_at _ rfl (.tmp 20) (.tmp 22) 28 rfl w.heap.size 30 iT (.agg #[.int .i64 0,.string ⟨#[]⟩,.int .u64 0,.int .u64 0,.int .u64 0,.int .u64 0,.slice none 0 0,.int .i64 0]) 8 88 Tryz.underlying28 hiT hzT0 hzT1 hzT2 rfl (by decide) _ _ _ rfl (HO3.out.alloc _) ⟨w2.heap.size,0,none⟩ 1 1 [.int .i64 k1,.string T1,.int .u64 a1,.int .u64 b1,.int .u64 c1,.int .u64 d1,.slice so2 n1 cap2,.int .i64 p1] rfl rfl (by have:=Ib (w2.setCell ⟨wr.heap.size,6,none⟩ (.slice so2 n1 cap2)) (.int .i64 k1) (.string T1) (.int .u64 a1) (.int .u64 b1) (.int .u64 c1) (.int .u64 d1) (.slice so2 n1 cap2) (.int .i64 p1) 30;simp only[World.size_setCell]at this;exact this) (Cf _ _ _ _ _ _ _ _ _ _) (by unfold maxLen;omega) (by omega) (by have:=HB.out.size;simp;omega) ?_;intro v6 w6 hown6 hgr6 hnil6 hat6))
   have hb3:Below wr.heap.size wr (w2.setCell ⟨wr.heap.size,6,none⟩ (.slice so2 n1 cap2)):=HBr.out.setCell (p:=⟨wr.heap.size,6,none⟩) L0q _;have hlj:(s.take j).length=j:=by rw[List.length_take];omega
   refine⟨⟨j+1,_,by go_num,by omega,hown6,?_,?_⟩,?_⟩
   ·rw[List.take_succ_eq_append_getElem hjs,HS1.out]
    have hq:=HQ2.out;have:=Rq.app (k:=k1) (T:=T1) (a1:=a1) (b1:=b1) (c1:=c1) (d1:=d1) (p:=p1) (cap:=cap2) HO.out hlj HR.out HB.out.size HZ1.out HBr.out hm1 hq (by simp) (fun g hg hne=>(Below.heap_alloc _ _ _ (by simpa using hg)).trans (HSet.out.block g hg (fun e=>hne (Option.some.inj e)))) hgr6 hat6;rw[HN1.out];exact this
   ·have hb4:Below wr.heap.size wr ((w2.setCell ⟨wr.heap.size,6,none⟩ (.slice so2 n1 cap2)).alloc (.cells #[.int .i64 k1,.string T1,.int .u64 a1,.int .u64 b1,.int .u64 c1,.int .u64 d1,.slice so2 n1 cap2,.int .i64 p1] 30)):=hb3.alloc hb3.size _
    have hb5:=HB.out.trans (hb4.mono HB.out.size);exact hb5.grown hgr6 hb5.size (fun j ej=>(HO.out.lt j ej).1)
   ·simp[intOf];omega
  ·have a0:decide ((j:Int)<(n:Int))=false:=by simp;omega
   have hjn':j=s.length:=by have:=HN.out;omega
   obtain⟨sa,sc,rfl⟩:=Fg HO.out;have HFin:Hid (CpA s w (.returned (.slice sa j sc)) wr):=by
    have hr:=HR.out;rw[hjn',List.take_length]at hr;refine⟨sa,sc,by rw[Dc,hjn'],?_,HB⟩;cases s with
    |nil=>exact .inl rfl
    |cons t r=>
     refine .inr ⟨rfl,?_⟩;obtain⟨_,⟨_,h0⟩|⟨g,cap',cur,e1,hg1,hg2,_,_,_,ht⟩⟩:=HO.out
     ·rw[hjn']at h0;simp at h0
     ·obtain⟨rfl,_,_⟩:=Value.slice.inj e1
      refine⟨g,cur,rfl,hg1,hg2,?_⟩;have h2:=Zk.more _ _ (cur.toList.drop (j*8)) (Zk.kept (w':=wr) (Q:=fun g=>w.heap.size<=g) (fun g cur hp _=>⟨rfl,hp.1⟩) _ _ hr);rw[<-ht,List.take_append_drop]at h2;exact h2
   clear HR HC
   go_wp2_with fail
   go_ret;exact HFin.out
mutual
def RtS:RT->Prop
 | .mk k T a b c d s p=>Qg s*88<=140737488351232/\Fj s
def Fj:List RT->Prop
 |[]=>True
 |t::r=>RtS t/\Fj r
end
theorem Fj.at:∀{s:List RT},Fj s->∀(j:Nat) (h:j<s.length),RtS s[j]
 |[],_,j,h=>by simp at h
 |t::r,hv,0,_=>by rw[Fj]at hv;exact hv.1
 |t::r,hv,j+1,h=>by rw[Fj]at hv;exact hv.2.at j (by simpa using h)
theorem z4X:∀(N:Nat) (s:List RT) (so:Option Addr) (cap B:Nat) (w:World),SizeOf.sizeOf s<N->Qg s*88<=140737488351232->Fj s->(s.isEmpty=true∨(s.isEmpty=false/\∃g o,so=some ⟨g,o,none⟩/\g<B/\Qg s<=maxLen/\Zb w B g o s))->B<=w.heap.size->
  Calls prog 20 #[.slice so (Qg s) cap] w (CpA s w)
 |0,s,_,_,_,_,h,_,_,_,_=>by omega
 |N+1,s,so,cap,B,w,hN,h88,hS,ht,hB=>by
  refine y2T so (Qg s) cap s w (hid (Dc s)) h88 (hid fun j hj=> ?_);rcases ht with h1|⟨h1,g,o,rfl,hg,hm,hs⟩
  ·have hs0:s=[]:=by simpa using h1
   subst hs0;simp at hj
  ·obtain⟨k1,T1,a1,b1,c1,d1,so1,n1,cap1,p1,r1,r2⟩:=Kl hs j hj
   have hsj:=hS.at j hj;have hsz:=List.sizeOf_lt_of_mem (List.getElem_mem hj);obtain⟨t,ht⟩:∃t,t=s[j]:=⟨_,rfl⟩;rw[<-ht]at r1 hsj hsz;obtain⟨k,T,a,b,c,d,s1,p⟩:=t;rw[Qh]at r1;obtain⟨so',cap',e,hr⟩:=r1;simp only[List.cons.injEq,Value.int.injEq,Value.string.injEq,Value.slice.injEq,true_and,and_true]at e;obtain⟨rfl,rfl,rfl,rfl,rfl,rfl,⟨rfl,rfl,rfl⟩,rfl⟩:=e;rw[RtS]at hsj;simp only[RT.mk.sizeOf_spec]at hsz;refine⟨g,o,rfl,by omega,_,_,_,_,_,_,_,s1,_,_,ht.symm,by unfold maxLen;omega,r2,fun W hb=>z4X N s1 _ _ B W (by omega) hsj.1 hsj.2 ?_ (Nat.le_trans hB hb.size)⟩;rcases hr with h2|⟨h2,g1,o1,h3,h4,h5,h6⟩
   ·exact .inl h2
   ·exact .inr ⟨h2,g1,o1,h3,h4,h5,h6.below h4 (hb.mono hB)⟩
def RqR(w:World)(P:Nat->Prop)(x:Rr)(cs:List Value):Prop:=∃c,cs=.string x.1::(c++[.int .i64 x.2.2])/\Vx w P x.2.1 c
def Xz(w:World)(P:Nat->Prop):List Rr->List Value->Prop
 |[],_=>True
 |x::r,vs=>∃c rest,vs=c++rest/\RqR w P x c/\Xz w P r rest
theorem RqR.len{w:World}{P:Nat->Prop}{x:Rr}{c:List Value}(h:RqR w P x c):c.length=10:=by
 obtain⟨c1,rfl,h2⟩:=h;have:=h2.len;simp;omega
theorem Xz.kept{w w':World}{P Q:Nat->Prop}(hk:∀g cur,P g->w.heap[g]? =some (.cells cur 30)->w'.heap[g]? =w.heap[g]? /\Q g):∀(l:List Rr) (vs:List Value),Xz w P l vs->Xz w' Q l vs
 |[],vs,h=>by rw[Xz];trivial
 |n::r,vs,h=>by
  rw[Xz]at h ⊢;obtain⟨c,rest,h1,⟨c1,h2,h3⟩,h4⟩:=h;exact⟨c,rest,h1,⟨c1,h2,Vx.kept hk _ _ h3⟩,Xz.kept hk r rest h4⟩
theorem Xz.append{w:World}{P:Nat->Prop}:∀(l:List Rr) (vs:List Value) (n:Rr) (c:List Value),Xz w P l vs->vs.length=l.length*10->RqR w P n c->Xz w P (l++[n]) (vs++c)
 |[],vs,n,c,_,hl,hn=>by
  have:vs=[]:=List.eq_nil_of_length_eq_zero (by simpa using hl);subst this;rw[List.nil_append,Xz];exact⟨c,[],by simp,hn,by rw[Xz];trivial⟩
 |m::r,vs,n,c,h,hl,hn=>by
  rw[Xz]at h;obtain⟨d,rest,rfl,h2,h3⟩:=h;have hd:=h2.len;rw[List.cons_append,Xz];refine⟨d,rest++c,by rw[List.append_assoc],h2,Xz.append r rest n c h3 ?_ hn⟩;simp at hl;omega
mutual
theorem Vx.is{w:World}{P:Nat->Prop}:∀(t:RT) (c:List Value),Vx w P t c->Qh w w.heap.size t c
 | .mk k T a b c d s p,cs,h=>by
   rw[Vx]at h;rw[Qh];obtain⟨so,cap,h1,h2⟩:=h;refine⟨so,cap,h1,?_⟩;rcases h2 with h2|⟨h3,g,cur,h4,h5,h6,h7,h8⟩
   ·exact .inl h2
   ·exact .inr ⟨h3,g,0,h4,Qz h6,h7,Zk.is s cur.toList g 0 cur h6 (fun i u hu=>by rw[Nat.zero_add];simpa using hu) h8⟩
theorem Zk.is{w:World}{P:Nat->Prop}:∀(s:List RT) (vs:List Value) (g o:Nat) (cur:Array Value),w.heap[g]? =some (.cells cur 30)->(∀i u,vs[i]? =some u->cur[o+i]? =some u)->Zk w P s vs->Zb w w.heap.size g o s
 |[],_,_,_,_,_,_,_=>by rw[Zb];trivial
 |t::r,vs,g,o,cur,hg,hv,h=>by
  rw[Zk]at h;rw[Zb];obtain⟨c,rest,rfl,h2,h3⟩:=h;have hc:=h2.len;refine⟨⟨c,Vx.is t c h2,fun j u hu=> ?_⟩,Zk.is r rest g (o+8) cur hg (fun i u hu=> ?_) h3⟩
  ·have hj:j<c.length:=by
    rcases Nat.lt_or_ge j c.length with h|h
    ·exact h
    ·rw[List.getElem?_eq_none h]at hu;cases hu
   have:=hv j u (by rw[List.getElem?_append_left hj];exact hu);simp[World.cell?,hg,this]
  ·have:=hv (8+i) u (by rw[List.getElem?_append_right (by omega),hc,Nat.add_sub_cancel_left];exact hu)
   rw[Nat.add_assoc];exact this
end
theorem Xz.get{w:World}{P:Nat->Prop}:∀(l:List Rr) (vs:List Value),Xz w P l vs->∀(j:Nat) (hj:j<l.length),∃c,RqR w P l[j] c/\∀i u,c[i]? =some u->vs[j*10+i]? =some u
 |[],_,_,j,hj=>by simp at hj
 |x::r,vs,h,0,_=>by
  rw[Xz]at h;obtain⟨c,rest,rfl,h2,_⟩:=h;refine⟨c,h2,fun i u hu=> ?_⟩;have hi:i<c.length:=by
   rcases Nat.lt_or_ge i c.length with h|h
   ·exact h
   ·rw[List.getElem?_eq_none h]at hu;cases hu
  rw[Nat.zero_mul,Nat.zero_add,List.getElem?_append_left hi];exact hu
 |x::r,vs,h,j+1,hj=>by
  rw[Xz]at h;obtain⟨c,rest,rfl,h2,h3⟩:=h;obtain⟨c',h4,h5⟩:=Xz.get r rest h3 j (by simpa using hj);have hc:=h2.len;refine⟨c',h4,fun i u hu=> ?_⟩;rw[List.getElem?_append_right (by omega),hc,show(j+1)*10+i-10=j*10+i by omega];exact h5 i u hu
theorem Xz.is{w:World}{base n:Nat}{P:Nat->Prop}{a:Value}{xs:List Value}{rs:List Rr}(ho:w.ownsRow base 50 10 a n xs)(hn:n=rs.length)(h:Xz w P rs xs):∃so cap,a=.slice so n cap/\Xh w w.heap.size so n rs:=by
 obtain⟨hx,⟨h1,h0⟩|⟨g,cap,cur,e1,hg1,hg2,hc1,hc2,hc3,ht⟩⟩:=ho
 ·exact⟨none,0,by rw[h1,h0],hn,by rw[h0];unfold maxLen;omega,fun j hj=>by omega⟩
 ·refine⟨some ⟨g,0,none⟩,cap,e1,hn,by omega,fun j hj=>⟨g,0,rfl,Qz hg2,?_⟩⟩
  obtain⟨c,⟨c1,rfl,h2⟩,h3⟩:=Xz.get rs xs h j hj;have rt:=h2.is;obtain⟨k,T,a,b,c,d,so,n1,cap1,p,rfl⟩:=rt.shape;have hcell:∀i u,(Value.string rs[j].1::(r8 k T a b c d so n1 cap1 p++[.int .i64 rs[j].2.2]))[i]? =some u->w.cell? ⟨g,0+j*10+i,none⟩=some u:=fun i u hu=>by
   have h4:=h3 i u hu;rw[<-ht]at h4;have hlt:j*10+i<n*10:=by
    rcases Nat.lt_or_ge (j*10+i) (n*10)with h|h
    ·exact h
    ·rw[List.getElem?_eq_none (by rw[List.length_take];omega)]at h4;cases h4
   rw[List.getElem?_take_of_lt hlt]at h4;have h5:cur[j*10+i]? =some u:=by simpa using h4
   rw[Nat.zero_add];simp[World.cell?,hg2,h5]
  exact⟨k,T,a,b,c,d,so,n1,cap1,p,rt,hcell 0 _ rfl,hcell 1 _ rfl,hcell 2 _ rfl,hcell 3 _ rfl,hcell 4 _ rfl,hcell 5 _ rfl,hcell 6 _ rfl,hcell 7 _ rfl,hcell 8 _ rfl,hcell 9 _ rfl⟩
structure Cq (w:World) (so:Option Addr) (n cap j:Nat) (rs:List Rr) (xs:List Value) (a:Value) (W:World):Prop where
 be:Below w.heap.size w W
 g0:W.heap[w.heap.size]? =some (.cells #[.slice so n cap] 24)
 g1:W.heap[w.heap.size+1]? =some (.cells #[.slice none 0 0] 24)
 g2:W.heap[w.heap.size+1+1]? =some (.cells #[a] 24)
 ow:W.ownsRow (w.heap.size+3) 50 10 a j xs
 rq:Xz W (fun g=>w.heap.size+3<=g) (rs.take j) xs
theorem Cq.size{w:World}{so:Option Addr}{n cap j:Nat}{rs:List Rr}{xs:List Value}{a:Value}{W:World}(h:Cq w so n cap j rs xs a W):w.heap.size+3<=W.heap.size:=Qz h.g2
theorem Cq.step{w:World}{so so2:Option Addr}{n cap cap2 j:Nat}{rs:List Rr}{xs:List Value}{a a':Value}{wr W1 w2 W4 w6:World}{N0 T1:ByteArray}{k1 a1 b1 c1 d1 p1 q1:Int}{s1:List RT}
  (h:Cq w so n cap j rs xs a wr)(hj:j<rs.length)(hx:(N0,RT.mk k1 T1 a1 b1 c1 d1 s1 p1,q1)=rs[j])(hW1:W1.heap.size=wr.heap.size+1)(hb:Below wr.heap.size wr w2)(hm:Qg s1<=maxLen)
  (hq:s1.isEmpty=true∨(s1.isEmpty=false/\∃g cur,so2=some ⟨g,0,none⟩/\W1.heap.size<=g/\w2.heap[g]? =some (.cells cur 30)/\Zk w2 (fun g=>W1.heap.size<=g) s1 cur.toList))
  (h4:w2.heap.size<=W4.heap.size)(h4b:∀g,g<w2.heap.size->g≠wr.heap.size->W4.heap[g]? =w2.heap[g]?)(hb4:Below wr.heap.size wr W4)
  (hown:w6.ownsRow (w.heap.size+3) 50 10 a' (j+1) (xs++[.string N0,.int .i64 k1,.string T1,.int .u64 a1,.int .u64 b1,.int .u64 c1,.int .u64 d1,.slice so2 (Qg s1) cap2,.int .i64 p1,.int .i64 q1]))(hgr:W4.grownBy w6 a.ownBlock):
  Cq w so n cap (j+1) rs (xs++[.string N0,.int .i64 k1,.string T1,.int .u64 a1,.int .u64 b1,.int .u64 c1,.int .u64 d1,.slice so2 (Qg s1) cap2,.int .i64 p1,.int .i64 q1]) a' (w6.setCell ⟨w.heap.size+1+1,0,none⟩ a'):=by
 have hsz:=h.size;have hs4:=hb4.size;have hs2:=hb.size;have hne:∀i,i<w.heap.size+3->some i≠a.ownBlock:=fun i hi e=>by have:=(h.ow.lt i e.symm).1;omega
 have hst:∀i,i≠w.heap.size+1+1->(w6.setCell ⟨w.heap.size+1+1,0,none⟩ a').heap[i]? =w6.heap[i]? :=fun i hi=>Below.heap_setCell _ _ _ _ hi
 have hk:∀i,i<w.heap.size+3->w6.heap[i]? =wr.heap[i]? :=fun i hi=>(hgr.block i (by omega) (hne i hi)).trans (hb4.block i (by omega))
 have hP7:=(hk (w.heap.size+1+1) (by omega)).trans h.g2;have hset:w6.grownBy (w6.setCell ⟨w.heap.size+1+1,0,none⟩ a') (some (w.heap.size+1+1)):=⟨rfl,rfl,rfl,by simp,fun i hi hne=>Below.heap_setCell _ _ _ _ (fun e=>hne (by rw[e]))⟩;have hbe:=h.be.trans (hb4.mono h.be.size);have key:∀g cur,g<w2.heap.size->g≠wr.heap.size->w.heap.size+3<=g->w2.heap[g]? =some (.cells cur 30)->(w6.setCell ⟨w.heap.size+1+1,0,none⟩ a').heap[g]? =w2.heap[g]? :=fun g cur h1 h2 h3 h5=>by
  refine(hst g (by omega)).trans ((hgr.block g (by omega) (fun e=> ?_)).trans (h4b g h1 h2));have hl:=(h.ow.lt g e.symm).2;have h6:wr.heap[g]? =some (.cells cur 30):=(hb.block g hl).symm.trans h5;exact z3Y h.ow h6 (fun cur e=>by cases e) e.symm
 refine⟨(hbe.grown hgr hbe.size (fun j ej=>by have:=(h.ow.lt j ej).1;omega)).setCell (p:=⟨w.heap.size+1+1,0,none⟩) (by show w.heap.size<=w.heap.size+1+1;omega) _,(hst _ (by omega)).trans ((hk _ (by omega)).trans h.g0),(hst _ (by omega)).trans ((hk _ (by omega)).trans h.g1),?_,hown.kept hset (.inr (fun e=>by have:=(hown.lt _ e).1;omega)),?_⟩
 ·simp only[World.setCell,Array.getElem?_modify,if_true]
  rw[hP7];simp
 ·rw[List.take_succ_eq_append_getElem hj,<-hx]
  refine Xz.append _ _ _ _ (Xz.kept (fun g cur hp hq=> ?_) _ _ h.rq) (by rw[List.length_take,Nat.min_eq_left (by omega)];exact h.ow.1) ⟨r8 k1 T1 a1 b1 c1 d1 so2 (Qg s1) cap2 p1,rfl,?_⟩
  ·have hlt:=Qz hq
   exact⟨(key g cur (by omega) (by omega) hp ((hb.block g hlt).trans hq)).trans (hb.block g hlt),hp⟩
  ·have hk2:∀g cur,W1.heap.size<=g->w2.heap[g]? =some (.cells cur 30)->(w6.setCell ⟨w.heap.size+1+1,0,none⟩ a').heap[g]? =w2.heap[g]? /\w.heap.size+3<=g:=fun g cur hp hq=>⟨key g cur (Qz hq) (by omega) (by omega) hq,by omega⟩
   rw[Vx];refine⟨so2,cap2,rfl,?_⟩;rcases hq with h|⟨h1,g,cur,h2,h3,h5,h6⟩
   ·exact .inl h
   ·have:=hk2 g cur h3 h5
    exact .inr ⟨h1,g,cur,h2,this.2,this.1.trans h5,hm,Zk.kept hk2 _ _ h6⟩
theorem y2U(so:Option Addr)(n cap:Nat)(rs:List Rr)(B:Nat)(w:World)(hn:n*112<=140737488351232)(hS:∀x∈rs,RtS x.2.1)(h:Xh w B so n rs)(hB:B<=w.heap.size):
  Calls prog 9 #[.agg #[.slice so n cap]] w fun e w'=>∃so' cap',e=.returned (.agg #[.slice so' n cap'])/\Hid (Xh w' w'.heap.size so' n rs)/\Hid (Below w.heap.size w w'):=by
 obtain⟨iT,hiT,hzT0,hzT1,hzT2⟩:=info_parts Tryz.infoRl;have hn63:n<=9223372036854775807:=by omega
 have HN:Hid (n=rs.length):=h.1;have HG:=hid h;have HS:=hid hS;clear h hS;have HC0:Hid (Cq w so n cap 0 rs [] (.slice none 0 0) (((w.alloc (.cells #[.slice so n cap] 24)).alloc (.cells #[.slice none 0 0] 24)).alloc (.cells #[.slice none 0 0] 24))):=
  ⟨(((Below.refl _ w).alloc L0q _).alloc (by simp) _).alloc (by simp;omega) _,(Below.heap_alloc _ _ _ (by simp;omega)).trans ((Below.heap_alloc _ _ _ (by simp)).trans (Qq w _ rfl)),(Below.heap_alloc _ _ _ (by simp)).trans (Qq _ _ (by simp)),Qq _ _ (by simp),World.ownsRow_nil _ _ _ _,by rw[List.take_zero,Xz];trivial⟩
 go_enter func9,ntmps9
 go_wp2_with fail
 go_loopw [4] (fun i wr=>∃(j:Nat) (xs:List Value) (a:Value),i=.int .i64 j/\j<=n/\Hid (Cq w so n cap j rs xs a wr)) (fun i _=>n-(intOf i).toNat)
 case atStart=>exact⟨0,[],_,rfl,Nat.zero_le _,HC0⟩
 case round=>
  obtain⟨j,xs,a,rfl,hj,HC⟩:=hrel;clear HC0;obtain⟨m0,m1⟩:=Zl HC.out.g0;have hsz:=HC.out.size;by_cases hjn:j<n
  ·have hjI:(j:Int)<(n:Int):=by omega
   have a0:decide ((j:Int)<(n:Int))=true:=by simp;omega
   have hjs:j<rs.length:=by rw[<-HN.out];exact hjn
   obtain⟨g,o,rfl,hg,k1,T1,a1,b1,c1,d1,so1,n1,cap1,p1,rt,z0,z1,z2,z3,z4,z5,z6,z7,z8,z9⟩:=(HG.out.below (HC.out.be.mono hB)).2.2 j hjs;obtain⟨x,hx⟩:∃x,x=rs[j]:=⟨_,rfl⟩;have hsx:RtS x.2.1:=by rw[hx];exact HS.out _ (List.getElem_mem hjs)
   rw[<-hx]at rt z0 z9;obtain⟨N0,⟨k,T,a',b',c',d',s1,p⟩,q1⟩:=x;rw[Qh]at rt;obtain⟨so',cap',e,hr⟩:=rt;simp only[List.cons.injEq,Value.int.injEq,Value.string.injEq,Value.slice.injEq,true_and,and_true]at e;obtain⟨rfl,rfl,rfl,rfl,rfl,rfl,⟨rfl,rfl,rfl⟩,rfl⟩:=e;rw[RtS]at hsx;dsimp only at z0 z9;have HCp:=hid (fun(W:World) (hb:Below wr.heap.size wr W)=>z4X _ s1 so1 cap1 B W (Nat.lt_succ_self _) hsx.1 hsx.2 (by
    rcases hr with h2|⟨h2,g1,o1,h3,h4,h5,h6⟩
    ·exact .inl h2
    ·exact .inr ⟨h2,g1,o1,h3,h4,h5,h6.below h4 (hb.mono (by omega))⟩) (by have:=hb.size;omega))
   have HX:=hid hx;have hm1:Qg s1<=maxLen:=by unfold maxLen;omega
   obtain⟨sa,sca,rfl⟩:=Fg HC.out.ow;clear hr hsx hx HG HS
   go_wp2_with fail
   obtain⟨W1,hW1⟩:∃W1,W1=wr.alloc (.cells #[.string N0,.int .i64 k1,.string T1,.int .u64 a1,.int .u64 b1,.int .u64 c1,.int .u64 d1,.slice so1 (Qg s1) cap1,.int .i64 p1,.int .i64 q1] 50):=⟨_,rfl⟩;have HZ1:Hid (W1.heap.size=wr.heap.size+1):=by rw[hW1];exact World.size_alloc _ _
   have HC1:Hid (W1.heap[wr.heap.size]? =some (.cells #[.string N0,.int .i64 k1,.string T1,.int .u64 a1,.int .u64 b1,.int .u64 c1,.int .u64 d1,.slice so1 (Qg s1) cap1,.int .i64 p1,.int .i64 q1] 50)):=by rw[hW1];exact Qq wr _ rfl
   have HB1:Hid (Below wr.heap.size wr W1):=by rw[hW1];exact(Below.refl _ wr).alloc L0q _
   have HO1:Hid (W1.ownsRow (w.heap.size+3) 50 10 (.slice sa j sca) j xs):=by rw[hW1];exact HC.out.ow.alloc _
   rw[<-hW1];clear hW1;refine(HCp.out W1 HB1.out).mono ?_;rintro e w2 ⟨so2,cap2,rfl,HQ2,HB2⟩;have HBr:Hid (Below wr.heap.size wr w2):=HB1.out.trans (HB2.out.mono HB1.out.size);have hs2:wr.heap.size<w2.heap.size:=by have:=HB2.out.size;have:=HZ1.out;omega
   have HO2:Hid (w2.ownsRow (w.heap.size+3) 50 10 (.slice sa j sca) j xs):=Vz HO1.out HB2.out;obtain⟨⟨y0,y1,y2,y3,y4,y5,y6,y7,y8,y9⟩,yf⟩:=Gg ((HB2.out.block _ (by rw[HZ1.out];exact Nat.lt_succ_self _)).trans HC1.out);obtain⟨x0,xf⟩:=Zl ((HBr.out.block _ (by omega)).trans HC.out.g2);have hne2:w.heap.size+1+1≠wr.heap.size:=by omega
   have hset:w2.grownBy (w2.setCell ⟨wr.heap.size,7,none⟩ (.slice so2 (Qg s1) cap2)) (some wr.heap.size):=⟨rfl,rfl,rfl,by simp,fun i hi hne=>Below.heap_setCell _ _ _ _ (fun e=>hne (by rw[e]))⟩;have HO3:Hid ((w2.setCell ⟨wr.heap.size,7,none⟩ (.slice so2 (Qg s1) cap2)).ownsRow (w.heap.size+3) 50 10 (.slice sa j sca) j xs):=HO2.out.kept hset (.inr (fun e=>by have:=(HC.out.ow.lt _ e).2;omega));have HSet:=hid hset;obtain⟨n1,hn1⟩:∃n1,n1=Qg s1:=⟨_,rfl⟩;rw[<-hn1]at HO3 HSet y7 ⊢;have HN1:=hid hn1;clear hn1 hset HCp HO1 HO2 z0 z1 z2 z3 z4 z5 z6 z7 z8 z9
   go_wp2_with(first|(at_builtin;refine wpList_append_own_at _ rfl (.tmp 25) (.tmp 27) 22 rfl (w.heap.size+3) 50 iT (.agg #[.string ⟨#[]⟩,.int .i64 0,.string ⟨#[]⟩,.int .u64 0,.int .u64 0,.int .u64 0,.int .u64 0,.slice none 0 0,.int .i64 0,.int .i64 0]) 10 112 Tryz.underlying22 hiT hzT0 hzT1 hzT2 rfl (by decide) _ _ _ rfl (HO3.out.alloc _) ⟨w2.heap.size,0,none⟩ 1 1 [.string N0,.int .i64 k1,.string T1,.int .u64 a1,.int .u64 b1,.int .u64 c1,.int .u64 d1,.slice so2 n1 cap2,.int .i64 p1,.int .i64 q1] rfl rfl (by have:=Sy (w2.setCell ⟨wr.heap.size,7,none⟩ (.slice so2 n1 cap2)) (.string N0) (.int .i64 k1) (.string T1) (.int .u64 a1) (.int .u64 b1) (.int .u64 c1) (.int .u64 d1) (.slice so2 n1 cap2) (.int .i64 p1) (.int .i64 q1) 50;simp only[World.size_setCell]at this;exact this) (Hz _ _ _ _ _ _ _ _ _ _ _ _) (by unfold maxLen;omega) (by omega) (by simp;omega) ?_;intro v6 w6 hown6 hgr6 hnil6 hat6;obtain⟨sa7,sc7,rfl⟩:=Fg hown6;have hG7:w6.heap[w.heap.size+1+1]? =some (.cells #[.slice sa j sca] 24):=(hgr6.block _ (by simp;omega) (fun e=>by have:=(HC.out.ow.lt _ e.symm).1;omega)).trans ((Below.heap_alloc _ _ _ (by simp;omega)).trans ((HSet.out.block _ (by omega) (fun e=>hne2 (Option.some.inj e))).trans ((HBr.out.block _ (by omega)).trans HC.out.g2)));obtain⟨g2,g3⟩:=Zl hG7;have hs7:=Qz hG7))
   have hb3:Below wr.heap.size wr (w2.setCell ⟨wr.heap.size,7,none⟩ (.slice so2 n1 cap2)):=HBr.out.setCell (p:=⟨wr.heap.size,7,none⟩) L0q _;have en1:=HN1.out;subst en1;have hcq:=Cq.step HC.out hjs HX.out HZ1.out HBr.out hm1 HQ2.out (by simp) (fun g hg hne=>(Below.heap_alloc _ _ _ (by simpa using hg)).trans (HSet.out.block g hg (fun e=>hne (Option.some.inj e)))) (hb3.alloc hb3.size _) hown6 hgr6;refine⟨⟨j+1,_,_,by go_num,by omega,hcq⟩,?_⟩;simp[intOf];omega
  ·have a0:decide ((j:Int)<(n:Int))=false:=by simp;omega
   have hjn':j=n:=by omega
   have hjr:j=rs.length:=by have:=HN.out;omega
   have hq:=HC.out.rq;rw[hjr,List.take_length]at hq;have hset1:wr.grownBy (wr.setCell ⟨w.heap.size+1,0,none⟩ a) (some (w.heap.size+1)):=⟨rfl,rfl,rfl,by simp,fun i hi hne=>Below.heap_setCell _ _ _ _ (fun e=>hne (by rw[e]))⟩;have ho':=HC.out.ow.kept hset1 (.inr (fun e=>by have:=(HC.out.ow.lt _ e).1;omega));have hq':Xz (wr.setCell ⟨w.heap.size+1,0,none⟩ a) (fun g=>w.heap.size+3<=g) rs xs:=Xz.kept (fun g cur hp _=>⟨Below.heap_setCell _ _ _ _ (fun e=>by have e2:g=w.heap.size+1:=e;omega),hp⟩) _ _ hq;obtain⟨so',cap',rfl,hrg⟩:=Xz.is ho' hjr hq';have d0:(wr.setCell ⟨w.heap.size+1,0,none⟩ (.slice so' j cap')).heap[w.heap.size+1]? =some (.cells #[.slice so' j cap'] 24):=by
    simp only[World.setCell,Array.getElem?_modify,if_true];rw[HC.out.g1];simp
   have D0:=hid (Zl d0).1;have HFin:Hid (Xh _ _ _ _ _/\Below w.heap.size w (wr.setCell ⟨w.heap.size+1,0,none⟩ (.slice so' j cap'))):=⟨hrg,HC.out.be.setCell (p:=⟨w.heap.size+1,0,none⟩) (by show w.heap.size<=w.heap.size+1;omega) _⟩;rw[hjn']at HFin D0;obtain⟨x0,xf⟩:=Zl HC.out.g2;obtain⟨x1,xg⟩:=Zl HC.out.g1;clear hq hrg HG HS hset1 ho' hq' d0
   go_wp2_with fail
   have d0:=D0.out;refine bodyPost_ret (v:=.agg #[.slice so' n cap']) (by simp[results,Tryz.results9,go_sem,d0]) rfl ?_;exact⟨so',cap',rfl,HFin.out.1,HFin.out.2⟩
end Go.Proofs.YtikfnaffiehpaaaGreatDoor
