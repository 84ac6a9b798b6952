/- Lemmas for the last text. Conditions: those that each names. -/
import Derived.Test.YtlogolpcipiceaaGreatDoorVC9
import Derived.Test.YtlogolpcipiceaaGreatDoorVPR1ToT11
import Derived.Test.YtlogolpcipiceaaGreatDoorVT13ToT15
set_option linter.unusedVariables false
set_option maxRecDepth 100000
set_option maxHeartbeats 8000000
namespace Go.Proofs.YtlogolpcipiceaaGreatDoor
open Go.Proofs.Tryz
open Go.RowKit Go.Shelf Go.Maps
variable {rs:List Rr}
theorem z5s(over:Nat)(sep:ByteArray)(n:Nd)(q:List Nd):sz (pS qT cT over sep (n::q))=sz (pP qT cT over n)+sz (pB qT cT over sep q):=by rw[pS,Xc];rfl
theorem y3Z(over:Nat)(sep:ByteArray)(n:Nd)(q:List Nd):sz (pB qT cT over sep (n::q))=sep.size+(sz (pP qT cT over n)+sz (pB qT cT over sep q)):=by rw[pB,sz,Xc];rfl
theorem y4a(kd:Nat)(h8:8<=kd)(h12:kd<=12):1<=(bsg kd).size:=by
 have:kd=8∨kd=9∨kd=10∨kd=11∨kd=12:=by omega
 rcases this with rfl|rfl|rfl|rfl|rfl<;>decide
mutual
theorem Iv:∀(t:RT) (n:Nd),Tq t n->Vk n->ndT t<=2*sz (pN qT cT n)+1
 | .mk k T a b c d s p,.mk kd T' C s' p',hq,hv=>by
   rw[Tq]at hq;obtain⟨hk,hT,_,_,_,_,hl⟩:=hq;rw[Vk]at hv;rw[ndT];have h0:s'=[]->ndL s=0:=fun e=>by
    subst e;cases s with
    |nil=>rw[ndL]
    |cons t r=>simp[TqL]at hl
   rcases hv.1 with⟨_,_,_,e⟩|⟨_,_,e⟩|⟨_,_,e⟩|⟨_,_,_,e⟩|⟨_,_,e⟩|⟨h67,_,_,h2⟩|⟨h8,h12,_,_,h1⟩
   ·rw[h0 e];omega
   ·rw[h0 e];omega
   ·rw[h0 e];omega
   ·rw[h0 e];omega
   ·rw[h0 e];omega
   ·have Qb:∀over sep,1<=sep.size->1+ndL s<=2*sz (pS qT cT over sep s')+1:=fun over sep hs=>by
     cases s with
     |nil=>cases s' with
      |nil=>simp at h2
      |cons n q=>simp[TqL]at hl
     |cons t r=>
      cases s' with
      |nil=>simp[TqL]at hl
      |cons n q=>
       rw[TqL]at hl;have hvl:=hv.2;rw[VkL]at hvl;have i1:=Iv t n hl.1 hvl.1;have i2:=z5t r q over sep hs hl.2 hvl.2;have i3:=Dm over n;have i4:q.length=r.length:=hl.2.length';simp only[List.length_cons]at h2;rw[ndL,z5s];omega
    rcases h67 with rfl|rfl
    ·rw[pN]
     simp only[Nat.reduceEqDiff,if_false,if_true];exact Qb 6 bSp (by decide)
    ·rw[pN]
     simp only[Nat.reduceEqDiff,if_false,if_true];exact Qb 7 bSl (by decide)
   ·have Qb:∀over sep,ndL s<=2*sz (pS qT cT over sep s')+1:=fun over sep=>by
     cases s with
     |nil=>rw[ndL];omega
     |cons t r=>
      cases s' with
      |nil=>simp[TqL]at hl
      |cons n q=>
       rw[TqL]at hl;have hvl:=hv.2;rw[VkL]at hvl;have i1:=Iv t n hl.1 hvl.1;have i3:=Dm over n;have i4:q.length=r.length:=hl.2.length';simp only[List.length_cons]at h1;have i5:r=[]:=List.eq_nil_of_length_eq_zero (by omega);rw[i5,ndL,ndL,z5s];omega
    have hb:=y4a kd h8 h12;rw[pN,if_neg (by omega),if_neg (by omega),if_neg (by omega),if_neg (by omega),if_neg (by omega),if_neg (by omega),if_neg (by omega)];by_cases h11:kd=11∨kd=12
    ·rw[if_pos h11,sz]
     have:=Qb kd bE;omega
    ·rw[if_neg h11,Xc,sz,sz]
     have:=Qb kd bE;omega
theorem z5t:∀(s:List RT) (q:List Nd) (over:Nat) (sep:ByteArray),1<=sep.size->TqL s q->VkL q->ndL s+s.length<=2*sz (pB qT cT over sep q)
 |[],_,_,_,_,_,_=>by rw[ndL];exact Nat.zero_le _
 |t::r,[],_,_,_,h,_=>by simp[TqL]at h
 |t::r,n::q,over,sep,hs,h,hv=>by
  rw[TqL]at h;rw[VkL]at hv;have i1:=Iv t n h.1 hv.1;have i2:=z5t r q over sep hs h.2 hv.2;have i3:=Dm over n;rw[ndL,y3Z,List.length_cons];omega
end
theorem wfU{a:Int}(h:0<=a/\a<18446744073709551616):(Lit.int .u64 a).wf=true:=WalkArith.wf_u64 (by omega)
theorem y4b(t:RT):1<=ndT t:=by
 cases t;rw[ndT];omega
theorem z5u:∀(s:List RT),s.length<=ndL s
 |[]=>by rw[ndL];exact Nat.le_refl _
 |t::r=>by
  have:=z5u r;have:=y4b t;rw[ndL,List.length_cons];omega
mutual
theorem z5v:∀(t:RT) (n:Nd),Tq t n->Vk n->okT t=true->RtU t->ndT t<=1048576->TrK t
 | .mk k T a b c d s p,.mk kd T' C s' p',hq,hv,hok,hu,hn=>by
   rw[Tq]at hq;obtain⟨hk,hT,_,_,_,_,hl⟩:=hq;rw[Vk]at hv;rw[okT,Bool.and_eq_true]at hok;have hsz:=y2a hok.1;rw[RtU]at hu;obtain⟨u1,u2,u3,u4,us⟩:=hu;rw[ndT]at hn;have hll:=z5u s;have hkd:kd<=12:=by
    rcases hv.1 with⟨h,_⟩|⟨h,_⟩|⟨h,_⟩|⟨h,_⟩|⟨h,_⟩|⟨h|h,_⟩|⟨_,h,_⟩<;>omega
   rw[TrK];exact⟨⟨WalkArith.wf_i64 (by omega),by omega,wfU u1,wfU u2,wfU u3,wfU u4,by omega⟩,z5w s s' hl hv.2 hok.2 us (by omega)⟩
theorem z5w:∀(s:List RT) (q:List Nd),TqL s q->VkL q->okL s=true->Uz s->ndL s<=1048576->Fg s
 |[],_,_,_,_,_,_=>by rw[Fg];trivial
 |t::r,[],h,_,_,_,_=>by simp[TqL]at h
 |t::r,n::q,h,hv,hok,hu,hn=>by
  rw[TqL]at h;rw[VkL]at hv;rw[okL,Bool.and_eq_true]at hok;rw[Uz]at hu;rw[ndL]at hn;rw[Fg];exact⟨z5v t n h.1 hv.1 hok.1 hu.1 (by omega),z5w r q h.2 hv.2 hok.2 hu.2 (by omega)⟩
end
theorem y4c(h:∀x∈rs,ndT x.2.1<=16373):ndG rs<=16373*rs.length:=by
 induction rs with
 |nil=>rw[ndG];exact Nat.zero_le _
 |cons x r ih=>
  have h1:=h x List.mem_cons_self;have h2:=ih fun y hy=>h y (List.mem_cons_of_mem _ hy)
  rw[ndG,List.length_cons];omega
theorem y4d(h:PrG rs){x:Rr}(hx:x∈rs):x.1.size<=1073741824:=by
 obtain⟨hok,ns,hq,hn,hs,_⟩:=h;have ho:=Ff hok _ hx;have hnm:=ho.1;unfold nmS at hnm;cases hb:bt x.1 0 with
 |none=>rw[hb]at hnm;cases hnm
 |some y=>
  rw[hb]at hnm;simp only[Bool.and_eq_true,decide_eq_true_eq]at hnm;omega
theorem y4e(hok:okG rs=true)(hck:ckR rs=none)(hp:PrG rs)(hz:RgZ rs)(hu:RgU rs):rs.length<=64/\(∀x∈rs,TrK x.2.1/\x.1.size<=1073741824)/\ndG rs<=1048576:=by
 have hl:=(Gb hok).2;have hn:∀x∈rs,ndT x.2.1<=16373/\TrK x.2.1:=fun x hx=>by
  obtain⟨hok,_,⟨nd,q1,q2,q3,q4,_⟩,_⟩:=Wv hp hck hz hx;have h1:=Iv _ nd q1 q2;exact⟨by omega,z5v _ nd q1 q2 hok (hu x hx) (by omega)⟩
 have h3:=y4c fun x hx=>(hn x hx).1
 refine⟨hl,fun x hx=>⟨(hn x hx).2,?_⟩,by omega⟩;exact y4d hp hx
theorem z5x(so:Option Addr)(n cap:Nat)(rs:List Rr)(X:Option (Int ⊕ (Int×Int)))(B:Nat)(fp:Addr)(w:World)(hX:CkX rs X)(hP:X=none->PrG rs)(hC:CkC so n cap rs X w)(hz:RgZ rs)(hu:RgU rs)(h:Qy w B so n rs)(hB:B<=w.heap.size)(hT:TabIs w)(hF:w.cell? ⟨1,0,none⟩=some (.iface 379 (.pointer (some fp))))(hPw:Vw w)(W:World)(hW:Below w.heap.size w W):
  Calls prog 11 #[.agg #[.slice so n cap]] W (MaQ (fun T=>fdI T (nmL rs)) rs (soZ rs X≠none) W):=by
 refine y3Y so n cap rs (soZ rs X≠none) W (hid ((h.below (hW.mono hB)).upto (Nat.le_trans hB hW.size))) (hid h.1) (hid (hPw.below hW)) (hid fun W' hW'=> ?_) (hid fun hE=> ?_)
 ·refine(y3y so n cap rs X B fp w hX hP hC hz h hB hT hF W' (hW.trans (hW'.mono hW.size))).mono fun e w' he=> ?_
  obtain⟨v,rfl,hv,hb⟩:=he;by_cases e0:soZ rs X=none
  ·rw[e0]at hv
   have hv:v=.nilIface:=hv;subst hv;exact⟨.inr ⟨fun hne=>hne e0,rfl⟩,hb⟩
  ·obtain⟨tt,uu,rfl⟩:=hv.shape e0
   exact⟨.inl ⟨e0,tt,uu,rfl⟩,hb⟩
 ·have e0:soZ rs X=none:=Classical.not_not.1 hE
  obtain rfl:X=none:=by
   cases X with
   |none=>rfl
   |some x=>unfold soZ at e0;cases e0
  obtain⟨hok,hck,_⟩:=hX;obtain⟨h1,h2,h3⟩:=y4e hok hck (hP rfl) hz hu;exact⟨by have:=h.1;omega,h2,h3⟩
theorem Iw(C i:Nat):(0:Int)<=(wd C i:Nat)/\((wd C i:Nat):Int)<18446744073709551616:=by
 have:=Zv C i;omega
mutual
theorem z5y:∀n:Nd,RtU (toR n)
 | .mk kd T C s p=>by rw[toR,RtU];exact⟨Iw C 0,Iw C 1,Iw C 2,Iw C 3,z5z s⟩
theorem z5z:∀s:List Nd,Uz (Vy s)
 |[]=>by rw[Vy,Uz];trivial
 |n::r=>by rw[Vy,Uz];exact⟨z5y n,z5z r⟩
end
theorem y4f{S:ByteArray}{rs:List Rl}(hp:Vv S=.inr rs)(h1:sz (pR qT cT rs)<=8192)(h2:dR rs<=24):PrG (toG rs):=by
 have hx:∀x∈rs,Ruk Nmq x:=fun x hx=>(Rf hp x hx).1
 have hl:=Tz hp;exact⟨Tv (Gg rs) hx hl.2 hl.1,rs,Gg rs,hx,h1,h2⟩
theorem y4g{us:List (List Int)}(h:∀i x:Nat,(x:Int)∈us.getD i []->i<x){x i:Nat}(hr:Rch us x i):x<=i:=by
 induction hr with
 |refl=>exact Nat.le_refl _
 |step _ hm ih=>exact Nat.le_trans ih (Nat.le_of_lt (h _ _ hm))
theorem y4h{us:List (List Int)}(h:∀i x:Nat,(x:Int)∈us.getD i []->i<x)(i:Nat):¬Bck us i:=fun⟨x,hx,hr⟩=>by
 have h1:=h i x hx;have h2:=y4g h hr;omega
@[reducible] def smC:ByteArray:={data:=#[97,32,60,45,32,39,120,39,32,98,32,47,32,39,120,39,32,98,32,60,45,32,39,120,39,42]}
def pgG(rs:List Rr):List Int×List Ox:=mkG (fun T=>fdI T (nmL rs)) rs []
def z5A(x:Nat):Bool:=match Vv smC with
 | .inr rs=>decide (sz (pR qT cT rs)<=8192)&&(decide (dR rs<=24)&&(decide (ckR (toG rs)=none)&&((toG rs).all (fun x=>decide (ofT (itr (toG rs) 6) x.2.1=itr (toG rs) 6 x.1))&&(decide (flG (itr (toG rs) 6) (toG rs)=none)&&(decide ((toG rs).map (fun x=>(fbT (itr (toG rs) 6) x.2.1).map fun s=>fdI s (nmL (toG rs)))=[[],[]])&&(decide ((pgG (toG rs)).1=[3,4])&&decide ((pgG (toG rs)).2.map (fun o=>o.2.1.data.toList)=[[120],[],[],[],[]])))))))
 | .inl _=>false
theorem y4i:∀x,x<1->z5A x=true:=by decide+kernel
theorem y4j:∃rs,Vv smC=.inr rs/\sz (pR qT cT rs)<=8192/\dR rs<=24/\ckR (toG rs)=none/\soZ (toG rs) none=none/\(toG rs).length=2/\(pgG (toG rs)).1=[3,4]/\(pgG (toG rs)).2.map (fun o=>o.2.1.data.toList)=[[120],[],[],[],[]]:=by
 have h:=y4i 0 (by decide);unfold z5A at h;cases hp:Vv smC with
 |inl c=>rw[hp]at h;cases h
 |inr rs=>
  rw[hp]at h;simp only[Bool.and_eq_true,decide_eq_true_eq]at h;obtain⟨h1,h2,h3,h4,h5,h6,h7,h8⟩:=h;have hf:Yk (itr (toG rs) 6) (toG rs):=fun x hx=>by simpa using List.all_eq_true.1 h4 x hx
  have hlen:(toG rs).length=2:=by have:=congrArg List.length h6;simpa using this
  rw[z4Z hf]at h5 h6;refine⟨rs,rfl,h1,h2,h3,?_,hlen,h7,h8⟩;have hb:∀i,i<(toG rs).length->¬Bck (bgU (toG rs)) i:=fun i _=>y4h (fun i x hx=>by
   rw[List.getD_eq_getElem?_getD]at hx;unfold bgU at hx;rcases Nat.lt_or_ge i (toG rs).length with hi|hi
   ·rw[List.getElem?_map,List.getElem?_eq_getElem hi]at hx
    have hx:(x:Int)∈bgR (toG rs) (kG (toG rs)) (toG rs)[i]:=hx;obtain⟨s,hs,e⟩:=z4C.1 hx;have hm:(x:Int)∈(fbT (kG (toG rs)) (toG rs)[i].2.1).map (fun s=>fdI s (nmL (toG rs))):=List.mem_map.2 ⟨s,hs,e⟩;have h10:=congrArg (fun l=>l[i]?) h6;simp only[List.getElem?_map,List.getElem?_eq_getElem hi,Option.map_some]at h10;rcases(by omega:i=0∨i=1)with rfl|rfl
    ·rw[show([[],[]]:List (List Int))[0]? =some []from rfl]at h10
     have h10:=Option.some.inj h10;rw[h10]at hm;simp at hm
    ·rw[show([[],[]]:List (List Int))[1]? =some []from rfl]at h10
     have h10:=Option.some.inj h10;rw[h10]at hm;simp at hm
   ·rw[List.getElem?_eq_none (by simpa using hi)]at hx
    simp at hx) i
  unfold soZ flX;simp only;rw[h5,z5c hb];rfl
theorem Bz{W:World}{B e size n:Nat}{v:Value}{xs:List Value}(h:W.ownsRow B e size v n xs)(hn:0<n):∃g c,v=.slice (some ⟨g,0,none⟩) n c/\B<=g/\g<W.heap.size/\∀i u,xs[i]? =some u->W.cell? ⟨g,i,none⟩=some u:=by
 obtain⟨g,c,rfl,h1,h2⟩:=h.form hn;refine⟨g,c,rfl,h1,h2,fun i u hi=> ?_⟩;have hc:=h.cells (g:=g) rfl i u hi;have hadd:(⟨g,0,none⟩:Addr).add i=⟨g,i,none⟩:=by unfold Addr.add;split<;>simp_all
 rw[hadd]at hc;exact hc
theorem y4k{S:ByteArray}{rs:List Rl}(hS:S.size<=8192)(hp:Vv S=.inr rs)(h1:sz (pR qT cT rs)<=8192)(h2:dR rs<=24)(hck:ckR (toG rs)=none)(hZ:soZ (toG rs) none=none)(B g n cap:Nat)(fp:Addr)(W:World)(hr:RoR B (.slice (some ⟨g,0,none⟩) n cap) rs W)(hT:TabIs W)(hF:W.cell? ⟨1,0,none⟩=some (.iface 379 (.pointer (some fp))))(hPw:Vw W):
  Calls prog 11 #[.agg #[.slice (some ⟨g,0,none⟩) n cap]] W (MaQ (fun T=>fdI T (nmL (toG rs))) (toG rs) False W):=by
 obtain⟨hi,hz,hX,hC⟩:=y0G hS hp h1 h2 B g n cap W hr hT;have e0:xOf (toG rs)=none:=by unfold xOf;rw[hck];rfl
 rw[e0]at hX hC;have hU:RgU (toG rs):=fun x hx=>by
  obtain⟨y,_,rfl⟩:=List.mem_map.1 hx;exact z5y y.2.1
 refine(z5x _ n cap (toG rs) none W.heap.size fp W hX (fun _=>y4f hp h1 h2) hC hz hU hi L0q hT hF hPw W B0q).mono fun e w' he=> ?_
 obtain⟨hb,h⟩:=he;refine⟨hb,?_⟩;rcases h with⟨h,_⟩|⟨_,h⟩|⟨_,h⟩
 ·exact absurd hZ h
 ·exact .inr (.inl ⟨id,h⟩)
 ·exact .inr (.inr ⟨id,h⟩)
theorem y4l(n:Nat)(rs:List Rl)(S:ByteArray)(hS:S=smC)(w:World)
  (HPA:Hid (Calls prog 29 #[.string smC] w fun e w'=>∃g cap,e=.returned (.tuple #[.agg #[.slice (some ⟨g,0,none⟩) n cap],.nilIface])/\Hid (RoR w.heap.size (.slice (some ⟨g,0,none⟩) n cap) rs w')/\Hid (Below w.heap.size w w')))
  (HM:Hid (∀(g cap:Nat) (W:World),RoR w.heap.size (.slice (some ⟨g,0,none⟩) n cap) rs W->Below w.heap.size w W->Calls prog 11 #[.agg #[.slice (some ⟨g,0,none⟩) n cap]] W fun e w'=>∃go oc nso nn nc gr rc,e=.returned (.tuple #[.agg #[.slice (some ⟨go,0,none⟩) 5 oc,.slice nso nn nc,.slice (some ⟨gr,0,none⟩) 2 rc],.nilIface])/\w'.cell? ⟨gr,0,none⟩=some (.int .i64 3)/\w'.cell? ⟨gr,1,none⟩=some (.int .i64 4)/\w'.cell? ⟨go,1,none⟩=some (.string {data:=#[120]})/\Below W.heap.size W w')):
  Calls prog 9 #[] w fun e w'=>e=.returned (.bool true)/\Hid (Below w.heap.size w w'):=by
 go_enter func9,ntmps9
 go_wp2_with fail
 refine HPA.out.mono ?_;rintro e w1 ⟨g,cap,rfl,HRo,HB⟩;obtain⟨u1,hu1⟩:∃u1,u1=w1.alloc (.cells #[.slice (some ⟨g,0,none⟩) n cap] 24):=⟨_,rfl⟩;have hb11:Below w1.heap.size w1 u1:=by rw[hu1];exact(Below.refl _ w1).alloc L0q _
 have HBu:=hid (HB.out.trans (hb11.mono HB.out.size));have HC1:=hid (HM.out g cap u1 (HRo.out.below hb11) HBu.out);have HU1:=hid hu1;clear HPA HRo hb11 hu1 HM
 go_wp2_with fail
 rw[<-HU1.out];refine HC1.out.mono ?_;rintro e w2 ⟨go,oc,nso,nn,nc,gr,rc,rfl,c0,c1,c2,hb2⟩;have HB2:=hid (HBu.out.trans (hb2.mono HBu.out.size));have l0:=World.block_lt_of_cell? w2 _ c0;have l2:=World.block_lt_of_cell? w2 _ c2;clear HC1 HU1 hb2 HBu
 go_wp2_with fail
 go_ret;exact⟨rfl,hid (HB2.out.alloc HB2.out.size _)⟩
theorem y4m(fp:Addr)(w:World)(h:Xz w)(hT:TabIs w)(hF:w.cell? ⟨1,0,none⟩=some (.iface 379 (.pointer (some fp))))(hPw:Vw w):Calls prog 9 #[] w fun e w'=>e=.returned (.bool true)/\Hid (Below w.heap.size w w'):=by
 obtain⟨rs,hp,hs1,hs2,hck,hZ,hl,p1,p2⟩:=y4j;have HPA:=z7M smC w h (by decide);rw[hp]at HPA;unfold Jp at HPA;simp only at HPA;have hFb:∀{W:World},Below w.heap.size w W->W.cell? ⟨1,0,none⟩=some (.iface 379 (.pointer (some fp))):=fun hb=>(hb.cell (p:=⟨1,0,none⟩) (World.block_lt_of_cell? w _ hF)).trans hF
 refine y4l rs.length rs _ rfl w (hid HPA) (hid fun g cap W hr hb=> ?_);refine(y4k (by decide) hp hs1 hs2 hck hZ _ g rs.length cap fp W hr (hT.below hb hT.lt) (hFb hb) (hPw.below hb)).mono fun e w' he=> ?_
 have hl5:(pgG (toG rs)).2.length=5:=by have:=congrArg List.length p2;simpa using this
 have hl2:(pgG (toG rs)).1.length=2:=by rw[p1];rfl
 unfold pgG at hl5 p1 p2;obtain⟨hbw,h⟩:=he;rcases h with⟨h,_⟩|⟨_,h,_⟩|⟨_,_,Q,v,vn,vr,xs,B,rfl,hB,ho,hops,hq,hn,hro⟩
 ·exact h.elim
 ·omega
 ·rw[hl5]at ho
  rw[hl]at hro hn;obtain⟨go,oc,rfl,_,_,co⟩:=Bz ho (by omega);obtain⟨gr,rc,rfl,_,_,cr⟩:=Bz hro (by omega);obtain⟨nso,nc,rfl⟩:=Uv hn;refine⟨go,oc,nso,_,nc,gr,rc,rfl,cr 0 _ (by rw[p1];rfl),cr 1 _ (by rw[p1];rfl),?_,hbw⟩;obtain⟨c,⟨so,cap,hc,_⟩,hcx⟩:=hops 0 (by omega);have hx:xs[0*7+1]? =some (.string (mkG (fun T=>fdI T (nmL (toG rs))) (toG rs) []).2[0].2.1):=hcx 1 _ (by rw[hc];rfl);have ht:(mkG (fun T=>fdI T (nmL (toG rs))) (toG rs) []).2[0].2.1={data:=#[120]}:=by
   have h9:=congrArg (fun l=>l[0]?) p2;simp only[List.getElem?_map,List.getElem?_eq_getElem (show 0<(mkG (fun T=>fdI T (nmL (toG rs))) (toG rs) []).2.length by omega),Option.map_some]at h9;have h9:=Option.some.inj h9;apply ByteArray.ext;exact Array.toList_inj.1 h9
  rw[ht]at hx;exact co 1 _ hx
mutual
theorem z5B{ix ix':ByteArray->Int}:∀(t:RT),(∀y∈rfT t,ix y.1=ix' y.1)->∀ops:List Ox,mkT ix t ops=mkT ix' t ops
 | .mk k T a b c d s p,h,ops=>by
   rw[mkT,mkT];by_cases h5:k=5
   ·rw[if_pos h5,if_pos h5,h (T,p) (by rw[rfT,if_pos h5];exact List.mem_singleton.2 rfl)]
   ·rw[if_neg h5,if_neg h5,z5C s (fun y hy=>h y (by rw[rfT,if_neg h5];exact hy)) ops]
theorem z5C{ix ix':ByteArray->Int}:∀(s:List RT),(∀y∈rfL s,ix y.1=ix' y.1)->∀ops:List Ox,mkL ix s ops=mkL ix' s ops
 |[],_,ops=>by rw[mkL,mkL]
 |t::r,h,ops=>by
  rw[mkL,mkL,z5B t (fun y hy=>h y (by rw[rfL];exact List.mem_append.2 (.inl hy))) ops,z5C r (fun y hy=>h y (by rw[rfL];exact List.mem_append.2 (.inr hy)))]
end
theorem z5D{ix ix':ByteArray->Int}:∀(s:List Rr),(∀x∈s,∀y∈rfT x.2.1,ix y.1=ix' y.1)->∀ops:List Ox,mkG ix s ops=mkG ix' s ops
 |[],_,ops=>by rw[mkG,mkG]
 |x::r,h,ops=>by
  rw[mkG,mkG,z5B x.2.1 (h x List.mem_cons_self) ops,z5D r (fun y hy=>h y (List.mem_cons_of_mem _ hy))]
theorem y4n{s x:ByteArray}{l:List ByteArray}(h:inN s l=true):fdI s (l++[x])=fdI s l:=by
 unfold fdI;rw[if_pos h,if_pos (by rw[Sw,h];rfl),Sy,if_pos h]
theorem y4o{x:Rr}(hck:ckR rs=none):∃i l,(pgG (rs++[x])).1=(pgG rs).1++[i]/\(pgG (rs++[x])).2=(pgG rs).2++l:=by
 have e:mkG (fun T=>fdI T (nmL (rs++[x]))) rs []=mkG (fun T=>fdI T (nmL rs)) rs []:=by
  refine z5D rs (fun y hy z hz=> ?_) [];have h1:inN z.1 (nmL rs)=true:=Hp (Tl hck) z (Ah.2 ⟨y,hy,hz⟩);have h2:nmL (rs++[x])=nmL rs++[x.1]:=by unfold nmL;rw[List.map_append];rfl
  rw[h2];exact y4n h1
 unfold pgG;rw[Wh,e];obtain⟨_,_,l,hl⟩:=Wg (fun T=>fdI T (nmL (rs++[x]))) x.2.1 (mkG (fun T=>fdI T (nmL rs)) rs []).2;exact⟨_,l,rfl,hl⟩
end Go.Proofs.YtlogolpcipiceaaGreatDoor
