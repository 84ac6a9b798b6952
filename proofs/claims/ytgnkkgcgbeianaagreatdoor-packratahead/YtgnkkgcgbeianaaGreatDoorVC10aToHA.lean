/- Lemmas for the last text. Conditions: those that each names. -/
import Derived.Test.YtgnkkgcgbeianaaGreatDoorVC9
import Derived.Test.YtgnkkgcgbeianaaGreatDoorVPR1ToT11
import Derived.Test.YtgnkkgcgbeianaaGreatDoorVT3ToT14
import Derived.Test.YtgnkkgcgbeianaaGreatDoorVY14ToR1
import Derived.Deep.RegionHeld3
import Derived.Deep.AppendLies
import Derived.Deep.RegionLaw
import Derived.Deep.DeepCutAuto
import Derived.Test.YtgnkkgcgbeianaaGreatDoorVO22ToU2
import Derived.Test.YtgnkkgcgbeianaaGreatDoorVKPlainToX1
import Derived.Test.YtgnkkgcgbeianaaGreatDoorVX5ToX9
set_option linter.unusedVariables false
set_option maxRecDepth 100000
set_option maxHeartbeats 8000000
namespace Go.Proofs.YtgnkkgcgbeianaaGreatDoor
open Go.Proofs.Tryz
open Go.RowKit Go.Shelf Go.Maps
theorem z6u(h:Nat)(o:ByteArray)(n:Nd)(q:List Nd):sz (pS qT cT h o (n::q))=sz (pP qT cT h n)+sz (pB qT cT h o q):=by rw[pS,Xd];rfl
theorem y6j(h:Nat)(o:ByteArray)(n:Nd)(q:List Nd):sz (pB qT cT h o (n::q))=o.size+(sz (pP qT cT h n)+sz (pB qT cT h o q)):=by rw[pB,sz,Xd];rfl
theorem y6k(kd:Nat)(h:8<=kd)(o:kd<=12):1<=(bsg kd).size:=by
 have:kd=8∨kd=9∨kd=10∨kd=11∨kd=12:=by omega
 rcases this with rfl|rfl|rfl|rfl|rfl<;>decide
mutual
theorem Lj:∀(t:RT) (n:Nd),Tq t n->Vk n->ndT t<=2*sz (pN qT cT n)+1
 | .mk k T a b c d s p,.mk kd T' C s' p',hq,hv=>by
   rw[Tq]at hq;obtain⟨hk,hT,_,_,_,_,hl⟩:=hq;rw[Vk]at hv;rw[ndT];have A:s'=[]->ndL s=0:=fun e=>by
    subst e;cases s with
    |nil=>rw[ndL]
    |cons t r=>simp[TqL]at hl
   rcases hv.1 with⟨_,_,_,e⟩|⟨_,_,e⟩|⟨_,_,e⟩|⟨_,_,_,e⟩|⟨_,_,e⟩|⟨E,_,_,D⟩|⟨G,I,_,_,U⟩
   ·rw[A e];omega
   ·rw[A e];omega
   ·rw[A e];omega
   ·rw[A e];omega
   ·rw[A e];omega
   ·have Qm:∀h o,1<=o.size->1+ndL s<=2*sz (pS qT cT h o s')+1:=fun h o V=>by
     cases s with
     |nil=>cases s' with
      |nil=>simp at D
      |cons n q=>simp[TqL]at hl
     |cons t r=>
      cases s' with
      |nil=>simp[TqL]at hl
      |cons n q=>
       rw[TqL]at hl;have y:=hv.2;rw[VkL]at y;have Y:=Lj t n hl.1 y.1;have i2:=z6v r q h o V hl.2 y.2;have Z:=Kj h n;have i4:q.length=r.length:=hl.2.length';simp only[List.length_cons]at D;rw[ndL,z6u];omega
    rcases E with rfl|rfl
    ·rw[pN]
     simp only[Nat.reduceEqDiff,if_false,if_true];exact Qm 6 bSp (by decide)
    ·rw[pN]
     simp only[Nat.reduceEqDiff,if_false,if_true];exact Qm 7 bSl (by decide)
   ·have Qm:∀h o,ndL s<=2*sz (pS qT cT h o s')+1:=fun h o=>by
     cases s with
     |nil=>rw[ndL];omega
     |cons t r=>
      cases s' with
      |nil=>simp[TqL]at hl
      |cons n q=>
       rw[TqL]at hl;have y:=hv.2;rw[VkL]at y;have Y:=Lj t n hl.1 y.1;have Z:=Kj h n;have i4:q.length=r.length:=hl.2.length';simp only[List.length_cons]at U;have i5:r=[]:=List.eq_nil_of_length_eq_zero (by omega);rw[i5,ndL,ndL,z6u];omega
    have hb:=y6k kd G I;rw[pN,if_neg (by omega),if_neg (by omega),if_neg (by omega),if_neg (by omega),if_neg (by omega),if_neg (by omega),if_neg (by omega)];by_cases h11:kd=11∨kd=12
    ·rw[if_pos h11,sz]
     have:=Qm kd bE;omega
    ·rw[if_neg h11,Xd,sz,sz]
     have:=Qm kd bE;omega
theorem z6v:∀(s:List RT) (q:List Nd) (o:Nat) (y:ByteArray),1<=y.size->TqL s q->VkL q->ndL s+s.length<=2*sz (pB qT cT o y q)
 |[],_,_,_,_,_,_=>by rw[ndL];exact Nat.zero_le _
 |t::r,[],_,_,_,h,_=>by simp[TqL]at h
 |t::r,n::q,o,y,hs,h,hv=>by
  rw[TqL]at h;rw[VkL]at hv;have A:=Lj t n h.1 hv.1;have D:=z6v r q o y hs h.2 hv.2;have E:=Kj o n;rw[ndL,y6j,List.length_cons];omega
end
theorem wfU{a:Int}(h:0<=a/\a<18446744073709551616):(Lit.int .u64 a).wf=true:=WalkArith.wf_u64 (by omega)
theorem y6l(t:RT):1<=ndT t:=by
 cases t;rw[ndT];omega
theorem z6w:∀(s:List RT),s.length<=ndL s
 |[]=>by rw[ndL];exact Nat.le_refl _
 |t::r=>by
  have:=z6w r;have:=y6l t;rw[ndL,List.length_cons];omega
mutual
theorem z6x:∀(t:RT) (n:Nd),Tq t n->Vk n->okT t=true->RtU t->ndT t<=1048576->TrK t
 | .mk k T a b c d s p,.mk kd T' C s' p',hq,hv,hok,hu,hn=>by
   rw[Tq]at hq;obtain⟨D,E,_,_,_,_,hl⟩:=hq;rw[Vk]at hv;rw[okT,Bool.and_eq_true]at hok;have G:=y4n hok.1;rw[RtU]at hu;obtain⟨o,r,y,A,us⟩:=hu;rw[ndT]at hn;have I:=z6w s;have U:kd<=12:=by
    rcases hv.1 with⟨h,_⟩|⟨h,_⟩|⟨h,_⟩|⟨h,_⟩|⟨h,_⟩|⟨h|h,_⟩|⟨_,h,_⟩<;>omega
   rw[TrK];exact⟨⟨WalkArith.wf_i64 (by omega),by omega,wfU o,wfU r,wfU y,wfU A,by omega⟩,z6y s s' hl hv.2 hok.2 us (by omega)⟩
theorem z6y:∀(s:List RT) (q:List Nd),TqL s q->VkL q->okL s=true->Yz s->ndL s<=1048576->Fz s
 |[],_,_,_,_,_,_=>by rw[Fz];trivial
 |t::r,[],h,_,_,_,_=>by simp[TqL]at h
 |t::r,n::q,h,hv,hok,hu,hn=>by
  rw[TqL]at h;rw[VkL]at hv;rw[okL,Bool.and_eq_true]at hok;rw[Yz]at hu;rw[ndL]at hn;rw[Fz];exact⟨z6x t n h.1 hv.1 hok.1 hu.1 (by omega),z6y r q h.2 hv.2 hok.2 hu.2 (by omega)⟩
end
theorem y6m{rs:List Rr}(h:∀x∈rs,ndT x.2.1<=16373):ndG rs<=16373*rs.length:=by
 induction rs with
 |nil=>rw[ndG];exact Nat.zero_le _
 |cons x r ih=>
  have t:=h x List.mem_cons_self;have A:=ih fun y o=>h y (List.mem_cons_of_mem _ o)
  rw[ndG,List.length_cons];omega
theorem y6n{rs:List Rr}(h:PrG rs){x:Rr}(hx:x∈rs):x.1.size<=1073741824:=by
 obtain⟨r,ns,A,D,E,_⟩:=h;have t:=Fl r _ hx;have o:=t.1;unfold nmS at o;cases hb:bt x.1 0 with
 |none=>rw[hb]at o;cases o
 |some y=>
  rw[hb]at o;simp only[Bool.and_eq_true,decide_eq_true_eq]at o;omega
theorem z6z{rs:List Rr}(h:okG rs=true)(D:ckR rs=none)(o:PrG rs)(E:RgZ rs)(G:RgU rs):rs.length<=64/\(∀x∈rs,TrK x.2.1/\x.1.size<=1073741824)/\ndG rs<=1048576:=by
 have hl:=(Gc h).2;have r:∀x∈rs,ndT x.2.1<=16373/\TrK x.2.1:=fun x hx=>by
  obtain⟨h,_,⟨t,y,A,I,U,_⟩,_⟩:=z0q o D E hx;have V:=Lj _ t y A;exact⟨by omega,z6x _ t y A h (G x hx) (by omega)⟩
 have Y:=y6m fun x hx=>(r x hx).1
 refine⟨hl,fun x hx=>⟨(r x hx).2,?_⟩,by omega⟩;exact y6n o hx
theorem y6o(r:Option Addr)(n A:Nat)(rs:List Rr)(X:Option (Int ⊕ (Int×Int)))(B:Nat)(E:Addr)(w:World)(G:CkX rs X)(I:X=none->PrG rs)(Y:CkC r n A rs X w)(U:RgZ rs)(Z:RgU rs)(h:Qf w B r n rs)(D:B<=w.heap.size)(hT:TabIs w)(hF:w.cell? ⟨1,0,none⟩=some (.iface 363 (.pointer (some E))))(aa:Xp w)(W:World)(t:Below w.heap.size w W):
  Calls prog 15 #[.agg #[.slice r n A]] W (MaQ (fun T=>fdI T (nmL rs)) rs (soZ rs X≠none) W):=by
 refine y6i r n A rs (soZ rs X≠none) W (hid ((h.below (t.mono D)).upto (Nat.le_trans D t.size))) (hid h.1) (hid (aa.below t)) (hid fun W' ab=> ?_) (hid fun hE=> ?_)
 ·refine(z6h r n A rs X B E w G I Y U h D hT hF W' (t.trans (ab.mono t.size))).mono fun e w' he=> ?_
  obtain⟨v,rfl,y,V⟩:=he;by_cases o:soZ rs X=none
  ·rw[o]at y
   have y:v=.nilIface:=y;subst y;exact⟨.inr ⟨fun ac=>ac o,rfl⟩,V⟩
  ·obtain⟨tt,uu,rfl⟩:=y.shape o
   exact⟨.inl ⟨o,tt,uu,rfl⟩,V⟩
 ·have o:soZ rs X=none:=Classical.not_not.1 hE
  obtain rfl:X=none:=by
   cases X with
   |none=>rfl
   |some x=>unfold soZ at o;cases o
  obtain⟨ad,ae,_⟩:=G;obtain⟨h1,h2,h3⟩:=z6z ad ae (I rfl) U Z;exact⟨by have:=h.1;omega,h2,h3⟩
theorem y6p(S:ByteArray)(p x:Nat)(w:World)(y:bt S p=some x)(A:S.size<=9007199254740992)(D:x≠91)(t:Tok)(n:Nat)(o:Yh S p x=.inr (t,n)):
  Calls prog 57 #[.string S,.int .i64 p] w fun e w'=>e=.returned (.tuple #[tkv t,.int .i64 n,.nilIface])/\Below w.heap.size w w':=by
 unfold Yh at o;cases hl:Zw x with
 |true=>
  rw[hl]at o;refine(z9a S p x w y hl A).mono fun e w' h=> ?_
  unfold Gg at h;by_cases h3:32<ne S p-p
  ·rw[if_pos h3]at o;cases o
  ·rw[if_neg h3]at h;rw[if_neg h3]at o;cases o;simpa [tkv,Gz]using h
 |false=>
  rw[hl]at o;simp only[Bool.false_eq_true,if_false]at o;by_cases hq:x=39∨x=34
  ·rw[if_pos hq]at o
   refine(z9b S p x w y hq A).mono fun e w' h=> ?_
   cases hm:ll S x p (p+1) []with
   |inl c=>rw[hm]at o;cases o
   |inr r=>rw[hm]at h o;cases o;simpa [Dg,tkv,Gz]using h
  ·rw[if_neg hq,if_neg D]at o
   cases ha:arB S p with
   |true=>
    rw[ha]at o;have hx:x=60:=by unfold arB at ha;rw[y]at ha;simp at ha;exact ha.1
    refine(z9e S p x w y ha hx A).mono fun e w' h=> ?_
    cases o;simpa [tkv,tk7,Gz]using h
   |false=>
    rw[ha]at o;have E:x≠39/\x≠34/\x≠91:=by omega
    cases hm:mkB x with
    |true=>
     rw[hm]at o;refine(z9f S p x w y hl E ha hm A).mono fun e w' h=> ?_
     cases o;simpa [tkv,tk7,Gz]using h
    |false=>rw[hm]at o;cases o
theorem y6q(S:ByteArray)(w:World)(hS:S.size<=8192)(Z:(tkS S).isRight=true)(h9:∀p,bt S p≠some 91):
  Calls prog 34 #[.string S] w fun e w'=>z9m (tkS S) w e w':=by
 obtain⟨iT,aa,ab,ac,ad⟩:=info_parts Tryz.infoTok;have HO:=hid Z;have H9:=hid h9;obtain⟨R,G⟩:∃R,R=tks S (sb S 0) []:=⟨_,rfl⟩;have HA:Hid (tkS S=tkE S R):=by show _=_;rw[G];rfl
 have HR:Hid (tks S (sb S 0) []=R):=G.symm;have ak:=Mk (S:=S) (n:=0) (Nat.zero_le _);have HK:Hid (∀(k:Nat) (w:World),k<=S.size->Calls prog 56 #[.string S,.int .i64 k] w fun e w'=>e=.returned (.int .i64 ((sb S k:Nat):Int))/\w'=w):=fun k w hk=>z8V S k w hk (by omega)
 have c0:decide ((8192:Int)<(S.size:Int))=false:=by simp;omega
 clear G Z h9;go_enter func34,ntmps34
 go_wp2_with fail
 refine(HK.out 0 _ (Nat.zero_le _)).mono ?_;rintro e w1 ⟨rfl,ae⟩;rw[ae];clear ae
 go_wp2_with fail
 go_loopw [4,5] (fun v a wr=>∃(k:Nat) (acc:List Tok),a=.int .i64 k/\k<=S.size/\acc.length<=k/\Hid (tks S k acc=R)/\Hid (Lt w v acc wr)) (fun _ a _=>S.size-(intOf a).toNat)
 case atStart=>exact⟨sb S 0,[],rfl,ak.2,by simp,HR,hid ⟨hid B0q,hid (World.ownsRow_nil _ _ _ _)⟩⟩
 case round=>
  obtain⟨k,acc,rfl,aq,ar,o,h⟩:=hrel;clear HR c0;cases hb:bt S k with
  |none=>
   have al:=Xw hb;have a0:decide ((k:Int)<(S.size:Int))=false:=by simp;omega
   have I:Hid (tkS S=.inr (acc++[(6,{data:=#[]},0,S.size)])):=by
    show _=_;rw[HA.out,<-o.out,z9j al];rfl
   have U:w.heap.size<=wr.heap.size:=h.out.1.out.size;clear hb o
   go_wp2_with(first|(at_builtin;refine wpList_append_own _ rfl (.tmp 39) (.tmp 43) 89 rfl w.heap.size 139 iT (.agg #[.int .i64 0,.string ⟨#[]⟩,.int .u64 0,.int .u64 0,.int .u64 0,.int .u64 0,.int .i64 0]) 7 64 Tryz.underlying89 aa ab ac ad rfl (by decide) _ _ _ rfl (h.out.2.out.alloc _) ⟨wr.heap.size,0,none⟩ 1 1 (tvs [(6,{data:=#[]},0,S.size)]) rfl rfl (by simpa [tvs,Gz]using z1L wr _ _ _ _ _ _ _ 139) (z1M _ _ _ _ _ _ _) (by unfold maxLen;omega) (by omega) (by simp;omega) ?_;intro v3 V D E af))
   (try simp only[Exit.inBlock,Exit.then])
   refine bodyPost_ret (v:=.tuple #[v3,.nilIface]) (by simp[results,Tryz.results34,go_sem]) rfl ?_;rw[I.out];exact⟨_,rfl,hid (by rw[Mv,List.length_append];exact D),hid ((h.out.1.out.alloc U _).grown E (by simp;omega) (fun y e=>(h.out.2.out.lt y e).1))⟩
  |some x=>
   have au:=(Qp hb).1;have a0:decide ((k:Int)<(S.size:Int))=true:=by simp;omega
   cases ht:Yh S k x with
   |inl b=>
    have I:Hid (tkS S=.inl (wrg k b)):=by
     show _=_;rw[HA.out,<-o.out,z9k hb ht];rfl
    have h1:=HO.out;rw[I.out]at h1;cases h1
   |inr r=>
    obtain⟨t,n⟩:=r;obtain⟨q1,q2,q3,q4,q5,q6,q7⟩:=Kd hb ht;have ag:Hid (tks S (sb S n) (acc++[t])=R):=by show _=_;rw[<-o.out,z9l hb ht]
    have am:=Mk (S:=S) (n:=n) q2;have HT:Hid (∀w:World,Calls prog 57 #[.string S,.int .i64 k] w fun e w'=>e=.returned (.tuple #[tkv t,.int .i64 n,.nilIface])/\Below w.heap.size w w'):=fun w=>y6p S k x w hb (by omega) (fun e=>H9.out k (e▸hb)) t n ht
    clear hb ht o
    go_wp2_with fail
    refine(HT.out _).mono ?_;rintro e Y ⟨rfl,ah⟩;have A:=hid (h.out.keep ah);clear ah h HT;obtain⟨kd,T,C,p⟩:=t;have ai:p=k:=q4;rw[ai]at ag ⊢;clear q4 ai;dsimp only[tkv];have U:w.heap.size<=Y.heap.size:=A.out.1.out.size
    go_wp2_with(first|(at_builtin;refine wpList_append_own _ rfl (.tmp 32) (.tmp 34) 89 rfl w.heap.size 139 iT (.agg #[.int .i64 0,.string ⟨#[]⟩,.int .u64 0,.int .u64 0,.int .u64 0,.int .u64 0,.int .i64 0]) 7 64 Tryz.underlying89 aa ab ac ad rfl (by decide) _ _ _ rfl ((A.out.2.out.alloc _).alloc _) ⟨Y.heap.size+1,0,none⟩ 1 1 (tvs [(kd,T,C,k)]) rfl rfl (by have:=z1L (Y.alloc (.cells #[.int .i64 kd,.string T,.int .u64 (wd C 0),.int .u64 (wd C 1),.int .u64 (wd C 2),.int .u64 (wd C 3),.int .i64 k] 139));simpa [tvs]using this _ _ _ _ _ _ _ 139) (z1M _ _ _ _ _ _ _) (by unfold maxLen;omega) (by omega) (by simp;omega) ?_;intro v3 V D E af))
    have ao:Hid (Lt w v3 (acc++[(kd,T,C,k)]) V):=by
     refine⟨hid (((A.out.1.out.alloc U _).alloc (by simp;omega) _).grown E (by simp;omega) (fun y e=>(A.out.2.out.lt y e).1)),hid ?_⟩;rw[Mv,List.length_append];exact D
    clear D E af A;have ap:=hid (HK.out n V q2);refine ap.out.mono ?_;rintro e w4 ⟨rfl,aj⟩;rw[aj];clear aj
    go_wp2_with fail
    go_roundw
    case rel=>exact⟨sb S n,acc++[(kd,T,C,k)],rfl,am.2,by simp;omega,ag,ao⟩
    case measure=>simp[intOf];omega
theorem y6r(S:ByteArray)(rs:List Rl)(w:World)(hS:S.size<=8192)(h9:∀p,bt S p≠some 91)(h:Vb S=.inr rs):
  Calls prog 17 #[.string S] w fun e w'=>Nz (.inr rs) w e w':=by
 unfold Vb at h;cases hs:tkS S with
 |inl c=>rw[hs]at h;cases h
 |inr L=>
  have A:=hid (y6q S (w.alloc Zg) hS (by rw[hs];rfl) h9);rw[hs]at h;have h:Vg L=.inr rs:=h;have D:=z9Z hs hS;have HG:Hid (Ql L):=D.1;have E:=D.2;rw[hs]at A;clear hs D h9;go_enter func17,ntmps17
  go_wp2_with fail
  refine A.out.mono ?_;rintro e I ⟨v,rfl,U,HB⟩;obtain⟨g,ac,hv⟩:=Gx U.out E;subst hv;have V:=hid (z9W _ _ L I U.out HG.out E);have Y:Hid (Below (w.heap.size+1) (w.alloc Zg) I):=by have:=HB.out;simp at this;exact this
  obtain⟨n,hn⟩:∃n,n=L.length:=⟨_,rfl⟩;rw[<-hn]at V ⊢;clear hn U HB A E HG
  go_wp2_with fail
  refine V.out.mono ?_;clear V;rw[h];have ad:=hid h;clear h;rintro e y ⟨o,r,rfl,Z,ab⟩;obtain⟨m,t⟩:∃m,m=rs.length:=⟨_,rfl⟩;have HM:Hid (m=rs.length):=t;rw[<-t]at Z ⊢;clear t;have ae:w.heap.size+1<=I.heap.size:=by have h2:=Y.out.size;simp at h2;omega
  have aa:Hid (Below (w.heap.size+1) (w.alloc Zg) y):=Y.out.trans (ab.out.mono (by omega));have HA:Hid (Nz (.inr rs) w (.returned (.tuple #[.agg #[.slice (some ⟨o,0,none⟩) m r],.nilIface])) (y.setCell ⟨w.heap.size,0,none⟩ (.slice (some ⟨o,0,none⟩) m r))):=by
   have hr:=Z.out.grown (G.setR (u:=.slice (some ⟨o,0,none⟩) m r) (j:=0) (G.refl y w.heap.size)) (by omega);have t:=HM.out;subst t;exact⟨o,r,rfl,hid (hr.low (by omega)),hid (z2l aa.out).2.2⟩
  have HQ:Hid (y.heap[w.heap.size]? =some Zg):=(z2l (x:=.nilIface) aa.out).1;obtain⟨e0,y0⟩:=Qw HQ.out;have af:=Qq HQ.out;clear Z Y aa ab
  go_wp2_with fail
  (try simp only[Exit.inBlock,Exit.then])
  refine bodyPost_ret (v:=.tuple #[.agg #[.slice (some ⟨o,0,none⟩) m r],.nilIface]) (by simp[results,Tryz.results17,go_sem,e0]) rfl ?_;exact HA.out
theorem Lk(C i:Nat):(0:Int)<=(wd C i:Nat)/\((wd C i:Nat):Int)<18446744073709551616:=by
 have:=Xk C i;omega
mutual
theorem z6A:∀n:Nd,RtU (toR n)
 | .mk kd T C s p=>by rw[toR,RtU];exact⟨Lk C 0,Lk C 1,Lk C 2,Lk C 3,z6B s⟩
theorem z6B:∀s:List Nd,Yz (Vh s)
 |[]=>by rw[Vh,Yz];trivial
 |n::r=>by rw[Vh,Yz];exact⟨z6A n,z6B r⟩
end
theorem y6s{S:ByteArray}{rs:List Rl}(h:Vb S=.inr rs)(o:sz (pR qT cT rs)<=8192)(r:dR rs<=24):PrG (toG rs):=by
 have hx:∀x∈rs,Ruk Nmq x:=fun x hx=>(Tg h x hx).1
 have hl:=Wp h;exact⟨Wl (Gm rs) hx hl.2 hl.1,rs,Gm rs,hx,o,r⟩
theorem y6t{us:List (List Int)}(h:∀i x:Nat,(x:Int)∈us.getD i []->i<x){x i:Nat}(o:Rch us x i):x<=i:=by
 induction o with
 |refl=>exact Nat.le_refl _
 |step _ hm ih=>exact Nat.le_trans ih (Nat.le_of_lt (h _ _ hm))
theorem y6u{us:List (List Int)}(h:∀i x:Nat,(x:Int)∈us.getD i []->i<x)(i:Nat):¬Bck us i:=fun⟨x,hx,o⟩=>by
 have r:=h i x hx;have t:=y6t h o;omega
def pgG(rs:List Rr):List Int×List Ox:=mkG (fun T=>fdI T (nmL rs)) rs []
theorem Lv{W:World}{B e size n:Nat}{v:Value}{xs:List Value}(h:W.ownsRow B e size v n xs)(r:0<n):∃g c,v=.slice (some ⟨g,0,none⟩) n c/\B<=g/\g<W.heap.size/\∀i u,xs[i]? =some u->W.cell? ⟨g,i,none⟩=some u:=by
 obtain⟨g,c,rfl,t,y⟩:=h.form r;refine⟨g,c,rfl,t,y,fun i u A=> ?_⟩;have o:=h.cells (g:=g) rfl i u A;have D:(⟨g,0,none⟩:Addr).add i=⟨g,i,none⟩:=by unfold Addr.add;split<;>simp_all
 rw[D]at o;exact o
theorem y6v{s:List UInt8}:∀{l},inA s l=false->s ∉ l
 |l,h,hm=>by rw[z3N hm]at h;cases h
def Onc(m:Int)(ops:List Ox):Prop:=(ops.map qB).Nodup/\∀i (hi:i<ops.length),∀x∈ops[i].2.2.2,0<=x/\x<if ops[i].1=5 then m else(i:Int)
theorem z6C{m:Int}{ops:List Ox}{o:Ox}(h:Onc m ops)(y:∀x∈o.2.2.2,0<=x/\x<if o.1=5 then m else(ops.length:Int)):Onc m (plO o ops).2:=by
 unfold plO;split
 ·exact h
 ·rename_i t
  have t:inA (qB o) (ops.map qB)=false:=by simpa using t
  refine⟨?_,fun i r=> ?_⟩
  ·show((ops++[o]).map qB).Nodup
   rw[List.map_append,List.nodup_append];refine⟨h.1,by simp,fun a ha b A e=> ?_⟩;obtain rfl:b=qB o:=by simpa using A
   exact y6v t (e▸ha)
  ·have r:i<(ops++[o]).length:=r
   rw[List.length_append]at r;show ∀x∈(ops++[o])[i].2.2.2,0<=x/\x<if(ops++[o])[i].1=5 then m else(i:Int)
   by_cases e:i<ops.length
   ·rw[List.getElem_append_left e]
    exact h.2 i e
   ·obtain rfl:i=ops.length:=by simp at r;omega
    rw[List.getElem_append_right L0q];simp only[Nat.sub_self,List.getElem_cons_zero];exact y
mutual
theorem z6D{ix:ByteArray->Int}{m:Int}:∀(t:RT),(∀y∈rfT t,0<=ix y.1/\ix y.1<m)->∀ops:List Ox,Onc m ops->Onc m (mkT ix t ops).2
 | .mk k T a b c d s p,hr,ops,h=>by
   rw[mkT];by_cases h5:k=5
   ·rw[if_pos h5]
    refine z6C h fun x hx=> ?_
    obtain rfl:x=ix T:=by simpa using hx
    rw[if_pos rfl];exact hr (T,p) (by rw[rfT,if_pos h5];exact List.mem_singleton.2 rfl)
   ·rw[if_neg h5]
    have o:=z6E s (fun y r=>hr y (by rw[rfT,if_neg h5];exact r)) ops h;refine z6C o fun x hx=> ?_
    have:=(Dx ix s ops).2.1.2 x hx;rw[if_neg h5];exact this
theorem z6E{ix:ByteArray->Int}{m:Int}:∀(s:List RT),(∀y∈rfL s,0<=ix y.1/\ix y.1<m)->∀ops:List Ox,Onc m ops->Onc m (mkL ix s ops).2
 |[],_,ops,h=>by rw[mkL];exact h
 |t::r,hr,ops,h=>by
  rw[mkL];exact z6E r (fun y o=>hr y (by rw[rfL];exact List.mem_append.2 (.inr o))) _ (z6D t (fun y o=>hr y (by rw[rfL];exact List.mem_append.2 (.inl o))) ops h)
end
theorem z6F{ix:ByteArray->Int}{m:Int}:∀(s:List Rr),(∀x∈s,∀y∈rfT x.2.1,0<=ix y.1/\ix y.1<m)->∀ops:List Ox,Onc m ops->Onc m (mkG ix s ops).2
 |[],_,ops,h=>by rw[mkG];exact h
 |x::r,hr,ops,h=>by
  rw[mkG];exact z6F r (fun y o=>hr y (List.mem_cons_of_mem _ o)) _ (z6D x.2.1 (hr x List.mem_cons_self) ops h)
theorem y6w{rs:List Rr}(o:ckR rs=none):Onc (rs.length:Int) (pgG rs).2:=by
 refine z6F rs (fun x hx y r=> ?_) [] ⟨by simp,fun i t=>by simp at t⟩;have h:inN y.1 (nmL rs)=true:=Al (Iw o) y (Ny.2 ⟨x,hx,r⟩);have A:=Fm y.1 (nmL rs) h;have D:(nmL rs).length=rs.length:=by unfold nmL;rw[List.length_map]
 show 0<=fdI y.1 (nmL rs)/\fdI y.1 (nmL rs)<_;unfold fdI;rw[if_pos h];omega
theorem y6x{W:World}{B e size n:Nat}{v:Value}{xs:List Value}{r:Option Addr}{c:Nat}(h:W.ownsRow B e size v n xs)(o:v=.slice r n c):n<=c:=by
 rcases h.2 with⟨y,A⟩|⟨g,D,cur,t,E,G,I,U⟩
 ·omega
 ·rw[t]at o
  injection o with _ _ e3
  omega
section
def cl4(a b c d:Int):Nat:=cls a.toNat b.toNat c.toNat d.toNat
section
variable (K:ByteArray->Ot)
end
end
section
inductive Jb where
 |one (t:RT)
 |row (s:List RT)
 |alt (s:List RT)
 |rep (t:RT)
def Ud(N T:ByteArray)(at':Nat):Bool:=Lib.hasPrefix (T.extract at' T.size).data.toList N.data.toList
def Xb(C:Nat)(T:ByteArray)(at':Nat):Bool:=match T.data[at']? with
 |some x=>C.testBit x.toNat
 |none=>false
def Zp(b:Bool)(e:Nat):Option Nat:=if b then some e else none
section
variable (B:ByteArray->Option RT) (T:ByteArray)
inductive Mt:Jb->Nat->Option Nat->Nat->Prop
 |emp {N a b c d s p i}:Mt (.one (.mk 1 N a b c d s p)) i (some i) 1
 |lit {N a b c d s p i}:Mt (.one (.mk 2 N a b c d s p)) i (Zp (Ud N T i) (i+N.size)) 1
 |set {N a b c d s p i}:Mt (.one (.mk 3 N a b c d s p)) i (Zp (Xb (cl4 a b c d) T i) (i+1)) 1
 |any {N a b c d s p i}:Mt (.one (.mk 4 N a b c d s p)) i (Zp (Xb Jy T i) (i+1)) 1
 |ref {N a b c d s p i t e n}:B N=some t->Mt (.one t) i e n->Mt (.one (.mk 5 N a b c d s p)) i e (n+1)
 |seq {N a b c d s p i e n}:Mt (.row s) i e n->Mt (.one (.mk 6 N a b c d s p)) i e (n+1)
 |cho {N a b c d s p i e n}:Mt (.alt s) i e n->Mt (.one (.mk 7 N a b c d s p)) i e (n+1)
 |opt {N a b c d t r p i e n}:Mt (.one t) i e n->Mt (.one (.mk 8 N a b c d (t::r) p)) i (some (e.getD i)) (n+1)
 |star {N a b c d t r p i e n}:Mt (.rep t) i e n->Mt (.one (.mk 9 N a b c d (t::r) p)) i e (n+1)
 |plus_no {N a b c d t r p i n}:Mt (.one t) i none n->Mt (.one (.mk 10 N a b c d (t::r) p)) i none (n+1)
 |plus_ok {N a b c d t r p i x e n m}:Mt (.one t) i (some x) n->Mt (.rep t) x e m->Mt (.one (.mk 10 N a b c d (t::r) p)) i e (n+m+1)
 |and {N a b c d t r p i e n}:Mt (.one t) i e n->Mt (.one (.mk 11 N a b c d (t::r) p)) i (Zp e.isSome i) (n+1)
 |not {N a b c d t r p i e n}:Mt (.one t) i e n->Mt (.one (.mk 12 N a b c d (t::r) p)) i (Zp e.isNone i) (n+1)
 |row_nil {i}:Mt (.row []) i (some i) 0
 |row_no {t r i n}:Mt (.one t) i none n->Mt (.row (t::r)) i none n
 |row_ok {t r i x e n m}:Mt (.one t) i (some x) n->Mt (.row r) x e m->Mt (.row (t::r)) i e (n+m)
 |alt_nil {i}:Mt (.alt []) i none 0
 |alt_ok {t r i x n}:Mt (.one t) i (some x) n->Mt (.alt (t::r)) i (some x) n
 |alt_no {t r i e n m}:Mt (.one t) i none n->Mt (.alt r) i e m->Mt (.alt (t::r)) i e (n+m)
 |rep_end {t i n}:Mt (.one t) i none n->Mt (.rep t) i (some i) n
 |rep_go {t i x e n m}:Mt (.one t) i (some x) n->Mt (.rep t) x e m->Mt (.rep t) i e (n+m)
end
variable {B:ByteArray->Option RT} {T:ByteArray}
theorem y6y(T:ByteArray)(i:Nat):(T.extract i T.size).data.toList=T.data.toList.drop i:=by
 have h:(T.extract i T.size).data=T.data.extract i T.size:=by
  rw[ByteArray.data_extract]
 rw[h,Array.toList_extract];show List.extract T.data.toList i T.size=_;rw[List.extract_eq_take_drop];exact List.take_of_length_le (by rw[List.length_drop];exact Nat.le_refl _)
theorem Lw(N T:ByteArray)(i:Nat):Ud N T i=Lib.hasPrefix (T.data.toList.drop i) N.data.toList:=by
 unfold Ud;rw[y6y]
theorem Lf{N T:ByteArray}{i:Nat}(r:i<=T.size)(h:Ud N T i=true):i+N.size<=T.size:=by
 rw[Lw]at h;have o:=(List.isPrefixOf_iff_prefix.1 h).length_le;rw[List.length_drop]at o;have t:N.data.toList.length=N.size:=rfl;have y:T.data.toList.length=T.size:=rfl;omega
theorem Bw{C:Nat}{T:ByteArray}{i:Nat}(h:Xb C T i=true):i<T.size:=by
 unfold Xb at h;rcases Nat.lt_or_ge i T.size with o|o
 ·exact o
 ·rw[Array.getElem?_eq_none o]at h
  cases h
theorem Lg{j:Jb}{i:Nat}{e:Option Nat}{n:Nat}(h:Mt B T j i e n):i<=T.size->∀x,e=some x->i<=x/\x<=T.size:=by
 induction h with
 |emp|row_nil=>intro o x hx;cases hx;exact⟨Nat.le_refl _,o⟩
 |lit=>
  intro o x hx;unfold Zp at hx;split at hx
  ·rename_i h
   cases hx;exact⟨Nat.le_add_right _ _,Lf o h⟩
  ·cases hx
 |set|any=>
  intro o x hx;unfold Zp at hx;split at hx
  ·rename_i h
   cases hx;exact⟨Nat.le_add_right _ _,Bw h⟩
  ·cases hx
 |ref _ _ ih=>exact ih
 |seq _ ih|cho _ ih|star _ ih=>exact ih
 |alt_ok _ ih=>exact ih
 |opt _ ih=>
  intro o x hx;cases hx;rename_i e _ _;cases e with
  |none=>exact⟨Nat.le_refl _,o⟩
  |some y=>exact ih o y rfl
 |plus_no|row_no|alt_nil=>intro o x hx;cases hx
 |plus_ok _ _ ih1 ih2|row_ok _ _ ih1 ih2|rep_go _ _ ih1 ih2=>
  intro o x hx;obtain⟨r,t⟩:=ih1 o _ rfl;obtain⟨A,D⟩:=ih2 t x hx;exact⟨Nat.le_trans r A,D⟩
 |and _ ih|not _ ih=>
  intro o x hx;unfold Zp at hx;split at hx
  ·cases hx;exact⟨Nat.le_refl _,o⟩
  ·cases hx
 |alt_no _ _ _ ih=>exact ih
 |rep_end _ ih=>intro o x hx;cases hx;exact⟨Nat.le_refl _,o⟩
theorem y6z(A N T:ByteArray)(i:Nat):Ud N (A++T) (A.size+i)=Ud N T i:=by
 rw[Lw,Lw];have e:(A++T).data.toList=A.data.toList++T.data.toList:=by rw[ByteArray.data_append,Array.toList_append]
 rw[e,show A.size=A.data.toList.length from rfl,List.drop_append,List.drop_of_length_le (Nat.le_add_right _ _),List.nil_append,Nat.add_sub_cancel_left]
theorem z6G(C:Nat)(A T:ByteArray)(i:Nat):Xb C (A++T) (A.size+i)=Xb C T i:=by
 unfold Xb;have e:(A++T).data[A.size+i]? =T.data[i]? :=by
  rw[ByteArray.data_append,show A.size=A.data.size from rfl,Array.getElem?_append_right (Nat.le_add_right _ _),Nat.add_sub_cancel_left]
 rw[e]
theorem y6A(b:Bool)(x m:Nat):Zp b (m+x)=(Zp b x).map (m+ ·):=by
 cases b<;>rfl
end
section
def okO(o:Ot)(i:Nat):Option Nat->Prop
 |none=>o.2.2=true
 |some e=>i<=e/\(e=i->o.1=true)/\(i<e->o.2.1=true)
def y6B(o:Ot)(i:Nat):Option Nat->Prop
 |none=>False
 |some e=>i<=e/\(e=i->o.2.2=true)/\(i<e->o.2.1=true)
def Okj(K:ByteArray->Ot):Jb->Nat->Option Nat->Prop
 | .one t,i,e=>okO (ofT K t) i e
 | .row s,i,e=>∀(acc:Ot) (i0:Nat),i0<=i->(i=i0->acc.1=true)->(i0<i->acc.2.1=true)->okO (ofS K acc s) i0 e
 | .alt s,i,e=>∀acc:Ot,acc.2.2=true->okO (ofA K acc s) i e
 | .rep t,i,e=>y6B (ofT K t) i e
theorem z6H(K:ByteArray->Ot):∀(s:List RT) (a:Ot),a.2.2=true->(ofS K a s).2.2=true
 |[],a,h=>by rw[ofS];exact h
 |t::r,a,h=>by rw[ofS];exact z6H K r _ (by simp[Jd,h])
theorem z6I(K:ByteArray->Ot):∀(s:List RT) (a:Ot),a.1=true->(ofA K a s).1=true
 |[],a,h=>by rw[ofA];exact h
 |t::r,a,h=>by rw[ofA];exact z6I K r _ (by simp[Jk,h])
theorem z6J(K:ByteArray->Ot):∀(s:List RT) (a:Ot),a.2.1=true->(ofA K a s).2.1=true
 |[],a,h=>by rw[ofA];exact h
 |t::r,a,h=>by rw[ofA];exact z6J K r _ (by simp[Jk,h])
theorem y6C{N T:ByteArray}{i:Nat}(h:N.size=0):Ud N T i=true:=by
 rw[Lw];have:N.data.toList=[]:=List.length_eq_zero_iff.1 h;rw[this];exact List.isPrefixOf_iff_prefix.2 (List.nil_prefix)
theorem y6D:cl4 0 0 0 0=0:=by decide
theorem z0C{b:Bool}{i m:Nat}{o:Ot}(r:b=false->o.2.2=true)(h:b=true->(m=0->o.1=true)/\(0<m->o.2.1=true)):okO o i (Zp b (i+m)):=by
 unfold Zp;cases b with
 |true=>exact⟨by omega,fun e=>(h rfl).1 (by omega),fun e=>(h rfl).2 (by omega)⟩
 |false=>exact r rfl
variable {B:ByteArray->Option RT} {T:ByteArray} {K:ByteArray->Ot}
theorem Lb(hB:∀N t,B N=some t->ofT K t=K N){j:Jb}{i:Nat}{e:Option Nat}{n:Nat}(h:Mt B T j i e n):Okj K j i e:=by
 induction h with
 |emp=>exact⟨Nat.le_refl _,fun _=>by rw[ofT];rfl,fun h=>absurd h (Nat.lt_irrefl _)⟩
 | @lit N a b c d s p i=>
   simp only[Okj];rw[ofT];by_cases o:N.size=0
   ·rw[y6C o,o];exact⟨Nat.le_refl _,fun _=>by simp,fun h=>absurd h (by simp)⟩
   ·refine z0C (fun _=>by simp[o]) (fun _=>⟨fun h=>absurd h o,fun _=>by simp[o]⟩)
 | @set N a b c d s p i=>
   simp only[Okj];rw[ofT];by_cases o:a=0/\b=0/\c=0/\d=0
   ·obtain⟨rfl,rfl,rfl,rfl⟩:=o
    have:Xb (cl4 0 0 0 0) T i=false:=by
     unfold Xb;rw[y6D];cases T.data[i]? <;>simp
    rw[this]
    (show Prod.snd (Prod.snd _)=true;simp)
   ·refine z0C (fun _=>by simp[o]) (fun _=>⟨fun h=>by omega,fun _=>by simp[o]⟩)
 |any=>exact z0C (fun _=>by rw[ofT];rfl) (fun _=>⟨fun h=>by omega,fun _=>by rw[ofT];rfl⟩)
 |ref A _ ih=>
  have D:=hB _ _ A;simp only[Okj]at ih ⊢;rw[D]at ih;rw[ofT];exact ih
 |seq _ ih=>
  have:=ih (true,false,false) _ L0q (fun _=>rfl) (fun h=>absurd h (Nat.lt_irrefl _));simp only[Okj];rw[ofT];exact this
 |cho _ ih=>
  have:=ih (false,false,true) rfl;simp only[Okj];rw[ofT];exact this
 | @opt N a b c d t r p i e n _ ih=>
   simp only[Okj]at ih ⊢;rw[ofT,ofH];cases e with
   |none=>exact⟨Nat.le_refl _,fun _=>by have:(ofT K t).2.2=true:=ih;simp[Zh,this],fun h=>absurd h (Nat.lt_irrefl _)⟩
   |some x=>exact⟨ih.1,fun h=>by simp[Zh,ih.2.1 h],fun h=>by simp[Zh,ih.2.2 h]⟩
 | @star N a b c d t r p i e n _ ih=>
   simp only[Okj]at ih ⊢;rw[ofT,ofH];cases e with
   |none=>exact ih.elim
   |some x=>exact⟨ih.1,fun h=>by simp[Zh,ih.2.1 h],fun h=>by simp[Zh,ih.2.2 h]⟩
 | @plus_no N a b c d t r p i n _ ih=>
   simp only[Okj]at ih ⊢;rw[ofT,ofH];have:(ofT K t).2.2=true:=ih
   (show Prod.snd (Prod.snd _)=true;simp[Zh,this])
 | @plus_ok N a b c d t r p i x e n m _ _ ih1 ih2=>
   simp only[Okj]at ih1 ih2 ⊢;rw[ofT,ofH];cases e with
   |none=>exact ih2.elim
   |some y=>
    obtain⟨a1,a2,a3⟩:=ih1;obtain⟨G,I,U⟩:=ih2;refine⟨Nat.le_trans a1 G,fun h=> ?_,fun h=> ?_⟩
    ·have A:x=i:=by omega
     simp[Zh,a2 A,I (by omega)]
    ·have:(ofT K t).2.1=true:=by
      by_cases hx:i<x
      ·exact a3 hx
      ·exact U (by omega)
     simp[Zh,this]
 | @and N a b c d t r p i e n _ ih=>
   simp only[Okj]at ih ⊢;rw[ofT,ofH];cases e with
   |none=>(show Prod.snd (Prod.snd _)=true;have:(ofT K t).2.2=true:=ih;simp[Zh,this])
   |some x=>
    refine⟨Nat.le_refl _,fun _=> ?_,fun h=>absurd h (Nat.lt_irrefl _)⟩;have:suc (ofT K t)=true:=by
     unfold suc;rcases Nat.lt_or_ge i x with h|h
     ·rw[ih.2.2 h,Bool.or_true]
     ·rw[ih.2.1 (Nat.le_antisymm h ih.1),Bool.true_or]
    simp[Zh,this]
 | @not N a b c d t r p i e n _ ih=>
   simp only[Okj]at ih ⊢;rw[ofT,ofH];cases e with
   |none=>exact⟨Nat.le_refl _,fun _=>by have:(ofT K t).2.2=true:=ih;simp[Zh,this],fun h=>absurd h (Nat.lt_irrefl _)⟩
   |some x=>
    have:suc (ofT K t)=true:=by
     unfold suc;rcases Nat.lt_or_ge i x with h|h
     ·rw[ih.2.2 h,Bool.or_true]
     ·rw[ih.2.1 (Nat.le_antisymm h ih.1),Bool.true_or]
    (show Prod.snd (Prod.snd _)=true;simp[Zh,this])
 |row_nil=>
  intro acc E o A D;rw[ofS];exact⟨o,A,D⟩
 | @row_no t r i n _ ih=>
   intro acc E o A D;rw[ofS];have V:(ofT K t).2.2=true:=ih;have Y:suc acc=true:=by
    unfold suc;rcases Nat.lt_or_ge E i with h|h
    ·rw[D h,Bool.or_true]
    ·rw[A (by omega),Bool.true_or]
   show Prod.snd (Prod.snd _)=true;exact z6H K r _ (by simp[Jd,V,Y])
 | @row_ok t r i x e n m _ _ ih1 ih2=>
   intro acc E o A D;rw[ofS];obtain⟨a1,a2,a3⟩:=ih1;have Y:suc (ofT K t)=true:=by
    unfold suc;rcases Nat.lt_or_ge i x with h|h
    ·rw[a3 h,Bool.or_true]
    ·rw[a2 (by omega),Bool.true_or]
   refine ih2 _ E (by omega) (fun h=> ?_) (fun h=> ?_)
   ·simp[Jd,A (by omega),a2 (by omega)]
   ·rcases Nat.lt_or_ge E i with Z|Z
    ·simp[Jd,D Z,Y]
    ·simp[Jd,A (by omega),a3 (by omega)]
 |alt_nil=>
  intro acc h;rw[ofA];exact h
 | @alt_ok t r i x n _ ih=>
   intro acc h;rw[ofA];obtain⟨a1,a2,a3⟩:=ih;exact⟨a1,fun e=>z6I K r _ (by simp[Jk,h,a2 e]),fun e=>z6J K r _ (by simp[Jk,h,a3 e])⟩
 | @alt_no t r i e n m _ _ ih1 ih2=>
   intro acc h;rw[ofA];have V:(ofT K t).2.2=true:=ih1;exact ih2 _ (by simp[Jk,h,V])
 |rep_end _ ih=>exact⟨Nat.le_refl _,fun _=>ih,fun h=>absurd h (Nat.lt_irrefl _)⟩
 | @rep_go t i x e n m _ _ ih1 ih2=>
   simp only[Okj]at ih1 ih2 ⊢;cases e with
   |none=>exact ih2.elim
   |some y=>
    obtain⟨a1,a2,a3⟩:=ih1;obtain⟨G,I,U⟩:=ih2;refine⟨Nat.le_trans a1 G,fun h=>I (by omega),fun h=> ?_⟩;by_cases hx:i<x
    ·exact a3 hx
    ·exact U (by omega)
end
end Go.Proofs.YtgnkkgcgbeianaaGreatDoor
