/- Lemmas for the last text. Conditions: those that each names. -/
import Derived.Test.YtlogolpcipiceaaGreatDoorVC9
import Derived.Test.YtlogolpcipiceaaGreatDoorVPR1ToT11
import Derived.Test.YtlogolpcipiceaaGreatDoorVT3ToT14
import Derived.Test.YtlogolpcipiceaaGreatDoorVY15ToR1
set_option linter.unusedVariables false
set_option maxRecDepth 100000
set_option maxHeartbeats 8000000
namespace Go.Proofs.YtlogolpcipiceaaGreatDoor
open Go.Proofs.Tryz
open Go.RowKit Go.Shelf Go.Maps
theorem z4M(over:Nat)(sep:ByteArray)(n:Nd)(q:List Nd):sz (pS qT cT over sep (n::q))=sz (pP qT cT over n)+sz (pB qT cT over sep q):=by rw[pS,Xl];rfl
theorem y3k(over:Nat)(sep:ByteArray)(n:Nd)(q:List Nd):sz (pB qT cT over sep (n::q))=sep.size+(sz (pP qT cT over n)+sz (pB qT cT over sep q)):=by rw[pB,sz,Xl];rfl
theorem y3l(kd:Nat)(h8:8<=kd)(h12:kd<=12):1<=(bsg kd).size:=by
 have:kd=8∨kd=9∨kd=10∨kd=11∨kd=12:=by omega
 rcases this with rfl|rfl|rfl|rfl|rfl<;>decide
mutual
theorem Hy:∀(t:RT) (n:Nd),Tq t n->Vk n->ndT t<=2*sz (pN qT cT n)+1
 | .mk k T a b c d s p,.mk kd T' C s' p',hq,hv=>by
   rw[Tq]at hq;obtain⟨hk,hT,_,_,_,_,hl⟩:=hq;rw[Vk]at hv;rw[ndT];have h0:s'=[]->ndL s=0:=fun e=>by
    subst e;cases s with
    |nil=>rw[ndL]
    |cons t r=>simp[TqL]at hl
   rcases hv.1 with⟨_,_,_,e⟩|⟨_,_,e⟩|⟨_,_,e⟩|⟨_,_,_,e⟩|⟨_,_,e⟩|⟨h67,_,_,h2⟩|⟨h8,h12,_,_,h1⟩
   ·rw[h0 e];omega
   ·rw[h0 e];omega
   ·rw[h0 e];omega
   ·rw[h0 e];omega
   ·rw[h0 e];omega
   ·have Qg:∀over sep,1<=sep.size->1+ndL s<=2*sz (pS qT cT over sep s')+1:=fun over sep hs=>by
     cases s with
     |nil=>cases s' with
      |nil=>simp at h2
      |cons n q=>simp[TqL]at hl
     |cons t r=>
      cases s' with
      |nil=>simp[TqL]at hl
      |cons n q=>
       rw[TqL]at hl;have hvl:=hv.2;rw[VkL]at hvl;have i1:=Hy t n hl.1 hvl.1;have i2:=z4N r q over sep hs hl.2 hvl.2;have i3:=Dv over n;have i4:q.length=r.length:=hl.2.length';simp only[List.length_cons]at h2;rw[ndL,z4M];omega
    rcases h67 with rfl|rfl
    ·rw[pN]
     simp only[Nat.reduceEqDiff,if_false,if_true];exact Qg 6 bSp (by decide)
    ·rw[pN]
     simp only[Nat.reduceEqDiff,if_false,if_true];exact Qg 7 bSl (by decide)
   ·have Qg:∀over sep,ndL s<=2*sz (pS qT cT over sep s')+1:=fun over sep=>by
     cases s with
     |nil=>rw[ndL];omega
     |cons t r=>
      cases s' with
      |nil=>simp[TqL]at hl
      |cons n q=>
       rw[TqL]at hl;have hvl:=hv.2;rw[VkL]at hvl;have i1:=Hy t n hl.1 hvl.1;have i3:=Dv over n;have i4:q.length=r.length:=hl.2.length';simp only[List.length_cons]at h1;have i5:r=[]:=List.eq_nil_of_length_eq_zero (by omega);rw[i5,ndL,ndL,z4M];omega
    have hb:=y3l kd h8 h12;rw[pN,if_neg (by omega),if_neg (by omega),if_neg (by omega),if_neg (by omega),if_neg (by omega),if_neg (by omega),if_neg (by omega)];by_cases h11:kd=11∨kd=12
    ·rw[if_pos h11,sz]
     have:=Qg kd bE;omega
    ·rw[if_neg h11,Xl,sz,sz]
     have:=Qg kd bE;omega
theorem z4N:∀(s:List RT) (q:List Nd) (over:Nat) (sep:ByteArray),1<=sep.size->TqL s q->VkL q->ndL s+s.length<=2*sz (pB qT cT over sep q)
 |[],_,_,_,_,_,_=>by rw[ndL];exact Nat.zero_le _
 |t::r,[],_,_,_,h,_=>by simp[TqL]at h
 |t::r,n::q,over,sep,hs,h,hv=>by
  rw[TqL]at h;rw[VkL]at hv;have i1:=Hy t n h.1 hv.1;have i2:=z4N r q over sep hs h.2 hv.2;have i3:=Dv over n;rw[ndL,y3k,List.length_cons];omega
end
theorem wfU{a:Int}(h:0<=a/\a<18446744073709551616):(Lit.int .u64 a).wf=true:=WalkArith.wf_u64 (by omega)
theorem y3m(t:RT):1<=ndT t:=by
 cases t;rw[ndT];omega
theorem Td:∀(s:List RT),s.length<=ndL s
 |[]=>by rw[ndL];exact Nat.le_refl _
 |t::r=>by
  have:=Td r;have:=y3m t;rw[ndL,List.length_cons];omega
mutual
theorem z4O:∀(t:RT) (n:Nd),Tq t n->Vk n->okT t=true->RtU t->ndT t<=1048576->TrK t
 | .mk k T a b c d s p,.mk kd T' C s' p',hq,hv,hok,hu,hn=>by
   rw[Tq]at hq;obtain⟨hk,hT,_,_,_,_,hl⟩:=hq;rw[Vk]at hv;rw[okT,Bool.and_eq_true]at hok;have hsz:=y1n hok.1;rw[RtU]at hu;obtain⟨u1,u2,u3,u4,us⟩:=hu;rw[ndT]at hn;have hll:=Td s;have hkd:kd<=12:=by
    rcases hv.1 with⟨h,_⟩|⟨h,_⟩|⟨h,_⟩|⟨h,_⟩|⟨h,_⟩|⟨h|h,_⟩|⟨_,h,_⟩<;>omega
   rw[TrK];exact⟨⟨WalkArith.wf_i64 (by omega),by omega,wfU u1,wfU u2,wfU u3,wfU u4,by omega⟩,z4P s s' hl hv.2 hok.2 us (by omega)⟩
theorem z4P:∀(s:List RT) (q:List Nd),TqL s q->VkL q->okL s=true->Vm s->ndL s<=1048576->Fq s
 |[],_,_,_,_,_,_=>by rw[Fq];trivial
 |t::r,[],h,_,_,_,_=>by simp[TqL]at h
 |t::r,n::q,h,hv,hok,hu,hn=>by
  rw[TqL]at h;rw[VkL]at hv;rw[okL,Bool.and_eq_true]at hok;rw[Vm]at hu;rw[ndL]at hn;rw[Fq];exact⟨z4O t n h.1 hv.1 hok.1 hu.1 (by omega),z4P r q h.2 hv.2 hok.2 hu.2 (by omega)⟩
end
theorem y3n{rs:List Rr}(h:∀x∈rs,ndT x.2.1<=16373):ndG rs<=16373*rs.length:=by
 induction rs with
 |nil=>rw[ndG];exact Nat.zero_le _
 |cons x r ih=>
  have h1:=h x List.mem_cons_self;have h2:=ih fun y hy=>h y (List.mem_cons_of_mem _ hy)
  rw[ndG,List.length_cons];omega
theorem y3o{rs:List Rr}(h:PrG rs){x:Rr}(hx:x∈rs):x.1.size<=1073741824:=by
 obtain⟨hok,ns,hq,hn,hs,_⟩:=h;have ho:=Gl hok _ hx;have hnm:=ho.1;unfold nmS at hnm;cases hb:bt x.1 0 with
 |none=>rw[hb]at hnm;cases hnm
 |some y=>
  rw[hb]at hnm;simp only[Bool.and_eq_true,decide_eq_true_eq]at hnm;omega
theorem z4Q{rs:List Rr}(hok:okG rs=true)(hck:ckR rs=none)(hp:PrG rs)(hz:RgZ rs)(hu:RgU rs):rs.length<=64/\(∀x∈rs,TrK x.2.1/\x.1.size<=1073741824)/\ndG rs<=1048576:=by
 have hl:=(Jb hok).2;have hn:∀x∈rs,ndT x.2.1<=16373/\TrK x.2.1:=fun x hx=>by
  obtain⟨hok,_,⟨nd,q1,q2,q3,q4,_⟩,_⟩:=Tz hp hck hz hx;have h1:=Hy _ nd q1 q2;exact⟨by omega,z4O _ nd q1 q2 hok (hu x hx) (by omega)⟩
 have h3:=y3n fun x hx=>(hn x hx).1
 refine⟨hl,fun x hx=>⟨(hn x hx).2,?_⟩,by omega⟩;exact y3o hp hx
theorem Tp(so:Option Addr)(n cap:Nat)(rs:List Rr)(X:Option (Int ⊕ (Int×Int)))(B:Nat)(fp:Addr)(w:World)(hX:CkX rs X)(hP:X=none->PrG rs)(hC:CkC so n cap rs X w)(hz:RgZ rs)(hu:RgU rs)(h:Qv w B so n rs)(hB:B<=w.heap.size)(hT:TabIs w)(hF:w.cell? ⟨1,0,none⟩=some (.iface 379 (.pointer (some fp))))(hPw:Yj w)(W:World)(hW:Below w.heap.size w W):
  Calls prog 11 #[.agg #[.slice so n cap]] W (MaQ (fun T=>fdI T (nmL rs)) rs (soZ rs X≠none) W):=by
 refine y3j so n cap rs (soZ rs X≠none) W (hid ((h.below (hW.mono hB)).upto (Nat.le_trans hB hW.size))) (hid h.1) (hid (hPw.below hW)) (hid fun W' hW'=> ?_) (hid fun hE=> ?_)
 ·refine(y2L so n cap rs X B fp w hX hP hC hz h hB hT hF W' (hW.trans (hW'.mono hW.size))).mono fun e w' he=> ?_
  obtain⟨v,rfl,hv,hb⟩:=he;by_cases e0:soZ rs X=none
  ·rw[e0]at hv
   have hv:v=.nilIface:=hv;subst hv;exact⟨.inr ⟨fun hne=>hne e0,rfl⟩,hb⟩
  ·obtain⟨tt,uu,rfl⟩:=hv.shape e0
   exact⟨.inl ⟨e0,tt,uu,rfl⟩,hb⟩
 ·have e0:soZ rs X=none:=Classical.not_not.1 hE
  obtain rfl:X=none:=by
   cases X with
   |none=>rfl
   |some x=>unfold soZ at e0;cases e0
  obtain⟨hok,hck,_⟩:=hX;obtain⟨h1,h2,h3⟩:=z4Q hok hck (hP rfl) hz hu;exact⟨by have:=h.1;omega,h2,h3⟩
theorem y3p(S:ByteArray)(p x:Nat)(w:World)(hb:bt S p=some x)(hS:S.size<=9007199254740992)(h9:x≠91)(t:Tok)(n:Nat)(ht:Yz S p x=.inr (t,n)):
  Calls prog 96 #[.string S,.int .i64 p] w fun e w'=>e=.returned (.tuple #[tkv t,.int .i64 n,.nilIface])/\Below w.heap.size w w':=by
 unfold Yz at ht;cases hl:Zq x with
 |true=>
  rw[hl]at ht;refine(z5Y S p x w hb hl hS).mono fun e w' h=> ?_
  unfold Jm at h;by_cases h3:32<ne S p-p
  ·rw[if_pos h3]at ht;cases ht
  ·rw[if_neg h3]at h;rw[if_neg h3]at ht;cases ht;simpa [tkv,Jq]using h
 |false=>
  rw[hl]at ht;simp only[Bool.false_eq_true,if_false]at ht;by_cases hq:x=39∨x=34
  ·rw[if_pos hq]at ht
   refine(z5Z S p x w hb hq hS).mono fun e w' h=> ?_
   cases hm:ll S x p (p+1) []with
   |inl c=>rw[hm]at ht;cases ht
   |inr r=>rw[hm]at h ht;cases ht;simpa [Fy,tkv,Jq]using h
  ·rw[if_neg hq,if_neg h9]at ht
   cases ha:arB S p with
   |true=>
    rw[ha]at ht;have hx:x=60:=by unfold arB at ha;rw[hb]at ha;simp at ha;exact ha.1
    refine(z6c S p x w hb ha hx hS).mono fun e w' h=> ?_
    cases ht;simpa [tkv,tk7,Jq]using h
   |false=>
    rw[ha]at ht;have hq2:x≠39/\x≠34/\x≠91:=by omega
    cases hm:mkB x with
    |true=>
     rw[hm]at ht;refine(z6d S p x w hb hl hq2 ha hm hS).mono fun e w' h=> ?_
     cases ht;simpa [tkv,tk7,Jq]using h
    |false=>rw[hm]at ht;cases ht
theorem y3q(S:ByteArray)(w:World)(hS:S.size<=8192)(hO:(tkS S).isRight=true)(h9:∀p,bt S p≠some 91):
  Calls prog 56 #[.string S] w fun e w'=>z6j (tkS S) w e w':=by
 obtain⟨iT,hiT,hzT0,hzT1,hzT2⟩:=info_parts Tryz.infoTok;have HO:=hid hO;have H9:=hid h9;obtain⟨R,hR⟩:∃R,R=tks S (sb S 0) []:=⟨_,rfl⟩;have HA:Hid (tkS S=tkE S R):=by show _=_;rw[hR];rfl
 have HR:Hid (tks S (sb S 0) []=R):=hR.symm;have hs0:=Nw (S:=S) (n:=0) (Nat.zero_le _);have HK:Hid (∀(k:Nat) (w:World),k<=S.size->Calls prog 95 #[.string S,.int .i64 k] w fun e w'=>e=.returned (.int .i64 ((sb S k:Nat):Int))/\w'=w):=fun k w hk=>z5S S k w hk (by omega)
 have c0:decide ((8192:Int)<(S.size:Int))=false:=by simp;omega
 clear hR hO h9;go_enter func56,ntmps56
 go_wp2_with fail
 refine(HK.out 0 _ (Nat.zero_le _)).mono ?_;rintro e w1 ⟨rfl,hw1⟩;rw[hw1];clear hw1
 go_wp2_with fail
 go_loopw [4,5] (fun v a wr=>∃(k:Nat) (acc:List Tok),a=.int .i64 k/\k<=S.size/\acc.length<=k/\Hid (tks S k acc=R)/\Hid (Lt w v acc wr)) (fun _ a _=>S.size-(intOf a).toNat)
 case atStart=>exact⟨sb S 0,[],rfl,hs0.2,by simp,HR,hid ⟨hid B0q,hid (World.ownsRow_nil _ _ _ _)⟩⟩
 case round=>
  obtain⟨k,acc,rfl,hks,hal,HM,HL⟩:=hrel;clear HR c0;cases hb:bt S k with
  |none=>
   have hge:=Xv hb;have a0:decide ((k:Int)<(S.size:Int))=false:=by simp;omega
   have HF:Hid (tkS S=.inr (acc++[(6,{data:=#[]},0,S.size)])):=by
    show _=_;rw[HA.out,<-HM.out,z6g hge];rfl
   have hsz:w.heap.size<=wr.heap.size:=HL.out.1.out.size;clear hb HM
   go_wp2_with(first|(at_builtin;refine wpList_append_own _ rfl (.tmp 39) (.tmp 43) 120 rfl w.heap.size 183 iT (.agg #[.int .i64 0,.string ⟨#[]⟩,.int .u64 0,.int .u64 0,.int .u64 0,.int .u64 0,.int .i64 0]) 7 64 Tryz.underlying120 hiT hzT0 hzT1 hzT2 rfl (by decide) _ _ _ rfl (HL.out.2.out.alloc _) ⟨wr.heap.size,0,none⟩ 1 1 (tvs [(6,{data:=#[]},0,S.size)]) rfl rfl (by simpa [tvs,Jq]using z0k wr _ _ _ _ _ _ _ 183) (z0l _ _ _ _ _ _ _) (by unfold maxLen;omega) (by omega) (by simp;omega) ?_;intro v3 w3 hown3 hgr3 hnil3))
   (try simp only[Exit.inBlock,Exit.then])
   refine bodyPost_ret (v:=.tuple #[v3,.nilIface]) (by simp[results,Tryz.results56,go_sem]) rfl ?_;rw[HF.out];exact⟨_,rfl,hid (by rw[Ny,List.length_append];exact hown3),hid ((HL.out.1.out.alloc hsz _).grown hgr3 (by simp;omega) (fun y e=>(HL.out.2.out.lt y e).1))⟩
  |some x=>
   have hlt:=(Qh hb).1;have a0:decide ((k:Int)<(S.size:Int))=true:=by simp;omega
   cases ht:Yz S k x with
   |inl b=>
    have HF:Hid (tkS S=.inl (wrg k b)):=by
     show _=_;rw[HA.out,<-HM.out,z6h hb ht];rfl
    have h1:=HO.out;rw[HF.out]at h1;cases h1
   |inr r=>
    obtain⟨t,n⟩:=r;obtain⟨q1,q2,q3,q4,q5,q6,q7⟩:=Db hb ht;have HM2:Hid (tks S (sb S n) (acc++[t])=R):=by show _=_;rw[<-HM.out,z6i hb ht]
    have hsn:=Nw (S:=S) (n:=n) q2;have HT:Hid (∀w:World,Calls prog 96 #[.string S,.int .i64 k] w fun e w'=>e=.returned (.tuple #[tkv t,.int .i64 n,.nilIface])/\Below w.heap.size w w'):=fun w=>y3p S k x w hb (by omega) (fun e=>H9.out k (e▸hb)) t n ht
    clear hb ht HM
    go_wp2_with fail
    refine(HT.out _).mono ?_;rintro e w2 ⟨rfl,hb2⟩;have HL2:=hid (HL.out.keep hb2);clear hb2 HL HT;obtain⟨kd,T,C,p⟩:=t;have q4':p=k:=q4;rw[q4']at HM2 ⊢;clear q4 q4';dsimp only[tkv];have hsz:w.heap.size<=w2.heap.size:=HL2.out.1.out.size
    go_wp2_with(first|(at_builtin;refine wpList_append_own _ rfl (.tmp 32) (.tmp 34) 120 rfl w.heap.size 183 iT (.agg #[.int .i64 0,.string ⟨#[]⟩,.int .u64 0,.int .u64 0,.int .u64 0,.int .u64 0,.int .i64 0]) 7 64 Tryz.underlying120 hiT hzT0 hzT1 hzT2 rfl (by decide) _ _ _ rfl ((HL2.out.2.out.alloc _).alloc _) ⟨w2.heap.size+1,0,none⟩ 1 1 (tvs [(kd,T,C,k)]) rfl rfl (by have:=z0k (w2.alloc (.cells #[.int .i64 kd,.string T,.int .u64 (wd C 0),.int .u64 (wd C 1),.int .u64 (wd C 2),.int .u64 (wd C 3),.int .i64 k] 183));simpa [tvs]using this _ _ _ _ _ _ _ 183) (z0l _ _ _ _ _ _ _) (by unfold maxLen;omega) (by omega) (by simp;omega) ?_;intro v3 w3 hown3 hgr3 hnil3))
    have HL3:Hid (Lt w v3 (acc++[(kd,T,C,k)]) w3):=by
     refine⟨hid (((HL2.out.1.out.alloc hsz _).alloc (by simp;omega) _).grown hgr3 (by simp;omega) (fun y e=>(HL2.out.2.out.lt y e).1)),hid ?_⟩;rw[Ny,List.length_append];exact hown3
    clear hown3 hgr3 hnil3 HL2;have HKn:=hid (HK.out n w3 q2);refine HKn.out.mono ?_;rintro e w4 ⟨rfl,hw4⟩;rw[hw4];clear hw4
    go_wp2_with fail
    go_roundw
    case rel=>exact⟨sb S n,acc++[(kd,T,C,k)],rfl,hsn.2,by simp;omega,HM2,HL3⟩
    case measure=>simp[intOf];omega
theorem y3r(S:ByteArray)(rs:List Rl)(w:World)(hS:S.size<=8192)(h9:∀p,bt S p≠some 91)(hp:Vj S=.inr rs):
  Calls prog 29 #[.string S] w fun e w'=>Dp (.inr rs) w e w':=by
 unfold Vj at hp;cases hs:tkS S with
 |inl c=>rw[hs]at hp;cases hp
 |inr L=>
  have HT:=hid (y3q S (w.alloc Zg) hS (by rw[hs];rfl) h9);rw[hs]at hp;have hp:Vx L=.inr rs:=hp;have hG:=z6W hs hS;have HG:Hid (Qc L):=hG.1;have hl0:=hG.2;rw[hs]at HT;clear hs hG h9;go_enter func29,ntmps29
  go_wp2_with fail
  refine HT.out.mono ?_;rintro e w1 ⟨v,rfl,HO,HB⟩;obtain⟨g,cap,hv⟩:=Jk HO.out hl0;subst hv;have HC:=hid (z6T _ _ L w1 HO.out HG.out hl0);have HB1:Hid (Below (w.heap.size+1) (w.alloc Zg) w1):=by have:=HB.out;simp at this;exact this
  obtain⟨n,hn⟩:∃n,n=L.length:=⟨_,rfl⟩;rw[<-hn]at HC ⊢;clear hn HO HB HT hl0 HG
  go_wp2_with fail
  refine HC.out.mono ?_;clear HC;rw[hp];have HGS:=hid hp;clear hp;rintro e w2 ⟨g4,cap4,rfl,HRo,HB3⟩;obtain⟨m,hm⟩:∃m,m=rs.length:=⟨_,rfl⟩;have HM:Hid (m=rs.length):=hm;rw[<-hm]at HRo ⊢;clear hm;have hw1:w.heap.size+1<=w1.heap.size:=by have h2:=HB1.out.size;simp at h2;omega
  have HB2:Hid (Below (w.heap.size+1) (w.alloc Zg) w2):=HB1.out.trans (HB3.out.mono (by omega));have HA:Hid (Dp (.inr rs) w (.returned (.tuple #[.agg #[.slice (some ⟨g4,0,none⟩) m cap4],.nilIface])) (w2.setCell ⟨w.heap.size,0,none⟩ (.slice (some ⟨g4,0,none⟩) m cap4))):=by
   have hr:=HRo.out.grown (G.setR (u:=.slice (some ⟨g4,0,none⟩) m cap4) (j:=0) (G.refl w2 w.heap.size)) (by omega);have hm:=HM.out;subst hm;exact⟨g4,cap4,rfl,hid (hr.low (by omega)),hid (z0M HB2.out).2.2⟩
  have HQ:Hid (w2.heap[w.heap.size]? =some Zg):=(z0M (x:=.nilIface) HB2.out).1;obtain⟨e0,y0⟩:=Qk HQ.out;have hQl:=Qz HQ.out;clear HRo HB1 HB2 HB3
  go_wp2_with fail
  (try simp only[Exit.inBlock,Exit.then])
  refine bodyPost_ret (v:=.tuple #[.agg #[.slice (some ⟨g4,0,none⟩) m cap4],.nilIface]) (by simp[results,Tryz.results29,go_sem,e0]) rfl ?_;exact HA.out
end Go.Proofs.YtlogolpcipiceaaGreatDoor
