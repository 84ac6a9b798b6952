/- Lemmas for the last text. Conditions: those that each names. -/
import Derived.Test.YtgmcjddjdidpjaaGreatDoorVT21ToGU
import Derived.Test.YtgmcjddjdidpjaaGreatDoorVY14ToR1
import Derived.Test.YtgmcjddjdidpjaaGreatDoorVS1ToHA
import Derived.Test.YtgmcjddjdidpjaaGreatDoorVS2ToS9
import Derived.Test.YtgmcjddjdidpjaaGreatDoorVU9ToU11
import Derived.Test.YtgmcjddjdidpjaaGreatDoorVU3ToU7
import Derived.Test.YtgmcjddjdidpjaaGreatDoorVHBToO4
import Derived.Test.YtgmcjddjdidpjaaGreatDoorVKPlainToKG2
set_option linter.unusedVariables false
set_option maxRecDepth 100000
set_option maxHeartbeats 8000000
namespace Go.Proofs.YtgmcjddjdidpjaaGreatDoor
open Go.Proofs.Tryz
open Go.RowKit Go.Shelf Go.Maps
theorem Ob(C i:Nat):(0:Int)<=(wd C i:Nat)/\((wd C i:Nat):Int)<18446744073709551616:=by
 have:=Zp C i;omega
mutual
theorem z6n:∀n:Nd,RtU (toR n)
 | .mk kd T C s p=>by rw[toR,RtU];exact⟨Ob C 0,Ob C 1,Ob C 2,Ob C 3,z6o s⟩
theorem z6o:∀s:List Nd,Xq (Uj s)
 |[]=>by rw[Uj,Xq];trivial
 |n::r=>by rw[Uj,Xq];exact⟨z6n n,z6o r⟩
end
theorem y5V{S:ByteArray}{rs:List Rl}(hp:Uq S=.inr rs)(h1:sz (pR qT cT rs)<=8192)(h2:dR rs<=24):PrG (toG rs):=by
 have hx:∀x∈rs,Ruk Nmq x:=fun x hx=>(Wg hp x hx).1
 have hl:=z0h hp;exact⟨z0j (Dj rs) hx hl.2 hl.1,rs,Dj rs,hx,h1,h2⟩
theorem z6p{o:Option (Option Nat×Nat)}{f:Option Nat->Bool}(h:okE o f=true):∃e c,o=some (e,c)/\f e=true/\c<=1000:=by
 unfold okE at h;cases o with
 |none=>cases h
 |some x=>
  obtain⟨e,c⟩:=x;simp only[Bool.and_eq_true,decide_eq_true_eq]at h;exact⟨e,c,rfl,h.1,h.2⟩
theorem y5W{us:List (List Int)}(h:∀i x:Nat,(x:Int)∈us.getD i []->i<x){x i:Nat}(hr:Rch us x i):x<=i:=by
 induction hr with
 |refl=>exact Nat.le_refl _
 |step _ hm ih=>exact Nat.le_trans ih (Nat.le_of_lt (h _ _ hm))
theorem y5X{us:List (List Int)}(h:∀i x:Nat,(x:Int)∈us.getD i []->i<x)(i:Nat):¬Bck us i:=fun⟨x,hx,hr⟩=>by
 have h1:=h i x hx;have h2:=y5W h hr;omega
theorem y5Y:∃rs,Uq smA=.inr rs/\sz (pR qT cT rs)<=8192/\dR rs<=24/\ckR (toG rs)=none/\soZ (toG rs) none=none/\∃h:(toG rs).length=3,(∃c,c<=1000/\Mt (bdR (toG rs)) tA (.one ((toG rs)[0]'(by omega)).2.1) 0 (some 7) c)/\(∃c,c<=1000/\Mt (bdR (toG rs)) tB (.one ((toG rs)[0]'(by omega)).2.1) 0 none c)/\Mt (bdR (toG rs)) tC (.one ((toG rs)[2]'(by omega)).2.1) 1 (some 2) 4:=by
 have h:=y5U 0 (by decide);unfold z6m at h;cases hp:Uq smA with
 |inl c=>rw[hp]at h;cases h
 |inr rs=>
  rw[hp]at h;simp only[Bool.and_eq_true,decide_eq_true_eq]at h;obtain⟨h1,h2,h3,h4,h5,h6,h7,h8,h9⟩:=h;have hf:Yv (itr (toG rs) 6) (toG rs):=fun x hx=>by simpa using List.all_eq_true.1 h4 x hx
  have hlen:(toG rs).length=3:=by have:=congrArg List.length h6;simpa using this
  have g0:(((toG rs)[0]?.map (·.2.1)).getD (.mk 1 tA 0 0 0 0 [] 0))=((toG rs)[0]'(by omega)).2.1:=by rw[List.getElem?_eq_getElem (by omega)];rfl
  have g2:(((toG rs)[2]?.map (·.2.1)).getD (.mk 1 tA 0 0 0 0 [] 0))=((toG rs)[2]'(by omega)).2.1:=by rw[List.getElem?_eq_getElem (by omega)];rfl
  rw[g0]at h7 h8;rw[g2]at h9;rw[z6h hf]at h5 h6;refine⟨rs,rfl,h1,h2,h3,?_,hlen,?_,?_,Nb _ _ _ _ _ h9⟩
  ·have hb:∀i,i<(toG rs).length->¬Bck (bgU (toG rs)) i:=fun i _=>y5X (fun i x hx=>by
    rw[List.getD_eq_getElem?_getD]at hx;unfold bgU at hx;rcases Nat.lt_or_ge i (toG rs).length with hi|hi
    ·rw[List.getElem?_map,List.getElem?_eq_getElem hi]at hx
     have hx:(x:Int)∈bgR (toG rs) (kG (toG rs)) (toG rs)[i]:=hx;obtain⟨s,hs,e⟩:=z5C.1 hx;have hm:(x:Int)∈(fbT (kG (toG rs)) (toG rs)[i].2.1).map (fun s=>fdI s (nmL (toG rs))):=List.mem_map.2 ⟨s,hs,e⟩;have h10:=congrArg (fun l=>l[i]?) h6;simp only[List.getElem?_map,List.getElem?_eq_getElem hi,Option.map_some]at h10;rcases(by omega:i=0∨i=1∨i=2)with rfl|rfl|rfl
     ·rw[show([[1],[2],[]]:List (List Int))[0]? =some [1]from rfl]at h10
      have h10:=Option.some.inj h10;rw[h10]at hm;simp at hm;omega
     ·rw[show([[1],[2],[]]:List (List Int))[1]? =some [2]from rfl]at h10
      have h10:=Option.some.inj h10;rw[h10]at hm;simp at hm;omega
     ·rw[show([[1],[2],[]]:List (List Int))[2]? =some []from rfl]at h10
      have h10:=Option.some.inj h10;rw[h10]at hm;simp at hm
    ·rw[List.getElem?_eq_none (by simpa using hi)]at hx
     simp at hx) i
   unfold soZ flX;simp only;rw[h5,z6k hb];rfl
  ·obtain⟨e,c,e1,e2,e3⟩:=z6p h7
   have e2:e=some 7:=by simpa using e2
   subst e2;exact⟨c,e3,Nb _ _ _ _ _ e1⟩
  ·obtain⟨e,c,e1,e2,e3⟩:=z6p h8
   have e2:e=none:=by simpa using e2
   subst e2;exact⟨c,e3,Nb _ _ _ _ _ e1⟩
theorem z6q(so:Option Addr)(n cap:Nat)(T:ByteArray)(m x y:Int)(q:Bool)(w:World)(hq:(x == (T.size:Int))=q)(hT:T.size<=9223372036854775807)
  (HM:Hid (∀W:World,Below w.heap.size w W->Calls prog 11 #[.agg #[.slice so n cap],.int .i64 0,.string T,.int .i64 0,.int .i64 m] W fun e w'=>e=.returned (.tuple #[.int .i64 x,.int .i64 y,.nilIface])/\Below W.heap.size W w')):
  Calls prog 12 #[.agg #[.slice so n cap],.string T,.int .i64 m] w fun e w'=>e=.returned (.tuple #[.bool q,.int .i64 y,.nilIface])/\Below w.heap.size w w':=by
 go_enter func12,ntmps12
 go_wp2_with fail
 first
  |refine(HM.out _ B0q).mono ?_
  |refine(HM.out _ ((Below.refl _ w).alloc L0q _)).mono ?_
 rintro e w1 ⟨rfl,hb⟩;have HB:=hid hb;clear hb
 go_wp2_with fail
 refine bodyPost_ret (v:=.tuple #[.bool q,.int .i64 y,.nilIface]) (by simp[results,Tryz.results12,go_sem]) rfl ?_
 first
  |exact⟨rfl,HB.out⟩
  |exact⟨rfl,((Below.refl _ w).alloc L0q _).trans (HB.out.mono (by simp))⟩
theorem y5Z(S:ByteArray)(p x:Nat)(w:World)(hb:bt S p=some x)(hS:S.size<=9007199254740992)(t:Tok)(n:Nat)(ht:Vj S p x=.inr (t,n)):
  Calls prog 64 #[.string S,.int .i64 p] w fun e w'=>e=.returned (.tuple #[tkv t,.int .i64 n,.nilIface])/\Below w.heap.size w w':=by
 unfold Vj at ht;cases hl:Zf x with
 |true=>
  rw[hl]at ht;refine(z7D S p x w hb hl hS).mono fun e w' h=> ?_
  unfold Fc at h;by_cases h3:32<ne S p-p
  ·rw[if_pos h3]at ht;cases ht
  ·rw[if_neg h3]at h;rw[if_neg h3]at ht;cases ht;simpa [tkv,Vx]using h
 |false=>
  rw[hl]at ht;simp only[Bool.false_eq_true,if_false]at ht;by_cases hq:x=39∨x=34
  ·rw[if_pos hq]at ht
   refine(z7E S p x w hb hq hS).mono fun e w' h=> ?_
   cases hm:ll S x p (p+1) []with
   |inl c=>rw[hm]at ht;cases ht
   |inr r=>rw[hm]at h ht;cases ht;simpa [Km,tkv,Vx]using h
  ·rw[if_neg hq]at ht
   by_cases h9:x=91
   ·rw[if_pos h9]at ht
    refine(z7F S p x w hb h9 hS).mono fun e w' h=> ?_
    cases hm:Vy (S.extract p S.size)with
    |inl c=>rw[hm]at ht;cases ht
    |inr r=>rw[hm]at h ht;cases ht;exact h
   rw[if_neg h9]at ht;cases ha:arB S p with
   |true=>
    rw[ha]at ht;have hx:x=60:=by unfold arB at ha;rw[hb]at ha;simp at ha;exact ha.1
    refine(z7I S p x w hb ha hx hS).mono fun e w' h=> ?_
    cases ht;simpa [tkv,tk7,Vx]using h
   |false=>
    rw[ha]at ht;have hq2:x≠39/\x≠34/\x≠91:=by omega
    cases hm:mkB x with
    |true=>
     rw[hm]at ht;refine(z7J S p x w hb hl hq2 ha hm hS).mono fun e w' h=> ?_
     cases ht;simpa [tkv,tk7,Vx]using h
    |false=>rw[hm]at ht;cases ht
theorem y6a(S:ByteArray)(w:World)(hS:S.size<=8192)(hO:(tkS S).isRight=true):
  Calls prog 39 #[.string S] w fun e w'=>z7P (tkS S) w e w':=by
 obtain⟨iT,hiT,hzT0,hzT1,hzT2⟩:=info_parts Tryz.infoTok;have HO:=hid hO;obtain⟨R,hR⟩:∃R,R=tks S (sb S 0) []:=⟨_,rfl⟩;have HA:Hid (tkS S=tkE S R):=by show _=_;rw[hR];rfl
 have HR:Hid (tks S (sb S 0) []=R):=hR.symm;have hs0:=Bf (S:=S) (n:=0) (Nat.zero_le _);have HK:Hid (∀(k:Nat) (w:World),k<=S.size->Calls prog 63 #[.string S,.int .i64 k] w fun e w'=>e=.returned (.int .i64 ((sb S k:Nat):Int))/\w'=w):=fun k w hk=>z7x S k w hk (by omega)
 have c0:decide ((8192:Int)<(S.size:Int))=false:=by simp;omega
 clear hR hO;go_enter func39,ntmps39
 go_wp2_with fail
 refine(HK.out 0 _ (Nat.zero_le _)).mono ?_;rintro e w1 ⟨rfl,hw1⟩;rw[hw1];clear hw1
 go_wp2_with fail
 go_loopw [4,5] (fun v a wr=>∃(k:Nat) (acc:List Tok),a=.int .i64 k/\k<=S.size/\acc.length<=k/\Hid (tks S k acc=R)/\Hid (Lt w v acc wr)) (fun _ a _=>S.size-(intOf a).toNat)
 case atStart=>exact⟨sb S 0,[],rfl,hs0.2,by simp,HR,hid ⟨hid B0q,hid (World.ownsRow_nil _ _ _ _)⟩⟩
 case round=>
  obtain⟨k,acc,rfl,hks,hal,HM,HL⟩:=hrel;clear HR c0;cases hb:bt S k with
  |none=>
   have hge:=Xj hb;have a0:decide ((k:Int)<(S.size:Int))=false:=by simp;omega
   have HF:Hid (tkS S=.inr (acc++[(6,{data:=#[]},0,S.size)])):=by
    show _=_;rw[HA.out,<-HM.out,z7M hge];rfl
   have hsz:w.heap.size<=wr.heap.size:=HL.out.1.out.size;clear hb HM
   go_wp2_with(first|(at_builtin;refine wpList_append_own _ rfl (.tmp 39) (.tmp 43) 95 rfl w.heap.size 145 iT (.agg #[.int .i64 0,.string ⟨#[]⟩,.int .u64 0,.int .u64 0,.int .u64 0,.int .u64 0,.int .i64 0]) 7 64 Tryz.underlying95 hiT hzT0 hzT1 hzT2 rfl (by decide) _ _ _ rfl (HL.out.2.out.alloc _) ⟨wr.heap.size,0,none⟩ 1 1 (tvs [(6,{data:=#[]},0,S.size)]) rfl rfl (by simpa [tvs,Vx]using z1y wr _ _ _ _ _ _ _ 145) (z1z _ _ _ _ _ _ _) (by unfold maxLen;omega) (by omega) (by simp;omega) ?_;intro v3 w3 hown3 hgr3 hnil3))
   (try simp only[Exit.inBlock,Exit.then])
   refine bodyPost_ret (v:=.tuple #[v3,.nilIface]) (by simp[results,Tryz.results39,go_sem]) rfl ?_;rw[HF.out];exact⟨_,rfl,hid (by rw[Bg,List.length_append];exact hown3),hid ((HL.out.1.out.alloc hsz _).grown hgr3 (by simp;omega) (fun y e=>(HL.out.2.out.lt y e).1))⟩
  |some x=>
   have hlt:=(Qb hb).1;have a0:decide ((k:Int)<(S.size:Int))=true:=by simp;omega
   cases ht:Vj S k x with
   |inl b=>
    have HF:Hid (tkS S=.inl (wrg k b)):=by
     show _=_;rw[HA.out,<-HM.out,z7N hb ht];rfl
    have h1:=HO.out;rw[HF.out]at h1;cases h1
   |inr r=>
    obtain⟨t,n⟩:=r;obtain⟨q1,q2,q3,q4,q5,q6,q7⟩:=Mk hb ht;have HM2:Hid (tks S (sb S n) (acc++[t])=R):=by show _=_;rw[<-HM.out,z7O hb ht]
    have hsn:=Bf (S:=S) (n:=n) q2;have HT:Hid (∀w:World,Calls prog 64 #[.string S,.int .i64 k] w fun e w'=>e=.returned (.tuple #[tkv t,.int .i64 n,.nilIface])/\Below w.heap.size w w'):=fun w=>y5Z S k x w hb (by omega) t n ht
    clear hb ht HM
    go_wp2_with fail
    refine(HT.out _).mono ?_;rintro e w2 ⟨rfl,hb2⟩;have HL2:=hid (HL.out.keep hb2);clear hb2 HL HT;obtain⟨kd,T,C,p⟩:=t;have q4':p=k:=q4;rw[q4']at HM2 ⊢;clear q4 q4';dsimp only[tkv];have hsz:w.heap.size<=w2.heap.size:=HL2.out.1.out.size
    go_wp2_with(first|(at_builtin;refine wpList_append_own _ rfl (.tmp 32) (.tmp 34) 95 rfl w.heap.size 145 iT (.agg #[.int .i64 0,.string ⟨#[]⟩,.int .u64 0,.int .u64 0,.int .u64 0,.int .u64 0,.int .i64 0]) 7 64 Tryz.underlying95 hiT hzT0 hzT1 hzT2 rfl (by decide) _ _ _ rfl ((HL2.out.2.out.alloc _).alloc _) ⟨w2.heap.size+1,0,none⟩ 1 1 (tvs [(kd,T,C,k)]) rfl rfl (by have:=z1y (w2.alloc (.cells #[.int .i64 kd,.string T,.int .u64 (wd C 0),.int .u64 (wd C 1),.int .u64 (wd C 2),.int .u64 (wd C 3),.int .i64 k] 145));simpa [tvs]using this _ _ _ _ _ _ _ 145) (z1z _ _ _ _ _ _ _) (by unfold maxLen;omega) (by omega) (by simp;omega) ?_;intro v3 w3 hown3 hgr3 hnil3))
    have HL3:Hid (Lt w v3 (acc++[(kd,T,C,k)]) w3):=by
     refine⟨hid (((HL2.out.1.out.alloc hsz _).alloc (by simp;omega) _).grown hgr3 (by simp;omega) (fun y e=>(HL2.out.2.out.lt y e).1)),hid ?_⟩;rw[Bg,List.length_append];exact hown3
    clear hown3 hgr3 hnil3 HL2;have HKn:=hid (HK.out n w3 q2);refine HKn.out.mono ?_;rintro e w4 ⟨rfl,hw4⟩;rw[hw4];clear hw4
    go_wp2_with fail
    go_roundw
    case rel=>exact⟨sb S n,acc++[(kd,T,C,k)],rfl,hsn.2,by simp;omega,HM2,HL3⟩
    case measure=>simp[intOf];omega
theorem y6b(S:ByteArray)(rs:List Rl)(w:World)(hS:S.size<=8192)(hp:Uq S=.inr rs):
  Calls prog 22 #[.string S] w fun e w'=>Mb (.inr rs) w e w':=by
 unfold Uq at hp;cases hs:tkS S with
 |inl c=>rw[hs]at hp;cases hp
 |inr L=>
  have HT:=hid (y6a S (w.alloc Zg) hS (by rw[hs];rfl));rw[hs]at hp;have hp:Uz L=.inr rs:=hp;have hG:=z8C hs hS;have HG:Hid (Zx L):=hG.1;have hl0:=hG.2;rw[hs]at HT;clear hs hG;go_enter func22,ntmps22
  go_wp2_with fail
  refine HT.out.mono ?_;rintro e w1 ⟨v,rfl,HO,HB⟩;obtain⟨g,cap,hv⟩:=Fz HO.out hl0;subst hv;have HC:=hid (z8z _ _ L w1 HO.out HG.out hl0);have HB1:Hid (Below (w.heap.size+1) (w.alloc Zg) w1):=by have:=HB.out;simp at this;exact this
  obtain⟨n,hn⟩:∃n,n=L.length:=⟨_,rfl⟩;rw[<-hn]at HC ⊢;clear hn HO HB HT hl0 HG
  go_wp2_with fail
  refine HC.out.mono ?_;clear HC;rw[hp];have HGS:=hid hp;clear hp;rintro e w2 ⟨g4,cap4,rfl,HRo,HB3⟩;obtain⟨m,hm⟩:∃m,m=rs.length:=⟨_,rfl⟩;have HM:Hid (m=rs.length):=hm;rw[<-hm]at HRo ⊢;clear hm;have hw1:w.heap.size+1<=w1.heap.size:=by have h2:=HB1.out.size;simp at h2;omega
  have HB2:Hid (Below (w.heap.size+1) (w.alloc Zg) w2):=HB1.out.trans (HB3.out.mono (by omega));have HA:Hid (Mb (.inr rs) w (.returned (.tuple #[.agg #[.slice (some ⟨g4,0,none⟩) m cap4],.nilIface])) (w2.setCell ⟨w.heap.size,0,none⟩ (.slice (some ⟨g4,0,none⟩) m cap4))):=by
   have hr:=HRo.out.grown (G.setR (u:=.slice (some ⟨g4,0,none⟩) m cap4) (j:=0) (G.refl w2 w.heap.size)) (by omega);have hm:=HM.out;subst hm;exact⟨g4,cap4,rfl,hid (hr.low (by omega)),hid (z2b HB2.out).2.2⟩
  have HQ:Hid (w2.heap[w.heap.size]? =some Zg):=(z2b (x:=.nilIface) HB2.out).1;obtain⟨e0,y0⟩:=Qk HQ.out;have hQl:=Qz HQ.out;clear HRo HB1 HB2 HB3
  go_wp2_with fail
  (try simp only[Exit.inBlock,Exit.then])
  refine bodyPost_ret (v:=.tuple #[.agg #[.slice (some ⟨g4,0,none⟩) m cap4],.nilIface]) (by simp[results,Tryz.results22,go_sem,e0]) rfl ?_;exact HA.out
theorem y6c(n:Nat)(rs:List Rl)(y1 y2:Int)(S A B C:ByteArray)(hS:S=smA)(hA:A=tA)(hB:B=tB)(hC:C=tC)(w:World)
  (HPA:Hid (Calls prog 22 #[.string smA] w fun e w'=>∃g cap,e=.returned (.tuple #[.agg #[.slice (some ⟨g,0,none⟩) n cap],.nilIface])/\Hid (RoR w.heap.size (.slice (some ⟨g,0,none⟩) n cap) rs w')/\Hid (Below w.heap.size w w')))
  (HA1:Hid (∀(g cap:Nat) (W:World),RoR w.heap.size (.slice (some ⟨g,0,none⟩) n cap) rs W->Below w.heap.size w W->Calls prog 12 #[.agg #[.slice (some ⟨g,0,none⟩) n cap],.string tA,.int .i64 1000] W fun e w'=>e=.returned (.tuple #[.bool true,.int .i64 y1,.nilIface])/\Below W.heap.size W w'))
  (HA2:Hid (∀(g cap:Nat) (W:World),RoR w.heap.size (.slice (some ⟨g,0,none⟩) n cap) rs W->Below w.heap.size w W->Calls prog 12 #[.agg #[.slice (some ⟨g,0,none⟩) n cap],.string tB,.int .i64 1000] W fun e w'=>e=.returned (.tuple #[.bool false,.int .i64 y2,.nilIface])/\Below W.heap.size W w'))
  (HM:Hid (∀(g cap:Nat) (W:World),RoR w.heap.size (.slice (some ⟨g,0,none⟩) n cap) rs W->Below w.heap.size w W->Calls prog 11 #[.agg #[.slice (some ⟨g,0,none⟩) n cap],.int .i64 2,.string tC,.int .i64 1,.int .i64 9] W fun e w'=>e=.returned (.tuple #[.int .i64 2,.int .i64 4,.nilIface])/\Below W.heap.size W w')):
  Calls prog 9 #[] w fun e w'=>e=.returned (.bool true)/\Hid (Below w.heap.size w w'):=by
 go_enter func9,ntmps9
 go_wp2_with fail
 refine HPA.out.mono ?_;rintro e w1 ⟨g,cap,rfl,HRo,HB⟩;obtain⟨u1,hu1⟩:∃u1,u1=w1.alloc (.cells #[.slice (some ⟨g,0,none⟩) n cap] 24):=⟨_,rfl⟩;have hb11:Below w1.heap.size w1 u1:=by rw[hu1];exact(Below.refl _ w1).alloc L0q _
 have HG1:Hid (u1.heap[w1.heap.size]? =some (.cells #[.slice (some ⟨g,0,none⟩) n cap] 24)):=by rw[hu1];exact Qq w1 _ rfl
 have HBu:=hid (HB.out.trans (hb11.mono HB.out.size));have HRu:=hid (HRo.out.below hb11);have HC1:=hid (HA1.out g cap u1 HRu.out HBu.out);have HU1:=hid hu1;clear HPA HRo hb11 hu1 HA1
 go_wp2_with fail
 rw[<-HU1.out];refine HC1.out.mono ?_;rintro e w2 ⟨rfl,hb2⟩;have HB2:=hid (HBu.out.trans (hb2.mono HBu.out.size));have HR2:=hid (HRu.out.below hb2);have hG2:=(hb2.block _ (Qz HG1.out)).trans HG1.out;have g2:=(Qk hG2).1;have lg2:=Qz hG2;have HG2:=hid hG2;have HC2:=hid (HA2.out g cap w2 HR2.out HB2.out);clear HC1 HU1 hb2 hG2 HA2 HRu HBu HG1
 go_wp2_with fail
 refine HC2.out.mono ?_;rintro e w3 ⟨rfl,hb3⟩;have HB3:=hid (HB2.out.trans (hb3.mono HB2.out.size));have HR3:=hid (HR2.out.below hb3);have hG3:=(hb3.block _ (Qz HG2.out)).trans HG2.out;have g3:=(Qk hG3).1;have lg3:=Qz hG3;have HC3:=hid (HM.out g cap w3 HR3.out HB3.out);clear HC2 hb3 hG3 HM HR2 HB2 HG2 g2 lg2
 go_wp2_with fail
 refine HC3.out.mono ?_;rintro e w4 ⟨rfl,hb4⟩;have HB4:=hid (HB3.out.trans (hb4.mono HB3.out.size));clear HC3 hb4 HR3 HB3 g3 lg3
 go_wp2_with fail
 go_ret;exact⟨rfl,HB4⟩
theorem z0M{S:ByteArray}{rs:List Rl}(hS:S.size<=8192)(hp:Uq S=.inr rs)(h1:sz (pR qT cT rs)<=8192)(h2:dR rs<=24)(hck:ckR (toG rs)=none)(hZ:soZ (toG rs) none=none)(B g n cap:Nat)(fp:Addr)(W:World)(hr:RoR B (.slice (some ⟨g,0,none⟩) n cap) rs W)(hT:TabIs W)(hF:W.cell? ⟨1,0,none⟩=some (.iface 325 (.pointer (some fp))))(hn:n=(toG rs).length)(r a m:Nat)(T:ByteArray)(hrn:r<(toG rs).length)(ha:a<=T.size)(hm:m<=1048576)(hTz:T.size<=4096)(e:Option Nat)(c:Nat)(hM:Mt (bdR (toG rs)) T (.one (toG rs)[r].2.1) a e c)(hc:c<=m)(W':World)(hW:Below W.heap.size W W'):
  Calls prog 11 #[.agg #[.slice (some ⟨g,0,none⟩) n cap],.int .i64 r,.string T,.int .i64 a,.int .i64 m] W' fun e' w'=>e'=.returned (.tuple #[.int .i64 (eI e),.int .i64 c,.nilIface])/\Below W'.heap.size W' w':=by
 obtain⟨hi,hz,hX,hC⟩:=y2v hS hp h1 h2 B g n cap W hr hT;have e0:xOf (toG rs)=none:=by unfold xOf;rw[hck];rfl
 rw[e0]at hX hC;have hU:RgU (toG rs):=fun x hx=>by
  obtain⟨y,_,rfl⟩:=List.mem_map.1 hx;exact z6n y.2.1
 refine(z6l _ n cap (toG rs) none W.heap.size fp W hX (fun _=>y5V hp h1 h2) hC hz hU hi L0q hT hF (r:Int) (a:Int) (m:Int) T (by omega) W' hW).mono fun e' w' he=> ?_
 obtain⟨x,y,v,rfl,hv,hb⟩:=he;refine⟨?_,hb⟩;have u1:upB ((n:Int)-1) (r:Int)=true:=by unfold upB;simp;omega
 have u2:upB (T.size:Int) (a:Int)=true:=by unfold upB;simp;omega
 have u3:upB 1048576 (m:Int)=true:=by unfold upB;simp;omega
 rw[u1,u2,u3]at hv;rcases hv with⟨h,_⟩|⟨_,h,_⟩|⟨_,_,h,_⟩|⟨_,_,_,hr',h⟩
 ·exact absurd hZ h
 ·cases h
 ·have:=of_decide_eq_false h;omega
 ·rcases h with⟨e2,c2,h3,_,rfl,rfl,rfl⟩|⟨h3,_⟩
  ·obtain⟨rfl,rfl⟩:=Dx hM (by simpa using h3)
   rfl
  ·have:=h3 e c (by simpa using hM)
   omega
theorem y6d(fp:Addr)(w:World)(h:Gv w)(hT:TabIs w)(hF:w.cell? ⟨1,0,none⟩=some (.iface 325 (.pointer (some fp)))):Calls prog 9 #[] w fun e w'=>e=.returned (.bool true)/\Hid (Below w.heap.size w w'):=by
 obtain⟨rs,hp,hs1,hs2,hck,hZ,hl,⟨c1,hc1,m1⟩,⟨c2,hc2,m2⟩,m3⟩:=y5Y;have HPA:=y6b smA rs w (by decide) hp;unfold Mb at HPA;simp only at HPA;have hlen:rs.length=(toG rs).length:=by unfold toG;rw[List.length_map]
 have hFb:∀{W:World},Below w.heap.size w W->W.cell? ⟨1,0,none⟩=some (.iface 325 (.pointer (some fp))):=fun hb=>(hb.cell (p:=⟨1,0,none⟩) (World.block_lt_of_cell? w _ hF)).trans hF
 refine y6c rs.length rs (c1:Int) (c2:Int) _ _ _ _ rfl rfl rfl rfl w (hid HPA) (hid fun g cap W hr hb=> ?_) (hid fun g cap W hr hb=> ?_) (hid fun g cap W hr hb=> ?_)
 ·exact z6q _ _ _ tA 1000 7 (c1:Int) true W rfl (by decide) (hid fun W' hW=>z0M (by decide) hp hs1 hs2 hck hZ _ g rs.length cap fp W hr (hT.below hb hT.lt) (hFb hb) hlen 0 0 1000 tA (by omega) (by decide) (by decide) (by decide) (some 7) c1 m1 hc1 W' hW)
 ·exact z6q _ _ _ tB 1000 (-1) (c2:Int) false W rfl (by decide) (hid fun W' hW=>z0M (by decide) hp hs1 hs2 hck hZ _ g rs.length cap fp W hr (hT.below hb hT.lt) (hFb hb) hlen 0 0 1000 tB (by omega) (by decide) (by decide) (by decide) none c2 m2 hc2 W' hW)
 ·exact z0M (by decide) hp hs1 hs2 hck hZ _ g rs.length cap fp W hr (hT.below hb hT.lt) (hFb hb) hlen 2 1 9 tC (by omega) (by decide) (by decide) (by decide) (some 2) 4 m3 (by decide) W B0q
section
def BdA(F:ByteArray->Ah):Prop:=∀s,(F s).1<2^256
theorem BdA.upd{F:ByteArray->Ah}(h:BdA F){s:ByteArray}{x:Ah}(hx:x.1<2^256):BdA (Gq F s x):=fun t=>by
 unfold Gq;split
 ·exact hx
 ·exact h t
theorem BdA.zero:BdA z0A:=fun s=>by show 0<2^256;exact Nat.two_pow_pos _
theorem Af:Qj<2^256:=by unfold Qj;have:=Nat.two_pow_pos 256;omega
theorem y6e{on:Bool}{x y:Ah}(hx:x.1<2^256):(Gz on x y).1<2^256:=by
 unfold Gz;cases on with
 |false=>exact hx
 |true=>exact Nat.lt_of_le_of_lt Nat.and_le_left hx
theorem y6f{x y:Ah}(hx:x.1<2^256)(hy:y.1<2^256):(orA x y).1<2^256:=Nat.or_lt_two_pow hx hy
theorem y6g{a b c d:Int}(h:(0<=a/\a<18446744073709551616)/\(0<=b/\b<18446744073709551616)/\(0<=c/\c<18446744073709551616)/\(0<=d/\d<18446744073709551616)):cl4 a b c d<2^256:=by
 unfold cl4;exact Pk _ _ _ _ (by omega) (by omega) (by omega) (by omega)
mutual
theorem Oh(A:ByteArray->Ot){F:ByteArray->Ah}(h:BdA F):∀t:RT,RtU t->(afT A F t).1<2^256
 | .mk k T a b c d s p,hu=>by
   rw[RtU]at hu;rw[afT];by_cases h2:k=2
   ·rw[if_pos h2]
    split
    ·exact Af
    ·refine Nat.pow_lt_pow_right (by decide) ?_
     cases T.data[0]? with
     |none=>decide
     |some x=>exact x.toNat_lt
   rw[if_neg h2];by_cases h1:k=1∨k=8∨k=9
   ·rw[if_pos h1];exact Af
   rw[if_neg h1];by_cases h3:k=3
   ·rw[if_pos h3];exact y6g ⟨hu.1,hu.2.1,hu.2.2.1,hu.2.2.2.1⟩
   rw[if_neg h3];by_cases h4:k=4
   ·rw[if_pos h4];exact Af
   rw[if_neg h4];by_cases h5:k=5
   ·rw[if_pos h5];exact h T
   rw[if_neg h5];by_cases h6:k=6
   ·rw[if_pos h6];exact z6r A h s hu.2.2.2.2 _ _ Af
   rw[if_neg h6];by_cases h7:k=7
   ·rw[if_pos h7];exact z6s A h s hu.2.2.2.2 _ (Nat.two_pow_pos _)
   rw[if_neg h7];by_cases h12:k=12
   ·rw[if_pos h12];exact y6h A h s
   rw[if_neg h12];exact y6i A h s hu.2.2.2.2
theorem z6r(A:ByteArray->Ot){F:ByteArray->Ah}(h:BdA F):∀s:List RT,Xq s->∀(on:Bool) (x:Ah),x.1<2^256->(afS A F on x s).1<2^256
 |[],_,on,x,hx=>by rw[afS];exact hx
 |t::r,hu,on,x,hx=>by rw[Xq]at hu;rw[afS];exact z6r A h r hu.2 _ _ (y6e hx)
theorem z6s(A:ByteArray->Ot){F:ByteArray->Ah}(h:BdA F):∀s:List RT,Xq s->∀(x:Ah),x.1<2^256->(afA A F x s).1<2^256
 |[],_,x,hx=>by rw[afA];exact hx
 |t::r,hu,x,hx=>by rw[Xq]at hu;rw[afA];exact z6s A h r hu.2 _ (y6f hx (Oh A h t hu.1))
theorem y6h(A:ByteArray->Ot){F:ByteArray->Ah}(h:BdA F):∀s:List RT,(afN A F s).1<2^256
 |[]=>by rw[afN];exact Af
 |t::r=>by
  rw[afN];split
  ·exact z6L _
  ·exact Af
theorem y6i(A:ByteArray->Ot){F:ByteArray->Ah}(h:BdA F):∀s:List RT,Xq s->(afH A F s).1<2^256
 |[],_=>by rw[afH];exact Nat.two_pow_pos _
 |t::r,hu=>by rw[Xq]at hu;rw[afH];exact Oh A h t hu.1
end
theorem z6t:∀k,pc k 0=0
 |0=>rfl
 |k+1=>by rw[pc,z6t k,Nat.zero_testBit];rfl
theorem y6j:Jy ((0:Nat),false)=0:=by unfold Jy;rw[z6t];rfl
theorem z6u(A:ByteArray->Ot)(K:ByteArray->Ah):∀rs:List Rr,rs.reverse.foldl (Gx A) K=Cd A K rs
 |[]=>rfl
 |x::r=>by rw[List.reverse_cons,List.foldl_append,z6u A K r,Cd];rfl
structure RnA (A:ByteArray->Ot) (rs:List Rr) (K0 K:ByteArray->Ah) (l:List Rr) (b:Bool) (n:Nat):Prop where
 k:K=l.foldl (Gx A) K0
 inv:Mp A K rs
 le:Xg K rs<=Xg K0 rs
 no:b=false->K=K0/\∀x∈l,afT A K0 x.2.1=K0 x.1
 yes:b=true->Xg K rs<Xg K0 rs
 bd:BdA K
 cnt:n+Xg K rs<=257*rs.length
section
variable {A:ByteArray->Ot} {rs:List Rr} {K0 K:ByteArray->Ah} {l:List Rr} {b:Bool} {n:Nat}
theorem RnA.start(hb:BdA K0)(h:Mp A K0 rs)(hc:n+Xg K0 rs<=257*rs.length):RnA A rs K0 K0 [] false n:=⟨rfl,h,Nat.le_refl _,fun _=>⟨rfl,fun x hx=>by simp at hx⟩,(fun h=>by cases h),hb,hc⟩
theorem RnA.same(h:RnA A rs K0 K l b n){x:Rr}(e:afT A K x.2.1=K x.1):RnA A rs K0 K (l++[x]) b n:=by
 refine⟨?_,h.inv,h.le,fun hb=>⟨(h.no hb).1,fun y hy=> ?_⟩,h.yes,h.bd,h.cnt⟩
 ·rw[List.foldl_append,<-h.k,List.foldl_cons,List.foldl_nil,Gx]
  exact(y0T e).symm
 ·rcases List.mem_append.1 hy with hy|hy
  ·exact(h.no hb).2 y hy
  ·obtain rfl:y=x:=by simpa using hy
   rw[<-(h.no hb).1];exact e
theorem RnA.new(h:RnA A rs K0 K l b n){x:Rr}(hx:x∈rs)(hbt:(afT A K x.2.1).1<2^256)(hu:∀y∈rs,y.1=x.1->y=x)(e:afT A K x.2.1≠K x.1):RnA A rs K0 (Gq K x.1 (afT A K x.2.1)) (l++[x]) true (n+1):=by
 have hle:=z3D A (h.inv x hx);have hlt:Xg (Gx A K x) rs<Xg K rs:=z3I hle h.bd (h.bd.upd hbt) hx (fun h=>e (by
  unfold Gx Gq at h;rw[if_pos rfl]at h;exact h.symm))
 have h1:=h.le;have h2:=h.cnt;refine⟨?_,y0U A hu hx h.inv,?_,(fun h=>by cases h),fun _=> ?_,h.bd.upd hbt,?_⟩
 ·rw[List.foldl_append,<-h.k]
  rfl
 ·exact Nat.le_trans (Nat.le_of_lt hlt) h1
 ·exact Nat.lt_of_lt_of_le hlt h1
 ·show n+1+Xg (Gx A K x) rs<=_
  omega
theorem RnA.last(h:RnA A rs K0 K rs.reverse b n):K=Cd A K0 rs:=h.k.trans (z6u A K0 rs)
theorem RnA.fix(h:RnA A rs K0 K rs.reverse false n):K=K0/\Mm A K0 rs:=⟨(h.no rfl).1,fun x hx=>(h.no rfl).2 x (List.mem_reverse.2 hx)⟩
end
theorem y6k(A:ByteArray->Ot)(rs:List Rr):Mp A z0A rs:=fun x hx=>⟨fun i hi=>(by rw[show(z0A x.1).1=0 from rfl,Nat.zero_testBit]at hi;cases hi),fun e=>by cases e⟩
theorem z6v:∀rs:List Rr,Xg z0A rs=257*rs.length
 |[]=>rfl
 |x::r=>by rw[Xg,z6v r,List.length_cons];have:Jy (z0A x.1)=0:=y6j;omega
end
@[reducible] def av (x:Ah):Value:=.agg #[.int .u64 (wd x.1 0:Nat),.int .u64 (wd x.1 1:Nat),.int .u64 (wd x.1 2:Nat),.int .u64 (wd x.1 3:Nat),.bool x.2]
def dA(x:Ah):DataW Unit:=.agg [.lit (.int .u64 (wd x.1 0:Nat)),.lit (.int .u64 (wd x.1 1:Nat)),.lit (.int .u64 (wd x.1 2:Nat)),.lit (.int .u64 (wd x.1 3:Nat)),.lit (.bool x.2)]
def aEl(v:Value):Option (DataW Unit×List MemPlace):=match v with
 | .agg cs=>match cs.toList with
   |[.int .u64 a,.int .u64 b,.int .u64 c,.int .u64 d,.bool e]=>some (.agg [.lit (.int .u64 a),.lit (.int .u64 b),.lit (.int .u64 c),.lit (.int .u64 d),.lit (.bool e)],[])
   |_=>none
 |_=>none
theorem z6w(x:Ah):aEl (av x)=some (dA x,[]):=rfl
theorem y6l{v:Value}{x:Ah}{ps:List MemPlace}(h:aEl v=some (dA x,ps)):v=av x:=by
 unfold aEl at h;split at h
 ·rename_i cs
  split at h
  ·rename_i a b c d e hc
   have e:=(Prod.mk.inj (Option.some.inj h)).1;simp only[dA,DataW.agg.injEq,List.cons.injEq,DataW.lit.injEq,Lit.bool.injEq,Lit.int.injEq,and_true,true_and]at e;obtain⟨rfl,rfl,rfl,rfl,rfl⟩:=e;obtain⟨l⟩:=cs;simp only at hc;subst hc;rfl
  ·cases h
 ·cases h
theorem y6m(w:World):(zeroValue 53).run prog w=.ok (av (0,false)) w:=by
 unfold av;simp only[Vx];kernel_rfl
theorem z6x:Tryz.prog.underlying 90=some (.map 9 53):=by kernel_rfl
def Na(W:World)(B:Nat)(n:Nat)(F:ByteArray->Ah):Prop:=∃D:DataW Unit,W.ownsMap prog 9 aEl B n D/\∀s,D.atKey (kls s) (dA (0,false))=dA (F s)
theorem Na.made(w:World):Na (w.alloc (.map #[] 0)) w.heap.size 0 z0A:=⟨.map [],World.ownsMap_made w _ _ _,fun s=>rfl⟩
theorem Na.kept{W W':World}{B n:Nat}{F:ByteArray->Ah}{row:Option Nat}(h:Na W B n F)(hg:W.grownBy W' row)(hne:some B≠row):Na W' B n F:=by
 obtain⟨D,h1,h2⟩:=h;exact⟨D,h1.kept hg hne,h2⟩
theorem Na.below{W W':World}{B n base:Nat}{F:ByteArray->Ah}(h:Na W B n F)(hb:Below base W W')(hB:B<base):Na W' B n F:=by
 obtain⟨D,⟨es,ck,h1,h2,h3,h4⟩,h5⟩:=h;exact⟨D,⟨es,ck,(hb.block B hB).trans h1,h2,h3,h4⟩,h5⟩
theorem Na.lt{W:World}{B n:Nat}{F:ByteArray->Ah}(h:Na W B n F):B<W.heap.size:=by
 obtain⟨D,h1,_⟩:=h;exact h1.lt
theorem Na.look{W:World}{B n:Nat}{F:ByteArray->Ah}(h:Na W B n F){s:ByteArray}(hs:s.size<=maxLen):(Instr.lookup 90 (.map (some B)) (.string s) false).run prog W=.ok (av (F s)) W:=by
 obtain⟨D,h1,h2⟩:=h;obtain⟨v,ps,h3,h4⟩:=h1.lookup Gp z6x (y6m W) (z6w (0,false)) (Gc hs);rw[h2 s]at h4;rw[h3,y6l h4]
theorem Na.put{W:World}{B n:Nat}{F:ByteArray->Ah}(h:Na W B n F){s:ByteArray}(hs:s.size<=maxLen)(x:Ah)(hn:n<maxLen):∃W',(Instr.mapUpdate 90 (.map (some B)) (.string s) (av x)).run prog W=.ok () W'/\Na W' B (n+1) (Gq F s x)/\W.grownBy W' (some B):=by
 obtain⟨D,h1,h2⟩:=h;obtain⟨W',h3,h4,h5⟩:=h1.update Gp z6x hn (Gc hs) (z6w x);refine⟨W',h3,⟨_,h4,fun t=> ?_⟩,h5⟩;unfold Gq;by_cases e:t=s
 ·subst e
  rw[if_pos rfl,Maps.atKey_put_same h1.isMap (Lg _)]
 ·rw[if_neg e,Maps.atKey_put_other (fun h=>e (z0p h)),h2 t]
end Go.Proofs.YtgmcjddjdidpjaaGreatDoor
