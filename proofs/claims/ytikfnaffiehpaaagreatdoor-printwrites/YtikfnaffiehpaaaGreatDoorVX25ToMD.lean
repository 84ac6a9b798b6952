/- Lemmas for the last text. Conditions: those that each names. -/
import Derived.Test.YtikfnaffiehpaaaGreatDoorVX24
import Derived.Test.YtikfnaffiehpaaaGreatDoorVEAs2ToX16
import Derived.Test.YtikfnaffiehpaaaGreatDoorVM9ToMB
import Derived.Test.YtikfnaffiehpaaaGreatDoorVY14ToZ8
set_option linter.unusedVariables false
set_option maxRecDepth 100000
set_option maxHeartbeats 16000000
namespace Go.Proofs.YtikfnaffiehpaaaGreatDoor
open Go.Proofs.Tryz
open Go.RowKit
def y1V(r:Tr)(w:World)(e:Ending)(w':World):Prop:=
 match r with
 | .inr l=>∃v,e=.returned (.tuple #[v,.int .i64 0,.int .i64 0])/\Hid (w'.ownsRow w.heap.size 83 7 v l.length (tvs l))/\Hid (Below w.heap.size w w')
 | .inl c=>e=.returned (.tuple #[.slice none 0 0,.int .i64 (c.2:Int),.int .i64 (c.1:Int)])/\Below w.heap.size w w'
theorem y1W(S:ByteArray)(w:World)(hS:8192<S.size):
  Calls prog 41 #[.string S] w fun e w'=>e=.returned (.tuple #[.slice none 0 0,.int .i64 (-1),.int .i64 2])/\w'=w:=by
 have c0:decide ((8192:Int)<(S.size:Int))=true:=by simp;omega
 go_enter func41,ntmps41
 go_wp2_with fail
 go_ret3
 exact⟨rfl,rfl⟩
theorem y1X{p:Nat}{b:Bool×(Nat×Nat)}(h:b.2.1=2∨b.2.1=3∨b.2.1=4):(((wrg p b).1:Nat):Int)≠0:=by
 unfold wrg;split
 ·simp only;omega
 ·omega
theorem y1Y(S:ByteArray)(w:World)(hS:S.size<=8192):
  Calls prog 41 #[.string S] w fun e w'=>y1V (tkS S) w e w':=by
 obtain⟨iT,hiT,hzT0,hzT1,hzT2⟩:=info_parts Tryz.infoTok;obtain⟨R,hR⟩:∃R,R=tks S (sb S 0) []:=⟨_,rfl⟩;have HA:Hid (tkS S=tkE S R):=by show _=_;rw[hR];rfl
 have HR:Hid (tks S (sb S 0) []=R):=hR.symm;have hs0:=Np (S:=S) (n:=0) (Nat.zero_le _);have HK:Hid (∀(k:Nat) (w:World),k<=S.size->Calls prog 62 #[.string S,.int .i64 k] w fun e w'=>e=.returned (.int .i64 ((sb S k:Nat):Int))/\w'=w):=fun k w hk=>y1C S k w hk (by omega)
 have c0:decide ((8192:Int)<(S.size:Int))=false:=by simp;omega
 clear hR;go_enter func41,ntmps41
 go_wp2_with fail
 refine(HK.out 0 _ (Nat.zero_le _)).mono ?_;rintro e w1 ⟨rfl,hw1⟩;rw[hw1];clear hw1
 go_wp2_with fail
 go_loopw [5,6] (fun v a wr=>∃(k:Nat) (acc:List Tok),a=.int .i64 k/\k<=S.size/\acc.length<=k/\Hid (tks S k acc=R)/\Hid (Lt w v acc wr)) (fun _ a _=>S.size-(intOf a).toNat)
 case atStart=>exact⟨sb S 0,[],rfl,hs0.2,by simp,HR,hid ⟨hid B0q,hid (World.ownsRow_nil _ _ _ _)⟩⟩
 case round=>
  obtain⟨k,acc,rfl,hks,hal,HM,HL⟩:=hrel;clear HR c0;cases hb:bt S k with
  |none=>
   have hge:=Qm hb;have a0:decide ((k:Int)<(S.size:Int))=false:=by simp;omega
   have HF:Hid (tkS S=.inr (acc++[(6,{data:=#[]},0,S.size)])):=by
    show _=_;rw[HA.out,<-HM.out,Ij hge];rfl
   have hsz:w.heap.size<=wr.heap.size:=HL.out.1.out.size;clear hb HM
   go_wp2_with(first|(at_builtin;refine wpList_append_own _ rfl (.tmp 37) (.tmp 41) 64 rfl w.heap.size 83 iT (.agg #[.int .i64 0,.string ⟨#[]⟩,.int .u64 0,.int .u64 0,.int .u64 0,.int .u64 0,.int .i64 0]) 7 64 Tryz.underlying64 hiT hzT0 hzT1 hzT2 rfl (by decide) _ _ _ rfl (HL.out.2.out.alloc _) ⟨wr.heap.size,0,none⟩ 1 1 (tvs [(6,{data:=#[]},0,S.size)]) rfl rfl (by simpa [tvs,Yz]using Ik wr _ _ _ _ _ _ _ 83) (Iv _ _ _ _ _ _ _) (by unfold maxLen;omega) (by omega) (by simp;omega) ?_;intro v3 w3 hown3 hgr3 hnil3))
   go_ret3
   rw[HF.out];exact⟨_,rfl,hid (by rw[Nc,List.length_append];exact hown3),hid ((HL.out.1.out.alloc hsz _).grown hgr3 (by simp;omega) (fun y e=>(HL.out.2.out.lt y e).1))⟩
  |some x=>
   have hlt:=(Qx hb).1;have a0:decide ((k:Int)<(S.size:Int))=true:=by simp;omega
   have HT:Hid (∀w:World,Calls prog 63 #[.string S,.int .i64 k] w fun e w'=>e=.returned (q3r (Zp S k x) k)/\Below w.heap.size w w'):=fun w=>y1U S k x w hb (by omega)
   cases ht:Zp S k x with
   |inl b=>
    have HF:Hid (tkS S=.inl (wrg k b)):=by
     show _=_;rw[HA.out,<-HM.out,z1t hb ht];rfl
    have hwr:=z1r hb ht;obtain⟨c,hc⟩:∃c,c=wrg k b:=⟨_,rfl⟩;have hc0:(((c.1:Nat):Int) != 0)=true:=by rw[bne_iff_ne,hc];exact y1X hwr.1
    rw[ht]at HT;unfold q3r at HT;simp only at HT;rw[<-hc]at HT HF;clear hb ht HM hwr hc
    go_wp2_with fail
    refine(HT.out _).mono ?_;rintro e w2 ⟨rfl,hb2⟩;have HB2:Hid (Below w.heap.size w w2):=HL.out.1.out.trans (hb2.mono HL.out.1.out.size);clear hb2 HL HT
    go_wp2_with fail
    go_ret3
    rw[HF.out];exact⟨rfl,HB2.out.alloc HB2.out.size _⟩
   |inr r=>
    obtain⟨t,n⟩:=r;obtain⟨q1,q2,q3,q4,q5,q6,q7⟩:=Nh hb ht;have HM2:Hid (tks S (sb S n) (acc++[t])=R):=by show _=_;rw[<-HM.out,Sx hb ht]
    have hsn:=Np (S:=S) (n:=n) q2;rw[ht]at HT;unfold q3r at HT;simp only at HT;clear hb ht HM
    go_wp2_with fail
    refine(HT.out _).mono ?_;rintro e w2 ⟨rfl,hb2⟩;have HL2:=hid (HL.out.keep hb2);clear hb2 HL HT;obtain⟨kd,T,C,p⟩:=t;have q4':p=k:=q4;rw[q4']at HM2 ⊢;clear q4 q4';dsimp only[tkv];have hsz:w.heap.size<=w2.heap.size:=HL2.out.1.out.size
    go_wp2_with(first|(at_builtin;refine wpList_append_own _ rfl (.tmp 30) (.tmp 32) 64 rfl w.heap.size 83 iT (.agg #[.int .i64 0,.string ⟨#[]⟩,.int .u64 0,.int .u64 0,.int .u64 0,.int .u64 0,.int .i64 0]) 7 64 Tryz.underlying64 hiT hzT0 hzT1 hzT2 rfl (by decide) _ _ _ rfl ((HL2.out.2.out.alloc _).alloc _) ⟨w2.heap.size+1,0,none⟩ 1 1 (tvs [(kd,T,C,k)]) rfl rfl (by have:=Ik (w2.alloc (.cells #[.int .i64 kd,.string T,.int .u64 (wd C 0),.int .u64 (wd C 1),.int .u64 (wd C 2),.int .u64 (wd C 3),.int .i64 k] 83));simpa [tvs]using this _ _ _ _ _ _ _ 83) (Iv _ _ _ _ _ _ _) (by unfold maxLen;omega) (by omega) (by simp;omega) ?_;intro v3 w3 hown3 hgr3 hnil3))
    have HL3:Hid (Lt w v3 (acc++[(kd,T,C,k)]) w3):=by
     refine⟨hid (((HL2.out.1.out.alloc hsz _).alloc (by simp;omega) _).grown hgr3 (by simp;omega) (fun y e=>(HL2.out.2.out.lt y e).1)),hid ?_⟩;rw[Nc,List.length_append];exact hown3
    clear hown3 hgr3 hnil3 HL2;have HKn:=hid (HK.out n w3 q2);refine HKn.out.mono ?_;rintro e w4 ⟨rfl,hw4⟩;rw[hw4];clear hw4
    go_wp2_with fail
    go_roundw
    case rel=>exact⟨sb S n,acc++[(kd,T,C,k)],rfl,hsn.2,by simp;omega,HM2,HL3⟩
    case measure=>simp[intOf];omega
def Xu(D:Nat)(r:(Nat×Nat) ⊕ (Rl×Nat))(w4:World)(cs:List Value)(k1:Nat)(c1 q1:Int):Prop:=
 match r with
 | .inr (x,k')=>Yg w4 (fun g=>D<=g) x cs/\k1=k'/\c1=0/\q1=0
 | .inl _=>c1≠0
def RuQ(D:Nat)(r:(Nat×Nat) ⊕ (Rl×Nat))(R b:Nat)(v:Value)(L:List Tok)(W:World)(e:Ending)(w':World):Prop:=
 ∃(Tt:ByteArray) (kd:Int) (T2:ByteArray) (a0 a1 a2 a3:Int) (so:Option Addr) (sl sc:Nat) (q2 pt:Int) (k1:Nat) (c1 q1:Int),e=.returned (.agg [.string Tt,.int .i64 kd,.string T2,.int .u64 a0,.int .u64 a1,.int .u64 a2,.int .u64 a3,.slice so sl sc,.int .i64 q2,.int .i64 pt].toArray)/\
  Hid (Xu D r w' [.string Tt,.int .i64 kd,.string T2,.int .u64 a0,.int .u64 a1,.int .u64 a2,.int .u64 a3,.slice so sl sc,.int .i64 q2,.int .i64 pt] k1 c1 q1)/\Hid (k1<L.length/\(c1=0->q1=0))/\Hid (RdZ w' R b v L k1 0 c1 q1)/\Hid (W.grownBy w' (some R))
theorem z4i{r:(Nat×Nat) ⊕ (Rl×Nat)}{R b D:Nat}{v:Value}{L:List Tok}{W w':World}{e:Ending}(hr:∀x k',r=.inr (x,k')->k'<L.length)(h:Kk r D R b v L W e w'):RuQ D r R b v L W e w':=by
 cases r with
 |inl x=>
  obtain⟨Tt,kd,T2,a0,a1,a2,a3,so,sl,sc,q2,pt,rfl,hx,hg⟩:=h;obtain⟨k1,c,q,h1,h2,h3⟩:=hx.out;exact⟨Tt,kd,T2,a0,a1,a2,a3,so,sl,sc,q2,pt,k1,c,q,rfl,hid h2,hid ⟨h1,fun e=>absurd e h2⟩,hid h3,hg⟩
 |inr y=>
  obtain⟨x,k'⟩:=y;obtain⟨cs,rfl,hn,hR,hg⟩:=h;obtain⟨N,kd,T,C,so,sl,sc,p,q,hcs⟩:=hn.out.shape;subst hcs;exact⟨N,(kd:Int),T,(wd C 0:Nat),(wd C 1:Nat),(wd C 2:Nat),(wd C 3:Nat),so,sl,sc,(p:Int),(q:Int),k',0,0,rfl,hid ⟨hn.out,rfl,rfl,rfl⟩,hid ⟨hr x k' rfl,fun _=>rfl⟩,hR,hg⟩
theorem y1Z(R b:Nat)(v:Value)(L:List Tok)(k ru B:Nat)(w:World)(hg:Qv L)(h0:Tk0 L)(h:RdZ w R b v L k 0 0 0)(hk:k<L.length)(hru:ru≠64∨(gL L k).1≠1)(hB:B<=w.heap.size):
  Calls prog 43 #[.pointer (some ⟨R,0,none⟩)] w fun e w'=>Kk (ruS L ru k) B R b v L w e w':=by
 have hce:∀(k:Nat),k<L.length->∀(x:Nat×Nat) (W:World) (c q:Int),RdZ W R b v L k 0 c q->c≠0->Calls prog 67 #[.pointer (some ⟨R,0,none⟩)] W fun e w'=>Gz (Xp (w.heap.size+1) (.inl x)) R b v L 0 W e w':=fun k hk x W c q hW hc=>
  (z0i R b v L k 0 c q W hW hc hk hg).mono fun e w' hA=>Kj (r:=.inl x) (fun n k' e=>by cases e) hA
 unfold ruS;by_cases h1:(gL L k).1=1
 ·rw[if_neg (by rw[h1];decide),if_neg (by omega)]
  by_cases h2:(gL L (k+1)).1=2
  ·rw[if_neg (by rw[h2];decide)]
   have hk1:k+1<L.length:=hg.nxt k hk (by rw[h1];decide);have hk2:k+1+1<L.length:=hg.nxt (k+1) hk1 (by rw[h2];decide);exact y0W R b v L k B w hg h1 h2 (hid fun W hW hs=>(z4e R b v L hg h0 24 0 rfl (k+2) (w.heap.size+1) W hW hk2 trivial hs).mono fun e w' hA=>Kj (fun n k' e=>(Cy hg (Dd hg 24) hk2 e).2) hA) h hk hB
  ·rw[if_pos h2]
   have hk1:k+1<L.length:=hg.nxt k hk (by rw[h1];decide);exact y0Y R b v L k B w hg h1 h2 _ (hid (hce (k+1) hk1 _)) h hk hB
 ·rw[if_pos h1]
  exact z4f R b v L k B 0 0 w hg (by rw[show nT L k 0=gL L k from if_pos rfl];exact h1) (fun _=>rfl) _ (hid (hce k hk _)) h hk hB
theorem y2a(R b:Nat)(v:Value)(L:List Tok)(k B:Nat)(c q:Int)(x:Nat×Nat)(w:World)(hg:Qv L)(h:RdZ w R b v L k 0 c q)(hc:c≠0)(hk:k<L.length)(hB:B<=w.heap.size):
  Calls prog 43 #[.pointer (some ⟨R,0,none⟩)] w fun e w'=>Kk (.inl x) B R b v L w e w':=
 z4f R b v L k B c q w hg (by rw[show nT L k c=(6,{data:=#[]},0,0)from if_neg hc];show(6:Nat)≠1;decide) (fun e=>absurd e hc) x
  (hid fun W c q hW hc=>(z0i R b v L k 0 c q W hW hc hk hg).mono fun e w' hA=>Kj (r:=.inl x) (fun n k' e=>by cases e) hA) h hk hB
def Jg(L:List Tok)(RES:(Nat×Nat) ⊕ List Rl)(B m:Nat)(xs:List Value)(j:Nat)(c q:Int)(wr:World):Prop:=
 (c=0/\q=0/\∃acc:List Rl,m=acc.length/\Zv wr (fun g=>B<=g) acc xs/\((acc=[]/\j=0)∨(acc≠[]/\acc.length<=64/\∃f,L.length<=f+j/\Zy L f j acc=RES)))∨(c≠0/\∃x,RES=.inl x)
theorem Jg.kept{L:List Tok}{RES:(Nat×Nat) ⊕ List Rl}{B m j:Nat}{xs:List Value}{c q:Int}{W W':World}(h:Jg L RES B m xs j c q W)(hk:∀g cur,B<=g->W.heap[g]? =some (.cells cur 30)->W'.heap[g]? =W.heap[g]?):Jg L RES B m xs j c q W':=by
 rcases h with⟨h1,h2,acc,h3,h4,h5⟩|h
 ·exact .inl ⟨h1,h2,acc,h3,Zv.kept (fun g cur hp hq=>⟨hk g cur hp hq,hp⟩) _ _ h4,h5⟩
 ·exact .inr h
theorem Jg.step{L:List Tok}{B m j D:Nat}{xs:List Value}{a a':Value}{W W2 W3 W4:World}{cs:List Value}{k1:Nat}{c1 q1:Int}
  (hg:Qv L)(hj:j<L.length)(hp:m=0∨(gL L j).1≠6)(h:Jg L (Zf L) B m xs j 0 0 W)(ho:W2.ownsRow B 50 10 a m xs)(hkp:∀g cur,B<=g->W.heap[g]? =some (.cells cur 30)->W2.heap[g]? =W.heap[g]?)(hD:B<=D)
  (hX:Xu D (ruS L m j) W2 cs k1 c1 q1)(hb:Below W2.heap.size W2 W3)(hown:W4.ownsRow B 50 10 a' (m+1) (xs++cs))(hgr4:W3.grownBy W4 a.ownBlock):
  Jg L (Zf L) B (m+1) (xs++cs) k1 c1 q1 W4:=by
 rcases h with⟨_,_,acc,rfl,h4,h5⟩|⟨h,_⟩
 ·have h42:Zv W2 (fun g=>B<=g) acc xs:=Zv.kept (fun g cur hp hq=>⟨hkp g cur hp hq,hp⟩) _ _ h4
  cases hs:ruS L acc.length j with
  |inl x=>
   rw[hs]at hX;refine .inr ⟨hX,x,?_⟩;rcases h5 with⟨rfl,rfl⟩|⟨hne,h64,f,hf,hr⟩
   ·unfold Zf
    rw[show ruS L 0 0=.inl x from hs];rfl
   ·have h6:(gL L j).1≠6:=by
     rcases hp with h|h
     ·exact absurd (List.eq_nil_of_length_eq_zero h) hne
     ·exact h
    cases f with
    |zero=>omega
    |succ f=>
     rw[Zy,if_neg h6,hs]at hr;exact hr.symm
  |inr y=>
   obtain⟨x,k'⟩:=y;rw[hs]at hX;obtain⟨hn,rfl,rfl,rfl⟩:=hX;have hadv:=Nl hg hj hs;have h64':=Sf hs;obtain⟨zs,hz1,hz2⟩:=RoR.app ho h42 hn hD hb hown hgr4;have hzx:zs=xs++cs:=z0g hz1 (by rw[List.length_append];exact hown);rw[hzx]at hz2;refine .inl ⟨rfl,rfl,acc++[x],by simp,hz2,.inr ⟨by simp,?_,?_⟩⟩
   ·rcases h5 with⟨rfl,rfl⟩|⟨hne,h64,f,hf,hr⟩
    ·simp
    ·simp;omega
   ·rcases h5 with⟨rfl,rfl⟩|⟨hne,h64,f,hf,hr⟩
    ·refine⟨L.length,by omega,?_⟩
     unfold Zf;rw[show ruS L 0 0=.inr (x,k1)from hs];rfl
    ·have h6:(gL L j).1≠6:=by
      rcases hp with h|h
      ·exact absurd (List.eq_nil_of_length_eq_zero h) hne
      ·exact h
     cases f with
     |zero=>omega
     |succ f=>
      rw[Zy,if_neg h6,hs]at hr;exact⟨f,by omega,hr⟩
 ·exact absurd rfl h
def Om(r:(Nat×Nat) ⊕ List Rl)(w:World)(e:Ending)(w':World):Prop:=
 match r with
 | .inr rs=>∃g cap,e=.returned (.tuple #[.agg #[.slice (some ⟨g,0,none⟩) rs.length cap],.int .i64 0,.int .i64 0])/\Hid (RoR w.heap.size (.slice (some ⟨g,0,none⟩) rs.length cap) rs w')/\Hid (Below w.heap.size w w')
 | .inl _=>∃q c,c≠0/\e=.returned (.tuple #[.agg #[.slice none 0 0],.int .i64 q,.int .i64 c])/\Hid (Below w.heap.size w w')
section
theorem Gq{w:World}{g:Nat}{a:Value}{t:TypeId}(h:w.heap[g]? =some (.cells #[a] t)):w.cell? ⟨g,0,none⟩=some a/\w.frozen? ⟨g,0,none⟩=false:=by
 refine⟨?_,?_⟩<;>simp[World.cell?,World.frozen?,h]
structure PqZ (w:World) (R b:Nat) (v:Value) (L:List Tok) (j:Nat) (c q:Int) (m:Nat) (xs:List Value) (a:Value) (W:World):Prop where
 rd:RdZ W R b v L j 0 c q
 be:Below w.heap.size w W
 qz:W.heap[w.heap.size]? =some (.cells #[.slice none 0 0] 24)
 gb:W.heap[R+1]? =some (.cells #[a] 24)
 ow:W.ownsRow (R+1+1) 50 10 a m xs
 vv:∀g,R<=g->v.ownBlock≠some g
 lt:w.heap.size<R
section
variable {w W W':World} {R b:Nat} {v:Value} {L:List Tok} {j k1:Nat} {c q c1 q1:Int} {m:Nat} {xs:List Value} {a a':Value}
theorem PqZ.size(h:PqZ w R b v L j c q m xs a W):R+1<W.heap.size:=Qz h.gb
theorem PqZ.grown(h:PqZ w R b v L j c q m xs a W)(hr:RdZ W' R b v L k1 0 c1 q1)(hg:W.grownBy W' (some R)):PqZ w R b v L k1 c1 q1 m xs a W':=by
 have h1:=h.lt;have h2:=h.size;refine⟨hr,⟨hg.os.trans h.be.os,hg.tape.trans h.be.tape,hg.output.trans h.be.output,Nat.le_trans h.be.size hg.size,fun i hi=>(hg.block i (by have:=h.be.size;omega) (fun e=>by have:=Option.some.inj e;omega)).trans (h.be.block i hi)⟩,(hg.block _ (by omega) (fun e=>by have:=Option.some.inj e;omega)).trans h.qz,(hg.block _ (by omega) (fun e=>by have:=Option.some.inj e;omega)).trans h.gb,h.ow.kept hg (.inr (fun e=>by have:=(h.ow.lt _ e).1;omega)),h.vv,h.lt⟩
theorem PqZ.below(h:PqZ w R b v L j c q m xs a W)(hb:Below W.heap.size W W'):PqZ w R b v L j c q m xs a W':=h.grown (h.rd.below hb) (G.below hb)
theorem PqZ.alloc(h:PqZ w R b v L j c q m xs a W)(o:Obj):PqZ w R b v L j c q m xs a (W.alloc o):=h.below (B0q.alloc L0q _)
theorem PqZ.app{ys:List Value}(h:PqZ w R b v L j c q m xs a W)(hgr:W.grownBy W' a.ownBlock)(hown:W'.ownsRow (R+1+1) 50 10 a' (m+1) ys):PqZ w R b v L j c q (m+1) ys a' (W'.setCell ⟨R+1,0,none⟩ a'):=by
 have h1:=h.lt;have h2:=h.size;have hne:∀i,i<=R+1->some i≠a.ownBlock:=fun i hi e=>by have:=(h.ow.lt i e.symm).1;omega
 have hk:∀i,i<=R+1->W'.heap[i]? =W.heap[i]? :=fun i hi=>hgr.block i (by omega) (hne i hi)
 have hs:∀i,i≠R+1->(W'.setCell ⟨R+1,0,none⟩ a').heap[i]? =W'.heap[i]? :=fun i hi=>Below.heap_setCell _ _ _ _ hi
 have hvv:v.ownBlock=none∨v.ownBlock≠a.ownBlock:=by
  cases hv:v.ownBlock with
  |none=>exact .inl rfl
  |some g=>exact .inr (fun e=>h.vv g (by have:=(h.ow.lt g e.symm).1;omega) hv)
 have hset:W'.grownBy (W'.setCell ⟨R+1,0,none⟩ a') (some (R+1)):=⟨rfl,rfl,rfl,by simp,fun i hi hne=>Below.heap_setCell _ _ _ _ (fun e=>hne (by rw[e]))⟩;refine⟨⟨(hs R (by omega)).trans ((hk R (by omega)).trans h.rd.1),(h.rd.2.kept hgr hvv).kept hset (.inr (h.vv (R+1) (by omega)))⟩,⟨hgr.os.trans h.be.os,hgr.tape.trans h.be.tape,hgr.output.trans h.be.output,by have:=hgr.size;have:=h.be.size;simp;omega,fun i hi=>(hs i (by omega)).trans ((hk i (by omega)).trans (h.be.block i hi))⟩,(hs _ (by omega)).trans ((hk _ (by omega)).trans h.qz),?_,hown.kept hset (.inr (fun e=>by have:=(hown.lt _ e).1;omega)),h.vv,h.lt⟩;have hb:W'.heap[R+1]? =some (.cells #[a] 24):=(hk _ L0q).trans h.gb;simp only[World.setCell,Array.getElem?_modify,if_true];rw[hb];simp
end
def msG(L:List Tok)(R:Nat)(wr:World):Nat:=if intOf ((wr.cell? ⟨R,3,none⟩).getD (.int .i64 0))=0 then L.length-Xy R wr+1 else 0
theorem El{w:World}{R b:Nat}{v:Value}{L:List Tok}{k dp:Nat}{c q:Int}(h:RdZ w R b v L k dp c q):msG L R w=if c=0 then L.length-k+1 else 0:=by
 unfold msG;rw[Ec h,h.cells.2.2.2.1];by_cases hc:c=0
 ·rw[if_pos hc,if_pos (by simpa [intOf]using hc)]
 ·rw[if_neg hc,if_neg (by simpa [intOf]using hc)]
theorem Xu.adv{L:List Tok}(hg:Qv L){D j m:Nat}(hj:j<L.length){W:World}{cs:List Value}{k1:Nat}{c1 q1:Int}(h:Xu D (ruS L m j) W cs k1 c1 q1)(hc:c1=0):j<k1/\k1<L.length:=by
 cases hs:ruS L m j with
 |inl x=>rw[hs]at h;exact absurd hc h
 |inr y=>
  obtain⟨x,k'⟩:=y;rw[hs]at h;obtain⟨_,rfl,_⟩:=h;have:=Nl hg hj hs;omega
theorem y2b{w:World}{b b' e size n:Nat}{v:Value}{xs:List Value}(h:w.ownsRow b e size v n xs)(hle:b'<=b):w.ownsRow b' e size v n xs:=by
 obtain⟨h1,h2|⟨g,cap,cur,h3,h4,h5⟩⟩:=h
 ·exact⟨h1,.inl h2⟩
 ·exact⟨h1,.inr ⟨g,cap,cur,h3,by omega,h5⟩⟩
theorem Oc(w:World)(o:Obj)(a b c d e f g h i k:Value)(t:TypeId):∀j x,[a,b,c,d,e,f,g,h,i,k][j]? =some x->((w.alloc o).alloc (.cells #[a,b,c,d,e,f,g,h,i,k] t)).cell? ((⟨w.heap.size+1,0,none⟩:Addr).add j)=some x:=by
 have:=Sy (w.alloc o) a b c d e f g h i k t;rw[World.size_alloc]at this;exact this
theorem Hz(N:ByteArray)(a:Int)(T:ByteArray)(c0 c1 c2 c3:Int)(so:Option Addr)(sl sc:Nat)(p q:Int):∀u∈[Value.string N,Value.int .i64 a,.string T,.int .u64 c0,.int .u64 c1,.int .u64 c2,.int .u64 c3,.slice so sl sc,.int .i64 p,.int .i64 q],u.oneCell'=true:=z1G N a T c0 c1 c2 c3 so sl sc p q
theorem y2c(S:ByteArray)(L:List Tok)(w:World)(hg:Qv L)(h0:Tk0 L)(hl0:0<L.length)
  (HT:Hid (∀W:World,Calls prog 41 #[.string S] W fun e w'=>∃v,e=.returned (.tuple #[v,.int .i64 0,.int .i64 0])/\Hid (w'.ownsRow W.heap.size 83 7 v L.length (tvs L))/\Hid (Below W.heap.size W w'))):
  Calls prog 26 #[.string S] w fun e w'=>Om (Zf L) w e w':=by
 obtain⟨iT,hiT,hzT0,hzT1,hzT2⟩:=info_parts Tryz.infoRl;have hll:=hg.len;have HGd:=hid hg;have HTk:=hid h0;clear h0 hg;go_enter func26,ntmps26
 go_wp2_with fail
 refine(HT.out _).mono ?_;rintro e w1 ⟨v,rfl,HO1,HB1⟩;obtain⟨gv,capv,rfl⟩:=Xl HO1.out (by omega);have HP0:Hid (PqZ w w1.heap.size (w.alloc (.cells #[.slice none 0 0] 24)).heap.size (.slice (some ⟨gv,0,none⟩) L.length capv) L 0 0 0 0 [] (.slice none 0 0) ((w1.alloc (.cells #[(.slice (some ⟨gv,0,none⟩) L.length capv),.int .i64 0,.int .i64 0,.int .i64 0,.int .i64 0] 81)).alloc (.cells #[.slice none 0 0] 24))):=by
  have hs:w.heap.size<w1.heap.size:=by have:=HB1.out.size;simp at this;omega
  have hb2:Below w1.heap.size w1 ((w1.alloc (.cells #[(.slice (some ⟨gv,0,none⟩) L.length capv),.int .i64 0,.int .i64 0,.int .i64 0,.int .i64 0] 81)).alloc (.cells #[.slice none 0 0] 24)):=((Below.refl _ w1).alloc L0q _).alloc (by simp) _;have hbw:Below w.heap.size w w1:=((Below.refl _ w).alloc L0q _).trans (HB1.out.mono (by simp));refine⟨⟨(Below.heap_alloc _ _ _ (by simp)).trans (Qq w1 _ rfl),Vz HO1.out hb2⟩,hbw.trans (hb2.mono hbw.size),(hb2.block _ hs).trans ((HB1.out.block _ (by simp)).trans (Qq w _ rfl)),Qq _ _ (by simp),World.ownsRow_nil _ _ _ _,fun g hg e=>by have:=(HO1.out.lt _ e).2;omega,hs⟩
 obtain⟨b,hb⟩:∃b,b=(w.alloc (.cells #[.slice none 0 0] 24)).heap.size:=⟨_,rfl⟩;rw[<-hb]at HP0;obtain⟨R,hR⟩:∃R,R=w1.heap.size:=⟨_,rfl⟩;have HRr:=hid hR;rw[<-hR]at HP0;have HJ0:∀W,Hid (Jg L (Zf L) (R+1+1) 0 [] 0 0 0 W):=fun W=>.inl ⟨rfl,rfl,[],rfl,by rw[Zv];trivial,.inl ⟨rfl,rfl⟩⟩
 have HO:=hid (fun(m j:Nat) (W:World) (h:RdZ W R b (.slice (some ⟨gv,0,none⟩) L.length capv) L j 0 0 0) (hj:j<L.length) (hm:m≠64∨(gL L j).1≠1)=>(y1Z R b (.slice (some ⟨gv,0,none⟩) L.length capv) L j m W.heap.size W HGd.out HTk.out h hj hm L0q).mono fun e w' hA=>z4i (fun x k' e=>(Nl HGd.out hj e).2) hA);have HOe:=hid (fun(j:Nat) (x:Nat×Nat) (W:World) (c q:Int) (h:RdZ W R b (.slice (some ⟨gv,0,none⟩) L.length capv) L j 0 c q) (hc:c≠0) (hj:j<L.length)=>(y2a R b (.slice (some ⟨gv,0,none⟩) L.length capv) L j W.heap.size c q x W HGd.out h hc hj L0q).mono fun e w' hA=>z4i (r:=.inl x) (fun x k' e=>by cases e) hA);have HSt:=hid (fun(j:Nat) (W:World) (h:RdZ W R b (.slice (some ⟨gv,0,none⟩) L.length capv) L j 0 0 0) (hj:j<L.length)=>z0b R b (.slice (some ⟨gv,0,none⟩) L.length capv) L j 0 2 W h hj hll);clear hb HT HO1 HB1
 go_wp2_with fail
 rw[<-hR];clear hR HRr
 go_loopw [10] (fun xp wr=>∃(m j:Nat) (xs:List Value) (a:Value) (c q:Int),j<L.length/\m<=65/\Hid (c=0->q=0)/\Hid (Jg L (Zf L) (R+1+1) m xs j c q wr)/\Hid (PqZ w R b (.slice (some ⟨gv,0,none⟩) L.length capv) L j c q m xs a wr)) (fun _ wr=>msG L R wr)
 case atStart=>exact⟨0,0,[],.slice none 0 0,0,0,hl0,by omega,hid (fun _=>rfl),HJ0 _,HP0⟩
 case round=>
  obtain⟨m,j,xs,a,c,q,hj,hm,HQ,HJ,HP⟩:=hrel;clear HP0 HJ0;obtain⟨r0,r1,r2,r3,r4,p0,p1,p2,p3,p4⟩:=HP.out.rd.cells;obtain⟨g0,g1⟩:=Gq HP.out.gb;obtain⟨z0,z1⟩:=Gq HP.out.qz;obtain⟨sa,sca,rfl⟩:=Fg HP.out.ow;have hszR:=HP.out.rd.lt;have hszG:=HP.out.size;have hltw:=HP.out.lt;have hcapv:=Fb HP.out.rd.2;have k0:wr.cell? ⟨gv,j*7,none⟩=some (.int .i64 ((gL L j).1:Int)):=by rw[Xw hj];exact(Db HP.out.rd.2 j hj rfl).1
  have hjI:(j:Int)<(L.length:Int):=by omega
  obtain⟨kt,hkt⟩:∃kt,kt=(gL L j).1:=⟨_,rfl⟩;rw[<-hkt]at k0;have HKT:=hid hkt;have HMs:=hid (El HP.out.rd);clear hkt;by_cases hc:c=0
  ·have hq:=HQ.out hc
   subst hc hq;have hm64:m<=64:=by
    rcases HJ.out with⟨_,_,acc,h3,_,h5⟩|⟨h,_⟩
    ·rcases h5 with⟨h6,_⟩|⟨_,h6,_⟩
     ·rw[h6]at h3;simp at h3;omega
     ·omega
    ·exact absurd rfl h
   by_cases hm0:m=0
   ·subst hm0
    have HPd:=hid (HP.out.below (B0q.drew.drew));have HSz:Hid (R+1<wr.heap.size):=hszG;have HKd:Hid (∀g cur,R+1+1<=g->wr.heap[g]? =some (.cells cur 30)->(wr.drew.drew).heap[g]? =wr.heap[g]?):=fun g cur _ _=>rfl
    go_wp2_with fail
    go_region
    go_wp2_with fail
    go_region
    go_wp2_with fail
    refine(HO.out 0 j _ HPd.out.rd hj (.inl (by decide))).mono ?_;rintro e w4 ⟨Tt,kd,T2,a0,a1,a2,a3,so,sl,sc,q2,pt,k1,c1,q1,rfl,HX,HK1,hr4,hg4⟩;have HP4:=hid (HPd.out.grown hr4.out hg4.out);have HKp:Hid (∀g cur,R+1+1<=g->wr.heap[g]? =some (.cells cur 30)->w4.heap[g]? =wr.heap[g]?):=fun g cur hgg hq=>(hg4.out.block g (Qz hq) (fun e=>by have:=Option.some.inj e;omega)).trans (HKd.out g cur hgg hq)
    clear r0 r1 r2 r3 r4 p0 p1 p2 p3 p4 g0 g1 z0 z1 k0 hr4 hg4 hszR hszG HPd HKd;obtain⟨g0,g1⟩:=Gq HP4.out.gb;have hszG:=HP4.out.size
    go_wp2_with(first|(at_builtin;refine wpList_append_own_at _ rfl (.tmp 73) (.tmp 75) 22 rfl (R+1+1) 50 iT (.agg #[.string ⟨#[]⟩,.int .i64 0,.string ⟨#[]⟩,.int .u64 0,.int .u64 0,.int .u64 0,.int .u64 0,.slice none 0 0,.int .i64 0,.int .i64 0]) 10 112 Tryz.underlying22 hiT hzT0 hzT1 hzT2 rfl (by decide) _ _ _ rfl ((HP4.out.ow.alloc _).alloc _) ⟨w4.heap.size+1,0,none⟩ 1 1 [.string Tt,.int .i64 kd,.string T2,.int .u64 a0,.int .u64 a1,.int .u64 a2,.int .u64 a3,.slice so sl sc,.int .i64 q2,.int .i64 pt] rfl rfl (Oc w4 _ _ _ _ _ _ _ _ _ _ _ 50) (Hz _ _ _ _ _ _ _ _ _ _ _ _) (by unfold maxLen;omega) (by omega) (by have:=HP4.out.size;simp;omega) ?_;intro v7 w7 hown7 hgr7 hnil7 hat7;obtain⟨sa7,sc7,rfl⟩:=Fg hown7;have hG7:w7.heap[R+1]? =some (.cells #[.slice sa 0 sca] 24):=(hgr7.block _ (by simp;omega) (fun e=>by have:=(HP4.out.ow.lt _ e.symm).1;omega)).trans ((Below.heap_alloc _ _ _ (by simp;omega)).trans ((Below.heap_alloc _ _ _ (by omega)).trans HP4.out.gb));obtain⟨g2,g3⟩:=Gq hG7;have hs7:=Qz hG7))
    have HB3:Hid (Below w4.heap.size w4 ((w4.alloc (.cells #[.string Tt,.int .i64 kd,.string T2,.int .u64 a0,.int .u64 a1,.int .u64 a2,.int .u64 a3,.slice so sl sc,.int .i64 q2,.int .i64 pt] 50)).alloc (.cells #[.string Tt,.int .i64 kd,.string T2,.int .u64 a0,.int .u64 a1,.int .u64 a2,.int .u64 a3,.slice so sl sc,.int .i64 q2,.int .i64 pt] 50))):=((Below.refl _ w4).alloc L0q _).alloc (by simp) _;have HJ7:=hid (Jg.step HGd.out hj (.inl rfl) HJ.out HP4.out.ow HKp.out (D:=wr.drew.drew.heap.size) (show R+1+1<=wr.heap.size by have:=HSz.out;omega) HX.out HB3.out hown7 hgr7);have HAv:=hid (fun hc=>Xu.adv HGd.out hj HX.out hc);have HP8:=hid (((HP4.out.alloc (.cells #[.string Tt,.int .i64 kd,.string T2,.int .u64 a0,.int .u64 a1,.int .u64 a2,.int .u64 a3,.slice so sl sc,.int .i64 q2,.int .i64 pt] 50)).alloc (.cells #[.string Tt,.int .i64 kd,.string T2,.int .u64 a0,.int .u64 a1,.int .u64 a2,.int .u64 a3,.slice so sl sc,.int .i64 q2,.int .i64 pt] 50)).app hgr7 hown7);have HJ8:Hid (Jg L (Zf L) (R+1+1) (0+1) (xs++[.string Tt,.int .i64 kd,.string T2,.int .u64 a0,.int .u64 a1,.int .u64 a2,.int .u64 a3,.slice so sl sc,.int .i64 q2,.int .i64 pt]) k1 c1 q1 (w7.setCell ⟨R+1,0,none⟩ (.slice sa7 (0+1) sc7))):=HJ7.out.kept (fun g cur hgg hq=>Below.heap_setCell _ _ _ _ (by show g≠R+1;omega));have HMs8:=hid (El HP8.out.rd);clear hown7 hgr7 hnil7 hat7 hG7 HB3 HJ7 HP4 HKp
    (try go_wp2_with fail)
    go_roundw
    case rel=>exact⟨0+1,k1,_,_,c1,q1,HK1.out.1,by omega,hid HK1.out.2,HJ8,HP8⟩
    case measure=>
     rw[HMs8.out,HMs.out]
     first|rw[if_pos trivial]|rw[if_pos rfl]
     by_cases hc1:c1=0
     ·rw[if_pos hc1]
      have:=HAv.out hc1;omega
     ·rw[if_neg hc1]
      omega
   ·by_cases h6:kt=6
    ·subst h6
     have b0:((m:Int) == 0)=false:=by simp;omega
     clear HO HOe HSt;have hgrr:∃acc:List Rl,Zf L=.inr acc/\m=acc.length/\Zv wr (fun g=>R+1+1<=g) acc xs/\acc≠[]:=by
      rcases HJ.out with⟨_,_,acc,h3,h4,h5⟩|⟨h,_⟩
      ·rcases h5 with⟨rfl,_⟩|⟨hne,h64,f,hf,hr⟩
       ·exact absurd h3 hm0
       ·cases f with
        |zero=>omega
        |succ f=>
         rw[Zy,if_pos HKT.out.symm]at hr;exact⟨acc,hr.symm,h3,h4,hne⟩
      ·exact absurd rfl h
     obtain⟨acc,hac,hml,hrs,hne⟩:=hgrr;have HAc:=hid hac;have HMl:=hid hml;have HRs:=hid hrs;clear hac hml hrs hne;have how:=HP.out.ow;obtain⟨gr,cpr,hsl⟩:=Xl how (by omega);cases hsl;clear how
     go_wp2_with fail
     go_region
     go_wp2_with fail
     (try simp only[Exit.inBlock,Exit.then])
     have hfz:((wr.setCell ⟨w.heap.size,0,none⟩ (.slice (some ⟨gr,0,none⟩) m sca)).drew).heap[w.heap.size]? =some (.cells #[.slice (some ⟨gr,0,none⟩) m sca] 24):=by
      show(wr.setCell ⟨w.heap.size,0,none⟩ (.slice (some ⟨gr,0,none⟩) m sca)).heap[w.heap.size]? =_;simp only[World.setCell,Array.getElem?_modify,if_true];rw[HP.out.qz];simp
     obtain⟨d0,d1⟩:=Gq hfz;refine bodyPost_ret (v:=.tuple #[.agg #[.slice (some ⟨gr,0,none⟩) m sca],.int .i64 0,.int .i64 0]) (by simp[results,Tryz.results26,go_sem]at d0 ⊢;simp[d0,go_sem]) rfl ?_;rw[HAc.out,HMl.out];rw[HMl.out]at HP;have hset:wr.grownBy ((wr.setCell ⟨w.heap.size,0,none⟩ (.slice (some ⟨gr,0,none⟩) acc.length sca)).drew) (some w.heap.size):=⟨rfl,rfl,rfl,by simp,fun i hi hne=>Below.heap_setCell _ _ _ _ (fun e=>hne (by rw[e]))⟩;refine⟨gr,sca,rfl,hid ⟨xs,?_,Zv.kept (fun g cur hp hq=>⟨hset.block g (Qz hq) (fun e=>by have e2:g=w.heap.size:=Option.some.inj e;have hp':R+1+1<=g:=hp;omega),by have hp':R+1+1<=g:=hp;show w.heap.size<=g;omega⟩) _ _ HRs.out⟩,hid ?_⟩
     ·have:=HP.out.ow.kept hset (.inr (fun e=>by have:=(HP.out.ow.lt _ e).1;omega))
      exact y2b this (by omega)
     ·exact⟨hset.os.trans HP.out.be.os,hset.tape.trans HP.out.be.tape,hset.output.trans HP.out.be.output,Nat.le_trans HP.out.be.size hset.size,fun i hi=>(hset.block i (by have:=HP.out.be.size;omega) (fun e=>by have:=Option.some.inj e;omega)).trans (HP.out.be.block i hi)⟩
    ·have b0:((m:Int) == 0)=false:=by simp;omega
     have b6:((kt:Int) != 6)=true:=by rw[bne_iff_ne];omega
     by_cases h64:m=64
     ·subst h64
      by_cases h1:kt=1
      ·subst h1
       have HPd0:=hid (HP.out.below B0q.drew.drew);have HSz:Hid (R+1<wr.heap.size):=hszG;have hkz:(gL L j).1=1:=HKT.out.symm;have hrs:ruS L 64 j=.inl (2,(gL L j).2.2.2):=by unfold ruS;rw[if_neg (by rw[hkz];decide),if_pos rfl]
       have HRS:=hid hrs;clear hrs hkz
       go_wp2_with fail
       go_region
       go_wp2_with fail
       go_region
       go_wp2_with fail
       refine(HSt.out j _ HPd0.out.rd hj).mono ?_;rintro e w3 ⟨rfl,hr3,hg3⟩;obtain⟨q',hr3'⟩:=hr3.out;have HPd:=hid (HPd0.out.grown hr3' hg3.out);have HKd:Hid (∀g cur,R+1+1<=g->wr.heap[g]? =some (.cells cur 30)->w3.heap[g]? =wr.heap[g]?):=fun g cur hgg hq=>hg3.out.block g (by have:=Qz hq;exact this) (fun e=>by have:=Option.some.inj e;omega)
       have HS3:Hid (wr.heap.size<=w3.heap.size):=hg3.out.size;clear hr3 hg3 hr3' HPd0
       go_wp2_with fail
       refine(HOe.out j (2,(gL L j).2.2.2) _ _ _ HPd.out.rd (by decide) hj).mono ?_;rintro e w4 ⟨Tt,kd,T2,a0,a1,a2,a3,so,sl,sc,q2,pt,k1,c1,q1,rfl,HX,HK1,hr4,hg4⟩;have HP4:=hid (HPd.out.grown hr4.out hg4.out);have HKp:Hid (∀g cur,R+1+1<=g->wr.heap[g]? =some (.cells cur 30)->w4.heap[g]? =wr.heap[g]?):=fun g cur hgg hq=>(hg4.out.block g (by have:=Qz hq;have:=HSz.out;have:=HS3.out;omega) (fun e=>by have:=Option.some.inj e;omega)).trans (HKd.out g cur hgg hq)
       clear r0 r1 r2 r3 r4 p0 p1 p2 p3 p4 g0 g1 z0 z1 k0 hr4 hg4 hszR hszG HPd HKd;obtain⟨g0,g1⟩:=Gq HP4.out.gb;have hszG:=HP4.out.size
       go_wp2_with(first|(at_builtin;refine wpList_append_own_at _ rfl (.tmp 73) (.tmp 75) 22 rfl (R+1+1) 50 iT (.agg #[.string ⟨#[]⟩,.int .i64 0,.string ⟨#[]⟩,.int .u64 0,.int .u64 0,.int .u64 0,.int .u64 0,.slice none 0 0,.int .i64 0,.int .i64 0]) 10 112 Tryz.underlying22 hiT hzT0 hzT1 hzT2 rfl (by decide) _ _ _ rfl ((HP4.out.ow.alloc _).alloc _) ⟨w4.heap.size+1,0,none⟩ 1 1 [.string Tt,.int .i64 kd,.string T2,.int .u64 a0,.int .u64 a1,.int .u64 a2,.int .u64 a3,.slice so sl sc,.int .i64 q2,.int .i64 pt] rfl rfl (Oc w4 _ _ _ _ _ _ _ _ _ _ _ 50) (Hz _ _ _ _ _ _ _ _ _ _ _ _) (by unfold maxLen;omega) (by omega) (by have:=HP4.out.size;simp;omega) ?_;intro v7 w7 hown7 hgr7 hnil7 hat7;obtain⟨sa7,sc7,rfl⟩:=Fg hown7;have hG7:w7.heap[R+1]? =some (.cells #[.slice sa 64 sca] 24):=(hgr7.block _ (by simp;omega) (fun e=>by have:=(HP4.out.ow.lt _ e.symm).1;omega)).trans ((Below.heap_alloc _ _ _ (by simp;omega)).trans ((Below.heap_alloc _ _ _ (by omega)).trans HP4.out.gb));obtain⟨g2,g3⟩:=Gq hG7;have hs7:=Qz hG7))
       have HB3:Hid (Below w4.heap.size w4 ((w4.alloc (.cells #[.string Tt,.int .i64 kd,.string T2,.int .u64 a0,.int .u64 a1,.int .u64 a2,.int .u64 a3,.slice so sl sc,.int .i64 q2,.int .i64 pt] 50)).alloc (.cells #[.string Tt,.int .i64 kd,.string T2,.int .u64 a0,.int .u64 a1,.int .u64 a2,.int .u64 a3,.slice so sl sc,.int .i64 q2,.int .i64 pt] 50))):=((Below.refl _ w4).alloc L0q _).alloc (by simp) _;have HJ7:=hid (Jg.step HGd.out hj (.inr (by rw[<-HKT.out];decide)) HJ.out HP4.out.ow HKp.out (D:=w3.heap.size) (by have:=HSz.out;have:=HS3.out;omega) (by rw[HRS.out];exact HX.out) HB3.out hown7 hgr7);have HAv:=hid (fun hc=>Xu.adv (m:=64) HGd.out hj (by rw[HRS.out];exact HX.out) hc);have HP8:=hid (((HP4.out.alloc (.cells #[.string Tt,.int .i64 kd,.string T2,.int .u64 a0,.int .u64 a1,.int .u64 a2,.int .u64 a3,.slice so sl sc,.int .i64 q2,.int .i64 pt] 50)).alloc (.cells #[.string Tt,.int .i64 kd,.string T2,.int .u64 a0,.int .u64 a1,.int .u64 a2,.int .u64 a3,.slice so sl sc,.int .i64 q2,.int .i64 pt] 50)).app hgr7 hown7);have HJ8:Hid (Jg L (Zf L) (R+1+1) (64+1) (xs++[.string Tt,.int .i64 kd,.string T2,.int .u64 a0,.int .u64 a1,.int .u64 a2,.int .u64 a3,.slice so sl sc,.int .i64 q2,.int .i64 pt]) k1 c1 q1 (w7.setCell ⟨R+1,0,none⟩ (.slice sa7 (64+1) sc7))):=HJ7.out.kept (fun g cur hgg hq=>Below.heap_setCell _ _ _ _ (by show g≠R+1;omega));have HMs8:=hid (El HP8.out.rd);clear hown7 hgr7 hnil7 hat7 hG7 HB3 HJ7 HP4 HKp
       (try go_wp2_with fail)
       go_roundw
       case rel=>exact⟨64+1,k1,_,_,c1,q1,HK1.out.1,by omega,hid HK1.out.2,HJ8,HP8⟩
       case measure=>
        rw[HMs8.out,HMs.out]
        first|rw[if_pos trivial]|rw[if_pos rfl]
        by_cases hc1:c1=0
        ·rw[if_pos hc1]
         have:=HAv.out hc1;omega
        ·rw[if_neg hc1]
         omega
      ·have b1:((kt:Int) == 1)=false:=by simp;omega
       have HPd:=hid (HP.out.below (B0q.drew.drew));have HSz:Hid (R+1<wr.heap.size):=hszG;have HKd:Hid (∀g cur,R+1+1<=g->wr.heap[g]? =some (.cells cur 30)->(wr.drew.drew).heap[g]? =wr.heap[g]?):=fun g cur _ _=>rfl
       go_wp2_with fail
       go_region
       go_wp2_with fail
       go_region
       go_wp2_with fail
       refine(HO.out 64 j _ HPd.out.rd hj (by rw[<-HKT.out];exact .inr h1)).mono ?_;rintro e w4 ⟨Tt,kd,T2,a0,a1,a2,a3,so,sl,sc,q2,pt,k1,c1,q1,rfl,HX,HK1,hr4,hg4⟩;have HP4:=hid (HPd.out.grown hr4.out hg4.out);have HKp:Hid (∀g cur,R+1+1<=g->wr.heap[g]? =some (.cells cur 30)->w4.heap[g]? =wr.heap[g]?):=fun g cur hgg hq=>(hg4.out.block g (Qz hq) (fun e=>by have:=Option.some.inj e;omega)).trans (HKd.out g cur hgg hq)
       clear r0 r1 r2 r3 r4 p0 p1 p2 p3 p4 g0 g1 z0 z1 k0 hr4 hg4 hszR hszG HPd HKd;obtain⟨g0,g1⟩:=Gq HP4.out.gb;have hszG:=HP4.out.size
       go_wp2_with(first|(at_builtin;refine wpList_append_own_at _ rfl (.tmp 73) (.tmp 75) 22 rfl (R+1+1) 50 iT (.agg #[.string ⟨#[]⟩,.int .i64 0,.string ⟨#[]⟩,.int .u64 0,.int .u64 0,.int .u64 0,.int .u64 0,.slice none 0 0,.int .i64 0,.int .i64 0]) 10 112 Tryz.underlying22 hiT hzT0 hzT1 hzT2 rfl (by decide) _ _ _ rfl ((HP4.out.ow.alloc _).alloc _) ⟨w4.heap.size+1,0,none⟩ 1 1 [.string Tt,.int .i64 kd,.string T2,.int .u64 a0,.int .u64 a1,.int .u64 a2,.int .u64 a3,.slice so sl sc,.int .i64 q2,.int .i64 pt] rfl rfl (Oc w4 _ _ _ _ _ _ _ _ _ _ _ 50) (Hz _ _ _ _ _ _ _ _ _ _ _ _) (by unfold maxLen;omega) (by omega) (by have:=HP4.out.size;simp;omega) ?_;intro v7 w7 hown7 hgr7 hnil7 hat7;obtain⟨sa7,sc7,rfl⟩:=Fg hown7;have hG7:w7.heap[R+1]? =some (.cells #[.slice sa 64 sca] 24):=(hgr7.block _ (by simp;omega) (fun e=>by have:=(HP4.out.ow.lt _ e.symm).1;omega)).trans ((Below.heap_alloc _ _ _ (by simp;omega)).trans ((Below.heap_alloc _ _ _ (by omega)).trans HP4.out.gb));obtain⟨g2,g3⟩:=Gq hG7;have hs7:=Qz hG7))
       have HB3:Hid (Below w4.heap.size w4 ((w4.alloc (.cells #[.string Tt,.int .i64 kd,.string T2,.int .u64 a0,.int .u64 a1,.int .u64 a2,.int .u64 a3,.slice so sl sc,.int .i64 q2,.int .i64 pt] 50)).alloc (.cells #[.string Tt,.int .i64 kd,.string T2,.int .u64 a0,.int .u64 a1,.int .u64 a2,.int .u64 a3,.slice so sl sc,.int .i64 q2,.int .i64 pt] 50))):=((Below.refl _ w4).alloc L0q _).alloc (by simp) _;have HJ7:=hid (Jg.step HGd.out hj (.inr (by rw[<-HKT.out];exact h6)) HJ.out HP4.out.ow HKp.out (D:=wr.drew.drew.heap.size) (show R+1+1<=wr.heap.size by have:=HSz.out;omega) HX.out HB3.out hown7 hgr7);have HAv:=hid (fun hc=>Xu.adv HGd.out hj HX.out hc);have HP8:=hid (((HP4.out.alloc (.cells #[.string Tt,.int .i64 kd,.string T2,.int .u64 a0,.int .u64 a1,.int .u64 a2,.int .u64 a3,.slice so sl sc,.int .i64 q2,.int .i64 pt] 50)).alloc (.cells #[.string Tt,.int .i64 kd,.string T2,.int .u64 a0,.int .u64 a1,.int .u64 a2,.int .u64 a3,.slice so sl sc,.int .i64 q2,.int .i64 pt] 50)).app hgr7 hown7);have HJ8:Hid (Jg L (Zf L) (R+1+1) (64+1) (xs++[.string Tt,.int .i64 kd,.string T2,.int .u64 a0,.int .u64 a1,.int .u64 a2,.int .u64 a3,.slice so sl sc,.int .i64 q2,.int .i64 pt]) k1 c1 q1 (w7.setCell ⟨R+1,0,none⟩ (.slice sa7 (64+1) sc7))):=HJ7.out.kept (fun g cur hgg hq=>Below.heap_setCell _ _ _ _ (by show g≠R+1;omega));have HMs8:=hid (El HP8.out.rd);clear hown7 hgr7 hnil7 hat7 hG7 HB3 HJ7 HP4 HKp
       (try go_wp2_with fail)
       go_roundw
       case rel=>exact⟨64+1,k1,_,_,c1,q1,HK1.out.1,by omega,hid HK1.out.2,HJ8,HP8⟩
       case measure=>
        rw[HMs8.out,HMs.out]
        first|rw[if_pos trivial]|rw[if_pos rfl]
        by_cases hc1:c1=0
        ·rw[if_pos hc1]
         have:=HAv.out hc1;omega
        ·rw[if_neg hc1]
         omega
     ·have b64:((m:Int) == 64)=false:=by simp;omega
      have HPd:=hid (HP.out.below (B0q.drew.drew));have HSz:Hid (R+1<wr.heap.size):=hszG;have HKd:Hid (∀g cur,R+1+1<=g->wr.heap[g]? =some (.cells cur 30)->(wr.drew.drew).heap[g]? =wr.heap[g]?):=fun g cur _ _=>rfl
      go_wp2_with fail
      go_region
      go_wp2_with fail
      go_region
      go_wp2_with fail
      refine(HO.out m j _ HPd.out.rd hj (by rw[<-HKT.out];exact .inl h64)).mono ?_;rintro e w4 ⟨Tt,kd,T2,a0,a1,a2,a3,so,sl,sc,q2,pt,k1,c1,q1,rfl,HX,HK1,hr4,hg4⟩;have HP4:=hid (HPd.out.grown hr4.out hg4.out);have HKp:Hid (∀g cur,R+1+1<=g->wr.heap[g]? =some (.cells cur 30)->w4.heap[g]? =wr.heap[g]?):=fun g cur hgg hq=>(hg4.out.block g (Qz hq) (fun e=>by have:=Option.some.inj e;omega)).trans (HKd.out g cur hgg hq)
      clear r0 r1 r2 r3 r4 p0 p1 p2 p3 p4 g0 g1 z0 z1 k0 hr4 hg4 hszR hszG HPd HKd;obtain⟨g0,g1⟩:=Gq HP4.out.gb;have hszG:=HP4.out.size
      go_wp2_with(first|(at_builtin;refine wpList_append_own_at _ rfl (.tmp 73) (.tmp 75) 22 rfl (R+1+1) 50 iT (.agg #[.string ⟨#[]⟩,.int .i64 0,.string ⟨#[]⟩,.int .u64 0,.int .u64 0,.int .u64 0,.int .u64 0,.slice none 0 0,.int .i64 0,.int .i64 0]) 10 112 Tryz.underlying22 hiT hzT0 hzT1 hzT2 rfl (by decide) _ _ _ rfl ((HP4.out.ow.alloc _).alloc _) ⟨w4.heap.size+1,0,none⟩ 1 1 [.string Tt,.int .i64 kd,.string T2,.int .u64 a0,.int .u64 a1,.int .u64 a2,.int .u64 a3,.slice so sl sc,.int .i64 q2,.int .i64 pt] rfl rfl (Oc w4 _ _ _ _ _ _ _ _ _ _ _ 50) (Hz _ _ _ _ _ _ _ _ _ _ _ _) (by unfold maxLen;omega) (by omega) (by have:=HP4.out.size;simp;omega) ?_;intro v7 w7 hown7 hgr7 hnil7 hat7;obtain⟨sa7,sc7,rfl⟩:=Fg hown7;have hG7:w7.heap[R+1]? =some (.cells #[.slice sa m sca] 24):=(hgr7.block _ (by simp;omega) (fun e=>by have:=(HP4.out.ow.lt _ e.symm).1;omega)).trans ((Below.heap_alloc _ _ _ (by simp;omega)).trans ((Below.heap_alloc _ _ _ (by omega)).trans HP4.out.gb));obtain⟨g2,g3⟩:=Gq hG7;have hs7:=Qz hG7))
      have HB3:Hid (Below w4.heap.size w4 ((w4.alloc (.cells #[.string Tt,.int .i64 kd,.string T2,.int .u64 a0,.int .u64 a1,.int .u64 a2,.int .u64 a3,.slice so sl sc,.int .i64 q2,.int .i64 pt] 50)).alloc (.cells #[.string Tt,.int .i64 kd,.string T2,.int .u64 a0,.int .u64 a1,.int .u64 a2,.int .u64 a3,.slice so sl sc,.int .i64 q2,.int .i64 pt] 50))):=((Below.refl _ w4).alloc L0q _).alloc (by simp) _;have HJ7:=hid (Jg.step HGd.out hj (.inr (by rw[<-HKT.out];exact h6)) HJ.out HP4.out.ow HKp.out (D:=wr.drew.drew.heap.size) (show R+1+1<=wr.heap.size by have:=HSz.out;omega) HX.out HB3.out hown7 hgr7);have HAv:=hid (fun hc=>Xu.adv HGd.out hj HX.out hc);have HP8:=hid (((HP4.out.alloc (.cells #[.string Tt,.int .i64 kd,.string T2,.int .u64 a0,.int .u64 a1,.int .u64 a2,.int .u64 a3,.slice so sl sc,.int .i64 q2,.int .i64 pt] 50)).alloc (.cells #[.string Tt,.int .i64 kd,.string T2,.int .u64 a0,.int .u64 a1,.int .u64 a2,.int .u64 a3,.slice so sl sc,.int .i64 q2,.int .i64 pt] 50)).app hgr7 hown7);have HJ8:Hid (Jg L (Zf L) (R+1+1) (m+1) (xs++[.string Tt,.int .i64 kd,.string T2,.int .u64 a0,.int .u64 a1,.int .u64 a2,.int .u64 a3,.slice so sl sc,.int .i64 q2,.int .i64 pt]) k1 c1 q1 (w7.setCell ⟨R+1,0,none⟩ (.slice sa7 (m+1) sc7))):=HJ7.out.kept (fun g cur hgg hq=>Below.heap_setCell _ _ _ _ (by show g≠R+1;omega));have HMs8:=hid (El HP8.out.rd);clear hown7 hgr7 hnil7 hat7 hG7 HB3 HJ7 HP4 HKp
      (try go_wp2_with fail)
      go_roundw
      case rel=>exact⟨m+1,k1,_,_,c1,q1,HK1.out.1,by omega,hid HK1.out.2,HJ8,HP8⟩
      case measure=>
       rw[HMs8.out,HMs.out]
       first|rw[if_pos trivial]|rw[if_pos rfl]
       by_cases hc1:c1=0
       ·rw[if_pos hc1]
        have:=HAv.out hc1;omega
       ·rw[if_neg hc1]
        omega
  ·skip
   have hgl:∃x,Zf L=.inl x:=by
    rcases HJ.out with⟨h,_⟩|⟨_,h⟩
    ·exact absurd h hc
    ·exact h
   obtain⟨x,hx⟩:=hgl;have HXx:=hid hx;have c0:(c == 0)=false:=by simpa using hc
   have c1:(c != 0)=true:=by simpa using hc
   have HCc:=hid hc;clear HO HOe HSt hx hc
   go_wp2_with fail
   go_region
   go_wp2_with fail
   go_region
   go_wp2_with fail
   (try simp only[Exit.inBlock,Exit.then])
   obtain⟨d0,d1⟩:=Gq (show(wr.setCell ⟨w.heap.size,0,none⟩ (.slice none 0 0)).heap[w.heap.size]? =some (.cells #[.slice none 0 0] 24) by simp only[World.setCell,Array.getElem?_modify,if_true];rw[HP.out.qz];simp);refine bodyPost_ret (v:=.tuple #[.agg #[.slice none 0 0],.int .i64 q,.int .i64 c]) (by simp[results,Tryz.results26,go_sem,d0]) rfl ?_;rw[HXx.out];exact⟨q,c,HCc.out,rfl,hid ((HP.out.be.setCell (p:=⟨w.heap.size,0,none⟩) L0q _).drew.drew)⟩
theorem y2d(S:ByteArray)(w:World)(hS:S.size<=8192)(h0:∀L,tkS S=.inr L->Tk0 L)(hok:∃L,tkS S=.inr L):
  Calls prog 26 #[.string S] w fun e w'=>Om (Yw S) w e w':=by
 obtain⟨L,hL⟩:=hok;have hgood:=Ip hL hS;have e:Yw S=Zf L:=by unfold Yw;rw[hL];rfl
 rw[e];refine y2c S L w hgood.1 (h0 L hL) hgood.2 (hid fun W=> ?_);have:=y1Y S W hS;rw[hL]at this;exact this
theorem y2e(S:ByteArray)(w:World)(hS:8192<S.size):
  Calls prog 26 #[.string S] w fun e w'=>e=.returned (.tuple #[.agg #[.slice none 0 0],.int .i64 (-1),.int .i64 2])/\Below w.heap.size w w':=by
 have HT:=hid (fun w=>y1W S w hS);go_enter func26,ntmps26
 go_wp2_with fail
 refine(HT.out _).mono ?_;rintro e w1 ⟨rfl,rfl⟩
 go_wp2_with fail
 (try simp only[Exit.inBlock,Exit.then])
 refine bodyPost_ret (v:=.tuple #[.agg #[.slice none 0 0],.int .i64 (-1),.int .i64 2]) (by simp[results,Tryz.results26,go_sem]) rfl ?_;exact⟨rfl,(Below.refl _ w).alloc L0q _⟩
end
end Go.Proofs.YtikfnaffiehpaaaGreatDoor
