/- Lemmas for the last text. Conditions: those that each names. -/
import Derived.Test.YtlogolpcipiceaaGreatDoorVY11ToY13
import Derived.Defers
import Derived.Recover
set_option linter.unusedVariables false
set_option maxRecDepth 100000
set_option maxHeartbeats 16000000
namespace Go.Proofs.YtlogolpcipiceaaGreatDoor
open Go.Proofs.Tryz
open Go.RowKit
variable {B R g k n ne p ru:Nat} {pv v:Value} {acc:List Rl} {W W' w:World} {L:List Tok}
def Zf(w:World)(P:Nat->Prop):List Rl->List Value->Prop
 |[],_=>True
 |x::r,vs=>∃c rest,vs=c++rest/\Yx w P x c/\Zf w P r rest
theorem Yx.len{w:World}{P:Nat->Prop}{x:Rl}{c:List Value}(h:Yx w P x c):c.length=10:=by
 obtain⟨cs,rfl,h2⟩:=h;have:=h2.len;simp;omega
theorem Yx.kept{w w':World}{P Q:Nat->Prop}(hk:∀g cur,P g->w.heap[g]? =some (.cells cur 71)->w'.heap[g]? =w.heap[g]? /\Q g){x:Rl}{c:List Value}(h:Yx w P x c):Yx w' Q x c:=by
 obtain⟨cs,h1,h2⟩:=h;exact⟨cs,h1,Qf.kept hk _ _ h2⟩
theorem Zf.kept{w w':World}{P Q:Nat->Prop}(hk:∀g cur,P g->w.heap[g]? =some (.cells cur 71)->w'.heap[g]? =w.heap[g]? /\Q g):∀(l:List Rl) (vs:List Value),Zf w P l vs->Zf w' Q l vs
 |[],vs,h=>by rw[Zf];trivial
 |n::r,vs,h=>by
  rw[Zf]at h ⊢;obtain⟨c,rest,h1,h2,h3⟩:=h;exact⟨c,rest,h1,Yx.kept hk h2,Zf.kept hk r rest h3⟩
theorem Zf.append{w:World}{P:Nat->Prop}:∀(l:List Rl) (vs:List Value) (n:Rl) (c:List Value),Zf w P l vs->vs.length=l.length*10->Yx w P n c->Zf w P (l++[n]) (vs++c)
 |[],vs,n,c,_,hl,hn=>by
  have:vs=[]:=List.eq_nil_of_length_eq_zero (by simpa using hl);subst this;rw[List.nil_append,Zf];exact⟨c,[],by simp,hn,by rw[Zf];trivial⟩
 |m::r,vs,n,c,h,hl,hn=>by
  rw[Zf]at h;obtain⟨d,rest,rfl,h2,h3⟩:=h;have hd:=h2.len;rw[List.cons_append,Zf];refine⟨d,rest++c,by rw[List.append_assoc],h2,Zf.append r rest n c h3 ?_ hn⟩;simp at hl;omega
theorem Yx.shape{w:World}{P:Nat->Prop}{x:Rl}{c:List Value}(h:Yx w P x c):∃N kd T C so sl sc p q,c=[.string N,.int .i64 ((kd:Nat):Int),.string T,.int .u64 (wd C 0),.int .u64 (wd C 1),.int .u64 (wd C 2),.int .u64 (wd C 3),.slice so sl sc,.int .i64 ((p:Nat):Int),.int .i64 ((q:Nat):Int)]:=by
 obtain⟨cs,rfl,h2⟩:=h;obtain⟨kd,T,C,so,sl,sc,rfl⟩:=h2.shape;exact⟨_,kd,T,C,so,sl,sc,_,_,rfl⟩
def RoR(B:Nat)(pv:Value)(acc:List Rl)(W:World):Prop:=
 ∃xs,W.ownsRow B 73 10 pv acc.length xs/\Zf W (fun g=>B<=g) acc xs
theorem RoR.grown(h:RoR B pv acc W)(hg:W.grownBy W' (some R))(hR:R<B):RoR B pv acc W':=by
 obtain⟨xs,h1,h2⟩:=h;refine⟨xs,h1.kept hg (.inr (fun e=>by have:=(h1.lt _ e).1;omega)),Zf.kept (fun g cur hp hq=>⟨hg.block g (Qq hq) (fun e=> ?_),hp⟩) _ _ h2⟩;have e2:g=R:=Option.some.inj e;have hp':B<=g:=hp;omega
theorem RoR.below(h:RoR B pv acc W)(hb:Below W.heap.size W W'):RoR B pv acc W':=by
 obtain⟨xs,h1,h2⟩:=h;exact⟨xs,Uk h1 hb,Zf.kept (fun g cur hp hq=>⟨hb.block g (Qq hq),hp⟩) _ _ h2⟩
theorem z7D{base e size:Nat}{xs:List Value}(h:w.ownsRow base e size v n xs)(hg:v.ownBlock=some g):∃cur,w.heap[g]? =some (.cells cur e):=by
 obtain⟨_,⟨h1,h2⟩|⟨g',cap,cur,rfl,_,hh,_⟩⟩:=h
 ·rw[h1]at hg;cases hg
 ·have:g'=g:=Option.some.inj hg
  subst this;exact⟨cur,hh⟩
theorem RoR.app{D:Nat}{pv':Value}{xs c:List Value}{n:Rl}{W2 W3 W4:World}(ho:W2.ownsRow B 73 10 pv acc.length xs)(ha:Zf W2 (fun g=>B<=g) acc xs)(hn:Yx W2 (fun g=>D<=g) n c)(hD:B<=D)(hb:Below W2.heap.size W2 W3)
  (hown:W4.ownsRow B 73 10 pv' (acc.length+1) (xs++c))(hgr:W3.grownBy W4 pv.ownBlock):RoR B pv' (acc++[n]) W4:=by
 have key:∀(g:Nat) (cur:Array Value),W2.heap[g]? =some (Obj.cells cur 71)->W4.heap[g]? =W2.heap[g]? :=fun g cur hq=>by
  have hs:=hb.size;have hl:=Qq hq;refine(hgr.block g (by omega) (fun e=> ?_)).trans (hb.block g hl);obtain⟨cur',h'⟩:=z7D ho e.symm;rw[h']at hq;simp at hq
 refine⟨xs++c,by simpa using hown,Zf.append _ _ _ _ (Zf.kept (fun g cur hp hq=>⟨key g cur hq,hp⟩) _ _ ha) ho.1 (Yx.kept (fun g cur hp hq=>⟨key g cur hq,show B<=g by have hp':D<=g:=hp;omega⟩) hn)⟩
theorem RoR.one{x:Rl}{a0 a1 a2 a3 a4 a5 a6 a7 a8 a9:Value}(h:Yx W (fun g=>B<=g) x [a0,a1,a2,a3,a4,a5,a6,a7,a8,a9])(hB:B<=W.heap.size):RoR B (.slice (some ⟨W.heap.size,0,none⟩) 1 1) [x] (W.alloc (.cells #[a0,a1,a2,a3,a4,a5,a6,a7,a8,a9] 73)):=by
 refine⟨[a0,a1,a2,a3,a4,a5,a6,a7,a8,a9],⟨rfl,.inr ⟨W.heap.size,1,_,rfl,hB,Qx _ _ rfl,Nat.le_refl _,by unfold maxLen;omega,rfl,rfl⟩⟩,?_⟩;rw[Zf];exact⟨[a0,a1,a2,a3,a4,a5,a6,a7,a8,a9],[],by simp,Yx.kept (fun g cur hp hq=>⟨Below.heap_alloc W _ g (Qq hq),hp⟩) h,by rw[Zf];trivial⟩
theorem Ek.rowed{O:Obj}{b:Nat}{row:Option Nat}(h:Ek O w R b v L k ru ne W)(hg:W.grownBy W' row)(hr:∀g,row=some g->w.heap.size<g):Ek O w R b v L k ru ne W':=by
 have hR:=h.lt;have hs:=h.size;have hne:some R≠row:=fun e=>by have:=hr R e.symm;omega
 have hnq:some w.heap.size≠row:=fun e=>by have:=hr _ e.symm;omega
 have hvv:v.ownBlock=none∨v.ownBlock≠row:=by
  cases hv:v.ownBlock with
  |none=>exact .inl rfl
  |some g=>exact .inr (fun e=>h.2.2.2.2 g (by have:=hr g e.symm;omega) hv)
 exact⟨⟨(hg.block R (by omega) hne).trans h.1.1,h.1.2.kept hg hvv⟩,⟨hg.os.trans h.2.1.os,hg.tape.trans h.2.1.tape,hg.output.trans h.2.1.output,Nat.le_trans h.2.1.size hg.size,fun j hj hne=>(hg.block j (by omega) (fun e=>by have:=hr j e.symm;omega)).trans (h.2.1.block j hj hne)⟩,(hg.block _ hs hnq).trans h.2.2.1,hR,h.2.2.2.2⟩
theorem Tryz.infoRl:(Tryz.prog.info? 73).map (fun i=>(i.zero,i.size,i.bytes))=some (some (.agg #[.string ⟨#[]⟩,.int .i64 0,.string ⟨#[]⟩,.int .u64 0,.int .u64 0,.int .u64 0,.int .u64 0,.slice none 0 0,.int .i64 0,.int .i64 0]),10,112):=by kernel_rfl
theorem Cd(w:World)(a b c d e f g h i k:Value)(t:TypeId):∀j x,[a,b,c,d,e,f,g,h,i,k][j]? =some x->(w.alloc (.cells #[a,b,c,d,e,f,g,h,i,k] t)).cell? ((⟨w.heap.size,0,none⟩:Addr).add j)=some x:=by
 intro j x hj
 match j,hj with
 |0,hj=>simp at hj;subst hj;simp[Addr.add]
 |1,hj=>simp at hj;subst hj;simp[Addr.add]
 |2,hj=>simp at hj;subst hj;simp[Addr.add]
 |3,hj=>simp at hj;subst hj;simp[Addr.add]
 |4,hj=>simp at hj;subst hj;simp[Addr.add]
 |5,hj=>simp at hj;subst hj;simp[Addr.add]
 |6,hj=>simp at hj;subst hj;simp[Addr.add]
 |7,hj=>simp at hj;subst hj;simp[Addr.add]
 |8,hj=>simp at hj;subst hj;simp[Addr.add]
 |9,hj=>simp at hj;subst hj;simp[Addr.add]
theorem Ow(N:ByteArray)(a:Int)(T:ByteArray)(c0 c1 c2 c3:Int)(so:Option Addr)(sl sc:Nat)(p q:Int):∀u∈[Value.string N,Value.int .i64 a,.string T,.int .u64 c0,.int .u64 c1,.int .u64 c2,.int .u64 c3,.slice so sl sc,.int .i64 p,.int .i64 q],u.oneCell'=true:=by
 intro u hu;simp at hu;rcases hu with rfl|rfl|rfl|rfl|rfl|rfl|rfl|rfl|rfl|rfl<;>rfl
def Xx(L:List Tok):Nat->Nat->List Rl->(Nat×Nat) ⊕ List Rl
 |0,_,_=>.inl (0,0)
 |f+1,k,acc=>if(gL L k).1=6 then .inr acc else(match ruS L acc.length k with
   | .inl e=>.inl e
   | .inr (x,k')=>Xx L f k' (acc++[x]))
def z1m(L:List Tok)(r:(Nat×Nat) ⊕ (Rl×Nat)):(Nat×Nat) ⊕ List Rl:=match r with
 | .inl e=>.inl e
 | .inr (x,k')=>Xx L L.length k' [x]
def Yf(L:List Tok):(Nat×Nat) ⊕ List Rl:=z1m L (ruS L 0 0)
def Fz(r:(Nat×Nat) ⊕ List Rl)(B R:Nat)(w:World)(e:Ending)(w':World):Prop:=
 match r with
 | .inr rs=>∃g cap,e=.returned (.agg #[.slice (some ⟨g,0,none⟩) rs.length cap])/\Hid (RoR B (.slice (some ⟨g,0,none⟩) rs.length cap) rs w')/\Hid (w.grownBy w' (some R))
 | .inl c=>∃f,e=.panicked [{v:=.iface 95 (.pointer (some ⟨f,0,none⟩)),recovered:=false}]/\Hid (w.heap.size<=f/\Flt w' f c)/\Hid (w.grownBy w' (some R))
@[reducible] def Zg:Obj:=.cells #[.slice none 0 0] 24
theorem Ek.upG{O:Obj}{b:Nat}(h:Ek O w R b v L k ru ne W){c:Nat×Nat}{B' ru':Nat}{e:Ending}{w':World}(hA:Kd (.inl c) B' R b v L ru' W e w'):Fz (.inl c) B R w e w':=by
 obtain⟨f,he,HF,HG⟩:=hA;exact⟨f,he,hid ⟨by have:=HF.out.1;have:=h.size;omega,HF.out.2⟩,hid (G.trans h.2.1 HG.out)⟩
theorem Ek.finG{b:Nat}{cap:Nat}{rs:List Rl}(h:Ek Zg w R b v L k ru ne W)(hn:n=rs.length)(hr:RoR (w.heap.size+1) (.slice (some ⟨g,0,none⟩) n cap) rs W)(hB:B<=w.heap.size):
  Fz (.inr rs) B R w (.returned (.agg #[.slice (some ⟨g,0,none⟩) n cap])) (W.setCell ⟨w.heap.size,0,none⟩ (.slice (some ⟨g,0,none⟩) n cap)):=by
 subst hn;obtain⟨xs,h1,h2⟩:=hr;have hgr:W.grownBy (W.setCell ⟨w.heap.size,0,none⟩ (.slice (some ⟨g,0,none⟩) rs.length cap)) (some w.heap.size):=G.setR (G.refl W w.heap.size);refine⟨g,cap,rfl,hid ⟨xs,?_,Zf.kept (fun g cur hp hq=>⟨hgr.block g (Qq hq) (fun e=> ?_),show B<=g by have hp':w.heap.size+1<=g:=hp;omega⟩) _ _ h2⟩,hid (G.setN h.2.1 L0q)⟩
 ·have h3:=h1.kept hgr (.inr (fun e=>by have:=(h1.lt _ e).1;omega))
  obtain⟨a,⟨hq,_⟩|⟨g',cap',cur,hq,hb,rest⟩⟩:=h3
  ·cases hq
  ·exact⟨a,.inr ⟨g',cap',cur,hq,by omega,rest⟩⟩
 ·have e2:g=w.heap.size:=Option.some.inj e
  have hp':w.heap.size+1<=g:=hp;omega
theorem z1n{x:Rl×Nat}(h:ruS L ru k=.inr x):ru≠64:=by
 intro e;unfold ruS at h;rw[if_pos e]at h;split at h<;>cases h
theorem z7E(R b B:Nat)(v:Value)(L:List Tok)(w:World)(hg:Qc L)(h:Rd w R b v L 0 0 0)(hl0:0<L.length)(hB:B<=w.heap.size):
  Calls prog 99 #[.pointer (some ⟨R,0,none⟩)] w fun e w'=>Fz (Yf L) B R w e w':=by
 obtain⟨iT,hiT,hzT0,hzT1,hzT2⟩:=info_parts Tryz.infoRl;have fd0:=Tryz.fld0;have HE0:Hid (Ek Zg w R b v L 0 0 0 (w.alloc Zg)):=Ek.start Zg h;have HG:Hid (Qc L):=hg;have hll:=hg.len;have HO:=hid (z1l R b v L 0 0 (w.heap.size+1) (w.alloc Zg) hg (h.alloc _) hl0 (by omega) (by simp));unfold Yf;cases hs:ruS L 0 0 with
 |inl c=>
  rw[hs]at HO;clear hg h hs;show Calls _ _ _ _ (fun e w'=>Fz (.inl c) B R w e w');go_enter func99,ntmps99
  go_wp2_with fail
  refine HO.out.mono ?_;rintro e w1 hA;have HAP:Hid (Fz (.inl c) B R w e w1):=HE0.out.upG hA;obtain⟨f,rfl,_,_⟩:=hA;clear HO HE0
  go_wp2_with fail
  exact⟨rfl,HAP.out⟩
 |inr x=>
  obtain⟨x,k1⟩:=x;have hk1:=z1k hg hl0 hs;rw[hs]at HO;obtain⟨RES,hR⟩:∃RES,RES=Xx L L.length k1 [x]:=⟨_,rfl⟩;have HM0:Hid (Xx L L.length k1 [x]=RES):=hR.symm;show Calls _ _ _ _ (fun e w'=>Fz (Xx L L.length k1 [x]) B R w e w');rw[<-hR];clear hR h hg hs;go_enter func99,ntmps99
  go_wp2_with fail
  refine HO.out.mono ?_;rintro e w1 ⟨cs,rfl,HN,HR,HGr⟩;have HE1:=hid (HE0.out.grown HR.out HGr.out);clear HO HR HGr HE0;obtain⟨N,kd,T,C,so,sl,sc,p,q,hcs⟩:=HN.out.shape;subst hcs;have HRo1:=hid (RoR.one HN.out HE1.out.size);have HE2:=hid (HE1.out.alloc (.cells #[.string N,.int .i64 kd,.string T,.int .u64 (wd C 0),.int .u64 (wd C 1),.int .u64 (wd C 2),.int .u64 (wd C 3),.slice so sl sc,.int .i64 p,.int .i64 q] 73));clear HN HE1
  go_wp2_with fail
  go_loopw [3] (fun a wr=>∃(f j:Nat) (m:Rl) (r:List Rl),j<L.length/\L.length<=f+j/\r.length+1<=j/\r.length+1<=64/\Hid (Xx L f j (m::r)=RES)/\Hid (RoR (w.heap.size+1) a (m::r) wr)/\Hid (Ek Zg w R b v L j (r.length+1) 0 wr)) (fun _ wr=>L.length-Ul R wr)
  case atStart=>exact⟨L.length,k1,x,[],hk1.2,by omega,by simp;omega,by simp,HM0,HRo1,HE2⟩
  case round=>
   obtain⟨f,j,m,r,hj,hfj,haj,hr64,HMj,HRo,HE⟩:=hrel;clear HM0 HE2 HRo1;have HT:=Jm R b v L j (r.length+1) 0 hj HG.out;cases f with
   |zero=>omega
   |succ f=>
   by_cases hz:(gL L j).1=6
   ·have HF:Hid (RES=.inr (m::r)):=by show _=_;rw[<-HMj.out,Xx,if_pos hz]
    obtain⟨t,ht⟩:∃t,t=gL L j:=⟨_,rfl⟩;rw[<-ht]at HT hz;clear ht HMj;obtain⟨tk,tN,tC,tq⟩:=t;have hz':tk=6:=hz;subst hz';clear hz;obtain⟨xs0,hx0,_⟩:=HRo.out;rw[List.length_cons]at hx0;obtain⟨g,cap,hsl⟩:=Jy hx0 (by omega);clear hx0;subst hsl;obtain⟨M,hM⟩:∃M,M=r.length+1:=⟨_,rfl⟩;have HMm:Hid (M=r.length+1):=hM;rw[<-hM]at haj hr64 HT HE HRo ⊢;clear hM
    go_wp2_with fail
    refine(HT.out _ HE.out.1).mono ?_;rintro e w2 ⟨rfl,hb2⟩;have HE3:=hid (HE.out.below hb2);have HRo3:=hid (HRo.out.below hb2);clear hb2 HE HT HRo;dsimp only[tkv];have hc0:w2.cell? ⟨w.heap.size,0,none⟩=some (.slice none 0 0):=by have:=HE3.out.2.2.1;simp[World.cell?,this]
    have hf0:w2.frozen? ⟨w.heap.size,0,none⟩=false:=by have:=HE3.out.2.2.1;simp[World.frozen?,this]
    have hQl:=HE3.out.size
    go_wp2_with fail
    (try simp only[Exit.inBlock,Exit.then])
    refine bodyPost_ret (v:=.agg #[.slice (some ⟨g,0,none⟩) M cap]) (by simp[results,Tryz.results99,go_sem,hc0]) rfl ?_;rw[HF.out];exact HE3.out.finG HMm.out HRo3.out hB
   ·have HC:=hid (fun(W:World) (h:Rd W R b v L j (r.length+1) 0)=>z1l R b v L (r.length+1) j W.heap.size W HG.out h hj hr64 L0q)
    obtain⟨t,ht⟩:∃t,t=gL L j:=⟨_,rfl⟩;have hz0:=hz;rw[<-ht]at HT hz;clear ht;obtain⟨tk,tN,tC,tq⟩:=t;have hz':tk≠6:=hz;have t6:((tk:Int) != 6)=true:=by rw[bne_iff_ne];omega
    clear hz hz';cases hs:ruS L (r.length+1) j with
    |inl c=>
     have HF:Hid (RES=.inl c):=by show _=_;rw[<-HMj.out,Xx,if_neg hz0,List.length_cons,hs]
     rw[hs]at HC;clear hs HMj hz0
     go_wp2_with fail
     refine(HT.out _ HE.out.1).mono ?_;rintro e w2 ⟨rfl,hb2⟩;have HE3:=hid (HE.out.below hb2);clear hb2 HE HT HRo;dsimp only[tkv]
     go_wp2_with fail
     refine(HC.out _ HE3.out.1).mono ?_;rintro e w4 hA;have HAP:Hid (Fz RES B R w e w4):=by show Fz _ _ _ _ _ _;rw[HF.out];exact HE3.out.upG hA
     obtain⟨f',rfl,_,_⟩:=hA;clear HE3 HC HF
     go_wp2_with fail
     exact⟨rfl,HAP.out⟩
    |inr y=>
     obtain⟨y,k'⟩:=y;have hk':=z1k HG.out hj hs;have hr64':=z1n hs;have HM2:Hid (Xx L f k' ((m::r)++[y])=RES):=by show _=_;rw[<-HMj.out,Xx,if_neg hz0,List.length_cons,hs]
     rw[hs]at HC;clear hs HMj hz0;have HJ:Hid (Ul R wr=j):=Kh HE.out.1
     go_wp2_with fail
     refine(HT.out _ HE.out.1).mono ?_;rintro e w2 ⟨rfl,hb2⟩;have HE3:=hid (HE.out.below hb2);have HRo3:=hid (HRo.out.below hb2);clear hb2 HE HT HRo;dsimp only[tkv]
     go_wp2_with fail
     refine(HC.out _ HE3.out.1).mono ?_;rintro e w5 ⟨cs,rfl,HN,HR,HGr⟩;have HE5:=hid (HE3.out.grown HR.out HGr.out);have HRo5:=hid (HRo3.out.grown HGr.out (by have:=HE3.out.lt;omega));have HW1:Hid (w.heap.size+1<=w2.heap.size):=HE3.out.size;clear HE3 HRo3 HR HGr HC;obtain⟨N,kd,T,C,so,sl,sc,p,q,hcs⟩:=HN.out.shape;subst hcs;obtain⟨xs,hx1,hx2⟩:=HRo5.out;have HX1:=hid hx1;have HX2:=hid hx2;clear hx1 hx2 HRo5;rw[List.length_cons]at HX1
     go_wp2_with(first|(at_builtin;refine wpList_append_own_at _ rfl (.tmp 11) (.tmp 14) 22 rfl (w.heap.size+1) 73 iT (.agg #[.string ⟨#[]⟩,.int .i64 0,.string ⟨#[]⟩,.int .u64 0,.int .u64 0,.int .u64 0,.int .u64 0,.slice none 0 0,.int .i64 0,.int .i64 0]) 10 112 Tryz.underlying22 hiT hzT0 hzT1 hzT2 rfl (by decide) _ _ _ rfl (HX1.out.alloc _) ⟨w5.heap.size,0,none⟩ 1 1 [.string N,.int .i64 kd,.string T,.int .u64 (wd C 0),.int .u64 (wd C 1),.int .u64 (wd C 2),.int .u64 (wd C 3),.slice so sl sc,.int .i64 p,.int .i64 q] rfl rfl (Cd w5 _ _ _ _ _ _ _ _ _ _ 73) (Ow _ _ _ _ _ _ _ _ _ _ _ _) (by unfold maxLen;omega) (by omega) (by have:=HE5.out.size;simp;omega) ?_;intro v6 w6 hown6 hgr6 hnil6 hat6))
     have HRo6:Hid (RoR (w.heap.size+1) v6 ((m::r)++[y]) w6):=RoR.app HX1.out HX2.out HN.out HW1.out ((Below.refl _ w5).alloc L0q _) hown6 hgr6;have HE6:Hid (Ek Zg w R b v L k' (r.length+1+1) 0 w6):=(HE5.out.alloc _).rowed hgr6 (fun g e=>by have:=(HX1.out.lt g e).1;omega);have HJ6:Hid (Ul R w6=k'):=Kh HE6.out.1;clear hown6 hgr6 hnil6 hat6 HX1 HX2 HN HE5 HW1
     go_wp2_with fail
     go_roundw
     case rel=>exact⟨f,k',m,r++[y],hk'.2,by omega,by simp;omega,by simp;omega,HM2,HRo6,by simpa using HE6⟩
     case measure=>rw[HJ.out,HJ6.out];omega
theorem Tryz.asFlt(v:Value)(xT:TypeId)(w:World):(Instr.typeAssert (.iface 95 v) xT 95 true).run prog w=.ok (.tuple #[v,.bool true]) w:=by kernel_rfl
theorem z7F(p q:Nat)(w:World):
  CallsD prog 98 #[.pointer (some ⟨p,0,none⟩),.pointer (some ⟨q,0,none⟩)] .returning w fun e u' w'=>e=.returned (.tuple #[])/\u'=.returning/\w'=w:=by
 refine callsD_of_wpS func98 rfl fun c₀ cs hu=> ?_
 apply wpS_seq;apply wpS_region;simp[wpOpsS,go_sem,recoverD,hu,ntmps98,Exit.thenS];refine wpS_of_wp ?_
 go_wp2
 cases c₀;simp_all[bodyPostS,results,Tryz.results98]
theorem z7G(p q f:Nat)(older:List PanicEntry)(w:World)(hne:p≠q)(hp:w.cell? ⟨p,0,none⟩=some (.slice none 0 0))(hq:w.cell? ⟨q,0,none⟩=some .nilIface)(hp2:w.frozen? ⟨p,0,none⟩=false)(hq2:w.frozen? ⟨q,0,none⟩=false):
  CallsD prog 98 #[.pointer (some ⟨p,0,none⟩),.pointer (some ⟨q,0,none⟩)] (.panicking ({v:=.iface 95 (.pointer (some ⟨f,0,none⟩)),recovered:=false}::older)) w fun e u' w'=>
   e=.returned (.tuple #[])/\u'=.panicking ({v:=.iface 95 (.pointer (some ⟨f,0,none⟩)),recovered:=true}::older)/\w'=(w.setCell ⟨p,0,none⟩ (.slice none 0 0)).setCell ⟨q,0,none⟩ (.iface 95 (.pointer (some ⟨f,0,none⟩))):=by
 refine callsD_of_wpS func98 rfl fun c₀ cs hu=> ?_
 apply wpS_seq;apply wpS_region;simp[wpOpsS,go_sem,recoverD,hu,ntmps98,Exit.thenS];have hta:=Tryz.asFlt;refine wpS_of_wp ?_;rw[show(#[Value.pointer (some ⟨p,0,none⟩),Value.pointer (some ⟨q,0,none⟩)]++(Array.replicate 12 undef).setIfInBounds 3 (Value.iface 95 (Value.pointer (some ⟨f,0,none⟩))))=#[Value.pointer (some ⟨p,0,none⟩),Value.pointer (some ⟨q,0,none⟩),undef,undef,undef,Value.iface 95 (Value.pointer (some ⟨f,0,none⟩)),undef,undef,undef,undef,undef,undef,undef,undef]from rfl];clear hu
 go_wp2_with fail
 simp[bodyPostS,results,Tryz.results98]
def Jp(r:(Nat×Nat) ⊕ List Rl)(w:World)(e:Ending)(w':World):Prop:=
 match r with
 | .inr rs=>∃g cap,e=.returned (.tuple #[.agg #[.slice (some ⟨g,0,none⟩) rs.length cap],.nilIface])/\Hid (RoR w.heap.size (.slice (some ⟨g,0,none⟩) rs.length cap) rs w')/\Hid (Below w.heap.size w w')
 | .inl c=>∃f,e=.returned (.tuple #[.agg #[.slice none 0 0],flv f])/\Hid (w.heap.size<=f/\Flt w' f c/\Below w.heap.size w w')
theorem RoR.low{B':Nat}(h:RoR B pv acc W)(hB:B'<=B):RoR B' pv acc W:=by
 obtain⟨xs,⟨a,h1⟩,h2⟩:=h;refine⟨xs,⟨a,?_⟩,Zf.kept (fun g cur hp hq=>⟨rfl,show B'<=g by have hp':B<=g:=hp;omega⟩) _ _ h2⟩;rcases h1 with h1|⟨g',cap',cur,hq,hb,rest⟩
 ·exact .inl h1
 ·exact .inr ⟨g',cap',cur,hq,by omega,rest⟩
theorem Below.setNew{j:Nat}{u:Value}(h:Below w.heap.size w W)(hg:w.heap.size<=g):Below w.heap.size w (W.setCell ⟨g,j,none⟩ u):=
 h.grown (G.setR (G.refl W g)) h.size (fun k e=>by have:=Option.some.inj e;omega)
@[reducible] def w3R (w:World) (v:Value):World:=((w.alloc Zg).alloc (.cells #[.nilIface] 33)).alloc (.cells #[v,.int .i64 0,.int .i64 0,.int .i64 0] 188)
theorem z1o(w:World)(v:Value):(w3R w v).heap[w.heap.size]? =some Zg:=
 (Below.heap_alloc _ _ _ (by simp;omega)).trans ((Below.heap_alloc _ _ _ (by simp)).trans (Qx w _ rfl))
theorem z1p(w:World)(v:Value):(w3R w v).heap[w.heap.size+1]? =some (.cells #[.nilIface] 33):=
 (Below.heap_alloc _ _ _ (by simp)).trans (Qx _ _ (by simp))
theorem Qk{a:Value}{t:TypeId}(h:w.heap[g]? =some (.cells #[a] t)):w.cell? ⟨g,0,none⟩=some a/\w.frozen? ⟨g,0,none⟩=false:=by
 constructor<;>simp[World.cell?,World.frozen?,h]
theorem z1q{a b:Value}{s t:TypeId}(hp:w.heap[p]? =some (.cells #[a] s))(hq:w.heap[p+1]? =some (.cells #[b] t))(x y:Value):
  ((w.setCell ⟨p,0,none⟩ x).setCell ⟨p+1,0,none⟩ y).cell? ⟨p,0,none⟩=some x/\((w.setCell ⟨p,0,none⟩ x).setCell ⟨p+1,0,none⟩ y).cell? ⟨p+1,0,none⟩=some y:=by
 constructor
 ·simp[World.cell?,World.setCell,Array.getElem?_modify,hp]
 ·simp[World.cell?,World.setCell,Array.getElem?_modify,hq]
theorem z7H(b:Nat)(v:Value)(L:List Tok)(w:World)(ho:w.ownsRow b 183 7 v L.length (tvs L))(hg:Qc L)(hl0:0<L.length):
  Calls prog 57 #[v] w fun e w'=>Jp (Yf L) w e w':=by
 have hmf:∀(fn:Fn) (first cap:Array Value) (w:World),(Instr.makeFunc fn first cap).run prog w=.ok (.func fn first cap) w:=fun _ _ _ _=>rfl
 obtain⟨g,cap,rfl⟩:=Jy ho (by omega);have hR:Rd (w3R w (.slice (some ⟨g,0,none⟩) L.length cap)) (w.heap.size+2) b (.slice (some ⟨g,0,none⟩) L.length cap) L 0 0 0:=⟨Qx _ _ (by simp),((ho.alloc _).alloc _).alloc _⟩;have HC:=hid (z7E (w.heap.size+2) b (w.heap.size+3) _ L _ hg hR hl0 (by simp));have HB:Hid (Below w.heap.size w (w3R w (.slice (some ⟨g,0,none⟩) L.length cap))):=((B0q.alloc L0q _).alloc (by simp) _).alloc (by simp<;>omega) _;obtain⟨n,hn⟩:∃n,n=L.length:=⟨_,rfl⟩;rw[<-hn]at HC HB ⊢;clear hn hR ho;cases hs:Yf L with
 |inl c=>
  rw[hs]at HC;clear hs
  go_enter_defers func57,ntmps57
  go_wp2_with fail
  refine HC.out.mono ?_;rintro e w4 ⟨f,rfl,HF,HG⟩;have HP:Hid (w4.heap[w.heap.size]? =some Zg):=(HG.out.block _ (by simp;omega) (fun e=>by have:=Option.some.inj e;omega)).trans (z1o w _);have HQ:Hid (w4.heap[w.heap.size+1]? =some (.cells #[.nilIface] 33)):=(HG.out.block _ (by simp) (fun e=>by have:=Option.some.inj e;omega)).trans (z1p w _);have HB4:Hid (Below w.heap.size w w4):=HB.out.grown HG.out HB.out.size (fun k e=>by have:=Option.some.inj e;omega);have hf:w.heap.size+3<=f:=by have:=HF.out.1;simp at this;omega
  have HA:Hid (Jp (.inl c) w (.returned (.tuple #[.agg #[.slice none 0 0],.iface 95 (.pointer (some ⟨f,0,none⟩))])) ((w4.setCell ⟨w.heap.size,0,none⟩ (.slice none 0 0)).setCell ⟨w.heap.size+1,0,none⟩ (.iface 95 (.pointer (some ⟨f,0,none⟩))))):=
   ⟨f,rfl,hid ⟨by omega,(Below.heap_setCell _ _ _ _ (show f≠w.heap.size+1 by omega)).trans ((Below.heap_setCell _ _ _ _ (show f≠w.heap.size by omega)).trans HF.out.2),Below.setNew (Below.setNew HB4.out L0q) (by omega)⟩⟩
  clear HC HF HG HB HB4
  go_wp2_with fail
  refine leaves_cons (f:=98) (args:=#[.pointer (some ⟨w.heap.size,0,none⟩),.pointer (some ⟨w.heap.size+1,0,none⟩)]) (by simp) (by simp[go_sem]) ?_;refine(z7G w.heap.size (w.heap.size+1) f [] w4 (by omega) (Qk HP.out).1 (Qk HQ.out).1 (Qk HP.out).2 (Qk HQ.out).2).mono ?_;rintro e u' w'' ⟨rfl,rfl,rfl⟩;obtain⟨c0,c1⟩:=z1q HP.out HQ.out (.slice none 0 0) (.iface 95 (.pointer (some ⟨f,0,none⟩)));simp[Leaves,settle,results,Tryz.results57,go_sem,c0,c1];exact HA.out
 |inr rs=>
  rw[hs]at HC;clear hs;obtain⟨m,hm⟩:∃m,m=rs.length:=⟨_,rfl⟩;have HM:Hid (m=rs.length):=hm;clear hm
  go_enter_defers func57,ntmps57
  go_wp2_with fail
  refine HC.out.mono ?_;rintro e w4 ⟨g4,cap4,rfl,HRo,HG⟩;rw[<-HM.out]at HRo ⊢;have HP:Hid (w4.heap[w.heap.size]? =some Zg):=(HG.out.block _ (by simp;omega) (fun e=>by have:=Option.some.inj e;omega)).trans (z1o w _);have HQ:Hid (w4.heap[w.heap.size+1]? =some (.cells #[.nilIface] 33)):=(HG.out.block _ (by simp) (fun e=>by have:=Option.some.inj e;omega)).trans (z1p w _);have HB4:Hid (Below w.heap.size w w4):=HB.out.grown HG.out HB.out.size (fun k e=>by have:=Option.some.inj e;omega);have hs4:w.heap.size+1<w4.heap.size:=Qq HQ.out;have HA:Hid (Jp (.inr rs) w (.returned (.tuple #[.agg #[.slice (some ⟨g4,0,none⟩) m cap4],.nilIface])) ((w4.setCell ⟨w.heap.size,0,none⟩ (.slice (some ⟨g4,0,none⟩) m cap4)).setCell ⟨w.heap.size+1,0,none⟩ .nilIface)):=by
   have hr:=(HRo.out.grown (G.setR (u:=.slice (some ⟨g4,0,none⟩) m cap4) (j:=0) (G.refl w4 w.heap.size)) (by omega)).grown (G.setR (u:=.nilIface) (j:=0) (G.refl _ (w.heap.size+1))) (by omega);have hm:=HM.out;subst hm;exact⟨g4,cap4,rfl,hid (hr.low (by omega)),hid (Below.setNew (Below.setNew HB4.out L0q) (by omega))⟩
  obtain⟨e0,y0⟩:=Qk HP.out;obtain⟨e1,y1⟩:=Qk HQ.out;clear HC HRo HG HB HB4
  go_wp2_with fail
  refine leaves_cons (f:=98) (args:=#[.pointer (some ⟨w.heap.size,0,none⟩),.pointer (some ⟨w.heap.size+1,0,none⟩)]) (by simp) (by simp[go_sem]) ?_;refine(z7F w.heap.size (w.heap.size+1) _).mono ?_;rintro e u' w'' ⟨rfl,rfl,rfl⟩;obtain⟨c0,c1⟩:=z1q HP.out HQ.out (.slice (some ⟨g4,0,none⟩) m cap4) .nilIface;simp[Leaves,settle,results,Tryz.results57,go_sem,c0,c1];exact HA.out
def Mw(t:Tok):Prop:=t.1<=5/\(t.1=5->∃x,x<256/\t.2.1=nb [x])
theorem z7I{S:ByteArray}{x:Nat}{t:Tok}(hb:bt S p=some x)(h:Xg S p x=.inr (t,n)):Mw t:=by
 have hx:=(Qv hb).2;refine⟨(Ky hb h).2.2.2.2.2.1,fun h5=> ?_⟩;unfold Xg at h;split at h
 ·split at h
  ·cases h
  ·simp only[Sum.inr.injEq,Prod.mk.injEq]at h
   rw[<-h.1]at h5;exact absurd h5 (by show ¬(1:Nat)=5;decide)
 ·split at h
  ·split at h
   ·cases h
   ·simp only[Sum.inr.injEq,Prod.mk.injEq]at h
    rw[<-h.1]at h5;exact absurd h5 (by show ¬(3:Nat)=5;decide)
  ·split at h
   ·split at h
    ·cases h
    ·simp only[Sum.inr.injEq,Prod.mk.injEq]at h
     rw[<-h.1]at h5;exact absurd h5 (by show ¬(4:Nat)=5;decide)
   ·split at h
    ·simp only[Sum.inr.injEq,Prod.mk.injEq]at h
     rw[<-h.1]at h5;exact absurd h5 (by show ¬(2:Nat)=5;decide)
    ·split at h
     ·simp only[Sum.inr.injEq,Prod.mk.injEq]at h
      exact⟨x,hx,by rw[<-h.1]⟩
     ·cases h
theorem Oy(S:ByteArray):∀(f k:Nat) (acc L:List Tok),tkl S f k acc=.inr L->(∀t∈acc,Mw t)->(∀t∈L,Mw t)/\L.length<=acc.length+(S.size-k)
 |0,k,acc,L,h,ha=>by
  rw[tkl]at h;simp only[Sum.inr.injEq]at h;subst h;exact⟨ha,by omega⟩
 |f+1,k,acc,L,h,ha=>by
  rw[tkl]at h;split at h
  ·simp only[Sum.inr.injEq]at h
   subst h;exact⟨ha,by omega⟩
  ·rename_i x hb
   split at h
   ·cases h
   ·rename_i t n ht
    have h1:=Ky hb ht;have h2:=Mq (S:=S) (n:=n) h1.2.1;have h3:=(Qv hb).1;have:=Oy S f (sb S n) (acc++[t]) L h (fun u hu=>by
     rcases List.mem_append.1 hu with h|h
     ·exact ha u h
     ·simp at h;rw[h];exact z7I hb ht)
    refine⟨this.1,?_⟩;have h4:=this.2;simp at h4;omega
theorem z1r{a b:List Tok}(h:k<a.length):gL (a++b) k=a[k]:=by
 unfold gL;rw[List.getElem?_append_left h,List.getElem?_eq_getElem h];rfl
theorem z1s{a b:List Tok}(h:a.length<=k):gL (a++b) k=gL b (k-a.length):=by
 unfold gL;rw[List.getElem?_append_right h]
theorem z7J{m:List Tok}(hm:∀t∈m,Mw t)(hl:m.length<=9000):Qc (m++[(6,{data:=#[]},0,p)]):=by
 have hr:∀k,m.length<=k->(gL (m++[(6,{data:=#[]},0,p)]) k).1=6:=fun k hk=>by
  rw[z1s hk]
  match k-m.length with
  |0=>rfl
  |j+1=>rfl
 refine⟨by simp;omega,fun k hk h6=> ?_,fun k h5=> ?_⟩
 ·rcases Nat.lt_or_ge k m.length with h|h
  ·simp;omega
  ·exact absurd (hr k h) h6
 ·rcases Nat.lt_or_ge k m.length with h|h
  ·rw[z1r h]at h5 ⊢
   exact(hm _ (List.getElem_mem h)).2 h5
  ·rw[hr k h]at h5
   cases h5
theorem z7K{S:ByteArray}(h:tkS S=.inr L)(hS:S.size<=8192):Qc L/\0<L.length:=by
 unfold tkS at h;cases hm:tks S (sb S 0) []with
 |inl c=>rw[hm]at h;cases h
 |inr m=>
  rw[hm]at h;simp only[tkE,Sum.inr.injEq]at h;subst h;have:=Oy S _ _ _ _ hm (fun t ht=>by simp at ht);exact⟨z7J this.1 (by have h2:=this.2;simp at h2;omega),by simp⟩
def z7L(r:Tr):(Nat×Nat) ⊕ List Rl:=match r with
 | .inl c=>.inl c
 | .inr L=>Yf L
def Vv(S:ByteArray):(Nat×Nat) ⊕ List Rl:=z7L (tkS S)
theorem Km{x:Value}(hb:Below (w.heap.size+1) (w.alloc Zg) W):W.heap[w.heap.size]? =some Zg/\Below w.heap.size w W/\Below w.heap.size w (W.setCell ⟨w.heap.size,0,none⟩ x):=by
 have h1:W.heap[w.heap.size]? =some Zg:=(hb.block _ (by omega)).trans (Qx w _ rfl);have h2:Below w.heap.size w W:=((Below.refl _ w).alloc L0q Zg).trans (hb.mono (by omega));exact⟨h1,h2,Below.setNew h2 L0q⟩
theorem z7M(S:ByteArray)(w:World)(h:Xz w)(hS:S.size<=8192):
  Calls prog 29 #[.string S] w fun e w'=>Jp (Vv S) w e w':=by
 have HT:=hid (z6X S (w.alloc Zg) (h.below ((Below.refl _ w).alloc L0q Zg) h.lt) hS);unfold Vv;cases hs:tkS S with
 |inl c=>
  rw[hs]at HT;clear hs h;show Calls _ _ _ _ (fun e w'=>Jp (.inl c) w e w');go_enter func29,ntmps29
  go_wp2_with fail
  refine HT.out.mono ?_;rintro e w1 ⟨q,rfl,HP⟩;have hq:w.heap.size+1<=q:=by have:=HP.out.1;simp at this;omega
  have HA:Hid (Jp (.inl c) w (.returned (.tuple #[.agg #[.slice none 0 0],flv q])) (w1.setCell ⟨w.heap.size,0,none⟩ (.slice none 0 0))):=by
   have hb:=HP.out.2.2;simp at hb;exact⟨q,rfl,hid ⟨by omega,(Below.heap_setCell _ _ _ _ (show q≠w.heap.size by omega)).trans HP.out.2.1,(Km hb).2.2⟩⟩
  have HQ:Hid (w1.heap[w.heap.size]? =some Zg):=by
   have hb:=HP.out.2.2;simp at hb;exact(Km (x:=.nilIface) hb).1
  obtain⟨e0,y0⟩:=Qk HQ.out;have hQl:=Qq HQ.out;clear HP HT;unfold flv at HA ⊢
  go_wp2_with fail
  (try simp only[Exit.inBlock,Exit.then])
  refine bodyPost_ret (v:=.tuple #[.agg #[.slice none 0 0],.iface 95 (.pointer (some ⟨q,0,none⟩))]) (by simp[results,Tryz.results29,go_sem,e0]) rfl ?_;exact HA.out
 |inr L=>
  have hG:=z7K hs hS;have HG:Hid (Qc L):=hG.1;have hl0:=hG.2;rw[hs]at HT;clear hs h hG;show Calls _ _ _ _ (fun e w'=>Jp (Yf L) w e w');go_enter func29,ntmps29
  go_wp2_with fail
  refine HT.out.mono ?_;rintro e w1 ⟨v,rfl,HO,HB⟩;obtain⟨g,cap,hv⟩:=Jy HO.out hl0;subst hv;have HC:=hid (z7H _ _ L w1 HO.out HG.out hl0);have HB1:Hid (Below (w.heap.size+1) (w.alloc Zg) w1):=by have:=HB.out;simp at this;exact this
  obtain⟨n,hn⟩:∃n,n=L.length:=⟨_,rfl⟩;rw[<-hn]at HC ⊢;clear hn HO HB HT hl0 HG
  go_wp2_with fail
  refine HC.out.mono ?_;clear HC;cases hgs:Yf L with
  |inl c=>
   have HGS:=hid hgs;clear hgs;rintro e w2 ⟨q,rfl,HP⟩;have hq:w.heap.size+1<=q:=by have h1:=HP.out.1;have h2:=HB1.out.size;simp at h2;omega
   have HB2:Hid (Below (w.heap.size+1) (w.alloc Zg) w2):=HB1.out.trans (HP.out.2.2.mono (by have h2:=HB1.out.size;simp at h2;omega));have HA:Hid (Jp (.inl c) w (.returned (.tuple #[.agg #[.slice none 0 0],flv q])) (w2.setCell ⟨w.heap.size,0,none⟩ (.slice none 0 0))):=
    ⟨q,rfl,hid ⟨by omega,(Below.heap_setCell _ _ _ _ (show q≠w.heap.size by omega)).trans HP.out.2.1,(Km HB2.out).2.2⟩⟩
   have HQ:Hid (w2.heap[w.heap.size]? =some Zg):=(Km (x:=.nilIface) HB2.out).1;obtain⟨e0,y0⟩:=Qk HQ.out;have hQl:=Qq HQ.out;clear HP HB1 HB2;unfold flv at HA ⊢
   go_wp2_with fail
   (try simp only[Exit.inBlock,Exit.then])
   refine bodyPost_ret (v:=.tuple #[.agg #[.slice none 0 0],.iface 95 (.pointer (some ⟨q,0,none⟩))]) (by simp[results,Tryz.results29,go_sem,e0]) rfl ?_;rw[HGS.out];exact HA.out
  |inr rs=>
   have HGS:=hid hgs;clear hgs;rintro e w2 ⟨g4,cap4,rfl,HRo,HB3⟩;obtain⟨m,hm⟩:∃m,m=rs.length:=⟨_,rfl⟩;have HM:Hid (m=rs.length):=hm;rw[<-hm]at HRo ⊢;clear hm;have hw1:w.heap.size+1<=w1.heap.size:=by have h2:=HB1.out.size;simp at h2;omega
   have HB2:Hid (Below (w.heap.size+1) (w.alloc Zg) w2):=HB1.out.trans (HB3.out.mono (by omega));have HA:Hid (Jp (.inr rs) w (.returned (.tuple #[.agg #[.slice (some ⟨g4,0,none⟩) m cap4],.nilIface])) (w2.setCell ⟨w.heap.size,0,none⟩ (.slice (some ⟨g4,0,none⟩) m cap4))):=by
    have hr:=HRo.out.grown (G.setR (u:=.slice (some ⟨g4,0,none⟩) m cap4) (j:=0) (G.refl w2 w.heap.size)) (by omega);have hm:=HM.out;subst hm;exact⟨g4,cap4,rfl,hid (hr.low (by omega)),hid (Km HB2.out).2.2⟩
   have HQ:Hid (w2.heap[w.heap.size]? =some Zg):=(Km (x:=.nilIface) HB2.out).1;obtain⟨e0,y0⟩:=Qk HQ.out;have hQl:=Qq HQ.out;clear HRo HB1 HB2 HB3
   go_wp2_with fail
   (try simp only[Exit.inBlock,Exit.then])
   refine bodyPost_ret (v:=.tuple #[.agg #[.slice (some ⟨g4,0,none⟩) m cap4],.nilIface]) (by simp[results,Tryz.results29,go_sem,e0]) rfl ?_;rw[HGS.out];exact HA.out
end Go.Proofs.YtlogolpcipiceaaGreatDoor
