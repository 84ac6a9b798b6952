/- Lemmas for the last text. Conditions: those that each names. -/
import Derived.Test.YtgmcjddjdidpjaaGreatDoorVY11ToY13
import Derived.Defers
import Derived.Recover
import Derived.ChangeKeysEq
import Derived.Laws.StructEq
set_option linter.unusedVariables false
set_option maxRecDepth 100000
set_option maxHeartbeats 16000000
namespace Go.Proofs.YtgmcjddjdidpjaaGreatDoor
open Go.Proofs.Tryz
open Go.RowKit
def Zl(w:World)(P:Nat->Prop):List Rl->List Value->Prop
 |[],_=>True
 |x::r,vs=>∃c rest,vs=c++rest/\Vv w P x c/\Zl w P r rest
theorem Vv.len{w:World}{P:Nat->Prop}{x:Rl}{c:List Value}(h:Vv w P x c):c.length=10:=by
 obtain⟨cs,rfl,h2⟩:=h;have:=h2.len;simp;omega
theorem Vv.kept{w w':World}{P Q:Nat->Prop}(hk:∀g cur,P g->w.heap[g]? =some (.cells cur 58)->w'.heap[g]? =w.heap[g]? /\Q g){x:Rl}{c:List Value}(h:Vv w P x c):Vv w' Q x c:=by
 obtain⟨cs,h1,h2⟩:=h;exact⟨cs,h1,Qm.kept hk _ _ h2⟩
theorem Zl.kept{w w':World}{P Q:Nat->Prop}(hk:∀g cur,P g->w.heap[g]? =some (.cells cur 58)->w'.heap[g]? =w.heap[g]? /\Q g):∀(l:List Rl) (vs:List Value),Zl w P l vs->Zl w' Q l vs
 |[],vs,h=>by rw[Zl];trivial
 |n::r,vs,h=>by
  rw[Zl]at h ⊢;obtain⟨c,rest,h1,h2,h3⟩:=h;exact⟨c,rest,h1,Vv.kept hk h2,Zl.kept hk r rest h3⟩
theorem Zl.append{w:World}{P:Nat->Prop}:∀(l:List Rl) (vs:List Value) (n:Rl) (c:List Value),Zl w P l vs->vs.length=l.length*10->Vv w P n c->Zl w P (l++[n]) (vs++c)
 |[],vs,n,c,_,hl,hn=>by
  have:vs=[]:=List.eq_nil_of_length_eq_zero (by simpa using hl);subst this;rw[List.nil_append,Zl];exact⟨c,[],by simp,hn,by rw[Zl];trivial⟩
 |m::r,vs,n,c,h,hl,hn=>by
  rw[Zl]at h;obtain⟨d,rest,rfl,h2,h3⟩:=h;have hd:=h2.len;rw[List.cons_append,Zl];refine⟨d,rest++c,by rw[List.append_assoc],h2,Zl.append r rest n c h3 ?_ hn⟩;simp at hl;omega
theorem Vv.shape{w:World}{P:Nat->Prop}{x:Rl}{c:List Value}(h:Vv w P x c):∃N kd T C so sl sc p q,c=[.string N,.int .i64 ((kd:Nat):Int),.string T,.int .u64 (wd C 0),.int .u64 (wd C 1),.int .u64 (wd C 2),.int .u64 (wd C 3),.slice so sl sc,.int .i64 ((p:Nat):Int),.int .i64 ((q:Nat):Int)]:=by
 obtain⟨cs,rfl,h2⟩:=h;obtain⟨kd,T,C,so,sl,sc,rfl⟩:=h2.shape;exact⟨_,kd,T,C,so,sl,sc,_,_,rfl⟩
def RoR(B:Nat)(pv:Value)(acc:List Rl)(W:World):Prop:=
 ∃xs,W.ownsRow B 65 10 pv acc.length xs/\Zl W (fun g=>B<=g) acc xs
theorem RoR.grown{B R:Nat}{pv:Value}{acc:List Rl}{W W':World}(h:RoR B pv acc W)(hg:W.grownBy W' (some R))(hR:R<B):RoR B pv acc W':=by
 obtain⟨xs,h1,h2⟩:=h;refine⟨xs,h1.kept hg (.inr (fun e=>by have:=(h1.lt _ e).1;omega)),Zl.kept (fun g cur hp hq=>⟨hg.block g (Qz hq) (fun e=> ?_),hp⟩) _ _ h2⟩;have e2:g=R:=Option.some.inj e;have hp':B<=g:=hp;omega
theorem RoR.below{B:Nat}{pv:Value}{acc:List Rl}{W W':World}(h:RoR B pv acc W)(hb:Below W.heap.size W W'):RoR B pv acc W':=by
 obtain⟨xs,h1,h2⟩:=h;exact⟨xs,Ym h1 hb,Zl.kept (fun g cur hp hq=>⟨hb.block g (Qz hq),hp⟩) _ _ h2⟩
theorem z8v{w:World}{base e size n g:Nat}{v:Value}{xs:List Value}(h:w.ownsRow base e size v n xs)(hg:v.ownBlock=some g):∃cur,w.heap[g]? =some (.cells cur e):=by
 obtain⟨_,⟨h1,h2⟩|⟨g',cap,cur,rfl,_,hh,_⟩⟩:=h
 ·rw[h1]at hg;cases hg
 ·have:g'=g:=Option.some.inj hg
  subst this;exact⟨cur,hh⟩
theorem RoR.app{B D:Nat}{pv pv':Value}{acc:List Rl}{xs c:List Value}{n:Rl}{W2 W3 W4:World}(ho:W2.ownsRow B 65 10 pv acc.length xs)(ha:Zl W2 (fun g=>B<=g) acc xs)(hn:Vv W2 (fun g=>D<=g) n c)(hD:B<=D)(hb:Below W2.heap.size W2 W3)
  (hown:W4.ownsRow B 65 10 pv' (acc.length+1) (xs++c))(hgr:W3.grownBy W4 pv.ownBlock):RoR B pv' (acc++[n]) W4:=by
 have key:∀(g:Nat) (cur:Array Value),W2.heap[g]? =some (Obj.cells cur 58)->W4.heap[g]? =W2.heap[g]? :=fun g cur hq=>by
  have hs:=hb.size;have hl:=Qz hq;refine(hgr.block g (by omega) (fun e=> ?_)).trans (hb.block g hl);obtain⟨cur',h'⟩:=z8v ho e.symm;rw[h']at hq;simp at hq
 refine⟨xs++c,by simpa using hown,Zl.append _ _ _ _ (Zl.kept (fun g cur hp hq=>⟨key g cur hq,hp⟩) _ _ ha) ho.1 (Vv.kept (fun g cur hp hq=>⟨key g cur hq,show B<=g by have hp':D<=g:=hp;omega⟩) hn)⟩
theorem RoR.one{B:Nat}{x:Rl}{a0 a1 a2 a3 a4 a5 a6 a7 a8 a9:Value}{W:World}(h:Vv W (fun g=>B<=g) x [a0,a1,a2,a3,a4,a5,a6,a7,a8,a9])(hB:B<=W.heap.size):RoR B (.slice (some ⟨W.heap.size,0,none⟩) 1 1) [x] (W.alloc (.cells #[a0,a1,a2,a3,a4,a5,a6,a7,a8,a9] 65)):=by
 refine⟨[a0,a1,a2,a3,a4,a5,a6,a7,a8,a9],⟨rfl,.inr ⟨W.heap.size,1,_,rfl,hB,Qq _ _ rfl,Nat.le_refl _,by unfold maxLen;omega,rfl,rfl⟩⟩,?_⟩;rw[Zl];exact⟨[a0,a1,a2,a3,a4,a5,a6,a7,a8,a9],[],by simp,Vv.kept (fun g cur hp hq=>⟨Below.heap_alloc W _ g (Qz hq),hp⟩) h,by rw[Zl];trivial⟩
theorem Ek.rowed{O:Obj}{w W W':World}{R b:Nat}{v:Value}{L:List Tok}{k ru ne:Nat}{row:Option Nat}(h:Ek O w R b v L k ru ne W)(hg:W.grownBy W' row)(hr:∀g,row=some g->w.heap.size<g):Ek O w R b v L k ru ne W':=by
 have hR:=h.lt;have hs:=h.size;have hne:some R≠row:=fun e=>by have:=hr R e.symm;omega
 have hnq:some w.heap.size≠row:=fun e=>by have:=hr _ e.symm;omega
 have hvv:v.ownBlock=none∨v.ownBlock≠row:=by
  cases hv:v.ownBlock with
  |none=>exact .inl rfl
  |some g=>exact .inr (fun e=>h.2.2.2.2 g (by have:=hr g e.symm;omega) hv)
 exact⟨⟨(hg.block R (by omega) hne).trans h.1.1,h.1.2.kept hg hvv⟩,⟨hg.os.trans h.2.1.os,hg.tape.trans h.2.1.tape,hg.output.trans h.2.1.output,Nat.le_trans h.2.1.size hg.size,fun j hj hne=>(hg.block j (by omega) (fun e=>by have:=hr j e.symm;omega)).trans (h.2.1.block j hj hne)⟩,(hg.block _ hs hnq).trans h.2.2.1,hR,h.2.2.2.2⟩
theorem Tryz.infoRl:(Tryz.prog.info? 65).map (fun i=>(i.zero,i.size,i.bytes))=some (some (.agg #[.string ⟨#[]⟩,.int .i64 0,.string ⟨#[]⟩,.int .u64 0,.int .u64 0,.int .u64 0,.int .u64 0,.slice none 0 0,.int .i64 0,.int .i64 0]),10,112):=by kernel_rfl
theorem z1S(w:World)(a b c d e f g h i k:Value)(t:TypeId):∀j x,[a,b,c,d,e,f,g,h,i,k][j]? =some x->(w.alloc (.cells #[a,b,c,d,e,f,g,h,i,k] t)).cell? ((⟨w.heap.size,0,none⟩:Addr).add j)=some x:=by
 intro j x hj
 match j,hj with
 |0,hj=>simp at hj;subst hj;simp[Addr.add]
 |1,hj=>simp at hj;subst hj;simp[Addr.add]
 |2,hj=>simp at hj;subst hj;simp[Addr.add]
 |3,hj=>simp at hj;subst hj;simp[Addr.add]
 |4,hj=>simp at hj;subst hj;simp[Addr.add]
 |5,hj=>simp at hj;subst hj;simp[Addr.add]
 |6,hj=>simp at hj;subst hj;simp[Addr.add]
 |7,hj=>simp at hj;subst hj;simp[Addr.add]
 |8,hj=>simp at hj;subst hj;simp[Addr.add]
 |9,hj=>simp at hj;subst hj;simp[Addr.add]
theorem z1T(N:ByteArray)(a:Int)(T:ByteArray)(c0 c1 c2 c3:Int)(so:Option Addr)(sl sc:Nat)(p q:Int):∀u∈[Value.string N,Value.int .i64 a,.string T,.int .u64 c0,.int .u64 c1,.int .u64 c2,.int .u64 c3,.slice so sl sc,.int .i64 p,.int .i64 q],u.oneCell'=true:=by
 intro u hu;simp at hu;rcases hu with rfl|rfl|rfl|rfl|rfl|rfl|rfl|rfl|rfl|rfl<;>rfl
def Xd(L:List Tok):Nat->Nat->List Rl->(Nat×Nat) ⊕ List Rl
 |0,_,_=>.inl (0,0)
 |f+1,k,acc=>if(gL L k).1=6 then .inr acc else(match ruS L acc.length k with
   | .inl e=>.inl e
   | .inr (x,k')=>Xd L f k' (acc++[x]))
def z1U(L:List Tok)(r:(Nat×Nat) ⊕ (Rl×Nat)):(Nat×Nat) ⊕ List Rl:=match r with
 | .inl e=>.inl e
 | .inr (x,k')=>Xd L L.length k' [x]
def Uz(L:List Tok):(Nat×Nat) ⊕ List Rl:=z1U L (ruS L 0 0)
def Dd(r:(Nat×Nat) ⊕ List Rl)(B R:Nat)(w:World)(e:Ending)(w':World):Prop:=
 match r with
 | .inr rs=>∃g cap,e=.returned (.agg #[.slice (some ⟨g,0,none⟩) rs.length cap])/\Hid (RoR B (.slice (some ⟨g,0,none⟩) rs.length cap) rs w')/\Hid (w.grownBy w' (some R))
 | .inl c=>∃f,e=.panicked [{v:=.iface 81 (.pointer (some ⟨f,0,none⟩)),recovered:=false}]/\Hid (w.heap.size<=f/\Flt w' f c)/\Hid (w.grownBy w' (some R))
@[reducible] def Zg:Obj:=.cells #[.slice none 0 0] 24
theorem Ek.upG{O:Obj}{w W:World}{R b:Nat}{v:Value}{L:List Tok}{k ru ne:Nat}(h:Ek O w R b v L k ru ne W){c:Nat×Nat}{B B' ru':Nat}{e:Ending}{w':World}(hA:Mg (.inl c) B' R b v L ru' W e w'):Dd (.inl c) B R w e w':=by
 obtain⟨f,he,HF,HG⟩:=hA;exact⟨f,he,hid ⟨by have:=HF.out.1;have:=h.size;omega,HF.out.2⟩,hid (G.trans h.2.1 HG.out)⟩
theorem Ek.finG{w W:World}{B R b:Nat}{v:Value}{L:List Tok}{k ru ne g n cap:Nat}{rs:List Rl}(h:Ek Zg w R b v L k ru ne W)(hn:n=rs.length)(hr:RoR (w.heap.size+1) (.slice (some ⟨g,0,none⟩) n cap) rs W)(hB:B<=w.heap.size):
  Dd (.inr rs) B R w (.returned (.agg #[.slice (some ⟨g,0,none⟩) n cap])) (W.setCell ⟨w.heap.size,0,none⟩ (.slice (some ⟨g,0,none⟩) n cap)):=by
 subst hn;obtain⟨xs,h1,h2⟩:=hr;have hgr:W.grownBy (W.setCell ⟨w.heap.size,0,none⟩ (.slice (some ⟨g,0,none⟩) rs.length cap)) (some w.heap.size):=G.setR (G.refl W w.heap.size);refine⟨g,cap,rfl,hid ⟨xs,?_,Zl.kept (fun g cur hp hq=>⟨hgr.block g (Qz hq) (fun e=> ?_),show B<=g by have hp':w.heap.size+1<=g:=hp;omega⟩) _ _ h2⟩,hid (G.setN h.2.1 L0q)⟩
 ·have h3:=h1.kept hgr (.inr (fun e=>by have:=(h1.lt _ e).1;omega))
  obtain⟨a,⟨hq,_⟩|⟨g',cap',cur,hq,hb,rest⟩⟩:=h3
  ·cases hq
  ·exact⟨a,.inr ⟨g',cap',cur,hq,by omega,rest⟩⟩
 ·have e2:g=w.heap.size:=Option.some.inj e
  have hp':w.heap.size+1<=g:=hp;omega
theorem z1V{L:List Tok}{ru k:Nat}{x:Rl×Nat}(h:ruS L ru k=.inr x):ru≠64:=by
 intro e;unfold ruS at h;rw[if_pos e]at h;split at h<;>cases h
theorem z8w(R b B:Nat)(v:Value)(L:List Tok)(w:World)(hg:Zx L)(h:Rd w R b v L 0 0 0)(hl0:0<L.length)(hB:B<=w.heap.size):
  Calls prog 67 #[.pointer (some ⟨R,0,none⟩)] w fun e w'=>Dd (Uz L) B R w e w':=by
 obtain⟨iT,hiT,hzT0,hzT1,hzT2⟩:=info_parts Tryz.infoRl;have fd0:=Tryz.fld0;have HE0:Hid (Ek Zg w R b v L 0 0 0 (w.alloc Zg)):=Ek.start Zg h;have HG:Hid (Zx L):=hg;have hll:=hg.len;have HO:=hid (z1R R b v L 0 0 (w.heap.size+1) (w.alloc Zg) hg (h.alloc _) hl0 (by omega) (by simp));unfold Uz;cases hs:ruS L 0 0 with
 |inl c=>
  rw[hs]at HO;clear hg h hs;show Calls _ _ _ _ (fun e w'=>Dd (.inl c) B R w e w');go_enter func67,ntmps67
  go_wp2_with fail
  refine HO.out.mono ?_;rintro e w1 hA;have HAP:Hid (Dd (.inl c) B R w e w1):=HE0.out.upG hA;obtain⟨f,rfl,_,_⟩:=hA;clear HO HE0
  go_wp2_with fail
  exact⟨rfl,HAP.out⟩
 |inr x=>
  obtain⟨x,k1⟩:=x;have hk1:=z1Q hg hl0 hs;rw[hs]at HO;obtain⟨RES,hR⟩:∃RES,RES=Xd L L.length k1 [x]:=⟨_,rfl⟩;have HM0:Hid (Xd L L.length k1 [x]=RES):=hR.symm;show Calls _ _ _ _ (fun e w'=>Dd (Xd L L.length k1 [x]) B R w e w');rw[<-hR];clear hR h hg hs;go_enter func67,ntmps67
  go_wp2_with fail
  refine HO.out.mono ?_;rintro e w1 ⟨cs,rfl,HN,HR,HGr⟩;have HE1:=hid (HE0.out.grown HR.out HGr.out);clear HO HR HGr HE0;obtain⟨N,kd,T,C,so,sl,sc,p,q,hcs⟩:=HN.out.shape;subst hcs;have HRo1:=hid (RoR.one HN.out HE1.out.size);have HE2:=hid (HE1.out.alloc (.cells #[.string N,.int .i64 kd,.string T,.int .u64 (wd C 0),.int .u64 (wd C 1),.int .u64 (wd C 2),.int .u64 (wd C 3),.slice so sl sc,.int .i64 p,.int .i64 q] 65));clear HN HE1
  go_wp2_with fail
  go_loopw [3] (fun a wr=>∃(f j:Nat) (m:Rl) (r:List Rl),j<L.length/\L.length<=f+j/\r.length+1<=j/\r.length+1<=64/\Hid (Xd L f j (m::r)=RES)/\Hid (RoR (w.heap.size+1) a (m::r) wr)/\Hid (Ek Zg w R b v L j (r.length+1) 0 wr)) (fun _ wr=>L.length-Gy R wr)
  case atStart=>exact⟨L.length,k1,x,[],hk1.2,by omega,by simp;omega,by simp,HM0,HRo1,HE2⟩
  case round=>
   obtain⟨f,j,m,r,hj,hfj,haj,hr64,HMj,HRo,HE⟩:=hrel;clear HM0 HE2 HRo1;have HT:=Fw R b v L j (r.length+1) 0 hj HG.out;cases f with
   |zero=>omega
   |succ f=>
   by_cases hz:(gL L j).1=6
   ·have HF:Hid (RES=.inr (m::r)):=by show _=_;rw[<-HMj.out,Xd,if_pos hz]
    obtain⟨t,ht⟩:∃t,t=gL L j:=⟨_,rfl⟩;rw[<-ht]at HT hz;clear ht HMj;obtain⟨tk,tN,tC,tq⟩:=t;have hz':tk=6:=hz;subst hz';clear hz;obtain⟨xs0,hx0,_⟩:=HRo.out;rw[List.length_cons]at hx0;obtain⟨g,cap,hsl⟩:=Fz hx0 (by omega);clear hx0;subst hsl;obtain⟨M,hM⟩:∃M,M=r.length+1:=⟨_,rfl⟩;have HMm:Hid (M=r.length+1):=hM;rw[<-hM]at haj hr64 HT HE HRo ⊢;clear hM
    go_wp2_with fail
    refine(HT.out _ HE.out.1).mono ?_;rintro e w2 ⟨rfl,hb2⟩;have HE3:=hid (HE.out.below hb2);have HRo3:=hid (HRo.out.below hb2);clear hb2 HE HT HRo;dsimp only[tkv];have hc0:w2.cell? ⟨w.heap.size,0,none⟩=some (.slice none 0 0):=by have:=HE3.out.2.2.1;simp[World.cell?,this]
    have hf0:w2.frozen? ⟨w.heap.size,0,none⟩=false:=by have:=HE3.out.2.2.1;simp[World.frozen?,this]
    have hQl:=HE3.out.size
    go_wp2_with fail
    (try simp only[Exit.inBlock,Exit.then])
    refine bodyPost_ret (v:=.agg #[.slice (some ⟨g,0,none⟩) M cap]) (by simp[results,Tryz.results67,go_sem,hc0]) rfl ?_;rw[HF.out];exact HE3.out.finG HMm.out HRo3.out hB
   ·have HC:=hid (fun(W:World) (h:Rd W R b v L j (r.length+1) 0)=>z1R R b v L (r.length+1) j W.heap.size W HG.out h hj hr64 L0q)
    obtain⟨t,ht⟩:∃t,t=gL L j:=⟨_,rfl⟩;have hz0:=hz;rw[<-ht]at HT hz;clear ht;obtain⟨tk,tN,tC,tq⟩:=t;have hz':tk≠6:=hz;have t6:((tk:Int) != 6)=true:=by rw[bne_iff_ne];omega
    clear hz hz';cases hs:ruS L (r.length+1) j with
    |inl c=>
     have HF:Hid (RES=.inl c):=by show _=_;rw[<-HMj.out,Xd,if_neg hz0,List.length_cons,hs]
     rw[hs]at HC;clear hs HMj hz0
     go_wp2_with fail
     refine(HT.out _ HE.out.1).mono ?_;rintro e w2 ⟨rfl,hb2⟩;have HE3:=hid (HE.out.below hb2);clear hb2 HE HT HRo;dsimp only[tkv]
     go_wp2_with fail
     refine(HC.out _ HE3.out.1).mono ?_;rintro e w4 hA;have HAP:Hid (Dd RES B R w e w4):=by show Dd _ _ _ _ _ _;rw[HF.out];exact HE3.out.upG hA
     obtain⟨f',rfl,_,_⟩:=hA;clear HE3 HC HF
     go_wp2_with fail
     exact⟨rfl,HAP.out⟩
    |inr y=>
     obtain⟨y,k'⟩:=y;have hk':=z1Q HG.out hj hs;have hr64':=z1V hs;have HM2:Hid (Xd L f k' ((m::r)++[y])=RES):=by show _=_;rw[<-HMj.out,Xd,if_neg hz0,List.length_cons,hs]
     rw[hs]at HC;clear hs HMj hz0;have HJ:Hid (Gy R wr=j):=Mf HE.out.1
     go_wp2_with fail
     refine(HT.out _ HE.out.1).mono ?_;rintro e w2 ⟨rfl,hb2⟩;have HE3:=hid (HE.out.below hb2);have HRo3:=hid (HRo.out.below hb2);clear hb2 HE HT HRo;dsimp only[tkv]
     go_wp2_with fail
     refine(HC.out _ HE3.out.1).mono ?_;rintro e w5 ⟨cs,rfl,HN,HR,HGr⟩;have HE5:=hid (HE3.out.grown HR.out HGr.out);have HRo5:=hid (HRo3.out.grown HGr.out (by have:=HE3.out.lt;omega));have HW1:Hid (w.heap.size+1<=w2.heap.size):=HE3.out.size;clear HE3 HRo3 HR HGr HC;obtain⟨N,kd,T,C,so,sl,sc,p,q,hcs⟩:=HN.out.shape;subst hcs;obtain⟨xs,hx1,hx2⟩:=HRo5.out;have HX1:=hid hx1;have HX2:=hid hx2;clear hx1 hx2 HRo5;rw[List.length_cons]at HX1
     go_wp2_with(first|(at_builtin;refine wpList_append_own_at _ rfl (.tmp 11) (.tmp 14) 22 rfl (w.heap.size+1) 65 iT (.agg #[.string ⟨#[]⟩,.int .i64 0,.string ⟨#[]⟩,.int .u64 0,.int .u64 0,.int .u64 0,.int .u64 0,.slice none 0 0,.int .i64 0,.int .i64 0]) 10 112 Tryz.underlying22 hiT hzT0 hzT1 hzT2 rfl (by decide) _ _ _ rfl (HX1.out.alloc _) ⟨w5.heap.size,0,none⟩ 1 1 [.string N,.int .i64 kd,.string T,.int .u64 (wd C 0),.int .u64 (wd C 1),.int .u64 (wd C 2),.int .u64 (wd C 3),.slice so sl sc,.int .i64 p,.int .i64 q] rfl rfl (z1S w5 _ _ _ _ _ _ _ _ _ _ 65) (z1T _ _ _ _ _ _ _ _ _ _ _ _) (by unfold maxLen;omega) (by omega) (by have:=HE5.out.size;simp;omega) ?_;intro v6 w6 hown6 hgr6 hnil6 hat6))
     have HRo6:Hid (RoR (w.heap.size+1) v6 ((m::r)++[y]) w6):=RoR.app HX1.out HX2.out HN.out HW1.out ((Below.refl _ w5).alloc L0q _) hown6 hgr6;have HE6:Hid (Ek Zg w R b v L k' (r.length+1+1) 0 w6):=(HE5.out.alloc _).rowed hgr6 (fun g e=>by have:=(HX1.out.lt g e).1;omega);have HJ6:Hid (Gy R w6=k'):=Mf HE6.out.1;clear hown6 hgr6 hnil6 hat6 HX1 HX2 HN HE5 HW1
     go_wp2_with fail
     go_roundw
     case rel=>exact⟨f,k',m,r++[y],hk'.2,by omega,by simp;omega,by simp;omega,HM2,HRo6,by simpa using HE6⟩
     case measure=>rw[HJ.out,HJ6.out];omega
theorem Tryz.asFlt(v:Value)(xT:TypeId)(w:World):(Instr.typeAssert (.iface 81 v) xT 81 true).run prog w=.ok (.tuple #[v,.bool true]) w:=by kernel_rfl
theorem z8x(p q:Nat)(w:World):
  CallsD prog 66 #[.pointer (some ⟨p,0,none⟩),.pointer (some ⟨q,0,none⟩)] .returning w fun e u' w'=>e=.returned (.tuple #[])/\u'=.returning/\w'=w:=by
 refine callsD_of_wpS func66 rfl fun c₀ cs hu=> ?_
 apply wpS_seq;apply wpS_region;simp[wpOpsS,go_sem,recoverD,hu,ntmps66,Exit.thenS];refine wpS_of_wp ?_
 go_wp2
 cases c₀;simp_all[bodyPostS,results,Tryz.results66]
theorem z8y(p q f:Nat)(older:List PanicEntry)(w:World)(hne:p≠q)(hp:w.cell? ⟨p,0,none⟩=some (.slice none 0 0))(hq:w.cell? ⟨q,0,none⟩=some .nilIface)(hp2:w.frozen? ⟨p,0,none⟩=false)(hq2:w.frozen? ⟨q,0,none⟩=false):
  CallsD prog 66 #[.pointer (some ⟨p,0,none⟩),.pointer (some ⟨q,0,none⟩)] (.panicking ({v:=.iface 81 (.pointer (some ⟨f,0,none⟩)),recovered:=false}::older)) w fun e u' w'=>
   e=.returned (.tuple #[])/\u'=.panicking ({v:=.iface 81 (.pointer (some ⟨f,0,none⟩)),recovered:=true}::older)/\w'=(w.setCell ⟨p,0,none⟩ (.slice none 0 0)).setCell ⟨q,0,none⟩ (.iface 81 (.pointer (some ⟨f,0,none⟩))):=by
 refine callsD_of_wpS func66 rfl fun c₀ cs hu=> ?_
 apply wpS_seq;apply wpS_region;simp[wpOpsS,go_sem,recoverD,hu,ntmps66,Exit.thenS];have hta:=Tryz.asFlt;refine wpS_of_wp ?_;rw[show(#[Value.pointer (some ⟨p,0,none⟩),Value.pointer (some ⟨q,0,none⟩)]++(Array.replicate 12 undef).setIfInBounds 3 (Value.iface 81 (Value.pointer (some ⟨f,0,none⟩))))=#[Value.pointer (some ⟨p,0,none⟩),Value.pointer (some ⟨q,0,none⟩),undef,undef,undef,Value.iface 81 (Value.pointer (some ⟨f,0,none⟩)),undef,undef,undef,undef,undef,undef,undef,undef]from rfl];clear hu
 go_wp2_with fail
 simp[bodyPostS,results,Tryz.results66]
def Mb(r:(Nat×Nat) ⊕ List Rl)(w:World)(e:Ending)(w':World):Prop:=
 match r with
 | .inr rs=>∃g cap,e=.returned (.tuple #[.agg #[.slice (some ⟨g,0,none⟩) rs.length cap],.nilIface])/\Hid (RoR w.heap.size (.slice (some ⟨g,0,none⟩) rs.length cap) rs w')/\Hid (Below w.heap.size w w')
 | .inl c=>∃f,e=.returned (.tuple #[.agg #[.slice none 0 0],flv f])/\Hid (w.heap.size<=f/\Flt w' f c/\Below w.heap.size w w')
theorem RoR.low{B B':Nat}{pv:Value}{acc:List Rl}{W:World}(h:RoR B pv acc W)(hB:B'<=B):RoR B' pv acc W:=by
 obtain⟨xs,⟨a,h1⟩,h2⟩:=h;refine⟨xs,⟨a,?_⟩,Zl.kept (fun g cur hp hq=>⟨rfl,show B'<=g by have hp':B<=g:=hp;omega⟩) _ _ h2⟩;rcases h1 with h1|⟨g',cap',cur,hq,hb,rest⟩
 ·exact .inl h1
 ·exact .inr ⟨g',cap',cur,hq,by omega,rest⟩
theorem Below.setNew{w W:World}{g j:Nat}{u:Value}(h:Below w.heap.size w W)(hg:w.heap.size<=g):Below w.heap.size w (W.setCell ⟨g,j,none⟩ u):=
 h.grown (G.setR (G.refl W g)) h.size (fun k e=>by have:=Option.some.inj e;omega)
@[reducible] def w3R (w:World) (v:Value):World:=((w.alloc Zg).alloc (.cells #[.nilIface] 28)).alloc (.cells #[v,.int .i64 0,.int .i64 0,.int .i64 0] 151)
theorem z1W(w:World)(v:Value):(w3R w v).heap[w.heap.size]? =some Zg:=
 (Below.heap_alloc _ _ _ (by simp;omega)).trans ((Below.heap_alloc _ _ _ (by simp)).trans (Qq w _ rfl))
theorem z1X(w:World)(v:Value):(w3R w v).heap[w.heap.size+1]? =some (.cells #[.nilIface] 28):=
 (Below.heap_alloc _ _ _ (by simp)).trans (Qq _ _ (by simp))
theorem Qk{w:World}{g:Nat}{a:Value}{t:TypeId}(h:w.heap[g]? =some (.cells #[a] t)):w.cell? ⟨g,0,none⟩=some a/\w.frozen? ⟨g,0,none⟩=false:=by
 constructor<;>simp[World.cell?,World.frozen?,h]
theorem z1Y{w:World}{p:Nat}{a b:Value}{s t:TypeId}(hp:w.heap[p]? =some (.cells #[a] s))(hq:w.heap[p+1]? =some (.cells #[b] t))(x y:Value):
  ((w.setCell ⟨p,0,none⟩ x).setCell ⟨p+1,0,none⟩ y).cell? ⟨p,0,none⟩=some x/\((w.setCell ⟨p,0,none⟩ x).setCell ⟨p+1,0,none⟩ y).cell? ⟨p+1,0,none⟩=some y:=by
 constructor
 ·simp[World.cell?,World.setCell,Array.getElem?_modify,hp]
 ·simp[World.cell?,World.setCell,Array.getElem?_modify,hq]
theorem z8z(b:Nat)(v:Value)(L:List Tok)(w:World)(ho:w.ownsRow b 145 7 v L.length (tvs L))(hg:Zx L)(hl0:0<L.length):
  Calls prog 40 #[v] w fun e w'=>Mb (Uz L) w e w':=by
 have hmf:∀(fn:Fn) (first cap:Array Value) (w:World),(Instr.makeFunc fn first cap).run prog w=.ok (.func fn first cap) w:=fun _ _ _ _=>rfl
 obtain⟨g,cap,rfl⟩:=Fz ho (by omega);have hR:Rd (w3R w (.slice (some ⟨g,0,none⟩) L.length cap)) (w.heap.size+2) b (.slice (some ⟨g,0,none⟩) L.length cap) L 0 0 0:=⟨Qq _ _ (by simp),((ho.alloc _).alloc _).alloc _⟩;have HC:=hid (z8w (w.heap.size+2) b (w.heap.size+3) _ L _ hg hR hl0 (by simp));have HB:Hid (Below w.heap.size w (w3R w (.slice (some ⟨g,0,none⟩) L.length cap))):=((B0q.alloc L0q _).alloc (by simp) _).alloc (by simp<;>omega) _;obtain⟨n,hn⟩:∃n,n=L.length:=⟨_,rfl⟩;rw[<-hn]at HC HB ⊢;clear hn hR ho;cases hs:Uz L with
 |inl c=>
  rw[hs]at HC;clear hs
  go_enter_defers func40,ntmps40
  go_wp2_with fail
  refine HC.out.mono ?_;rintro e w4 ⟨f,rfl,HF,HG⟩;have HP:Hid (w4.heap[w.heap.size]? =some Zg):=(HG.out.block _ (by simp;omega) (fun e=>by have:=Option.some.inj e;omega)).trans (z1W w _);have HQ:Hid (w4.heap[w.heap.size+1]? =some (.cells #[.nilIface] 28)):=(HG.out.block _ (by simp) (fun e=>by have:=Option.some.inj e;omega)).trans (z1X w _);have HB4:Hid (Below w.heap.size w w4):=HB.out.grown HG.out HB.out.size (fun k e=>by have:=Option.some.inj e;omega);have hf:w.heap.size+3<=f:=by have:=HF.out.1;simp at this;omega
  have HA:Hid (Mb (.inl c) w (.returned (.tuple #[.agg #[.slice none 0 0],.iface 81 (.pointer (some ⟨f,0,none⟩))])) ((w4.setCell ⟨w.heap.size,0,none⟩ (.slice none 0 0)).setCell ⟨w.heap.size+1,0,none⟩ (.iface 81 (.pointer (some ⟨f,0,none⟩))))):=
   ⟨f,rfl,hid ⟨by omega,(Below.heap_setCell _ _ _ _ (show f≠w.heap.size+1 by omega)).trans ((Below.heap_setCell _ _ _ _ (show f≠w.heap.size by omega)).trans HF.out.2),Below.setNew (Below.setNew HB4.out L0q) (by omega)⟩⟩
  clear HC HF HG HB HB4
  go_wp2_with fail
  refine leaves_cons (f:=66) (args:=#[.pointer (some ⟨w.heap.size,0,none⟩),.pointer (some ⟨w.heap.size+1,0,none⟩)]) (by simp) (by simp[go_sem]) ?_;refine(z8y w.heap.size (w.heap.size+1) f [] w4 (by omega) (Qk HP.out).1 (Qk HQ.out).1 (Qk HP.out).2 (Qk HQ.out).2).mono ?_;rintro e u' w'' ⟨rfl,rfl,rfl⟩;obtain⟨c0,c1⟩:=z1Y HP.out HQ.out (.slice none 0 0) (.iface 81 (.pointer (some ⟨f,0,none⟩)));simp[Leaves,settle,results,Tryz.results40,go_sem,c0,c1];exact HA.out
 |inr rs=>
  rw[hs]at HC;clear hs;obtain⟨m,hm⟩:∃m,m=rs.length:=⟨_,rfl⟩;have HM:Hid (m=rs.length):=hm;clear hm
  go_enter_defers func40,ntmps40
  go_wp2_with fail
  refine HC.out.mono ?_;rintro e w4 ⟨g4,cap4,rfl,HRo,HG⟩;rw[<-HM.out]at HRo ⊢;have HP:Hid (w4.heap[w.heap.size]? =some Zg):=(HG.out.block _ (by simp;omega) (fun e=>by have:=Option.some.inj e;omega)).trans (z1W w _);have HQ:Hid (w4.heap[w.heap.size+1]? =some (.cells #[.nilIface] 28)):=(HG.out.block _ (by simp) (fun e=>by have:=Option.some.inj e;omega)).trans (z1X w _);have HB4:Hid (Below w.heap.size w w4):=HB.out.grown HG.out HB.out.size (fun k e=>by have:=Option.some.inj e;omega);have hs4:w.heap.size+1<w4.heap.size:=Qz HQ.out;have HA:Hid (Mb (.inr rs) w (.returned (.tuple #[.agg #[.slice (some ⟨g4,0,none⟩) m cap4],.nilIface])) ((w4.setCell ⟨w.heap.size,0,none⟩ (.slice (some ⟨g4,0,none⟩) m cap4)).setCell ⟨w.heap.size+1,0,none⟩ .nilIface)):=by
   have hr:=(HRo.out.grown (G.setR (u:=.slice (some ⟨g4,0,none⟩) m cap4) (j:=0) (G.refl w4 w.heap.size)) (by omega)).grown (G.setR (u:=.nilIface) (j:=0) (G.refl _ (w.heap.size+1))) (by omega);have hm:=HM.out;subst hm;exact⟨g4,cap4,rfl,hid (hr.low (by omega)),hid (Below.setNew (Below.setNew HB4.out L0q) (by omega))⟩
  obtain⟨e0,y0⟩:=Qk HP.out;obtain⟨e1,y1⟩:=Qk HQ.out;clear HC HRo HG HB HB4
  go_wp2_with fail
  refine leaves_cons (f:=66) (args:=#[.pointer (some ⟨w.heap.size,0,none⟩),.pointer (some ⟨w.heap.size+1,0,none⟩)]) (by simp) (by simp[go_sem]) ?_;refine(z8x w.heap.size (w.heap.size+1) _).mono ?_;rintro e u' w'' ⟨rfl,rfl,rfl⟩;obtain⟨c0,c1⟩:=z1Y HP.out HQ.out (.slice (some ⟨g4,0,none⟩) m cap4) .nilIface;simp[Leaves,settle,results,Tryz.results40,go_sem,c0,c1];exact HA.out
def Bc(t:Tok):Prop:=t.1<=5/\(t.1=5->∃x,x<256/\t.2.1=nb [x])
theorem z8A{S:ByteArray}{p x n:Nat}{t:Tok}(hb:bt S p=some x)(h:Vj S p x=.inr (t,n)):Bc t:=by
 have hx:=(Qb hb).2;refine⟨(Mk hb h).2.2.2.2.2.1,fun h5=> ?_⟩;unfold Vj at h;split at h
 ·split at h
  ·cases h
  ·simp only[Sum.inr.injEq,Prod.mk.injEq]at h
   rw[<-h.1]at h5;exact absurd h5 (by show ¬(1:Nat)=5;decide)
 ·split at h
  ·split at h
   ·cases h
   ·simp only[Sum.inr.injEq,Prod.mk.injEq]at h
    rw[<-h.1]at h5;exact absurd h5 (by show ¬(3:Nat)=5;decide)
  ·split at h
   ·split at h
    ·cases h
    ·simp only[Sum.inr.injEq,Prod.mk.injEq]at h
     rw[<-h.1]at h5;exact absurd h5 (by show ¬(4:Nat)=5;decide)
   ·split at h
    ·simp only[Sum.inr.injEq,Prod.mk.injEq]at h
     rw[<-h.1]at h5;exact absurd h5 (by show ¬(2:Nat)=5;decide)
    ·split at h
     ·simp only[Sum.inr.injEq,Prod.mk.injEq]at h
      exact⟨x,hx,by rw[<-h.1]⟩
     ·cases h
theorem Sf(S:ByteArray):∀(f k:Nat) (acc L:List Tok),tkl S f k acc=.inr L->(∀t∈acc,Bc t)->(∀t∈L,Bc t)/\L.length<=acc.length+(S.size-k)
 |0,k,acc,L,h,ha=>by
  rw[tkl]at h;simp only[Sum.inr.injEq]at h;subst h;exact⟨ha,by omega⟩
 |f+1,k,acc,L,h,ha=>by
  rw[tkl]at h;split at h
  ·simp only[Sum.inr.injEq]at h
   subst h;exact⟨ha,by omega⟩
  ·rename_i x hb
   split at h
   ·cases h
   ·rename_i t n ht
    have h1:=Mk hb ht;have h2:=Bf (S:=S) (n:=n) h1.2.1;have h3:=(Qb hb).1;have:=Sf S f (sb S n) (acc++[t]) L h (fun u hu=>by
     rcases List.mem_append.1 hu with h|h
     ·exact ha u h
     ·simp at h;rw[h];exact z8A hb ht)
    refine⟨this.1,?_⟩;have h4:=this.2;simp at h4;omega
theorem z1Z{a b:List Tok}{k:Nat}(h:k<a.length):gL (a++b) k=a[k]:=by
 unfold gL;rw[List.getElem?_append_left h,List.getElem?_eq_getElem h];rfl
theorem z2a{a b:List Tok}{k:Nat}(h:a.length<=k):gL (a++b) k=gL b (k-a.length):=by
 unfold gL;rw[List.getElem?_append_right h]
theorem z8B{m:List Tok}{p:Nat}(hm:∀t∈m,Bc t)(hl:m.length<=9000):Zx (m++[(6,{data:=#[]},0,p)]):=by
 have hr:∀k,m.length<=k->(gL (m++[(6,{data:=#[]},0,p)]) k).1=6:=fun k hk=>by
  rw[z2a hk]
  match k-m.length with
  |0=>rfl
  |j+1=>rfl
 refine⟨by simp;omega,fun k hk h6=> ?_,fun k h5=> ?_⟩
 ·rcases Nat.lt_or_ge k m.length with h|h
  ·simp;omega
  ·exact absurd (hr k h) h6
 ·rcases Nat.lt_or_ge k m.length with h|h
  ·rw[z1Z h]at h5 ⊢
   exact(hm _ (List.getElem_mem h)).2 h5
  ·rw[hr k h]at h5
   cases h5
theorem z8C{S:ByteArray}{L:List Tok}(h:tkS S=.inr L)(hS:S.size<=8192):Zx L/\0<L.length:=by
 unfold tkS at h;cases hm:tks S (sb S 0) []with
 |inl c=>rw[hm]at h;cases h
 |inr m=>
  rw[hm]at h;simp only[tkE,Sum.inr.injEq]at h;subst h;have:=Sf S _ _ _ _ hm (fun t ht=>by simp at ht);exact⟨z8B this.1 (by have h2:=this.2;simp at h2;omega),by simp⟩
def z8D(r:Tr):(Nat×Nat) ⊕ List Rl:=match r with
 | .inl c=>.inl c
 | .inr L=>Uz L
def Uq(S:ByteArray):(Nat×Nat) ⊕ List Rl:=z8D (tkS S)
theorem z2b{w W:World}{x:Value}(hb:Below (w.heap.size+1) (w.alloc Zg) W):W.heap[w.heap.size]? =some Zg/\Below w.heap.size w W/\Below w.heap.size w (W.setCell ⟨w.heap.size,0,none⟩ x):=by
 have h1:W.heap[w.heap.size]? =some Zg:=(hb.block _ (by omega)).trans (Qq w _ rfl);have h2:Below w.heap.size w W:=((Below.refl _ w).alloc L0q Zg).trans (hb.mono (by omega));exact⟨h1,h2,Below.setNew h2 L0q⟩
def Nd.kd:Nd->Nat
 | .mk k _ _ _ _=>k
theorem Zl.get{w:World}{P:Nat->Prop}:∀(l:List Rl) (vs:List Value) (k:Nat) (hk:k<l.length),Zl w P l vs->∃c,Vv w P l[k] c/\∀j u,c[j]? =some u->vs[k*10+j]? =some u
 |[],vs,k,hk,_=>by simp at hk
 |x::r,vs,0,hk,h=>by
  rw[Zl]at h;obtain⟨c,rest,rfl,h1,h2⟩:=h;refine⟨c,h1,fun j u hj=> ?_⟩;have hl:j<c.length:=by
   rcases Nat.lt_or_ge j c.length with h|h
   ·exact h
   ·rw[List.getElem?_eq_none h]at hj;cases hj
  rw[show 0*10+j=j by omega,List.getElem?_append_left hl];exact hj
 |x::r,vs,k+1,hk,h=>by
  rw[Zl]at h;obtain⟨c,rest,rfl,h1,h2⟩:=h;have hc:=h1.len;obtain⟨d,h3,h4⟩:=Zl.get r rest k (by simp at hk;omega) h2;refine⟨d,h3,fun j u hj=> ?_⟩;rw[List.getElem?_append_right (by omega),show(k+1)*10+j-c.length=k*10+j by omega];exact h4 j u hj
theorem RoR.get{B g n cap:Nat}{rs:List Rl}{W:World}(h:RoR B (.slice (some ⟨g,0,none⟩) n cap) rs W)(k:Nat)(hk:k<rs.length):
  ∃c,Vv W (fun g=>B<=g) rs[k] c/\∀j u,c[j]? =some u->W.cell? ⟨g,k*10+j,none⟩=some u:=by
 obtain⟨xs,h1,h2⟩:=h;obtain⟨c,h3,h4⟩:=Zl.get rs xs k hk h2;have hc:=h3.len;have hn:n=rs.length:=by
  obtain⟨_,⟨hq,_⟩|⟨g',cap',cur,hq,_⟩⟩:=h1
  ·cases hq
  ·injection hq
 subst hn;refine⟨c,h3,fun j u hj=> ?_⟩;have hl:j<c.length:=by
  rcases Nat.lt_or_ge j c.length with h|h
  ·exact h
  ·rw[List.getElem?_eq_none h]at hj;cases hj
 rw[h1.cellAt _ (by omega)];exact h4 j u hj
theorem Tryz.cellsOf49:Tryz.prog.cellsOf 49=1:=by kernel_rfl
theorem Tryz.info49:(Tryz.prog.info? 49).map (fun i=>(i.zero,i.size,i.bytes))=some (some (.int .u64 0),1,8):=by kernel_rfl
theorem Sg(n:Nat)(w:World)(a b c d a' b' c' d':Int):
  (Op.equalIn (n+2) 51 (.agg #[.int .u64 a,.int .u64 b,.int .u64 c,.int .u64 d]) (.agg #[.int .u64 a',.int .u64 b',.int .u64 c',.int .u64 d'])).run prog w=.ok (a == a'&&(b == b'&&(c == c'&&d == d'))) w:=by
 obtain⟨i,hi⟩:∃i,Tryz.prog.info? 49=some i:=by
  cases h:Tryz.prog.info? 49 with
  |none=>have:=Tryz.info49;rw[h]at this;cases this
  |some i=>exact⟨i,rfl⟩
 have hu:Tryz.prog.underlying 51=some (.array 4 49):=by kernel_rfl
 rw[run_equalIn_array w (n+1) _ _ hu hi,Tryz.cellsOf49];have p:∀(x y z t:Value) (w:World),(part 49 #[x,y,z,t] 0).run prog w=.ok x w:=fun _ _ _ _ _=>by kernel_rfl
 have p1:∀(x y z t:Value) (w:World),(part 49 #[x,y,z,t] 1).run prog w=.ok y w:=fun _ _ _ _ _=>by kernel_rfl
 have p2:∀(x y z t:Value) (w:World),(part 49 #[x,y,z,t] 2).run prog w=.ok z w:=fun _ _ _ _ _=>by kernel_rfl
 have p3:∀(x y z t:Value) (w:World),(part 49 #[x,y,z,t] 3).run prog w=.ok t w:=fun _ _ _ _ _=>by kernel_rfl
 have e:∀(x y:Int) (w:World),(Op.equalIn (n+1) 49 (.int .u64 x) (.int .u64 y)).run prog w=.ok (x == y) w:=fun x y w=>run_equalIn_int w n 49 .u64 .u64 x y Tryz.underlying49
 rw[show List.range 4=[0,1,2,3]from rfl];simp only[Op.eqItems,Sem.run_bind,Nat.mul_one,p,e,Result.andThen_ok];cases h1:a == a'<;>cases h2:b == b'<;>cases h3:c == c'<;>cases h4:d == d'<;>simp[Result.andThen,p1,p2,p3,e,h2,h3,h4,-beq_iff_eq,-beq_eq_false_iff_ne]
mutual
def Sm:Nd->Nd->Prop
 | .mk kd T C s _,.mk kd' T' C' s' _=>kd'=kd/\T'=T/\C'=C/\SmL s s'/\s.length<=1000000
def SmL:List Nd->List Nd->Prop
 |[],[]=>True
 |a::r,b::q=>Sm a b/\SmL r q
 |_,_=>False
end
theorem SmL.len:∀{s t:List Nd},SmL s t->t.length=s.length
 |[],[],_=>rfl
 |[],_::_,h=>by simp[SmL]at h
 |_::_,[],h=>by simp[SmL]at h
 |a::r,b::q,h=>by
  rw[SmL]at h;simp[SmL.len h.2]
section
theorem Dm{kd:Nat}{T:ByteArray}{C p p':Nat}{s s':List Nd}(h:SmL s s')(hl:s.length<=1000000):Sm (.mk kd T C s p) (.mk kd T C s' p'):=by
 rw[Sm];exact⟨rfl,rfl,rfl,h,hl⟩
theorem Dp:SmL [] []:=by rw[SmL];trivial
theorem Hl{a b:Nd}(h:Sm a b):SmL [a] [b]:=by rw[SmL];exact⟨h,Dp⟩
theorem Sb:∀{s t:List Nd} {a b:Nd},SmL s t->Sm a b->SmL (s++[a]) (t++[b])
 |[],[],a,b,_,h=>Hl h
 |[],_::_,_,_,h,_=>by simp[SmL]at h
 |_::_,[],_,_,h,_=>by simp[SmL]at h
 |x::s,y::t,a,b,h,h2=>by
  rw[SmL]at h;rw[List.cons_append,List.cons_append,SmL];exact⟨h.1,Sb h.2 h2⟩
theorem z2c(kd:Nat):∀{s t:List Nd},SmL s t->s.length<=1000000->s≠[]->Sm (Vg kd s) (Vg kd t)
 |[],_,_,_,h=>absurd rfl h
 |_::_,[],h,_,_=>by simp[SmL]at h
 |[a],[b],h,_,_=>by rw[SmL]at h;exact h.1
 |[a],b::c::t,h,_,_=>by simp[SmL]at h
 |a::x::s,[b],h,_,_=>by simp[SmL]at h
 |a::x::s,b::y::t,h,hl,_=>Dm h hl
def tk3(t:Tok):Nat×ByteArray×Nat:=(t.1,t.2.1,t.2.2.1)
theorem z8E{t u:Tok}(h:tk3 u=tk3 t):sgT u=sgT t:=by
 unfold tk3 at h;simp only[Prod.mk.injEq]at h;unfold sgT;rw[h.1,h.2.1]
section
variable {L1 L2:List Tok} {e:Nat}
theorem z2d(L:List Tok)(k:Nat)(h:k+1<L.length):hdB L k=((gL L k).1 == 1&&(gL L (k+1)).1 == 2):=by
 unfold hdB;rw[Vc (show k<L.length by omega),Vc h,List.getElem?_eq_getElem (show k<L.length by omega),List.getElem?_eq_getElem h]
end
end
section
section
variable {L1 L2:List Tok} {e:Nat}
end
end
theorem z2e{L:List Tok}{ru k k':Nat}{x:Rl}(h:ruS L ru k=.inr (x,k')):chS L (Xk L 24) (k+2)=.inr (x.2.1,k')/\x.1=(gL L k).2.1:=by
 unfold ruS at h;split at h
 ·cases h
 ·split at h
  ·cases h
  ·split at h
   ·cases h
   ·cases hs:chS L (Xk L 24) (k+2)with
    |inl e=>rw[hs]at h;cases h
    |inr q=>
     obtain⟨n,j⟩:=q;rw[hs]at h;simp only[ruE,Sum.inr.injEq,Prod.mk.injEq]at h;obtain⟨rfl,rfl⟩:=h;exact⟨rfl,rfl⟩
section
section
variable {L1 L3:List Tok} {d e:Nat}
def RlS(x y:Rl):Prop:=y.1=x.1/\Sm x.2.1 y.2.1
def RlL:List Rl->List Rl->Prop
 |[],[]=>True
 |a::r,b::q=>RlS a b/\RlL r q
 |_,_=>False
theorem RlL.len:∀{s t:List Rl},RlL s t->t.length=s.length
 |[],[],_=>rfl
 |[],_::_,h=>by simp[RlL]at h
 |_::_,[],h=>by simp[RlL]at h
 |a::r,b::q,h=>by
  rw[RlL]at h;simp[RlL.len h.2]
theorem RlL.app:∀{s t u v:List Rl},RlL s t->RlL u v->RlL (s++u) (t++v)
 |[],[],u,v,_,h=>h
 |[],_::_,_,_,h,_=>by simp[RlL]at h
 |_::_,[],_,_,h,_=>by simp[RlL]at h
 |a::r,b::q,u,v,h,h2=>by
  rw[RlL]at h;rw[List.cons_append,List.cons_append,RlL];exact⟨h.1,RlL.app h.2 h2⟩
end
end
section
def sgc(x:UInt8):Nat×ByteArray×Nat:=(5,{data:=#[x]},0)
def wr(over kd:Nat):Bool:=
 if over=8∨over=9∨over=10 then decide (6<=kd)
 else if over=11∨over=12 then decide (kd=6∨kd=7∨kd=11∨kd=12)
 else if over=6 then decide (kd=6∨kd=7)
 else if over=7 then decide (kd=7)else false
def rpS(kd:Nat):UInt8:=if kd=8 then 63 else if kd=9 then 42 else 43
mutual
def kN:Nd->List (Nat×ByteArray×Nat)
 | .mk kd T C s p=>if kd=1 then [sgc 40,sgc 41]else if kd=2 then [(3,T,C)]else if kd=3 then [(4,T,C)]else if kd=4 then [sgc 46]else if kd=5 then [(1,T,C)]else if kd=6 then kS 6 s else if kd=7 then kA s
   else if kd=11 then sgc 38::kS 11 s else if kd=12 then sgc 33::kS 12 s else kS kd s++[sgc (rpS kd)]
def kS(over:Nat):List Nd->List (Nat×ByteArray×Nat)
 |[]=>[]
 |n::r=>(if wr over n.kd=true then sgc 40::(kN n++[sgc 41])else kN n)++kS over r
def kA:List Nd->List (Nat×ByteArray×Nat)
 |[]=>[]
 |n::r=>(if wr 7 n.kd=true then sgc 40::(kN n++[sgc 41])else kN n)++kB r
def kB:List Nd->List (Nat×ByteArray×Nat)
 |[]=>[]
 |n::r=>sgc 47::((if wr 7 n.kd=true then sgc 40::(kN n++[sgc 41])else kN n)++kB r)
end
def kP(over:Nat)(n:Nd):List (Nat×ByteArray×Nat):=if wr over n.kd=true then sgc 40::(kN n++[sgc 41])else kN n
mutual
def dN:Nd->Nat
 | .mk kd T C s p=>if kd=1 then 1 else dS kd s
def dS(over:Nat):List Nd->Nat
 |[]=>0
 |n::r=>max (if wr over n.kd=true then dN n+1 else dN n) (dS over r)
end
def dP(over:Nat)(n:Nd):Nat:=if wr over n.kd=true then dN n+1 else dN n
mutual
def Vk:Nd->Prop
 | .mk kd T C s p=>((kd=1/\T={data:=#[]}/\C=0/\s=[])∨(kd=2/\C=0/\s=[])∨(kd=3/\T={data:=#[]}/\s=[])∨(kd=4/\T={data:=#[]}/\C=0/\s=[])∨(kd=5/\C=0/\s=[])∨
    ((kd=6∨kd=7)/\T={data:=#[]}/\C=0/\2<=s.length)∨(8<=kd/\kd<=12/\T={data:=#[]}/\C=0/\s.length=1))/\VkL s
def VkL:List Nd->Prop
 |[]=>True
 |n::r=>Vk n/\VkL r
end
theorem VkL.mem:∀{s:List Nd},VkL s->∀n∈s,Vk n
 |[],_,n,h=>by simp at h
 |a::r,h,n,hn=>by
  rw[VkL]at h;rcases List.mem_cons.1 hn with rfl|hn
  ·exact h.1
  ·exact VkL.mem h.2 n hn
theorem Sh(over:Nat)(n:Nd)(r:List Nd):kS over (n::r)=kP over n++kS over r:=by rw[kS];rfl
theorem Sd(over:Nat):kS over []=[]:=by rw[kS]
theorem Jh(over:Nat)(n:Nd)(r:List Nd):dS over (n::r)=max (dP over n) (dS over r):=by rw[dS];rfl
section
variable {L:List Tok} {k:Nat}
end
theorem z2f{over:Nat}(h:over=8∨over=9∨over=10)(kd:Nat):wr over kd=wr 8 kd:=by
 unfold wr;rw[if_pos h,if_pos (.inl rfl)]
theorem z2g{over:Nat}(h:over=11∨over=12)(kd:Nat):wr over kd=wr 11 kd:=by
 unfold wr;rw[if_neg (by omega),if_pos h,if_neg (by decide),if_pos (.inl rfl)]
theorem z8F{over:Nat}(h:over=8∨over=9∨over=10)(n:Nd):kP over n=kP 8 n:=by unfold kP;rw[z2f h]
theorem z8G{over:Nat}(h:over=11∨over=12)(n:Nd):kP over n=kP 11 n:=by unfold kP;rw[z2g h]
theorem z8H{over:Nat}(h:over=8∨over=9∨over=10)(n:Nd):dP over n=dP 8 n:=by unfold dP;rw[z2f h]
theorem z8I{over:Nat}(h:over=11∨over=12)(n:Nd):dP over n=dP 11 n:=by unfold dP;rw[z2g h]
theorem wr8(kd:Nat):wr 8 kd=decide (6<=kd):=by unfold wr;rw[if_pos (.inl rfl)]
theorem Sp(kd:Nat):wr 11 kd=decide (kd=6∨kd=7∨kd=11∨kd=12):=by unfold wr;rw[if_neg (by decide),if_pos (.inl rfl)]
theorem wr6(kd:Nat):wr 6 kd=decide (kd=6∨kd=7):=by unfold wr;rw[if_neg (by decide),if_neg (by decide),if_pos rfl]
theorem wr7(kd:Nat):wr 7 kd=decide (kd=7):=by unfold wr;rw[if_neg (by decide),if_neg (by decide),if_neg (by decide),if_pos rfl]
theorem Vk.kd{n:Nd}(h:Vk n):1<=n.kd/\n.kd<=12:=by
 obtain⟨kd,T,C,s,p⟩:=n;rw[Vk]at h;show 1<=kd/\kd<=12;omega
theorem z8J{n:Nd}(h:n.kd≠7):kP 7 n=kN n/\dP 7 n=dN n:=by
 unfold kP dP;rw[wr7,decide_eq_false h];exact⟨rfl,rfl⟩
theorem z8K{kd:Nat}{T:ByteArray}{C p:Nat}{m:Nd}(h:kd=8∨kd=9∨kd=10):kN (.mk kd T C [m] p)=kP 8 m++[sgc (rpS kd)]/\dN (.mk kd T C [m] p)=dP 8 m:=by
 constructor
 ·rw[kN,if_neg (by omega),if_neg (by omega),if_neg (by omega),if_neg (by omega),if_neg (by omega),if_neg (by omega),if_neg (by omega),if_neg (by omega),if_neg (by omega),Sh,Sd,List.append_nil,z8F h]
 ·rw[dN,if_neg (by omega),Jh,dS,z8H h]
  exact Nat.max_eq_left (Nat.zero_le _)
theorem z8L{kd:Nat}{T:ByteArray}{C p:Nat}{m:Nd}(h:kd=11∨kd=12):kN (.mk kd T C [m] p)=sgc (if kd=11 then 38 else 33)::kP 11 m/\dN (.mk kd T C [m] p)=dP 11 m:=by
 constructor
 ·rw[kN,if_neg (by omega),if_neg (by omega),if_neg (by omega),if_neg (by omega),if_neg (by omega),if_neg (by omega),if_neg (by omega)]
  rcases h with rfl|rfl
  ·rw[if_pos rfl,Sh,Sd,List.append_nil];rfl
  ·rw[if_neg (by decide),if_pos rfl,Sh,Sd,List.append_nil,z8G (.inr rfl)];rfl
 ·rw[dN,if_neg (by omega),Jh,dS,z8I h]
  exact Nat.max_eq_left (Nat.zero_le _)
end
theorem z8M(over kd:Nat)(w:World)(h1:6<=over)(h2:over<=12)(h3:1<=kd)(h4:kd<=12):
  Calls prog 279 #[.int .i64 over,.int .i64 kd] w fun e w'=>e=.returned (.bool (wr over kd))/\w'=w:=by
 have ho:over=6∨over=7∨over=8∨over=9∨over=10∨over=11∨over=12:=by omega
 have hk:kd=1∨kd=2∨kd=3∨kd=4∨kd=5∨kd=6∨kd=7∨kd=8∨kd=9∨kd=10∨kd=11∨kd=12:=by omega
 clear h1 h2 h3 h4;rcases ho with rfl|rfl|rfl|rfl|rfl|rfl|rfl<;>rcases hk with rfl|rfl|rfl|rfl|rfl|rfl|rfl|rfl|rfl|rfl|rfl|rfl<;>
  (go_enter func279,ntmps279
   go_wp2_with fail
   go_ret;exact⟨rfl,rfl⟩)
end Go.Proofs.YtgmcjddjdidpjaaGreatDoor
