/- Lemmas for the last text. Conditions: those that each names. -/
import Derived.Test.YtgnkkgcgbeianaaGreatDoorVY11ToY13
import Derived.Defers
import Derived.Recover
import Derived.ChangeKeysEq
import Derived.Laws.StructEq
set_option linter.unusedVariables false
set_option maxRecDepth 100000
set_option maxHeartbeats 16000000
namespace Go.Proofs.YtgnkkgcgbeianaaGreatDoor
open Go.Proofs.Tryz
open Go.RowKit
def Zd(w:World)(P:Nat->Prop):List Rl->List Value->Prop
 |[],_=>True
 |x::r,vs=>∃c rest,vs=c++rest/\Yd w P x c/\Zd w P r rest
theorem Yd.len{w:World}{P:Nat->Prop}{x:Rl}{c:List Value}(h:Yd w P x c):c.length=10:=by
 obtain⟨r,rfl,o⟩:=h;have:=o.len;simp;omega
theorem Yd.kept{w w':World}{P Q:Nat->Prop}(o:∀g cur,P g->w.heap[g]? =some (.cells cur 81)->w'.heap[g]? =w.heap[g]? /\Q g){x:Rl}{c:List Value}(h:Yd w P x c):Yd w' Q x c:=by
 obtain⟨r,t,y⟩:=h;exact⟨r,t,Qh.kept o _ _ y⟩
theorem Zd.kept{w w':World}{P Q:Nat->Prop}(o:∀g cur,P g->w.heap[g]? =some (.cells cur 81)->w'.heap[g]? =w.heap[g]? /\Q g):∀(l:List Rl) (vs:List Value),Zd w P l vs->Zd w' Q l vs
 |[],vs,h=>by rw[Zd];trivial
 |n::r,vs,h=>by
  rw[Zd]at h ⊢;obtain⟨c,rest,t,y,A⟩:=h;exact⟨c,rest,t,Yd.kept o y,Zd.kept o r rest A⟩
theorem Zd.append{w:World}{P:Nat->Prop}:∀(l:List Rl) (vs:List Value) (n:Rl) (c:List Value),Zd w P l vs->vs.length=l.length*10->Yd w P n c->Zd w P (l++[n]) (vs++c)
 |[],vs,n,c,_,hl,hn=>by
  have:vs=[]:=List.eq_nil_of_length_eq_zero (by simpa using hl);subst this;rw[List.nil_append,Zd];exact⟨c,[],by simp,hn,by rw[Zd];trivial⟩
 |m::r,vs,n,c,h,hl,hn=>by
  rw[Zd]at h;obtain⟨d,rest,rfl,o,t⟩:=h;have hd:=o.len;rw[List.cons_append,Zd];refine⟨d,rest++c,by rw[List.append_assoc],o,Zd.append r rest n c t ?_ hn⟩;simp at hl;omega
theorem Yd.shape{w:World}{P:Nat->Prop}{x:Rl}{c:List Value}(h:Yd w P x c):∃N kd T C o r t p q,c=[.string N,.int .i64 ((kd:Nat):Int),.string T,.int .u64 (wd C 0),.int .u64 (wd C 1),.int .u64 (wd C 2),.int .u64 (wd C 3),.slice o r t,.int .i64 ((p:Nat):Int),.int .i64 ((q:Nat):Int)]:=by
 obtain⟨A,rfl,y⟩:=h;obtain⟨kd,T,C,o,r,t,rfl⟩:=y.shape;exact⟨_,kd,T,C,o,r,t,_,_,rfl⟩
def RoR(B:Nat)(pv:Value)(acc:List Rl)(W:World):Prop:=
 ∃xs,W.ownsRow B 83 10 pv acc.length xs/\Zd W (fun g=>B<=g) acc xs
theorem RoR.grown{B R:Nat}{pv:Value}{acc:List Rl}{W W':World}(h:RoR B pv acc W)(o:W.grownBy W' (some R))(D:R<B):RoR B pv acc W':=by
 obtain⟨xs,r,y⟩:=h;refine⟨xs,r.kept o (.inr (fun e=>by have:=(r.lt _ e).1;omega)),Zd.kept (fun g cur t A=>⟨o.block g (Qq A) (fun e=> ?_),t⟩) _ _ y⟩;have E:g=R:=Option.some.inj e;have G:B<=g:=t;omega
theorem RoR.below{B:Nat}{pv:Value}{acc:List Rl}{W W':World}(h:RoR B pv acc W)(o:Below W.heap.size W W'):RoR B pv acc W':=by
 obtain⟨xs,r,t⟩:=h;exact⟨xs,Yf r o,Zd.kept (fun g cur y A=>⟨o.block g (Qq A),y⟩) _ _ t⟩
theorem z9S{w:World}{base e size n g:Nat}{v:Value}{xs:List Value}(h:w.ownsRow base e size v n xs)(o:v.ownBlock=some g):∃cur,w.heap[g]? =some (.cells cur e):=by
 obtain⟨_,⟨r,A⟩|⟨t,D,cur,rfl,_,y,_⟩⟩:=h
 ·rw[r]at o;cases o
 ·have:t=g:=Option.some.inj o
  subst this;exact⟨cur,y⟩
theorem RoR.app{B D:Nat}{pv t:Value}{acc:List Rl}{xs c:List Value}{n:Rl}{h y W4:World}(A:h.ownsRow B 83 10 pv acc.length xs)(ha:Zd h (fun g=>B<=g) acc xs)(I:Yd h (fun g=>D<=g) n c)(Z:B<=D)(E:Below h.heap.size h y)
  (U:W4.ownsRow B 83 10 t (acc.length+1) (xs++c))(V:y.grownBy W4 pv.ownBlock):RoR B t (acc++[n]) W4:=by
 have G:∀(g:Nat) (cur:Array Value),h.heap[g]? =some (Obj.cells cur 81)->W4.heap[g]? =h.heap[g]? :=fun g cur o=>by
  have hs:=E.size;have hl:=Qq o;refine(V.block g (by omega) (fun e=> ?_)).trans (E.block g hl);obtain⟨aa,Y⟩:=z9S A e.symm;rw[Y]at o;simp at o
 refine⟨xs++c,by simpa using U,Zd.append _ _ _ _ (Zd.kept (fun g cur r o=>⟨G g cur o,r⟩) _ _ ha) A.1 (Yd.kept (fun g cur r o=>⟨G g cur o,show B<=g by have ab:D<=g:=r;omega⟩) I)⟩
theorem RoR.one{B:Nat}{x:Rl}{o a1 a2 a3 a4 r t y A D:Value}{W:World}(h:Yd W (fun g=>B<=g) x [o,a1,a2,a3,a4,r,t,y,A,D])(E:B<=W.heap.size):RoR B (.slice (some ⟨W.heap.size,0,none⟩) 1 1) [x] (W.alloc (.cells #[o,a1,a2,a3,a4,r,t,y,A,D] 83)):=by
 refine⟨[o,a1,a2,a3,a4,r,t,y,A,D],⟨rfl,.inr ⟨W.heap.size,1,_,rfl,E,Qx _ _ rfl,Nat.le_refl _,by unfold maxLen;omega,rfl,rfl⟩⟩,?_⟩;rw[Zd];exact⟨[o,a1,a2,a3,a4,r,t,y,A,D],[],by simp,Yd.kept (fun g cur G I=>⟨Below.heap_alloc W _ g (Qq I),G⟩) h,by rw[Zd];trivial⟩
theorem Ek.rowed{O:Obj}{w W W':World}{R b:Nat}{v:Value}{L:List Tok}{k ru ne:Nat}{row:Option Nat}(h:Ek O w R b v L k ru ne W)(o:W.grownBy W' row)(r:∀g,row=some g->w.heap.size<g):Ek O w R b v L k ru ne W':=by
 have y:=h.lt;have A:=h.size;have t:some R≠row:=fun e=>by have:=r R e.symm;omega
 have D:some w.heap.size≠row:=fun e=>by have:=r _ e.symm;omega
 have E:v.ownBlock=none∨v.ownBlock≠row:=by
  cases hv:v.ownBlock with
  |none=>exact .inl rfl
  |some g=>exact .inr (fun e=>h.2.2.2.2 g (by have:=r g e.symm;omega) hv)
 exact⟨⟨(o.block R (by omega) t).trans h.1.1,h.1.2.kept o E⟩,⟨o.os.trans h.2.1.os,o.tape.trans h.2.1.tape,o.output.trans h.2.1.output,Nat.le_trans h.2.1.size o.size,fun j G t=>(o.block j (by omega) (fun e=>by have:=r j e.symm;omega)).trans (h.2.1.block j G t)⟩,(o.block _ A D).trans h.2.2.1,y,h.2.2.2.2⟩
theorem Tryz.infoRl:(Tryz.prog.info? 83).map (fun i=>(i.zero,i.size,i.bytes))=some (some (.agg #[.string ⟨#[]⟩,.int .i64 0,.string ⟨#[]⟩,.int .u64 0,.int .u64 0,.int .u64 0,.int .u64 0,.slice none 0 0,.int .i64 0,.int .i64 0]),10,112):=by kernel_rfl
theorem Rw(w:World)(a b c d e f g h i k:Value)(t:TypeId):∀j x,[a,b,c,d,e,f,g,h,i,k][j]? =some x->(w.alloc (.cells #[a,b,c,d,e,f,g,h,i,k] t)).cell? ((⟨w.heap.size,0,none⟩:Addr).add j)=some x:=by
 intro j x o
 match j,o with
 |0,o=>simp at o;subst o;simp[Addr.add]
 |1,o=>simp at o;subst o;simp[Addr.add]
 |2,o=>simp at o;subst o;simp[Addr.add]
 |3,o=>simp at o;subst o;simp[Addr.add]
 |4,o=>simp at o;subst o;simp[Addr.add]
 |5,o=>simp at o;subst o;simp[Addr.add]
 |6,o=>simp at o;subst o;simp[Addr.add]
 |7,o=>simp at o;subst o;simp[Addr.add]
 |8,o=>simp at o;subst o;simp[Addr.add]
 |9,o=>simp at o;subst o;simp[Addr.add]
theorem z2d(N:ByteArray)(a:Int)(T:ByteArray)(c0 c1 c2 c3:Int)(o:Option Addr)(r t:Nat)(p q:Int):∀u∈[Value.string N,Value.int .i64 a,.string T,.int .u64 c0,.int .u64 c1,.int .u64 c2,.int .u64 c3,.slice o r t,.int .i64 p,.int .i64 q],u.oneCell'=true:=by
 intro u h;simp at h;rcases h with rfl|rfl|rfl|rfl|rfl|rfl|rfl|rfl|rfl|rfl<;>rfl
def Xx(L:List Tok):Nat->Nat->List Rl->(Nat×Nat) ⊕ List Rl
 |0,_,_=>.inl (0,0)
 |f+1,k,acc=>if(gL L k).1=6 then .inr acc else(match ruS L acc.length k with
   | .inl e=>.inl e
   | .inr (x,k')=>Xx L f k' (acc++[x]))
def z2e(L:List Tok)(r:(Nat×Nat) ⊕ (Rl×Nat)):(Nat×Nat) ⊕ List Rl:=match r with
 | .inl e=>.inl e
 | .inr (x,k')=>Xx L L.length k' [x]
def Vg(L:List Tok):(Nat×Nat) ⊕ List Rl:=z2e L (ruS L 0 0)
def Fg(r:(Nat×Nat) ⊕ List Rl)(B R:Nat)(w:World)(e:Ending)(w':World):Prop:=
 match r with
 | .inr rs=>∃g cap,e=.returned (.agg #[.slice (some ⟨g,0,none⟩) rs.length cap])/\Hid (RoR B (.slice (some ⟨g,0,none⟩) rs.length cap) rs w')/\Hid (w.grownBy w' (some R))
 | .inl c=>∃f,e=.panicked [{v:=.iface 134 (.pointer (some ⟨f,0,none⟩)),recovered:=false}]/\Hid (w.heap.size<=f/\Flt w' f c)/\Hid (w.grownBy w' (some R))
@[reducible] def Zg:Obj:=.cells #[.slice none 0 0] 43
theorem Ek.upG{O:Obj}{w W:World}{R b:Nat}{v:Value}{L:List Tok}{k ru ne:Nat}(h:Ek O w R b v L k ru ne W){c:Nat×Nat}{B B' ru':Nat}{e:Ending}{w':World}(r:Kc (.inl c) B' R b v L ru' W e w'):Fg (.inl c) B R w e w':=by
 obtain⟨f,t,o,y⟩:=r;exact⟨f,t,hid ⟨by have:=o.out.1;have:=h.size;omega,o.out.2⟩,hid (G.trans h.2.1 y.out)⟩
theorem Ek.finG{w W:World}{B R b:Nat}{v:Value}{L:List Tok}{k ru ne g n o:Nat}{rs:List Rl}(h:Ek Zg w R b v L k ru ne W)(D:n=rs.length)(E:RoR (w.heap.size+1) (.slice (some ⟨g,0,none⟩) n o) rs W)(hB:B<=w.heap.size):
  Fg (.inr rs) B R w (.returned (.agg #[.slice (some ⟨g,0,none⟩) n o])) (W.setCell ⟨w.heap.size,0,none⟩ (.slice (some ⟨g,0,none⟩) n o)):=by
 subst D;obtain⟨xs,t,I⟩:=E;have y:W.grownBy (W.setCell ⟨w.heap.size,0,none⟩ (.slice (some ⟨g,0,none⟩) rs.length o)) (some w.heap.size):=G.setR (G.refl W w.heap.size);refine⟨g,o,rfl,hid ⟨xs,?_,Zd.kept (fun g cur A r=>⟨y.block g (Qq r) (fun e=> ?_),show B<=g by have U:w.heap.size+1<=g:=A;omega⟩) _ _ I⟩,hid (G.setN h.2.1 L0q)⟩
 ·have V:=t.kept y (.inr (fun e=>by have:=(t.lt _ e).1;omega))
  obtain⟨a,⟨r,_⟩|⟨Y,Z,cur,r,hb,rest⟩⟩:=V
  ·cases r
  ·exact⟨a,.inr ⟨Y,Z,cur,r,by omega,rest⟩⟩
 ·have e2:g=w.heap.size:=Option.some.inj e
  have U:w.heap.size+1<=g:=A;omega
theorem z2f{L:List Tok}{ru k:Nat}{x:Rl×Nat}(h:ruS L ru k=.inr x):ru≠64:=by
 intro e;unfold ruS at h;rw[if_pos e]at h;split at h<;>cases h
theorem z9T(R b B:Nat)(v:Value)(L:List Tok)(w:World)(V:Ql L)(h:Rd w R b v L 0 0 0)(am:0<L.length)(hB:B<=w.heap.size):
  Calls prog 60 #[.pointer (some ⟨R,0,none⟩)] w fun e w'=>Fg (Vg L) B R w e w':=by
 obtain⟨iT,aB,aC,aD,aE⟩:=info_parts Tryz.infoRl;have aR:=Tryz.fld0;have ac:Hid (Ek Zg w R b v L 0 0 0 (w.alloc Zg)):=Ek.start Zg h;have HG:Hid (Ql L):=V;have aS:=V.len;have Y:=hid (z2c R b v L 0 0 (w.heap.size+1) (w.alloc Zg) V (h.alloc _) am (by omega) (by simp));unfold Vg;cases hs:ruS L 0 0 with
 |inl c=>
  rw[hs]at Y;clear V h hs;show Calls _ _ _ _ (fun e w'=>Fg (.inl c) B R w e w');go_enter func60,ntmps60
  go_wp2_with fail
  refine Y.out.mono ?_;rintro e w1 hA;have af:Hid (Fg (.inl c) B R w e w1):=ac.out.upG hA;obtain⟨f,rfl,_,_⟩:=hA;clear Y ac
  go_wp2_with fail
  exact⟨rfl,af.out⟩
 |inr x=>
  obtain⟨x,k1⟩:=x;have aF:=z2b V am hs;rw[hs]at Y;obtain⟨G,hR⟩:∃G,G=Xx L L.length k1 [x]:=⟨_,rfl⟩;have ao:Hid (Xx L L.length k1 [x]=G):=hR.symm;show Calls _ _ _ _ (fun e w'=>Fg (Xx L L.length k1 [x]) B R w e w');rw[<-hR];clear hR h V hs;go_enter func60,ntmps60
  go_wp2_with fail
  refine Y.out.mono ?_;rintro e w1 ⟨cs,rfl,I,HR,Z⟩;have ag:=hid (ac.out.grown HR.out Z.out);clear Y HR Z ac;obtain⟨N,kd,T,C,so,sl,sc,p,q,ah⟩:=I.out.shape;subst ah;have ap:=hid (RoR.one I.out ag.out.size);have aq:=hid (ag.out.alloc (.cells #[.string N,.int .i64 kd,.string T,.int .u64 (wd C 0),.int .u64 (wd C 1),.int .u64 (wd C 2),.int .u64 (wd C 3),.slice so sl sc,.int .i64 p,.int .i64 q] 83));clear I ag
  go_wp2_with fail
  go_loopw [3] (fun a wr=>∃(f j:Nat) (m:Rl) (r:List Rl),j<L.length/\L.length<=f+j/\r.length+1<=j/\r.length+1<=64/\Hid (Xx L f j (m::r)=G)/\Hid (RoR (w.heap.size+1) a (m::r) wr)/\Hid (Ek Zg w R b v L j (r.length+1) 0 wr)) (fun _ wr=>L.length-Jg R wr)
  case atStart=>exact⟨L.length,k1,x,[],aF.2,by omega,by simp;omega,by simp,ao,ap,aq⟩
  case round=>
   obtain⟨f,j,m,r,hj,aT,aG,ar,aa,U,A⟩:=hrel;clear ao aq ap;have E:=Gy R b v L j (r.length+1) 0 hj HG.out;cases f with
   |zero=>omega
   |succ f=>
   by_cases hz:(gL L j).1=6
   ·have HF:Hid (G=.inr (m::r)):=by show _=_;rw[<-aa.out,Xx,if_pos hz]
    obtain⟨t,ht⟩:∃t,t=gL L j:=⟨_,rfl⟩;rw[<-ht]at E hz;clear ht aa;obtain⟨tk,tN,tC,tq⟩:=t;have ai:tk=6:=hz;subst ai;clear hz;obtain⟨aU,aj,_⟩:=U.out;rw[List.length_cons]at aj;obtain⟨g,aH,aI⟩:=Gx aj (by omega);clear aj;subst aI;obtain⟨M,hM⟩:∃M,M=r.length+1:=⟨_,rfl⟩;have aJ:Hid (M=r.length+1):=hM;rw[<-hM]at aG ar E A U ⊢;clear hM
    go_wp2_with fail
    refine(E.out _ A.out.1).mono ?_;rintro e w2 ⟨rfl,D⟩;have o:=hid (A.out.below D);have ad:=hid (U.out.below D);clear D A E U;dsimp only[tkv];have aK:w2.cell? ⟨w.heap.size,0,none⟩=some (.slice none 0 0):=by have:=o.out.2.2.1;simp[World.cell?,this]
    have aV:w2.frozen? ⟨w.heap.size,0,none⟩=false:=by have:=o.out.2.2.1;simp[World.frozen?,this]
    have aW:=o.out.size
    go_wp2_with fail
    (try simp only[Exit.inBlock,Exit.then])
    refine bodyPost_ret (v:=.agg #[.slice (some ⟨g,0,none⟩) M aH]) (by simp[results,Tryz.results60,go_sem,aK]) rfl ?_;rw[HF.out];exact o.out.finG aJ.out ad.out hB
   ·have HC:=hid (fun(W:World) (h:Rd W R b v L j (r.length+1) 0)=>z2c R b v L (r.length+1) j W.heap.size W HG.out h hj ar L0q)
    obtain⟨t,ht⟩:∃t,t=gL L j:=⟨_,rfl⟩;have ae:=hz;rw[<-ht]at E hz;clear ht;obtain⟨tk,tN,tC,tq⟩:=t;have ai:tk≠6:=hz;have t6:((tk:Int) != 6)=true:=by rw[bne_iff_ne];omega
    clear hz ai;cases hs:ruS L (r.length+1) j with
    |inl c=>
     have HF:Hid (G=.inl c):=by show _=_;rw[<-aa.out,Xx,if_neg ae,List.length_cons,hs]
     rw[hs]at HC;clear hs aa ae
     go_wp2_with fail
     refine(E.out _ A.out.1).mono ?_;rintro e w2 ⟨rfl,D⟩;have o:=hid (A.out.below D);clear D A E U;dsimp only[tkv]
     go_wp2_with fail
     refine(HC.out _ o.out.1).mono ?_;rintro e w4 hA;have af:Hid (Fg G B R w e w4):=by show Fg _ _ _ _ _ _;rw[HF.out];exact o.out.upG hA
     obtain⟨f',rfl,_,_⟩:=hA;clear o HC HF
     go_wp2_with fail
     exact⟨rfl,af.out⟩
    |inr y=>
     obtain⟨y,k'⟩:=y;have aL:=z2b HG.out hj hs;have aX:=z2f hs;have aM:Hid (Xx L f k' ((m::r)++[y])=G):=by show _=_;rw[<-aa.out,Xx,if_neg ae,List.length_cons,hs]
     rw[hs]at HC;clear hs aa ae;have HJ:Hid (Jg R wr=j):=Kp A.out.1
     go_wp2_with fail
     refine(E.out _ A.out.1).mono ?_;rintro e w2 ⟨rfl,D⟩;have o:=hid (A.out.below D);have ad:=hid (U.out.below D);clear D A E U;dsimp only[tkv]
     go_wp2_with fail
     refine(HC.out _ o.out.1).mono ?_;rintro e w5 ⟨cs,rfl,I,HR,Z⟩;have ak:=hid (o.out.grown HR.out Z.out);have au:=hid (ad.out.grown Z.out (by have:=o.out.lt;omega));have av:Hid (w.heap.size+1<=w2.heap.size):=o.out.size;clear o ad HR Z HC;obtain⟨N,kd,T,C,so,sl,sc,p,q,ah⟩:=I.out.shape;subst ah;obtain⟨xs,aw,ax⟩:=au.out;have ab:=hid aw;have ay:=hid ax;clear aw ax au;rw[List.length_cons]at ab
     go_wp2_with(first|(at_builtin;refine wpList_append_own_at _ rfl (.tmp 11) (.tmp 14) 41 rfl (w.heap.size+1) 83 iT (.agg #[.string ⟨#[]⟩,.int .i64 0,.string ⟨#[]⟩,.int .u64 0,.int .u64 0,.int .u64 0,.int .u64 0,.slice none 0 0,.int .i64 0,.int .i64 0]) 10 112 Tryz.underlying41 aB aC aD aE rfl (by decide) _ _ _ rfl (ab.out.alloc _) ⟨w5.heap.size,0,none⟩ 1 1 [.string N,.int .i64 kd,.string T,.int .u64 (wd C 0),.int .u64 (wd C 1),.int .u64 (wd C 2),.int .u64 (wd C 3),.slice so sl sc,.int .i64 p,.int .i64 q] rfl rfl (Rw w5 _ _ _ _ _ _ _ _ _ _ 83) (z2d _ _ _ _ _ _ _ _ _ _ _ _) (by unfold maxLen;omega) (by omega) (by have:=ak.out.size;simp;omega) ?_;intro v6 w6 az al aN aO))
     have aP:Hid (RoR (w.heap.size+1) v6 ((m::r)++[y]) w6):=RoR.app ab.out ay.out I.out av.out ((Below.refl _ w5).alloc L0q _) az al;have aA:Hid (Ek Zg w R b v L k' (r.length+1+1) 0 w6):=(ak.out.alloc _).rowed al (fun g e=>by have:=(ab.out.lt g e).1;omega);have aQ:Hid (Jg R w6=k'):=Kp aA.out.1;clear az al aN aO ab ay I ak av
     go_wp2_with fail
     go_roundw
     case rel=>exact⟨f,k',m,r++[y],aL.2,by omega,by simp;omega,by simp;omega,aM,aP,by simpa using aA⟩
     case measure=>rw[HJ.out,aQ.out];omega
theorem Tryz.asFlt(v:Value)(h:TypeId)(w:World):(Instr.typeAssert (.iface 134 v) h 134 true).run prog w=.ok (.tuple #[v,.bool true]) w:=by kernel_rfl
theorem z9U(p q:Nat)(w:World):
  CallsD prog 59 #[.pointer (some ⟨p,0,none⟩),.pointer (some ⟨q,0,none⟩)] .returning w fun e h w'=>e=.returned (.tuple #[])/\h=.returning/\w'=w:=by
 refine callsD_of_wpS func59 rfl fun o t r=> ?_
 apply wpS_seq;apply wpS_region;simp[wpOpsS,go_sem,recoverD,r,ntmps59,Exit.thenS];refine wpS_of_wp ?_
 go_wp2
 cases o;simp_all[bodyPostS,results,Tryz.results59]
theorem z9V(p q f:Nat)(h:List PanicEntry)(w:World)(t:p≠q)(y:w.cell? ⟨p,0,none⟩=some (.slice none 0 0))(A:w.cell? ⟨q,0,none⟩=some .nilIface)(D:w.frozen? ⟨p,0,none⟩=false)(E:w.frozen? ⟨q,0,none⟩=false):
  CallsD prog 59 #[.pointer (some ⟨p,0,none⟩),.pointer (some ⟨q,0,none⟩)] (.panicking ({v:=.iface 134 (.pointer (some ⟨f,0,none⟩)),recovered:=false}::h)) w fun e r w'=>
   e=.returned (.tuple #[])/\r=.panicking ({v:=.iface 134 (.pointer (some ⟨f,0,none⟩)),recovered:=true}::h)/\w'=(w.setCell ⟨p,0,none⟩ (.slice none 0 0)).setCell ⟨q,0,none⟩ (.iface 134 (.pointer (some ⟨f,0,none⟩))):=by
 refine callsD_of_wpS func59 rfl fun G I o=> ?_
 apply wpS_seq;apply wpS_region;simp[wpOpsS,go_sem,recoverD,o,ntmps59,Exit.thenS];have U:=Tryz.asFlt;refine wpS_of_wp ?_;rw[show(#[Value.pointer (some ⟨p,0,none⟩),Value.pointer (some ⟨q,0,none⟩)]++(Array.replicate 12 undef).setIfInBounds 3 (Value.iface 134 (Value.pointer (some ⟨f,0,none⟩))))=#[Value.pointer (some ⟨p,0,none⟩),Value.pointer (some ⟨q,0,none⟩),undef,undef,undef,Value.iface 134 (Value.pointer (some ⟨f,0,none⟩)),undef,undef,undef,undef,undef,undef,undef,undef]from rfl];clear o
 go_wp2_with fail
 simp[bodyPostS,results,Tryz.results59]
def Nz(r:(Nat×Nat) ⊕ List Rl)(w:World)(e:Ending)(w':World):Prop:=
 match r with
 | .inr rs=>∃g cap,e=.returned (.tuple #[.agg #[.slice (some ⟨g,0,none⟩) rs.length cap],.nilIface])/\Hid (RoR w.heap.size (.slice (some ⟨g,0,none⟩) rs.length cap) rs w')/\Hid (Below w.heap.size w w')
 | .inl c=>∃f,e=.returned (.tuple #[.agg #[.slice none 0 0],flv f])/\Hid (w.heap.size<=f/\Flt w' f c/\Below w.heap.size w w')
theorem RoR.low{B B':Nat}{pv:Value}{acc:List Rl}{W:World}(h:RoR B pv acc W)(E:B'<=B):RoR B' pv acc W:=by
 obtain⟨xs,⟨a,o⟩,t⟩:=h;refine⟨xs,⟨a,?_⟩,Zd.kept (fun g cur y r=>⟨rfl,show B'<=g by have G:B<=g:=y;omega⟩) _ _ t⟩;rcases o with o|⟨A,D,cur,r,I,rest⟩
 ·exact .inl o
 ·exact .inr ⟨A,D,cur,r,by omega,rest⟩
theorem Below.setNew{w W:World}{g j:Nat}{u:Value}(h:Below w.heap.size w W)(o:w.heap.size<=g):Below w.heap.size w (W.setCell ⟨g,j,none⟩ u):=
 h.grown (G.setR (G.refl W g)) h.size (fun k e=>by have:=Option.some.inj e;omega)
@[reducible] def w3R (w:World) (v:Value):World:=((w.alloc Zg).alloc (.cells #[.nilIface] 30)).alloc (.cells #[v,.int .i64 0,.int .i64 0,.int .i64 0] 144)
theorem z2g(w:World)(v:Value):(w3R w v).heap[w.heap.size]? =some Zg:=
 (Below.heap_alloc _ _ _ (by simp;omega)).trans ((Below.heap_alloc _ _ _ (by simp)).trans (Qx w _ rfl))
theorem z2h(w:World)(v:Value):(w3R w v).heap[w.heap.size+1]? =some (.cells #[.nilIface] 30):=
 (Below.heap_alloc _ _ _ (by simp)).trans (Qx _ _ (by simp))
theorem Qw{w:World}{g:Nat}{a:Value}{t:TypeId}(h:w.heap[g]? =some (.cells #[a] t)):w.cell? ⟨g,0,none⟩=some a/\w.frozen? ⟨g,0,none⟩=false:=by
 constructor<;>simp[World.cell?,World.frozen?,h]
theorem z2i{w:World}{p:Nat}{a b:Value}{s t:TypeId}(h:w.heap[p]? =some (.cells #[a] s))(o:w.heap[p+1]? =some (.cells #[b] t))(x y:Value):
  ((w.setCell ⟨p,0,none⟩ x).setCell ⟨p+1,0,none⟩ y).cell? ⟨p,0,none⟩=some x/\((w.setCell ⟨p,0,none⟩ x).setCell ⟨p+1,0,none⟩ y).cell? ⟨p+1,0,none⟩=some y:=by
 constructor
 ·simp[World.cell?,World.setCell,Array.getElem?_modify,h]
 ·simp[World.cell?,World.setCell,Array.getElem?_modify,o]
theorem z9W(b:Nat)(v:Value)(L:List Tok)(w:World)(Y:w.ownsRow b 139 7 v L.length (tvs L))(hg:Ql L)(ab:0<L.length):
  Calls prog 35 #[v] w fun e w'=>Nz (Vg L) w e w':=by
 have ad:∀(fn:Fn) (first A:Array Value) (w:World),(Instr.makeFunc fn first A).run prog w=.ok (.func fn first A) w:=fun _ _ _ _=>rfl
 obtain⟨g,A,rfl⟩:=Gx Y (by omega);have hR:Rd (w3R w (.slice (some ⟨g,0,none⟩) L.length A)) (w.heap.size+2) b (.slice (some ⟨g,0,none⟩) L.length A) L 0 0 0:=⟨Qx _ _ (by simp),((Y.alloc _).alloc _).alloc _⟩;have r:=hid (z9T (w.heap.size+2) b (w.heap.size+3) _ L _ hg hR ab (by simp));have t:Hid (Below w.heap.size w (w3R w (.slice (some ⟨g,0,none⟩) L.length A))):=((B0q.alloc L0q _).alloc (by simp) _).alloc (by simp<;>omega) _;obtain⟨n,hn⟩:∃n,n=L.length:=⟨_,rfl⟩;rw[<-hn]at r t ⊢;clear hn hR Y;cases hs:Vg L with
 |inl c=>
  rw[hs]at r;clear hs
  go_enter_defers func35,ntmps35
  go_wp2_with fail
  refine r.out.mono ?_;rintro e h ⟨f,rfl,Z,o⟩;have D:Hid (h.heap[w.heap.size]? =some Zg):=(o.out.block _ (by simp;omega) (fun e=>by have:=Option.some.inj e;omega)).trans (z2g w _);have y:Hid (h.heap[w.heap.size+1]? =some (.cells #[.nilIface] 30)):=(o.out.block _ (by simp) (fun e=>by have:=Option.some.inj e;omega)).trans (z2h w _);have E:Hid (Below w.heap.size w h):=t.out.grown o.out t.out.size (fun k e=>by have:=Option.some.inj e;omega);have hf:w.heap.size+3<=f:=by have:=Z.out.1;simp at this;omega
  have HA:Hid (Nz (.inl c) w (.returned (.tuple #[.agg #[.slice none 0 0],.iface 134 (.pointer (some ⟨f,0,none⟩))])) ((h.setCell ⟨w.heap.size,0,none⟩ (.slice none 0 0)).setCell ⟨w.heap.size+1,0,none⟩ (.iface 134 (.pointer (some ⟨f,0,none⟩))))):=
   ⟨f,rfl,hid ⟨by omega,(Below.heap_setCell _ _ _ _ (show f≠w.heap.size+1 by omega)).trans ((Below.heap_setCell _ _ _ _ (show f≠w.heap.size by omega)).trans Z.out.2),Below.setNew (Below.setNew E.out L0q) (by omega)⟩⟩
  clear r Z o t E
  go_wp2_with fail
  refine leaves_cons (f:=59) (args:=#[.pointer (some ⟨w.heap.size,0,none⟩),.pointer (some ⟨w.heap.size+1,0,none⟩)]) (by simp) (by simp[go_sem]) ?_;refine(z9V w.heap.size (w.heap.size+1) f [] h (by omega) (Qw D.out).1 (Qw y.out).1 (Qw D.out).2 (Qw y.out).2).mono ?_;rintro e u' ac ⟨rfl,rfl,rfl⟩;obtain⟨c0,c1⟩:=z2i D.out y.out (.slice none 0 0) (.iface 134 (.pointer (some ⟨f,0,none⟩)));simp[Leaves,settle,results,Tryz.results35,go_sem,c0,c1];exact HA.out
 |inr rs=>
  rw[hs]at r;clear hs;obtain⟨m,V⟩:∃m,m=rs.length:=⟨_,rfl⟩;have HM:Hid (m=rs.length):=V;clear V
  go_enter_defers func35,ntmps35
  go_wp2_with fail
  refine r.out.mono ?_;rintro e h ⟨I,U,rfl,aa,o⟩;rw[<-HM.out]at aa ⊢;have D:Hid (h.heap[w.heap.size]? =some Zg):=(o.out.block _ (by simp;omega) (fun e=>by have:=Option.some.inj e;omega)).trans (z2g w _);have y:Hid (h.heap[w.heap.size+1]? =some (.cells #[.nilIface] 30)):=(o.out.block _ (by simp) (fun e=>by have:=Option.some.inj e;omega)).trans (z2h w _);have E:Hid (Below w.heap.size w h):=t.out.grown o.out t.out.size (fun k e=>by have:=Option.some.inj e;omega);have ae:w.heap.size+1<h.heap.size:=Qq y.out;have HA:Hid (Nz (.inr rs) w (.returned (.tuple #[.agg #[.slice (some ⟨I,0,none⟩) m U],.nilIface])) ((h.setCell ⟨w.heap.size,0,none⟩ (.slice (some ⟨I,0,none⟩) m U)).setCell ⟨w.heap.size+1,0,none⟩ .nilIface)):=by
   have hr:=(aa.out.grown (G.setR (u:=.slice (some ⟨I,0,none⟩) m U) (j:=0) (G.refl h w.heap.size)) (by omega)).grown (G.setR (u:=.nilIface) (j:=0) (G.refl _ (w.heap.size+1))) (by omega);have V:=HM.out;subst V;exact⟨I,U,rfl,hid (hr.low (by omega)),hid (Below.setNew (Below.setNew E.out L0q) (by omega))⟩
  obtain⟨e0,y0⟩:=Qw D.out;obtain⟨e1,y1⟩:=Qw y.out;clear r aa o t E
  go_wp2_with fail
  refine leaves_cons (f:=59) (args:=#[.pointer (some ⟨w.heap.size,0,none⟩),.pointer (some ⟨w.heap.size+1,0,none⟩)]) (by simp) (by simp[go_sem]) ?_;refine(z9U w.heap.size (w.heap.size+1) _).mono ?_;rintro e u' ac ⟨rfl,rfl,rfl⟩;obtain⟨c0,c1⟩:=z2i D.out y.out (.slice (some ⟨I,0,none⟩) m U) .nilIface;simp[Leaves,settle,results,Tryz.results35,go_sem,c0,c1];exact HA.out
def Mb(t:Tok):Prop:=t.1<=5/\(t.1=5->∃x,x<256/\t.2.1=nb [x])
theorem z9X{S:ByteArray}{p x n:Nat}{t:Tok}(r:bt S p=some x)(h:Yh S p x=.inr (t,n)):Mb t:=by
 have hx:=(Qp r).2;refine⟨(Kd r h).2.2.2.2.2.1,fun o=> ?_⟩;unfold Yh at h;split at h
 ·split at h
  ·cases h
  ·simp only[Sum.inr.injEq,Prod.mk.injEq]at h
   rw[<-h.1]at o;exact absurd o (by show ¬(1:Nat)=5;decide)
 ·split at h
  ·split at h
   ·cases h
   ·simp only[Sum.inr.injEq,Prod.mk.injEq]at h
    rw[<-h.1]at o;exact absurd o (by show ¬(3:Nat)=5;decide)
  ·split at h
   ·split at h
    ·cases h
    ·simp only[Sum.inr.injEq,Prod.mk.injEq]at h
     rw[<-h.1]at o;exact absurd o (by show ¬(4:Nat)=5;decide)
   ·split at h
    ·simp only[Sum.inr.injEq,Prod.mk.injEq]at h
     rw[<-h.1]at o;exact absurd o (by show ¬(2:Nat)=5;decide)
    ·split at h
     ·simp only[Sum.inr.injEq,Prod.mk.injEq]at h
      exact⟨x,hx,by rw[<-h.1]⟩
     ·cases h
theorem Ry(S:ByteArray):∀(f k:Nat) (acc L:List Tok),tkl S f k acc=.inr L->(∀t∈acc,Mb t)->(∀t∈L,Mb t)/\L.length<=acc.length+(S.size-k)
 |0,k,acc,L,h,ha=>by
  rw[tkl]at h;simp only[Sum.inr.injEq]at h;subst h;exact⟨ha,by omega⟩
 |f+1,k,acc,L,h,ha=>by
  rw[tkl]at h;split at h
  ·simp only[Sum.inr.injEq]at h
   subst h;exact⟨ha,by omega⟩
  ·rename_i x o
   split at h
   ·cases h
   ·rename_i t n r
    have y:=Kd o r;have E:=Mk (S:=S) (n:=n) y.2.1;have G:=(Qp o).1;have:=Ry S f (sb S n) (acc++[t]) L h (fun u A=>by
     rcases List.mem_append.1 A with h|h
     ·exact ha u h
     ·simp at h;rw[h];exact z9X o r)
    refine⟨this.1,?_⟩;have D:=this.2;simp at D;omega
theorem z2j{a b:List Tok}{k:Nat}(h:k<a.length):gL (a++b) k=a[k]:=by
 unfold gL;rw[List.getElem?_append_left h,List.getElem?_eq_getElem h];rfl
theorem z2k{a b:List Tok}{k:Nat}(h:a.length<=k):gL (a++b) k=gL b (k-a.length):=by
 unfold gL;rw[List.getElem?_append_right h]
theorem z9Y{m:List Tok}{p:Nat}(A:∀t∈m,Mb t)(hl:m.length<=9000):Ql (m++[(6,{data:=#[]},0,p)]):=by
 have r:∀k,m.length<=k->(gL (m++[(6,{data:=#[]},0,p)]) k).1=6:=fun k y=>by
  rw[z2k y]
  match k-m.length with
  |0=>rfl
  |j+1=>rfl
 refine⟨by simp;omega,fun k y D=> ?_,fun k o=> ?_⟩
 ·rcases Nat.lt_or_ge k m.length with h|h
  ·simp;omega
  ·exact absurd (r k h) D
 ·rcases Nat.lt_or_ge k m.length with h|h
  ·rw[z2j h]at o ⊢
   exact(A _ (List.getElem_mem h)).2 o
  ·rw[r k h]at o
   cases o
theorem z9Z{S:ByteArray}{L:List Tok}(h:tkS S=.inr L)(y:S.size<=8192):Ql L/\0<L.length:=by
 unfold tkS at h;cases hm:tks S (sb S 0) []with
 |inl c=>rw[hm]at h;cases h
 |inr m=>
  rw[hm]at h;simp only[tkE,Sum.inr.injEq]at h;subst h;have:=Ry S _ _ _ _ hm (fun t o=>by simp at o);exact⟨z9Y this.1 (by have r:=this.2;simp at r;omega),by simp⟩
def y0a(r:Tr):(Nat×Nat) ⊕ List Rl:=match r with
 | .inl c=>.inl c
 | .inr L=>Vg L
def Vb(S:ByteArray):(Nat×Nat) ⊕ List Rl:=y0a (tkS S)
theorem z2l{w W:World}{x:Value}(h:Below (w.heap.size+1) (w.alloc Zg) W):W.heap[w.heap.size]? =some Zg/\Below w.heap.size w W/\Below w.heap.size w (W.setCell ⟨w.heap.size,0,none⟩ x):=by
 have r:W.heap[w.heap.size]? =some Zg:=(h.block _ (by omega)).trans (Qx w _ rfl);have o:Below w.heap.size w W:=((Below.refl _ w).alloc L0q Zg).trans (h.mono (by omega));exact⟨r,o,Below.setNew o L0q⟩
def Nd.kd:Nd->Nat
 | .mk k _ _ _ _=>k
theorem Zd.get{w:World}{P:Nat->Prop}:∀(l:List Rl) (vs:List Value) (k:Nat) (o:k<l.length),Zd w P l vs->∃c,Yd w P l[k] c/\∀j u,c[j]? =some u->vs[k*10+j]? =some u
 |[],vs,k,o,_=>by simp at o
 |x::r,vs,0,o,h=>by
  rw[Zd]at h;obtain⟨c,rest,rfl,y,A⟩:=h;refine⟨c,y,fun j u t=> ?_⟩;have hl:j<c.length:=by
   rcases Nat.lt_or_ge j c.length with h|h
   ·exact h
   ·rw[List.getElem?_eq_none h]at t;cases t
  rw[show 0*10+j=j by omega,List.getElem?_append_left hl];exact t
 |x::r,vs,k+1,o,h=>by
  rw[Zd]at h;obtain⟨c,rest,rfl,y,A⟩:=h;have G:=y.len;obtain⟨d,D,E⟩:=Zd.get r rest k (by simp at o;omega) A;refine⟨d,D,fun j u t=> ?_⟩;rw[List.getElem?_append_right (by omega),show(k+1)*10+j-c.length=k*10+j by omega];exact E j u t
theorem RoR.get{B g n A:Nat}{rs:List Rl}{W:World}(h:RoR B (.slice (some ⟨g,0,none⟩) n A) rs W)(k:Nat)(D:k<rs.length):
  ∃c,Yd W (fun g=>B<=g) rs[k] c/\∀j u,c[j]? =some u->W.cell? ⟨g,k*10+j,none⟩=some u:=by
 obtain⟨xs,t,E⟩:=h;obtain⟨c,y,G⟩:=Zd.get rs xs k D E;have U:=y.len;have I:n=rs.length:=by
  obtain⟨_,⟨o,_⟩|⟨V,Y,cur,o,_⟩⟩:=t
  ·cases o
  ·injection o
 subst I;refine⟨c,y,fun j u r=> ?_⟩;have hl:j<c.length:=by
  rcases Nat.lt_or_ge j c.length with h|h
  ·exact h
  ·rw[List.getElem?_eq_none h]at r;cases r
 rw[t.cellAt _ (by omega)];exact G j u r
theorem Tryz.cellsOf52:Tryz.prog.cellsOf 52=1:=by kernel_rfl
theorem Tryz.info52:(Tryz.prog.info? 52).map (fun i=>(i.zero,i.size,i.bytes))=some (some (.int .u64 0),1,8):=by kernel_rfl
theorem Rf(n:Nat)(w:World)(a b c d o r A D:Int):
  (Op.equalIn (n+2) 54 (.agg #[.int .u64 a,.int .u64 b,.int .u64 c,.int .u64 d]) (.agg #[.int .u64 o,.int .u64 r,.int .u64 A,.int .u64 D])).run prog w=.ok (a == o&&(b == r&&(c == A&&d == D))) w:=by
 obtain⟨i,E⟩:∃i,Tryz.prog.info? 52=some i:=by
  cases h:Tryz.prog.info? 52 with
  |none=>have:=Tryz.info52;rw[h]at this;cases this
  |some i=>exact⟨i,rfl⟩
 have G:Tryz.prog.underlying 54=some (.array 4 52):=by kernel_rfl
 rw[run_equalIn_array w (n+1) _ _ G E,Tryz.cellsOf52];have p:∀(x y z t:Value) (w:World),(part 52 #[x,y,z,t] 0).run prog w=.ok x w:=fun _ _ _ _ _=>by kernel_rfl
 have p1:∀(x y z t:Value) (w:World),(part 52 #[x,y,z,t] 1).run prog w=.ok y w:=fun _ _ _ _ _=>by kernel_rfl
 have p2:∀(x y z t:Value) (w:World),(part 52 #[x,y,z,t] 2).run prog w=.ok z w:=fun _ _ _ _ _=>by kernel_rfl
 have I:∀(x y z t:Value) (w:World),(part 52 #[x,y,z,t] 3).run prog w=.ok t w:=fun _ _ _ _ _=>by kernel_rfl
 have e:∀(x y:Int) (w:World),(Op.equalIn (n+1) 52 (.int .u64 x) (.int .u64 y)).run prog w=.ok (x == y) w:=fun x y w=>run_equalIn_int w n 52 .u64 .u64 x y Tryz.underlying52
 rw[show List.range 4=[0,1,2,3]from rfl];simp only[Op.eqItems,Sem.run_bind,Nat.mul_one,p,e,Result.andThen_ok];cases h1:a == o<;>cases h2:b == r<;>cases h3:c == A<;>cases h4:d == D<;>simp[Result.andThen,p1,p2,I,e,h2,h3,h4,-beq_iff_eq,-beq_eq_false_iff_ne]
mutual
def Sm:Nd->Nd->Prop
 | .mk kd T C s _,.mk kd' T' C' s' _=>kd'=kd/\T'=T/\C'=C/\SmL s s'/\s.length<=1000000
def SmL:List Nd->List Nd->Prop
 |[],[]=>True
 |a::r,b::q=>Sm a b/\SmL r q
 |_,_=>False
end
theorem SmL.len:∀{s t:List Nd},SmL s t->t.length=s.length
 |[],[],_=>rfl
 |[],_::_,h=>by simp[SmL]at h
 |_::_,[],h=>by simp[SmL]at h
 |a::r,b::q,h=>by
  rw[SmL]at h;simp[SmL.len h.2]
section
theorem Fb{kd:Nat}{T:ByteArray}{C p p':Nat}{s o:List Nd}(h:SmL s o)(hl:s.length<=1000000):Sm (.mk kd T C s p) (.mk kd T C o p'):=by
 rw[Sm];exact⟨rfl,rfl,rfl,h,hl⟩
theorem Fh:SmL [] []:=by rw[SmL];trivial
theorem Ej{a b:Nd}(h:Sm a b):SmL [a] [b]:=by rw[SmL];exact⟨h,Fh⟩
theorem Rb:∀{s t:List Nd} {a b:Nd},SmL s t->Sm a b->SmL (s++[a]) (t++[b])
 |[],[],a,b,_,h=>Ej h
 |[],_::_,_,_,h,_=>by simp[SmL]at h
 |_::_,[],_,_,h,_=>by simp[SmL]at h
 |x::s,y::t,a,b,h,h2=>by
  rw[SmL]at h;rw[List.cons_append,List.cons_append,SmL];exact⟨h.1,Rb h.2 h2⟩
theorem z2m(kd:Nat):∀{s t:List Nd},SmL s t->s.length<=1000000->s≠[]->Sm (Vq kd s) (Vq kd t)
 |[],_,_,_,h=>absurd rfl h
 |_::_,[],h,_,_=>by simp[SmL]at h
 |[a],[b],h,_,_=>by rw[SmL]at h;exact h.1
 |[a],b::c::t,h,_,_=>by simp[SmL]at h
 |a::x::s,[b],h,_,_=>by simp[SmL]at h
 |a::x::s,b::y::t,h,hl,_=>Fb h hl
def tk3(t:Tok):Nat×ByteArray×Nat:=(t.1,t.2.1,t.2.2.1)
theorem y0b{t u:Tok}(h:tk3 u=tk3 t):sgT u=sgT t:=by
 unfold tk3 at h;simp only[Prod.mk.injEq]at h;unfold sgT;rw[h.1,h.2.1]
section
variable {L1 L2:List Tok} {e:Nat}
theorem z2n(L:List Tok)(k:Nat)(h:k+1<L.length):hdB L k=((gL L k).1 == 1&&(gL L (k+1)).1 == 2):=by
 unfold hdB;rw[Vy (show k<L.length by omega),Vy h,List.getElem?_eq_getElem (show k<L.length by omega),List.getElem?_eq_getElem h]
end
end
section
section
variable {L1 L2:List Tok} {e:Nat}
end
end
theorem z2o{L:List Tok}{ru k k':Nat}{x:Rl}(h:ruS L ru k=.inr (x,k')):chS L (Zc L 24) (k+2)=.inr (x.2.1,k')/\x.1=(gL L k).2.1:=by
 unfold ruS at h;split at h
 ·cases h
 ·split at h
  ·cases h
  ·split at h
   ·cases h
   ·cases hs:chS L (Zc L 24) (k+2)with
    |inl e=>rw[hs]at h;cases h
    |inr q=>
     obtain⟨n,j⟩:=q;rw[hs]at h;simp only[ruE,Sum.inr.injEq,Prod.mk.injEq]at h;obtain⟨rfl,rfl⟩:=h;exact⟨rfl,rfl⟩
section
section
variable {L1 L3:List Tok} {d e:Nat}
def RlS(x y:Rl):Prop:=y.1=x.1/\Sm x.2.1 y.2.1
def RlL:List Rl->List Rl->Prop
 |[],[]=>True
 |a::r,b::q=>RlS a b/\RlL r q
 |_,_=>False
theorem RlL.len:∀{s t:List Rl},RlL s t->t.length=s.length
 |[],[],_=>rfl
 |[],_::_,h=>by simp[RlL]at h
 |_::_,[],h=>by simp[RlL]at h
 |a::r,b::q,h=>by
  rw[RlL]at h;simp[RlL.len h.2]
theorem RlL.app:∀{s t u v:List Rl},RlL s t->RlL u v->RlL (s++u) (t++v)
 |[],[],u,v,_,h=>h
 |[],_::_,_,_,h,_=>by simp[RlL]at h
 |_::_,[],_,_,h,_=>by simp[RlL]at h
 |a::r,b::q,u,v,h,h2=>by
  rw[RlL]at h;rw[List.cons_append,List.cons_append,RlL];exact⟨h.1,RlL.app h.2 h2⟩
end
end
section
def sgc(x:UInt8):Nat×ByteArray×Nat:=(5,{data:=#[x]},0)
def wr(over kd:Nat):Bool:=
 if over=8∨over=9∨over=10 then decide (6<=kd)
 else if over=11∨over=12 then decide (kd=6∨kd=7∨kd=11∨kd=12)
 else if over=6 then decide (kd=6∨kd=7)
 else if over=7 then decide (kd=7)else false
def rpS(kd:Nat):UInt8:=if kd=8 then 63 else if kd=9 then 42 else 43
mutual
def kN:Nd->List (Nat×ByteArray×Nat)
 | .mk kd T C s p=>if kd=1 then [sgc 40,sgc 41]else if kd=2 then [(3,T,C)]else if kd=3 then [(4,T,C)]else if kd=4 then [sgc 46]else if kd=5 then [(1,T,C)]else if kd=6 then kS 6 s else if kd=7 then kA s
   else if kd=11 then sgc 38::kS 11 s else if kd=12 then sgc 33::kS 12 s else kS kd s++[sgc (rpS kd)]
def kS(over:Nat):List Nd->List (Nat×ByteArray×Nat)
 |[]=>[]
 |n::r=>(if wr over n.kd=true then sgc 40::(kN n++[sgc 41])else kN n)++kS over r
def kA:List Nd->List (Nat×ByteArray×Nat)
 |[]=>[]
 |n::r=>(if wr 7 n.kd=true then sgc 40::(kN n++[sgc 41])else kN n)++kB r
def kB:List Nd->List (Nat×ByteArray×Nat)
 |[]=>[]
 |n::r=>sgc 47::((if wr 7 n.kd=true then sgc 40::(kN n++[sgc 41])else kN n)++kB r)
end
def kP(over:Nat)(n:Nd):List (Nat×ByteArray×Nat):=if wr over n.kd=true then sgc 40::(kN n++[sgc 41])else kN n
mutual
def dN:Nd->Nat
 | .mk kd T C s p=>if kd=1 then 1 else dS kd s
def dS(over:Nat):List Nd->Nat
 |[]=>0
 |n::r=>max (if wr over n.kd=true then dN n+1 else dN n) (dS over r)
end
def dP(over:Nat)(n:Nd):Nat:=if wr over n.kd=true then dN n+1 else dN n
mutual
def Vk:Nd->Prop
 | .mk kd T C s p=>((kd=1/\T={data:=#[]}/\C=0/\s=[])∨(kd=2/\C=0/\s=[])∨(kd=3/\T={data:=#[]}/\s=[])∨(kd=4/\T={data:=#[]}/\C=0/\s=[])∨(kd=5/\C=0/\s=[])∨
    ((kd=6∨kd=7)/\T={data:=#[]}/\C=0/\2<=s.length)∨(8<=kd/\kd<=12/\T={data:=#[]}/\C=0/\s.length=1))/\VkL s
def VkL:List Nd->Prop
 |[]=>True
 |n::r=>Vk n/\VkL r
end
theorem VkL.mem:∀{s:List Nd},VkL s->∀n∈s,Vk n
 |[],_,n,h=>by simp at h
 |a::r,h,n,o=>by
  rw[VkL]at h;rcases List.mem_cons.1 o with rfl|o
  ·exact h.1
  ·exact VkL.mem h.2 n o
theorem Rh(h:Nat)(n:Nd)(r:List Nd):kS h (n::r)=kP h n++kS h r:=by rw[kS];rfl
theorem Rm(h:Nat):kS h []=[]:=by rw[kS]
theorem Uc(h:Nat)(n:Nd)(r:List Nd):dS h (n::r)=max (dP h n) (dS h r):=by rw[dS];rfl
section
variable {L:List Tok} {k:Nat}
end
theorem z2p{o:Nat}(h:o=8∨o=9∨o=10)(kd:Nat):wr o kd=wr 8 kd:=by
 unfold wr;rw[if_pos h,if_pos (.inl rfl)]
theorem z2q{o:Nat}(h:o=11∨o=12)(kd:Nat):wr o kd=wr 11 kd:=by
 unfold wr;rw[if_neg (by omega),if_pos h,if_neg (by decide),if_pos (.inl rfl)]
theorem y0c{o:Nat}(h:o=8∨o=9∨o=10)(n:Nd):kP o n=kP 8 n:=by unfold kP;rw[z2p h]
theorem y0d{o:Nat}(h:o=11∨o=12)(n:Nd):kP o n=kP 11 n:=by unfold kP;rw[z2q h]
theorem y0e{o:Nat}(h:o=8∨o=9∨o=10)(n:Nd):dP o n=dP 8 n:=by unfold dP;rw[z2p h]
theorem y0f{o:Nat}(h:o=11∨o=12)(n:Nd):dP o n=dP 11 n:=by unfold dP;rw[z2q h]
theorem wr8(kd:Nat):wr 8 kd=decide (6<=kd):=by unfold wr;rw[if_pos (.inl rfl)]
theorem Rp(kd:Nat):wr 11 kd=decide (kd=6∨kd=7∨kd=11∨kd=12):=by unfold wr;rw[if_neg (by decide),if_pos (.inl rfl)]
theorem wr6(kd:Nat):wr 6 kd=decide (kd=6∨kd=7):=by unfold wr;rw[if_neg (by decide),if_neg (by decide),if_pos rfl]
theorem wr7(kd:Nat):wr 7 kd=decide (kd=7):=by unfold wr;rw[if_neg (by decide),if_neg (by decide),if_neg (by decide),if_pos rfl]
theorem Vk.kd{n:Nd}(h:Vk n):1<=n.kd/\n.kd<=12:=by
 obtain⟨kd,T,C,s,p⟩:=n;rw[Vk]at h;show 1<=kd/\kd<=12;omega
theorem y0g{n:Nd}(h:n.kd≠7):kP 7 n=kN n/\dP 7 n=dN n:=by
 unfold kP dP;rw[wr7,decide_eq_false h];exact⟨rfl,rfl⟩
theorem y0h{kd:Nat}{T:ByteArray}{C p:Nat}{m:Nd}(h:kd=8∨kd=9∨kd=10):kN (.mk kd T C [m] p)=kP 8 m++[sgc (rpS kd)]/\dN (.mk kd T C [m] p)=dP 8 m:=by
 constructor
 ·rw[kN,if_neg (by omega),if_neg (by omega),if_neg (by omega),if_neg (by omega),if_neg (by omega),if_neg (by omega),if_neg (by omega),if_neg (by omega),if_neg (by omega),Rh,Rm,List.append_nil,y0c h]
 ·rw[dN,if_neg (by omega),Uc,dS,y0e h]
  exact Nat.max_eq_left (Nat.zero_le _)
theorem y0i{kd:Nat}{T:ByteArray}{C p:Nat}{m:Nd}(h:kd=11∨kd=12):kN (.mk kd T C [m] p)=sgc (if kd=11 then 38 else 33)::kP 11 m/\dN (.mk kd T C [m] p)=dP 11 m:=by
 constructor
 ·rw[kN,if_neg (by omega),if_neg (by omega),if_neg (by omega),if_neg (by omega),if_neg (by omega),if_neg (by omega),if_neg (by omega)]
  rcases h with rfl|rfl
  ·rw[if_pos rfl,Rh,Rm,List.append_nil];rfl
  ·rw[if_neg (by decide),if_pos rfl,Rh,Rm,List.append_nil,y0d (.inr rfl)];rfl
 ·rw[dN,if_neg (by omega),Uc,dS,y0f h]
  exact Nat.max_eq_left (Nat.zero_le _)
end
theorem y0j(h kd:Nat)(w:World)(o:6<=h)(r:h<=12)(t:1<=kd)(y:kd<=12):
  Calls prog 314 #[.int .i64 h,.int .i64 kd] w fun e w'=>e=.returned (.bool (wr h kd))/\w'=w:=by
 have A:h=6∨h=7∨h=8∨h=9∨h=10∨h=11∨h=12:=by omega
 have D:kd=1∨kd=2∨kd=3∨kd=4∨kd=5∨kd=6∨kd=7∨kd=8∨kd=9∨kd=10∨kd=11∨kd=12:=by omega
 clear o r t y;rcases A with rfl|rfl|rfl|rfl|rfl|rfl|rfl<;>rcases D with rfl|rfl|rfl|rfl|rfl|rfl|rfl|rfl|rfl|rfl|rfl|rfl<;>
  (go_enter func314,ntmps314
   go_wp2_with fail
   go_ret;exact⟨rfl,rfl⟩)
end Go.Proofs.YtgnkkgcgbeianaaGreatDoor
