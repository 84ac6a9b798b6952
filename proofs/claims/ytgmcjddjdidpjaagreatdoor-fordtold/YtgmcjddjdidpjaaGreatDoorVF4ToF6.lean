/- Lemmas for the last text. Conditions: those that each names. -/
import Derived.Test.YtgmcjddjdidpjaaGreatDoorVGVToF3
import Derived.Test.YtgmcjddjdidpjaaGreatDoorVKPlainToKG2
import Derived.Test.YtgmcjddjdidpjaaGreatDoorVO18ToU2
set_option linter.unusedVariables false
set_option maxRecDepth 100000
set_option maxHeartbeats 8000000
namespace Go.Proofs.YtgmcjddjdidpjaaGreatDoor
open Go.Proofs.Tryz
open Go.RowKit Go.Shelf Go.Maps
variable {W w:World} {R cap n:Nat} {v0 v1 v2 v3 v4:Value} {a b d k p:Int} {t:RT} {xs:List Value} {T:ByteArray} {so:Option Addr}
theorem y6n(lo hi:Nat)(w:World)(h1:lo<=hi)(h2:hi<256):
  Calls prog 143 #[.int .i64 lo,.int .i64 hi] w fun e w'=>e=.returned (.tuple #[cv (seg lo (hi+1)),.nilIface])/\Below w.heap.size w w':=by
 have a1:decide ((lo:Int)<0)=false:=by simp
 have a2:decide ((hi:Int)<(lo:Int))=false:=by simp;omega
 have a2':decide (hi<lo)=false:=by simp;omega
 have a3:decide (256<=(hi:Int))=false:=by simp;omega
 go_enter func143,ntmps143
 go_wp2_with fail
 refine(Ad lo hi _ h1 h2).mono ?_;rintro e w1 ⟨rfl,hb1⟩;have hk:Blk w1 w.heap.size 0:=(Blk.new0 w).below hb1 (by simp);obtain⟨c0,c1,c2,c3⟩:=hk.cells;obtain⟨f0,f1,f2,f3⟩:=hk.thaw;obtain⟨r0,r1,r2,r3⟩:=(hk.st4 (seg lo (hi+1))).cells;have HB:Hid (Below w.heap.size w (st4 w1 w.heap.size (seg lo (hi+1)))):=Below.st4 ((B0q.alloc L0q _).trans (hb1.mono (by simp))) L0q _;clear hb1 hk;unfold st4 at r0 r1 r2 r3;show _;rw[show spn lo (hi+1-lo)=seg lo (hi+1)from rfl];dsimp only[cv]
 go_wp2_with fail
 refine bodyPost_ret (v:=.tuple #[cv (seg lo (hi+1)),.nilIface]) (by simp[results,Tryz.results143,go_sem,r0,r1,r2,r3]) rfl ⟨rfl,HB.out⟩
theorem Qh{t:TypeId}(h:W.heap[R]? =some (.cells #[v0,v1,v2,v3,v4] t)):(W.cell? ⟨R,0,none⟩=some v0/\W.cell? ⟨R,1,none⟩=some v1/\W.cell? ⟨R,2,none⟩=some v2/\W.cell? ⟨R,3,none⟩=some v3/\W.cell? ⟨R,4,none⟩=some v4)/\W.frozen? ⟨R,0,none⟩=false/\W.frozen? ⟨R,1,none⟩=false/\W.frozen? ⟨R,2,none⟩=false/\W.frozen? ⟨R,3,none⟩=false/\W.frozen? ⟨R,4,none⟩=false:=by
 obtain⟨x0,y0⟩:=Qf h 0 v0 rfl;obtain⟨x1,y1⟩:=Qf h 1 v1 rfl;obtain⟨x2,y2⟩:=Qf h 2 v2 rfl;obtain⟨x3,y3⟩:=Qf h 3 v3 rfl;obtain⟨x4,y4⟩:=Qf h 4 v4 rfl;exact⟨⟨x0,x1,x2,x3,x4⟩,y0,y1,y2,y3,y4⟩
def st5(w:World)(g:Nat)(v0 v1 v2 v3 v4:Value):World:=((((w.setCell ⟨g,0,none⟩ v0).setCell ⟨g,1,none⟩ v1).setCell ⟨g,2,none⟩ v2).setCell ⟨g,3,none⟩ v3).setCell ⟨g,4,none⟩ v4
theorem Yk{a b c d e:Value}{t:TypeId}(h:W.heap[R]? =some (.cells #[a,b,c,d,e] t)):(st5 W R v0 v1 v2 v3 v4).heap[R]? =some (.cells #[v0,v1,v2,v3,v4] t):=Qy (Qy (Qy (Qy (Qy h 0 _) 1 _) 2 _) 3 _) 4 _
theorem Xp(W:World)(R:Nat)(v0 v1 v2 v3 v4:Value):W.grownBy (st5 W R v0 v1 v2 v3 v4) (some R):=G.setR (G.setR (G.setR (G.setR (G.setR (G.refl _ _)))))
theorem y6o:Zj 0=Qj:=Nat.sub_zero _
theorem z6y(w:World):Calls prog 93 #[] w fun e w'=>e=.returned (cv Qj)/\Below w.heap.size w w':=by
 have HN:Hid (∀W:World,Calls prog 122 #[.agg #[.int .u64 0,.int .u64 0,.int .u64 0,.int .u64 0]] W fun e w'=>e=.returned (cv Qj)/\Below W.heap.size W w'):=fun W=>by rw[<-Pg,<-y6o];exact Df 0 (Nat.two_pow_pos _) W
 generalize Qj=C at HN ⊢;go_enter func93,ntmps93
 go_wp2_with fail
 refine(HN.out _).mono ?_;rintro e w1 ⟨rfl,hb1⟩;have hk:Blk w1 w.heap.size 0:=(Blk.new0 w).below hb1 (by simp);obtain⟨c0,c1,c2,c3⟩:=hk.cells;obtain⟨f0,f1,f2,f3⟩:=hk.thaw;obtain⟨r0,r1,r2,r3⟩:=(hk.st4 C).cells;have HB:Hid (Below w.heap.size w (st4 w1 w.heap.size C)):=Below.st4 ((B0q.alloc L0q _).trans (hb1.mono (by simp))) L0q _;clear hb1 hk HN;unfold st4 at r0 r1 r2 r3;dsimp only[cv]
 go_wp2_with fail
 refine bodyPost_ret (v:=cv C) (by simp[results,Tryz.results93,go_sem,r0,r1,r2,r3]) rfl ⟨rfl,HB.out⟩
theorem Fb(w:World):Calls prog 92 #[] w fun e w'=>e=.returned (av Xx)/\Below w.heap.size w w':=by
 have HN:Hid (∀W:World,Calls prog 93 #[] W fun e w'=>e=.returned (cv Qj)/\Below W.heap.size W w'):=z6y;unfold Xx;generalize Qj=C at HN ⊢;go_enter func92,ntmps92
 go_wp2_with fail
 refine(HN.out _).mono ?_;rintro e w1 ⟨rfl,hb1⟩;have hk:w1.heap[w.heap.size]? =some (.cells #[.int .u64 0,.int .u64 0,.int .u64 0,.int .u64 0,.bool false] 53):=(hb1.block _ (by simp)).trans (Qq w _ rfl);obtain⟨⟨c0,c1,c2,c3,c4⟩,f0,f1,f2,f3,f4⟩:=Qh hk;obtain⟨⟨r0,r1,r2,r3,r4⟩,_⟩:=Qh (Yk (v0:=.int .u64 (wd C 0)) (v1:=.int .u64 (wd C 1)) (v2:=.int .u64 (wd C 2)) (v3:=.int .u64 (wd C 3)) (v4:=.bool true) hk);have hb:Below w.heap.size w w1:=(B0q.alloc L0q _).trans (hb1.mono (by simp));have HB:Hid (Below w.heap.size w (st5 w1 w.heap.size (.int .u64 (wd C 0)) (.int .u64 (wd C 1)) (.int .u64 (wd C 2)) (.int .u64 (wd C 3)) (.bool true))):=hb.grown (Xp _ _ _ _ _ _ _) hb.size (fun g e=>by have:=Option.some.inj e;omega);have hl:=Qz hk;clear hb1 hk HN hb;unfold st5 at r0 r1 r2 r3 r4;dsimp only[cv]
 go_wp2_with fail
 refine bodyPost_ret (v:=av (C,true)) (by simp[results,Tryz.results92,go_sem,r0,r1,r2,r3,r4]) rfl ⟨rfl,HB.out⟩
theorem y6p(b:Nat):seg b (b+1)=2^b:=by
 unfold seg spn;rw[show b+1-b=1 by omega];simp
theorem y6q(b:Nat)(hb:b<256)(w:World):Calls prog 91 #[.int .u8 b] w fun e w'=>e=.returned (cv (2^b))/\Below w.heap.size w w':=by
 have HN:Hid (∀W:World,Calls prog 143 #[.int .i64 b,.int .i64 b] W fun e w'=>e=.returned (.tuple #[cv (2^b),.nilIface])/\Below W.heap.size W w'):=fun W=>by rw[<-y6p b];exact y6n b b W L0q hb
 generalize 2^b=C at HN ⊢;go_enter func91,ntmps91
 go_wp2_with fail
 refine(HN.out _).mono ?_;rintro e w1 ⟨rfl,hb1⟩;have hk:Blk w1 w.heap.size 0:=(Blk.new0 w).below hb1 (by simp);have hn:=Blk.new w1 C;have hk1:=hk.alloc (.cells #[.int .u64 (wd C 0),.int .u64 (wd C 1),.int .u64 (wd C 2),.int .u64 (wd C 3)] 51);obtain⟨n0,n1,n2,n3⟩:=hn.cells;obtain⟨c0,c1,c2,c3⟩:=hk1.cells;obtain⟨f0,f1,f2,f3⟩:=hk1.thaw;obtain⟨r0,r1,r2,r3⟩:=(hk1.st4 C).cells;have hl:=hk1.lt;have hl2:=hn.lt;have hb2:Below w.heap.size w w1:=(B0q.alloc L0q _).trans (hb1.mono (by simp));have HB:Hid (Below w.heap.size w (st4 (w1.alloc (.cells #[.int .u64 (wd C 0),.int .u64 (wd C 1),.int .u64 (wd C 2),.int .u64 (wd C 3)] 51)) w.heap.size C)):=Below.st4 (hb2.alloc hb2.size _) L0q _;clear hb1 hk hk1 hn HN hb2;unfold st4 at r0 r1 r2 r3;dsimp only[cv]
 go_wp2_with fail
 refine bodyPost_ret (v:=cv C) (by simp[results,Tryz.results91,go_sem,r0,r1,r2,r3]) rfl ⟨rfl,HB.out⟩
def Xb(A:ByteArray->Ot):List RT->Nat
 |[]=>0
 |t::r=>if(ofT A t).2.1=true then 1 else Xb A r+1
def ldK(A:ByteArray->Ot)(k:Int)(s:List RT):Nat:=if k=6 then Xb A s else 0
@[reducible] def r10 (k:Int) (T:ByteArray) (a b c d:Int) (so:Option Addr) (n cap:Nat) (p:Int) (po:Option Addr) (pn pc:Nat) (l:Int):List Value:=[.int .i64 k,.string T,.int .u64 a,.int .u64 b,.int .u64 c,.int .u64 d,.slice so n cap,.int .i64 p,.slice po pn pc,.int .i64 l]
mutual
def Zv(A:ByteArray->Ot)(w:World)(P:Nat->Prop):RT->List Value->Prop
 | .mk k T a b c d s p,cs=>∃so n cap po pc,cs=r10 k T a b c d so n cap p po (Qw s) pc (ldK A k s:Nat)/\(s.isEmpty=true∨(s.isEmpty=false/\∃g cur,po=some ⟨g,0,none⟩/\P g/\w.heap[g]? =some (.cells cur 137)/\Qw s<=maxLen/\Ql A w P s cur.toList))
def Ql(A:ByteArray->Ot)(w:World)(P:Nat->Prop):List RT->List Value->Prop
 |[],_=>True
 |t::r,vs=>∃c rest,vs=c++rest/\Zv A w P t c/\Ql A w P r rest
end
theorem Zv.len{A:ByteArray->Ot}{P:Nat->Prop}{c:List Value}(h:Zv A w P t c):c.length=10:=by
 obtain⟨k,T,a,b,c0,d,s,p⟩:=t;rw[Zv]at h;obtain⟨so,n,cap,po,pc,rfl,_⟩:=h;rfl
mutual
theorem Zv.kept{A:ByteArray->Ot}{w w':World}{P Q:Nat->Prop}(hk:∀g cur,P g->w.heap[g]? =some (.cells cur 137)->w'.heap[g]? =w.heap[g]? /\Q g):∀(t:RT) (c:List Value),Zv A w P t c->Zv A w' Q t c
 | .mk k T a b c d s p,cs,h=>by
   rw[Zv]at h ⊢;obtain⟨so,n,cap,po,pc,h1,h2⟩:=h;refine⟨so,n,cap,po,pc,h1,?_⟩;rcases h2 with h2|⟨h3,g,cur,h4,h5,h6,h7,h8⟩
   ·exact .inl h2
   ·have:=hk g cur h5 h6
    exact .inr ⟨h3,g,cur,h4,this.2,this.1.trans h6,h7,Ql.kept hk s cur.toList h8⟩
theorem Ql.kept{A:ByteArray->Ot}{w w':World}{P Q:Nat->Prop}(hk:∀g cur,P g->w.heap[g]? =some (.cells cur 137)->w'.heap[g]? =w.heap[g]? /\Q g):∀(l:List RT) (vs:List Value),Ql A w P l vs->Ql A w' Q l vs
 |[],vs,h=>by rw[Ql];trivial
 |n::r,vs,h=>by
  rw[Ql]at h ⊢;obtain⟨c,rest,h1,h2,h3⟩:=h;exact⟨c,rest,h1,Zv.kept hk n c h2,Ql.kept hk r rest h3⟩
end
theorem Ql.append{A:ByteArray->Ot}{w:World}{P:Nat->Prop}:∀(l:List RT) (vs:List Value) (n:RT) (c:List Value),Ql A w P l vs->vs.length=l.length*10->Zv A w P n c->Ql A w P (l++[n]) (vs++c)
 |[],vs,n,c,_,hl,hn=>by
  have:vs=[]:=List.eq_nil_of_length_eq_zero (by simpa using hl);subst this;rw[List.nil_append,Ql];exact⟨c,[],by simp,hn,by rw[Ql];trivial⟩
 |m::r,vs,n,c,h,hl,hn=>by
  rw[Ql]at h;obtain⟨d,rest,rfl,h2,h3⟩:=h;have hd:=h2.len;rw[List.cons_append,Ql];refine⟨d,rest++c,by rw[List.append_assoc],h2,Ql.append r rest n c h3 ?_ hn⟩;simp at hl;omega
theorem Ql.more{A:ByteArray->Ot}{w:World}{P:Nat->Prop}:∀(l:List RT) (vs us:List Value),Ql A w P l vs->Ql A w P l (vs++us)
 |[],_,_,_=>by rw[Ql];trivial
 |n::r,vs,us,h=>by
  rw[Ql]at h ⊢;obtain⟨c,rest,rfl,h2,h3⟩:=h;exact⟨c,rest++us,by rw[List.append_assoc],h2,Ql.more r rest us h3⟩
theorem Ql.at{A:ByteArray->Ot}{w:World}{P:Nat->Prop}:∀(l:List RT) (vs:List Value) (j:Nat) (hj:j<l.length),Ql A w P l vs->∃c,Zv A w P l[j] c/\∀i u,c[i]? =some u->vs[j*10+i]? =some u
 |t::r,vs,0,hj,h=>by
  rw[Ql]at h;obtain⟨c,rest,rfl,h2,h3⟩:=h;refine⟨c,h2,fun i u hu=> ?_⟩;rw[Nat.zero_mul,Nat.zero_add];rw[List.getElem?_append_left (List.getElem?_eq_some_iff.1 hu).1];exact hu
 |t::r,vs,j+1,hj,h=>by
  rw[Ql]at h;obtain⟨c,rest,rfl,h2,h3⟩:=h;obtain⟨c1,h4,h5⟩:=Ql.at r rest j (by simpa using hj) h3;refine⟨c1,h4,fun i u hu=> ?_⟩;have hl:=h2.len;rw[List.getElem?_append_right (by omega),show(j+1)*10+i-c.length=j*10+i by omega];exact h5 i u hu
theorem Yy{g:Nat}{a0 a1 a2 a3 a4 a5 a6 a7 a8 a9:Value}{t:TypeId}(h:w.heap[g]? =some (.cells #[a0,a1,a2,a3,a4,a5,a6,a7,a8,a9] t)):(w.cell? ⟨g,0,none⟩=some a0/\w.cell? ⟨g,1,none⟩=some a1/\w.cell? ⟨g,2,none⟩=some a2/\w.cell? ⟨g,3,none⟩=some a3/\w.cell? ⟨g,4,none⟩=some a4/\w.cell? ⟨g,5,none⟩=some a5/\w.cell? ⟨g,6,none⟩=some a6/\w.cell? ⟨g,7,none⟩=some a7/\w.cell? ⟨g,8,none⟩=some a8/\w.cell? ⟨g,9,none⟩=some a9)/\w.frozen? ⟨g,0,none⟩=false/\w.frozen? ⟨g,1,none⟩=false/\w.frozen? ⟨g,2,none⟩=false/\w.frozen? ⟨g,3,none⟩=false/\w.frozen? ⟨g,4,none⟩=false/\w.frozen? ⟨g,5,none⟩=false/\w.frozen? ⟨g,6,none⟩=false/\w.frozen? ⟨g,7,none⟩=false/\w.frozen? ⟨g,8,none⟩=false/\w.frozen? ⟨g,9,none⟩=false:=by
 obtain⟨x0,y0⟩:=Qf h 0 a0 rfl;obtain⟨x1,y1⟩:=Qf h 1 a1 rfl;obtain⟨x2,y2⟩:=Qf h 2 a2 rfl;obtain⟨x3,y3⟩:=Qf h 3 a3 rfl;obtain⟨x4,y4⟩:=Qf h 4 a4 rfl;obtain⟨x5,y5⟩:=Qf h 5 a5 rfl;obtain⟨x6,y6⟩:=Qf h 6 a6 rfl;obtain⟨x7,y7⟩:=Qf h 7 a7 rfl;obtain⟨x8,y8⟩:=Qf h 8 a8 rfl;obtain⟨x9,y9⟩:=Qf h 9 a9 rfl;exact⟨⟨x0,x1,x2,x3,x4,x5,x6,x7,x8,x9⟩,y0,y1,y2,y3,y4,y5,y6,y7,y8,y9⟩
theorem z6z(w:World)(a0 a1 a2 a3 a4 a5 a6 a7 a8 a9:Value)(t:TypeId):∀j x,[a0,a1,a2,a3,a4,a5,a6,a7,a8,a9][j]? =some x->(w.alloc (.cells #[a0,a1,a2,a3,a4,a5,a6,a7,a8,a9] t)).cell? ((⟨w.heap.size,0,none⟩:Addr).add j)=some x:=by
 intro j x hj
 match j,hj with
 |0,hj=>simp at hj;subst hj;simp[Addr.add]
 |1,hj=>simp at hj;subst hj;simp[Addr.add]
 |2,hj=>simp at hj;subst hj;simp[Addr.add]
 |3,hj=>simp at hj;subst hj;simp[Addr.add]
 |4,hj=>simp at hj;subst hj;simp[Addr.add]
 |5,hj=>simp at hj;subst hj;simp[Addr.add]
 |6,hj=>simp at hj;subst hj;simp[Addr.add]
 |7,hj=>simp at hj;subst hj;simp[Addr.add]
 |8,hj=>simp at hj;subst hj;simp[Addr.add]
 |9,hj=>simp at hj;subst hj;simp[Addr.add]
theorem z6A(k:Int)(T:ByteArray)(a b c d:Int)(so:Option Addr)(n cap:Nat)(p:Int)(po:Option Addr)(pn pc:Nat)(l:Int):∀u∈[Value.int .i64 k,.string T,.int .u64 a,.int .u64 b,.int .u64 c,.int .u64 d,.slice so n cap,.int .i64 p,.slice po pn pc,.int .i64 l],u.oneCell'=true:=by
 intro u hu;simp at hu;rcases hu with rfl|rfl|rfl|rfl|rfl|rfl|rfl|rfl|rfl|rfl<;>rfl
def Od(W:World)(R:Nat)(v0 v1 v2 v3 v4 v5 v6 v7 v8 v9:Value):World:=((((((((((W.setCell ⟨R,0,none⟩ v0).setCell ⟨R,1,none⟩ v1).setCell ⟨R,2,none⟩ v2).setCell ⟨R,3,none⟩ v3).setCell ⟨R,4,none⟩ v4).setCell ⟨R,5,none⟩ v5).setCell ⟨R,6,none⟩ v6).setCell ⟨R,7,none⟩ v7).setCell ⟨R,8,none⟩ v8).setCell ⟨R,9,none⟩ v9)
theorem z6B{a0 a1 a2 a3 a4 a5 a6 a7 a8 a9 v5 v6 v7 v8 v9:Value}{t:TypeId}(h:W.heap[R]? =some (.cells #[a0,a1,a2,a3,a4,a5,a6,a7,a8,a9] t)):(Od W R v0 v1 v2 v3 v4 v5 v6 v7 v8 v9).heap[R]? =some (.cells #[v0,v1,v2,v3,v4,v5,v6,v7,v8,v9] t):=by
 have h0:((W.setCell ⟨R,0,none⟩ v0)).heap[R]? =some (.cells #[v0,a1,a2,a3,a4,a5,a6,a7,a8,a9] t):=Qy h 0 _;have h1:(((W.setCell ⟨R,0,none⟩ v0).setCell ⟨R,1,none⟩ v1)).heap[R]? =some (.cells #[v0,v1,a2,a3,a4,a5,a6,a7,a8,a9] t):=Qy h0 1 _;have h2:((((W.setCell ⟨R,0,none⟩ v0).setCell ⟨R,1,none⟩ v1).setCell ⟨R,2,none⟩ v2)).heap[R]? =some (.cells #[v0,v1,v2,a3,a4,a5,a6,a7,a8,a9] t):=Qy h1 2 _;have h3:(((((W.setCell ⟨R,0,none⟩ v0).setCell ⟨R,1,none⟩ v1).setCell ⟨R,2,none⟩ v2).setCell ⟨R,3,none⟩ v3)).heap[R]? =some (.cells #[v0,v1,v2,v3,a4,a5,a6,a7,a8,a9] t):=Qy h2 3 _;have h4:((((((W.setCell ⟨R,0,none⟩ v0).setCell ⟨R,1,none⟩ v1).setCell ⟨R,2,none⟩ v2).setCell ⟨R,3,none⟩ v3).setCell ⟨R,4,none⟩ v4)).heap[R]? =some (.cells #[v0,v1,v2,v3,v4,a5,a6,a7,a8,a9] t):=Qy h3 4 _;have h5:(((((((W.setCell ⟨R,0,none⟩ v0).setCell ⟨R,1,none⟩ v1).setCell ⟨R,2,none⟩ v2).setCell ⟨R,3,none⟩ v3).setCell ⟨R,4,none⟩ v4).setCell ⟨R,5,none⟩ v5)).heap[R]? =some (.cells #[v0,v1,v2,v3,v4,v5,a6,a7,a8,a9] t):=Qy h4 5 _;have h6:((((((((W.setCell ⟨R,0,none⟩ v0).setCell ⟨R,1,none⟩ v1).setCell ⟨R,2,none⟩ v2).setCell ⟨R,3,none⟩ v3).setCell ⟨R,4,none⟩ v4).setCell ⟨R,5,none⟩ v5).setCell ⟨R,6,none⟩ v6)).heap[R]? =some (.cells #[v0,v1,v2,v3,v4,v5,v6,a7,a8,a9] t):=Qy h5 6 _;have h7:(((((((((W.setCell ⟨R,0,none⟩ v0).setCell ⟨R,1,none⟩ v1).setCell ⟨R,2,none⟩ v2).setCell ⟨R,3,none⟩ v3).setCell ⟨R,4,none⟩ v4).setCell ⟨R,5,none⟩ v5).setCell ⟨R,6,none⟩ v6).setCell ⟨R,7,none⟩ v7)).heap[R]? =some (.cells #[v0,v1,v2,v3,v4,v5,v6,v7,a8,a9] t):=Qy h6 7 _;have h8:((((((((((W.setCell ⟨R,0,none⟩ v0).setCell ⟨R,1,none⟩ v1).setCell ⟨R,2,none⟩ v2).setCell ⟨R,3,none⟩ v3).setCell ⟨R,4,none⟩ v4).setCell ⟨R,5,none⟩ v5).setCell ⟨R,6,none⟩ v6).setCell ⟨R,7,none⟩ v7).setCell ⟨R,8,none⟩ v8)).heap[R]? =some (.cells #[v0,v1,v2,v3,v4,v5,v6,v7,v8,a9] t):=Qy h7 8 _;have h9:(((((((((((W.setCell ⟨R,0,none⟩ v0).setCell ⟨R,1,none⟩ v1).setCell ⟨R,2,none⟩ v2).setCell ⟨R,3,none⟩ v3).setCell ⟨R,4,none⟩ v4).setCell ⟨R,5,none⟩ v5).setCell ⟨R,6,none⟩ v6).setCell ⟨R,7,none⟩ v7).setCell ⟨R,8,none⟩ v8).setCell ⟨R,9,none⟩ v9)).heap[R]? =some (.cells #[v0,v1,v2,v3,v4,v5,v6,v7,v8,v9] t):=Qy h8 9 _;exact h9
theorem Om(W:World)(R:Nat)(v0 v1 v2 v3 v4 v5 v6 v7 v8 v9:Value):W.grownBy (Od W R v0 v1 v2 v3 v4 v5 v6 v7 v8 v9) (some R):=G.setR (G.setR (G.setR (G.setR (G.setR (G.setR (G.setR (G.setR (G.setR (G.setR (G.refl _ _))))))))))
theorem Tryz.infoMs:(Tryz.prog.info? 137).map (fun i=>(i.zero,i.size,i.bytes))=some (some (.agg #[.int .i64 0,.string ⟨#[]⟩,.int .u64 0,.int .u64 0,.int .u64 0,.int .u64 0,.slice none 0 0,.int .i64 0,.slice none 0 0,.int .i64 0]),10,120):=by kernel_rfl
theorem y6r(a b c:Bool)(w:World):(Instr.field 47 (.agg #[.bool a,.bool b,.bool c]) 1).run prog w=.ok (.bool b) w:=by kernel_rfl
theorem y6s(A:ByteArray->Ot)(s:List RT)(j:Nat)(hj:j<s.length):Xb A (s.drop j)=if(ofT A s[j]).2.1=true then 1 else Xb A (s.drop (j+1))+1:=by
 rw[List.drop_eq_getElem_cons hj,Xb]
theorem y6t(A:ByteArray->Ot)(so0:Option Addr)(n0 cap0:Nat)(so:Option Addr)(n cap:Nat)(s:List RT)(w:World)(hn:n<=1048576)(HN:Hid (n=s.length))
  (HC:Hid (∀j (hj:j<s.length),∃g o,so=some ⟨g,o,none⟩/\g<w.heap.size/\∃k1 T1 a1 b1 c1 d1 so1 n1 cap1 p1,Rc w g (o+j*8) k1 T1 a1 b1 c1 d1 (.slice so1 n1 cap1) p1/\
    ∀W:World,Below w.heap.size w W->Calls prog 109 #[.agg #[.slice so0 n0 cap0],.agg #[.int .i64 k1,.string T1,.int .u64 a1,.int .u64 b1,.int .u64 c1,.int .u64 d1,.slice so1 n1 cap1,.int .i64 p1]] W fun e w'=>e=.returned (ov (ofT A s[j]))/\Below W.heap.size W w')):
  Calls prog 89 #[.agg #[.slice so0 n0 cap0],.slice so n cap] w fun e w'=>e=.returned (.int .i64 (Xb A s:Nat))/\Below w.heap.size w w':=by
 obtain⟨W1,hW1⟩:∃W1,W1=w.alloc (.cells #[.slice so0 n0 cap0] 24):=⟨_,rfl⟩;have HB1:Hid (Below w.heap.size w W1):=by rw[hW1];exact(Below.refl _ w).alloc L0q _
 have HG1:Hid (W1.heap[w.heap.size]? =some (.cells #[.slice so0 n0 cap0] 24)):=by rw[hW1];exact Qq w _ rfl
 have HF:=hid y6r;have HW1:=hid hW1;clear hW1;go_enter func89,ntmps89
 go_wp2_with fail
 rw[<-HW1.out];clear HW1
 go_loopw [9] (fun i wr=>∃j:Nat,i=.int .i64 j/\j<=n/\Hid (Below w.heap.size w wr)/\Hid (wr.heap[w.heap.size]? =some (.cells #[.slice so0 n0 cap0] 24))/\Hid (Xb A s=j+Xb A (s.drop j))) (fun i _=>n-(intOf i).toNat)
 case atStart=>exact⟨0,rfl,Nat.zero_le _,HB1,HG1,hid (by simp)⟩
 case round=>
  obtain⟨j,rfl,hj,HBr,HGr,HL⟩:=hrel;by_cases hjn:j<n
  ·have hjI:(j:Int)<(n:Int):=by omega
   have a0:decide ((j:Int)<(n:Int))=true:=by simp;omega
   have hjs:j<s.length:=by rw[<-HN.out];exact hjn
   obtain⟨g,o,rfl,hg,k1,T1,a1,b1,c1,d1,so1,n1,cap1,p1,hrc,hcall⟩:=HC.out j hjs;obtain⟨z0,z1,z2,z3,z4,z5,z6,z7⟩:=hrc.below HBr.out hg;have hgl:g<wr.heap.size:=World.block_lt_of_cell? wr _ z0;obtain⟨⟨y1,y2,y3⟩,hy⟩:∃y,y=ofT A s[j]:=⟨_,rfl⟩;have hld:=y6s A s j hjs;have hbp:Below w.heap.size w (wr.alloc (.cells #[.int .i64 k1,.string T1,.int .u64 a1,.int .u64 b1,.int .u64 c1,.int .u64 d1,.slice so1 n1 cap1,.int .i64 p1] 58)):=HBr.out.alloc HBr.out.size _;have hbq:=(Below.refl _ wr).alloc L0q (.cells #[.int .i64 k1,.string T1,.int .u64 a1,.int .u64 b1,.int .u64 c1,.int .u64 d1,.slice so1 n1 cap1,.int .i64 p1] 58);have hGp:=(hbq.block _ (Qz HGr.out)).trans HGr.out;have gc:=(Qk hGp).1;have gl:=Qz HGr.out;have HGp:=hid hGp;have HBp:=hid hbp;have HS:=hid (hcall _ hbp);rw[<-hy]at HS hld;have HY:=hid hld;clear hcall hrc hy hbp hbq hGp hld HGr HBr;dsimp only[ov]at HS;have hf:=HF.out y1 y2 y3;cases y2 with
   |true=>
    go_wp2_with(first
     |(go_at_call 109;refine HS.out.mono ?_;rintro e w4 ⟨rfl,hb4⟩;have HB4:=hid (HBp.out.trans (hb4.mono HBp.out.size));clear hb4 HS HBp HGp))
    go_ret;refine⟨?_,HB4.out⟩;have h1:=HL.out;have h2:=HY.out;simp only[if_true]at h2;rw[h1,h2];exact congrArg (fun n=>Ending.returned (Value.int .i64 n)) (by first|rfl|(push_cast;omega))
   |false=>
    go_wp2_with(first
     |(go_at_call 109;refine HS.out.mono ?_;rintro e w4 ⟨rfl,hb4⟩;have HB4:=hid (HBp.out.trans (hb4.mono HBp.out.size));have HG4:=hid ((hb4.block _ (Qz HGp.out)).trans HGp.out);clear hb4 HS HBp HGp))
    refine⟨⟨j+1,by go_num,by omega,HB4,HG4,hid ?_⟩,by simp[intOf];omega⟩;have h1:=HL.out;have h2:=HY.out;simp only[Bool.false_eq_true,if_false]at h2;omega
  ·have a0:decide ((j:Int)<(n:Int))=false:=by simp;omega
   have hjn':s.drop j=[]:=List.drop_of_length_le (by rw[<-HN.out];omega);have h1:=HL.out;rw[hjn',Xb,Nat.add_zero]at h1;have h2:Xb A s=n:=by omega
   clear hjn' h1
   go_wp2_with fail
   go_ret;exact⟨by rw[h2];rfl,HBr.out⟩
def MmA(A:ByteArray->Ot)(t:RT)(w:World)(e:Ending)(w':World):Prop:=∃k T a b c d so n cap p po pn pc l,e=.returned (.agg #[.int .i64 k,.string T,.int .u64 a,.int .u64 b,.int .u64 c,.int .u64 d,.slice so n cap,.int .i64 p,.slice po pn pc,.int .i64 l])/\Hid (Zv A w' (fun g=>w.heap.size<=g) t (r10 k T a b c d so n cap p po pn pc l))/\Hid (Below w.heap.size w w')
theorem Mq.app2{A:ByteArray->Ot}{base j:Nat}{a a':Value}{cs:List Value}{acc:List RT}{wr w2 W4 w6:World}
  (ho:wr.ownsRow base 137 10 a j xs)(hl:acc.length=j)(hr:Ql A wr (fun g=>base<=g/\a.ownBlock≠some g) acc xs)(hb0:base<=wr.heap.size)(hb:Below wr.heap.size wr w2)
  (hq:Zv A w2 (fun g=>wr.heap.size<=g) t cs)(h4:w2.heap.size<=W4.heap.size)(h4b:∀g,g<w2.heap.size->W4.heap[g]? =w2.heap[g]?)(hgr:W4.grownBy w6 a.ownBlock)(hat:a'.ownBlock=a.ownBlock∨a'.ownBlock=some W4.heap.size):
  Ql A w6 (fun g=>base<=g/\a'.ownBlock≠some g) (acc++[t]) (xs++cs):=by
 have key:∀g,g<w2.heap.size->a.ownBlock≠some g->w6.heap[g]? =w2.heap[g]? /\a'.ownBlock≠some g:=fun g hl hne=>by
  refine⟨(hgr.block g (by omega) (fun e=>hne e.symm)).trans (h4b g hl),?_⟩;rcases hat with h|h
  ·rw[h];exact hne
  ·rw[h];intro e;have:=Option.some.inj e;omega
 refine Ql.append _ _ _ _ (Ql.kept (fun g cur hp hq=> ?_) _ _ hr) (by rw[hl];exact ho.1) (Zv.kept (fun g cur hp hq=> ?_) _ _ hq)
 ·have hlt:=Qz hq
  have:=hb.size;have h:=key g (by omega) hp.2;exact⟨h.1.trans (hb.block g hlt),hp.1,h.2⟩
 ·have h:=key g (Qz hq) (fun e=>by have:=(ho.lt g e).2;omega)
  exact⟨h.1,by omega,h.2⟩
structure Ms4 (so0:Option Addr) (n0 cap0:Nat) (k:Int) (T:ByteArray) (a b c d:Int) (so:Option Addr) (n cap:Nat) (p:Int) (S:Nat) (v:Value) (l:Int) (W:World):Prop where
 g:W.heap[S]? =some (.cells #[.slice so0 n0 cap0] 24)
 nd:W.heap[S+1]? =some (.cells #[.int .i64 k,.string T,.int .u64 a,.int .u64 b,.int .u64 c,.int .u64 d,.slice so n cap,.int .i64 p] 58)
 z:W.heap[S+2]? =some (.cells #[.int .i64 0,.string ⟨#[]⟩,.int .u64 0,.int .u64 0,.int .u64 0,.int .u64 0,.slice none 0 0,.int .i64 0,.slice none 0 0,.int .i64 0] 137)
 m:W.heap[S+3]? =some (.cells #[.int .i64 k,.string T,.int .u64 a,.int .u64 b,.int .u64 c,.int .u64 d,.slice so n cap,.int .i64 p,v,.int .i64 l] 137)
theorem Ms4.keep{so0:Option Addr}{n0 cap0:Nat}{c:Int}{S:Nat}{v:Value}{l:Int}{W':World}(h:Ms4 so0 n0 cap0 k T a b c d so n cap p S v l W)(hk:∀g,g<S+4->g<W.heap.size->W'.heap[g]? =W.heap[g]?):Ms4 so0 n0 cap0 k T a b c d so n cap p S v l W':=
 ⟨(hk _ (by omega) (Qz h.g)).trans h.g,(hk _ (by omega) (Qz h.nd)).trans h.nd,(hk _ (by omega) (Qz h.z)).trans h.z,(hk _ (by omega) (Qz h.m)).trans h.m⟩
theorem y6u{A:ByteArray->Ot}{wr w2 w6:World}{so0:Option Addr}{n0 cap0:Nat}{c:Int}{j g6 cap6:Nat}{v:Value}{cs:List Value}{acc:List RT}{X:Obj}
  (hs:w.heap.size+4<=wr.heap.size)(ho:wr.ownsRow (w.heap.size+4) 137 10 v j xs)(hl:acc.length=j)(hr:Ql A wr (fun g=>w.heap.size+4<=g/\v.ownBlock≠some g) acc xs)(hB:Below w.heap.size w wr)(hb:Below wr.heap.size wr w2)
  (hq:Zv A w2 (fun g=>wr.heap.size<=g) t cs)(hz:Ms4 so0 n0 cap0 k T a b c d so n cap p w.heap.size v 0 wr)(hown:w6.ownsRow (w.heap.size+4) 137 10 (.slice (some ⟨g6,0,none⟩) (j+1) cap6) (j+1) (xs++cs))(hgr:(w2.alloc X).grownBy w6 v.ownBlock)(hat:v.ownBlock=some g6∨g6=w2.heap.size+1):
  w.heap.size+4<=(w6.setCell ⟨w.heap.size+3,8,none⟩ (.slice (some ⟨g6,0,none⟩) (j+1) cap6)).heap.size/\Ms4 so0 n0 cap0 k T a b c d so n cap p w.heap.size (.slice (some ⟨g6,0,none⟩) (j+1) cap6) 0 (w6.setCell ⟨w.heap.size+3,8,none⟩ (.slice (some ⟨g6,0,none⟩) (j+1) cap6))/\(w6.setCell ⟨w.heap.size+3,8,none⟩ (.slice (some ⟨g6,0,none⟩) (j+1) cap6)).ownsRow (w.heap.size+4) 137 10 (.slice (some ⟨g6,0,none⟩) (j+1) cap6) (j+1) (xs++cs)/\Ql A (w6.setCell ⟨w.heap.size+3,8,none⟩ (.slice (some ⟨g6,0,none⟩) (j+1) cap6)) (fun g=>w.heap.size+4<=g/\(Value.slice (some ⟨g6,0,none⟩) (j+1) cap6).ownBlock≠some g) (acc++[t]) (xs++cs)/\Below w.heap.size w (w6.setCell ⟨w.heap.size+3,8,none⟩ (.slice (some ⟨g6,0,none⟩) (j+1) cap6)):=by
 have hlt:∀g,v.ownBlock=some g->w.heap.size+4<=g/\g<wr.heap.size:=fun g e=>ho.lt g e
 have h2:=hb.size;have ea:(w2.alloc X).heap.size=w2.heap.size+1:=World.size_alloc _ _;have h6:=hgr.size;have hB2:Below w.heap.size w (w2.alloc X):=(hB.trans (hb.mono hB.size)).alloc (Nat.le_trans hB.size h2) _;have hB6:Below w.heap.size w w6:=hB2.grown hgr hB2.size (fun g e=>by have:=hlt g e;omega);have k6:∀g,g<w.heap.size+4->g<wr.heap.size->w6.heap[g]? =wr.heap[g]? :=fun g h1 h3=>(hgr.block _ (by omega) (fun e=>by have:=hlt _ e.symm;omega)).trans ((Below.heap_alloc _ _ _ (by omega)).trans (hb.block _ h3))
 have hz6:=hz.keep k6;refine⟨by rw[World.size_setCell];omega,⟨(Below.heap_setCell _ _ _ _ (by simp)).trans hz6.g,(Below.heap_setCell _ _ _ _ (by simp)).trans hz6.nd,(Below.heap_setCell _ _ _ _ (by simp)).trans hz6.z,Qy hz6.m 8 _⟩,hown.kept (row:=some (w.heap.size+3)) ⟨rfl,rfl,rfl,by simp,fun i hi hne=>Below.heap_setCell _ _ _ _ (fun e=>hne (by rw[e]))⟩ (.inr (fun e=>by have:=(hown.lt _ e).1;omega)),?_,hB6.setCell (p:=⟨w.heap.size+3,8,none⟩) (by show w.heap.size<=w.heap.size+3;omega) _⟩;refine Ql.kept (fun g cur hp hq=>⟨Below.heap_setCell _ _ _ _ (fun e=>by have:=hp.1;simp at e;omega),hp⟩) _ _ (Mq.app2 (W4:=w2.alloc X) ho hl hr hs hb hq (by omega) (fun g hg=>Below.heap_alloc _ _ _ hg) hgr ?_);rcases hat with h|h
 ·exact .inl h.symm
 ·exact .inr (by rw[h,ea];rfl)
theorem y6v{A:ByteArray->Ot}{wr:World}{c:Int}{s:List RT}{sa:Option Addr}{sc:Nat}{ld:Nat}(hm:s.length*120<=140737488351232)(hld:ld=ldK A k s)
  (hO:wr.ownsRow (w.heap.size+4) 137 10 (.slice sa s.length sc) s.length xs)(hr:Ql A wr (fun g=>w.heap.size+4<=g/\(Value.slice sa s.length sc).ownBlock≠some g) s xs)(hB:Below w.heap.size w W)(hk:∀g,w.heap.size+4<=g->g<wr.heap.size->W.heap[g]? =wr.heap[g]?):
  MmA A (.mk k T a b c d s p) w (.returned (.agg #[.int .i64 k,.string T,.int .u64 a,.int .u64 b,.int .u64 c,.int .u64 d,.slice so n cap,.int .i64 p,.slice sa s.length sc,.int .i64 (ld:Nat)])) W:=by
 refine⟨k,T,a,b,c,d,so,n,cap,p,sa,s.length,sc,(ld:Nat),rfl,hid ?_,hid hB⟩;rw[Zv];refine⟨so,n,cap,sa,sc,by rw[Zh,hld],?_⟩;cases s with
 |nil=>exact .inl rfl
 |cons t r=>
  refine .inr ⟨rfl,?_⟩;obtain⟨_,⟨_,h0⟩|⟨g,cap',cur,e1,hg1,hg2,_,_,_,ht⟩⟩:=hO
  ·simp at h0
  ·obtain⟨rfl,_,_⟩:=Value.slice.inj e1
   refine⟨g,cur,rfl,by omega,(hk g hg1 (Qz hg2)).trans hg2,by rw[Zh];unfold maxLen;omega,?_⟩;have h2:=Ql.more _ _ (cur.toList.drop ((t::r).length*10)) (Ql.kept (w':=W) (Q:=fun g=>w.heap.size<=g) (fun g cur hp hq=>⟨hk g hp.1 (Qz hq),by have:=hp.1;omega⟩) _ _ hr);rw[<-ht,List.take_append_drop]at h2;exact h2
theorem y6w(A:ByteArray->Ot)(so0:Option Addr)(n0 cap0:Nat)(k:Int)(T:ByteArray)(a b c d p:Int)(so:Option Addr)(n cap:Nat)(s:List RT)(w:World)(HN:Hid (n=s.length))(hn:n*120<=140737488351232)
  (HL:Hid (k=6->∀W:World,Below w.heap.size w W->Calls prog 89 #[.agg #[.slice so0 n0 cap0],.slice so n cap] W fun e w'=>e=.returned (.int .i64 (Xb A s:Nat))/\Below W.heap.size W w'))
  (HC:Hid (∀j (hj:j<s.length),∃g o,so=some ⟨g,o,none⟩/\g<w.heap.size/\∃k1 T1 a1 b1 c1 d1 so1 n1 cap1 p1,Rc w g (o+j*8) k1 T1 a1 b1 c1 d1 (.slice so1 n1 cap1) p1/\
    ∀W:World,Below w.heap.size w W->Calls prog 60 #[.agg #[.slice so0 n0 cap0],.agg #[.int .i64 k1,.string T1,.int .u64 a1,.int .u64 b1,.int .u64 c1,.int .u64 d1,.slice so1 n1 cap1,.int .i64 p1]] W (MmA A s[j] W))):
  Calls prog 60 #[.agg #[.slice so0 n0 cap0],.agg #[.int .i64 k,.string T,.int .u64 a,.int .u64 b,.int .u64 c,.int .u64 d,.slice so n cap,.int .i64 p]] w (MmA A (.mk k T a b c d s p) w):=by
 obtain⟨iT,hiT,hzT0,hzT1,hzT2⟩:=info_parts Tryz.infoMs;have hn63:n<=9223372036854775807:=by omega
 obtain⟨W0,hW0⟩:∃W0,W0=(((w.alloc (.cells #[.slice so0 n0 cap0] 24)).alloc (.cells #[.int .i64 k,.string T,.int .u64 a,.int .u64 b,.int .u64 c,.int .u64 d,.slice so n cap,.int .i64 p] 58)).alloc (.cells #[.int .i64 0,.string ⟨#[]⟩,.int .u64 0,.int .u64 0,.int .u64 0,.int .u64 0,.slice none 0 0,.int .i64 0,.slice none 0 0,.int .i64 0] 137)).alloc (.cells #[.int .i64 k,.string T,.int .u64 a,.int .u64 b,.int .u64 c,.int .u64 d,.slice so n cap,.int .i64 p,.slice none 0 0,.int .i64 0] 137):=⟨_,rfl⟩;have HB0:Hid (Below w.heap.size w W0):=by rw[hW0];exact((((Below.refl _ w).alloc L0q _).alloc (by simp) _).alloc (by simp;omega) _).alloc (by simp;omega) _
 have H40:Hid (Ms4 so0 n0 cap0 k T a b c d so n cap p w.heap.size (.slice none 0 0) 0 W0):=by
  rw[hW0];refine⟨?_,?_,?_,?_⟩
  ·exact(Below.heap_alloc _ _ _ (by simp;omega)).trans ((Below.heap_alloc _ _ _ (by simp;omega)).trans ((Below.heap_alloc _ _ _ (by simp)).trans (Qq w _ rfl)))
  ·exact(Below.heap_alloc _ _ _ (by simp)).trans ((Below.heap_alloc _ _ _ (by simp)).trans (Qq _ _ (by simp)))
  ·exact(Below.heap_alloc _ _ _ (by simp)).trans (Qq _ _ (by simp))
  ·exact Qq _ _ (by simp)
 have HS0:Hid (w.heap.size+4<=W0.heap.size):=hid (by rw[hW0];simp);have HW0:=hid hW0;clear hW0;go_enter func60,ntmps60
 go_wp2_with fail
 rw[<-HW0.out];clear HW0
 go_loopw [13] (fun i wr=>∃(j:Nat) (v:Value) (xs:List Value),i=.int .i64 j/\j<=n/\Hid (w.heap.size+4<=wr.heap.size)/\Hid (Ms4 so0 n0 cap0 k T a b c d so n cap p w.heap.size v 0 wr)/\Hid (wr.ownsRow (w.heap.size+4) 137 10 v j xs)/\Hid (Ql A wr (fun g=>w.heap.size+4<=g/\v.ownBlock≠some g) (s.take j) xs)/\Hid (Below w.heap.size w wr)) (fun i _=>n-(intOf i).toNat)
 case atStart=>exact⟨0,.slice none 0 0,[],rfl,Nat.zero_le _,HS0,H40,World.ownsRow_nil _ _ _ _,(by rw[List.take_zero,Ql];trivial),HB0⟩
 case round=>
  obtain⟨j,v,xs,rfl,hj,HS,H4,HO,HR,HB⟩:=hrel;by_cases hjn:j<n
  ·have hjI:(j:Int)<(n:Int):=by omega
   have a0:decide ((j:Int)<(n:Int))=true:=by simp;omega
   have hjs:j<s.length:=by rw[<-HN.out];exact hjn
   obtain⟨g,o,rfl,hg,k1,T1,a1,b1,c1,d1,so1,n1,cap1,p1,rc,hc⟩:=HC.out j hjs;obtain⟨z0,z1,z2,z3,z4,z5,z6,z7⟩:=rc.below HB.out hg;obtain⟨t,ht⟩:∃t,t=s[j]:=⟨_,rfl⟩;rw[<-ht]at hc;have HT:=hid ht;have HG:=hid hc;clear hc rc ht HC
   go_wp2_with fail
   obtain⟨W1,hW1⟩:∃W1,W1=wr.alloc (.cells #[.int .i64 k1,.string T1,.int .u64 a1,.int .u64 b1,.int .u64 c1,.int .u64 d1,.slice so1 n1 cap1,.int .i64 p1] 58):=⟨_,rfl⟩;have hZ1:W1.heap.size=wr.heap.size+1:=by rw[hW1];exact World.size_alloc _ _
   have HC1:Hid (W1.heap[wr.heap.size]? =some (.cells #[.int .i64 k1,.string T1,.int .u64 a1,.int .u64 b1,.int .u64 c1,.int .u64 d1,.slice so1 n1 cap1,.int .i64 p1] 58)):=by rw[hW1];exact Qq wr _ rfl
   have HB1:Hid (Below wr.heap.size wr W1):=by rw[hW1];exact(Below.refl _ wr).alloc L0q _
   have HO1:Hid (W1.ownsRow (w.heap.size+4) 137 10 v j xs):=by rw[hW1];exact HO.out.alloc _
   rw[<-hW1];clear hW1 z0 z1 z2 z3 z4 z5 z6 z7;have hsz:=HS.out;have h41:=H4.out.keep (fun g _ h=>HB1.out.block g h);obtain⟨⟨y0,y1,y2,y3,y4,y5,y6,y7⟩,yf⟩:=Qd HC1.out;obtain⟨⟨_,_,_,_,_,_,_,_,x8,_⟩,_⟩:=Yy h41.m;have xg:=(Qk h41.g).1;have H41:=hid h41;have HGd:=hid (HG.out W1.drew (HB.out.trans (HB1.out.mono HB.out.size)).drew);have l0:w.heap.size<W1.heap.size:=by omega
   have l1:wr.heap.size<W1.heap.size:=by omega
   have l3:w.heap.size+3<W1.heap.size:=by omega
   obtain⟨sa,sc,rfl⟩:=Bb HO.out;have HK2:Hid (∀w2,Hid (Below W1.drew.heap.size W1.drew w2)->w2.cell? ⟨w.heap.size+3,8,none⟩=some (.slice sa j sc)/\w.heap.size+3<w2.heap.size/\w2.ownsRow (w.heap.size+4) 137 10 (.slice sa j sc) j xs/\Ms4 so0 n0 cap0 k T a b c d _ n cap p w.heap.size (.slice sa j sc) 0 w2/\Below wr.heap.size wr w2/\w.heap.size+4<=w2.heap.size):=fun w2 h=>by
    have hs:=h.out.size;have e:W1.drew.heap.size=W1.heap.size:=rfl;have hd:Ms4 so0 n0 cap0 k T a b c d _ n cap p w.heap.size (.slice sa j sc) 0 W1.drew:=⟨H41.out.g,H41.out.nd,H41.out.z,H41.out.m⟩;have hb:=hd.keep (fun g _ hg=>h.out.block g hg);have ho:W1.drew.ownsRow (w.heap.size+4) 137 10 (.slice sa j sc) j xs:=HO1.out;refine⟨(Yy hb.m).1.2.2.2.2.2.2.2.2.1,by omega,Ym ho h.out,hb,HB1.out.drew.trans (h.out.mono (by omega)),by omega⟩
   clear h41 HG HO1;have HNe:Hid (some (w.heap.size+3)≠(Value.slice sa j sc).ownBlock):=fun e=>by have:=(HO.out.lt _ e.symm).1;omega
   have m0:0<(10:Nat):=by decide
   have m3:0<(1:Nat):=by decide
   have m1:j+1<=maxLen:=by unfold maxLen;omega
   have m2:(j+1)*120<=140737488355328:=by omega
   go_region_law (first
    |(go_simp;go_at_call 60;refine HGd.out.mono ?_;rintro e w2 ⟨k2,T2,a2,b2,c2,d2,so2,n2,cap2,p2,po2,pn2,pc2,ll2,rfl,HQ2,HB2⟩;have hw2:=HK2.out w2 HB2;have q6:=hw2.1;have l2:=hw2.2.1;have l4:=hw2.2.2.2.2.2)
    |(refine step_append_lies _ rfl (.tmp 18) (.tmp 22) 135 rfl (w.heap.size+4) 137 iT (.agg #[.int .i64 0,.string ⟨#[]⟩,.int .u64 0,.int .u64 0,.int .u64 0,.int .u64 0,.slice none 0 0,.int .i64 0,.slice none 0 0,.int .i64 0]) 10 120 Tryz.underlying135 hiT hzT0 hzT1 hzT2 rfl m0 (.slice sa j sc) j xs (by rfl) (hw2.2.2.1.alloc _) ⟨w2.heap.size,0,none⟩ 1 1 [.int .i64 k2,.string T2,.int .u64 a2,.int .u64 b2,.int .u64 c2,.int .u64 d2,.slice so2 n2 cap2,.int .i64 p2,.slice po2 pn2 pc2,.int .i64 ll2] (by rfl) rfl (z6z _ _ _ _ _ _ _ _ _ _ _ _) (z6A _ _ _ _ _ _ _ _ _ _ _ _ _ _) m3 m1 m2 (y2B l4) (w2.heap.size+1) (World.size_alloc _ _) ?_;intro g6 cap6 w6 hown6 hgr6 hat6 hlt6;have hv6:=(hgr6.block (w.heap.size+3) (by rw[World.size_alloc];omega) HNe.out).trans ((Below.heap_alloc _ _ _ l2).trans hw2.2.2.2.1.m);have f6:=(Yy hv6).2.2.2.2.2.2.2.2.2.1;have c6:=(Yy hv6).1.2.2.2.2.2.2.2.2.1))
   all_goals
    have HEnd:=hid (y6u (acc:=s.take j) HS.out HO.out (by rw[List.length_take];omega) HR.out HB.out hw2.2.2.2.2.1 (Zv.kept (w':=w2) (Q:=fun g=>wr.heap.size<=g) (fun g cur hp _=>⟨rfl,Nat.le_trans (by rw[<-hZ1]at*;exact Nat.le_trans (Nat.le_of_lt l1) L0q) hp⟩) _ _ HQ2.out) H4.out hown6 hgr6 hat6);clear hown6 hgr6 hat6 hlt6 hv6 hw2 HQ2 HB2 HO HR HS H4 HB
    go_wp2_with fail
    obtain⟨e1,e2,e4,e5,e6⟩:=HEnd.out;refine⟨⟨j+1,_,_,by go_num,by omega,e1,e2,e4,?_,e6⟩,?_⟩
    ·rw[List.take_succ_eq_append_getElem hjs,<-HT.out]
     exact e5
    ·simp[intOf];omega
  ·have a0:decide ((j:Int)<(n:Int))=false:=by simp;omega
   have hjn':j=s.length:=by have:=HN.out;omega
   obtain⟨sa,sc,rfl⟩:=Bb HO.out;subst hjn';have hr:=HR.out;rw[List.take_length]at hr;have HFin:Hid (∀(W:World) (ld:Nat),ld=ldK A k s->Below w.heap.size w W->(∀g,w.heap.size+4<=g->g<wr.heap.size->W.heap[g]? =wr.heap[g]?)->MmA A (.mk k T a b c d s p) w (.returned (.agg #[.int .i64 k,.string T,.int .u64 a,.int .u64 b,.int .u64 c,.int .u64 d,.slice so n cap,.int .i64 p,.slice sa s.length sc,.int .i64 (ld:Nat)])) W):=fun W ld hld h1 h2=>y6v (by have:=HN.out;omega) hld HO.out hr h1 h2
   clear hr HR HO HC;have h4:=H4.out;obtain⟨⟨y0,y1,y2,y3,y4,y5,y6,y7⟩,yf⟩:=Qd h4.nd;have xg:=(Qk h4.g).1;have lg:=Qz h4.g;have lm:=Qz h4.m;by_cases hk:k=6
   ·subst hk
    have HLd:=hid (HL.out rfl wr HB.out);have HLk:Hid (Xb A s=ldK A 6 s):=hid rfl;clear HL h4
    go_wp2_with(first
     |(go_at_call 89;refine HLd.out.mono ?_;rintro e w5 ⟨rfl,hb5⟩;have h45:=H4.out.keep (fun g _ h=>hb5.block g h);have HB5:=hid (HB.out.trans (hb5.mono HB.out.size));have HK5:=hid (fun g (h:g<wr.heap.size)=>hb5.block g h);obtain⟨⟨q0,q1,q2,q3,q4,q5,q6,q7,q8,q9⟩,f0,f1,f2,f3,f4,f5,f6,f7,f8,f9⟩:=Yy h45.m;have hm9:=Qy h45.m 9 (.int .i64 (Xb A s:Nat));have hz9:=(Below.heap_setCell w5 ⟨w.heap.size+3,9,none⟩ (.int .i64 (Xb A s:Nat)) (w.heap.size+2) (by simp)).trans h45.z;obtain⟨⟨r0,r1,r2,r3,r4,r5,r6,r7,r8,r9⟩,-⟩:=Yy hm9;obtain⟨⟨u0,u1,u2,u3,u4,u5,u6,u7,u8,u9⟩,e0,e1,e2,e3,e4,e5,e6,e7,e8,e9⟩:=Yy hz9;have lm5:=Qz h45.m;have lm9:=Qz hm9;have lz9:=Qz hz9;have HZ9:Hid ((w5.setCell ⟨w.heap.size+1+1+1,9,none⟩ (.int .i64 (Xb A s:Nat))).heap[w.heap.size+1+1]? =some (.cells #[.int .i64 0,.string ⟨#[]⟩,.int .u64 0,.int .u64 0,.int .u64 0,.int .u64 0,.slice none 0 0,.int .i64 0,.slice none 0 0,.int .i64 0] 137)):=hid hz9;clear hm9 hz9 h45 hb5 HLd))
    have hP:=z6B (v0:=.int .i64 6) (v1:=.string T) (v2:=.int .u64 a) (v3:=.int .u64 b) (v4:=.int .u64 c) (v5:=.int .u64 d) (v6:=.slice so n cap) (v7:=.int .i64 p) (v8:=.slice sa s.length sc) (v9:=.int .i64 (Xb A s:Nat)) HZ9.out;obtain⟨⟨p0,p1,p2,p3,p4,p5,p6,p7,p8,p9⟩,-⟩:=Yy hP;unfold Od at p0 p1 p2 p3 p4 p5 p6 p7 p8 p9;refine bodyPost_ret (v:=.agg #[.int .i64 6,.string T,.int .u64 a,.int .u64 b,.int .u64 c,.int .u64 d,.slice so n cap,.int .i64 p,.slice sa s.length sc,.int .i64 (Xb A s:Nat)]) (by simp[results,Tryz.results60,go_sem,p0,p1,p2,p3,p4,p5,p6,p7,p8,p9]) rfl ?_;have hB6:=HB5.out.setCell (p:=⟨w.heap.size+1+1+1,9,none⟩) (by show w.heap.size<=w.heap.size+1+1+1;omega) (.int .i64 (Xb A s:Nat));refine HFin.out _ _ HLk.out (hB6.grown (Om _ (w.heap.size+1+1) (.int .i64 6) (.string T) (.int .u64 a) (.int .u64 b) (.int .u64 c) (.int .u64 d) (.slice so n cap) (.int .i64 p) (.slice sa s.length sc) (.int .i64 (Xb A s:Nat))) hB6.size (fun g e=>by have:=Option.some.inj e;omega)) (fun g h1 h2=> ?_);have h3:=HK5.out g h2;have h5:g<w5.heap.size:=by
     rcases Nat.lt_or_ge g w5.heap.size with h|h
     ·exact h
     ·rw[Array.getElem?_eq_none h,Array.getElem?_eq_getElem h2]at h3
      cases h3
    exact((Om _ (w.heap.size+1+1) (.int .i64 6) (.string T) (.int .u64 a) (.int .u64 b) (.int .u64 c) (.int .u64 d) (.slice so n cap) (.int .i64 p) (.slice sa s.length sc) (.int .i64 (Xb A s:Nat))).block g (by rw[World.size_setCell];exact h5) (fun e=>by have:=Option.some.inj e;omega)).trans ((Below.heap_setCell _ _ _ _ (fun e=>by simp at e;omega)).trans h3)
   ·have hk2:(k == 6)=false:=by simp[hk]
    have hk3:decide (k=6)=false:=by simp[hk]
    have HLk:Hid (0=ldK A k s):=by unfold ldK;rw[if_neg hk];exact hid rfl
    obtain⟨⟨r0,r1,r2,r3,r4,r5,r6,r7,r8,r9⟩,-⟩:=Yy h4.m;obtain⟨⟨u0,u1,u2,u3,u4,u5,u6,u7,u8,u9⟩,e0,e1,e2,e3,e4,e5,e6,e7,e8,e9⟩:=Yy h4.z;have lz:=Qz h4.z;have HZ9:Hid (wr.heap[w.heap.size+1+1]? =some (.cells #[.int .i64 0,.string ⟨#[]⟩,.int .u64 0,.int .u64 0,.int .u64 0,.int .u64 0,.slice none 0 0,.int .i64 0,.slice none 0 0,.int .i64 0] 137)):=hid h4.z;clear HL h4 hk
    go_wp2_with fail
    have hP:=z6B (v0:=.int .i64 k) (v1:=.string T) (v2:=.int .u64 a) (v3:=.int .u64 b) (v4:=.int .u64 c) (v5:=.int .u64 d) (v6:=.slice so n cap) (v7:=.int .i64 p) (v8:=.slice sa s.length sc) (v9:=.int .i64 0) HZ9.out;obtain⟨⟨p0,p1,p2,p3,p4,p5,p6,p7,p8,p9⟩,-⟩:=Yy hP;unfold Od at p0 p1 p2 p3 p4 p5 p6 p7 p8 p9;refine bodyPost_ret (v:=.agg #[.int .i64 k,.string T,.int .u64 a,.int .u64 b,.int .u64 c,.int .u64 d,.slice so n cap,.int .i64 p,.slice sa s.length sc,.int .i64 0]) (by simp[results,Tryz.results60,go_sem,p0,p1,p2,p3,p4,p5,p6,p7,p8,p9]) rfl ?_;refine HFin.out _ 0 HLk.out (HB.out.grown (Om _ (w.heap.size+1+1) (.int .i64 k) (.string T) (.int .u64 a) (.int .u64 b) (.int .u64 c) (.int .u64 d) (.slice so n cap) (.int .i64 p) (.slice sa s.length sc) (.int .i64 0)) HB.out.size (fun g e=>by have:=Option.some.inj e;omega)) (fun g h1 h2=> ?_);exact(Om _ (w.heap.size+1+1) (.int .i64 k) (.string T) (.int .u64 a) (.int .u64 b) (.int .u64 c) (.int .u64 d) (.slice so n cap) (.int .i64 p) (.slice sa s.length sc) (.int .i64 0)).block g h2 (fun e=>by have:=Option.some.inj e;omega)
end Go.Proofs.YtgmcjddjdidpjaaGreatDoor
