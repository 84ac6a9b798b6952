/- Lemmas for the last text. Conditions: those that each names. -/
import Derived.Test.YtgnkkgcgbeianaaGreatDoorVY14ToR1
import Derived.Test.YtgnkkgcgbeianaaGreatDoorVO6ToS3
import Derived.ProofKit
import Derived.OpenShut
import Derived.Laws.IdiomArrays
import Derived.Lib.SmallJoins
set_option linter.unusedVariables false
set_option maxRecDepth 100000
namespace Go.Proofs.YtgnkkgcgbeianaaGreatDoor
open Go.Proofs.Tryz
section
open Go.RowKit
structure Ly (L1 L2:List Tok):Prop where
 len:L2.length=L1.length
 same:∀k,tk3 (gL L2 k)=tk3 (gL L1 k)
 big:L1.length<=10000
def Rq(r1 r2:Pr):Prop:=match r1,r2 with
 | .inr (n,k),.inr (n',k')=>k'=k/\Sm n n'
 | .inl c,.inl c'=>c'.1=c.1
 |_,_=>False
theorem Rq.cases{t o:Pr}(h:Rq t o):(∃n y k,t=.inr (n,k)/\o=.inr (y,k)/\Sm n y)∨(∃c r,t=.inl c/\o=.inl r/\r.1=c.1):=by
 cases t with
 |inl c=>cases o with
  |inl r=>exact .inr ⟨c,r,rfl,rfl,h⟩
  |inr q=>exact h.elim
 |inr p=>cases o with
  |inl r=>exact h.elim
  |inr q=>
   obtain⟨n,k⟩:=p;obtain⟨y,k'⟩:=q;obtain⟨A,D⟩:=h;subst A;exact .inl ⟨n,y,k',rfl,rfl,D⟩
section
variable {L1 L2:List Tok}
theorem Ly.kd(h:Ly L1 L2)(k:Nat):(gL L2 k).1=(gL L1 k).1/\(gL L2 k).2.1=(gL L1 k).2.1/\(gL L2 k).2.2.1=(gL L1 k).2.2.1:=by
 have:=h.same k;unfold tk3 at this;simp only[Prod.mk.injEq]at this;exact this
theorem Ly.sg(h:Ly L1 L2)(k:Nat):sgT (gL L2 k)=sgT (gL L1 k):=y0b (h.same k)
theorem Ly.wr(h:Ly L1 L2)(k:Nat):wrC (gL L2 k)=wrC (gL L1 k):=by unfold wrC;rw[(h.kd k).1]
theorem Ly.hd(h:Ly L1 L2)(k:Nat):hdB L2 k=hdB L1 k:=by
 have hl:=h.len;rcases Nat.lt_or_ge (k+1) L1.length with o|o
 ·rw[z2n L1 k o,z2n L2 k (by omega),(h.kd k).1,(h.kd (k+1)).1]
 ·unfold hdB
  rw[List.getElem?_eq_none (show L1.length<=k+1 by omega),List.getElem?_eq_none (show L2.length<=k+1 by omega)];cases L2[k]? <;>cases L1[k]? <;>rfl
theorem Ly.pt(h:Ly L1 L2)(k:Nat):ptB L2 k (gL L2 k)=ptB L1 k (gL L1 k):=by
 unfold ptB;rw[(h.kd k).1,(h.kd k).2.1,h.hd k]
theorem Wb(h:Ly L1 L2){o r:Nat->Pr}(t:∀k,Rq (o k) (r k))(k:Nat):Rq (Uq L1 o k) (Uq L2 r k):=by
 have q:=h.kd k;unfold Uq;simp only[q.1,q.2.1,q.2.2,h.hd k,h.sg k,h.wr k];split
 ·exact⟨rfl,Fb Fh (by simp)⟩
 ·split
  ·exact⟨rfl,Fb Fh (by simp)⟩
  ·split
   ·exact⟨rfl,Fb Fh (by simp)⟩
   ·split
    ·exact⟨rfl,Fb Fh (by simp)⟩
    ·split
     ·exact t k
     ·exact(rfl:wrC (gL L1 k)=wrC (gL L1 k))
theorem Wh(h:Ly L1 L2){o r:Pr}(y:Rq o r):Rq (Jf L1 o) (Jf L2 r):=by
 rcases y.cases with⟨n,D,k,rfl,rfl,t⟩|⟨c,E,rfl,rfl,A⟩
 ·unfold Jf
  simp only[h.sg k];split
  ·exact⟨rfl,t⟩
  ·exact⟨rfl,Fb (Ej t) (by simp)⟩
 ·exact A
theorem z4e{kd p p':Nat}{h o:Pr}(r:Rq h o):Rq (ovS kd p h) (ovS kd p' o):=by
 rcases r.cases with⟨n,A,k,rfl,rfl,t⟩|⟨c,D,rfl,rfl,y⟩
 ·exact⟨rfl,Fb (Ej t) (by simp)⟩
 ·exact y
theorem y2I(h:Ly L1 L2){r t:Nat->Pr}(o:∀k,Rq (r k) (t k))(k:Nat):Rq (Vf L1 r k) (Vf L2 t k):=by
 unfold Vf;simp only[h.sg k];split
 ·exact z4e (Wh h (Wb h o (k+1)))
 ·split
  ·exact z4e (Wh h (Wb h o (k+1)))
  ·exact Wh h (Wb h o k)
theorem Wm(h:Ly L1 L2){t y:Nat->Pr}(A:∀k,Rq (t k) (y k)):∀(f k:Nat) (a1 a2:List Nd),SmL a1 a2->a1.length+f<=1000000->Rq (Zy L1 t f k a1) (Zy L2 y f k a2)
 |0,k,a1,a2,_,_=>by
  rw[Zy,Zy];exact(rfl:(0:Nat)=0)
 |f+1,k,a1,a2,ha,hl=>by
  have E:=y2I h A k;rw[Zy,Zy,h.pt k];split
  ·rcases E.cases with⟨n,G,k',o,r,I⟩|⟨c,c',o,r,U⟩
   ·rw[o,r]
    exact Wm h A f k' (a1++[n]) (a2++[G]) (Rb ha I) (by simp;omega)
   ·rw[o,r]
    exact U
  ·have D:=ha.len
   have V:a2.isEmpty=a1.isEmpty:=by
    cases a1 with
    |nil=>cases a2 with
     |nil=>rfl
     |cons _ _=>simp at D
    |cons _ _=>cases a2 with
     |nil=>simp at D
     |cons _ _=>rfl
   rw[V];split
   ·exact⟨rfl,Fb Fh (by simp)⟩
   ·rename_i Y
    exact⟨rfl,z2m 6 ha (by omega) (fun Z=>Y (by rw[Z];rfl))⟩
theorem z4f(h:Ly L1 L2){t y:Nat->Pr}(A:∀k,Rq (t k) (y k)):∀(f k:Nat) (a1 a2:List Nd),SmL a1 a2->a1≠[]->a1.length+f<=1000000->Rq (Xq L1 t f k a1) (Xq L2 y f k a2)
 |0,k,a1,a2,_,_,_=>by
  rw[Xq,Xq];exact(rfl:(0:Nat)=0)
 |f+1,k,a1,a2,ha,hne,hl=>by
  have U:=h.big;have D:=Wm h A L1.length (k+1) [] [] Fh (by simp;omega);rw[Xq,Xq,h.len];simp only[h.sg k];split
  ·rcases D.cases with⟨n,E,k',o,r,G⟩|⟨c,V,o,r,I⟩
   ·rw[o,r]
    exact z4f h A f k' (a1++[n]) (a2++[E]) (Rb ha G) (by simp) (by simp;omega)
   ·rw[o,r]
    exact I
  ·exact⟨rfl,z2m 7 ha (by omega) hne⟩
theorem z4g(h:Ly L1 L2){t y:Nat->Pr}(A:∀k,Rq (t k) (y k))(k:Nat):Rq (chS L1 t k) (chS L2 y k):=by
 have U:=h.big;have D:=Wm h A L1.length k [] [] Fh (by simp;omega);unfold chS;rw[h.len];rcases D.cases with⟨n,E,k',o,r,G⟩|⟨c,V,o,r,I⟩
 ·rw[o,r]
  unfold chE;simp only;rw[h.len];exact z4f h A L1.length k' [n] [E] (Ej G) (by simp) (by simp;omega)
 ·rw[o,r]
  exact I
theorem z4h(h:Ly L1 L2):∀(d k:Nat),Rq (Zc L1 d k) (Zc L2 d k)
 |0,k=>by
  rw[Zc,Zc];exact(rfl:(2:Nat)=2)
 |d+1,k=>by
  have t:=z4g h (z4h h d) (k+1);rw[Zc,Zc];rcases t.cases with⟨n,D,k',o,r,y⟩|⟨c,E,o,r,A⟩
  ·rw[o,r]
   unfold My;simp only[h.sg k',h.wr k'];split
   ·exact⟨rfl,y⟩
   ·exact(rfl:wrC (gL L1 k')=wrC (gL L1 k'))
  ·rw[o,r]
   exact A
def Ru(r1 r2:(Nat×Nat) ⊕ (Rl×Nat)):Prop:=(∃x y k,r1=.inr (x,k)/\r2=.inr (y,k)/\RlS x y)∨(∃c c',r1=.inl c/\r2=.inl c'/\c'.1=c.1)
theorem z4i(h:Ly L1 L2)(ru k:Nat):Ru (ruS L1 ru k) (ruS L2 ru k):=by
 have t:=z4g h (z4h h 24) (k+2);unfold ruS;rw[(h.kd k).1,(h.kd (k+1)).1,h.wr k,h.wr (k+1)];split
 ·exact .inr ⟨_,_,rfl,rfl,rfl⟩
 ·split
  ·exact .inr ⟨_,_,rfl,rfl,rfl⟩
  ·split
   ·exact .inr ⟨_,_,rfl,rfl,rfl⟩
   ·rcases t.cases with⟨n,D,k',o,r,y⟩|⟨c,E,o,r,A⟩
    ·rw[o,r]
     exact .inl ⟨_,_,_,rfl,rfl,(h.kd k).2.1,y⟩
    ·rw[o,r]
     exact .inr ⟨_,_,rfl,rfl,A⟩
def Rg(r1 r2:(Nat×Nat) ⊕ List Rl):Prop:=(∃x y,r1=.inr x/\r2=.inr y/\RlL x y)∨(∃c c',r1=.inl c/\r2=.inl c'/\c'.1=c.1)
theorem z4j(h:Ly L1 L2):∀(f k:Nat) (a1 a2:List Rl),RlL a1 a2->Rg (Xx L1 f k a1) (Xx L2 f k a2)
 |0,k,a1,a2,_=>by
  rw[Xx,Xx];exact .inr ⟨_,_,rfl,rfl,rfl⟩
 |f+1,k,a1,a2,ha=>by
  rw[Xx,Xx,(h.kd k).1,ha.len];split
  ·exact .inl ⟨_,_,rfl,rfl,ha⟩
  ·rcases z4i h a1.length k with⟨x,y,k',o,r,t⟩|⟨c,D,o,r,A⟩
   ·rw[o,r]
    exact z4j h f k' (a1++[x]) (a2++[y]) (ha.app (by rw[RlL];exact⟨t,by rw[RlL];trivial⟩))
   ·rw[o,r]
    exact .inr ⟨_,_,rfl,rfl,A⟩
theorem y2J(h:Ly L1 L2):Rg (Vg L1) (Vg L2):=by
 unfold Vg;rcases z4i h 0 0 with⟨x,y,k',o,r,t⟩|⟨c,D,o,r,A⟩
 ·rw[o,r]
  unfold z2e;simp only;rw[h.len];exact z4j h L1.length k' [x] [y] (by rw[RlL];exact⟨t,by rw[RlL];trivial⟩)
 ·rw[o,r]
  exact .inr ⟨_,_,rfl,rfl,A⟩
end
end
open Go.RowKit Go.Shelf
theorem z4k{S:ByteArray}{rs:List Rl}(h:Vb S=.inr rs):∃m,tks S (sb S 0) []=.inr m/\(∀t∈m,Mb t)/\m.length<=S.size/\Vg (m++[(6,{data:=#[]},0,S.size)])=.inr rs:=by
 unfold Vb at h;cases o:tkS S with
 |inl c=>rw[o]at h;cases h
 |inr L=>
  rw[o]at h;obtain⟨m,r,rfl⟩:=z2A o;have y:=Ry _ _ _ _ _ r (fun t o=>by simp at o);refine⟨m,r,y.1,?_,h⟩;have A:=y.2;simp at A;omega
theorem z4l(L:List Tok):∀(f k:Nat) (acc rs:List Rl),Xx L f k acc=.inr rs->acc.length<=64->rs.length<=64/\acc.length<=rs.length
 |0,_,_,_,h,_=>by rw[Xx]at h;cases h
 |f+1,k,acc,rs,h,ha=>by
  rw[Xx]at h;split at h
  ·simp only[Sum.inr.injEq]at h;subst h;exact⟨ha,Nat.le_refl _⟩
  ·split at h
   ·cases h
   ·rename_i x k' r
    have:=z2f r;have o:=z4l L f k' (acc++[x]) rs h (by simp;omega);rw[List.length_append]at o;exact⟨o.1,by omega⟩
theorem Wp{S:ByteArray}{rs:List Rl}(h:Vb S=.inr rs):rs.length<=64/\1<=rs.length:=by
 obtain⟨m,_,_,_,o⟩:=z4k h;unfold Vg at o;cases hr:ruS (m++[(6,{data:=#[]},0,S.size)]) 0 0 with
 |inl c=>rw[hr]at o;cases o
 |inr q=>
  obtain⟨x,k⟩:=q;rw[hr]at o;exact z4l _ _ _ _ _ o (by simp)
theorem Wc:∀{s:List Rl},RlL s s->∀x∈s,Sm x.2.1 x.2.1
 |[],_,x,hx=>by simp at hx
 |a::r,h,x,hx=>by
  rw[RlL]at h;rcases List.mem_cons.1 hx with rfl|hx
  ·exact h.1.2
  ·exact Wc h.2 x hx
theorem z4m{S:ByteArray}{rs:List Rl}(r:S.size<=8192)(h:Vb S=.inr rs):RlL rs rs:=by
 obtain⟨m,_,_,hl,o⟩:=z4k h;rcases y2J (L1:=m++[(6,{data:=#[]},0,S.size)]) ⟨rfl,fun _=>rfl,by simp;omega⟩with⟨x,y,e1,e2,hs⟩|⟨c,c',e1,_,_⟩
 ·rw[o]at e1 e2
  cases e1;cases e2;exact hs
 ·rw[o]at e1
  cases e1
def toG(rs:List Rl):List Rr:=rs.map fun x=>(x.1,toR x.2.1,(x.2.2:Int))
theorem Gm:∀rs:List Rl,TqR (toG rs) rs
 |[]=>by unfold toG;rw[List.map_nil,TqR];trivial
 |x::r=>by
  have:=Gm r;unfold toG at this ⊢;rw[List.map_cons,TqR];exact⟨rfl,z3Z _,this⟩
theorem z4n{W:World}{B g n t:Nat}{rs:List Rl}(h:RoR B (.slice (some ⟨g,0,none⟩) n t) rs W)(y:∀x∈rs,Sm x.2.1 x.2.1)(I:rs.length<=64):Qf W W.heap.size (some ⟨g,0,none⟩) n (toG rs):=by
 have hl:n=rs.length:=h.len;have U:(toG rs).length=rs.length:=by unfold toG;rw[List.length_map]
 refine⟨by omega,by unfold maxLen;omega,fun j V=> ?_⟩;have r:j<rs.length:=by omega
 obtain⟨c,⟨Y,rfl,A⟩,o⟩:=h.get j r;have e:(toG rs)[j]=(rs[j].1,toR rs[j].2.1,(rs[j].2.2:Int)):=List.getElem_map _;have rt:=z4b _ _ (y _ (List.getElem_mem r)) A;obtain⟨k,T,a,b,c,d,D,E,G,p,rfl⟩:=rt.shape;refine⟨g,0,rfl,h.lt,?_⟩;rw[e,Nat.zero_add];exact⟨k,T,a,b,c,d,D,E,G,p,rt,o 0 _ rfl,o 1 _ rfl,o 2 _ rfl,o 3 _ rfl,o 4 _ rfl,o 5 _ rfl,o 6 _ rfl,o 7 _ rfl,o 8 _ rfl,o 9 _ rfl⟩
theorem Hm:∀{rs:List Rr} {ns:List Rl},TqR rs ns->(∀x∈ns,Ruk Nmq x)->rs.all okR=true/\RgZ rs
 |[],[],_,_=>⟨rfl,fun x hx=>by simp at hx⟩
 |[],_::_,h,_=>by simp[TqR]at h
 |_::_,[],h,_=>by simp[TqR]at h
 |x::r,y::q,h,hx=>by
  rw[TqR]at h;obtain⟨A,D⟩:=Hm h.2.2 (fun z o=>hx z (by simp[o]));obtain⟨E,G,I⟩:=hx y (by simp);obtain⟨U,V⟩:=Wg _ _ h.2.1 G I;have t:nmS x.1=true:=by rw[<-h.1];exact E
  refine⟨by rw[List.all_cons,A];unfold okR;rw[t,U];rfl,fun z o=> ?_⟩;rcases List.mem_cons.1 o with rfl|o
  ·exact⟨by have:=Hk t;omega,V⟩
  ·exact D z o
theorem Wl{rs:List Rr}{ns:List Rl}(h:TqR rs ns)(hx:∀x∈ns,Ruk Nmq x)(o:1<=ns.length)(r:ns.length<=64):okG rs=true:=by
 unfold okG;rw[(Hm h hx).1,decide_eq_true (by have:=h.len;omega),decide_eq_true (p:=rs.length<=64) (by have:=h.len;omega)];rfl
theorem y2K{S:ByteArray}{rs:List Rl}(r:S.size<=8192)(h:Vb S=.inr rs)(B g n o:Nat)(W:World)(t:RoR B (.slice (some ⟨g,0,none⟩) n o) rs W)(y:TabIs W):
  Calls prog 231 #[.agg #[.slice (some ⟨g,0,none⟩) n o]] W fun e w'=>e=.returned (Gh rs)/\Below W.heap.size W w':=by
 have hx:∀x∈rs,Ruk Nmq x:=fun x hx=>(Tg h x hx).1
 have hl:=Wp h;exact Hh _ n o (toG rs) rs W.heap.size W (Hm (Gm rs) hx).2 (z4n t (Wc (z4m r h)) hl.1) L0q (Wl (Gm rs) hx hl.2 hl.1) (Gm rs) hx y
section
open Go.ChangeShapes Go.WideShapes Go.ChangeAt
mutual
def RtU:RT->Prop
 | .mk _ _ a b c d s _=>(0<=a/\a<18446744073709551616)/\(0<=b/\b<18446744073709551616)/\(0<=c/\c<18446744073709551616)/\(0<=d/\d<18446744073709551616)/\Yz s
def Yz:List RT->Prop
 |[]=>True
 |t::r=>RtU t/\Yz r
end
theorem Tryz.structNode:Tryz.prog.underlying 81=some (.struct (Tryz.prog.fieldsOf 81)):=by kernel_rfl
theorem Tryz.fieldsNode:(Tryz.prog.fieldsOf 81).toList.map (fun f=>(f.name,f.type,f.offset))=[("Kind",3,0),("Text",9,1),("Class",54,2),("Subs",79,6),("At",3,7)]:=by kernel_rfl
theorem Tryz.structRule:Tryz.prog.underlying 83=some (.struct (Tryz.prog.fieldsOf 83)):=by kernel_rfl
theorem Tryz.fieldsRule:(Tryz.prog.fieldsOf 83).toList.map (fun f=>(f.name,f.type,f.offset))=[("Name",9,0),("Body",81,1),("At",3,9)]:=by kernel_rfl
theorem Tryz.structGram:Tryz.prog.underlying 43=some (.struct (Tryz.prog.fieldsOf 43)):=by kernel_rfl
theorem Tryz.fieldsGram:(Tryz.prog.fieldsOf 43).toList.map (fun f=>(f.name,f.type,f.offset))=[("Rules",41,0)]:=by kernel_rfl
theorem Tryz.cellsNode:Tryz.prog.cellsOf 81=8:=by kernel_rfl
theorem Tryz.cellsRule:Tryz.prog.cellsOf 83=10:=by kernel_rfl
theorem Tryz.cellsGram:Tryz.prog.cellsOf 43=1:=by kernel_rfl
theorem Tryz.cellsCls:Tryz.prog.cellsOf 54=4:=by kernel_rfl
theorem Tryz.cellsInt:Tryz.prog.cellsOf 3=1:=by kernel_rfl
theorem Tryz.cellsStr:Tryz.prog.cellsOf 9=1:=by kernel_rfl
theorem Tryz.cellsNodes:Tryz.prog.cellsOf 79=1:=by kernel_rfl
theorem Tryz.cellsRules:Tryz.prog.cellsOf 41=1:=by kernel_rfl
theorem Tryz.cellsWord:Tryz.prog.cellsOf 52=1:=by kernel_rfl
theorem Tryz.arrayCls:Tryz.prog.underlying 54=some (.array 4 52):=by kernel_rfl
theorem Tryz.sliceNodes:Tryz.prog.underlying 79=some (.slice 81):=by kernel_rfl
theorem Tryz.sliceRules:Tryz.prog.underlying 41=some (.slice 83):=by kernel_rfl
theorem Gp{o:Array Field}{l:List (String×TypeId×Nat)}(h:o.toList.map (fun f=>(f.name,f.type,f.offset))=l)(i:Nat)(x:String×TypeId×Nat)(hx:l[i]? =some x):∃f,o[i]? =some f/\f.type=x.2.1/\f.offset=x.2.2:=by
 rw[<-h,List.getElem?_map]at hx;cases hf:o.toList[i]? with
 |none=>rw[hf]at hx;cases hx
 |some f=>
  rw[hf]at hx;simp only[Option.map_some,Option.some.injEq]at hx;refine⟨f,by rw[<-Array.getElem?_toList];exact hf,?_,?_⟩
  ·rw[<-hx]
  ·rw[<-hx]
theorem z0a{o:Array Field}{l:List (String×TypeId×Nat)}(h:o.toList.map (fun f=>(f.name,f.type,f.offset))=l):o.size=l.length:=by
 rw[<-h,List.length_map,Array.length_toList]
theorem z4o{W:World}{B g:Nat}:∀(n o:Nat),(∀i,i<n->∃t r,Qv W B t r/\RtZ t/\RtU t/\∀j u,r[j]? =some u->W.cell? ⟨g,o+i*8+j,none⟩=some u)->∃s:List RT,s.length=n/\Zx W B g o s/\Xl s/\Yz s
 |0,o,_=>⟨[],rfl,by rw[Zx];trivial,by rw[Xl];trivial,by rw[Yz];trivial⟩
 |n+1,o,h=>by
  obtain⟨t,r,y,A,D,E⟩:=h 0 (by omega);obtain⟨s,I,U,V,Y⟩:=z4o n (o+8) (fun i Z=>by
   obtain⟨t,r,y,A,D,E⟩:=h (i+1) (by omega);refine⟨t,r,y,A,D,fun j u G=> ?_⟩;have:=E j u G;rw[show o+(i+1)*8+j=o+8+i*8+j by omega]at this;exact this)
  refine⟨t::s,by simp[I],?_,by rw[Xl];exact⟨A,V⟩,by rw[Yz];exact⟨D,Y⟩⟩;rw[Zx];refine⟨⟨r,y,fun j u G=> ?_⟩,U⟩;have:=E j u G;rw[Nat.zero_mul,Nat.add_zero]at this;exact this
section
variable {H:Type} {enc:TypeId×Value->H} {W:World} {sp:Nat->Bool} {hl:Bool}
theorem z4p{a:Addr}{n:Nat}{r:List Value}(h:W.cells? 0 (a.add (0*n)) n=some r)(t:0<n):a.spot=none:=by
 obtain⟨_,D,y⟩:=World.cells?_some h;have o:=y 0 t;rw[Deep.add_add,Nat.zero_mul]at o;obtain⟨c,A⟩:∃c,r[0]? =some c:=⟨_,List.getElem?_eq_getElem (by omega)⟩;rw[A]at o;have:=World.cell?_spot o;simpa [Addr.add]using this
theorem Hc{b o k n:Nat}{r:List Value}(h:W.cells? 0 ((⟨b,o,none⟩:Addr).add k) n=some r)(G:0<n):b<W.heap.size/\r.length=n/\∀j u,r[j]? =some u->W.cell? ⟨b,o+k+j,none⟩=some u:=by
 obtain⟨_,t,D⟩:=World.cells?_some h;have y:∀j u,r[j]? =some u->W.cell? ⟨b,o+k+j,none⟩=some u:=fun j u A=>by
  have E:j<n:=by rw[<-t];exact(List.getElem?_eq_some_iff.1 A).1
  have:=D j E;rw[Deep.add_add,Addr.add_lit,A]at this;rw[Nat.add_assoc];exact this
 exact⟨World.block_lt_of_cell? W ⟨b,o+k+0,none⟩ (y 0 _ (List.getElem?_eq_getElem (by omega))),t,y⟩
theorem z4q:∀(N fuel:Nat) (D:List Value) (x:DataW H×List MemPlace),fuel<N->DataW.trod enc prog W 0 sp hl fuel 81 D=some x->∃t,Qv W W.heap.size t D/\RtZ t/\RtU t
 |0,_,_,_,h,_=>by omega
 |N+1,fuel,D,x,hN,h=>by
  obtain⟨xs,n,rfl,rfl,Y,Z,r⟩:=DataW.trod_struct Tryz.structNode h;rw[Tryz.cellsNode]at Y;rw[z0a Tryz.fieldsNode]at Z
  match D,Y with
  |[c0,c1,c2,c3,c4,c5,c6,c7],_=>
  match xs,Z with
  |[y0,y1,y2,y3,y4],_=>
  obtain⟨f0,g0,t0,o0⟩:=Gp Tryz.fieldsNode 0 _ rfl;obtain⟨f1,g1,t1,o1⟩:=Gp Tryz.fieldsNode 1 _ rfl;obtain⟨f2,g2,t2,o2⟩:=Gp Tryz.fieldsNode 2 _ rfl;obtain⟨f3,g3,t3,o3⟩:=Gp Tryz.fieldsNode 3 _ rfl;obtain⟨f4,g4,t4,o4⟩:=Gp Tryz.fieldsNode 4 _ rfl;have r0:=r 0 f0 g0;have r1:=r 1 f1 g1;have r2:=r 2 f2 g2;have r3:=r 3 f3 g3;have r4:=r 4 f4 g4;simp only[t0,o0,t1,o1,t2,o2,t3,o3,t4,o4,Tryz.cellsInt,Tryz.cellsStr,Tryz.cellsCls,Tryz.cellsNodes,List.drop_zero,List.drop_succ_cons,List.take_succ_cons,List.take_zero,List.getElem?_cons_zero,List.getElem?_cons_succ]at r0 r1 r2 r3 r4;obtain⟨k,e0,_,w0⟩:=DataW.trod_int Tryz.underlying3 r0;obtain⟨T,e1,_,wT⟩:=DataW.trod_string Tryz.underlying9 r1;obtain⟨p,e7,_,w7⟩:=DataW.trod_int Tryz.underlying3 r4;obtain⟨z0,z1,z2,z3,m,_,q0,q1,q2,q3⟩:=trod_array4 Tryz.arrayCls Tryz.cellsWord r2;obtain⟨a,ea,_,wa⟩:=DataW.trod_int Tryz.underlying52 q0;obtain⟨b,eb,_,wb⟩:=DataW.trod_int Tryz.underlying52 q1;obtain⟨c,ec,_,wc⟩:=DataW.trod_int Tryz.underlying52 q2;obtain⟨d,ed,_,af⟩:=DataW.trod_int Tryz.underlying52 q3;simp only[List.cons.injEq,and_true]at e0 e1 e7 ea eb ec ed;subst e0 e1 e7 ea eb ec ed;have ba:=bounds_u64 wa;have bb:=bounds_u64 wb;have bc:=bounds_u64 wc;have bd:=bounds_u64 af;have G:T.size<=9223372036854775807:=by unfold maxLen at wT;exact wT
  rcases DataW.trod_slice Tryz.sliceNodes r3 with⟨A,_⟩|⟨ad,len,aa,aj,rest,m2,ak,A,_,_,al,am,ao,ag,_⟩
  ·simp only[List.cons.injEq,and_true]at A
   subst A;refine⟨.mk k T a b c d [] p,?_,?_,?_⟩
   ·rw[Qv]
    exact⟨none,0,rfl,.inl rfl⟩
   ·rw[RtZ,Xl]
    exact⟨G,trivial⟩
   ·rw[RtU,Yz]
    exact⟨by omega,by omega,by omega,by omega,trivial⟩
  ·simp only[List.cons.injEq,and_true]at A
   subst A;have ab:∀i,i<len->∃o y,W.cells? 0 (ad.add (i*8)) 8=some o/\DataW.trod enc prog W 0 sp hl m2 81 o=some y:=fun i I=>by
    have h1:=ag i I;rw[List.getElem?_eq_getElem (by omega)]at h1;obtain⟨o,E,U⟩:=Option.bind_eq_some_iff.1 h1;rw[Tryz.cellsNode]at E;exact⟨o,_,E,U⟩
   obtain⟨g,V,ah⟩:=ad;by_cases h0:len=0
   ·subst h0
    refine⟨.mk k T a b c d [] p,?_,?_,?_⟩
    ·rw[Qv]
     exact⟨_,aa,rfl,.inl rfl⟩
    ·rw[RtZ,Xl]
     exact⟨G,trivial⟩
    ·rw[RtU,Yz]
     exact⟨by omega,by omega,by omega,by omega,trivial⟩
   obtain⟨ap,_,ac,_⟩:=ab 0 (by omega);obtain rfl:ah=none:=z4p ac (by omega);obtain⟨ai,_,_⟩:=Hc ac (by omega);obtain⟨s,l1,l2,l3,l4⟩:=z4o len V (fun i I=>by
    obtain⟨o,y,E,U⟩:=ab i I;obtain⟨_,_,s4⟩:=Hc E (by omega);obtain⟨t,i1,i2,i3⟩:=z4q N m2 o _ (by omega) U;exact⟨t,o,i1,i2,i3,s4⟩)
   have ae:Qb s=len:=by rw[Xc,l1]
   refine⟨.mk k T a b c d s p,?_,?_,?_⟩
   ·rw[Qv]
    refine⟨some ⟨g,V,none⟩,aa,by rw[ae],.inr ⟨?_,g,V,rfl,ai,by rw[ae];omega,l2⟩⟩;cases s with
    |nil=>exact absurd l1.symm h0
    |cons _ _=>rfl
   ·rw[RtZ]
    exact⟨G,l3⟩
   ·rw[RtU]
    exact⟨by omega,by omega,by omega,by omega,l4⟩
def RgU(rs:List Rr):Prop:=∀x∈rs,RtU x.2.1
theorem y2L{fuel:Nat}{A:List Value}{x:DataW H×List MemPlace}(h:DataW.trod enc prog W 0 sp hl fuel 83 A=some x):
  ∃r:Rr,(∃k T a b c d o n y p,Qv W W.heap.size r.2.1 (r8 k T a b c d o n y p)/\A=.string r.1::(r8 k T a b c d o n y p++[.int .i64 r.2.2]))/\r.1.size<=9223372036854775807/\RtZ r.2.1/\RtU r.2.1:=by
 obtain⟨xs,n,rfl,rfl,E,G,D⟩:=DataW.trod_struct Tryz.structRule h;rw[Tryz.cellsRule]at E;rw[z0a Tryz.fieldsRule]at G
 match A,E with
 |[c0,c1,c2,c3,c4,c5,c6,c7,c8,c9],_=>
 match xs,G with
 |[y0,y1,y2],_=>
 obtain⟨f0,g0,t0,o0⟩:=Gp Tryz.fieldsRule 0 _ rfl;obtain⟨f1,g1,t1,o1⟩:=Gp Tryz.fieldsRule 1 _ rfl;obtain⟨f2,g2,t2,o2⟩:=Gp Tryz.fieldsRule 2 _ rfl;have I:=D 0 f0 g0;have U:=D 1 f1 g1;have V:=D 2 f2 g2;simp only[t0,o0,t1,o1,t2,o2,Tryz.cellsInt,Tryz.cellsStr,Tryz.cellsNode,List.drop_zero,List.drop_succ_cons,List.take_succ_cons,List.take_zero,List.getElem?_cons_zero,List.getElem?_cons_succ]at I U V;obtain⟨M,Y,_,Z⟩:=DataW.trod_string Tryz.underlying9 I;obtain⟨q,e9,_,_⟩:=DataW.trod_int Tryz.underlying3 V;obtain⟨t,i1,i2,i3⟩:=z4q _ n _ _ (Nat.lt_succ_self _) U;simp only[List.cons.injEq,and_true]at Y e9;subst Y e9;obtain⟨k,T,a,b,c,d,o,n1,y,p,e⟩:=i1.shape;refine⟨(M,t,q),⟨k,T,a,b,c,d,o,n1,y,p,by rw[<-e];exact i1,?_⟩,by unfold maxLen at Z;exact Z,i2,i3⟩;rw[<-e];rfl
theorem z4r{fuel:Nat}{I:Option Addr}{n af:Nat}{x:DataW H×List MemPlace}(h:DataW.trod enc prog W 0 sp hl fuel 41 [.slice I n af]=some x):
  ∃rs,Qf W W.heap.size I n rs/\RgZ rs/\RgU rs:=by
 rcases DataW.trod_slice Tryz.sliceRules h with⟨D,_⟩|⟨Z,len,am,ao,rest,m2,ap,D,_,_,aq,ar,au,ag,_⟩
 ·simp only[List.cons.injEq,and_true,Value.slice.injEq]at D
  obtain⟨rfl,rfl,rfl⟩:=D;exact⟨[],⟨rfl,by unfold maxLen;omega,fun j E=>by simp at E⟩,fun x hx=>by simp at hx,fun x hx=>by simp at hx⟩
 ·simp only[List.cons.injEq,and_true,Value.slice.injEq]at D
  obtain⟨rfl,rfl,rfl⟩:=D;have aa:∀i,i<n->∃G y,W.cells? 0 (Z.add (i*10)) 10=some G/\DataW.trod enc prog W 0 sp hl m2 83 G=some y:=fun i t=>by
   have U:=ag i t;rw[List.getElem?_eq_getElem (by omega)]at U;obtain⟨G,A,Y⟩:=Option.bind_eq_some_iff.1 U;rw[Tryz.cellsRule]at A;exact⟨G,_,A,Y⟩
  obtain⟨g,ab,ah⟩:=Z;by_cases h0:n=0
  ·subst h0
   exact⟨[],⟨rfl,by unfold maxLen;omega,fun j E=>by simp at E⟩,fun x hx=>by simp at hx,fun x hx=>by simp at hx⟩
  obtain⟨av,_,ac,_⟩:=aa 0 (by omega);obtain rfl:ah=none:=z4p ac (by omega);obtain⟨ai,_,_⟩:=Hc ac (by omega);have aj:∀i,∃r:Rr,i<n->Rk W W.heap.size g (ab+i*10) r/\r.1.size<=9223372036854775807/\RtZ r.2.1/\RtU r.2.1:=fun i=>by
   by_cases t:i<n
   ·obtain⟨G,y,A,Y⟩:=aa i t
    obtain⟨_,_,o⟩:=Hc A (by omega);obtain⟨r,⟨k,T,a,b,c,d,I,n1,ak,p,i1,rfl⟩,i2,i3,i4⟩:=y2L Y;exact⟨r,fun _=>⟨⟨k,T,a,b,c,d,I,n1,ak,p,i1,o 0 _ rfl,o 1 _ rfl,o 2 _ rfl,o 3 _ rfl,o 4 _ rfl,o 5 _ rfl,o 6 _ rfl,o 7 _ rfl,o 8 _ rfl,o 9 _ rfl⟩,i2,i3,i4⟩⟩
   ·exact⟨(⟨#[]⟩,.mk 0 ⟨#[]⟩ 0 0 0 0 [] 0,0),fun h=>absurd h t⟩
  obtain⟨f,V⟩:=Classical.axiomOfChoice aj;have ae:∀x∈(List.range n).map f,∃i,i<n/\f i=x:=fun x hx=>by
   obtain⟨i,U,A⟩:=List.mem_map.1 hx;exact⟨i,List.mem_range.1 U,A⟩
  refine⟨(List.range n).map f,⟨by simp,by omega,fun j E=> ?_⟩,fun x hx=> ?_,fun x hx=> ?_⟩
  ·have al:j<n:=by simpa using E
   have e:((List.range n).map f)[j]=f j:=by rw[List.getElem_map,List.getElem_range]
   rw[e];exact⟨g,ab,rfl,ai,(V j al).1⟩
  ·obtain⟨i,t,rfl⟩:=ae x hx
   exact⟨(V i t).2.1,(V i t).2.2.1⟩
  ·obtain⟨i,t,rfl⟩:=ae x hx
   exact(V i t).2.2.2
theorem z0b{base:Nat}{v:Value}{d:DataW H}{U:List MemPlace}(V:Value.okWide prog W .any base 43 v)(h:DataW.Trod enc prog W 0 sp hl 43 v d U):
  ∃E n Y rs,v=.agg #[.slice E n Y]/\Qf W W.heap.size E n rs/\RgZ rs/\RgU rs:=by
 obtain⟨Z,rfl,G⟩:=okWide_struct Tryz.structGram V;rw[Tryz.cellsGram]at G;obtain⟨l⟩:=Z
 match l,G with
 |[c0],_=>
 obtain⟨fuel,t⟩:=h;obtain⟨xs,n,rfl,hx,aa,I,t⟩:=DataW.trod_struct Tryz.structGram t;rw[z0a Tryz.fieldsGram]at I
 match xs,I with
 |[y0],_=>
 obtain⟨f0,g0,t0,o0⟩:=Gp Tryz.fieldsGram 0 _ rfl;have r:=t 0 f0 g0;simp only[Value.cells,t0,o0,Tryz.cellsRules,List.drop_zero,List.take_succ_cons,List.take_zero,List.getElem?_cons_zero]at r;have r1:=r;rcases DataW.trod_slice Tryz.sliceRules r1 with⟨o,_⟩|⟨ad,len,ab,ac,rest,m2,ae,o,_,_,af,ag,ah,ai,_⟩
 ·simp only[List.cons.injEq,and_true]at o
  subst o;obtain⟨rs,y,A,D⟩:=z4r r;exact⟨_,_,_,rs,rfl,y,A,D⟩
 ·simp only[List.cons.injEq,and_true]at o
  subst o;obtain⟨rs,y,A,D⟩:=z4r r;exact⟨_,_,_,rs,rfl,y,A,D⟩
end
theorem y2M{a b c d:Int}(h:zc a b c d=true):a=0/\b=0/\c=0/\d=0:=by
 unfold zc at h;simpa using h
mutual
theorem z4s:∀t:RT,okT t=true->RtU t->∃n,Tq t n/\Vk n/\Wf Nmq n
 | .mk k T a b c d s p,h,hu=>by
   rw[okT,Bool.and_eq_true]at h;obtain⟨o,E⟩:=h;rw[RtU]at hu;obtain⟨G,I,U,V,us⟩:=hu;obtain⟨q,D,Y,Z⟩:=z4t s E us;have ab:q.length=Qb s:=D.length;obtain⟨a,rfl⟩:=Int.eq_ofNat_of_zero_le G.1;obtain⟨b,rfl⟩:=Int.eq_ofNat_of_zero_le I.1;obtain⟨c,rfl⟩:=Int.eq_ofNat_of_zero_le U.1;obtain⟨d,rfl⟩:=Int.eq_ofNat_of_zero_le V.1;have A:=z1l a b c d (by omega) (by omega) (by omega) (by omega);have cl:=z8r a b c d (by omega) (by omega) (by omega) (by omega);have hk:0<=k:=by
    rcases Int.lt_or_le k 0 with r|r
    ·unfold okN at o
     rw[if_neg (by omega),if_neg (by omega),if_neg (by omega),if_neg (by omega),if_neg (by omega),if_neg (by omega)]at o;cases o
    ·exact r
   obtain⟨kd,rfl⟩:=Int.eq_ofNat_of_zero_le hk;have c0:zc (a:Int) (b:Int) (c:Int) (d:Int)=true->cls a b c d=0:=fun r=>by
    have:=y2M r;have ha:a=0:=by omega
    have hb:b=0:=by omega
    have hc:c=0:=by omega
    have hd:d=0:=by omega
    subst ha hb hc hd;rfl
   refine⟨.mk kd T (cls a b c d) q 0,?_,?_,?_⟩
   ·rw[Tq]
    exact⟨rfl,rfl,by rw[A.1],by rw[A.2.1],by rw[A.2.2.1],by rw[A.2.2.2],D⟩
   ·rw[Vk]
    refine⟨?_,Y⟩;have y:((Qb s:Nat):Int)=0->q=[]:=fun r=>List.eq_nil_of_length_eq_zero (by omega)
    unfold okN at o;split at o
    ·rename_i aa
     simp only[Bool.and_eq_true,beq_iff_eq]at o;rcases aa with h4|h4
     ·exact .inl ⟨by omega,Af o.1,c0 o.2.1,y o.2.2⟩
     ·exact .inr (.inr (.inr (.inl ⟨by omega,Af o.1,c0 o.2.1,y o.2.2⟩)))
    ·split at o
     ·simp only[Bool.and_eq_true,beq_iff_eq]at o
      exact .inr (.inl ⟨by omega,c0 o.2.1,y o.2.2⟩)
     ·split at o
      ·simp only[Bool.and_eq_true,beq_iff_eq]at o
       exact .inr (.inr (.inl ⟨by omega,Af o.1,y o.2⟩))
      ·split at o
       ·simp only[Bool.and_eq_true,beq_iff_eq]at o
        exact .inr (.inr (.inr (.inr (.inl ⟨by omega,c0 o.2.1,y o.2.2⟩))))
       ·split at o
        ·simp only[Bool.and_eq_true,decide_eq_true_eq]at o
         exact .inr (.inr (.inr (.inr (.inr (.inl ⟨by omega,Af o.1,c0 o.2.1,by omega⟩)))))
        ·split at o
         ·simp only[Bool.and_eq_true,beq_iff_eq]at o
          exact .inr (.inr (.inr (.inr (.inr (.inr ⟨by omega,by omega,Af o.1,c0 o.2.1,by omega⟩)))))
         ·cases o
   ·rw[Wf]
    refine⟨fun e=> ?_,fun e=> ?_,cl,Z⟩
    ·subst e
     unfold okN at o;rw[if_neg (by decide),if_pos (by decide)]at o;simp only[Bool.and_eq_true,decide_eq_true_eq]at o;omega
    ·subst e
     unfold okN at o;rw[if_neg (by decide),if_neg (by decide),if_neg (by decide),if_pos (by decide)]at o;simp only[Bool.and_eq_true]at o;exact o.1
theorem z4t:∀s:List RT,okL s=true->Yz s->∃q,TqL s q/\VkL q/\WfL Nmq q
 |[],_,_=>⟨[],by rw[TqL];trivial,by rw[VkL];trivial,by rw[WfL];trivial⟩
 |t::r,h,hu=>by
  rw[okL,Bool.and_eq_true]at h;rw[Yz]at hu;obtain⟨n,a1,a2,a3⟩:=z4s t h.1 hu.1;obtain⟨q,o,y,A⟩:=z4t r h.2 hu.2;exact⟨n::q,by rw[TqL];exact⟨a1,o⟩,by rw[VkL];exact⟨a2,y⟩,by rw[WfL];exact⟨a3,A⟩⟩
end
theorem z4u:∀{rs:List Rr},rs.all okR=true->RgU rs->∃ns,TqR rs ns/\∀x∈ns,Ruk Nmq x
 |[],_,_=>⟨[],by rw[TqR];trivial,fun x hx=>by simp at hx⟩
 |x::r,h,hu=>by
  rw[List.all_cons,Bool.and_eq_true]at h;obtain⟨ns,a1,a2⟩:=z4u h.2 (fun y o=>hu y (by simp[o]));have hx:=h.1;unfold okR at hx;rw[Bool.and_eq_true]at hx;obtain⟨n,t,A,D⟩:=z4s x.2.1 hx.2 (hu x (by simp));refine⟨(x.1,n,0)::ns,by rw[TqR];exact⟨rfl,t,a1⟩,fun y o=> ?_⟩;rcases List.mem_cons.1 o with rfl|o
  ·exact⟨hx.1,A,D⟩
  ·exact a2 y o
theorem y2N{rs:List Rr}(h:okG rs=true)(r:RgU rs):∃ns,TqR rs ns/\(∀x∈ns,Ruk Nmq x)/\1<=ns.length/\ns.length<=64:=by
 unfold okG at h;simp only[Bool.and_eq_true,decide_eq_true_eq]at h;obtain⟨ns,o,t⟩:=z4u h.2.2 r;have:=o.len;exact⟨ns,o,t,by omega,by omega⟩
end
end Go.Proofs.YtgnkkgcgbeianaaGreatDoor
