/- Lemmas for the last text. Conditions: those that each names. -/
import Derived.Test.YtlogolpcipiceaaGreatDoorVY15ToR1
import Derived.Test.YtlogolpcipiceaaGreatDoorVO6ToS3
import Derived.ProofKit
import Derived.OpenShut
import Derived.Laws.IdiomArrays
import Derived.Lib.SmallJoins
set_option linter.unusedVariables false
set_option maxRecDepth 100000
namespace Go.Proofs.YtlogolpcipiceaaGreatDoor
open Go.Proofs.Tryz
section
open Go.RowKit
structure Ly (L1 L2:List Tok):Prop where
 len:L2.length=L1.length
 same:∀k,tk3 (gL L2 k)=tk3 (gL L1 k)
 big:L1.length<=10000
def Rq(r1 r2:Pr):Prop:=match r1,r2 with
 | .inr (n,k),.inr (n',k')=>k'=k/\Sm n n'
 | .inl c,.inl c'=>c'.1=c.1
 |_,_=>False
theorem Rq.cases{r1 r2:Pr}(h:Rq r1 r2):(∃n n' k,r1=.inr (n,k)/\r2=.inr (n',k)/\Sm n n')∨(∃c c',r1=.inl c/\r2=.inl c'/\c'.1=c.1):=by
 cases r1 with
 |inl c=>cases r2 with
  |inl c'=>exact .inr ⟨c,c',rfl,rfl,h⟩
  |inr q=>exact h.elim
 |inr p=>cases r2 with
  |inl c'=>exact h.elim
  |inr q=>
   obtain⟨n,k⟩:=p;obtain⟨n',k'⟩:=q;obtain⟨h1,h2⟩:=h;subst h1;exact .inl ⟨n,n',k',rfl,rfl,h2⟩
section
variable {L1 L2:List Tok}
theorem Ly.kd(h:Ly L1 L2)(k:Nat):(gL L2 k).1=(gL L1 k).1/\(gL L2 k).2.1=(gL L1 k).2.1/\(gL L2 k).2.2.1=(gL L1 k).2.2.1:=by
 have:=h.same k;unfold tk3 at this;simp only[Prod.mk.injEq]at this;exact this
theorem Ly.sg(h:Ly L1 L2)(k:Nat):sgT (gL L2 k)=sgT (gL L1 k):=z6Y (h.same k)
theorem Ly.wr(h:Ly L1 L2)(k:Nat):wrC (gL L2 k)=wrC (gL L1 k):=by unfold wrC;rw[(h.kd k).1]
theorem Ly.hd(h:Ly L1 L2)(k:Nat):hdB L2 k=hdB L1 k:=by
 have hl:=h.len;rcases Nat.lt_or_ge (k+1) L1.length with h1|h1
 ·rw[Dc L1 k h1,Dc L2 k (by omega),(h.kd k).1,(h.kd (k+1)).1]
 ·unfold hdB
  rw[List.getElem?_eq_none (show L1.length<=k+1 by omega),List.getElem?_eq_none (show L2.length<=k+1 by omega)];cases L2[k]? <;>cases L1[k]? <;>rfl
theorem Ly.pt(h:Ly L1 L2)(k:Nat):ptB L2 k (gL L2 k)=ptB L1 k (gL L1 k):=by
 unfold ptB;rw[(h.kd k).1,(h.kd k).2.1,h.hd k]
theorem Rf(h:Ly L1 L2){i1 i2:Nat->Pr}(hi:∀k,Rq (i1 k) (i2 k))(k:Nat):Rq (Vb L1 i1 k) (Vb L2 i2 k):=by
 have q:=h.kd k;unfold Vb;simp only[q.1,q.2.1,q.2.2,h.hd k,h.sg k,h.wr k];split
 ·exact⟨rfl,Gh Gd (by simp)⟩
 ·split
  ·exact⟨rfl,Gh Gd (by simp)⟩
  ·split
   ·exact⟨rfl,Gh Gd (by simp)⟩
   ·split
    ·exact⟨rfl,Gh Gd (by simp)⟩
    ·split
     ·exact hi k
     ·exact(rfl:wrC (gL L1 k)=wrC (gL L1 k))
theorem Rb(h:Ly L1 L2){r1 r2:Pr}(hr:Rq r1 r2):Rq (Uh L1 r1) (Uh L2 r2):=by
 rcases hr.cases with⟨n,n',k,rfl,rfl,hs⟩|⟨c,c',rfl,rfl,hc⟩
 ·unfold Uh
  simp only[h.sg k];split
  ·exact⟨rfl,hs⟩
  ·exact⟨rfl,Gh (Bh hs) (by simp)⟩
 ·exact hc
theorem z2D{kd p p':Nat}{r1 r2:Pr}(hr:Rq r1 r2):Rq (ovS kd p r1) (ovS kd p' r2):=by
 rcases hr.cases with⟨n,n',k,rfl,rfl,hs⟩|⟨c,c',rfl,rfl,hc⟩
 ·exact⟨rfl,Gh (Bh hs) (by simp)⟩
 ·exact hc
theorem z9G(h:Ly L1 L2){i1 i2:Nat->Pr}(hi:∀k,Rq (i1 k) (i2 k))(k:Nat):Rq (Vq L1 i1 k) (Vq L2 i2 k):=by
 unfold Vq;simp only[h.sg k];split
 ·exact z2D (Rb h (Rf h hi (k+1)))
 ·split
  ·exact z2D (Rb h (Rf h hi (k+1)))
  ·exact Rb h (Rf h hi k)
theorem Rh(h:Ly L1 L2){i1 i2:Nat->Pr}(hi:∀k,Rq (i1 k) (i2 k)):∀(f k:Nat) (a1 a2:List Nd),SmL a1 a2->a1.length+f<=1000000->Rq (Zx L1 i1 f k a1) (Zx L2 i2 f k a2)
 |0,k,a1,a2,_,_=>by
  rw[Zx,Zx];exact(rfl:(0:Nat)=0)
 |f+1,k,a1,a2,ha,hl=>by
  have hp:=z9G h hi k;rw[Zx,Zx,h.pt k];split
  ·rcases hp.cases with⟨n,n',k',e1,e2,hs⟩|⟨c,c',e1,e2,hc⟩
   ·rw[e1,e2]
    exact Rh h hi f k' (a1++[n]) (a2++[n']) (Lv ha hs) (by simp;omega)
   ·rw[e1,e2]
    exact hc
  ·have hle:=ha.len
   have hem:a2.isEmpty=a1.isEmpty:=by
    cases a1 with
    |nil=>cases a2 with
     |nil=>rfl
     |cons _ _=>simp at hle
    |cons _ _=>cases a2 with
     |nil=>simp at hle
     |cons _ _=>rfl
   rw[hem];split
   ·exact⟨rfl,Gh Gd (by simp)⟩
   ·rename_i hne
    exact⟨rfl,z0N 6 ha (by omega) (fun he=>hne (by rw[he];rfl))⟩
theorem z2E(h:Ly L1 L2){i1 i2:Nat->Pr}(hi:∀k,Rq (i1 k) (i2 k)):∀(f k:Nat) (a1 a2:List Nd),SmL a1 a2->a1≠[]->a1.length+f<=1000000->Rq (Zd L1 i1 f k a1) (Zd L2 i2 f k a2)
 |0,k,a1,a2,_,_,_=>by
  rw[Zd,Zd];exact(rfl:(0:Nat)=0)
 |f+1,k,a1,a2,ha,hne,hl=>by
  have hbig:=h.big;have hp:=Rh h hi L1.length (k+1) [] [] Gd (by simp;omega);rw[Zd,Zd,h.len];simp only[h.sg k];split
  ·rcases hp.cases with⟨n,n',k',e1,e2,hs⟩|⟨c,c',e1,e2,hc⟩
   ·rw[e1,e2]
    exact z2E h hi f k' (a1++[n]) (a2++[n']) (Lv ha hs) (by simp) (by simp;omega)
   ·rw[e1,e2]
    exact hc
  ·exact⟨rfl,z0N 7 ha (by omega) hne⟩
theorem z2F(h:Ly L1 L2){i1 i2:Nat->Pr}(hi:∀k,Rq (i1 k) (i2 k))(k:Nat):Rq (chS L1 i1 k) (chS L2 i2 k):=by
 have hbig:=h.big;have hp:=Rh h hi L1.length k [] [] Gd (by simp;omega);unfold chS;rw[h.len];rcases hp.cases with⟨n,n',k',e1,e2,hs⟩|⟨c,c',e1,e2,hc⟩
 ·rw[e1,e2]
  unfold chE;simp only;rw[h.len];exact z2E h hi L1.length k' [n] [n'] (Bh hs) (by simp) (by simp;omega)
 ·rw[e1,e2]
  exact hc
theorem z2G(h:Ly L1 L2):∀(d k:Nat),Rq (Zy L1 d k) (Zy L2 d k)
 |0,k=>by
  rw[Zy,Zy];exact(rfl:(2:Nat)=2)
 |d+1,k=>by
  have hp:=z2F h (z2G h d) (k+1);rw[Zy,Zy];rcases hp.cases with⟨n,n',k',e1,e2,hs⟩|⟨c,c',e1,e2,hc⟩
  ·rw[e1,e2]
   unfold Nf;simp only[h.sg k',h.wr k'];split
   ·exact⟨rfl,hs⟩
   ·exact(rfl:wrC (gL L1 k')=wrC (gL L1 k'))
  ·rw[e1,e2]
   exact hc
def Ru(r1 r2:(Nat×Nat) ⊕ (Rl×Nat)):Prop:=(∃x y k,r1=.inr (x,k)/\r2=.inr (y,k)/\RlS x y)∨(∃c c',r1=.inl c/\r2=.inl c'/\c'.1=c.1)
theorem z2H(h:Ly L1 L2)(ru k:Nat):Ru (ruS L1 ru k) (ruS L2 ru k):=by
 have hp:=z2F h (z2G h 24) (k+2);unfold ruS;rw[(h.kd k).1,(h.kd (k+1)).1,h.wr k,h.wr (k+1)];split
 ·exact .inr ⟨_,_,rfl,rfl,rfl⟩
 ·split
  ·exact .inr ⟨_,_,rfl,rfl,rfl⟩
  ·split
   ·exact .inr ⟨_,_,rfl,rfl,rfl⟩
   ·rcases hp.cases with⟨n,n',k',e1,e2,hs⟩|⟨c,c',e1,e2,hc⟩
    ·rw[e1,e2]
     exact .inl ⟨_,_,_,rfl,rfl,(h.kd k).2.1,hs⟩
    ·rw[e1,e2]
     exact .inr ⟨_,_,rfl,rfl,hc⟩
def Rg(r1 r2:(Nat×Nat) ⊕ List Rl):Prop:=(∃x y,r1=.inr x/\r2=.inr y/\RlL x y)∨(∃c c',r1=.inl c/\r2=.inl c'/\c'.1=c.1)
theorem z2I(h:Ly L1 L2):∀(f k:Nat) (a1 a2:List Rl),RlL a1 a2->Rg (Zm L1 f k a1) (Zm L2 f k a2)
 |0,k,a1,a2,_=>by
  rw[Zm,Zm];exact .inr ⟨_,_,rfl,rfl,rfl⟩
 |f+1,k,a1,a2,ha=>by
  rw[Zm,Zm,(h.kd k).1,ha.len];split
  ·exact .inl ⟨_,_,rfl,rfl,ha⟩
  ·rcases z2H h a1.length k with⟨x,y,k',e1,e2,hs⟩|⟨c,c',e1,e2,hc⟩
   ·rw[e1,e2]
    exact z2I h f k' (a1++[x]) (a2++[y]) (ha.app (by rw[RlL];exact⟨hs,by rw[RlL];trivial⟩))
   ·rw[e1,e2]
    exact .inr ⟨_,_,rfl,rfl,hc⟩
theorem z9H(h:Ly L1 L2):Rg (Vx L1) (Vx L2):=by
 unfold Vx;rcases z2H h 0 0 with⟨x,y,k',e1,e2,hs⟩|⟨c,c',e1,e2,hc⟩
 ·rw[e1,e2]
  unfold z0F;simp only;rw[h.len];exact z2I h L1.length k' [x] [y] (by rw[RlL];exact⟨hs,by rw[RlL];trivial⟩)
 ·rw[e1,e2]
  exact .inr ⟨_,_,rfl,rfl,hc⟩
end
end
open Go.RowKit Go.Shelf
theorem z2J{S:ByteArray}{rs:List Rl}(h:Vj S=.inr rs):∃m,tks S (sb S 0) []=.inr m/\(∀t∈m,Nh t)/\m.length<=S.size/\Vx (m++[(6,{data:=#[]},0,S.size)])=.inr rs:=by
 unfold Vj at h;cases ht:tkS S with
 |inl c=>rw[ht]at h;cases h
 |inr L=>
  rw[ht]at h;obtain⟨m,hm,rfl⟩:=z1b ht;have hgood:=Lx _ _ _ _ _ hm (fun t ht=>by simp at ht);refine⟨m,hm,hgood.1,?_,h⟩;have h2:=hgood.2;simp at h2;omega
theorem z2K(L:List Tok):∀(f k:Nat) (acc rs:List Rl),Zm L f k acc=.inr rs->acc.length<=64->rs.length<=64/\acc.length<=rs.length
 |0,_,_,_,h,_=>by rw[Zm]at h;cases h
 |f+1,k,acc,rs,h,ha=>by
  rw[Zm]at h;split at h
  ·simp only[Sum.inr.injEq]at h;subst h;exact⟨ha,Nat.le_refl _⟩
  ·split at h
   ·cases h
   ·rename_i x k' hr
    have:=z0G hr;have h2:=z2K L f k' (acc++[x]) rs h (by simp;omega);rw[List.length_append]at h2;exact⟨h2.1,by omega⟩
theorem Rm{S:ByteArray}{rs:List Rl}(h:Vj S=.inr rs):rs.length<=64/\1<=rs.length:=by
 obtain⟨m,_,_,_,hg⟩:=z2J h;unfold Vx at hg;cases hr:ruS (m++[(6,{data:=#[]},0,S.size)]) 0 0 with
 |inl c=>rw[hr]at hg;cases hg
 |inr q=>
  obtain⟨x,k⟩:=q;rw[hr]at hg;exact z2K _ _ _ _ _ hg (by simp)
theorem Rp:∀{s:List Rl},RlL s s->∀x∈s,Sm x.2.1 x.2.1
 |[],_,x,hx=>by simp at hx
 |a::r,h,x,hx=>by
  rw[RlL]at h;rcases List.mem_cons.1 hx with rfl|hx
  ·exact h.1.2
  ·exact Rp h.2 x hx
theorem z2L{S:ByteArray}{rs:List Rl}(hS:S.size<=8192)(h:Vj S=.inr rs):RlL rs rs:=by
 obtain⟨m,_,_,hl,hg⟩:=z2J h;rcases z9H (L1:=m++[(6,{data:=#[]},0,S.size)]) ⟨rfl,fun _=>rfl,by simp;omega⟩with⟨x,y,e1,e2,hs⟩|⟨c,c',e1,_,_⟩
 ·rw[hg]at e1 e2
  cases e1;cases e2;exact hs
 ·rw[hg]at e1
  cases e1
def toG(rs:List Rl):List Rr:=rs.map fun x=>(x.1,toR x.2.1,(x.2.2:Int))
theorem Jl:∀rs:List Rl,TqR (toG rs) rs
 |[]=>by unfold toG;rw[List.map_nil,TqR];trivial
 |x::r=>by
  have:=Jl r;unfold toG at this ⊢;rw[List.map_cons,TqR];exact⟨rfl,z2y _,this⟩
theorem z2M{W:World}{B g n cap:Nat}{rs:List Rl}(h:RoR B (.slice (some ⟨g,0,none⟩) n cap) rs W)(hs:∀x∈rs,Sm x.2.1 x.2.1)(h64:rs.length<=64):Qv W W.heap.size (some ⟨g,0,none⟩) n (toG rs):=by
 have hl:n=rs.length:=h.len;have hgl:(toG rs).length=rs.length:=by unfold toG;rw[List.length_map]
 refine⟨by omega,by unfold maxLen;omega,fun j hj=> ?_⟩;have hj':j<rs.length:=by omega
 obtain⟨c,⟨cs,rfl,hn⟩,h2⟩:=h.get j hj';have e:(toG rs)[j]=(rs[j].1,toR rs[j].2.1,(rs[j].2.2:Int)):=List.getElem_map _;have rt:=z2A _ _ (hs _ (List.getElem_mem hj')) hn;obtain⟨k,T,a,b,c,d,so,n1,cap1,p,rfl⟩:=rt.shape;refine⟨g,0,rfl,h.lt,?_⟩;rw[e,Nat.zero_add];exact⟨k,T,a,b,c,d,so,n1,cap1,p,rt,h2 0 _ rfl,h2 1 _ rfl,h2 2 _ rfl,h2 3 _ rfl,h2 4 _ rfl,h2 5 _ rfl,h2 6 _ rfl,h2 7 _ rfl,h2 8 _ rfl,h2 9 _ rfl⟩
theorem Ej:∀{rs:List Rr} {ns:List Rl},TqR rs ns->(∀x∈ns,Ruk Nmq x)->rs.all okR=true/\RgZ rs
 |[],[],_,_=>⟨rfl,fun x hx=>by simp at hx⟩
 |[],_::_,h,_=>by simp[TqR]at h
 |_::_,[],h,_=>by simp[TqR]at h
 |x::r,y::q,h,hx=>by
  rw[TqR]at h;obtain⟨h1,h2⟩:=Ej h.2.2 (fun z hz=>hx z (by simp[hz]));obtain⟨n1,n2,n3⟩:=hx y (by simp);obtain⟨o1,o2⟩:=Ry _ _ h.2.1 n2 n3;have n1':nmS x.1=true:=by rw[<-h.1];exact n1
  refine⟨by rw[List.all_cons,h1];unfold okR;rw[n1',o1];rfl,fun z hz=> ?_⟩;rcases List.mem_cons.1 hz with rfl|hz
  ·exact⟨by have:=Cg n1';omega,o2⟩
  ·exact h2 z hz
theorem Sz{rs:List Rr}{ns:List Rl}(h:TqR rs ns)(hx:∀x∈ns,Ruk Nmq x)(h1:1<=ns.length)(h64:ns.length<=64):okG rs=true:=by
 unfold okG;rw[(Ej h hx).1,decide_eq_true (by have:=h.len;omega),decide_eq_true (p:=rs.length<=64) (by have:=h.len;omega)];rfl
theorem z9I{S:ByteArray}{rs:List Rl}(hS:S.size<=8192)(h:Vj S=.inr rs)(B g n cap:Nat)(W:World)(hr:RoR B (.slice (some ⟨g,0,none⟩) n cap) rs W)(hT:TabIs W):
  Calls prog 239 #[.agg #[.slice (some ⟨g,0,none⟩) n cap]] W fun e w'=>e=.returned (Jc rs)/\Below W.heap.size W w':=by
 have hx:∀x∈rs,Ruk Nmq x:=fun x hx=>(Px h x hx).1
 have hl:=Rm h;exact Eq _ n cap (toG rs) rs W.heap.size W (Ej (Jl rs) hx).2 (z2M hr (Rp (z2L hS h)) hl.1) L0q (Sz (Jl rs) hx hl.2 hl.1) (Jl rs) hx hT
section
open Go.ChangeShapes Go.WideShapes Go.ChangeAt
mutual
def RtU:RT->Prop
 | .mk _ _ a b c d s _=>(0<=a/\a<18446744073709551616)/\(0<=b/\b<18446744073709551616)/\(0<=c/\c<18446744073709551616)/\(0<=d/\d<18446744073709551616)/\Vm s
def Vm:List RT->Prop
 |[]=>True
 |t::r=>RtU t/\Vm r
end
theorem Tryz.structNode:Tryz.prog.underlying 71=some (.struct (Tryz.prog.fieldsOf 71)):=by kernel_rfl
theorem Tryz.fieldsNode:(Tryz.prog.fieldsOf 71).toList.map (fun f=>(f.name,f.type,f.offset))=[("Kind",3,0),("Text",9,1),("Class",68,2),("Subs",69,6),("At",3,7)]:=by kernel_rfl
theorem Tryz.structRule:Tryz.prog.underlying 73=some (.struct (Tryz.prog.fieldsOf 73)):=by kernel_rfl
theorem Tryz.fieldsRule:(Tryz.prog.fieldsOf 73).toList.map (fun f=>(f.name,f.type,f.offset))=[("Name",9,0),("Body",71,1),("At",3,9)]:=by kernel_rfl
theorem Tryz.structGram:Tryz.prog.underlying 24=some (.struct (Tryz.prog.fieldsOf 24)):=by kernel_rfl
theorem Tryz.fieldsGram:(Tryz.prog.fieldsOf 24).toList.map (fun f=>(f.name,f.type,f.offset))=[("Rules",22,0)]:=by kernel_rfl
theorem Tryz.cellsNode:Tryz.prog.cellsOf 71=8:=by kernel_rfl
theorem Tryz.cellsRule:Tryz.prog.cellsOf 73=10:=by kernel_rfl
theorem Tryz.cellsGram:Tryz.prog.cellsOf 24=1:=by kernel_rfl
theorem Tryz.cellsCls:Tryz.prog.cellsOf 68=4:=by kernel_rfl
theorem Tryz.cellsInt:Tryz.prog.cellsOf 3=1:=by kernel_rfl
theorem Tryz.cellsStr:Tryz.prog.cellsOf 9=1:=by kernel_rfl
theorem Tryz.cellsNodes:Tryz.prog.cellsOf 69=1:=by kernel_rfl
theorem Tryz.cellsRules:Tryz.prog.cellsOf 22=1:=by kernel_rfl
theorem Tryz.cellsWord:Tryz.prog.cellsOf 66=1:=by kernel_rfl
theorem Tryz.arrayCls:Tryz.prog.underlying 68=some (.array 4 66):=by kernel_rfl
theorem Tryz.sliceNodes:Tryz.prog.underlying 69=some (.slice 71):=by kernel_rfl
theorem Tryz.sliceRules:Tryz.prog.underlying 22=some (.slice 73):=by kernel_rfl
theorem Jg{fs:Array Field}{l:List (String×TypeId×Nat)}(h:fs.toList.map (fun f=>(f.name,f.type,f.offset))=l)(i:Nat)(x:String×TypeId×Nat)(hx:l[i]? =some x):∃f,fs[i]? =some f/\f.type=x.2.1/\f.offset=x.2.2:=by
 rw[<-h,List.getElem?_map]at hx;cases hf:fs.toList[i]? with
 |none=>rw[hf]at hx;cases hx
 |some f=>
  rw[hf]at hx;simp only[Option.map_some,Option.some.injEq]at hx;refine⟨f,by rw[<-Array.getElem?_toList];exact hf,?_,?_⟩
  ·rw[<-hx]
  ·rw[<-hx]
theorem Ew{fs:Array Field}{l:List (String×TypeId×Nat)}(h:fs.toList.map (fun f=>(f.name,f.type,f.offset))=l):fs.size=l.length:=by
 rw[<-h,List.length_map,Array.length_toList]
theorem z2N{W:World}{B g:Nat}:∀(n o:Nat),(∀i,i<n->∃t cs,Qj W B t cs/\RtZ t/\RtU t/\∀j u,cs[j]? =some u->W.cell? ⟨g,o+i*8+j,none⟩=some u)->∃s:List RT,s.length=n/\Ql W B g o s/\Yd s/\Vm s
 |0,o,_=>⟨[],rfl,by rw[Ql];trivial,by rw[Yd];trivial,by rw[Vm];trivial⟩
 |n+1,o,h=>by
  obtain⟨t,cs,h1,h2,h3,h4⟩:=h 0 (by omega);obtain⟨s,e1,e2,e3,e4⟩:=z2N n (o+8) (fun i hi=>by
   obtain⟨t,cs,h1,h2,h3,h4⟩:=h (i+1) (by omega);refine⟨t,cs,h1,h2,h3,fun j u hj=> ?_⟩;have:=h4 j u hj;rw[show o+(i+1)*8+j=o+8+i*8+j by omega]at this;exact this)
  refine⟨t::s,by simp[e1],?_,by rw[Yd];exact⟨h2,e3⟩,by rw[Vm];exact⟨h3,e4⟩⟩;rw[Ql];refine⟨⟨cs,h1,fun j u hj=> ?_⟩,e2⟩;have:=h4 j u hj;rw[Nat.zero_mul,Nat.add_zero]at this;exact this
section
variable {H:Type} {enc:TypeId×Value->H} {W:World} {sp:Nat->Bool} {hl:Bool}
theorem z2O{a:Addr}{n:Nat}{cs:List Value}(h:W.cells? 0 (a.add (0*n)) n=some cs)(hn:0<n):a.spot=none:=by
 obtain⟨_,h2,h3⟩:=World.cells?_some h;have h0:=h3 0 hn;rw[Deep.add_add,Nat.zero_mul]at h0;obtain⟨c,hc⟩:∃c,cs[0]? =some c:=⟨_,List.getElem?_eq_getElem (by omega)⟩;rw[hc]at h0;have:=World.cell?_spot h0;simpa [Addr.add]using this
theorem Ey{b off k n:Nat}{cs:List Value}(h:W.cells? 0 ((⟨b,off,none⟩:Addr).add k) n=some cs)(hn:0<n):b<W.heap.size/\cs.length=n/\∀j u,cs[j]? =some u->W.cell? ⟨b,off+k+j,none⟩=some u:=by
 obtain⟨_,h2,h3⟩:=World.cells?_some h;have hc:∀j u,cs[j]? =some u->W.cell? ⟨b,off+k+j,none⟩=some u:=fun j u hj=>by
  have hjl:j<n:=by rw[<-h2];exact(List.getElem?_eq_some_iff.1 hj).1
  have:=h3 j hjl;rw[Deep.add_add,Addr.add_lit,hj]at this;rw[Nat.add_assoc];exact this
 exact⟨World.block_lt_of_cell? W ⟨b,off+k+0,none⟩ (hc 0 _ (List.getElem?_eq_getElem (by omega))),h2,hc⟩
theorem Sq:∀(N fuel:Nat) (cs:List Value) (x:DataW H×List MemPlace),fuel<N->DataW.trod enc prog W 0 sp hl fuel 71 cs=some x->∃t,Qj W W.heap.size t cs/\RtZ t/\RtU t
 |0,_,_,_,h,_=>by omega
 |N+1,fuel,cs,x,hN,h=>by
  obtain⟨xs,n,rfl,rfl,hlen,hxs,hf⟩:=DataW.trod_struct Tryz.structNode h;rw[Tryz.cellsNode]at hlen;rw[Ew Tryz.fieldsNode]at hxs
  match cs,hlen with
  |[c0,c1,c2,c3,c4,c5,c6,c7],_=>
  match xs,hxs with
  |[y0,y1,y2,y3,y4],_=>
  obtain⟨f0,g0,t0,o0⟩:=Jg Tryz.fieldsNode 0 _ rfl;obtain⟨f1,g1,t1,o1⟩:=Jg Tryz.fieldsNode 1 _ rfl;obtain⟨f2,g2,t2,o2⟩:=Jg Tryz.fieldsNode 2 _ rfl;obtain⟨f3,g3,t3,o3⟩:=Jg Tryz.fieldsNode 3 _ rfl;obtain⟨f4,g4,t4,o4⟩:=Jg Tryz.fieldsNode 4 _ rfl;have r0:=hf 0 f0 g0;have r1:=hf 1 f1 g1;have r2:=hf 2 f2 g2;have r3:=hf 3 f3 g3;have r4:=hf 4 f4 g4;simp only[t0,o0,t1,o1,t2,o2,t3,o3,t4,o4,Tryz.cellsInt,Tryz.cellsStr,Tryz.cellsCls,Tryz.cellsNodes,List.drop_zero,List.drop_succ_cons,List.take_succ_cons,List.take_zero,List.getElem?_cons_zero,List.getElem?_cons_succ]at r0 r1 r2 r3 r4;obtain⟨k,e0,_,w0⟩:=DataW.trod_int Tryz.underlying3 r0;obtain⟨T,e1,_,wT⟩:=DataW.trod_string Tryz.underlying9 r1;obtain⟨p,e7,_,w7⟩:=DataW.trod_int Tryz.underlying3 r4;obtain⟨z0,z1,z2,z3,m,_,q0,q1,q2,q3⟩:=trod_array4 Tryz.arrayCls Tryz.cellsWord r2;obtain⟨a,ea,_,wa⟩:=DataW.trod_int Tryz.underlying66 q0;obtain⟨b,eb,_,wb⟩:=DataW.trod_int Tryz.underlying66 q1;obtain⟨c,ec,_,wc⟩:=DataW.trod_int Tryz.underlying66 q2;obtain⟨d,ed,_,wd'⟩:=DataW.trod_int Tryz.underlying66 q3;simp only[List.cons.injEq,and_true]at e0 e1 e7 ea eb ec ed;subst e0 e1 e7 ea eb ec ed;have ba:=bounds_u64 wa;have bb:=bounds_u64 wb;have bc:=bounds_u64 wc;have bd:=bounds_u64 wd';have hTz:T.size<=9223372036854775807:=by unfold maxLen at wT;exact wT
  rcases DataW.trod_slice Tryz.sliceNodes r3 with⟨e6,_⟩|⟨ad,len,cap,elems,rest,m2,hm2,e6,_,_,hlc,hcm,hel,hev,_⟩
  ·simp only[List.cons.injEq,and_true]at e6
   subst e6;refine⟨.mk k T a b c d [] p,?_,?_,?_⟩
   ·rw[Qj]
    exact⟨none,0,rfl,.inl rfl⟩
   ·rw[RtZ,Yd]
    exact⟨hTz,trivial⟩
   ·rw[RtU,Vm]
    exact⟨by omega,by omega,by omega,by omega,trivial⟩
  ·simp only[List.cons.injEq,and_true]at e6
   subst e6;have key:∀i,i<len->∃cs' y,W.cells? 0 (ad.add (i*8)) 8=some cs'/\DataW.trod enc prog W 0 sp hl m2 71 cs'=some y:=fun i hi=>by
    have h1:=hev i hi;rw[List.getElem?_eq_getElem (by omega)]at h1;obtain⟨cs',h2,h3⟩:=Option.bind_eq_some_iff.1 h1;rw[Tryz.cellsNode]at h2;exact⟨cs',_,h2,h3⟩
   obtain⟨g,off,spot⟩:=ad;by_cases h0:len=0
   ·subst h0
    refine⟨.mk k T a b c d [] p,?_,?_,?_⟩
    ·rw[Qj]
     exact⟨_,cap,rfl,.inl rfl⟩
    ·rw[RtZ,Yd]
     exact⟨hTz,trivial⟩
    ·rw[RtU,Vm]
     exact⟨by omega,by omega,by omega,by omega,trivial⟩
   obtain⟨cs0,_,h00,_⟩:=key 0 (by omega);obtain rfl:spot=none:=z2O h00 (by omega);obtain⟨hgb,_,_⟩:=Ey h00 (by omega);obtain⟨s,l1,l2,l3,l4⟩:=z2N len off (fun i hi=>by
    obtain⟨cs',y,h2,h3⟩:=key i hi;obtain⟨_,_,s4⟩:=Ey h2 (by omega);obtain⟨t,i1,i2,i3⟩:=Sq N m2 cs' _ (by omega) h3;exact⟨t,cs',i1,i2,i3,s4⟩)
   have hrl:Qp s=len:=by rw[Xd,l1]
   refine⟨.mk k T a b c d s p,?_,?_,?_⟩
   ·rw[Qj]
    refine⟨some ⟨g,off,none⟩,cap,by rw[hrl],.inr ⟨?_,g,off,rfl,hgb,by rw[hrl];omega,l2⟩⟩;cases s with
    |nil=>exact absurd l1.symm h0
    |cons _ _=>rfl
   ·rw[RtZ]
    exact⟨hTz,l3⟩
   ·rw[RtU]
    exact⟨by omega,by omega,by omega,by omega,l4⟩
def RgU(rs:List Rr):Prop:=∀x∈rs,RtU x.2.1
theorem z9J{fuel:Nat}{cs:List Value}{x:DataW H×List MemPlace}(h:DataW.trod enc prog W 0 sp hl fuel 73 cs=some x):
  ∃r:Rr,(∃k T a b c d so n cap p,Qj W W.heap.size r.2.1 (r8 k T a b c d so n cap p)/\cs=.string r.1::(r8 k T a b c d so n cap p++[.int .i64 r.2.2]))/\r.1.size<=9223372036854775807/\RtZ r.2.1/\RtU r.2.1:=by
 obtain⟨xs,n,rfl,rfl,hlen,hxs,hf⟩:=DataW.trod_struct Tryz.structRule h;rw[Tryz.cellsRule]at hlen;rw[Ew Tryz.fieldsRule]at hxs
 match cs,hlen with
 |[c0,c1,c2,c3,c4,c5,c6,c7,c8,c9],_=>
 match xs,hxs with
 |[y0,y1,y2],_=>
 obtain⟨f0,g0,t0,o0⟩:=Jg Tryz.fieldsRule 0 _ rfl;obtain⟨f1,g1,t1,o1⟩:=Jg Tryz.fieldsRule 1 _ rfl;obtain⟨f2,g2,t2,o2⟩:=Jg Tryz.fieldsRule 2 _ rfl;have r0:=hf 0 f0 g0;have r1:=hf 1 f1 g1;have r2:=hf 2 f2 g2;simp only[t0,o0,t1,o1,t2,o2,Tryz.cellsInt,Tryz.cellsStr,Tryz.cellsNode,List.drop_zero,List.drop_succ_cons,List.take_succ_cons,List.take_zero,List.getElem?_cons_zero,List.getElem?_cons_succ]at r0 r1 r2;obtain⟨M,e0,_,wM⟩:=DataW.trod_string Tryz.underlying9 r0;obtain⟨q,e9,_,_⟩:=DataW.trod_int Tryz.underlying3 r2;obtain⟨t,i1,i2,i3⟩:=Sq _ n _ _ (Nat.lt_succ_self _) r1;simp only[List.cons.injEq,and_true]at e0 e9;subst e0 e9;obtain⟨k,T,a,b,c,d,so,n1,cap,p,e⟩:=i1.shape;refine⟨(M,t,q),⟨k,T,a,b,c,d,so,n1,cap,p,by rw[<-e];exact i1,?_⟩,by unfold maxLen at wM;exact wM,i2,i3⟩;rw[<-e];rfl
theorem z2P{fuel:Nat}{so:Option Addr}{n cap:Nat}{x:DataW H×List MemPlace}(h:DataW.trod enc prog W 0 sp hl fuel 22 [.slice so n cap]=some x):
  ∃rs,Qv W W.heap.size so n rs/\RgZ rs/\RgU rs:=by
 rcases DataW.trod_slice Tryz.sliceRules h with⟨e6,_⟩|⟨ad,len,cap',elems,rest,m2,hm2,e6,_,_,hlc,hcm,hel,hev,_⟩
 ·simp only[List.cons.injEq,and_true,Value.slice.injEq]at e6
  obtain⟨rfl,rfl,rfl⟩:=e6;exact⟨[],⟨rfl,by unfold maxLen;omega,fun j hj=>by simp at hj⟩,fun x hx=>by simp at hx,fun x hx=>by simp at hx⟩
 ·simp only[List.cons.injEq,and_true,Value.slice.injEq]at e6
  obtain⟨rfl,rfl,rfl⟩:=e6;have key:∀i,i<n->∃cs' y,W.cells? 0 (ad.add (i*10)) 10=some cs'/\DataW.trod enc prog W 0 sp hl m2 73 cs'=some y:=fun i hi=>by
   have h1:=hev i hi;rw[List.getElem?_eq_getElem (by omega)]at h1;obtain⟨cs',h2,h3⟩:=Option.bind_eq_some_iff.1 h1;rw[Tryz.cellsRule]at h2;exact⟨cs',_,h2,h3⟩
  obtain⟨g,off,spot⟩:=ad;by_cases h0:n=0
  ·subst h0
   exact⟨[],⟨rfl,by unfold maxLen;omega,fun j hj=>by simp at hj⟩,fun x hx=>by simp at hx,fun x hx=>by simp at hx⟩
  obtain⟨cs0,_,h00,_⟩:=key 0 (by omega);obtain rfl:spot=none:=z2O h00 (by omega);obtain⟨hgb,_,_⟩:=Ey h00 (by omega);have hall:∀i,∃r:Rr,i<n->Rk W W.heap.size g (off+i*10) r/\r.1.size<=9223372036854775807/\RtZ r.2.1/\RtU r.2.1:=fun i=>by
   by_cases hi:i<n
   ·obtain⟨cs',y,h2,h3⟩:=key i hi
    obtain⟨_,_,s4⟩:=Ey h2 (by omega);obtain⟨r,⟨k,T,a,b,c,d,so,n1,cap1,p,i1,rfl⟩,i2,i3,i4⟩:=z9J h3;exact⟨r,fun _=>⟨⟨k,T,a,b,c,d,so,n1,cap1,p,i1,s4 0 _ rfl,s4 1 _ rfl,s4 2 _ rfl,s4 3 _ rfl,s4 4 _ rfl,s4 5 _ rfl,s4 6 _ rfl,s4 7 _ rfl,s4 8 _ rfl,s4 9 _ rfl⟩,i2,i3,i4⟩⟩
   ·exact⟨(⟨#[]⟩,.mk 0 ⟨#[]⟩ 0 0 0 0 [] 0,0),fun h=>absurd h hi⟩
  obtain⟨f,hf⟩:=Classical.axiomOfChoice hall;have hmem:∀x∈(List.range n).map f,∃i,i<n/\f i=x:=fun x hx=>by
   obtain⟨i,h1,h2⟩:=List.mem_map.1 hx;exact⟨i,List.mem_range.1 h1,h2⟩
  refine⟨(List.range n).map f,⟨by simp,by omega,fun j hj=> ?_⟩,fun x hx=> ?_,fun x hx=> ?_⟩
  ·have hj':j<n:=by simpa using hj
   have e:((List.range n).map f)[j]=f j:=by rw[List.getElem_map,List.getElem_range]
   rw[e];exact⟨g,off,rfl,hgb,(hf j hj').1⟩
  ·obtain⟨i,hi,rfl⟩:=hmem x hx
   exact⟨(hf i hi).2.1,(hf i hi).2.2.1⟩
  ·obtain⟨i,hi,rfl⟩:=hmem x hx
   exact(hf i hi).2.2.2
theorem z2Q{base:Nat}{v:Value}{d:DataW H}{ps:List MemPlace}(hv:Value.okWide prog W .any base 24 v)(h:DataW.Trod enc prog W 0 sp hl 24 v d ps):
  ∃so n cap rs,v=.agg #[.slice so n cap]/\Qv W W.heap.size so n rs/\RgZ rs/\RgU rs:=by
 obtain⟨cs,rfl,hsz⟩:=okWide_struct Tryz.structGram hv;rw[Tryz.cellsGram]at hsz;obtain⟨l⟩:=cs
 match l,hsz with
 |[c0],_=>
 obtain⟨fuel,hf⟩:=h;obtain⟨xs,n,rfl,hx,hlen,hxs,hf⟩:=DataW.trod_struct Tryz.structGram hf;rw[Ew Tryz.fieldsGram]at hxs
 match xs,hxs with
 |[y0],_=>
 obtain⟨f0,g0,t0,o0⟩:=Jg Tryz.fieldsGram 0 _ rfl;have r0:=hf 0 f0 g0;simp only[Value.cells,t0,o0,Tryz.cellsRules,List.drop_zero,List.take_succ_cons,List.take_zero,List.getElem?_cons_zero]at r0;have r1:=r0;rcases DataW.trod_slice Tryz.sliceRules r1 with⟨e6,_⟩|⟨ad,len,cap',elems,rest,m2,hm2,e6,_,_,hlc,hcm,hel,hev,_⟩
 ·simp only[List.cons.injEq,and_true]at e6
  subst e6;obtain⟨rs,h1,h2,h3⟩:=z2P r0;exact⟨_,_,_,rs,rfl,h1,h2,h3⟩
 ·simp only[List.cons.injEq,and_true]at e6
  subst e6;obtain⟨rs,h1,h2,h3⟩:=z2P r0;exact⟨_,_,_,rs,rfl,h1,h2,h3⟩
theorem z9K{base:Nat}{v:Value}{d:DataW H}{ps:List MemPlace}(hv:Value.okWide prog W .any base 71 v)(h:DataW.Trod enc prog W 0 sp hl 71 v d ps):
  ∃k T a b c e so n cap p t,v=.agg (r8 k T a b c e so n cap p).toArray/\Qj W W.heap.size t (r8 k T a b c e so n cap p)/\RtZ t/\RtU t:=by
 obtain⟨cs,rfl,hsz⟩:=okWide_struct Tryz.structNode hv;obtain⟨l⟩:=cs;obtain⟨fuel,hf⟩:=h;have hf':DataW.trod enc prog W 0 sp hl fuel 71 l=some (d,ps):=hf;obtain⟨t,i1,i2,i3⟩:=Sq _ fuel _ _ (Nat.lt_succ_self _) hf';obtain⟨k,T,a,b,c,e,so,n1,cap,p,rfl⟩:=i1.shape;exact⟨k,T,a,b,c,e,so,n1,cap,p,t,rfl,i1,i2,i3⟩
end
theorem z9L{a b c d:Int}(h:zc a b c d=true):a=0/\b=0/\c=0/\d=0:=by
 unfold zc at h;simpa using h
mutual
theorem z2R:∀t:RT,okT t=true->RtU t->∃n,Tq t n/\Vk n/\Wf Nmq n
 | .mk k T a b c d s p,h,hu=>by
   rw[okT,Bool.and_eq_true]at h;obtain⟨h1,h2⟩:=h;rw[RtU]at hu;obtain⟨ua,ub,uc,ud,us⟩:=hu;obtain⟨q,hq,hv,hw⟩:=z2S s h2 us;have hql:q.length=Qp s:=hq.length;obtain⟨a,rfl⟩:=Int.eq_ofNat_of_zero_le ua.1;obtain⟨b,rfl⟩:=Int.eq_ofNat_of_zero_le ub.1;obtain⟨c,rfl⟩:=Int.eq_ofNat_of_zero_le uc.1;obtain⟨d,rfl⟩:=Int.eq_ofNat_of_zero_le ud.1;have cw:=z5o a b c d (by omega) (by omega) (by omega) (by omega);have cl:=z5n a b c d (by omega) (by omega) (by omega) (by omega);have hk:0<=k:=by
    rcases Int.lt_or_le k 0 with h3|h3
    ·unfold okN at h1
     rw[if_neg (by omega),if_neg (by omega),if_neg (by omega),if_neg (by omega),if_neg (by omega),if_neg (by omega)]at h1;cases h1
    ·exact h3
   obtain⟨kd,rfl⟩:=Int.eq_ofNat_of_zero_le hk;have c0:zc (a:Int) (b:Int) (c:Int) (d:Int)=true->cls a b c d=0:=fun h3=>by
    have:=z9L h3;have ha:a=0:=by omega
    have hb:b=0:=by omega
    have hc:c=0:=by omega
    have hd:d=0:=by omega
    subst ha hb hc hd;rfl
   refine⟨.mk kd T (cls a b c d) q 0,?_,?_,?_⟩
   ·rw[Tq]
    exact⟨rfl,rfl,by rw[cw.1],by rw[cw.2.1],by rw[cw.2.2.1],by rw[cw.2.2.2],hq⟩
   ·rw[Vk]
    refine⟨?_,hv⟩;have hq0:((Qp s:Nat):Int)=0->q=[]:=fun h3=>List.eq_nil_of_length_eq_zero (by omega)
    unfold okN at h1;split at h1
    ·rename_i hk14
     simp only[Bool.and_eq_true,beq_iff_eq]at h1;rcases hk14 with h4|h4
     ·exact .inl ⟨by omega,Mb h1.1,c0 h1.2.1,hq0 h1.2.2⟩
     ·exact .inr (.inr (.inr (.inl ⟨by omega,Mb h1.1,c0 h1.2.1,hq0 h1.2.2⟩)))
    ·split at h1
     ·simp only[Bool.and_eq_true,beq_iff_eq]at h1
      exact .inr (.inl ⟨by omega,c0 h1.2.1,hq0 h1.2.2⟩)
     ·split at h1
      ·simp only[Bool.and_eq_true,beq_iff_eq]at h1
       exact .inr (.inr (.inl ⟨by omega,Mb h1.1,hq0 h1.2⟩))
      ·split at h1
       ·simp only[Bool.and_eq_true,beq_iff_eq]at h1
        exact .inr (.inr (.inr (.inr (.inl ⟨by omega,c0 h1.2.1,hq0 h1.2.2⟩))))
       ·split at h1
        ·simp only[Bool.and_eq_true,decide_eq_true_eq]at h1
         exact .inr (.inr (.inr (.inr (.inr (.inl ⟨by omega,Mb h1.1,c0 h1.2.1,by omega⟩)))))
        ·split at h1
         ·simp only[Bool.and_eq_true,beq_iff_eq]at h1
          exact .inr (.inr (.inr (.inr (.inr (.inr ⟨by omega,by omega,Mb h1.1,c0 h1.2.1,by omega⟩)))))
         ·cases h1
   ·rw[Wf]
    refine⟨fun e=> ?_,fun e=> ?_,cl,hw⟩
    ·subst e
     unfold okN at h1;rw[if_neg (by decide),if_pos (by decide)]at h1;simp only[Bool.and_eq_true,decide_eq_true_eq]at h1;omega
    ·subst e
     unfold okN at h1;rw[if_neg (by decide),if_neg (by decide),if_neg (by decide),if_pos (by decide)]at h1;simp only[Bool.and_eq_true]at h1;exact h1.1
theorem z2S:∀s:List RT,okL s=true->Vm s->∃q,TqL s q/\VkL q/\WfL Nmq q
 |[],_,_=>⟨[],by rw[TqL];trivial,by rw[VkL];trivial,by rw[WfL];trivial⟩
 |t::r,h,hu=>by
  rw[okL,Bool.and_eq_true]at h;rw[Vm]at hu;obtain⟨n,a1,a2,a3⟩:=z2R t h.1 hu.1;obtain⟨q,b1,b2,b3⟩:=z2S r h.2 hu.2;exact⟨n::q,by rw[TqL];exact⟨a1,b1⟩,by rw[VkL];exact⟨a2,b2⟩,by rw[WfL];exact⟨a3,b3⟩⟩
end
theorem z2T:∀{rs:List Rr},rs.all okR=true->RgU rs->∃ns,TqR rs ns/\∀x∈ns,Ruk Nmq x
 |[],_,_=>⟨[],by rw[TqR];trivial,fun x hx=>by simp at hx⟩
 |x::r,h,hu=>by
  rw[List.all_cons,Bool.and_eq_true]at h;obtain⟨ns,a1,a2⟩:=z2T h.2 (fun y hy=>hu y (by simp[hy]));have hx:=h.1;unfold okR at hx;rw[Bool.and_eq_true]at hx;obtain⟨n,b1,b2,b3⟩:=z2R x.2.1 hx.2 (hu x (by simp));refine⟨(x.1,n,0)::ns,by rw[TqR];exact⟨rfl,b1,a1⟩,fun y hy=> ?_⟩;rcases List.mem_cons.1 hy with rfl|hy
  ·exact⟨hx.1,b2,b3⟩
  ·exact a2 y hy
theorem z9M{rs:List Rr}(h:okG rs=true)(hu:RgU rs):∃ns,TqR rs ns/\(∀x∈ns,Ruk Nmq x)/\1<=ns.length/\ns.length<=64:=by
 unfold okG at h;simp only[Bool.and_eq_true,decide_eq_true_eq]at h;obtain⟨ns,h1,h2⟩:=z2T h.2.2 hu;have:=h1.len;exact⟨ns,h1,h2,by omega,by omega⟩
end
end Go.Proofs.YtlogolpcipiceaaGreatDoor
