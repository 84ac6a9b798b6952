/- Lemmas for the last text. Conditions: those that each names. -/
import Derived.Test.YtgmcjddjdidpjaaGreatDoorVO6ToS4
import Derived.ProofKit
import Derived.OpenShut
import Derived.Laws.IdiomArrays
import Derived.Lib.SmallJoins
set_option linter.unusedVariables false
set_option maxRecDepth 100000
set_option maxHeartbeats 8000000
namespace Go.Proofs.YtgmcjddjdidpjaaGreatDoor
open Go.Proofs.Tryz
section
open Go.ChangeShapes Go.WideShapes Go.ChangeAt Go.RowKit
mutual
def RtU:RT->Prop
 | .mk _ _ a b c d s _=>(0<=a/\a<18446744073709551616)/\(0<=b/\b<18446744073709551616)/\(0<=c/\c<18446744073709551616)/\(0<=d/\d<18446744073709551616)/\Uc s
def Uc:List RT->Prop
 |[]=>True
 |t::r=>RtU t/\Uc r
end
theorem Tryz.structNode:Tryz.prog.underlying 58=some (.struct (Tryz.prog.fieldsOf 58)):=by kernel_rfl
theorem Tryz.fieldsNode:(Tryz.prog.fieldsOf 58).toList.map (fun f=>(f.name,f.type,f.offset))=[("Kind",3,0),("Text",9,1),("Class",51,2),("Subs",56,6),("At",3,7)]:=by kernel_rfl
theorem Tryz.structRule:Tryz.prog.underlying 65=some (.struct (Tryz.prog.fieldsOf 65)):=by kernel_rfl
theorem Tryz.fieldsRule:(Tryz.prog.fieldsOf 65).toList.map (fun f=>(f.name,f.type,f.offset))=[("Name",9,0),("Body",58,1),("At",3,9)]:=by kernel_rfl
theorem Tryz.structGram:Tryz.prog.underlying 24=some (.struct (Tryz.prog.fieldsOf 24)):=by kernel_rfl
theorem Tryz.fieldsGram:(Tryz.prog.fieldsOf 24).toList.map (fun f=>(f.name,f.type,f.offset))=[("Rules",22,0)]:=by kernel_rfl
theorem Tryz.cellsNode:Tryz.prog.cellsOf 58=8:=by kernel_rfl
theorem Tryz.cellsRule:Tryz.prog.cellsOf 65=10:=by kernel_rfl
theorem Tryz.cellsGram:Tryz.prog.cellsOf 24=1:=by kernel_rfl
theorem Tryz.cellsCls:Tryz.prog.cellsOf 51=4:=by kernel_rfl
theorem Tryz.cellsInt:Tryz.prog.cellsOf 3=1:=by kernel_rfl
theorem Tryz.cellsStr:Tryz.prog.cellsOf 9=1:=by kernel_rfl
theorem Tryz.cellsNodes:Tryz.prog.cellsOf 56=1:=by kernel_rfl
theorem Tryz.cellsRules:Tryz.prog.cellsOf 22=1:=by kernel_rfl
theorem Tryz.cellsWord:Tryz.prog.cellsOf 49=1:=by kernel_rfl
theorem Tryz.arrayCls:Tryz.prog.underlying 51=some (.array 4 49):=by kernel_rfl
theorem Tryz.sliceNodes:Tryz.prog.underlying 56=some (.slice 58):=by kernel_rfl
theorem Tryz.sliceRules:Tryz.prog.underlying 22=some (.slice 65):=by kernel_rfl
theorem Gg{fs:Array Field}{l:List (String×TypeId×Nat)}(h:fs.toList.map (fun f=>(f.name,f.type,f.offset))=l)(i:Nat)(x:String×TypeId×Nat)(hx:l[i]? =some x):∃f,fs[i]? =some f/\f.type=x.2.1/\f.offset=x.2.2:=by
 rw[<-h,List.getElem?_map]at hx;cases hf:fs.toList[i]? with
 |none=>rw[hf]at hx;cases hx
 |some f=>
  rw[hf]at hx;simp only[Option.map_some,Option.some.injEq]at hx;refine⟨f,by rw[<-Array.getElem?_toList];exact hf,?_,?_⟩
  ·rw[<-hx]
  ·rw[<-hx]
theorem Sk{fs:Array Field}{l:List (String×TypeId×Nat)}(h:fs.toList.map (fun f=>(f.name,f.type,f.offset))=l):fs.size=l.length:=by
 rw[<-h,List.length_map,Array.length_toList]
theorem z3q{W:World}{B g:Nat}:∀(n o:Nat),(∀i,i<n->∃t cs,Qk W B t cs/\RtZ t/\RtU t/\∀j u,cs[j]? =some u->W.cell? ⟨g,o+i*8+j,none⟩=some u)->∃s:List RT,s.length=n/\Ql W B g o s/\Yg s/\Uc s
 |0,o,_=>⟨[],rfl,by rw[Ql];trivial,by rw[Yg];trivial,by rw[Uc];trivial⟩
 |n+1,o,h=>by
  obtain⟨t,cs,h1,h2,h3,h4⟩:=h 0 (by omega);obtain⟨s,e1,e2,e3,e4⟩:=z3q n (o+8) (fun i hi=>by
   obtain⟨t,cs,h1,h2,h3,h4⟩:=h (i+1) (by omega);refine⟨t,cs,h1,h2,h3,fun j u hj=> ?_⟩;have:=h4 j u hj;rw[show o+(i+1)*8+j=o+8+i*8+j by omega]at this;exact this)
  refine⟨t::s,by simp[e1],?_,by rw[Yg];exact⟨h2,e3⟩,by rw[Uc];exact⟨h3,e4⟩⟩;rw[Ql];refine⟨⟨cs,h1,fun j u hj=> ?_⟩,e2⟩;have:=h4 j u hj;rw[Nat.zero_mul,Nat.add_zero]at this;exact this
section
variable {H:Type} {enc:TypeId×Value->H} {W:World} {sp:Nat->Bool} {hl:Bool}
theorem z3r{a:Addr}{n:Nat}{cs:List Value}(h:W.cells? 0 (a.add (0*n)) n=some cs)(hn:0<n):a.spot=none:=by
 obtain⟨_,h2,h3⟩:=World.cells?_some h;have h0:=h3 0 hn;rw[Deep.add_add,Nat.zero_mul]at h0;obtain⟨c,hc⟩:∃c,cs[0]? =some c:=⟨_,List.getElem?_eq_getElem (by omega)⟩;rw[hc]at h0;have:=World.cell?_spot h0;simpa [Addr.add]using this
theorem Hx{b off k n:Nat}{cs:List Value}(h:W.cells? 0 ((⟨b,off,none⟩:Addr).add k) n=some cs)(hn:0<n):b<W.heap.size/\cs.length=n/\∀j u,cs[j]? =some u->W.cell? ⟨b,off+k+j,none⟩=some u:=by
 obtain⟨_,h2,h3⟩:=World.cells?_some h;have hc:∀j u,cs[j]? =some u->W.cell? ⟨b,off+k+j,none⟩=some u:=fun j u hj=>by
  have hjl:j<n:=by rw[<-h2];exact(List.getElem?_eq_some_iff.1 hj).1
  have:=h3 j hjl;rw[Deep.add_add,Addr.add_lit,hj]at this;rw[Nat.add_assoc];exact this
 exact⟨World.block_lt_of_cell? W ⟨b,off+k+0,none⟩ (hc 0 _ (List.getElem?_eq_getElem (by omega))),h2,hc⟩
theorem Sv:∀(N fuel:Nat) (cs:List Value) (x:DataW H×List MemPlace),fuel<N->DataW.trod enc prog W 0 sp hl fuel 58 cs=some x->∃t,Qk W W.heap.size t cs/\RtZ t/\RtU t
 |0,_,_,_,h,_=>by omega
 |N+1,fuel,cs,x,hN,h=>by
  obtain⟨xs,n,rfl,rfl,hlen,hxs,hf⟩:=DataW.trod_struct Tryz.structNode h;rw[Tryz.cellsNode]at hlen;rw[Sk Tryz.fieldsNode]at hxs
  match cs,hlen with
  |[c0,c1,c2,c3,c4,c5,c6,c7],_=>
  match xs,hxs with
  |[y0,y1,y2,y3,y4],_=>
  obtain⟨f0,g0,t0,o0⟩:=Gg Tryz.fieldsNode 0 _ rfl;obtain⟨f1,g1,t1,o1⟩:=Gg Tryz.fieldsNode 1 _ rfl;obtain⟨f2,g2,t2,o2⟩:=Gg Tryz.fieldsNode 2 _ rfl;obtain⟨f3,g3,t3,o3⟩:=Gg Tryz.fieldsNode 3 _ rfl;obtain⟨f4,g4,t4,o4⟩:=Gg Tryz.fieldsNode 4 _ rfl;have r0:=hf 0 f0 g0;have r1:=hf 1 f1 g1;have r2:=hf 2 f2 g2;have r3:=hf 3 f3 g3;have r4:=hf 4 f4 g4;simp only[t0,o0,t1,o1,t2,o2,t3,o3,t4,o4,Tryz.cellsInt,Tryz.cellsStr,Tryz.cellsCls,Tryz.cellsNodes,List.drop_zero,List.drop_succ_cons,List.take_succ_cons,List.take_zero,List.getElem?_cons_zero,List.getElem?_cons_succ]at r0 r1 r2 r3 r4;obtain⟨k,e0,_,w0⟩:=DataW.trod_int Tryz.underlying3 r0;obtain⟨T,e1,_,wT⟩:=DataW.trod_string Tryz.underlying9 r1;obtain⟨p,e7,_,w7⟩:=DataW.trod_int Tryz.underlying3 r4;obtain⟨z0,z1,z2,z3,m,_,q0,q1,q2,q3⟩:=trod_array4 Tryz.arrayCls Tryz.cellsWord r2;obtain⟨a,ea,_,wa⟩:=DataW.trod_int Tryz.underlying49 q0;obtain⟨b,eb,_,wb⟩:=DataW.trod_int Tryz.underlying49 q1;obtain⟨c,ec,_,wc⟩:=DataW.trod_int Tryz.underlying49 q2;obtain⟨d,ed,_,wd'⟩:=DataW.trod_int Tryz.underlying49 q3;simp only[List.cons.injEq,and_true]at e0 e1 e7 ea eb ec ed;subst e0 e1 e7 ea eb ec ed;have ba:=bounds_u64 wa;have bb:=bounds_u64 wb;have bc:=bounds_u64 wc;have bd:=bounds_u64 wd';have hTz:T.size<=9223372036854775807:=by unfold maxLen at wT;exact wT
  rcases DataW.trod_slice Tryz.sliceNodes r3 with⟨e6,_⟩|⟨ad,len,cap,elems,rest,m2,hm2,e6,_,_,hlc,hcm,hel,hev,_⟩
  ·simp only[List.cons.injEq,and_true]at e6
   subst e6;refine⟨.mk k T a b c d [] p,?_,?_,?_⟩
   ·rw[Qk]
    exact⟨none,0,rfl,.inl rfl⟩
   ·rw[RtZ,Yg]
    exact⟨hTz,trivial⟩
   ·rw[RtU,Uc]
    exact⟨by omega,by omega,by omega,by omega,trivial⟩
  ·simp only[List.cons.injEq,and_true]at e6
   subst e6;have key:∀i,i<len->∃cs' y,W.cells? 0 (ad.add (i*8)) 8=some cs'/\DataW.trod enc prog W 0 sp hl m2 58 cs'=some y:=fun i hi=>by
    have h1:=hev i hi;rw[List.getElem?_eq_getElem (by omega)]at h1;obtain⟨cs',h2,h3⟩:=Option.bind_eq_some_iff.1 h1;rw[Tryz.cellsNode]at h2;exact⟨cs',_,h2,h3⟩
   obtain⟨g,off,spot⟩:=ad;by_cases h0:len=0
   ·subst h0
    refine⟨.mk k T a b c d [] p,?_,?_,?_⟩
    ·rw[Qk]
     exact⟨_,cap,rfl,.inl rfl⟩
    ·rw[RtZ,Yg]
     exact⟨hTz,trivial⟩
    ·rw[RtU,Uc]
     exact⟨by omega,by omega,by omega,by omega,trivial⟩
   obtain⟨cs0,_,h00,_⟩:=key 0 (by omega);obtain rfl:spot=none:=z3r h00 (by omega);obtain⟨hgb,_,_⟩:=Hx h00 (by omega);obtain⟨s,l1,l2,l3,l4⟩:=z3q len off (fun i hi=>by
    obtain⟨cs',y,h2,h3⟩:=key i hi;obtain⟨_,_,s4⟩:=Hx h2 (by omega);obtain⟨t,i1,i2,i3⟩:=Sv N m2 cs' _ (by omega) h3;exact⟨t,cs',i1,i2,i3,s4⟩)
   have hrl:Qv s=len:=by rw[Xv,l1]
   refine⟨.mk k T a b c d s p,?_,?_,?_⟩
   ·rw[Qk]
    refine⟨some ⟨g,off,none⟩,cap,by rw[hrl],.inr ⟨?_,g,off,rfl,hgb,by rw[hrl];omega,l2⟩⟩;cases s with
    |nil=>exact absurd l1.symm h0
    |cons _ _=>rfl
   ·rw[RtZ]
    exact⟨hTz,l3⟩
   ·rw[RtU]
    exact⟨by omega,by omega,by omega,by omega,l4⟩
def RgU(rs:List Rr):Prop:=∀x∈rs,RtU x.2.1
theorem y0i{fuel:Nat}{cs:List Value}{x:DataW H×List MemPlace}(h:DataW.trod enc prog W 0 sp hl fuel 65 cs=some x):
  ∃r:Rr,(∃k T a b c d so n cap p,Qk W W.heap.size r.2.1 (r8 k T a b c d so n cap p)/\cs=.string r.1::(r8 k T a b c d so n cap p++[.int .i64 r.2.2]))/\r.1.size<=9223372036854775807/\RtZ r.2.1/\RtU r.2.1:=by
 obtain⟨xs,n,rfl,rfl,hlen,hxs,hf⟩:=DataW.trod_struct Tryz.structRule h;rw[Tryz.cellsRule]at hlen;rw[Sk Tryz.fieldsRule]at hxs
 match cs,hlen with
 |[c0,c1,c2,c3,c4,c5,c6,c7,c8,c9],_=>
 match xs,hxs with
 |[y0,y1,y2],_=>
 obtain⟨f0,g0,t0,o0⟩:=Gg Tryz.fieldsRule 0 _ rfl;obtain⟨f1,g1,t1,o1⟩:=Gg Tryz.fieldsRule 1 _ rfl;obtain⟨f2,g2,t2,o2⟩:=Gg Tryz.fieldsRule 2 _ rfl;have r0:=hf 0 f0 g0;have r1:=hf 1 f1 g1;have r2:=hf 2 f2 g2;simp only[t0,o0,t1,o1,t2,o2,Tryz.cellsInt,Tryz.cellsStr,Tryz.cellsNode,List.drop_zero,List.drop_succ_cons,List.take_succ_cons,List.take_zero,List.getElem?_cons_zero,List.getElem?_cons_succ]at r0 r1 r2;obtain⟨M,e0,_,wM⟩:=DataW.trod_string Tryz.underlying9 r0;obtain⟨q,e9,_,_⟩:=DataW.trod_int Tryz.underlying3 r2;obtain⟨t,i1,i2,i3⟩:=Sv _ n _ _ (Nat.lt_succ_self _) r1;simp only[List.cons.injEq,and_true]at e0 e9;subst e0 e9;obtain⟨k,T,a,b,c,d,so,n1,cap,p,e⟩:=i1.shape;refine⟨(M,t,q),⟨k,T,a,b,c,d,so,n1,cap,p,by rw[<-e];exact i1,?_⟩,by unfold maxLen at wM;exact wM,i2,i3⟩;rw[<-e];rfl
theorem z3s{fuel:Nat}{so:Option Addr}{n cap:Nat}{x:DataW H×List MemPlace}(h:DataW.trod enc prog W 0 sp hl fuel 22 [.slice so n cap]=some x):
  ∃rs,Qf W W.heap.size so n rs/\RgZ rs/\RgU rs:=by
 rcases DataW.trod_slice Tryz.sliceRules h with⟨e6,_⟩|⟨ad,len,cap',elems,rest,m2,hm2,e6,_,_,hlc,hcm,hel,hev,_⟩
 ·simp only[List.cons.injEq,and_true,Value.slice.injEq]at e6
  obtain⟨rfl,rfl,rfl⟩:=e6;exact⟨[],⟨rfl,by unfold maxLen;omega,fun j hj=>by simp at hj⟩,fun x hx=>by simp at hx,fun x hx=>by simp at hx⟩
 ·simp only[List.cons.injEq,and_true,Value.slice.injEq]at e6
  obtain⟨rfl,rfl,rfl⟩:=e6;have key:∀i,i<n->∃cs' y,W.cells? 0 (ad.add (i*10)) 10=some cs'/\DataW.trod enc prog W 0 sp hl m2 65 cs'=some y:=fun i hi=>by
   have h1:=hev i hi;rw[List.getElem?_eq_getElem (by omega)]at h1;obtain⟨cs',h2,h3⟩:=Option.bind_eq_some_iff.1 h1;rw[Tryz.cellsRule]at h2;exact⟨cs',_,h2,h3⟩
  obtain⟨g,off,spot⟩:=ad;by_cases h0:n=0
  ·subst h0
   exact⟨[],⟨rfl,by unfold maxLen;omega,fun j hj=>by simp at hj⟩,fun x hx=>by simp at hx,fun x hx=>by simp at hx⟩
  obtain⟨cs0,_,h00,_⟩:=key 0 (by omega);obtain rfl:spot=none:=z3r h00 (by omega);obtain⟨hgb,_,_⟩:=Hx h00 (by omega);have hall:∀i,∃r:Rr,i<n->Rk W W.heap.size g (off+i*10) r/\r.1.size<=9223372036854775807/\RtZ r.2.1/\RtU r.2.1:=fun i=>by
   by_cases hi:i<n
   ·obtain⟨cs',y,h2,h3⟩:=key i hi
    obtain⟨_,_,s4⟩:=Hx h2 (by omega);obtain⟨r,⟨k,T,a,b,c,d,so,n1,cap1,p,i1,rfl⟩,i2,i3,i4⟩:=y0i h3;exact⟨r,fun _=>⟨⟨k,T,a,b,c,d,so,n1,cap1,p,i1,s4 0 _ rfl,s4 1 _ rfl,s4 2 _ rfl,s4 3 _ rfl,s4 4 _ rfl,s4 5 _ rfl,s4 6 _ rfl,s4 7 _ rfl,s4 8 _ rfl,s4 9 _ rfl⟩,i2,i3,i4⟩⟩
   ·exact⟨(⟨#[]⟩,.mk 0 ⟨#[]⟩ 0 0 0 0 [] 0,0),fun h=>absurd h hi⟩
  obtain⟨f,hf⟩:=Classical.axiomOfChoice hall;have hmem:∀x∈(List.range n).map f,∃i,i<n/\f i=x:=fun x hx=>by
   obtain⟨i,h1,h2⟩:=List.mem_map.1 hx;exact⟨i,List.mem_range.1 h1,h2⟩
  refine⟨(List.range n).map f,⟨by simp,by omega,fun j hj=> ?_⟩,fun x hx=> ?_,fun x hx=> ?_⟩
  ·have hj':j<n:=by simpa using hj
   have e:((List.range n).map f)[j]=f j:=by rw[List.getElem_map,List.getElem_range]
   rw[e];exact⟨g,off,rfl,hgb,(hf j hj').1⟩
  ·obtain⟨i,hi,rfl⟩:=hmem x hx
   exact⟨(hf i hi).2.1,(hf i hi).2.2.1⟩
  ·obtain⟨i,hi,rfl⟩:=hmem x hx
   exact(hf i hi).2.2.2
theorem gram_arg{base:Nat}{v:Value}{d:DataW H}{ps:List MemPlace}(hv:Value.okWide prog W .any base 24 v)(h:DataW.Trod enc prog W 0 sp hl 24 v d ps):
  ∃so n cap rs,v=.agg #[.slice so n cap]/\Qf W W.heap.size so n rs/\RgZ rs/\RgU rs:=by
 obtain⟨cs,rfl,hsz⟩:=okWide_struct Tryz.structGram hv;rw[Tryz.cellsGram]at hsz;obtain⟨l⟩:=cs
 match l,hsz with
 |[c0],_=>
 obtain⟨fuel,hf⟩:=h;obtain⟨xs,n,rfl,hx,hlen,hxs,hf⟩:=DataW.trod_struct Tryz.structGram hf;rw[Sk Tryz.fieldsGram]at hxs
 match xs,hxs with
 |[y0],_=>
 obtain⟨f0,g0,t0,o0⟩:=Gg Tryz.fieldsGram 0 _ rfl;have r0:=hf 0 f0 g0;simp only[Value.cells,t0,o0,Tryz.cellsRules,List.drop_zero,List.take_succ_cons,List.take_zero,List.getElem?_cons_zero]at r0;have r1:=r0;rcases DataW.trod_slice Tryz.sliceRules r1 with⟨e6,_⟩|⟨ad,len,cap',elems,rest,m2,hm2,e6,_,_,hlc,hcm,hel,hev,_⟩
 ·simp only[List.cons.injEq,and_true]at e6
  subst e6;obtain⟨rs,h1,h2,h3⟩:=z3s r0;exact⟨_,_,_,rs,rfl,h1,h2,h3⟩
 ·simp only[List.cons.injEq,and_true]at e6
  subst e6;obtain⟨rs,h1,h2,h3⟩:=z3s r0;exact⟨_,_,_,rs,rfl,h1,h2,h3⟩
theorem y3T{base:Nat}{v:Value}{d:DataW H}{ps:List MemPlace}(hv:Value.okWide prog W .any base 58 v)(h:DataW.Trod enc prog W 0 sp hl 58 v d ps):
  ∃k T a b c e so n cap p t,v=.agg (r8 k T a b c e so n cap p).toArray/\Qk W W.heap.size t (r8 k T a b c e so n cap p)/\RtZ t/\RtU t:=by
 obtain⟨cs,rfl,hsz⟩:=okWide_struct Tryz.structNode hv;obtain⟨l⟩:=cs;obtain⟨fuel,hf⟩:=h;have hf':DataW.trod enc prog W 0 sp hl fuel 58 l=some (d,ps):=hf;obtain⟨t,i1,i2,i3⟩:=Sv _ fuel _ _ (Nat.lt_succ_self _) hf';obtain⟨k,T,a,b,c,e,so,n1,cap,p,rfl⟩:=i1.shape;exact⟨k,T,a,b,c,e,so,n1,cap,p,t,rfl,i1,i2,i3⟩
end
theorem y0j{a b c d:Int}(h:zc a b c d=true):a=0/\b=0/\c=0/\d=0:=by
 unfold zc at h;simpa using h
mutual
theorem z3t:∀t:RT,okT t=true->RtU t->∃n,Tq t n/\Vk n/\Wf Nmq n
 | .mk k T a b c d s p,h,hu=>by
   rw[okT,Bool.and_eq_true]at h;obtain⟨h1,h2⟩:=h;rw[RtU]at hu;obtain⟨ua,ub,uc,ud,us⟩:=hu;obtain⟨q,hq,hv,hw⟩:=z3u s h2 us;have hql:q.length=Qv s:=hq.length;obtain⟨a,rfl⟩:=Int.eq_ofNat_of_zero_le ua.1;obtain⟨b,rfl⟩:=Int.eq_ofNat_of_zero_le ub.1;obtain⟨c,rfl⟩:=Int.eq_ofNat_of_zero_le uc.1;obtain⟨d,rfl⟩:=Int.eq_ofNat_of_zero_le ud.1;have cw:=Tb a b c d (by omega) (by omega) (by omega) (by omega);have cl:=z4V a b c d (by omega) (by omega) (by omega) (by omega);have hk:0<=k:=by
    rcases Int.lt_or_le k 0 with h3|h3
    ·unfold okN at h1
     rw[if_neg (by omega),if_neg (by omega),if_neg (by omega),if_neg (by omega),if_neg (by omega),if_neg (by omega)]at h1;cases h1
    ·exact h3
   obtain⟨kd,rfl⟩:=Int.eq_ofNat_of_zero_le hk;have c0:zc (a:Int) (b:Int) (c:Int) (d:Int)=true->cls a b c d=0:=fun h3=>by
    have:=y0j h3;have ha:a=0:=by omega
    have hb:b=0:=by omega
    have hc:c=0:=by omega
    have hd:d=0:=by omega
    subst ha hb hc hd;rfl
   refine⟨.mk kd T (cls a b c d) q 0,?_,?_,?_⟩
   ·rw[Tq]
    exact⟨rfl,rfl,by rw[cw.1],by rw[cw.2.1],by rw[cw.2.2.1],by rw[cw.2.2.2],hq⟩
   ·rw[Vk]
    refine⟨?_,hv⟩;have hq0:((Qv s:Nat):Int)=0->q=[]:=fun h3=>List.eq_nil_of_length_eq_zero (by omega)
    unfold okN at h1;split at h1
    ·rename_i hk14
     simp only[Bool.and_eq_true,beq_iff_eq]at h1;rcases hk14 with h4|h4
     ·exact .inl ⟨by omega,Av h1.1,c0 h1.2.1,hq0 h1.2.2⟩
     ·exact .inr (.inr (.inr (.inl ⟨by omega,Av h1.1,c0 h1.2.1,hq0 h1.2.2⟩)))
    ·split at h1
     ·simp only[Bool.and_eq_true,beq_iff_eq]at h1
      exact .inr (.inl ⟨by omega,c0 h1.2.1,hq0 h1.2.2⟩)
     ·split at h1
      ·simp only[Bool.and_eq_true,beq_iff_eq]at h1
       exact .inr (.inr (.inl ⟨by omega,Av h1.1,hq0 h1.2⟩))
      ·split at h1
       ·simp only[Bool.and_eq_true,beq_iff_eq]at h1
        exact .inr (.inr (.inr (.inr (.inl ⟨by omega,c0 h1.2.1,hq0 h1.2.2⟩))))
       ·split at h1
        ·simp only[Bool.and_eq_true,decide_eq_true_eq]at h1
         exact .inr (.inr (.inr (.inr (.inr (.inl ⟨by omega,Av h1.1,c0 h1.2.1,by omega⟩)))))
        ·split at h1
         ·simp only[Bool.and_eq_true,beq_iff_eq]at h1
          exact .inr (.inr (.inr (.inr (.inr (.inr ⟨by omega,by omega,Av h1.1,c0 h1.2.1,by omega⟩)))))
         ·cases h1
   ·rw[Wf]
    refine⟨fun e=> ?_,fun e=> ?_,cl,hw⟩
    ·subst e
     unfold okN at h1;rw[if_neg (by decide),if_pos (by decide)]at h1;simp only[Bool.and_eq_true,decide_eq_true_eq]at h1;omega
    ·subst e
     unfold okN at h1;rw[if_neg (by decide),if_neg (by decide),if_neg (by decide),if_pos (by decide)]at h1;simp only[Bool.and_eq_true]at h1;exact h1.1
theorem z3u:∀s:List RT,okL s=true->Uc s->∃q,TqL s q/\VkL q/\WfL Nmq q
 |[],_,_=>⟨[],by rw[TqL];trivial,by rw[VkL];trivial,by rw[WfL];trivial⟩
 |t::r,h,hu=>by
  rw[okL,Bool.and_eq_true]at h;rw[Uc]at hu;obtain⟨n,a1,a2,a3⟩:=z3t t h.1 hu.1;obtain⟨q,b1,b2,b3⟩:=z3u r h.2 hu.2;exact⟨n::q,by rw[TqL];exact⟨a1,b1⟩,by rw[VkL];exact⟨a2,b2⟩,by rw[WfL];exact⟨a3,b3⟩⟩
end
theorem z3v:∀{rs:List Rr},rs.all okR=true->RgU rs->∃ns,TqR rs ns/\∀x∈ns,Ruk Nmq x
 |[],_,_=>⟨[],by rw[TqR];trivial,fun x hx=>by simp at hx⟩
 |x::r,h,hu=>by
  rw[List.all_cons,Bool.and_eq_true]at h;obtain⟨ns,a1,a2⟩:=z3v h.2 (fun y hy=>hu y (by simp[hy]));have hx:=h.1;unfold okR at hx;rw[Bool.and_eq_true]at hx;obtain⟨n,b1,b2,b3⟩:=z3t x.2.1 hx.2 (hu x (by simp));refine⟨(x.1,n,0)::ns,by rw[TqR];exact⟨rfl,b1,a1⟩,fun y hy=> ?_⟩;rcases List.mem_cons.1 hy with rfl|hy
  ·exact⟨hx.1,b2,b3⟩
  ·exact a2 y hy
theorem z3w{rs:List Rr}(h:okG rs=true)(hu:RgU rs):∃ns,TqR rs ns/\(∀x∈ns,Ruk Nmq x)/\1<=ns.length/\ns.length<=64:=by
 unfold okG at h;simp only[Bool.and_eq_true,decide_eq_true_eq]at h;obtain⟨ns,h1,h2⟩:=z3v h.2.2 hu;have:=h1.len;exact⟨ns,h1,h2,by omega,by omega⟩
end
open Go.RowKit Go.Shelf
theorem Sw{M:ByteArray}(h:nmS M=true):1<=M.size:=by
 rcases Nat.lt_or_ge 0 M.size with h1|h1
 ·exact h1
 ·have e:M={data:=#[]}:=by
   apply ByteArray.ext;apply Array.ext';exact List.eq_nil_of_length_eq_zero (by have:M.data.size=M.size:=rfl;rw[Array.length_toList];omega)
  subst e
  revert h
  decide+kernel
theorem Hj(over:Nat)(n:Nd):sz (pN qT cT n)<=sz (pP qT cT over n):=by
 unfold pP;split
 ·rw[sz,Vj];omega
 ·exact Nat.le_refl _
mutual
theorem Sy:∀(t:RT) (n:Nd),Tq t n->Vk n->Wf Nmq n->(rfT t).length<=sz (pN qT cT n)
 | .mk k T a b c d s p,.mk kd T' C s' p',hq,hv,hw=>by
   rw[Tq]at hq;obtain⟨hk,hT,_,_,_,_,hs⟩:=hq;rw[Wf]at hw;rw[Vk]at hv;rw[rfT];by_cases h5:kd=5
   ·rw[if_pos (by omega)]
    have h1:1<=T'.size:=Sw (hw.2.1 h5);rw[h5,pN];simp[sz];exact h1
   ·rw[if_neg (by omega)]
    have hB:∀over sep,(rfL s).length<=sz (pS qT cT over sep s'):=fun over sep=>by
     cases s with
     |nil=>rw[rfL];exact Nat.zero_le _
     |cons t r=>
      cases s' with
      |nil=>simp[TqL]at hs
      |cons n q=>
       rw[TqL]at hs;have hvl:=hv.2;rw[VkL]at hvl;have hwl:=hw.2.2.2;rw[WfL]at hwl;have i1:=Sy t n hs.1 hvl.1 hwl.1;have i2:=z3x r q over sep hs.2 hvl.2 hwl.2;have i3:=Hj over n;rw[rfL,List.length_append,Dx,Vj];omega
    have h0:kd<=4->(rfL s).length=0:=fun h=>by
     have e:s'=[]:=by
      rcases hv.1 with h1|h1|h1|h1|h1|h1|h1
      ·exact h1.2.2.2
      ·exact h1.2.2
      ·exact h1.2.2
      ·exact h1.2.2.2
      ·omega
      ·omega
      ·omega
     have:=hB 0 bE;rw[e,pS,sz]at this;omega
    rw[pN]
    repeat' split
    all_goals first
     |(rw[h0 (by omega)];exact Nat.zero_le _)
     |exact hB _ _
     |(rw[sz];exact Nat.le_trans (hB _ _) (Nat.le_add_left _ _))
     |(rw[Vj];exact Nat.le_trans (hB _ _) (Nat.le_add_right _ _))
     |omega
theorem z3x:∀(s:List RT) (q:List Nd) (over:Nat) (sep:ByteArray),TqL s q->VkL q->WfL Nmq q->(rfL s).length<=sz (pB qT cT over sep q)
 |[],_,_,_,_,_,_=>by rw[rfL];exact Nat.zero_le _
 |t::r,[],_,_,h,_,_=>by simp[TqL]at h
 |t::r,n::q,over,sep,h,hv,hw=>by
  rw[TqL]at h;rw[VkL]at hv;rw[WfL]at hw;have i1:=Sy t n h.1 hv.1 hw.1;have i2:=z3x r q over sep h.2 hv.2 hw.2;have i3:=Hj over n;rw[rfL,List.length_append,Dj,sz,Vj];omega
end
theorem Aw:∀{rs:List Rr} {ns:List Rl},TqR rs ns->(∀x∈ns,Ruk Nmq x)->∀x∈rs,(rfT x.2.1).length<=sz (pR qT cT ns)
 |[],_,_,_,x,hx=>by simp at hx
 |a::r,[],h,_,_,_=>by simp[TqR]at h
 |a::r,b::q,h,hk,x,hx=>by
  rw[TqR]at h;rw[pR,sz,sz,Vj,sz];rcases List.mem_cons.1 hx with rfl|hx
  ·have hb:=hk b (by simp)
   have:=Sy _ _ h.2.1 hb.2.1 hb.2.2;omega
  ·have:=Aw h.2.2 (fun y hy=>hk y (List.mem_cons_of_mem _ hy)) x hx
   omega
theorem Nk(so:Option Addr)(n cap:Nat)(A E:Value)(w:World)
  (HP:Hid (∀W:World,Below w.heap.size w W->Calls prog 139 #[.agg #[.slice so n cap]] W fun e w'=>e=.returned (.tuple #[A,E])/\Below W.heap.size W w')):
  Calls prog 82 #[.agg #[.slice so n cap]] w fun e w'=>e=.returned E/\Below w.heap.size w w':=by
 have HB1:Hid (Below w.heap.size w (w.alloc (.cells #[.slice so n cap] 24))):=(Below.refl _ w).alloc L0q _;go_enter func82,ntmps82
 go_wp2_with(first|(go_at_call 139;refine(HP.out _ HB1.out).mono ?_;rintro e wq ⟨rfl,hbq⟩;have HBq:Hid (Below w.heap.size w wq):=HB1.out.trans (hbq.mono HB1.out.size)))
 go_ret;exact⟨rfl,HBq.out⟩
def RtA(rs:List Rr)(E:Value):Prop:=(∃c:Int,(c=2∨c=20)/\E=.iface 34 (.int .i64 c))∨(E=.nilIface/\okG rs=true/\∀x∈rs,(rfT x.2.1).length<=8192)
theorem y0k(so:Option Addr)(n cap:Nat)(rs:List Rr)(B:Nat)(w:World)(hz:RgZ rs)(hu:RgU rs)(h:Qf w B so n rs)(hB:B<=w.heap.size)(hT:TabIs w):
  ∃E,RtA rs E/\∀W:World,Below w.heap.size w W->Calls prog 82 #[.agg #[.slice so n cap]] W fun e w'=>e=.returned E/\Below W.heap.size W w':=by
 cases hk:okG rs with
 |false=>
  refine⟨_,.inl ⟨20,.inr rfl,rfl⟩,fun W hW=>Nk so n cap (.string ⟨#[]⟩) _ W (hid fun W' hW'=> ?_)⟩;have hb:Below w.heap.size w W':=hW.trans (hW'.mono hW.size);exact z2Y so n cap rs B W' hz (h.below (hb.mono hB)) (Nat.le_trans hB hb.size) hk
 |true=>
  obtain⟨ns,hq,hx,_,_⟩:=z3w hk hu;have hp:∀A E,Jc ns=.tuple #[A,E]->∀W:World,Below w.heap.size w W->Calls prog 82 #[.agg #[.slice so n cap]] W fun e w'=>e=.returned E/\Below W.heap.size W w':=fun A E he W hW=>Nk so n cap A E W (hid fun W' hW'=>by
   have hb:Below w.heap.size w W':=hW.trans (hW'.mono hW.size);have:=Aj so n cap rs ns B W' hz (h.below (hb.mono hB)) (Nat.le_trans hB hb.size) hk hq hx (hT.below hb hT.lt);rw[he]at this;exact this)
  rcases Nat.lt_or_ge 8192 (sz (pR qT cT ns))with h1|h1
  ·exact⟨_,.inl ⟨2,.inl rfl,rfl⟩,hp _ _ (Eb h1)⟩
  ·rcases Nat.lt_or_ge 24 (dR ns)with h2|h2
   ·exact⟨_,.inl ⟨20,.inr rfl,rfl⟩,hp _ _ (Eh h1 h2)⟩
   ·exact⟨_,.inr ⟨rfl,hk,fun x hx'=>Nat.le_trans (Aw hq hx x hx') h1⟩,hp _ _ (Kh h1 h2)⟩
open Go.Maps
attribute [local go_sem] Oper.semAt_some
theorem z3y(so:Option Addr)(n cap:Nat)(c:Int)(w:World)
  (HP:Hid (∀W:World,Below w.heap.size w W->Calls prog 82 #[.agg #[.slice so n cap]] W fun e w'=>e=.returned (.iface 34 (.int .i64 c))/\Below W.heap.size W w'))(m:Nat):
  CallsIn Fence.wide (m+5) prog 56 #[.agg #[.slice so n cap]] w fun e w'=>e=.returned (.tuple #[.map none,.iface 34 (.int .i64 c)])/\Below w.heap.size w w':=by
 obtain⟨W0,hW0⟩:∃W0,W0=((w.alloc (.cells #[.slice so n cap] 24)).alloc (.cells #[.map none] 102)).alloc (.cells #[.nilIface] 28):=⟨_,rfl⟩;have hB0:Below w.heap.size w W0:=by rw[hW0];exact(((Below.refl _ w).alloc L0q _).alloc (by simp) _).alloc (by simp;omega) _
 have c2:W0.heap[w.heap.size+1]? =some (.cells #[.map none] 102):=by
  rw[hW0];exact(Below.heap_alloc _ _ _ (by simp)).trans (Qx _ _ (by simp))
 have c3:W0.heap[w.heap.size+1+1]? =some (.cells #[.nilIface] 28):=by
  rw[hW0];exact Qx _ _ (by simp)
 have hs0:W0.heap.size=w.heap.size+1+1+1:=by rw[hW0];simp
 have HP0:=hid (HP.out W0 hB0);refine callsIn_of_wp_marks func56 rfl trivial ?_ rfl;simp only[ntmps56,List.size_toArray,List.length_cons,List.length_nil,Nat.reduceAdd,Nat.reduceSub,Array.replicate_succ,Array.replicate_zero,List.push_toArray,List.append_toArray,List.nil_append,List.cons_append]
 gi_wp2
 rw[<-hW0];clear hW0;refine⟨trivial,?_⟩;refine(callsIn_wide.2 HP0.out).mono ?_;rintro e W1 ⟨rfl,hb1⟩;have d2:=(hb1.block _ (by omega)).trans c2;have d3:=(hb1.block _ (by omega)).trans c3;have hs1:=hb1.size;have HBw:Hid (Below w.heap.size w W1):=hB0.trans (hb1.mono hB0.size);obtain⟨x2,e2⟩:=Qj d2;obtain⟨x3,e3⟩:=Qj d3;have l2:=Qz d2;have l3:=Qz d3;clear HP0 HP c2 c3
 gi_wp2
 have b2:Boxed W1 (w.heap.size+1) 102 (.map none):=d2;have b3:Boxed W1 (w.heap.size+1+1) 28 .nilIface:=d3;have y1:=((b2.set (.map none)).other (B':=w.heap.size+1+1) (by omega) (.iface 34 (.int .i64 c))).cell;have y2:=((b3.other (B':=w.heap.size+1) (by omega) (.map none)).set (.iface 34 (.int .i64 c))).cell;refine⟨.tuple #[.map none,.iface 34 (.int .i64 c)],by simp[results,Tryz.f56,go_sem,y1,y2],rfl,?_⟩;exact(HBw.out.setCell (p:=⟨w.heap.size+1,0,none⟩) (by show w.heap.size<=_+1;omega) _).setCell (p:=⟨w.heap.size+1+1,0,none⟩) (by show w.heap.size<=_+1+1;omega) _
def Zj(X:Option (Int ⊕ (Int×Int)))(S:Nat)(w':World)(v:Value):Prop:=match X with
 |none=>v=.nilIface
 |some (.inl c)=>v=.iface 34 (.int .i64 c)
 |some (.inr q)=>∃g,v=.iface 81 (.pointer (some ⟨g,0,none⟩))/\S<=g/\w'.heap[g]? =some (.cells #[.int .i64 q.1,.int .i64 q.2] 84)
def CkX(rs:List Rr)(X:Option (Int ⊕ (Int×Int))):Prop:=match X with
 |none=>okG rs=true/\ckR rs=none/\∀x∈rs,(rfT x.2.1).length<=8192
 |some (.inl c)=>c=2∨c=20
 |some (.inr q)=>okG rs=true/\ckR rs=some q
theorem Zj.shape{X:Option (Int ⊕ (Int×Int))}{S:Nat}{w':World}{v:Value}(h:Zj X S w' v)(hX:X≠none):∃t u,v=.iface t u:=by
 match X,hX with
 |some (.inl c),_=>exact⟨_,_,h⟩
 |some (.inr q),_=>
  obtain⟨g,h1,_⟩:=h;exact⟨_,_,h1⟩
mutual
theorem Qk.upto{w:World}{B B':Nat}(hB:B<=B'):∀(t:RT) (cs:List Value),Qk w B t cs->Qk w B' t cs
 | .mk k T a b c d s p,cs,ht=>by
   rw[Qk]at ht ⊢;obtain⟨so,cap,rfl,ht⟩:=ht;refine⟨so,cap,rfl,?_⟩;rcases ht with h1|⟨h1,g,o,h2,h3,h4,h5⟩
   ·exact .inl h1
   ·exact .inr ⟨h1,g,o,h2,by omega,h4,Ql.upto hB s g o h5⟩
theorem Ql.upto{w:World}{B B':Nat}(hB:B<=B'):∀(s:List RT) (g o:Nat),Ql w B g o s->Ql w B' g o s
 |[],g,o,_=>by rw[Ql];trivial
 |t::r,g,o,ht=>by
  rw[Ql]at ht ⊢;obtain⟨⟨cs,h1,h2⟩,h3⟩:=ht;exact⟨⟨cs,Qk.upto hB t cs h1,h2⟩,Ql.upto hB r g _ h3⟩
end
theorem Qf.upto{w:World}{B B' n:Nat}{so:Option Addr}{rs:List Rr}(h:Qf w B so n rs)(hB:B<=B'):Qf w B' so n rs:=
 ⟨h.1,h.2.1,fun j hj=>by
   obtain⟨g,o,h1,h2,k,T,a,b,c,d,s',n',cap,p,h3,h4⟩:=h.2.2 j hj;exact⟨g,o,h1,by omega,k,T,a,b,c,d,s',n',cap,p,Qk.upto hB _ _ h3,h4⟩⟩
theorem y3U(so:Option Addr)(n cap:Nat)(rs:List Rr)(B:Nat)(w:World)(hz:RgZ rs)(hu:RgU rs)(h:Qf w B so n rs)(hB:B<=w.heap.size)(hT:TabIs w):
  ∃X,CkX rs X/\∀W:World,Below w.heap.size w W->Calls prog 56 #[.agg #[.slice so n cap]] W fun e w'=>∃m v,e=.returned (.tuple #[m,v])/\Zj X W.heap.size w' v/\(X=none->∃M,m=.map (some M)/\W.heap.size<=M/\Pm w' M (nmL rs))/\(X≠none->m=.map none)/\Below W.heap.size W w':=by
 obtain⟨E,hE,hR⟩:=y0k so n cap rs B w hz hu h hB hT;have hTg:3<w.heap.size:=hT.lt;have hRW:∀W:World,Below w.heap.size w W->Hid (∀W':World,Below W.heap.size W W'->Calls prog 82 #[.agg #[.slice so n cap]] W' fun e w'=>e=.returned E/\Below W'.heap.size W' w'):=fun W hW=>hid fun W' hW'=>hR W' (hW.trans (hW'.mono hW.size))
 rcases hE with⟨c,hc,rfl⟩|⟨rfl,hok,hl⟩
 ·refine⟨some (.inl c),hc,fun W hW=>(callsIn_wide.1 (z3y so n cap c W (hRW W hW) 0)).mono fun e w' he=> ?_⟩
  exact⟨_,_,he.1,rfl,(fun h=>by cases h),fun _=>rfl,he.2⟩
 ·have hC:∀W:World,Below w.heap.size w W->Calls prog 56 #[.agg #[.slice so n cap]] W (CkP W rs):=fun W hW=>callsIn_wide.1 (z2N so n cap rs W ((h.below (hW.mono hB)).upto (Nat.le_trans hB hW.size)) (by have:=hW.size;omega) (hid hz) (hRW W hW) 0)
  cases hk:ckR rs with
  |none=>
   refine⟨none,⟨hok,hk,hl⟩,fun W hW=>(hC W hW).mono fun e w' he=> ?_⟩;obtain⟨hb,⟨c,p,g,h1,_⟩|⟨M,_,h2,h3,h4⟩⟩:=he
   ·rw[hk]at h1;cases h1
   ·exact⟨_,_,h2,rfl,fun _=>⟨M,rfl,h3,h4⟩,fun h=>absurd rfl h,hb⟩
  |some q=>
   refine⟨some (.inr q),⟨hok,hk⟩,fun W hW=>(hC W hW).mono fun e w' he=> ?_⟩;obtain⟨hb,⟨c,p,g,h1,h2,h3,h4⟩|⟨M,h1,_⟩⟩:=he
   ·rw[hk]at h1
    cases h1;exact⟨_,_,h2,⟨g,rfl,h3,h4⟩,(fun h=>by cases h),fun _=>rfl,hb⟩
   ·rw[hk]at h1;cases h1
end Go.Proofs.YtgmcjddjdidpjaaGreatDoor
