/- Lemmas for the last text. Conditions: those that each names. -/
import Derived.Test.YtlogolpcipiceaaGreatDoorVO6ToS4
import Derived.ProofKit
import Derived.OpenShut
import Derived.Laws.IdiomArrays
import Derived.Lib.SmallJoins
set_option linter.unusedVariables false
set_option maxRecDepth 100000
set_option maxHeartbeats 8000000
namespace Go.Proofs.YtlogolpcipiceaaGreatDoor
open Go.Proofs.Tryz
section
open Go.ChangeShapes Go.WideShapes Go.ChangeAt Go.RowKit
mutual
def RtU:RT->Prop
 | .mk _ _ a b c d s _=>(0<=a/\a<18446744073709551616)/\(0<=b/\b<18446744073709551616)/\(0<=c/\c<18446744073709551616)/\(0<=d/\d<18446744073709551616)/\Uz s
def Uz:List RT->Prop
 |[]=>True
 |t::r=>RtU t/\Uz r
end
theorem Tryz.structNode:Tryz.prog.underlying 71=some (.struct (Tryz.prog.fieldsOf 71)):=by kernel_rfl
theorem Tryz.fieldsNode:(Tryz.prog.fieldsOf 71).toList.map (fun f=>(f.name,f.type,f.offset))=[("Kind",3,0),("Text",9,1),("Class",68,2),("Subs",69,6),("At",3,7)]:=by kernel_rfl
theorem Tryz.structRule:Tryz.prog.underlying 73=some (.struct (Tryz.prog.fieldsOf 73)):=by kernel_rfl
theorem Tryz.fieldsRule:(Tryz.prog.fieldsOf 73).toList.map (fun f=>(f.name,f.type,f.offset))=[("Name",9,0),("Body",71,1),("At",3,9)]:=by kernel_rfl
theorem Tryz.structGram:Tryz.prog.underlying 24=some (.struct (Tryz.prog.fieldsOf 24)):=by kernel_rfl
theorem Tryz.fieldsGram:(Tryz.prog.fieldsOf 24).toList.map (fun f=>(f.name,f.type,f.offset))=[("Rules",22,0)]:=by kernel_rfl
theorem Tryz.cellsNode:Tryz.prog.cellsOf 71=8:=by kernel_rfl
theorem Tryz.cellsRule:Tryz.prog.cellsOf 73=10:=by kernel_rfl
theorem Tryz.cellsGram:Tryz.prog.cellsOf 24=1:=by kernel_rfl
theorem Tryz.cellsCls:Tryz.prog.cellsOf 68=4:=by kernel_rfl
theorem Tryz.cellsInt:Tryz.prog.cellsOf 3=1:=by kernel_rfl
theorem Tryz.cellsStr:Tryz.prog.cellsOf 9=1:=by kernel_rfl
theorem Tryz.cellsNodes:Tryz.prog.cellsOf 69=1:=by kernel_rfl
theorem Tryz.cellsRules:Tryz.prog.cellsOf 22=1:=by kernel_rfl
theorem Tryz.cellsWord:Tryz.prog.cellsOf 66=1:=by kernel_rfl
theorem Tryz.arrayCls:Tryz.prog.underlying 68=some (.array 4 66):=by kernel_rfl
theorem Tryz.sliceNodes:Tryz.prog.underlying 69=some (.slice 71):=by kernel_rfl
theorem Tryz.sliceRules:Tryz.prog.underlying 22=some (.slice 73):=by kernel_rfl
theorem Jc{fs:Array Field}{l:List (String×TypeId×Nat)}(h:fs.toList.map (fun f=>(f.name,f.type,f.offset))=l)(i:Nat)(x:String×TypeId×Nat)(hx:l[i]? =some x):∃f,fs[i]? =some f/\f.type=x.2.1/\f.offset=x.2.2:=by
 rw[<-h,List.getElem?_map]at hx;cases hf:fs.toList[i]? with
 |none=>rw[hf]at hx;cases hx
 |some f=>
  rw[hf]at hx;simp only[Option.map_some,Option.some.injEq]at hx;refine⟨f,by rw[<-Array.getElem?_toList];exact hf,?_,?_⟩
  ·rw[<-hx]
  ·rw[<-hx]
theorem Hv{fs:Array Field}{l:List (String×TypeId×Nat)}(h:fs.toList.map (fun f=>(f.name,f.type,f.offset))=l):fs.size=l.length:=by
 rw[<-h,List.length_map,Array.length_toList]
theorem z3u{W:World}{B g:Nat}:∀(n o:Nat),(∀i,i<n->∃t cs,Qj W B t cs/\RtZ t/\RtU t/\∀j u,cs[j]? =some u->W.cell? ⟨g,o+i*8+j,none⟩=some u)->∃s:List RT,s.length=n/\Ql W B g o s/\Yd s/\Uz s
 |0,o,_=>⟨[],rfl,by rw[Ql];trivial,by rw[Yd];trivial,by rw[Uz];trivial⟩
 |n+1,o,h=>by
  obtain⟨t,cs,h1,h2,h3,h4⟩:=h 0 (by omega);obtain⟨s,e1,e2,e3,e4⟩:=z3u n (o+8) (fun i hi=>by
   obtain⟨t,cs,h1,h2,h3,h4⟩:=h (i+1) (by omega);refine⟨t,cs,h1,h2,h3,fun j u hj=> ?_⟩;have:=h4 j u hj;rw[show o+(i+1)*8+j=o+8+i*8+j by omega]at this;exact this)
  refine⟨t::s,by simp[e1],?_,by rw[Yd];exact⟨h2,e3⟩,by rw[Uz];exact⟨h3,e4⟩⟩;rw[Ql];refine⟨⟨cs,h1,fun j u hj=> ?_⟩,e2⟩;have:=h4 j u hj;rw[Nat.zero_mul,Nat.add_zero]at this;exact this
section
variable {H:Type} {enc:TypeId×Value->H} {W:World} {sp:Nat->Bool} {hl:Bool}
theorem z3v{a:Addr}{n:Nat}{cs:List Value}(h:W.cells? 0 (a.add (0*n)) n=some cs)(hn:0<n):a.spot=none:=by
 obtain⟨_,h2,h3⟩:=World.cells?_some h;have h0:=h3 0 hn;rw[Deep.add_add,Nat.zero_mul]at h0;obtain⟨c,hc⟩:∃c,cs[0]? =some c:=⟨_,List.getElem?_eq_getElem (by omega)⟩;rw[hc]at h0;have:=World.cell?_spot h0;simpa [Addr.add]using this
theorem Hw{b off k n:Nat}{cs:List Value}(h:W.cells? 0 ((⟨b,off,none⟩:Addr).add k) n=some cs)(hn:0<n):b<W.heap.size/\cs.length=n/\∀j u,cs[j]? =some u->W.cell? ⟨b,off+k+j,none⟩=some u:=by
 obtain⟨_,h2,h3⟩:=World.cells?_some h;have hc:∀j u,cs[j]? =some u->W.cell? ⟨b,off+k+j,none⟩=some u:=fun j u hj=>by
  have hjl:j<n:=by rw[<-h2];exact(List.getElem?_eq_some_iff.1 hj).1
  have:=h3 j hjl;rw[Deep.add_add,Addr.add_lit,hj]at this;rw[Nat.add_assoc];exact this
 exact⟨World.block_lt_of_cell? W ⟨b,off+k+0,none⟩ (hc 0 _ (List.getElem?_eq_getElem (by omega))),h2,hc⟩
theorem Tw:∀(N fuel:Nat) (cs:List Value) (x:DataW H×List MemPlace),fuel<N->DataW.trod enc prog W 0 sp hl fuel 71 cs=some x->∃t,Qj W W.heap.size t cs/\RtZ t/\RtU t
 |0,_,_,_,h,_=>by omega
 |N+1,fuel,cs,x,hN,h=>by
  obtain⟨xs,n,rfl,rfl,hlen,hxs,hf⟩:=DataW.trod_struct Tryz.structNode h;rw[Tryz.cellsNode]at hlen;rw[Hv Tryz.fieldsNode]at hxs
  match cs,hlen with
  |[c0,c1,c2,c3,c4,c5,c6,c7],_=>
  match xs,hxs with
  |[y0,y1,y2,y3,y4],_=>
  obtain⟨f0,g0,t0,o0⟩:=Jc Tryz.fieldsNode 0 _ rfl;obtain⟨f1,g1,t1,o1⟩:=Jc Tryz.fieldsNode 1 _ rfl;obtain⟨f2,g2,t2,o2⟩:=Jc Tryz.fieldsNode 2 _ rfl;obtain⟨f3,g3,t3,o3⟩:=Jc Tryz.fieldsNode 3 _ rfl;obtain⟨f4,g4,t4,o4⟩:=Jc Tryz.fieldsNode 4 _ rfl;have r0:=hf 0 f0 g0;have r1:=hf 1 f1 g1;have r2:=hf 2 f2 g2;have r3:=hf 3 f3 g3;have r4:=hf 4 f4 g4;simp only[t0,o0,t1,o1,t2,o2,t3,o3,t4,o4,Tryz.cellsInt,Tryz.cellsStr,Tryz.cellsCls,Tryz.cellsNodes,List.drop_zero,List.drop_succ_cons,List.take_succ_cons,List.take_zero,List.getElem?_cons_zero,List.getElem?_cons_succ]at r0 r1 r2 r3 r4;obtain⟨k,e0,_,w0⟩:=DataW.trod_int Tryz.underlying3 r0;obtain⟨T,e1,_,wT⟩:=DataW.trod_string Tryz.underlying9 r1;obtain⟨p,e7,_,w7⟩:=DataW.trod_int Tryz.underlying3 r4;obtain⟨z0,z1,z2,z3,m,_,q0,q1,q2,q3⟩:=trod_array4 Tryz.arrayCls Tryz.cellsWord r2;obtain⟨a,ea,_,wa⟩:=DataW.trod_int Tryz.underlying66 q0;obtain⟨b,eb,_,wb⟩:=DataW.trod_int Tryz.underlying66 q1;obtain⟨c,ec,_,wc⟩:=DataW.trod_int Tryz.underlying66 q2;obtain⟨d,ed,_,wd'⟩:=DataW.trod_int Tryz.underlying66 q3;simp only[List.cons.injEq,and_true]at e0 e1 e7 ea eb ec ed;subst e0 e1 e7 ea eb ec ed;have ba:=bounds_u64 wa;have bb:=bounds_u64 wb;have bc:=bounds_u64 wc;have bd:=bounds_u64 wd';have hTz:T.size<=9223372036854775807:=by unfold maxLen at wT;exact wT
  rcases DataW.trod_slice Tryz.sliceNodes r3 with⟨e6,_⟩|⟨ad,len,cap,elems,rest,m2,hm2,e6,_,_,hlc,hcm,hel,hev,_⟩
  ·simp only[List.cons.injEq,and_true]at e6
   subst e6;refine⟨.mk k T a b c d [] p,?_,?_,?_⟩
   ·rw[Qj]
    exact⟨none,0,rfl,.inl rfl⟩
   ·rw[RtZ,Yd]
    exact⟨hTz,trivial⟩
   ·rw[RtU,Uz]
    exact⟨by omega,by omega,by omega,by omega,trivial⟩
  ·simp only[List.cons.injEq,and_true]at e6
   subst e6;have key:∀i,i<len->∃cs' y,W.cells? 0 (ad.add (i*8)) 8=some cs'/\DataW.trod enc prog W 0 sp hl m2 71 cs'=some y:=fun i hi=>by
    have h1:=hev i hi;rw[List.getElem?_eq_getElem (by omega)]at h1;obtain⟨cs',h2,h3⟩:=Option.bind_eq_some_iff.1 h1;rw[Tryz.cellsNode]at h2;exact⟨cs',_,h2,h3⟩
   obtain⟨g,off,spot⟩:=ad;by_cases h0:len=0
   ·subst h0
    refine⟨.mk k T a b c d [] p,?_,?_,?_⟩
    ·rw[Qj]
     exact⟨_,cap,rfl,.inl rfl⟩
    ·rw[RtZ,Yd]
     exact⟨hTz,trivial⟩
    ·rw[RtU,Uz]
     exact⟨by omega,by omega,by omega,by omega,trivial⟩
   obtain⟨cs0,_,h00,_⟩:=key 0 (by omega);obtain rfl:spot=none:=z3v h00 (by omega);obtain⟨hgb,_,_⟩:=Hw h00 (by omega);obtain⟨s,l1,l2,l3,l4⟩:=z3u len off (fun i hi=>by
    obtain⟨cs',y,h2,h3⟩:=key i hi;obtain⟨_,_,s4⟩:=Hw h2 (by omega);obtain⟨t,i1,i2,i3⟩:=Tw N m2 cs' _ (by omega) h3;exact⟨t,cs',i1,i2,i3,s4⟩)
   have hrl:Qp s=len:=by rw[Yj,l1]
   refine⟨.mk k T a b c d s p,?_,?_,?_⟩
   ·rw[Qj]
    refine⟨some ⟨g,off,none⟩,cap,by rw[hrl],.inr ⟨?_,g,off,rfl,hgb,by rw[hrl];omega,l2⟩⟩;cases s with
    |nil=>exact absurd l1.symm h0
    |cons _ _=>rfl
   ·rw[RtZ]
    exact⟨hTz,l3⟩
   ·rw[RtU]
    exact⟨by omega,by omega,by omega,by omega,l4⟩
def RgU(rs:List Rr):Prop:=∀x∈rs,RtU x.2.1
theorem y0x{fuel:Nat}{cs:List Value}{x:DataW H×List MemPlace}(h:DataW.trod enc prog W 0 sp hl fuel 73 cs=some x):
  ∃r:Rr,(∃k T a b c d so n cap p,Qj W W.heap.size r.2.1 (r8 k T a b c d so n cap p)/\cs=.string r.1::(r8 k T a b c d so n cap p++[.int .i64 r.2.2]))/\r.1.size<=9223372036854775807/\RtZ r.2.1/\RtU r.2.1:=by
 obtain⟨xs,n,rfl,rfl,hlen,hxs,hf⟩:=DataW.trod_struct Tryz.structRule h;rw[Tryz.cellsRule]at hlen;rw[Hv Tryz.fieldsRule]at hxs
 match cs,hlen with
 |[c0,c1,c2,c3,c4,c5,c6,c7,c8,c9],_=>
 match xs,hxs with
 |[y0,y1,y2],_=>
 obtain⟨f0,g0,t0,o0⟩:=Jc Tryz.fieldsRule 0 _ rfl;obtain⟨f1,g1,t1,o1⟩:=Jc Tryz.fieldsRule 1 _ rfl;obtain⟨f2,g2,t2,o2⟩:=Jc Tryz.fieldsRule 2 _ rfl;have r0:=hf 0 f0 g0;have r1:=hf 1 f1 g1;have r2:=hf 2 f2 g2;simp only[t0,o0,t1,o1,t2,o2,Tryz.cellsInt,Tryz.cellsStr,Tryz.cellsNode,List.drop_zero,List.drop_succ_cons,List.take_succ_cons,List.take_zero,List.getElem?_cons_zero,List.getElem?_cons_succ]at r0 r1 r2;obtain⟨M,e0,_,wM⟩:=DataW.trod_string Tryz.underlying9 r0;obtain⟨q,e9,_,_⟩:=DataW.trod_int Tryz.underlying3 r2;obtain⟨t,i1,i2,i3⟩:=Tw _ n _ _ (Nat.lt_succ_self _) r1;simp only[List.cons.injEq,and_true]at e0 e9;subst e0 e9;obtain⟨k,T,a,b,c,d,so,n1,cap,p,e⟩:=i1.shape;refine⟨(M,t,q),⟨k,T,a,b,c,d,so,n1,cap,p,by rw[<-e];exact i1,?_⟩,by unfold maxLen at wM;exact wM,i2,i3⟩;rw[<-e];rfl
theorem z3w{fuel:Nat}{so:Option Addr}{n cap:Nat}{x:DataW H×List MemPlace}(h:DataW.trod enc prog W 0 sp hl fuel 22 [.slice so n cap]=some x):
  ∃rs,Qy W W.heap.size so n rs/\RgZ rs/\RgU rs:=by
 rcases DataW.trod_slice Tryz.sliceRules h with⟨e6,_⟩|⟨ad,len,cap',elems,rest,m2,hm2,e6,_,_,hlc,hcm,hel,hev,_⟩
 ·simp only[List.cons.injEq,and_true,Value.slice.injEq]at e6
  obtain⟨rfl,rfl,rfl⟩:=e6;exact⟨[],⟨rfl,by unfold maxLen;omega,fun j hj=>by simp at hj⟩,fun x hx=>by simp at hx,fun x hx=>by simp at hx⟩
 ·simp only[List.cons.injEq,and_true,Value.slice.injEq]at e6
  obtain⟨rfl,rfl,rfl⟩:=e6;have key:∀i,i<n->∃cs' y,W.cells? 0 (ad.add (i*10)) 10=some cs'/\DataW.trod enc prog W 0 sp hl m2 73 cs'=some y:=fun i hi=>by
   have h1:=hev i hi;rw[List.getElem?_eq_getElem (by omega)]at h1;obtain⟨cs',h2,h3⟩:=Option.bind_eq_some_iff.1 h1;rw[Tryz.cellsRule]at h2;exact⟨cs',_,h2,h3⟩
  obtain⟨g,off,spot⟩:=ad;by_cases h0:n=0
  ·subst h0
   exact⟨[],⟨rfl,by unfold maxLen;omega,fun j hj=>by simp at hj⟩,fun x hx=>by simp at hx,fun x hx=>by simp at hx⟩
  obtain⟨cs0,_,h00,_⟩:=key 0 (by omega);obtain rfl:spot=none:=z3v h00 (by omega);obtain⟨hgb,_,_⟩:=Hw h00 (by omega);have hall:∀i,∃r:Rr,i<n->Rk W W.heap.size g (off+i*10) r/\r.1.size<=9223372036854775807/\RtZ r.2.1/\RtU r.2.1:=fun i=>by
   by_cases hi:i<n
   ·obtain⟨cs',y,h2,h3⟩:=key i hi
    obtain⟨_,_,s4⟩:=Hw h2 (by omega);obtain⟨r,⟨k,T,a,b,c,d,so,n1,cap1,p,i1,rfl⟩,i2,i3,i4⟩:=y0x h3;exact⟨r,fun _=>⟨⟨k,T,a,b,c,d,so,n1,cap1,p,i1,s4 0 _ rfl,s4 1 _ rfl,s4 2 _ rfl,s4 3 _ rfl,s4 4 _ rfl,s4 5 _ rfl,s4 6 _ rfl,s4 7 _ rfl,s4 8 _ rfl,s4 9 _ rfl⟩,i2,i3,i4⟩⟩
   ·exact⟨(⟨#[]⟩,.mk 0 ⟨#[]⟩ 0 0 0 0 [] 0,0),fun h=>absurd h hi⟩
  obtain⟨f,hf⟩:=Classical.axiomOfChoice hall;have hmem:∀x∈(List.range n).map f,∃i,i<n/\f i=x:=fun x hx=>by
   obtain⟨i,h1,h2⟩:=List.mem_map.1 hx;exact⟨i,List.mem_range.1 h1,h2⟩
  refine⟨(List.range n).map f,⟨by simp,by omega,fun j hj=> ?_⟩,fun x hx=> ?_,fun x hx=> ?_⟩
  ·have hj':j<n:=by simpa using hj
   have e:((List.range n).map f)[j]=f j:=by rw[List.getElem_map,List.getElem_range]
   rw[e];exact⟨g,off,rfl,hgb,(hf j hj').1⟩
  ·obtain⟨i,hi,rfl⟩:=hmem x hx
   exact⟨(hf i hi).2.1,(hf i hi).2.2.1⟩
  ·obtain⟨i,hi,rfl⟩:=hmem x hx
   exact(hf i hi).2.2.2
theorem y0y{base:Nat}{v:Value}{d:DataW H}{ps:List MemPlace}(hv:Value.okWide prog W .any base 24 v)(h:DataW.Trod enc prog W 0 sp hl 24 v d ps):
  ∃so n cap rs,v=.agg #[.slice so n cap]/\Qy W W.heap.size so n rs/\RgZ rs/\RgU rs:=by
 obtain⟨cs,rfl,hsz⟩:=okWide_struct Tryz.structGram hv;rw[Tryz.cellsGram]at hsz;obtain⟨l⟩:=cs
 match l,hsz with
 |[c0],_=>
 obtain⟨fuel,hf⟩:=h;obtain⟨xs,n,rfl,hx,hlen,hxs,hf⟩:=DataW.trod_struct Tryz.structGram hf;rw[Hv Tryz.fieldsGram]at hxs
 match xs,hxs with
 |[y0],_=>
 obtain⟨f0,g0,t0,o0⟩:=Jc Tryz.fieldsGram 0 _ rfl;have r0:=hf 0 f0 g0;simp only[Value.cells,t0,o0,Tryz.cellsRules,List.drop_zero,List.take_succ_cons,List.take_zero,List.getElem?_cons_zero]at r0;have r1:=r0;rcases DataW.trod_slice Tryz.sliceRules r1 with⟨e6,_⟩|⟨ad,len,cap',elems,rest,m2,hm2,e6,_,_,hlc,hcm,hel,hev,_⟩
 ·simp only[List.cons.injEq,and_true]at e6
  subst e6;obtain⟨rs,h1,h2,h3⟩:=z3w r0;exact⟨_,_,_,rs,rfl,h1,h2,h3⟩
 ·simp only[List.cons.injEq,and_true]at e6
  subst e6;obtain⟨rs,h1,h2,h3⟩:=z3w r0;exact⟨_,_,_,rs,rfl,h1,h2,h3⟩
theorem y0z{base:Nat}{v:Value}{d:DataW H}{ps:List MemPlace}(hv:Value.okWide prog W .any base 71 v)(h:DataW.Trod enc prog W 0 sp hl 71 v d ps):
  ∃k T a b c e so n cap p t,v=.agg (r8 k T a b c e so n cap p).toArray/\Qj W W.heap.size t (r8 k T a b c e so n cap p)/\RtZ t/\RtU t:=by
 obtain⟨cs,rfl,hsz⟩:=okWide_struct Tryz.structNode hv;obtain⟨l⟩:=cs;obtain⟨fuel,hf⟩:=h;have hf':DataW.trod enc prog W 0 sp hl fuel 71 l=some (d,ps):=hf;obtain⟨t,i1,i2,i3⟩:=Tw _ fuel _ _ (Nat.lt_succ_self _) hf';obtain⟨k,T,a,b,c,e,so,n1,cap,p,rfl⟩:=i1.shape;exact⟨k,T,a,b,c,e,so,n1,cap,p,t,rfl,i1,i2,i3⟩
end
theorem y0A{a b c d:Int}(h:zc a b c d=true):a=0/\b=0/\c=0/\d=0:=by
 unfold zc at h;simpa using h
mutual
theorem z3x:∀t:RT,okT t=true->RtU t->∃n,Tq t n/\Vk n/\Wf Nmq n
 | .mk k T a b c d s p,h,hu=>by
   rw[okT,Bool.and_eq_true]at h;obtain⟨h1,h2⟩:=h;rw[RtU]at hu;obtain⟨ua,ub,uc,ud,us⟩:=hu;obtain⟨q,hq,hv,hw⟩:=z3y s h2 us;have hql:q.length=Qp s:=hq.length;obtain⟨a,rfl⟩:=Int.eq_ofNat_of_zero_le ua.1;obtain⟨b,rfl⟩:=Int.eq_ofNat_of_zero_le ub.1;obtain⟨c,rfl⟩:=Int.eq_ofNat_of_zero_le uc.1;obtain⟨d,rfl⟩:=Int.eq_ofNat_of_zero_le ud.1;have cw:=z5K a b c d (by omega) (by omega) (by omega) (by omega);have cl:=z5J a b c d (by omega) (by omega) (by omega) (by omega);have hk:0<=k:=by
    rcases Int.lt_or_le k 0 with h3|h3
    ·unfold okN at h1
     rw[if_neg (by omega),if_neg (by omega),if_neg (by omega),if_neg (by omega),if_neg (by omega),if_neg (by omega)]at h1;cases h1
    ·exact h3
   obtain⟨kd,rfl⟩:=Int.eq_ofNat_of_zero_le hk;have c0:zc (a:Int) (b:Int) (c:Int) (d:Int)=true->cls a b c d=0:=fun h3=>by
    have:=y0A h3;have ha:a=0:=by omega
    have hb:b=0:=by omega
    have hc:c=0:=by omega
    have hd:d=0:=by omega
    subst ha hb hc hd;rfl
   refine⟨.mk kd T (cls a b c d) q 0,?_,?_,?_⟩
   ·rw[Tq]
    exact⟨rfl,rfl,by rw[cw.1],by rw[cw.2.1],by rw[cw.2.2.1],by rw[cw.2.2.2],hq⟩
   ·rw[Vk]
    refine⟨?_,hv⟩;have hq0:((Qp s:Nat):Int)=0->q=[]:=fun h3=>List.eq_nil_of_length_eq_zero (by omega)
    unfold okN at h1;split at h1
    ·rename_i hk14
     simp only[Bool.and_eq_true,beq_iff_eq]at h1;rcases hk14 with h4|h4
     ·exact .inl ⟨by omega,Ak h1.1,c0 h1.2.1,hq0 h1.2.2⟩
     ·exact .inr (.inr (.inr (.inl ⟨by omega,Ak h1.1,c0 h1.2.1,hq0 h1.2.2⟩)))
    ·split at h1
     ·simp only[Bool.and_eq_true,beq_iff_eq]at h1
      exact .inr (.inl ⟨by omega,c0 h1.2.1,hq0 h1.2.2⟩)
     ·split at h1
      ·simp only[Bool.and_eq_true,beq_iff_eq]at h1
       exact .inr (.inr (.inl ⟨by omega,Ak h1.1,hq0 h1.2⟩))
      ·split at h1
       ·simp only[Bool.and_eq_true,beq_iff_eq]at h1
        exact .inr (.inr (.inr (.inr (.inl ⟨by omega,c0 h1.2.1,hq0 h1.2.2⟩))))
       ·split at h1
        ·simp only[Bool.and_eq_true,decide_eq_true_eq]at h1
         exact .inr (.inr (.inr (.inr (.inr (.inl ⟨by omega,Ak h1.1,c0 h1.2.1,by omega⟩)))))
        ·split at h1
         ·simp only[Bool.and_eq_true,beq_iff_eq]at h1
          exact .inr (.inr (.inr (.inr (.inr (.inr ⟨by omega,by omega,Ak h1.1,c0 h1.2.1,by omega⟩)))))
         ·cases h1
   ·rw[Wf]
    refine⟨fun e=> ?_,fun e=> ?_,cl,hw⟩
    ·subst e
     unfold okN at h1;rw[if_neg (by decide),if_pos (by decide)]at h1;simp only[Bool.and_eq_true,decide_eq_true_eq]at h1;omega
    ·subst e
     unfold okN at h1;rw[if_neg (by decide),if_neg (by decide),if_neg (by decide),if_pos (by decide)]at h1;simp only[Bool.and_eq_true]at h1;exact h1.1
theorem z3y:∀s:List RT,okL s=true->Uz s->∃q,TqL s q/\VkL q/\WfL Nmq q
 |[],_,_=>⟨[],by rw[TqL];trivial,by rw[VkL];trivial,by rw[WfL];trivial⟩
 |t::r,h,hu=>by
  rw[okL,Bool.and_eq_true]at h;rw[Uz]at hu;obtain⟨n,a1,a2,a3⟩:=z3x t h.1 hu.1;obtain⟨q,b1,b2,b3⟩:=z3y r h.2 hu.2;exact⟨n::q,by rw[TqL];exact⟨a1,b1⟩,by rw[VkL];exact⟨a2,b2⟩,by rw[WfL];exact⟨a3,b3⟩⟩
end
theorem z3z:∀{rs:List Rr},rs.all okR=true->RgU rs->∃ns,TqR rs ns/\∀x∈ns,Ruk Nmq x
 |[],_,_=>⟨[],by rw[TqR];trivial,fun x hx=>by simp at hx⟩
 |x::r,h,hu=>by
  rw[List.all_cons,Bool.and_eq_true]at h;obtain⟨ns,a1,a2⟩:=z3z h.2 (fun y hy=>hu y (by simp[hy]));have hx:=h.1;unfold okR at hx;rw[Bool.and_eq_true]at hx;obtain⟨n,b1,b2,b3⟩:=z3x x.2.1 hx.2 (hu x (by simp));refine⟨(x.1,n,0)::ns,by rw[TqR];exact⟨rfl,b1,a1⟩,fun y hy=> ?_⟩;rcases List.mem_cons.1 hy with rfl|hy
  ·exact⟨hx.1,b2,b3⟩
  ·exact a2 y hy
theorem y0B{rs:List Rr}(h:okG rs=true)(hu:RgU rs):∃ns,TqR rs ns/\(∀x∈ns,Ruk Nmq x)/\1<=ns.length/\ns.length<=64:=by
 unfold okG at h;simp only[Bool.and_eq_true,decide_eq_true_eq]at h;obtain⟨ns,h1,h2⟩:=z3z h.2.2 hu;have:=h1.len;exact⟨ns,h1,h2,by omega,by omega⟩
end
open Go.RowKit Go.Shelf
theorem Ty{M:ByteArray}(h:nmS M=true):1<=M.size:=by
 rcases Nat.lt_or_ge 0 M.size with h1|h1
 ·exact h1
 ·have e:M={data:=#[]}:=by
   apply ByteArray.ext;apply Array.ext';exact List.eq_nil_of_length_eq_zero (by have:M.data.size=M.size:=rfl;rw[Array.length_toList];omega)
  subst e
  revert h
  decide+kernel
theorem Dm(over:Nat)(n:Nd):sz (pN qT cT n)<=sz (pP qT cT over n):=by
 unfold pP;split
 ·rw[sz,Xc];omega
 ·exact Nat.le_refl _
mutual
theorem Tf:∀(t:RT) (n:Nd),Tq t n->Vk n->Wf Nmq n->(rfT t).length<=sz (pN qT cT n)
 | .mk k T a b c d s p,.mk kd T' C s' p',hq,hv,hw=>by
   rw[Tq]at hq;obtain⟨hk,hT,_,_,_,_,hs⟩:=hq;rw[Wf]at hw;rw[Vk]at hv;rw[rfT];by_cases h5:kd=5
   ·rw[if_pos (by omega)]
    have h1:1<=T'.size:=Ty (hw.2.1 h5);rw[h5,pN];simp[sz];exact h1
   ·rw[if_neg (by omega)]
    have hB:∀over sep,(rfL s).length<=sz (pS qT cT over sep s'):=fun over sep=>by
     cases s with
     |nil=>rw[rfL];exact Nat.zero_le _
     |cons t r=>
      cases s' with
      |nil=>simp[TqL]at hs
      |cons n q=>
       rw[TqL]at hs;have hvl:=hv.2;rw[VkL]at hvl;have hwl:=hw.2.2.2;rw[WfL]at hwl;have i1:=Tf t n hs.1 hvl.1 hwl.1;have i2:=z3A r q over sep hs.2 hvl.2 hwl.2;have i3:=Dm over n;rw[rfL,List.length_append,Dv,Xc];omega
    have h0:kd<=4->(rfL s).length=0:=fun h=>by
     have e:s'=[]:=by
      rcases hv.1 with h1|h1|h1|h1|h1|h1|h1
      ·exact h1.2.2.2
      ·exact h1.2.2
      ·exact h1.2.2
      ·exact h1.2.2.2
      ·omega
      ·omega
      ·omega
     have:=hB 0 bE;rw[e,pS,sz]at this;omega
    rw[pN]
    repeat' split
    all_goals first
     |(rw[h0 (by omega)];exact Nat.zero_le _)
     |exact hB _ _
     |(rw[sz];exact Nat.le_trans (hB _ _) (Nat.le_add_left _ _))
     |(rw[Xc];exact Nat.le_trans (hB _ _) (Nat.le_add_right _ _))
     |omega
theorem z3A:∀(s:List RT) (q:List Nd) (over:Nat) (sep:ByteArray),TqL s q->VkL q->WfL Nmq q->(rfL s).length<=sz (pB qT cT over sep q)
 |[],_,_,_,_,_,_=>by rw[rfL];exact Nat.zero_le _
 |t::r,[],_,_,h,_,_=>by simp[TqL]at h
 |t::r,n::q,over,sep,h,hv,hw=>by
  rw[TqL]at h;rw[VkL]at hv;rw[WfL]at hw;have i1:=Tf t n h.1 hv.1 hw.1;have i2:=z3A r q over sep h.2 hv.2 hw.2;have i3:=Dm over n;rw[rfL,List.length_append,Dw,sz,Xc];omega
end
theorem Hy:∀{rs:List Rr} {ns:List Rl},TqR rs ns->(∀x∈ns,Ruk Nmq x)->∀x∈rs,(rfT x.2.1).length<=sz (pR qT cT ns)
 |[],_,_,_,x,hx=>by simp at hx
 |a::r,[],h,_,_,_=>by simp[TqR]at h
 |a::r,b::q,h,hk,x,hx=>by
  rw[TqR]at h;rw[pR,sz,sz,Xc,sz];rcases List.mem_cons.1 hx with rfl|hx
  ·have hb:=hk b (by simp)
   have:=Tf _ _ h.2.1 hb.2.1 hb.2.2;omega
  ·have:=Hy h.2.2 (fun y hy=>hk y (List.mem_cons_of_mem _ hy)) x hx
   omega
theorem Hf(so:Option Addr)(n cap:Nat)(A E:Value)(w:World)
  (HP:Hid (∀W:World,Below w.heap.size w W->Calls prog 239 #[.agg #[.slice so n cap]] W fun e w'=>e=.returned (.tuple #[A,E])/\Below W.heap.size W w')):
  Calls prog 233 #[.agg #[.slice so n cap]] w fun e w'=>e=.returned E/\Below w.heap.size w w':=by
 have HB1:Hid (Below w.heap.size w (w.alloc (.cells #[.slice so n cap] 24))):=(Below.refl _ w).alloc L0q _;go_enter func233,ntmps233
 go_wp2_with(first|(go_at_call 239;refine(HP.out _ HB1.out).mono ?_;rintro e wq ⟨rfl,hbq⟩;have HBq:Hid (Below w.heap.size w wq):=HB1.out.trans (hbq.mono HB1.out.size)))
 go_ret;exact⟨rfl,HBq.out⟩
def RtA(rs:List Rr)(E:Value):Prop:=(∃c:Int,(c=2∨c=20)/\E=.iface 36 (.int .i64 c))∨(E=.nilIface/\okG rs=true/\∀x∈rs,(rfT x.2.1).length<=8192)
open Go.Maps
attribute [local go_sem] Oper.semAt_some
theorem y0C(so:Option Addr)(n cap:Nat)(c:Int)(w:World)
  (HP:Hid (∀W:World,Below w.heap.size w W->Calls prog 233 #[.agg #[.slice so n cap]] W fun e w'=>e=.returned (.iface 36 (.int .i64 c))/\Below W.heap.size W w'))(m:Nat):
  CallsIn Fence.wide (m+5) prog 199 #[.agg #[.slice so n cap]] w fun e w'=>e=.returned (.tuple #[.map none,.iface 36 (.int .i64 c)])/\Below w.heap.size w w':=by
 obtain⟨W0,hW0⟩:∃W0,W0=((w.alloc (.cells #[.slice so n cap] 24)).alloc (.cells #[.map none] 300)).alloc (.cells #[.nilIface] 33):=⟨_,rfl⟩;have hB0:Below w.heap.size w W0:=by rw[hW0];exact(((Below.refl _ w).alloc L0q _).alloc (by simp) _).alloc (by simp;omega) _
 have c2:W0.heap[w.heap.size+1]? =some (.cells #[.map none] 300):=by
  rw[hW0];exact(Below.heap_alloc _ _ _ (by simp)).trans (Qx _ _ (by simp))
 have c3:W0.heap[w.heap.size+1+1]? =some (.cells #[.nilIface] 33):=by
  rw[hW0];exact Qx _ _ (by simp)
 have hs0:W0.heap.size=w.heap.size+1+1+1:=by rw[hW0];simp
 have HP0:=hid (HP.out W0 hB0);refine callsIn_of_wp_marks func199 rfl trivial ?_ rfl;simp only[ntmps199,List.size_toArray,List.length_cons,List.length_nil,Nat.reduceAdd,Nat.reduceSub,Array.replicate_succ,Array.replicate_zero,List.push_toArray,List.append_toArray,List.nil_append,List.cons_append]
 gi_wp2
 rw[<-hW0];clear hW0;refine⟨trivial,?_⟩;refine(callsIn_wide.2 HP0.out).mono ?_;rintro e W1 ⟨rfl,hb1⟩;have d2:=(hb1.block _ (by omega)).trans c2;have d3:=(hb1.block _ (by omega)).trans c3;have hs1:=hb1.size;have HBw:Hid (Below w.heap.size w W1):=hB0.trans (hb1.mono hB0.size);obtain⟨x2,e2⟩:=Qk d2;obtain⟨x3,e3⟩:=Qk d3;have l2:=Qq d2;have l3:=Qq d3;clear HP0 HP c2 c3
 gi_wp2
 have b2:Boxed W1 (w.heap.size+1) 300 (.map none):=d2;have b3:Boxed W1 (w.heap.size+1+1) 33 .nilIface:=d3;have y1:=((b2.set (.map none)).other (B':=w.heap.size+1+1) (by omega) (.iface 36 (.int .i64 c))).cell;have y2:=((b3.other (B':=w.heap.size+1) (by omega) (.map none)).set (.iface 36 (.int .i64 c))).cell;refine⟨.tuple #[.map none,.iface 36 (.int .i64 c)],by simp[results,Tryz.f199,go_sem,y1,y2],rfl,?_⟩;exact(HBw.out.setCell (p:=⟨w.heap.size+1,0,none⟩) (by show w.heap.size<=_+1;omega) _).setCell (p:=⟨w.heap.size+1+1,0,none⟩) (by show w.heap.size<=_+1+1;omega) _
def Zk(X:Option (Int ⊕ (Int×Int)))(S:Nat)(w':World)(v:Value):Prop:=match X with
 |none=>v=.nilIface
 |some (.inl c)=>v=.iface 36 (.int .i64 c)
 |some (.inr q)=>∃g,v=.iface 95 (.pointer (some ⟨g,0,none⟩))/\S<=g/\w'.heap[g]? =some (.cells #[.int .i64 q.1,.int .i64 q.2] 98)
def CkX(rs:List Rr)(X:Option (Int ⊕ (Int×Int))):Prop:=match X with
 |none=>okG rs=true/\ckR rs=none/\∀x∈rs,(rfT x.2.1).length<=8192
 |some (.inl c)=>c=2∨c=20
 |some (.inr q)=>okG rs=true/\ckR rs=some q
theorem Zk.shape{X:Option (Int ⊕ (Int×Int))}{S:Nat}{w':World}{v:Value}(h:Zk X S w' v)(hX:X≠none):∃t u,v=.iface t u:=by
 match X,hX with
 |some (.inl c),_=>exact⟨_,_,h⟩
 |some (.inr q),_=>
  obtain⟨g,h1,_⟩:=h;exact⟨_,_,h1⟩
mutual
theorem Qj.upto{w:World}{B B':Nat}(hB:B<=B'):∀(t:RT) (cs:List Value),Qj w B t cs->Qj w B' t cs
 | .mk k T a b c d s p,cs,ht=>by
   rw[Qj]at ht ⊢;obtain⟨so,cap,rfl,ht⟩:=ht;refine⟨so,cap,rfl,?_⟩;rcases ht with h1|⟨h1,g,o,h2,h3,h4,h5⟩
   ·exact .inl h1
   ·exact .inr ⟨h1,g,o,h2,by omega,h4,Ql.upto hB s g o h5⟩
theorem Ql.upto{w:World}{B B':Nat}(hB:B<=B'):∀(s:List RT) (g o:Nat),Ql w B g o s->Ql w B' g o s
 |[],g,o,_=>by rw[Ql];trivial
 |t::r,g,o,ht=>by
  rw[Ql]at ht ⊢;obtain⟨⟨cs,h1,h2⟩,h3⟩:=ht;exact⟨⟨cs,Qj.upto hB t cs h1,h2⟩,Ql.upto hB r g _ h3⟩
end
theorem Qy.upto{w:World}{B B' n:Nat}{so:Option Addr}{rs:List Rr}(h:Qy w B so n rs)(hB:B<=B'):Qy w B' so n rs:=
 ⟨h.1,h.2.1,fun j hj=>by
   obtain⟨g,o,h1,h2,k,T,a,b,c,d,s',n',cap,p,h3,h4⟩:=h.2.2 j hj;exact⟨g,o,h1,by omega,k,T,a,b,c,d,s',n',cap,p,Qj.upto hB _ _ h3,h4⟩⟩
end Go.Proofs.YtlogolpcipiceaaGreatDoor
