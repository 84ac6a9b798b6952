/- Lemmas for the last text. Conditions: those that each names. -/
import Derived.Test.YtikfnaffiehpaaaGreatDoorVSFToS7
import Derived.ProofKit
import Derived.OpenShut
import Derived.Laws.IdiomArrays
import Derived.Lib.SmallJoins
import Derived.Test.YtikfnaffiehpaaaGreatDoorVS8
import Derived.Test.YtikfnaffiehpaaaGreatDoorVX25ToMD
import Derived.Test.YtikfnaffiehpaaaGreatDoorVN5ToN6
import Derived.Test.YtikfnaffiehpaaaGreatDoorVN7ToM1
set_option linter.unusedVariables false
set_option maxRecDepth 100000
set_option maxHeartbeats 8000000
namespace Go.Proofs.YtikfnaffiehpaaaGreatDoor
open Go.Proofs.Tryz
section
open Go.ChangeShapes Go.WideShapes Go.ChangeAt Go.RowKit
mutual
def RtU:RT->Prop
 | .mk _ _ a b c d s _=>(0<=a/\a<18446744073709551616)/\(0<=b/\b<18446744073709551616)/\(0<=c/\c<18446744073709551616)/\(0<=d/\d<18446744073709551616)/\Kv s
def Kv:List RT->Prop
 |[]=>True
 |t::r=>RtU t/\Kv r
end
theorem Tryz.structNode:Tryz.prog.underlying 30=some (.struct (Tryz.prog.fieldsOf 30)):=by kernel_rfl
theorem Tryz.fieldsNode:(Tryz.prog.fieldsOf 30).toList.map (fun f=>(f.name,f.type,f.offset))=[("Kind",3,0),("Text",9,1),("Class",27,2),("Subs",28,6),("At",3,7)]:=by kernel_rfl
theorem Tryz.structRule:Tryz.prog.underlying 50=some (.struct (Tryz.prog.fieldsOf 50)):=by kernel_rfl
theorem Tryz.fieldsRule:(Tryz.prog.fieldsOf 50).toList.map (fun f=>(f.name,f.type,f.offset))=[("Name",9,0),("Body",30,1),("At",3,9)]:=by kernel_rfl
theorem Tryz.structGram:Tryz.prog.underlying 24=some (.struct (Tryz.prog.fieldsOf 24)):=by kernel_rfl
theorem Tryz.fieldsGram:(Tryz.prog.fieldsOf 24).toList.map (fun f=>(f.name,f.type,f.offset))=[("Rules",22,0)]:=by kernel_rfl
theorem Tryz.cellsNode:Tryz.prog.cellsOf 30=8:=by kernel_rfl
theorem Tryz.cellsRule:Tryz.prog.cellsOf 50=10:=by kernel_rfl
theorem Tryz.cellsGram:Tryz.prog.cellsOf 24=1:=by kernel_rfl
theorem Tryz.cellsCls:Tryz.prog.cellsOf 27=4:=by kernel_rfl
theorem Tryz.cellsInt:Tryz.prog.cellsOf 3=1:=by kernel_rfl
theorem Tryz.cellsStr:Tryz.prog.cellsOf 9=1:=by kernel_rfl
theorem Tryz.cellsNodes:Tryz.prog.cellsOf 28=1:=by kernel_rfl
theorem Tryz.cellsRules:Tryz.prog.cellsOf 22=1:=by kernel_rfl
theorem Tryz.cellsWord:Tryz.prog.cellsOf 25=1:=by kernel_rfl
theorem Tryz.arrayCls:Tryz.prog.underlying 27=some (.array 4 25):=by kernel_rfl
theorem Tryz.sliceNodes:Tryz.prog.underlying 28=some (.slice 30):=by kernel_rfl
theorem Tryz.sliceRules:Tryz.prog.underlying 22=some (.slice 50):=by kernel_rfl
theorem Gx{fs:Array Field}{l:List (String×TypeId×Nat)}(h:fs.toList.map (fun f=>(f.name,f.type,f.offset))=l)(i:Nat)(x:String×TypeId×Nat)(hx:l[i]? =some x):∃f,fs[i]? =some f/\f.type=x.2.1/\f.offset=x.2.2:=by
 rw[<-h,List.getElem?_map]at hx;cases hf:fs.toList[i]? with
 |none=>rw[hf]at hx;cases hx
 |some f=>
  rw[hf]at hx;simp only[Option.map_some,Option.some.injEq]at hx;refine⟨f,by rw[<-Array.getElem?_toList];exact hf,?_,?_⟩
  ·rw[<-hx]
  ·rw[<-hx]
theorem Bv{fs:Array Field}{l:List (String×TypeId×Nat)}(h:fs.toList.map (fun f=>(f.name,f.type,f.offset))=l):fs.size=l.length:=by
 rw[<-h,List.length_map,Array.length_toList]
theorem z4K{W:World}{B g:Nat}:∀(n o:Nat),(∀i,i<n->∃t cs,Qh W B t cs/\RtZ t/\RtU t/\∀j u,cs[j]? =some u->W.cell? ⟨g,o+i*8+j,none⟩=some u)->∃s:List RT,s.length=n/\Zb W B g o s/\Vp s/\Kv s
 |0,o,_=>⟨[],rfl,by rw[Zb];trivial,by rw[Vp];trivial,by rw[Kv];trivial⟩
 |n+1,o,h=>by
  obtain⟨t,cs,h1,h2,h3,h4⟩:=h 0 (by omega);obtain⟨s,e1,e2,e3,e4⟩:=z4K n (o+8) (fun i hi=>by
   obtain⟨t,cs,h1,h2,h3,h4⟩:=h (i+1) (by omega);refine⟨t,cs,h1,h2,h3,fun j u hj=> ?_⟩;have:=h4 j u hj;rw[show o+(i+1)*8+j=o+8+i*8+j by omega]at this;exact this)
  refine⟨t::s,by simp[e1],?_,by rw[Vp];exact⟨h2,e3⟩,by rw[Kv];exact⟨h3,e4⟩⟩;rw[Zb];refine⟨⟨cs,h1,fun j u hj=> ?_⟩,e2⟩;have:=h4 j u hj;rw[Nat.zero_mul,Nat.add_zero]at this;exact this
section
variable {H:Type} {enc:TypeId×Value->H} {W:World} {sp:Nat->Bool} {hl:Bool}
theorem z4L{a:Addr}{n:Nat}{cs:List Value}(h:W.cells? 0 (a.add (0*n)) n=some cs)(hn:0<n):a.spot=none:=by
 obtain⟨_,h2,h3⟩:=World.cells?_some h;have h0:=h3 0 hn;rw[Deep.add_add,Nat.zero_mul]at h0;obtain⟨c,hc⟩:∃c,cs[0]? =some c:=⟨_,List.getElem?_eq_getElem (by omega)⟩;rw[hc]at h0;have:=World.cell?_spot h0;simpa [Addr.add]using this
theorem Bw{b off k n:Nat}{cs:List Value}(h:W.cells? 0 ((⟨b,off,none⟩:Addr).add k) n=some cs)(hn:0<n):b<W.heap.size/\cs.length=n/\∀j u,cs[j]? =some u->W.cell? ⟨b,off+k+j,none⟩=some u:=by
 obtain⟨_,h2,h3⟩:=World.cells?_some h;have hc:∀j u,cs[j]? =some u->W.cell? ⟨b,off+k+j,none⟩=some u:=fun j u hj=>by
  have hjl:j<n:=by rw[<-h2];exact(List.getElem?_eq_some_iff.1 hj).1
  have:=h3 j hjl;rw[Deep.add_add,Addr.add_lit,hj]at this;rw[Nat.add_assoc];exact this
 exact⟨World.block_lt_of_cell? W ⟨b,off+k+0,none⟩ (hc 0 _ (List.getElem?_eq_getElem (by omega))),h2,hc⟩
theorem z0v:∀(N fuel:Nat) (cs:List Value) (x:DataW H×List MemPlace),fuel<N->DataW.trod enc prog W 0 sp hl fuel 30 cs=some x->∃t,Qh W W.heap.size t cs/\RtZ t/\RtU t
 |0,_,_,_,h,_=>by omega
 |N+1,fuel,cs,x,hN,h=>by
  obtain⟨xs,n,rfl,rfl,hlen,hxs,hf⟩:=DataW.trod_struct Tryz.structNode h;rw[Tryz.cellsNode]at hlen;rw[Bv Tryz.fieldsNode]at hxs
  match cs,hlen with
  |[c0,c1,c2,c3,c4,c5,c6,c7],_=>
  match xs,hxs with
  |[y0,y1,y2,y3,y4],_=>
  obtain⟨f0,g0,t0,o0⟩:=Gx Tryz.fieldsNode 0 _ rfl;obtain⟨f1,g1,t1,o1⟩:=Gx Tryz.fieldsNode 1 _ rfl;obtain⟨f2,g2,t2,o2⟩:=Gx Tryz.fieldsNode 2 _ rfl;obtain⟨f3,g3,t3,o3⟩:=Gx Tryz.fieldsNode 3 _ rfl;obtain⟨f4,g4,t4,o4⟩:=Gx Tryz.fieldsNode 4 _ rfl;have r0:=hf 0 f0 g0;have r1:=hf 1 f1 g1;have r2:=hf 2 f2 g2;have r3:=hf 3 f3 g3;have r4:=hf 4 f4 g4;simp only[t0,o0,t1,o1,t2,o2,t3,o3,t4,o4,Tryz.cellsInt,Tryz.cellsStr,Tryz.cellsCls,Tryz.cellsNodes,List.drop_zero,List.drop_succ_cons,List.take_succ_cons,List.take_zero,List.getElem?_cons_zero,List.getElem?_cons_succ]at r0 r1 r2 r3 r4;obtain⟨k,e0,_,w0⟩:=DataW.trod_int Tryz.underlying3 r0;obtain⟨T,e1,_,wT⟩:=DataW.trod_string Tryz.underlying9 r1;obtain⟨p,e7,_,w7⟩:=DataW.trod_int Tryz.underlying3 r4;obtain⟨z0,z1,z2,z3,m,_,q0,q1,q2,q3⟩:=trod_array4 Tryz.arrayCls Tryz.cellsWord r2;obtain⟨a,ea,_,wa⟩:=DataW.trod_int Tryz.underlying25 q0;obtain⟨b,eb,_,wb⟩:=DataW.trod_int Tryz.underlying25 q1;obtain⟨c,ec,_,wc⟩:=DataW.trod_int Tryz.underlying25 q2;obtain⟨d,ed,_,wd'⟩:=DataW.trod_int Tryz.underlying25 q3;simp only[List.cons.injEq,and_true]at e0 e1 e7 ea eb ec ed;subst e0 e1 e7 ea eb ec ed;have ba:=bounds_u64 wa;have bb:=bounds_u64 wb;have bc:=bounds_u64 wc;have bd:=bounds_u64 wd';have hTz:T.size<=9223372036854775807:=by unfold maxLen at wT;exact wT
  rcases DataW.trod_slice Tryz.sliceNodes r3 with⟨e6,_⟩|⟨ad,len,cap,elems,rest,m2,hm2,e6,_,_,hlc,hcm,hel,hev,_⟩
  ·simp only[List.cons.injEq,and_true]at e6
   subst e6;refine⟨.mk k T a b c d [] p,?_,?_,?_⟩
   ·rw[Qh]
    exact⟨none,0,rfl,.inl rfl⟩
   ·rw[RtZ,Vp]
    exact⟨hTz,trivial⟩
   ·rw[RtU,Kv]
    exact⟨by omega,by omega,by omega,by omega,trivial⟩
  ·simp only[List.cons.injEq,and_true]at e6
   subst e6;have key:∀i,i<len->∃cs' y,W.cells? 0 (ad.add (i*8)) 8=some cs'/\DataW.trod enc prog W 0 sp hl m2 30 cs'=some y:=fun i hi=>by
    have h1:=hev i hi;rw[List.getElem?_eq_getElem (by omega)]at h1;obtain⟨cs',h2,h3⟩:=Option.bind_eq_some_iff.1 h1;rw[Tryz.cellsNode]at h2;exact⟨cs',_,h2,h3⟩
   obtain⟨g,off,spot⟩:=ad;by_cases h0:len=0
   ·subst h0
    refine⟨.mk k T a b c d [] p,?_,?_,?_⟩
    ·rw[Qh]
     exact⟨_,cap,rfl,.inl rfl⟩
    ·rw[RtZ,Vp]
     exact⟨hTz,trivial⟩
    ·rw[RtU,Kv]
     exact⟨by omega,by omega,by omega,by omega,trivial⟩
   obtain⟨cs0,_,h00,_⟩:=key 0 (by omega);obtain rfl:spot=none:=z4L h00 (by omega);obtain⟨hgb,_,_⟩:=Bw h00 (by omega);obtain⟨s,l1,l2,l3,l4⟩:=z4K len off (fun i hi=>by
    obtain⟨cs',y,h2,h3⟩:=key i hi;obtain⟨_,_,s4⟩:=Bw h2 (by omega);obtain⟨t,i1,i2,i3⟩:=z0v N m2 cs' _ (by omega) h3;exact⟨t,cs',i1,i2,i3,s4⟩)
   have hrl:Qg s=len:=by rw[Dc,l1]
   refine⟨.mk k T a b c d s p,?_,?_,?_⟩
   ·rw[Qh]
    refine⟨some ⟨g,off,none⟩,cap,by rw[hrl],.inr ⟨?_,g,off,rfl,hgb,by rw[hrl];omega,l2⟩⟩;cases s with
    |nil=>exact absurd l1.symm h0
    |cons _ _=>rfl
   ·rw[RtZ]
    exact⟨hTz,l3⟩
   ·rw[RtU]
    exact⟨by omega,by omega,by omega,by omega,l4⟩
def RgU(rs:List Rr):Prop:=∀x∈rs,RtU x.2.1
theorem y2B{fuel:Nat}{cs:List Value}{x:DataW H×List MemPlace}(h:DataW.trod enc prog W 0 sp hl fuel 50 cs=some x):
  ∃r:Rr,(∃k T a b c d so n cap p,Qh W W.heap.size r.2.1 (r8 k T a b c d so n cap p)/\cs=.string r.1::(r8 k T a b c d so n cap p++[.int .i64 r.2.2]))/\r.1.size<=9223372036854775807/\RtZ r.2.1/\RtU r.2.1:=by
 obtain⟨xs,n,rfl,rfl,hlen,hxs,hf⟩:=DataW.trod_struct Tryz.structRule h;rw[Tryz.cellsRule]at hlen;rw[Bv Tryz.fieldsRule]at hxs
 match cs,hlen with
 |[c0,c1,c2,c3,c4,c5,c6,c7,c8,c9],_=>
 match xs,hxs with
 |[y0,y1,y2],_=>
 obtain⟨f0,g0,t0,o0⟩:=Gx Tryz.fieldsRule 0 _ rfl;obtain⟨f1,g1,t1,o1⟩:=Gx Tryz.fieldsRule 1 _ rfl;obtain⟨f2,g2,t2,o2⟩:=Gx Tryz.fieldsRule 2 _ rfl;have r0:=hf 0 f0 g0;have r1:=hf 1 f1 g1;have r2:=hf 2 f2 g2;simp only[t0,o0,t1,o1,t2,o2,Tryz.cellsInt,Tryz.cellsStr,Tryz.cellsNode,List.drop_zero,List.drop_succ_cons,List.take_succ_cons,List.take_zero,List.getElem?_cons_zero,List.getElem?_cons_succ]at r0 r1 r2;obtain⟨M,e0,_,wM⟩:=DataW.trod_string Tryz.underlying9 r0;obtain⟨q,e9,_,_⟩:=DataW.trod_int Tryz.underlying3 r2;obtain⟨t,i1,i2,i3⟩:=z0v _ n _ _ (Nat.lt_succ_self _) r1;simp only[List.cons.injEq,and_true]at e0 e9;subst e0 e9;obtain⟨k,T,a,b,c,d,so,n1,cap,p,e⟩:=i1.shape;refine⟨(M,t,q),⟨k,T,a,b,c,d,so,n1,cap,p,by rw[<-e];exact i1,?_⟩,by unfold maxLen at wM;exact wM,i2,i3⟩;rw[<-e];rfl
theorem z4M{fuel:Nat}{so:Option Addr}{n cap:Nat}{x:DataW H×List MemPlace}(h:DataW.trod enc prog W 0 sp hl fuel 22 [.slice so n cap]=some x):
  ∃rs,Xh W W.heap.size so n rs/\RgZ rs/\RgU rs:=by
 rcases DataW.trod_slice Tryz.sliceRules h with⟨e6,_⟩|⟨ad,len,cap',elems,rest,m2,hm2,e6,_,_,hlc,hcm,hel,hev,_⟩
 ·simp only[List.cons.injEq,and_true,Value.slice.injEq]at e6
  obtain⟨rfl,rfl,rfl⟩:=e6;exact⟨[],⟨rfl,by unfold maxLen;omega,fun j hj=>by simp at hj⟩,fun x hx=>by simp at hx,fun x hx=>by simp at hx⟩
 ·simp only[List.cons.injEq,and_true,Value.slice.injEq]at e6
  obtain⟨rfl,rfl,rfl⟩:=e6;have key:∀i,i<n->∃cs' y,W.cells? 0 (ad.add (i*10)) 10=some cs'/\DataW.trod enc prog W 0 sp hl m2 50 cs'=some y:=fun i hi=>by
   have h1:=hev i hi;rw[List.getElem?_eq_getElem (by omega)]at h1;obtain⟨cs',h2,h3⟩:=Option.bind_eq_some_iff.1 h1;rw[Tryz.cellsRule]at h2;exact⟨cs',_,h2,h3⟩
  obtain⟨g,off,spot⟩:=ad;by_cases h0:n=0
  ·subst h0
   exact⟨[],⟨rfl,by unfold maxLen;omega,fun j hj=>by simp at hj⟩,fun x hx=>by simp at hx,fun x hx=>by simp at hx⟩
  obtain⟨cs0,_,h00,_⟩:=key 0 (by omega);obtain rfl:spot=none:=z4L h00 (by omega);obtain⟨hgb,_,_⟩:=Bw h00 (by omega);have hall:∀i,∃r:Rr,i<n->Rk W W.heap.size g (off+i*10) r/\r.1.size<=9223372036854775807/\RtZ r.2.1/\RtU r.2.1:=fun i=>by
   by_cases hi:i<n
   ·obtain⟨cs',y,h2,h3⟩:=key i hi
    obtain⟨_,_,s4⟩:=Bw h2 (by omega);obtain⟨r,⟨k,T,a,b,c,d,so,n1,cap1,p,i1,rfl⟩,i2,i3,i4⟩:=y2B h3;exact⟨r,fun _=>⟨⟨k,T,a,b,c,d,so,n1,cap1,p,i1,s4 0 _ rfl,s4 1 _ rfl,s4 2 _ rfl,s4 3 _ rfl,s4 4 _ rfl,s4 5 _ rfl,s4 6 _ rfl,s4 7 _ rfl,s4 8 _ rfl,s4 9 _ rfl⟩,i2,i3,i4⟩⟩
   ·exact⟨(⟨#[]⟩,.mk 0 ⟨#[]⟩ 0 0 0 0 [] 0,0),fun h=>absurd h hi⟩
  obtain⟨f,hf⟩:=Classical.axiomOfChoice hall;have hmem:∀x∈(List.range n).map f,∃i,i<n/\f i=x:=fun x hx=>by
   obtain⟨i,h1,h2⟩:=List.mem_map.1 hx;exact⟨i,List.mem_range.1 h1,h2⟩
  refine⟨(List.range n).map f,⟨by simp,by omega,fun j hj=> ?_⟩,fun x hx=> ?_,fun x hx=> ?_⟩
  ·have hj':j<n:=by simpa using hj
   have e:((List.range n).map f)[j]=f j:=by rw[List.getElem_map,List.getElem_range]
   rw[e];exact⟨g,off,rfl,hgb,(hf j hj').1⟩
  ·obtain⟨i,hi,rfl⟩:=hmem x hx
   exact⟨(hf i hi).2.1,(hf i hi).2.2.1⟩
  ·obtain⟨i,hi,rfl⟩:=hmem x hx
   exact(hf i hi).2.2.2
theorem y2C{base:Nat}{v:Value}{d:DataW H}{ps:List MemPlace}(hv:Value.okWide prog W .any base 24 v)(h:DataW.Trod enc prog W 0 sp hl 24 v d ps):
  ∃so n cap rs,v=.agg #[.slice so n cap]/\Xh W W.heap.size so n rs/\RgZ rs/\RgU rs:=by
 obtain⟨cs,rfl,hsz⟩:=okWide_struct Tryz.structGram hv;rw[Tryz.cellsGram]at hsz;obtain⟨l⟩:=cs
 match l,hsz with
 |[c0],_=>
 obtain⟨fuel,hf⟩:=h;obtain⟨xs,n,rfl,hx,hlen,hxs,hf⟩:=DataW.trod_struct Tryz.structGram hf;rw[Bv Tryz.fieldsGram]at hxs
 match xs,hxs with
 |[y0],_=>
 obtain⟨f0,g0,t0,o0⟩:=Gx Tryz.fieldsGram 0 _ rfl;have r0:=hf 0 f0 g0;simp only[Value.cells,t0,o0,Tryz.cellsRules,List.drop_zero,List.take_succ_cons,List.take_zero,List.getElem?_cons_zero]at r0;have r1:=r0;rcases DataW.trod_slice Tryz.sliceRules r1 with⟨e6,_⟩|⟨ad,len,cap',elems,rest,m2,hm2,e6,_,_,hlc,hcm,hel,hev,_⟩
 ·simp only[List.cons.injEq,and_true]at e6
  subst e6;obtain⟨rs,h1,h2,h3⟩:=z4M r0;exact⟨_,_,_,rs,rfl,h1,h2,h3⟩
 ·simp only[List.cons.injEq,and_true]at e6
  subst e6;obtain⟨rs,h1,h2,h3⟩:=z4M r0;exact⟨_,_,_,rs,rfl,h1,h2,h3⟩
theorem y2D{base:Nat}{v:Value}{d:DataW H}{ps:List MemPlace}(hv:Value.okWide prog W .any base 30 v)(h:DataW.Trod enc prog W 0 sp hl 30 v d ps):
  ∃k T a b c e so n cap p t,v=.agg (r8 k T a b c e so n cap p).toArray/\Qh W W.heap.size t (r8 k T a b c e so n cap p)/\RtZ t/\RtU t:=by
 obtain⟨cs,rfl,hsz⟩:=okWide_struct Tryz.structNode hv;obtain⟨l⟩:=cs;obtain⟨fuel,hf⟩:=h;have hf':DataW.trod enc prog W 0 sp hl fuel 30 l=some (d,ps):=hf;obtain⟨t,i1,i2,i3⟩:=z0v _ fuel _ _ (Nat.lt_succ_self _) hf';obtain⟨k,T,a,b,c,e,so,n1,cap,p,rfl⟩:=i1.shape;exact⟨k,T,a,b,c,e,so,n1,cap,p,t,rfl,i1,i2,i3⟩
end
theorem y2E{a b c d:Int}(h:zc a b c d=true):a=0/\b=0/\c=0/\d=0:=by
 unfold zc at h;simpa using h
mutual
theorem z0w:∀t:RT,okT t=true->RtU t->∃n,Tq t n/\Vk n/\Wf Nmq n
 | .mk k T a b c d s p,h,hu=>by
   rw[okT,Bool.and_eq_true]at h;obtain⟨h1,h2⟩:=h;rw[RtU]at hu;obtain⟨ua,ub,uc,ud,us⟩:=hu;obtain⟨q,hq,hv,hw⟩:=z4N s h2 us;have hql:q.length=Qg s:=hq.length;obtain⟨a,rfl⟩:=Int.eq_ofNat_of_zero_le ua.1;obtain⟨b,rfl⟩:=Int.eq_ofNat_of_zero_le ub.1;obtain⟨c,rfl⟩:=Int.eq_ofNat_of_zero_le uc.1;obtain⟨d,rfl⟩:=Int.eq_ofNat_of_zero_le ud.1;have cw:=z5g a b c d (by omega) (by omega) (by omega) (by omega);have cl:=z5f a b c d (by omega) (by omega) (by omega) (by omega);have hk:0<=k:=by
    rcases Int.lt_or_le k 0 with h3|h3
    ·unfold okN at h1
     rw[if_neg (by omega),if_neg (by omega),if_neg (by omega),if_neg (by omega),if_neg (by omega),if_neg (by omega)]at h1;cases h1
    ·exact h3
   obtain⟨kd,rfl⟩:=Int.eq_ofNat_of_zero_le hk;have c0:zc (a:Int) (b:Int) (c:Int) (d:Int)=true->cls a b c d=0:=fun h3=>by
    have:=y2E h3;have ha:a=0:=by omega
    have hb:b=0:=by omega
    have hc:c=0:=by omega
    have hd:d=0:=by omega
    subst ha hb hc hd;rfl
   refine⟨.mk kd T (cls a b c d) q 0,?_,?_,?_⟩
   ·rw[Tq]
    exact⟨rfl,rfl,by rw[cw.1],by rw[cw.2.1],by rw[cw.2.2.1],by rw[cw.2.2.2],hq⟩
   ·rw[Vk]
    refine⟨?_,hv⟩;have hq0:((Qg s:Nat):Int)=0->q=[]:=fun h3=>List.eq_nil_of_length_eq_zero (by omega)
    unfold okN at h1;split at h1
    ·rename_i hk14
     simp only[Bool.and_eq_true,beq_iff_eq]at h1;rcases hk14 with h4|h4
     ·exact .inl ⟨by omega,Ep h1.1,c0 h1.2.1,hq0 h1.2.2⟩
     ·exact .inr (.inr (.inr (.inl ⟨by omega,Ep h1.1,c0 h1.2.1,hq0 h1.2.2⟩)))
    ·split at h1
     ·simp only[Bool.and_eq_true,beq_iff_eq]at h1
      exact .inr (.inl ⟨by omega,c0 h1.2.1,hq0 h1.2.2⟩)
     ·split at h1
      ·simp only[Bool.and_eq_true,beq_iff_eq]at h1
       exact .inr (.inr (.inl ⟨by omega,Ep h1.1,hq0 h1.2⟩))
      ·split at h1
       ·simp only[Bool.and_eq_true,beq_iff_eq]at h1
        exact .inr (.inr (.inr (.inr (.inl ⟨by omega,c0 h1.2.1,hq0 h1.2.2⟩))))
       ·split at h1
        ·simp only[Bool.and_eq_true,decide_eq_true_eq]at h1
         exact .inr (.inr (.inr (.inr (.inr (.inl ⟨by omega,Ep h1.1,c0 h1.2.1,by omega⟩)))))
        ·split at h1
         ·simp only[Bool.and_eq_true,beq_iff_eq]at h1
          exact .inr (.inr (.inr (.inr (.inr (.inr ⟨by omega,by omega,Ep h1.1,c0 h1.2.1,by omega⟩)))))
         ·cases h1
   ·rw[Wf]
    refine⟨fun e=> ?_,fun e=> ?_,cl,hw⟩
    ·subst e
     unfold okN at h1;rw[if_neg (by decide),if_pos (by decide)]at h1;simp only[Bool.and_eq_true,decide_eq_true_eq]at h1;omega
    ·subst e
     unfold okN at h1;rw[if_neg (by decide),if_neg (by decide),if_neg (by decide),if_pos (by decide)]at h1;simp only[Bool.and_eq_true]at h1;exact h1.1
theorem z4N:∀s:List RT,okL s=true->Kv s->∃q,TqL s q/\VkL q/\WfL Nmq q
 |[],_,_=>⟨[],by rw[TqL];trivial,by rw[VkL];trivial,by rw[WfL];trivial⟩
 |t::r,h,hu=>by
  rw[okL,Bool.and_eq_true]at h;rw[Kv]at hu;obtain⟨n,a1,a2,a3⟩:=z0w t h.1 hu.1;obtain⟨q,b1,b2,b3⟩:=z4N r h.2 hu.2;exact⟨n::q,by rw[TqL];exact⟨a1,b1⟩,by rw[VkL];exact⟨a2,b2⟩,by rw[WfL];exact⟨a3,b3⟩⟩
end
theorem z4O:∀{rs:List Rr},rs.all okR=true->RgU rs->∃ns,TqR rs ns/\∀x∈ns,Ruk Nmq x
 |[],_,_=>⟨[],by rw[TqR];trivial,fun x hx=>by simp at hx⟩
 |x::r,h,hu=>by
  rw[List.all_cons,Bool.and_eq_true]at h;obtain⟨ns,a1,a2⟩:=z4O h.2 (fun y hy=>hu y (by simp[hy]));have hx:=h.1;unfold okR at hx;rw[Bool.and_eq_true]at hx;obtain⟨n,b1,b2,b3⟩:=z0w x.2.1 hx.2 (hu x (by simp));refine⟨(x.1,n,0)::ns,by rw[TqR];exact⟨rfl,b1,a1⟩,fun y hy=> ?_⟩;rcases List.mem_cons.1 hy with rfl|hy
  ·exact⟨hx.1,b2,b3⟩
  ·exact a2 y hy
theorem y2F{rs:List Rr}(h:okG rs=true)(hu:RgU rs):∃ns,TqR rs ns/\(∀x∈ns,Ruk Nmq x)/\1<=ns.length/\ns.length<=64:=by
 unfold okG at h;simp only[Bool.and_eq_true,decide_eq_true_eq]at h;obtain⟨ns,h1,h2⟩:=z4O h.2.2 hu;have:=h1.len;exact⟨ns,h1,h2,by omega,by omega⟩
end
open Go.RowKit Go.Shelf
mutual
theorem z4P:∀(t:RT) (n m:Nd),Tq t n->Sm n m->SmR false t (toR m)
 | .mk k T a b c d s p,.mk kd T' C s' pn,.mk kd2 T2 C2 s2 p2,h,hs=>by
   rw[Tq]at h;rw[Sm]at hs;obtain⟨rfl,rfl,rfl,rfl,rfl,rfl,h7⟩:=h;obtain⟨rfl,rfl,rfl,g4,_⟩:=hs;rw[toR,SmR];exact⟨rfl,rfl,rfl,rfl,rfl,rfl,fun e=>(by cases e),z4Q s s' s2 h7 g4⟩
theorem z4Q:∀(s:List RT) (q r:List Nd),TqL s q->SmL q r->Xx false s (Uz r)
 |[],[],[],_,_=>by rw[Uz,Xx];trivial
 |[],[],_::_,_,h=>by simp[SmL]at h
 |[],_::_,_,h,_=>by simp[TqL]at h
 |_::_,[],_,h,_=>by simp[TqL]at h
 |_::_,_::_,[],_,h=>by simp[SmL]at h
 |t::s,n::q,m::r,h,hs=>by
  rw[TqL]at h;rw[SmL]at hs;rw[Uz,Xx];exact⟨z4P t n m h.1 hs.1,z4Q s q r h.2 hs.2⟩
end
theorem y2G{rs:List Rr}{ns ms:List Rl}(h:TqR rs ns)(hs:RlL ns ms):SmG false rs (toG ms):=by
 have l1:=h.len;have l2:=hs.len;have l3:(toG ms).length=ms.length:=by unfold toG;rw[List.length_map]
 refine⟨by omega,fun j h1 h2=> ?_⟩;obtain⟨a1,a2⟩:=h.get j h1 (by omega);obtain⟨b1,b2⟩:=z4I hs j (by omega) (by omega);have e:(toG ms)[j]=(ms[j].1,toR ms[j].2.1,(ms[j].2.2:Int)):=List.getElem_map _;rw[e];exact⟨by rw[<-a1];exact b1,z4P _ _ _ a2 b2,fun h=>by cases h⟩
def K0(p:Nat×ByteArray×Nat):Prop:=(p.1≠4->p.2.2=0)/\(p.1=4->p.2.1={data:=#[]})
def K0L(l:List (Nat×ByteArray×Nat)):Prop:=∀p∈l,K0 p
theorem K0L.app{a b:List (Nat×ByteArray×Nat)}(h1:K0L a)(h2:K0L b):K0L (a++b):=fun p hp=>by
 rcases List.mem_append.1 hp with h|h
 ·exact h1 p h
 ·exact h2 p h
theorem K0L.cons{p:Nat×ByteArray×Nat}{b:List (Nat×ByteArray×Nat)}(h1:K0 p)(h2:K0L b):K0L (p::b):=fun q hq=>by
 rcases List.mem_cons.1 hq with h|h
 ·subst h;exact h1
 ·exact h2 q h
theorem K0L.nil:K0L []:=fun p hp=>by simp at hp
theorem Kw(x:UInt8):K0 (sgc x):=⟨fun _=>rfl,fun h=>by cases h⟩
theorem By{k:Nat}(T:ByteArray)(h:k≠4):K0 (k,T,0):=⟨fun _=>rfl,fun e=>absurd e h⟩
theorem z0x(over:Nat){n:Nd}(h:K0L (kN n)):K0L (kP over n):=by
 unfold kP;split
 ·exact K0L.cons (Kw _) (h.app (K0L.cons (Kw _) K0L.nil))
 ·exact h
theorem Hx(over:Nat):∀(s:List Nd),(∀m∈s,K0L (kN m))->K0L (kS over s)
 |[],_=>by rw[Uc];exact K0L.nil
 |n::r,h=>by
  rw[Um];exact(z0x over (h n (by simp))).app (Hx over r fun m hm=>h m (by simp[hm]))
theorem z4R:∀(s:List Nd),(∀m∈s,K0L (kN m))->K0L (kB s)
 |[],_=>by rw[Ad];exact K0L.nil
 |n::r,h=>by
  rw[Mz];exact K0L.cons (Kw _) ((z0x 7 (h n (by simp))).app (z4R r fun m hm=>h m (by simp[hm])))
theorem y2H:∀(s:List Nd),(∀m∈s,K0L (kN m))->K0L (kA s)
 |[],_=>by rw[kA];exact K0L.nil
 |n::r,h=>by
  rw[Il];exact(z0x 7 (h n (by simp))).app (z4R r fun m hm=>h m (by simp[hm]))
theorem z4S:∀(N:Nat) (n:Nd),SizeOf.sizeOf n<N->Vk n->K0L (kN n)
 |0,n,h,_=>by omega
 |N+1,.mk kd T C s p,hN,hv=>by
  rw[Vk]at hv;obtain⟨hv1,hvs⟩:=hv;have ih:∀m∈s,K0L (kN m):=fun m hm=>by
   have h3:=List.sizeOf_lt_of_mem hm;simp only[Nd.mk.sizeOf_spec]at hN;exact z4S N m (by omega) (hvs.mem m hm)
  have hT:kd=3->T={data:=#[]}:=fun e=>by
   rcases hv1 with q|q|q|q|q|q|q
   ·omega
   ·omega
   ·exact q.2.1
   ·omega
   ·omega
   ·omega
   ·omega
  have hC:kd=2∨kd=5->C=0:=fun e=>by
   rcases hv1 with q|q|q|q|q|q|q
   ·omega
   ·exact q.2.1
   ·omega
   ·omega
   ·exact q.2.1
   ·omega
   ·omega
  rw[kN]
  repeat' split
  ·exact K0L.cons (Kw _) (K0L.cons (Kw _) K0L.nil)
  ·rw[hC (.inl ‹_›)];exact K0L.cons (By _ (by decide)) K0L.nil
  ·rw[hT ‹_›];exact K0L.cons ⟨fun h=>absurd rfl h,fun _=>rfl⟩ K0L.nil
  ·exact K0L.cons (Kw _) K0L.nil
  ·rw[hC (.inr ‹_›)];exact K0L.cons (By _ (by decide)) K0L.nil
  ·exact Hx _ s ih
  ·exact y2H s ih
  ·exact K0L.cons (Kw _) (Hx _ s ih)
  ·exact K0L.cons (Kw _) (Hx _ s ih)
  ·exact(Hx _ s ih).app (K0L.cons (Kw _) K0L.nil)
theorem z4T:∀(rs:List Rl),(∀x∈rs,Vk x.2.1)->K0L (kR rs)
 |[],_=>by rw[kR];exact K0L.nil
 |x::r,h=>by
  rw[kR];exact K0L.cons (By _ (by decide)) (K0L.cons (By _ (by decide)) ((z4S _ x.2.1 (Nat.lt_succ_self _) (h x (by simp))).app (z4T r fun y hy=>h y (by simp[hy]))))
theorem y2I{rs:List Rl}(hx:∀x∈rs,Ruk Nmq x)(h8:sz (pR qT cT rs)<=8192):∃L,tkS (cat (pR qT cT rs))=.inr L/\Tk0 L:=by
 obtain⟨ts,e1,e2⟩:=z4x Mf hx h8;refine⟨_,e2,fun k=> ?_⟩;have hk:=z4T rs fun x h=>(hx x h).2.1
 have h0:K0 (tk3 (gL (ts++[(6,{data:=#[]},0,(cat (pR qT cT rs)).size)]) k)):=by
  rcases Nat.lt_or_ge k ts.length with h1|h1
  ·have e:gL (ts++[(6,{data:=#[]},0,(cat (pR qT cT rs)).size)]) k=ts[k]:=by
    rw[Xw (by simp;omega),List.getElem_append_left h1]
   rw[e];exact hk _ (by rw[<-e1];exact List.mem_map.2 ⟨_,List.getElem_mem h1,rfl⟩)
  ·rcases Nat.lt_or_ge k (ts.length+1)with h2|h2
   ·have e:gL (ts++[(6,{data:=#[]},0,(cat (pR qT cT rs)).size)]) k=(6,{data:=#[]},0,(cat (pR qT cT rs)).size):=by
     rw[Xw (by simp;omega),List.getElem_append_right h1];simp
    rw[e];exact By (k:=6) _ (by decide)
   ·have e:gL (ts++[(6,{data:=#[]},0,(cat (pR qT cT rs)).size)]) k=(6,{data:=#[]},0,0):=by
     unfold gL;rw[List.getElem?_eq_none (by simp;omega)];rfl
    rw[e];exact By (k:=6) _ (by decide)
 exact h0
theorem y2J(so so':Option Addr)(n m cap cap':Nat)(fl:Bool)(w:World)(hn:n<=9223372036854775807)(hm:m<=9223372036854775807)(h:n≠m):
  Calls prog 12 #[.agg #[.slice so n cap],.agg #[.slice so' m cap'],.bool fl] w fun e w'=>e=.returned (.bool false)/\Below w.heap.size w w':=by
 have q0:((n:Int) != (m:Int))=true:=by rw[bne_iff_ne];omega
 have q1:((n:Int) == (m:Int))=false:=by simp;omega
 go_enter func12,ntmps12
 go_wp2_with fail
 go_ret;exact⟨rfl,((Below.refl _ w).alloc L0q _).alloc (by simp) _⟩
mutual
theorem Qh.mono{w:World}{B B':Nat}(hB:B<=B'):∀(t:RT) (cs:List Value),Qh w B t cs->Qh w B' t cs
 | .mk k T a b c d s p,cs,ht=>by
   rw[Qh]at ht ⊢;obtain⟨so,cap,rfl,ht⟩:=ht;refine⟨so,cap,rfl,?_⟩;rcases ht with h1|⟨h1,g,o,h2,h3,h4,h5⟩
   ·exact .inl h1
   ·exact .inr ⟨h1,g,o,h2,by omega,h4,Zb.mono hB s g o h5⟩
theorem Zb.mono{w:World}{B B':Nat}(hB:B<=B'):∀(s:List RT) (g o:Nat),Zb w B g o s->Zb w B' g o s
 |[],g,o,_=>by rw[Zb];trivial
 |t::r,g,o,ht=>by
  rw[Zb]at ht ⊢;obtain⟨⟨cs,h1,h2⟩,h3⟩:=ht;exact⟨⟨cs,Qh.mono hB t cs h1,h2⟩,Zb.mono hB r g _ h3⟩
end
@[reducible] def bA:ByteArray:={data:=#[97]}
theorem z0y:∀x,x<1->nmS bA=true:=by decide+kernel
@[reducible] def wX (w:World) (k:Int) (T:ByteArray) (a b c d:Int) (so:Option Addr) (n cap:Nat) (p:Int):World:=(w.alloc (.cells #[.int .i64 k,.string T,.int .u64 a,.int .u64 b,.int .u64 c,.int .u64 d,.slice so n cap,.int .i64 p] 30)).alloc (.cells #[.string {data:=#[97]},.int .i64 k,.string T,.int .u64 a,.int .u64 b,.int .u64 c,.int .u64 d,.slice so n cap,.int .i64 p,.int .i64 0] 50)
theorem Mc(w:World)(k:Int)(T:ByteArray)(a b c d:Int)(so:Option Addr)(n cap:Nat)(p:Int):Below w.heap.size w (wX w k T a b c d so n cap p):=(B0q.alloc L0q _).alloc (by simp) _
theorem Pk{w:World}{k:Int}{T:ByteArray}{a b c d:Int}{so:Option Addr}{n cap:Nat}{p:Int}{t:RT}(ht:Qh w w.heap.size t (r8 k T a b c d so n cap p)):Xh (wX w k T a b c d so n cap p) (wX w k T a b c d so n cap p).heap.size (some ⟨w.heap.size+1,0,none⟩) 1 [(bA,t,0)]:=by
 have hb:=Mc w k T a b c d so n cap p;refine⟨rfl,by unfold maxLen;omega,fun j hj=>⟨w.heap.size+1,0,rfl,by simp,?_⟩⟩;obtain rfl:j=0:=by simpa using hj
 obtain⟨⟨c0,c1,c2,c3,c4,c5,c6,c7,c8,c9⟩,_⟩:=Gg (w:=wX w k T a b c d so n cap p) (g:=w.heap.size+1) (Qq _ _ (by simp));exact⟨k,T,a,b,c,d,so,n,cap,p,(ht.below hb).mono hb.size _ _,c0,c1,c2,c3,c4,c5,c6,c7,c8,c9⟩
theorem Pv{t:RT}(hz:RtZ t):RgZ [(bA,t,0)]:=fun x hx=>by
 obtain rfl:x=(bA,t,0):=by simpa using hx
 exact⟨by show 1<=_;omega,hz⟩
theorem Pw(t:RT):okG [(bA,t,0)]=okT t:=by
 unfold okG;rw[List.all_cons,List.all_nil,Bool.and_true];show(true&&(true&&(nmS bA&&okT t)))=okT t;rw[z0y 0 (by decide)];rfl
theorem z0z(k:Int)(T:ByteArray)(a b c d p:Int)(so:Option Addr)(n cap:Nat)(w:World)(c0:Int)
  (HP:Hid (Calls prog 11 #[.agg #[.slice (some ⟨w.heap.size+1,0,none⟩) 1 1]] (wX w k T a b c d so n cap p) fun e w'=>e=.returned (.tuple #[.string ⟨#[]⟩,.iface 39 (.int .i64 c0)])/\Below (wX w k T a b c d so n cap p).heap.size (wX w k T a b c d so n cap p) w')):
  Calls prog 15 #[.agg (r8 k T a b c d so n cap p).toArray] w fun e w'=>e=.returned (.string ⟨#[]⟩)/\Below w.heap.size w w':=by
 have HB:=hid (Mc w k T a b c d so n cap p);dsimp only[r8];go_enter func15,ntmps15
 go_wp2_with fail
 refine HP.out.mono ?_;rintro e w1 ⟨rfl,hb1⟩;have HB1:Hid (Below w.heap.size w w1):=HB.out.trans (hb1.mono HB.out.size);clear HP hb1 HB
 go_wp2_with fail
 go_ret;exact⟨rfl,HB1.out⟩
theorem y2K(k:Int)(T:ByteArray)(a b c d p:Int)(so:Option Addr)(n cap:Nat)(w:World)(X L:ByteArray)(hL:L.size=X.size+6)(hX:X.size<=8192)(HX:Hid (L.extract 5 (X.size+5)=X))
  (HP:Hid (Calls prog 11 #[.agg #[.slice (some ⟨w.heap.size+1,0,none⟩) 1 1]] (wX w k T a b c d so n cap p) fun e w'=>e=.returned (.tuple #[.string L,.nilIface])/\Below (wX w k T a b c d so n cap p).heap.size (wX w k T a b c d so n cap p) w')):
  Calls prog 15 #[.agg (r8 k T a b c d so n cap p).toArray] w fun e w'=>e=.returned (.string X)/\Below w.heap.size w w':=by
 have HB:=hid (Mc w k T a b c d so n cap p);dsimp only[r8];go_enter func15,ntmps15
 go_wp2_with fail
 refine HP.out.mono ?_;rintro e w1 ⟨rfl,hb1⟩;have HB1:Hid (Below w.heap.size w w1):=HB.out.trans (hb1.mono HB.out.size);have hsl:(Instr.slice 9 (.string L) (some (.int .i64 5)) (some (.int .i64 ((X.size:Int)+6-1))) none).run prog w1=.ok (.string X) w1:=by
  rw[run_slice_string w1 9 L .i64 .i64 5 ((X.size:Int)+6-1) Tryz.underlying9 (by omega) (by omega) (by rw[hL];omega)];rw[show((X.size:Int)+6-1).toNat=X.size+5 by omega];exact congrArg (fun q=>Result.ok (Value.string q) w1) HX.out
 clear HP hb1 HB
 go_wp2_with fail
 go_ret;exact⟨rfl,HB1.out⟩
def exS(nd:Nd):ByteArray:=if 8192<sz (pR qT cT [(bA,nd,0)])∨24<dR [(bA,nd,0)]then{data:=#[]}else cat (pN qT cT nd)
theorem y2L(nd:Nd):cat (pR qT cT [(bA,nd,0)])={data:=([97,32,60,45,32]++((cat (pN qT cT nd)).data.toList++[10])).toArray}:=by
 rw[pR,pR,cat,cat,Gp,cat,cat];apply ByteArray.ext;apply Array.ext';simp[bA,bAr,bNl]
theorem z4U(nd:Nd):(cat (pR qT cT [(bA,nd,0)])).size=(cat (pN qT cT nd)).size+6/\(cat (pR qT cT [(bA,nd,0)])).extract 5 ((cat (pN qT cT nd)).size+5)=cat (pN qT cT nd):=by
 obtain⟨X,hX⟩:∃X,X=cat (pN qT cT nd):=⟨_,rfl⟩;rw[y2L,<-hX];have hl:X.data.toList.length=X.size:=by rw[Array.length_toList];rfl
 refine⟨?_,?_⟩
 ·show([97,32,60,45,32]++(X.data.toList++[10])).toArray.size=_
  simp
 ·rw[ByteArray.extract_mk]
  apply ByteArray.ext;apply Array.ext';show List.take (X.size+5-5) (List.drop 5 ([97,32,60,45,32]++(X.data.toList++[10])))=X.data.toList;rw[show X.size+5-5=X.data.toList.length by omega];simp
theorem y2M(k:Int)(T:ByteArray)(a b c d p:Int)(so:Option Addr)(n cap:Nat)(t:RT)(nd:Nd)(w:World)(hT:TabIs w)(ht:Qh w w.heap.size t (r8 k T a b c d so n cap p))(hz:RtZ t)(hq:Tq t nd)(hv:Vk nd)(hw:Wf Nmq nd):
  Calls prog 15 #[.agg (r8 k T a b c d so n cap p).toArray] w fun e w'=>e=.returned (.string (exS nd))/\Below w.heap.size w w':=by
 have hb:=Mc w k T a b c d so n cap p;have hqr:TqR [(bA,t,0)] [(bA,nd,0)]:=by rw[TqR];exact⟨rfl,hq,by rw[TqR];trivial⟩
 have hx:∀x∈[((bA,nd,0):Rl)],Ruk Nmq x:=fun x hx=>by
  obtain rfl:x=(bA,nd,0):=by simpa using hx
  exact⟨z0y 0 (by decide),hv,hw⟩
 have HP:=Wl (some ⟨w.heap.size+1,0,none⟩) 1 1 [(bA,t,0)] [(bA,nd,0)] _ (wX w k T a b c d so n cap p) (Pv hz) (Pk ht) L0q (by rw[Pw];exact(Og t nd hq hv hw).1) hqr hx (hT.below hb hT.lt);unfold exS;rcases Nat.lt_or_ge 8192 (sz (pR qT cT [(bA,nd,0)]))with hlong|hshort
 ·rw[Wp hlong]at HP
  rw[if_pos (.inl hlong)];exact z0z k T a b c d p so n cap w 2 HP
 rcases Nat.lt_or_ge 24 (dR [(bA,nd,0)])with hdeep|hflat
 ·rw[Wc hshort hdeep]at HP
  rw[if_pos (.inr hdeep)];exact z0z k T a b c d p so n cap w 20 HP
 rw[Ov hshort hflat]at HP;rw[if_neg (by omega)];have hc:=z4U nd;have hs:(cat (pR qT cT [(bA,nd,0)])).size<=8192:=by rw[My];exact hshort
 exact y2K k T a b c d p so n cap w _ _ hc.1 (by omega) hc.2 HP
theorem y2N(k:Int)(T:ByteArray)(a b c d p:Int)(so:Option Addr)(n cap:Nat)(t:RT)(w:World)(ht:Qh w w.heap.size t (r8 k T a b c d so n cap p))(hz:RtZ t)(hk:okT t=false):
  Calls prog 15 #[.agg (r8 k T a b c d so n cap p).toArray] w fun e w'=>e=.returned (.string ⟨#[]⟩)/\Below w.heap.size w w':=
 z0z k T a b c d p so n cap w 20 (z3E (some ⟨w.heap.size+1,0,none⟩) 1 1 [(bA,t,0)] _ (wX w k T a b c d so n cap p) (Pv hz) (Pk ht) L0q (by rw[Pw];exact hk))
theorem y2O{ns:List Rl}(j:Nat)(hj:j<ns.length):cat (pR qT cT (ns.take (j+1)))=((cat (pR qT cT (ns.take j))++(ns[j].1++bAr))++cat (pN qT cT ns[j].2.1))++bNl:=by
 have h:∀(l:List Rl) (x:Rl),cat (pR qT cT (l++[x]))=((cat (pR qT cT l)++(x.1++bAr))++cat (pN qT cT x.2.1))++bNl:=by
  intro l
  induction l with
  |nil=>
   intro x;have e:∀Z:ByteArray,({data:=#[]}:ByteArray)++Z=Z:=fun Z=>by apply ByteArray.ext;simp
   have e':∀Z:ByteArray,Z++({data:=#[]}:ByteArray)=Z:=fun Z=>by apply ByteArray.ext;simp
   rw[List.nil_append,pR,pR];simp only[pR,cat,Gp,e,e',ByteArray.append_assoc]
  |cons y r ih=>
   intro x;rw[List.cons_append,pR,pR];simp only[cat,Gp,ih,ByteArray.append_assoc]
 rw[List.take_succ_eq_append_getElem hj];exact h _ _
mutual
theorem SmR.symm:∀{t u:RT},SmR false t u->SmR false u t
 | .mk k T a b c d s p,.mk k' T' a' b' c' d' s' p',h=>by
   rw[SmR]at h ⊢;obtain⟨h1,h2,h3,h4,h5,h6,_,h8⟩:=h;exact⟨h1.symm,h2.symm,h3.symm,h4.symm,h5.symm,h6.symm,(fun e=>absurd e (by decide)),h8.symm⟩
theorem Xx.symm:∀{s q:List RT},Xx false s q->Xx false q s
 |[],[],_=>by rw[Xx];trivial
 |[],_::_,h=>by simp[Xx]at h
 |_::_,[],h=>by simp[Xx]at h
 |t::r,u::q,h=>by
  rw[Xx]at h ⊢;exact⟨h.1.symm,h.2.symm⟩
end
theorem SmG.symm{xs ys:List Rr}(h:SmG false xs ys):SmG false ys xs:=
 ⟨h.1.symm,fun j h1 h2=>by
   obtain⟨a,b,_⟩:=h.2 j h2 h1;exact⟨a.symm,b.symm,fun e=>by cases e⟩⟩
def Dj(rs:List Rl):Value:=if 8192<sz (pR qT cT rs)then .tuple #[.string ⟨#[]⟩,.int .i64 2]else if 24<dR rs then .tuple #[.string ⟨#[]⟩,.int .i64 20]else .tuple #[.string (cat (pR qT cT rs)),.int .i64 0]
theorem z4V(so:Option Addr)(n cap:Nat)(rs:List Rr)(B:Nat)(w:World)(hz:RgZ rs)(h:Xh w B so n rs)(hB:B<=w.heap.size)(hk:okG rs=false):
  Calls prog 13 #[.agg #[.slice so n cap]] w fun e w'=>e=.returned (.tuple #[.string ⟨#[]⟩,.int .i64 20])/\Below w.heap.size w w':=by
 have HI:=hid (fun(W:World) (hb:Below w.heap.size w W)=>z3T so n cap rs B W hz (h.below (hb.mono hB)) (Nat.le_trans hB hb.size));rw[hk]at HI;clear h hz;go_enter func13,ntmps13
 go_wp2_with(first|(go_at_call 23;refine(HI.out _ ?hh).mono ?_;(case hh=>exact B0q.alloc L0q _);rintro e wq ⟨rfl,hbq⟩))
 go_ret2
 exact⟨rfl,((Below.refl _ w).alloc L0q _).trans (hbq.mono (by simp))⟩
theorem z4W(so:Option Addr)(n cap:Nat)(rs:List Rr)(ns:List Rl)(B:Nat)(w:World)(hz:RgZ rs)(h:Xh w B so n rs)(hB:B<=w.heap.size)(hk:okG rs=true)(hq:TqR rs ns)(hx:∀x∈ns,Ruk Nmq x)(h1:1<=ns.length)(h64:ns.length<=64):
  Calls prog 13 #[.agg #[.slice so n cap]] w fun e w'=>e=.returned (Dj ns)/\Below w.heap.size w w':=by
 have HI:=hid (fun(W:World) (hb:Below w.heap.size w W)=>z3T so n cap rs B W hz (h.below (hb.mono hB)) (Nat.le_trans hB hb.size));rw[hk]at HI;obtain⟨W1,hW1⟩:∃W1,W1=w.alloc (.cells #[.slice so n cap] 24):=⟨_,rfl⟩;have HB1:Hid (Below w.heap.size w W1):=by rw[hW1];exact(Below.refl _ w).alloc L0q _
 have HC1:Hid (W1.heap[w.heap.size]? =some (.cells #[.slice so n cap] 24)):=by rw[hW1];exact Qq w _ rfl
 have HZ1:Hid (W1.heap.size=w.heap.size+1):=by rw[hW1];exact World.size_alloc _ _
 have HW1:=hid hW1;have HG:=hid h;have HX:=hid hx;have HQ:=hid hq;have HNn:Hid (n=ns.length):=h.1.trans hq.len.symm;have hn64:n<=64:=by have:=HNn.out;omega
 have hn1:1<=n:=by have:=HNn.out;omega
 clear hW1 h hz hx hq h1 h64 hk;go_enter func13,ntmps13
 go_wp2_with(first|(go_at_call 23;rw[<-HW1.out];refine(HI.out _ HB1.out).mono ?_;rintro e w1 ⟨rfl,hb1⟩;have HC2:Hid (w1.heap[w.heap.size]? =some (.cells #[.slice so n cap] 24)):=(hb1.block _ (by rw[HZ1.out];exact Nat.lt_succ_self _)).trans HC1.out;have HB2:Hid (Below w.heap.size w w1):=HB1.out.trans (hb1.mono HB1.out.size);clear hb1 HI HW1))
 obtain⟨base,hbase⟩:∃base,base=w1.heap.size:=⟨_,rfl⟩;have hwb:w.heap.size<base:=by rw[hbase];exact Qz HC2.out
 have HP0:Hid (Pg base base (cat (pR qT cT (ns.take 0))) (w1.alloc (.cells #[.slice none 0 0] 57))):=by
  rw[hbase];exact⟨Nat.le_refl _,by simp,.slice none 0 0,{data:=#[]},Qq w1 _ rfl,World.ownsRow_nil _ _ _ _,by decide,fun _=>rfl,fun h=>by rw[List.take_zero,pR,cat]at h;exact absurd h (by decide)⟩
 have HB3:Hid (Below base w1 (w1.alloc (.cells #[.slice none 0 0] 57))):=by rw[hbase];exact(Below.refl _ w1).alloc L0q _
 have HNd:=hid (fun(j:Nat) (hj:j<n)=>by
  have hj1:j<rs.length:=by rw[<-HG.out.1];exact hj
  have hj2:j<ns.length:=by rw[<-HNn.out];exact hj
  obtain⟨g,o,e1,hg,k1,T1,a1,b1,c1,d1,so1,n1,cap1,p1,rt,z0,z1,z2,z3,z4,z5,z6,z7,z8,z9⟩:=(HG.out.below (HB2.out.mono hB)).2.2 j hj1;obtain⟨q1,q2⟩:=HQ.out.get j hj1 hj2;have hr:=HX.out ns[j] (List.getElem_mem hj2);exact(⟨hj2,g,o,e1,by omega,k1,T1,a1,b1,c1,d1,so1,n1,cap1,p1,by rw[<-q1]at z0;exact z0,z1,z2,z3,z4,z5,z6,z7,z8,(Mf.nm _ hr.1).1,z3R base base w1 _ _ ns[j].2.1 _ (Nat.lt_succ_self _) q2 hr.2.1 hr.2.2 (rt.mono (by omega) _ _)⟩:∃(hj2:j<ns.length),∃g o,so=some ⟨g,o,none⟩/\g<base/\∃k1 T1 a1 b1 c1 d1 so1 n1 cap1 p1,w1.cell? ⟨g,o+j*10,none⟩=some (.string ns[j].1)/\w1.cell? ⟨g,o+j*10+1,none⟩=some (.int .i64 k1)/\w1.cell? ⟨g,o+j*10+2,none⟩=some (.string T1)/\w1.cell? ⟨g,o+j*10+3,none⟩=some (.int .u64 a1)/\w1.cell? ⟨g,o+j*10+4,none⟩=some (.int .u64 b1)/\w1.cell? ⟨g,o+j*10+5,none⟩=some (.int .u64 c1)/\w1.cell? ⟨g,o+j*10+6,none⟩=some (.int .u64 d1)/\w1.cell? ⟨g,o+j*10+7,none⟩=some (.slice so1 n1 cap1)/\w1.cell? ⟨g,o+j*10+8,none⟩=some (.int .i64 p1)/\ns[j].1.size<=32/\PgC 25 #[.agg (r8 k1 T1 a1 b1 c1 d1 so1 n1 cap1 p1).toArray] base base w1 (cat (pN qT cT ns[j].2.1))))
 rw[<-hbase];have HBs:=hid hbase;clear hbase
 go_loopw [6] (fun i wr=>∃j:Nat,i=.int .i64 j/\j<=n/\Hid (Below base w1 wr)/\Hid (Pg base base (cat (pR qT cT (ns.take j))) wr)) (fun i _=>n-(intOf i).toNat)
 case atStart=>exact⟨0,rfl,Nat.zero_le _,HB3,HP0⟩
 case round=>
  obtain⟨j,rfl,hj,HB,HP⟩:=hrel;clear HB3 HP0;have HCr:Hid (wr.heap[w.heap.size]? =some (.cells #[.slice so n cap] 24)):=(HB.out.block _ hwb).trans HC2.out;obtain⟨m0,_⟩:=Zl HCr.out;by_cases hjn:j<n
  ·have hjI:(j:Int)<(n:Int):=by omega
   have a0:decide ((j:Int)<(n:Int))=true:=by simp;omega
   obtain⟨hj2,g,o,rfl,hg,k1,T1,a1,b1,c1,d1,so1,n1,cap1,p1,y0,y1,y2,y3,y4,y5,y6,y7,y8,hN0,hnode⟩:=HNd.out j hjn;have HX1:=hid (y2O j hj2);have he:∀i,wr.cell? ⟨g,i,none⟩=w1.cell? ⟨g,i,none⟩:=fun i=>HB.out.cell (p:=⟨g,i,none⟩) hg
   have z0:=(he _).trans y0;obtain⟨N0,hN⟩:∃N0,N0=ns[j].1:=⟨_,rfl⟩;obtain⟨Tn,hTn⟩:∃Tn,Tn=cat (pN qT cT ns[j].2.1):=⟨_,rfl⟩;obtain⟨X,hX⟩:∃X,X=cat (pR qT cT (ns.take j)):=⟨_,rfl⟩;rw[<-hN]at z0 hN0 HX1;rw[<-hTn]at hnode HX1;rw[<-hX]at HX1 HP;have HPa:=hid (Vb base base X (N0++bAr) wr HP.out (by rw[ByteArray.size_append];show N0.size+4<=4096;omega));have HPn:Hid (PgC _ _ _ _ _ _):=hnode;have HY:Hid (w1.cell? ⟨g,o+j*10+1,none⟩=some (.int .i64 k1)/\w1.cell? ⟨g,o+j*10+2,none⟩=some (.string T1)/\w1.cell? ⟨g,o+j*10+3,none⟩=some (.int .u64 a1)/\w1.cell? ⟨g,o+j*10+4,none⟩=some (.int .u64 b1)/\w1.cell? ⟨g,o+j*10+5,none⟩=some (.int .u64 c1)/\w1.cell? ⟨g,o+j*10+6,none⟩=some (.int .u64 d1)/\w1.cell? ⟨g,o+j*10+7,none⟩=some (.slice so1 n1 cap1)/\w1.cell? ⟨g,o+j*10+8,none⟩=some (.int .i64 p1)):=⟨y1,y2,y3,y4,y5,y6,y7,y8⟩;clear y0 y1 y2 y3 y4 y5 y6 y7 y8 he hnode hN hTn hX HNd HG HX HQ
   go_wp2_with(first|(go_at_call 24;refine HPa.out.mono ?_;rintro e wa ⟨rfl,HP1,HB4,HK4⟩;have HB5:Hid (Below base w1 wa):=HB.out.trans HB4.out;have HCa:Hid (wa.heap[w.heap.size]? =some (.cells #[.slice (some ⟨g,o,none⟩) n cap] 24)):=(HB5.out.block _ hwb).trans HC2.out;obtain⟨ma,_⟩:=Zl HCa.out;have he:∀i,wa.cell? ⟨g,i,none⟩=w1.cell? ⟨g,i,none⟩:=fun i=>HB5.out.cell (p:=⟨g,i,none⟩) hg;obtain⟨y1,y2,y3,y4,y5,y6,y7,y8⟩:=HY.out;rw[<-he]at y1 y2 y3 y4 y5 y6 y7 y8;clear he HPa z0)|(go_at_call 25;refine(HPn.out _ _ HP1.out HB5.out).mono ?_;rintro e wb ⟨rfl,HP2,HB6,HK6⟩;clear y1 y2 y3 y4 y5 y6 y7 y8;have HPc:=hid (Vb base base _ bNl wb HP2.out (by decide)))|(go_at_call 24;refine HPc.out.mono ?_;rintro e wc ⟨rfl,HP3,HB7,HK7⟩))
   refine⟨⟨j+1,by go_num,by omega,(HB5.out.trans HB6.out).trans HB7.out,by rw[HX1.out];exact HP3.out⟩,?_⟩;simp[intOf];omega
  ·have a0:decide ((j:Int)<(n:Int))=false:=by simp;omega
   have hjI:¬(j:Int)<(n:Int):=by omega
   have hjn':j=ns.length:=by have:=HNn.out;omega
   rw[hjn',List.take_length]at HP;clear HNd;obtain⟨_,_,bv,Y,h3,h4,h5,h6,h7⟩:=HP.out;have hsz:(cat (pR qT cT ns)).size=sz (pR qT cT ns):=My _;obtain⟨c0,_⟩:=Ow h3;have cv:=z3s h4;obtain⟨so',sc,rfl⟩:=Eh h4;have HBw:Hid (Below w.heap.size w wr):=HB2.out.trans (HB.out.mono (Nat.le_of_lt hwb));clear h3 h4 HP;rcases Nat.lt_or_ge 8192 (cat (pR qT cT ns)).size with hl|hl
   ·have hy:=h7 hl
    have HA:Hid (Dj ns=.tuple #[.string ⟨#[]⟩,.int .i64 2]):=if_pos (by omega);have HZp:=hid (fun W=>y2e Y W hy);have b0:decide ((8192:Int)<(Y.size:Int))=true:=by simp;omega
    have b1:(8192:Int)<(Y.size:Int):=by omega
    clear h6 h7 HG HX HQ hsz hl
    go_wp2_with(first|(go_at_call 26;refine(HZp.out _).mono ?_;rintro e w5 ⟨rfl,hb5⟩;have HB5:Hid (Below w.heap.size w w5):=HBw.out.trans (hb5.mono HBw.out.size)))
    go_ret2
    exact⟨by rw[HA.out];rfl,by first|exact HB5.out|exact HB5.out.alloc HB5.out.size _⟩
   ·have hyx:=h6 hl
    subst hyx;have hsl:sz (pR qT cT ns)<=8192:=by omega
    obtain⟨L,hL,hL0⟩:=y2I HX.out hsl;have hZp:=y2d (cat (pR qT cT ns)) wr hl (fun L' h=>by rw[hL]at h;cases h;exact hL0) ⟨L,hL⟩;obtain⟨Y,hY⟩:∃Y,Y=cat (pR qT cT ns):=⟨_,rfl⟩;have hmx:n<=9223372036854775807:=by omega
    have c1:=Qz HCr.out;cases hp:Yw (cat (pR qT cT ns))with
    |inr ms=>
     have hd:=y2m Mf HX.out hsl hp;obtain⟨ms',e1,e2⟩:=z2O Mf (fun x hx'=>⟨HX.out x hx',z2U.1 hd x hx'⟩) (by have:=HNn.out;omega) (by have:=HNn.out;omega) hsl;rw[show pR (fun T=>nb (qt T)) (fun C=>nb (txt C)) ns=pR qT cT ns from rfl,hp]at e1;cases e1;have HSG:=hid (y2G HQ.out e2).symm;have HNL:Hid (ms.length=n):=e2.len.trans HNn.out.symm;have HSS:=hid (z0s (z4G hl hp));have HA:Hid (Dj ns=.tuple #[.string (cat (pR qT cT ns)),.int .i64 0]):=(if_neg (by omega)).trans (if_neg (by omega));rw[hp]at hZp;unfold Om at hZp;simp only at hZp;rw[HNL.out]at hZp;rw[<-hY]at hZp HA cv c0 hl;have HZp:=hid hZp;have b0:decide ((8192:Int)<(Y.size:Int))=false:=by simp;omega
     have b1:¬(8192:Int)<(Y.size:Int):=by omega
     clear hZp hp e2 hd hL0 hL hsl h5 h6 h7 hY hsz HX HQ
     go_wp2_with(first|(go_at_call 26;refine HZp.out.mono ?_;rintro e w5 ⟨g',cap',rfl,HR5,hb5⟩;have HB5:Hid (Below w.heap.size w w5):=HBw.out.trans (hb5.out.mono HBw.out.size);have HC5:Hid (w5.heap[w.heap.size]? =some (.cells #[.slice so n cap] 24)):=(hb5.out.block _ c1).trans HCr.out;obtain⟨k0,_⟩:=Zl HC5.out;have k1:=Qz HC5.out;have HB6:Hid (Below w.heap.size w (w5.alloc (.cells #[.slice (some ⟨g',0,none⟩) n cap'] 24))):=HB5.out.alloc HB5.out.size _;have HR6:Hid (RoR wr.heap.size (.slice (some ⟨g',0,none⟩) n cap') ms (w5.alloc (.cells #[.slice (some ⟨g',0,none⟩) n cap'] 24))):=HR5.out.below ((Below.refl _ w5).alloc L0q _);have HZ6:=hid (z4J false (cap:=cap') (cap':=cap) (z4H HR6.out HSS.out (by rw[HNL.out];exact hn64)) (HG.out.below (HB6.out.mono hB)) L0q (Nat.le_trans hB HB6.out.size) HSG.out);clear HZp HR5 HR6 hb5)|(go_at_call 12;refine HZ6.out.mono ?_;rintro e w7 ⟨rfl,hb7⟩;have HB7:Hid (Below w.heap.size w w7):=HB6.out.trans (hb7.mono HB6.out.size)))
     go_ret2
     exact⟨by rw[HA.out];rfl,HB7.out⟩
    |inl x=>
     have hd:24<dR ns:=by
      rcases Nat.lt_or_ge 24 (dR ns)with h|h
      ·exact h
      ·obtain⟨ms,e1,_⟩:=z2O Mf (fun x hx'=>⟨HX.out x hx',z2U.1 h x hx'⟩) (by have:=HNn.out;omega) (by have:=HNn.out;omega) hsl
       rw[show pR (fun T=>nb (qt T)) (fun C=>nb (txt C)) ns=pR qT cT ns from rfl,hp]at e1;cases e1
     have HA:Hid (Dj ns=.tuple #[.string ⟨#[]⟩,.int .i64 20]):=(if_neg (by omega)).trans (if_pos hd);rw[hp]at hZp;unfold Om at hZp;simp only at hZp;rw[<-hY]at hZp cv c0 hl;have HZp:=hid hZp;have b0:decide ((8192:Int)<(Y.size:Int))=false:=by simp;omega
     have b1:¬(8192:Int)<(Y.size:Int):=by omega
     have HZ6:=hid (fun W=>y2J none so 0 n 0 cap false W (by decide) hmx (by omega));clear hZp hp hd hL0 hL hsl h5 h6 h7 hY hsz HX HQ HG
     go_wp2_with(first|(go_at_call 26;refine HZp.out.mono ?_;rintro e w5 ⟨q5,c5,hc5,rfl,hb5⟩;have HB5:Hid (Below w.heap.size w w5):=HBw.out.trans (hb5.out.mono HBw.out.size);have HC5:Hid (w5.heap[w.heap.size]? =some (.cells #[.slice so n cap] 24)):=(hb5.out.block _ c1).trans HCr.out;obtain⟨k0,_⟩:=Zl HC5.out;have k1:=Qz HC5.out;have HB6:Hid (Below w.heap.size w (w5.alloc (.cells #[.slice none 0 0] 24))):=HB5.out.alloc HB5.out.size _;have k2:(c5 != 0)=true:=(by rw[bne_iff_ne];exact hc5);have k3:(c5 == 0)=false:=(by simp;exact hc5);clear HZp hb5)|(go_at_call 12;refine(HZ6.out _).mono ?_;rintro e w7 ⟨rfl,hb7⟩;have HB7:Hid (Below w.heap.size w w7):=HB6.out.trans (hb7.mono HB6.out.size)))
     go_ret2
     exact⟨by rw[HA.out];rfl,HB7.out⟩
end Go.Proofs.YtikfnaffiehpaaaGreatDoor
