/- Lemmas for the last text. Conditions: those that each names. -/
import Derived.Test.YtgnkkgcgbeianaaGreatDoorVO5ToS4
import Derived.ProofKit
import Derived.OpenShut
import Derived.Laws.IdiomArrays
import Derived.Lib.SmallJoins
import Derived.Test.YtgnkkgcgbeianaaGreatDoorVX3ToX16
import Derived.Deep.RegionHeld3
set_option linter.unusedVariables false
set_option maxRecDepth 100000
set_option maxHeartbeats 8000000
namespace Go.Proofs.YtgnkkgcgbeianaaGreatDoor
open Go.Proofs.Tryz
section
open Go.ChangeShapes Go.WideShapes Go.ChangeAt Go.RowKit
mutual
def RtU:RT->Prop
 | .mk _ _ a b c d s _=>(0<=a/\a<18446744073709551616)/\(0<=b/\b<18446744073709551616)/\(0<=c/\c<18446744073709551616)/\(0<=d/\d<18446744073709551616)/\Xj s
def Xj:List RT->Prop
 |[]=>True
 |t::r=>RtU t/\Xj r
end
theorem Tryz.structNode:Tryz.prog.underlying 81=some (.struct (Tryz.prog.fieldsOf 81)):=by kernel_rfl
theorem Tryz.fieldsNode:(Tryz.prog.fieldsOf 81).toList.map (fun f=>(f.name,f.type,f.offset))=[("Kind",3,0),("Text",9,1),("Class",54,2),("Subs",79,6),("At",3,7)]:=by kernel_rfl
theorem Tryz.structRule:Tryz.prog.underlying 83=some (.struct (Tryz.prog.fieldsOf 83)):=by kernel_rfl
theorem Tryz.fieldsRule:(Tryz.prog.fieldsOf 83).toList.map (fun f=>(f.name,f.type,f.offset))=[("Name",9,0),("Body",81,1),("At",3,9)]:=by kernel_rfl
theorem Tryz.structGram:Tryz.prog.underlying 43=some (.struct (Tryz.prog.fieldsOf 43)):=by kernel_rfl
theorem Tryz.fieldsGram:(Tryz.prog.fieldsOf 43).toList.map (fun f=>(f.name,f.type,f.offset))=[("Rules",41,0)]:=by kernel_rfl
theorem Tryz.cellsNode:Tryz.prog.cellsOf 81=8:=by kernel_rfl
theorem Tryz.cellsRule:Tryz.prog.cellsOf 83=10:=by kernel_rfl
theorem Tryz.cellsGram:Tryz.prog.cellsOf 43=1:=by kernel_rfl
theorem Tryz.cellsCls:Tryz.prog.cellsOf 54=4:=by kernel_rfl
theorem Tryz.cellsInt:Tryz.prog.cellsOf 3=1:=by kernel_rfl
theorem Tryz.cellsStr:Tryz.prog.cellsOf 9=1:=by kernel_rfl
theorem Tryz.cellsNodes:Tryz.prog.cellsOf 79=1:=by kernel_rfl
theorem Tryz.cellsRules:Tryz.prog.cellsOf 41=1:=by kernel_rfl
theorem Tryz.cellsWord:Tryz.prog.cellsOf 52=1:=by kernel_rfl
theorem Tryz.arrayCls:Tryz.prog.underlying 54=some (.array 4 52):=by kernel_rfl
theorem Tryz.sliceNodes:Tryz.prog.underlying 79=some (.slice 81):=by kernel_rfl
theorem Tryz.sliceRules:Tryz.prog.underlying 41=some (.slice 83):=by kernel_rfl
theorem Gv{o:Array Field}{l:List (String×TypeId×Nat)}(h:o.toList.map (fun f=>(f.name,f.type,f.offset))=l)(i:Nat)(x:String×TypeId×Nat)(hx:l[i]? =some x):∃f,o[i]? =some f/\f.type=x.2.1/\f.offset=x.2.2:=by
 rw[<-h,List.getElem?_map]at hx;cases hf:o.toList[i]? with
 |none=>rw[hf]at hx;cases hx
 |some f=>
  rw[hf]at hx;simp only[Option.map_some,Option.some.injEq]at hx;refine⟨f,by rw[<-Array.getElem?_toList];exact hf,?_,?_⟩
  ·rw[<-hx]
  ·rw[<-hx]
theorem Rf{o:Array Field}{l:List (String×TypeId×Nat)}(h:o.toList.map (fun f=>(f.name,f.type,f.offset))=l):o.size=l.length:=by
 rw[<-h,List.length_map,Array.length_toList]
theorem z2u{W:World}{B g:Nat}:∀(n o:Nat),(∀i,i<n->∃t r,Qy W B t r/\RtZ t/\RtU t/\∀j u,r[j]? =some u->zC W g (o+i*8+j) u)->∃s:List RT,s.length=n/\Zq W B g o s/\Xg s/\Xj s
 |0,o,_=>⟨[],rfl,by rw[Zq];trivial,by rw[Xg];trivial,by rw[Xj];trivial⟩
 |n+1,o,h=>by
  obtain⟨t,r,y,A,D,E⟩:=h 0 (by omega);obtain⟨s,I,U,V,Y⟩:=z2u n (o+8) (fun i Z=>by
   obtain⟨t,r,y,A,D,E⟩:=h (i+1) (by omega);refine⟨t,r,y,A,D,fun j u G=> ?_⟩;have:=E j u G;rw[show o+(i+1)*8+j=o+8+i*8+j by omega]at this;exact this)
  refine⟨t::s,by simp[I],?_,by rw[Xg];exact⟨A,V⟩,by rw[Xj];exact⟨D,Y⟩⟩;rw[Zq];refine⟨⟨r,y,fun j u G=> ?_⟩,U⟩;have:=E j u G;rw[Nat.zero_mul,Nat.add_zero]at this;exact this
section
variable {H:Type} {enc:TypeId×Value->H} {W:World} {sp:Nat->Bool} {hl:Bool}
theorem z2v{a:Addr}{n:Nat}{r:List Value}(h:W.cells? 0 (a.add (0*n)) n=some r)(t:0<n):a.spot=none:=by
 obtain⟨_,D,y⟩:=World.cells?_some h;have o:=y 0 t;rw[Deep.add_add,Nat.zero_mul]at o;obtain⟨c,A⟩:∃c,r[0]? =some c:=⟨_,List.getElem?_eq_getElem (by omega)⟩;rw[A]at o;have:=World.cell?_spot o;simpa [Addr.add]using this
theorem Ed{b o k n:Nat}{r:List Value}(h:W.cells? 0 ((⟨b,o,none⟩:Addr).add k) n=some r)(G:0<n):b<W.heap.size/\r.length=n/\∀j u,r[j]? =some u->zC W b (o+k+j) u:=by
 obtain⟨_,t,D⟩:=World.cells?_some h;have y:∀j u,r[j]? =some u->zC W b (o+k+j) u:=fun j u A=>by
  have E:j<n:=by rw[<-t];exact(List.getElem?_eq_some_iff.1 A).1
  have:=D j E;rw[Deep.add_add,Addr.add_lit,A]at this;rw[Nat.add_assoc];exact this
 exact⟨World.block_lt_of_cell? W ⟨b,o+k+0,none⟩ (y 0 _ (List.getElem?_eq_getElem (by omega))),t,y⟩
theorem z2w:∀(N fuel:Nat) (D:List Value) (x:DataW H×List MemPlace),fuel<N->DataW.trod enc prog W 0 sp hl fuel 81 D=some x->∃t,Qy W W.heap.size t D/\RtZ t/\RtU t
 |0,_,_,_,h,_=>by omega
 |N+1,fuel,D,x,hN,h=>by
  obtain⟨xs,n,rfl,rfl,Y,Z,r⟩:=DataW.trod_struct Tryz.structNode h;rw[Tryz.cellsNode]at Y;rw[Rf Tryz.fieldsNode]at Z
  match D,Y with
  |[c0,c1,c2,c3,c4,c5,c6,c7],_=>
  match xs,Z with
  |[y0,y1,y2,y3,y4],_=>
  obtain⟨f0,g0,t0,o0⟩:=Gv Tryz.fieldsNode 0 _ rfl;obtain⟨f1,g1,t1,o1⟩:=Gv Tryz.fieldsNode 1 _ rfl;obtain⟨f2,g2,t2,o2⟩:=Gv Tryz.fieldsNode 2 _ rfl;obtain⟨f3,g3,t3,o3⟩:=Gv Tryz.fieldsNode 3 _ rfl;obtain⟨f4,g4,t4,o4⟩:=Gv Tryz.fieldsNode 4 _ rfl;have r0:=r 0 f0 g0;have r1:=r 1 f1 g1;have r2:=r 2 f2 g2;have r3:=r 3 f3 g3;have r4:=r 4 f4 g4;simp only[t0,o0,t1,o1,t2,o2,t3,o3,t4,o4,Tryz.cellsInt,Tryz.cellsStr,Tryz.cellsCls,Tryz.cellsNodes,List.drop_zero,List.drop_succ_cons,List.take_succ_cons,List.take_zero,List.getElem?_cons_zero,List.getElem?_cons_succ]at r0 r1 r2 r3 r4;obtain⟨k,e0,_,w0⟩:=DataW.trod_int Tryz.underlying3 r0;obtain⟨T,e1,_,wT⟩:=DataW.trod_string Tryz.underlying9 r1;obtain⟨p,e7,_,w7⟩:=DataW.trod_int Tryz.underlying3 r4;obtain⟨z0,z1,z2,z3,m,_,q0,q1,q2,q3⟩:=trod_array4 Tryz.arrayCls Tryz.cellsWord r2;obtain⟨a,ea,_,wa⟩:=DataW.trod_int Tryz.underlying52 q0;obtain⟨b,eb,_,wb⟩:=DataW.trod_int Tryz.underlying52 q1;obtain⟨c,ec,_,wc⟩:=DataW.trod_int Tryz.underlying52 q2;obtain⟨d,ed,_,af⟩:=DataW.trod_int Tryz.underlying52 q3;simp only[List.cons.injEq,and_true]at e0 e1 e7 ea eb ec ed;subst e0 e1 e7 ea eb ec ed;have ba:=bounds_u64 wa;have bb:=bounds_u64 wb;have bc:=bounds_u64 wc;have bd:=bounds_u64 af;have G:T.size<=9223372036854775807:=by unfold maxLen at wT;exact wT
  rcases DataW.trod_slice Tryz.sliceNodes r3 with⟨A,_⟩|⟨ad,len,aa,aj,rest,m2,ak,A,_,_,al,am,ao,ag,_⟩
  ·simp only[List.cons.injEq,and_true]at A
   subst A;refine⟨.mk k T a b c d [] p,?_,?_,?_⟩
   ·rw[Qy]
    exact⟨none,0,rfl,.inl rfl⟩
   ·rw[RtZ,Xg]
    exact⟨G,trivial⟩
   ·rw[RtU,Xj]
    exact⟨by omega,by omega,by omega,by omega,trivial⟩
  ·simp only[List.cons.injEq,and_true]at A
   subst A;have ab:∀i,i<len->∃o y,W.cells? 0 (ad.add (i*8)) 8=some o/\DataW.trod enc prog W 0 sp hl m2 81 o=some y:=fun i I=>by
    have h1:=ag i I;rw[List.getElem?_eq_getElem (by omega)]at h1;obtain⟨o,E,U⟩:=Option.bind_eq_some_iff.1 h1;rw[Tryz.cellsNode]at E;exact⟨o,_,E,U⟩
   obtain⟨g,V,ah⟩:=ad;by_cases h0:len=0
   ·subst h0
    refine⟨.mk k T a b c d [] p,?_,?_,?_⟩
    ·rw[Qy]
     exact⟨_,aa,rfl,.inl rfl⟩
    ·rw[RtZ,Xg]
     exact⟨G,trivial⟩
    ·rw[RtU,Xj]
     exact⟨by omega,by omega,by omega,by omega,trivial⟩
   obtain⟨ap,_,ac,_⟩:=ab 0 (by omega);obtain rfl:ah=none:=z2v ac (by omega);obtain⟨ai,_,_⟩:=Ed ac (by omega);obtain⟨s,l1,l2,l3,l4⟩:=z2u len V (fun i I=>by
    obtain⟨o,y,E,U⟩:=ab i I;obtain⟨_,_,s4⟩:=Ed E (by omega);obtain⟨t,i1,i2,i3⟩:=z2w N m2 o _ (by omega) U;exact⟨t,o,i1,i2,i3,s4⟩)
   have ae:Qv s=len:=by rw[Zm,l1]
   refine⟨.mk k T a b c d s p,?_,?_,?_⟩
   ·rw[Qy]
    refine⟨some ⟨g,V,none⟩,aa,by rw[ae],.inr ⟨?_,g,V,rfl,ai,by rw[ae];omega,l2⟩⟩;cases s with
    |nil=>exact absurd l1.symm h0
    |cons _ _=>rfl
   ·rw[RtZ]
    exact⟨G,l3⟩
   ·rw[RtU]
    exact⟨by omega,by omega,by omega,by omega,l4⟩
def RgU(rs:List Rr):Prop:=∀x∈rs,RtU x.2.1
theorem y0q{fuel:Nat}{A:List Value}{x:DataW H×List MemPlace}(h:DataW.trod enc prog W 0 sp hl fuel 83 A=some x):
  ∃r:Rr,(∃k T a b c d o n y p,Qy W W.heap.size r.2.1 (r8 k T a b c d o n y p)/\A=zT r.1::(r8 k T a b c d o n y p++[zI r.2.2]))/\r.1.size<=9223372036854775807/\RtZ r.2.1/\RtU r.2.1:=by
 obtain⟨xs,n,rfl,rfl,E,G,D⟩:=DataW.trod_struct Tryz.structRule h;rw[Tryz.cellsRule]at E;rw[Rf Tryz.fieldsRule]at G
 match A,E with
 |[c0,c1,c2,c3,c4,c5,c6,c7,c8,c9],_=>
 match xs,G with
 |[y0,y1,y2],_=>
 obtain⟨f0,g0,t0,o0⟩:=Gv Tryz.fieldsRule 0 _ rfl;obtain⟨f1,g1,t1,o1⟩:=Gv Tryz.fieldsRule 1 _ rfl;obtain⟨f2,g2,t2,o2⟩:=Gv Tryz.fieldsRule 2 _ rfl;have I:=D 0 f0 g0;have U:=D 1 f1 g1;have V:=D 2 f2 g2;simp only[t0,o0,t1,o1,t2,o2,Tryz.cellsInt,Tryz.cellsStr,Tryz.cellsNode,List.drop_zero,List.drop_succ_cons,List.take_succ_cons,List.take_zero,List.getElem?_cons_zero,List.getElem?_cons_succ]at I U V;obtain⟨M,Y,_,Z⟩:=DataW.trod_string Tryz.underlying9 I;obtain⟨q,e9,_,_⟩:=DataW.trod_int Tryz.underlying3 V;obtain⟨t,i1,i2,i3⟩:=z2w _ n _ _ (Nat.lt_succ_self _) U;simp only[List.cons.injEq,and_true]at Y e9;subst Y e9;obtain⟨k,T,a,b,c,d,o,n1,y,p,e⟩:=i1.shape;refine⟨(M,t,q),⟨k,T,a,b,c,d,o,n1,y,p,by rw[<-e];exact i1,?_⟩,by unfold maxLen at Z;exact Z,i2,i3⟩;rw[<-e];rfl
theorem z2x{fuel:Nat}{I:Option Addr}{n af:Nat}{x:DataW H×List MemPlace}(h:DataW.trod enc prog W 0 sp hl fuel 41 [.slice I n af]=some x):
  ∃rs,Qb W W.heap.size I n rs/\RgZ rs/\RgU rs:=by
 rcases DataW.trod_slice Tryz.sliceRules h with⟨D,_⟩|⟨Z,len,am,ao,rest,m2,ap,D,_,_,aq,ar,au,ag,_⟩
 ·simp only[List.cons.injEq,and_true,Value.slice.injEq]at D
  obtain⟨rfl,rfl,rfl⟩:=D;exact⟨[],⟨rfl,by unfold maxLen;omega,fun j E=>by simp at E⟩,fun x hx=>by simp at hx,fun x hx=>by simp at hx⟩
 ·simp only[List.cons.injEq,and_true,Value.slice.injEq]at D
  obtain⟨rfl,rfl,rfl⟩:=D;have aa:∀i,i<n->∃G y,W.cells? 0 (Z.add (i*10)) 10=some G/\DataW.trod enc prog W 0 sp hl m2 83 G=some y:=fun i t=>by
   have U:=ag i t;rw[List.getElem?_eq_getElem (by omega)]at U;obtain⟨G,A,Y⟩:=Option.bind_eq_some_iff.1 U;rw[Tryz.cellsRule]at A;exact⟨G,_,A,Y⟩
  obtain⟨g,ab,ah⟩:=Z;by_cases h0:n=0
  ·subst h0
   exact⟨[],⟨rfl,by unfold maxLen;omega,fun j E=>by simp at E⟩,fun x hx=>by simp at hx,fun x hx=>by simp at hx⟩
  obtain⟨av,_,ac,_⟩:=aa 0 (by omega);obtain rfl:ah=none:=z2v ac (by omega);obtain⟨ai,_,_⟩:=Ed ac (by omega);have aj:∀i,∃r:Rr,i<n->Rk W W.heap.size g (ab+i*10) r/\r.1.size<=9223372036854775807/\RtZ r.2.1/\RtU r.2.1:=fun i=>by
   by_cases t:i<n
   ·obtain⟨G,y,A,Y⟩:=aa i t
    obtain⟨_,_,o⟩:=Ed A (by omega);obtain⟨r,⟨k,T,a,b,c,d,I,n1,ak,p,i1,rfl⟩,i2,i3,i4⟩:=y0q Y;exact⟨r,fun _=>⟨⟨k,T,a,b,c,d,I,n1,ak,p,i1,o 0 _ rfl,o 1 _ rfl,o 2 _ rfl,o 3 _ rfl,o 4 _ rfl,o 5 _ rfl,o 6 _ rfl,o 7 _ rfl,o 8 _ rfl,o 9 _ rfl⟩,i2,i3,i4⟩⟩
   ·exact⟨(⟨#[]⟩,.mk 0 ⟨#[]⟩ 0 0 0 0 [] 0,0),fun h=>absurd h t⟩
  obtain⟨f,V⟩:=Classical.axiomOfChoice aj;have ae:∀x∈(List.range n).map f,∃i,i<n/\f i=x:=fun x hx=>by
   obtain⟨i,U,A⟩:=List.mem_map.1 hx;exact⟨i,List.mem_range.1 U,A⟩
  refine⟨(List.range n).map f,⟨by simp,by omega,fun j E=> ?_⟩,fun x hx=> ?_,fun x hx=> ?_⟩
  ·have al:j<n:=by simpa using E
   have e:((List.range n).map f)[j]=f j:=by rw[List.getElem_map,List.getElem_range]
   rw[e];exact⟨g,ab,rfl,ai,(V j al).1⟩
  ·obtain⟨i,t,rfl⟩:=ae x hx
   exact⟨(V i t).2.1,(V i t).2.2.1⟩
  ·obtain⟨i,t,rfl⟩:=ae x hx
   exact(V i t).2.2.2
theorem y0r{base:Nat}{v:Value}{d:DataW H}{U:List MemPlace}(V:Value.okWide prog W .any base 43 v)(h:DataW.Trod enc prog W 0 sp hl 43 v d U):
  ∃E n Y rs,v=.agg #[.slice E n Y]/\Qb W W.heap.size E n rs/\RgZ rs/\RgU rs:=by
 obtain⟨Z,rfl,G⟩:=okWide_struct Tryz.structGram V;rw[Tryz.cellsGram]at G;obtain⟨l⟩:=Z
 match l,G with
 |[c0],_=>
 obtain⟨fuel,t⟩:=h;obtain⟨xs,n,rfl,hx,aa,I,t⟩:=DataW.trod_struct Tryz.structGram t;rw[Rf Tryz.fieldsGram]at I
 match xs,I with
 |[y0],_=>
 obtain⟨f0,g0,t0,o0⟩:=Gv Tryz.fieldsGram 0 _ rfl;have r:=t 0 f0 g0;simp only[Value.cells,t0,o0,Tryz.cellsRules,List.drop_zero,List.take_succ_cons,List.take_zero,List.getElem?_cons_zero]at r;have r1:=r;rcases DataW.trod_slice Tryz.sliceRules r1 with⟨o,_⟩|⟨ad,len,ab,ac,rest,m2,ae,o,_,_,af,ag,ah,ai,_⟩
 ·simp only[List.cons.injEq,and_true]at o
  subst o;obtain⟨rs,y,A,D⟩:=z2x r;exact⟨_,_,_,rs,rfl,y,A,D⟩
 ·simp only[List.cons.injEq,and_true]at o
  subst o;obtain⟨rs,y,A,D⟩:=z2x r;exact⟨_,_,_,rs,rfl,y,A,D⟩
end
theorem y0s{a b c d:Int}(h:zc a b c d=true):a=0/\b=0/\c=0/\d=0:=by
 unfold zc at h;simpa using h
mutual
theorem z2y:∀t:RT,okT t=true->RtU t->∃n,Tq t n/\Vk n/\Wf Nmq n
 | .mk k T a b c d s p,h,hu=>by
   rw[okT,Bool.and_eq_true]at h;obtain⟨o,E⟩:=h;rw[RtU]at hu;obtain⟨G,I,U,V,us⟩:=hu;obtain⟨q,D,Y,Z⟩:=z2z s E us;have ab:q.length=Qv s:=D.length;obtain⟨a,rfl⟩:=Int.eq_ofNat_of_zero_le G.1;obtain⟨b,rfl⟩:=Int.eq_ofNat_of_zero_le I.1;obtain⟨c,rfl⟩:=Int.eq_ofNat_of_zero_le U.1;obtain⟨d,rfl⟩:=Int.eq_ofNat_of_zero_le V.1;have A:=Lj a b c d (by omega) (by omega) (by omega) (by omega);have cl:=z6D a b c d (by omega) (by omega) (by omega) (by omega);have hk:0<=k:=by
    rcases Int.lt_or_le k 0 with r|r
    ·unfold okN at o
     rw[if_neg (by omega),if_neg (by omega),if_neg (by omega),if_neg (by omega),if_neg (by omega),if_neg (by omega)]at o;cases o
    ·exact r
   obtain⟨kd,rfl⟩:=Int.eq_ofNat_of_zero_le hk;have c0:zc (a:Int) (b:Int) (c:Int) (d:Int)=true->cls a b c d=0:=fun r=>by
    have:=y0s r;have ha:a=0:=by omega
    have hb:b=0:=by omega
    have hc:c=0:=by omega
    have hd:d=0:=by omega
    subst ha hb hc hd;rfl
   refine⟨.mk kd T (cls a b c d) q 0,?_,?_,?_⟩
   ·rw[Tq]
    exact⟨rfl,rfl,by rw[A.1],by rw[A.2.1],by rw[A.2.2.1],by rw[A.2.2.2],D⟩
   ·rw[Vk]
    refine⟨?_,Y⟩;have y:((Qv s:Nat):Int)=0->q=[]:=fun r=>List.eq_nil_of_length_eq_zero (by omega)
    unfold okN at o;split at o
    ·rename_i aa
     simp only[Bool.and_eq_true,beq_iff_eq]at o;rcases aa with h4|h4
     ·exact .inl ⟨by omega,Mb o.1,c0 o.2.1,y o.2.2⟩
     ·exact .inr (.inr (.inr (.inl ⟨by omega,Mb o.1,c0 o.2.1,y o.2.2⟩)))
    ·split at o
     ·simp only[Bool.and_eq_true,beq_iff_eq]at o
      exact .inr (.inl ⟨by omega,c0 o.2.1,y o.2.2⟩)
     ·split at o
      ·simp only[Bool.and_eq_true,beq_iff_eq]at o
       exact .inr (.inr (.inl ⟨by omega,Mb o.1,y o.2⟩))
      ·split at o
       ·simp only[Bool.and_eq_true,beq_iff_eq]at o
        exact .inr (.inr (.inr (.inr (.inl ⟨by omega,c0 o.2.1,y o.2.2⟩))))
       ·split at o
        ·simp only[Bool.and_eq_true,decide_eq_true_eq]at o
         exact .inr (.inr (.inr (.inr (.inr (.inl ⟨by omega,Mb o.1,c0 o.2.1,by omega⟩)))))
        ·split at o
         ·simp only[Bool.and_eq_true,beq_iff_eq]at o
          exact .inr (.inr (.inr (.inr (.inr (.inr ⟨by omega,by omega,Mb o.1,c0 o.2.1,by omega⟩)))))
         ·cases o
   ·rw[Wf]
    refine⟨fun e=> ?_,fun e=> ?_,cl,Z⟩
    ·subst e
     unfold okN at o;rw[if_neg (by decide),if_pos (by decide)]at o;simp only[Bool.and_eq_true,decide_eq_true_eq]at o;omega
    ·subst e
     unfold okN at o;rw[if_neg (by decide),if_neg (by decide),if_neg (by decide),if_pos (by decide)]at o;simp only[Bool.and_eq_true]at o;exact o.1
theorem z2z:∀s:List RT,okL s=true->Xj s->∃q,TqL s q/\VkL q/\WfL Nmq q
 |[],_,_=>⟨[],by rw[TqL];trivial,by rw[VkL];trivial,by rw[WfL];trivial⟩
 |t::r,h,hu=>by
  rw[okL,Bool.and_eq_true]at h;rw[Xj]at hu;obtain⟨n,a1,a2,a3⟩:=z2y t h.1 hu.1;obtain⟨q,o,y,A⟩:=z2z r h.2 hu.2;exact⟨n::q,by rw[TqL];exact⟨a1,o⟩,by rw[VkL];exact⟨a2,y⟩,by rw[WfL];exact⟨a3,A⟩⟩
end
theorem z2A:∀{rs:List Rr},rs.all okR=true->RgU rs->∃ns,TqR rs ns/\∀x∈ns,Ruk Nmq x
 |[],_,_=>⟨[],by rw[TqR];trivial,fun x hx=>by simp at hx⟩
 |x::r,h,hu=>by
  rw[List.all_cons,Bool.and_eq_true]at h;obtain⟨ns,a1,a2⟩:=z2A h.2 (fun y o=>hu y (by simp[o]));have hx:=h.1;unfold okR at hx;rw[Bool.and_eq_true]at hx;obtain⟨n,t,A,D⟩:=z2y x.2.1 hx.2 (hu x (by simp));refine⟨(x.1,n,0)::ns,by rw[TqR];exact⟨rfl,t,a1⟩,fun y o=> ?_⟩;rcases List.mem_cons.1 o with rfl|o
  ·exact⟨hx.1,A,D⟩
  ·exact a2 y o
theorem y0t{rs:List Rr}(h:okG rs=true)(r:RgU rs):∃ns,TqR rs ns/\(∀x∈ns,Ruk Nmq x)/\1<=ns.length/\ns.length<=64:=by
 unfold okG at h;simp only[Bool.and_eq_true,decide_eq_true_eq]at h;obtain⟨ns,o,t⟩:=z2A h.2.2 r;have:=o.len;exact⟨ns,o,t,by omega,by omega⟩
end
open Go.RowKit Go.Shelf
theorem Rg{M:zA}(h:nmS M=true):1<=M.size:=by
 rcases Nat.lt_or_ge 0 M.size with o|o
 ·exact o
 ·have e:M={data:=#[]}:=by
   apply ByteArray.ext;apply Array.ext';exact List.eq_nil_of_length_eq_zero (by have:M.data.size=M.size:=rfl;rw[Array.length_toList];omega)
  subst e
  revert h
  decide+kernel
theorem Dx(over:Nat)(n:Nd):sz (pN qT cT n)<=sz (pP qT cT over n):=by
 unfold pP;split
 ·rw[sz,Xy];omega
 ·exact Nat.le_refl _
mutual
theorem Rb:∀(t:RT) (n:Nd),Tq t n->Vk n->Wf Nmq n->(rfT t).length<=sz (pN qT cT n)
 | .mk k T a b c d s p,.mk kd T' C s' p',hq,hv,hw=>by
   rw[Tq]at hq;obtain⟨U,V,_,_,_,_,y⟩:=hq;rw[Wf]at hw;rw[Vk]at hv;rw[rfT];by_cases h5:kd=5
   ·rw[if_pos (by omega)]
    have o:1<=T'.size:=Rg (hw.2.1 h5);rw[h5,pN];simp[sz];exact o
   ·rw[if_neg (by omega)]
    have A:∀over D,(rfL s).length<=sz (pS qT cT over D s'):=fun over D=>by
     cases s with
     |nil=>rw[rfL];exact Nat.zero_le _
     |cons t r=>
      cases s' with
      |nil=>simp[TqL]at y
      |cons n q=>
       rw[TqL]at y;have E:=hv.2;rw[VkL]at E;have G:=hw.2.2.2;rw[WfL]at G;have Y:=Rb t n y.1 E.1 G.1;have Z:=z2B r q over D y.2 E.2 G.2;have i3:=Dx over n;rw[rfL,List.length_append,Fp,Xy];omega
    have I:kd<=4->(rfL s).length=0:=fun h=>by
     have e:s'=[]:=by
      rcases hv.1 with o|o|o|o|o|o|o
      ·exact o.2.2.2
      ·exact o.2.2
      ·exact o.2.2
      ·exact o.2.2.2
      ·omega
      ·omega
      ·omega
     have:=A 0 bE;rw[e,pS,sz]at this;omega
    rw[pN]
    repeat' split
    all_goals first
     |(rw[I (by omega)];exact Nat.zero_le _)
     |exact A _ _
     |(rw[sz];exact Nat.le_trans (A _ _) (Nat.le_add_left _ _))
     |(rw[Xy];exact Nat.le_trans (A _ _) (Nat.le_add_right _ _))
     |omega
theorem z2B:∀(s:List RT) (q:List Nd) (over:Nat) (o:zA),TqL s q->VkL q->WfL Nmq q->(rfL s).length<=sz (pB qT cT over o q)
 |[],_,_,_,_,_,_=>by rw[rfL];exact Nat.zero_le _
 |t::r,[],_,_,h,_,_=>by simp[TqL]at h
 |t::r,n::q,over,o,h,hv,hw=>by
  rw[TqL]at h;rw[VkL]at hv;rw[WfL]at hw;have y:=Rb t n h.1 hv.1 hw.1;have A:=z2B r q over o h.2 hv.2 hw.2;have D:=Dx over n;rw[rfL,List.length_append,Fc,sz,Xy];omega
end
theorem Rh:∀{rs:List Rr} {ns:List Rl},TqR rs ns->(∀x∈ns,Ruk Nmq x)->∀x∈rs,(rfT x.2.1).length<=sz (pR qT cT ns)
 |[],_,_,_,x,hx=>by simp at hx
 |a::r,[],h,_,_,_=>by simp[TqR]at h
 |a::r,b::q,h,hk,x,hx=>by
  rw[TqR]at h;rw[pR,sz,sz,Xy,sz];rcases List.mem_cons.1 hx with rfl|hx
  ·have o:=hk b (by simp)
   have:=Rb _ _ h.2.1 o.2.1 o.2.2;omega
  ·have:=Rh h.2.2 (fun y t=>hk y (List.mem_cons_of_mem _ t)) x hx
   omega
theorem Rm(h:Option Addr)(n o:Nat)(A E:Value)(w:World)
  (t:Hid (∀W:World,zB w W->Calls prog 231 #[.agg #[.slice h n o]] W (zR W (.tuple #[A,E])))):
  Calls prog 225 #[.agg #[.slice h n o]] w fun e w'=>e=.returned E/\zB w w':=by
 have r:Hid (zB w (w.alloc (.cells #[.slice h n o] 43))):=(Below.refl _ w).alloc L0q _;go_enter func225,ntmps225
 go_wp2_with(first|(go_at_call 231;refine(t.out _ r.out).mono ?_;rintro e y ⟨rfl,D⟩;have G:Hid (zB w y):=r.out.trans (D.mono r.out.size)))
 go_ret;exact⟨rfl,G.out⟩
def RtA(rs:List Rr)(E:Value):Prop:=(∃c:Int,(c=2∨c=20)/\E=.iface 36 (zI c))∨(E=.nilIface/\okG rs=true/\∀x∈rs,(rfT x.2.1).length<=8192)
open Go.Maps
attribute [local go_sem] Oper.semAt_some
theorem y0u(t:Option Addr)(n y:Nat)(c:Int)(w:World)
  (I:Hid (∀W:World,zB w W->Calls prog 225 #[.agg #[.slice t n y]] W (zR W (.iface 36 (zI c)))))(m:Nat):
  CallsIn Fence.wide (m+5) prog 189 #[.agg #[.slice t n y]] w fun e w'=>e=.returned (.tuple #[.map none,.iface 36 (zI c)])/\zB w w':=by
 obtain⟨h,o⟩:∃h,h=((w.alloc (.cells #[.slice t n y] 43)).alloc (.cells #[.map none] 127)).alloc (.cells #[.nilIface] 30):=⟨_,rfl⟩;have A:zB w h:=by rw[o];exact(((Below.refl _ w).alloc L0q _).alloc (by simp) _).alloc (by simp;omega) _
 have c2:h.heap[w.heap.size+1]? =some (.cells #[.map none] 127):=by
  rw[o];exact(Below.heap_alloc _ _ _ (by simp)).trans (Qx _ _ (by simp))
 have c3:h.heap[w.heap.size+1+1]? =some (.cells #[.nilIface] 30):=by
  rw[o];exact Qx _ _ (by simp)
 have aa:h.heap.size=w.heap.size+1+1+1:=by rw[o];simp
 have U:=hid (I.out h A);refine callsIn_of_wp_marks func189 rfl trivial ?_ rfl;simp only[ntmps189,List.size_toArray,List.length_cons,List.length_nil,Nat.reduceAdd,Nat.reduceSub,Array.replicate_succ,Array.replicate_zero,List.push_toArray,List.append_toArray,List.nil_append,List.cons_append]
 gi_wp2
 rw[<-o];clear o;refine⟨trivial,?_⟩;refine(callsIn_wide.2 U.out).mono ?_;rintro e D ⟨rfl,r⟩;have E:=(r.block _ (by omega)).trans c2;have G:=(r.block _ (by omega)).trans c3;have ab:=r.size;have V:Hid (zB w D):=A.trans (r.mono A.size);obtain⟨x2,e2⟩:=Qk E;obtain⟨x3,e3⟩:=Qk G;have l2:=Qq E;have l3:=Qq G;clear U I c2 c3
 gi_wp2
 have Y:Boxed D (w.heap.size+1) 127 (.map none):=E;have Z:Boxed D (w.heap.size+1+1) 30 .nilIface:=G;have y1:=((Y.set (.map none)).other (B':=w.heap.size+1+1) (by omega) (.iface 36 (zI c))).cell;have y2:=((Z.other (B':=w.heap.size+1) (by omega) (.map none)).set (.iface 36 (zI c))).cell;refine⟨.tuple #[.map none,.iface 36 (zI c)],by simp[results,Tryz.f189,go_sem,y1,y2],rfl,?_⟩;exact(V.out.setCell (p:=⟨w.heap.size+1,0,none⟩) (by show w.heap.size<=_+1;omega) _).setCell (p:=⟨w.heap.size+1+1,0,none⟩) (by show w.heap.size<=_+1+1;omega) _
def Zh(X:Option (Int ⊕ (Int×Int)))(S:Nat)(w':World)(v:Value):Prop:=match X with
 |none=>v=.nilIface
 |some (.inl c)=>v=.iface 36 (zI c)
 |some (.inr q)=>∃g,v=.iface 134 (zP g 0)/\S<=g/\w'.heap[g]? =some (.cells #[zI q.1,zI q.2] 136)
def CkX(rs:List Rr)(X:Option (Int ⊕ (Int×Int))):Prop:=match X with
 |none=>okG rs=true/\ckR rs=none/\∀x∈rs,(rfT x.2.1).length<=8192
 |some (.inl c)=>c=2∨c=20
 |some (.inr q)=>okG rs=true/\ckR rs=some q
theorem Zh.shape{X:Option (Int ⊕ (Int×Int))}{S:Nat}{w':World}{v:Value}(h:Zh X S w' v)(o:X≠none):∃t u,v=.iface t u:=by
 match X,o with
 |some (.inl c),_=>exact⟨_,_,h⟩
 |some (.inr q),_=>
  obtain⟨g,r,_⟩:=h;exact⟨_,_,r⟩
mutual
theorem Qy.upto{w:World}{B B':Nat}(A:B<=B'):∀(t:RT) (r:List Value),Qy w B t r->Qy w B' t r
 | .mk k T a b c d s p,r,h=>by
   rw[Qy]at h ⊢;obtain⟨D,E,rfl,h⟩:=h;refine⟨D,E,rfl,?_⟩;rcases h with y|⟨y,g,o,G,V,I,U⟩
   ·exact .inl y
   ·exact .inr ⟨y,g,o,G,by omega,I,Zq.upto A s g o U⟩
theorem Zq.upto{w:World}{B B':Nat}(h:B<=B'):∀(s:List RT) (g o:Nat),Zq w B g o s->Zq w B' g o s
 |[],g,o,_=>by rw[Zq];trivial
 |t::r,g,o,ht=>by
  rw[Zq]at ht ⊢;obtain⟨⟨y,A,D⟩,E⟩:=ht;exact⟨⟨y,Qy.upto h t y A,D⟩,Zq.upto h r g _ E⟩
end
theorem Qb.upto{w:World}{B B' n:Nat}{r:Option Addr}{rs:List Rr}(h:Qb w B r n rs)(t:B<=B'):Qb w B' r n rs:=
 ⟨h.1,h.2.1,fun j y=>by
   obtain⟨g,o,A,V,k,T,a,b,c,d,D,E,G,p,I,U⟩:=h.2.2 j y;exact⟨g,o,A,by omega,k,T,a,b,c,d,D,E,G,p,Qy.upto t _ _ I,U⟩⟩
theorem Zh.lo{X:Option (Int ⊕ (Int×Int))}{S S':Nat}{w':World}{v:Value}(h:Zh X S w' v)(t:S'<=S):Zh X S' w' v:=by
 match X with
 |none=>exact h
 |some (.inl c)=>exact h
 |some (.inr q)=>
  obtain⟨g,o,y,r⟩:=h;exact⟨g,o,by omega,r⟩
theorem z2C(t:Option Addr)(n y:Nat)(rs:List Rr)(X:Option (Int ⊕ (Int×Int)))(W:World)
  (A:Hid (∀W':World,zB W W'->Calls prog 189 #[.agg #[.slice t n y]] W' fun e w'=>∃m v,e=.returned (.tuple #[m,v])/\Zh X W'.heap.size w' v/\(X=none->∃M,m=.map (some M)/\W'.heap.size<=M/\Pm w' M (nmL rs))/\(X≠none->m=.map none)/\zB W' w')):
  Calls prog 152 #[.agg #[.slice t n y]] W fun e w'=>∃v,e=.returned v/\Zh X W.heap.size w' v/\zB W w':=by
 have h:Hid (zB W (W.alloc (.cells #[.slice t n y] 43))):=(Below.refl _ W).alloc L0q _;have G:Hid (zB W W):=Below.refl _ W;go_enter func152,ntmps152
 go_wp2_with fail
 first
  |(refine(A.out _ h.out).mono ?_;rintro e I ⟨m,v,rfl,o,-,-,r⟩;have D:=h.out.trans (r.mono h.out.size);have E:=o.lo (S':=W.heap.size) h.out.size)
  |(refine(A.out _ G.out).mono ?_;rintro e I ⟨m,v,rfl,o,-,-,r⟩;have D:=r;have E:=o)
 clear A h G o r;have U:=hid D;have V:=hid E;clear D E
 go_wp2_with fail
 go_ret;exact⟨_,rfl,V.out,U.out⟩
theorem y0v{W:World}{s:Nat}{v:Value}{u:List Int}(h:W.ownsRow s 3 1 v u.length (u.map (Value.int .i64)))(hl:u.length<=1048576):Eg W W.heap.size v u:=by
 rcases h.2 with⟨rfl,t⟩|⟨g,y,A,rfl,E,r,G,I,U,D⟩
 ·cases u with
  |nil=>exact⟨none,0,rfl,hl,fun j o=>by simp at o⟩
  |cons _ _=>simp at t
 ·refine⟨_,y,rfl,hl,fun j o=>⟨g,0,rfl,(Array.getElem?_eq_some_iff.1 r).1,?_⟩⟩
  refine(Qj r (0+j) _ ?_).1;have e:(A.toList.take (u.length*1))[j]? =(u.map (Value.int .i64))[j]? :=by rw[D]
  rw[List.getElem?_take_of_lt (by omega)]at e;rw[Nat.zero_add,<-Array.getElem?_toList,e];simp[o]
theorem y0w{w:World}{r n:Nat}{vs:List Value}{us:List (List Int)}{W:World}(h:Uw w r n vs us W)(y:vs.length=n)(hl:∀u∈us,u.length<=1048576)(D:n<=1048576):UsM W W.heap.size (zS r n n) us:=by
 have A:us.length=n:=by rw[<-h.len];exact y
 refine⟨_,n,by rw[A],by omega,fun i o=>⟨r,0,vs[i]'(by rw[h.len];exact o),rfl,Qq h.blk,?_,y0v (h.row i (by rw[h.len];exact o) o) (hl _ (List.getElem_mem o))⟩⟩;refine(Qj h.blk (0+i) _ ?_).1;have t:i<vs.length:=by rw[h.len];exact o
 rw[Nat.zero_add,List.getElem?_toArray,List.getElem?_append_left t,List.getElem?_eq_getElem t]
theorem Rp{zs:List Int}{x:Int}(h:x∈Lib.compact zs):x∈zs:=by
 unfold Lib.compact Lib.compactUpTo at h;obtain⟨i,o,rfl⟩:=List.mem_map.1 h;have r:i<zs.length:=List.mem_range.1 (List.mem_filter.1 o).1;rw[getElem!_pos _ i (by simpa using r)];simp
theorem y0x{l:List ByteArray}{y:Rr}{x:Int}(hl:1<=l.length)(h:x∈usR l y):∃m:Nat,m<l.length/\x=(m:Int):=by
 have o:x∈ixL l (rfT y.2.1):=(Mf _).mem_iff.1 (Rp h);obtain⟨q,_,rfl⟩:=List.mem_map.1 o;refine⟨ixV l q.1,?_,rfl⟩;unfold ixV;cases hin:inN q.1 l with
 |true=>exact Gk _ _ hin
 |false=>exact hl
theorem Jm{rs:List Rr}(h:okG rs=true):1<=rs.length/\rs.length<=64:=by
 unfold okG at h;simp only[Bool.and_eq_true,decide_eq_true_eq]at h;exact⟨h.1,h.2.1⟩
@[reducible] def CkC (so:Option Addr) (n cap:Nat) (rs:List Rr) (X:Option (Int ⊕ (Int×Int))) (W:World):Prop:=∀W':World,zB W W'->Calls prog 189 #[.agg #[.slice so n cap]] W' fun e w'=>∃m v,e=.returned (.tuple #[m,v])/\Zh X W'.heap.size w' v/\(X=none->∃M,m=.map (some M)/\W'.heap.size<=M/\Pm w' M (nmL rs))/\(X≠none->m=.map none)/\zB W' w'
theorem CkC.from{o:Option Addr}{n r:Nat}{rs:List Rr}{X:Option (Int ⊕ (Int×Int))}{W W':World}(h:CkC o n r rs X W)(t:zB W W'):CkC o n r rs X W':=fun y A=>h y (t.trans (A.mono t.size))
open Go.Extern.Stop Go.Stop Go.Extern
def xOf(rs:List Rr):Option (Int ⊕ (Int×Int)):=(ckR rs).map .inr
theorem z2D(t:Option Addr)(n y:Nat)(rs:List Rr)(B:Nat)(w:World)(Z:RgZ rs)(h:Qb w B t n rs)(U:B<=w.heap.size)(ab:5<w.heap.size)(V:okG rs=true)(hl:∀x∈rs,(rfT x.2.1).length<=8192)
  (hR:∀W:World,zB w W->Calls prog 225 #[.agg #[.slice t n y]] W fun e w'=>e=.returned .nilIface/\zB W w'):CkX rs (xOf rs)/\CkC t n y rs (xOf rs) w:=by
 have Y:∀W:World,zB w W->Calls prog 189 #[.agg #[.slice t n y]] W (CkP W rs):=fun W o=>callsIn_wide.1 (z9Y t n y rs W ((h.below (o.mono U)).upto (Nat.le_trans U o.size)) (by have:=o.size;omega) (hid Z) (hid fun W' aa=>hR W' (o.trans (aa.mono o.size))) 0)
 unfold xOf;cases hk:ckR rs with
 |none=>
  refine⟨⟨V,hk,hl⟩,fun W o=>(Y W o).mono fun e w' A=> ?_⟩;obtain⟨D,⟨c,p,g,r,_⟩|⟨M,_,E,G,I⟩⟩:=A
  ·rw[hk]at r;cases r
  ·exact⟨_,_,E,rfl,fun _=>⟨M,rfl,G,I⟩,fun h=>absurd rfl h,D⟩
 |some q=>
  refine⟨⟨V,hk⟩,fun W o=>(Y W o).mono fun e w' A=> ?_⟩;obtain⟨D,⟨c,p,g,r,E,G,I⟩|⟨M,r,_⟩⟩:=A
  ·rw[hk]at r
   cases r;exact⟨_,_,E,⟨g,rfl,G,I⟩,(fun h=>by cases h),fun _=>rfl,D⟩
  ·rw[hk]at r;cases r
theorem z2E(zs:List Int):∀(i:Nat) (h:i<zs.length),zs[i]∈Lib.compact zs
 |0,h=>by
  unfold Lib.compact Lib.compactUpTo;refine List.mem_map.2 ⟨0,List.mem_filter.2 ⟨List.mem_range.2 h,Lib.keeps_lt_one _ 0 (by omega)⟩,?_⟩;rw[getElem!_pos _ 0 (by simpa using h)];simp
 |i+1,h=>by
  by_cases hk:Lib.keeps zs.toArray (i+1)=true
  ·unfold Lib.compact Lib.compactUpTo
   refine List.mem_map.2 ⟨i+1,List.mem_filter.2 ⟨List.mem_range.2 h,hk⟩,?_⟩;rw[getElem!_pos _ (i+1) (by simpa using h)];simp
  ·have e:zs.toArray[i+1]! =zs.toArray[i]! :=Classical.byContradiction fun o=>hk (Lib.keeps_pos (by simpa using o))
   rw[getElem!_pos _ (i+1) (by simpa using h),getElem!_pos _ i (by simp;omega)]at e;have r:zs[i+1]=zs[i]:=by simpa using e
   rw[r];exact z2E zs i (by omega)
theorem z2F{zs:List Int}{x:Int}(h:x∈zs):x∈Lib.compact zs:=by
 obtain⟨i,o,rfl⟩:=List.getElem_of_mem h;exact z2E zs i o
theorem y0y{l:List ByteArray}{y:Rr}{x:Int}:x∈usR l y↔x∈ixL l (rfT y.2.1):=⟨fun h=>(Mf _).mem_iff.1 (Rp h),fun h=>z2F ((Mf _).mem_iff.2 h)⟩
def fdI(s:zA)(l:List ByteArray):Int:=if inN s l then(ixN s l:Int)else-1
theorem z2G{s:zA}:∀{l:List ByteArray} {j:Nat} (o:j<l.length),(∀i (t:i<l.length),i<j->l[i]≠s)->l[j]=s->inN s l=true/\ixN s l=j
 |[],j,o,_,_=>by simp at o
 |a::r,0,_,_,h=>by
  have h:a=s:=h;rw[inN,ixN,if_pos h,if_pos h];exact⟨rfl,rfl⟩
 |a::r,j+1,o,hb,h=>by
  have y:a≠s:=hb 0 (by simp) (by omega);obtain⟨A,D⟩:=z2G (l:=r) (j:=j) (by simpa using o) (fun i t E=>hb (i+1) (by simpa using t) (by omega)) h;rw[inN,ixN,if_neg y,if_neg y,D];exact⟨A,rfl⟩
theorem z2H{s:zA}:∀{l:List ByteArray},(∀i (o:i<l.length),l[i]≠s)->inN s l=false
 |[],_=>rfl
 |a::r,h=>by
  have t:a≠s:=h 0 (by simp);rw[inN,if_neg t];exact z2H fun i o=>h (i+1) (by simpa using o)
theorem y0z(a b:zA):(a.toList == b.toList)=decide (a=b):=by
 by_cases h:a=b
 ·subst h;simp
 ·have:a.toList≠b.toList:=fun e=>h (by
   rw[Go.ByteArray.toList_eq,Go.ByteArray.toList_eq]at e;exact ByteArray.ext (Array.toList_inj.1 e))
  simp[h,this]
theorem y0A(N0 r s:zA)(t a1 y c1 A p1 D:Int)(E:Option Addr)(G I h:Nat)(W:World)(o:Boxed W h 9 (zT s)):
  Calls prog 123 #[.agg #[zT N0,zI t,zT r,zU a1,zU y,zU c1,zU A,.slice E G I,zI p1,zI D],zP h 0] W fun e w'=>e=.returned (.bool (decide (N0=s)))/\zB W w':=by
 have U:=o.cell;have lb:=o.lt;go_enter func123,ntmps123
 go_wp2_with fail
 go_ret;refine⟨?_,(Below.refl _ W).alloc L0q _⟩;show Ending.returned (.bool (N0.toList == s.toList))=_;rw[y0z]
theorem y0B(s:zA)(V:Option Addr)(n af:Nat)(rs:List Rr)(B y:Nat)(W:World)(h:Qb W B V n rs)(Y:B<=W.heap.size)(Z:Boxed W y 9 (zT s))(ag:y<W.heap.size):
  Calls prog 122 #[.slice V n af,.func (.func 123) #[] #[zP y 0]] W fun e w'=>e=.returned (zI (fdI s (nmL rs)))/\zB W w':=by
 have HR:=hid h;have aa:Hid (n=rs.length):=h.1;have ao:n<=9223372036854775807:=by have:=h.2.1;unfold maxLen at this;omega
 have ah:=hid Z;have ai:Hid (B<=W.heap.size):=Y;clear h Z Y;go_enter func122,ntmps122
 go_wp2_with fail
 go_loopw [8] (fun i wr=>∃j:Nat,i=zI (j:Int)/\j<=n/\Hid (∀i (A:i<rs.length),i<j->rs[i].1≠s)/\Hid (zB W wr)) (fun i _=>n-(intOf i).toNat)
 case atStart=>exact⟨0,rfl,Nat.zero_le _,fun i A h0=>by omega,Below.refl _ _⟩
 case round=>
  obtain⟨j,rfl,hj,D,r⟩:=hrel;have ap:(nmL rs).length=rs.length:=List.length_map _;by_cases hjn:j<n
  ·have aq:(j:Int)<(n:Int):=by omega
   have a0:decide ((j:Int)<(n:Int))=true:=by simp;omega
   have aj:j<rs.length:=by rw[<-aa.out];exact hjn
   obtain⟨g,o,rfl,hg,k1,T1,a1,b1,c1,d1,ak,n1,al,p1,am,r0⟩:=HR.out.2.2 j aj;have ab:∀q,wr.cell? ⟨g,q,none⟩=W.cell? ⟨g,q,none⟩:=fun q=>r.out.cell (p:=⟨g,q,none⟩) (Nat.lt_of_lt_of_le hg ai.out)
   simp only[<-ab]at r0;obtain⟨z0,z1,z2,z3,z4,z5,z6,z7,z8,z9⟩:=r0;obtain⟨N0,E⟩:∃N0,N0=rs[j].1:=⟨_,rfl⟩;obtain⟨G,ac⟩:∃G,G=rs[j].2.2:=⟨_,rfl⟩;rw[<-E]at z0;rw[<-ac]at z9;have ad:Hid (N0=rs[j].1):=E;have t:=hid (y0A N0 T1 s k1 a1 b1 c1 d1 p1 G ak n1 al y wr ((r.out.block y ag).trans ah.out));clear ab am E ac;by_cases e:N0=s
   ·rw[decide_eq_true e]at t
    have I:Hid (N0=s):=e;clear e
    go_wp2_with(first
     |(go_at_call 123;refine t.out.mono ?_;clear t;rintro e w5 ⟨rfl,U⟩))
    go_ret;refine⟨?_,r.out.trans (U.mono r.out.size)⟩;obtain⟨i1,i2⟩:=z2G (s:=s) (l:=nmL rs) (j:=j) (by omega) (fun i A ae=>by have:=D.out i (by omega) ae;simpa [nmL]using this) (by have:=I.out;rw[ad.out]at this;simpa [nmL]using this);unfold fdI;rw[i1,i2];rfl
   ·rw[decide_eq_false e]at t
    have I:Hid (N0≠s):=e;clear e
    go_wp2_with(first
     |(go_at_call 123;refine t.out.mono ?_;clear t;rintro e w5 ⟨rfl,U⟩))
    refine⟨⟨j+1,by go_num,by omega,hid (fun i A ae=> ?_),hid (r.out.trans (U.mono r.out.size))⟩,by simp[intOf];omega⟩;by_cases e:i=j
    ·subst e
     have:=I.out;rw[ad.out]at this;exact this
    ·exact D.out i A (by omega)
  ·have a0:decide ((j:Int)<(n:Int))=false:=by simp;omega
   go_wp2_with fail
   go_ret;refine⟨?_,r.out⟩;unfold fdI;rw[z2H (s:=s) (l:=nmL rs) fun i A=>by have:=D.out i (by omega) (by have:=aa.out;omega);simpa [nmL]using this];rfl
theorem Sz(s:zA)(t:Option Addr)(n A:Nat)(rs:List Rr)(B:Nat)(W:World)(h:Qb W B t n rs)(y:B<=W.heap.size):
  Calls prog 85 #[.agg #[.slice t n A],zT s] W fun e w'=>e=.returned (zI (fdI s (nmL rs)))/\zB W w':=by
 have D:=hid (fun(E:Nat) (W':World) (G:zB W W') (hx:Boxed W' E 9 (zT s))=>y0B s t n A rs B E W' (h.below (G.mono y)) (Nat.le_trans y G.size) hx hx.lt);have r:Hid (∀o I:Obj,zB W ((W.alloc o).alloc I)):=fun o I=>((Below.refl _ W).alloc L0q _).alloc (by simp) _
 have U:Hid (∀o:Obj,Boxed ((W.alloc o).alloc (.cells #[zT s] 9)) (W.heap.size+1) 9 (zT s)):=fun o=>by
  have:=Boxed.new (W.alloc o) 9 (zT s);simpa only[World.size_alloc]using this
 clear h y;go_enter func85,ntmps85
 go_wp2_with fail
 refine(D.out _ _ (r.out _ _) (U.out _)).mono ?_;rintro e Z ⟨rfl,V⟩;have Y:=hid ((r.out _ _).trans (V.mono (r.out _ _).size));clear V D U r
 go_wp2_with fail
 go_ret;exact⟨rfl,Y.out⟩
theorem z2I:∀{rs:List Rr} {l:List ByteArray},Yf l rs=none->∀j (o:j<rs.length),inN rs[j].1 (l++nmL (rs.take j))=false
 |[],_,_,j,o=>by simp at o
 |x::r,l,h,0,_=>by
  rw[Yf]at h;cases hi:inN x.1 l with
  |true=>rw[hi]at h;cases h
  |false=>simpa [nmL]using hi
 |x::r,l,h,j+1,o=>by
  rw[Yf]at h;cases hi:inN x.1 l with
  |true=>rw[hi]at h;cases h
  |false=>
   rw[hi]at h;have:=z2I (l:=l++[x.1]) (by simpa using h) j (by simpa using o);simpa [nmL,List.append_assoc]using this
theorem y0C{rs:List Rr}(h:ckR rs=none)(j:Nat)(r:j<rs.length):inN rs[j].1 (nmL (rs.take j))=false:=by
 have o:Dq rs=none:=by
  unfold ckR at h;cases o:Dq rs with
  |none=>rfl
  |some p=>rw[o]at h;cases h
 have:=z2I o j r;rwa[List.nil_append]at this
theorem z2J(s:zA):∀a b,inN s (a++b)=(inN s a||inN s b)
 |[],b=>by rw[List.nil_append,inN];rfl
 |x::r,b=>by rw[List.cons_append,inN,inN,z2J s r b];by_cases h:x=s<;>simp[h]
theorem z2K(s:zA):∀a b,ixN s (a++b)=if inN s a then ixN s a else a.length+ixN s b
 |[],b=>by rw[List.nil_append,inN];simp
 |x::r,b=>by
  rw[List.cons_append,ixN,ixN,inN,z2K s r b];by_cases h:x=s
  ·simp[h]
  ·simp only[h,if_false]
   by_cases h2:inN s r=true
   ·simp[h2]
   ·simp[h2];omega
theorem z2L{rs:List Rr}(h:ckR rs=none)(j:Nat)(o:j<rs.length):fdI rs[j].1 (nmL rs)=(j:Int):=by
 have r:=y0C h j o;have e:nmL rs=nmL (rs.take j)++(rs[j].1::nmL (rs.drop (j+1))):=by
  have t:rs=rs.take j++(rs[j]::rs.drop (j+1)):=by rw[<-List.drop_eq_getElem_cons o,List.take_append_drop]
  have y:=congrArg nmL t;rw[y];unfold nmL;rw[List.map_append];rfl
 have hl:(nmL (rs.take j)).length=j:=by unfold nmL;rw[List.length_map,List.length_take];omega
 unfold fdI;rw[e,z2J,z2K,r,inN,ixN,if_pos rfl,if_pos rfl,hl];simp
end Go.Proofs.YtgnkkgcgbeianaaGreatDoor
