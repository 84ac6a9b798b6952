/- Lemmas for the last text. Conditions: those that each names. -/
import Derived.Test.YtmelafeingcgnaaGreatDoorVO5ToS4
import Derived.ProofKit
import Derived.OpenShut
import Derived.Laws.IdiomArrays
import Derived.Lib.SmallJoins
import Derived.Test.YtmelafeingcgnaaGreatDoorVX6ToX16
set_option linter.unusedVariables false
set_option maxRecDepth 100000
set_option maxHeartbeats 8000000
namespace Go.Proofs.YtmelafeingcgnaaGreatDoor
open Go.Proofs.Tryz
section
open Go.ChangeShapes Go.WideShapes Go.ChangeAt Go.RowKit
mutual
def RtU:RT->Prop
 | .mk _ _ a b c d s _=>(0<=a/\a<18446744073709551616)/\(0<=b/\b<18446744073709551616)/\(0<=c/\c<18446744073709551616)/\(0<=d/\d<18446744073709551616)/\Xh s
def Xh:List RT->Prop
 |[]=>True
 |t::r=>RtU t/\Xh r
end
theorem Tryz.structNode:Tryz.prog.underlying 119=some (.struct (Tryz.prog.fieldsOf 119)):=by kernel_rfl
theorem Tryz.fieldsNode:(Tryz.prog.fieldsOf 119).toList.map (fun f=>(f.name,f.type,f.offset))=[("Kind",3,0),("Text",9,1),("Class",63,2),("Subs",117,6),("At",3,7)]:=by kernel_rfl
theorem Tryz.structRule:Tryz.prog.underlying 121=some (.struct (Tryz.prog.fieldsOf 121)):=by kernel_rfl
theorem Tryz.fieldsRule:(Tryz.prog.fieldsOf 121).toList.map (fun f=>(f.name,f.type,f.offset))=[("Name",9,0),("Body",119,1),("At",3,9)]:=by kernel_rfl
theorem Tryz.structGram:Tryz.prog.underlying 51=some (.struct (Tryz.prog.fieldsOf 51)):=by kernel_rfl
theorem Tryz.fieldsGram:(Tryz.prog.fieldsOf 51).toList.map (fun f=>(f.name,f.type,f.offset))=[("Rules",49,0)]:=by kernel_rfl
theorem Tryz.cellsNode:Tryz.prog.cellsOf 119=8:=by kernel_rfl
theorem Tryz.cellsRule:Tryz.prog.cellsOf 121=10:=by kernel_rfl
theorem Tryz.cellsGram:Tryz.prog.cellsOf 51=1:=by kernel_rfl
theorem Tryz.cellsCls:Tryz.prog.cellsOf 63=4:=by kernel_rfl
theorem Tryz.cellsInt:Tryz.prog.cellsOf 3=1:=by kernel_rfl
theorem Tryz.cellsStr:Tryz.prog.cellsOf 9=1:=by kernel_rfl
theorem Tryz.cellsNodes:Tryz.prog.cellsOf 117=1:=by kernel_rfl
theorem Tryz.cellsRules:Tryz.prog.cellsOf 49=1:=by kernel_rfl
theorem Tryz.cellsWord:Tryz.prog.cellsOf 61=1:=by kernel_rfl
theorem Tryz.arrayCls:Tryz.prog.underlying 63=some (.array 4 61):=by kernel_rfl
theorem Tryz.sliceNodes:Tryz.prog.underlying 117=some (.slice 119):=by kernel_rfl
theorem Tryz.sliceRules:Tryz.prog.underlying 49=some (.slice 121):=by kernel_rfl
theorem Jl{o:Array Field}{l:List (String×TypeId×Nat)}(h:o.toList.map (fun f=>(f.name,f.type,f.offset))=l)(i:Nat)(x:String×TypeId×Nat)(hx:l[i]? =some x):∃f,o[i]? =some f/\f.type=x.2.1/\f.offset=x.2.2:=by
 rw[<-h,List.getElem?_map]at hx;cases hf:o.toList[i]? with
 |none=>rw[hf]at hx;cases hx
 |some f=>
  rw[hf]at hx;simp only[Option.map_some,Option.some.injEq]at hx;refine⟨f,by rw[<-Array.getElem?_toList];exact hf,?_,?_⟩
  ·rw[<-hx]
  ·rw[<-hx]
theorem Rw{o:Array Field}{l:List (String×TypeId×Nat)}(h:o.toList.map (fun f=>(f.name,f.type,f.offset))=l):o.size=l.length:=by
 rw[<-h,List.length_map,Array.length_toList]
theorem z2G{W:World}{B g:Nat}:∀(n o:Nat),(∀i,i<n->∃t r,Qw W B t r/\RtZ t/\RtU t/\∀j u,r[j]? =some u->zC W g (o+i*8+j) u)->∃s:List RT,s.length=n/\Zj W B g o s/\Xb s/\Xh s
 |0,o,_=>⟨[],rfl,by rw[Zj];trivial,by rw[Xb];trivial,by rw[Xh];trivial⟩
 |n+1,o,h=>by
  obtain⟨t,r,y,A,D,E⟩:=h 0 (by omega);obtain⟨s,U,V,Y,Z⟩:=z2G n (o+8) (fun i hi=>by
   obtain⟨t,r,y,A,D,E⟩:=h (i+1) (by omega);refine⟨t,r,y,A,D,fun j u G=> ?_⟩;have:=E j u G;rw[show o+(i+1)*8+j=o+8+i*8+j by omega]at this;exact this)
  refine⟨t::s,by simp[U],?_,by rw[Xb];exact⟨A,Y⟩,by rw[Xh];exact⟨D,Z⟩⟩;rw[Zj];refine⟨⟨r,y,fun j u G=> ?_⟩,V⟩;have:=E j u G;rw[Nat.zero_mul,Nat.add_zero]at this;exact this
section
variable {H:Type} {enc:TypeId×Value->H} {W:World} {sp:Nat->Bool} {hl:Bool}
theorem z2H{a:Addr}{n:Nat}{r:List Value}(h:W.cells? 0 (a.add (0*n)) n=some r)(y:0<n):a.spot=none:=by
 obtain⟨_,E,A⟩:=World.cells?_some h;have o:=A 0 y;rw[Deep.add_add,Nat.zero_mul]at o;obtain⟨c,D⟩:∃c,r[0]? =some c:=⟨_,List.getElem?_eq_getElem (by omega)⟩;rw[D]at o;have:=World.cell?_spot o;simpa [Addr.add]using this
theorem Ep{b o k n:Nat}{r:List Value}(h:W.cells? 0 ((⟨b,o,none⟩:Addr).add k) n=some r)(U:0<n):b<W.heap.size/\r.length=n/\∀j u,r[j]? =some u->zC W b (o+k+j) u:=by
 obtain⟨_,y,E⟩:=World.cells?_some h;have A:∀j u,r[j]? =some u->zC W b (o+k+j) u:=fun j u D=>by
  have G:j<n:=by rw[<-y];exact(List.getElem?_eq_some_iff.1 D).1
  have:=E j G;rw[Deep.add_add,Addr.add_lit,D]at this;rw[Nat.add_assoc];exact this
 exact⟨World.block_lt_of_cell? W ⟨b,o+k+0,none⟩ (A 0 _ (List.getElem?_eq_getElem (by omega))),y,A⟩
theorem z2I:∀(N fuel:Nat) (D:List Value) (x:DataW H×List MemPlace),fuel<N->DataW.trod enc prog W 0 sp hl fuel 119 D=some x->∃t,Qw W W.heap.size t D/\RtZ t/\RtU t
 |0,_,_,_,h,_=>by omega
 |N+1,fuel,D,x,hN,h=>by
  obtain⟨xs,n,rfl,rfl,Z,aa,r⟩:=DataW.trod_struct Tryz.structNode h;rw[Tryz.cellsNode]at Z;rw[Rw Tryz.fieldsNode]at aa
  match D,Z with
  |[c0,c1,c2,c3,c4,c5,c6,c7],_=>
  match xs,aa with
  |[y0,y1,y2,y3,y4],_=>
  obtain⟨f0,g0,t0,o0⟩:=Jl Tryz.fieldsNode 0 _ rfl;obtain⟨f1,g1,t1,o1⟩:=Jl Tryz.fieldsNode 1 _ rfl;obtain⟨f2,g2,t2,o2⟩:=Jl Tryz.fieldsNode 2 _ rfl;obtain⟨f3,g3,t3,o3⟩:=Jl Tryz.fieldsNode 3 _ rfl;obtain⟨f4,g4,t4,o4⟩:=Jl Tryz.fieldsNode 4 _ rfl;have r0:=r 0 f0 g0;have r1:=r 1 f1 g1;have r2:=r 2 f2 g2;have r3:=r 3 f3 g3;have r4:=r 4 f4 g4;simp only[t0,o0,t1,o1,t2,o2,t3,o3,t4,o4,Tryz.cellsInt,Tryz.cellsStr,Tryz.cellsCls,Tryz.cellsNodes,List.drop_zero,List.drop_succ_cons,List.take_succ_cons,List.take_zero,List.getElem?_cons_zero,List.getElem?_cons_succ]at r0 r1 r2 r3 r4;obtain⟨k,e0,_,w0⟩:=DataW.trod_int Tryz.underlying3 r0;obtain⟨T,e1,_,wT⟩:=DataW.trod_string Tryz.underlying9 r1;obtain⟨p,e7,_,w7⟩:=DataW.trod_int Tryz.underlying3 r4;obtain⟨z0,z1,z2,z3,m,_,q0,q1,q2,q3⟩:=trod_array4 Tryz.arrayCls Tryz.cellsWord r2;obtain⟨a,ea,_,wa⟩:=DataW.trod_int Tryz.underlying61 q0;obtain⟨b,eb,_,wb⟩:=DataW.trod_int Tryz.underlying61 q1;obtain⟨c,ec,_,wc⟩:=DataW.trod_int Tryz.underlying61 q2;obtain⟨d,ed,_,ag⟩:=DataW.trod_int Tryz.underlying61 q3;simp only[List.cons.injEq,and_true]at e0 e1 e7 ea eb ec ed;subst e0 e1 e7 ea eb ec ed;have ba:=bounds_u64 wa;have bb:=bounds_u64 wb;have bc:=bounds_u64 wc;have bd:=bounds_u64 ag;have G:T.size<=9223372036854775807:=by unfold maxLen at wT;exact wT
  rcases DataW.trod_slice Tryz.sliceNodes r3 with⟨A,_⟩|⟨ad,len,ab,ak,rest,m2,al,A,_,_,am,ao,ap,ah,_⟩
  ·simp only[List.cons.injEq,and_true]at A
   subst A;refine⟨.mk k T a b c d [] p,?_,?_,?_⟩
   ·rw[Qw]
    exact⟨none,0,rfl,.inl rfl⟩
   ·rw[RtZ,Xb]
    exact⟨G,trivial⟩
   ·rw[RtU,Xh]
    exact⟨by omega,by omega,by omega,by omega,trivial⟩
  ·simp only[List.cons.injEq,and_true]at A
   subst A;have ac:∀i,i<len->∃o y,W.cells? 0 (ad.add (i*8)) 8=some o/\DataW.trod enc prog W 0 sp hl m2 119 o=some y:=fun i U=>by
    have h1:=ah i U;rw[List.getElem?_eq_getElem (by omega)]at h1;obtain⟨o,E,V⟩:=Option.bind_eq_some_iff.1 h1;rw[Tryz.cellsNode]at E;exact⟨o,_,E,V⟩
   obtain⟨g,Y,ai⟩:=ad;by_cases h0:len=0
   ·subst h0
    refine⟨.mk k T a b c d [] p,?_,?_,?_⟩
    ·rw[Qw]
     exact⟨_,ab,rfl,.inl rfl⟩
    ·rw[RtZ,Xb]
     exact⟨G,trivial⟩
    ·rw[RtU,Xh]
     exact⟨by omega,by omega,by omega,by omega,trivial⟩
   obtain⟨aq,_,ae,_⟩:=ac 0 (by omega);obtain rfl:ai=none:=z2H ae (by omega);obtain⟨aj,_,_⟩:=Ep ae (by omega);obtain⟨s,l1,l2,l3,l4⟩:=z2G len Y (fun i U=>by
    obtain⟨o,y,E,V⟩:=ac i U;obtain⟨_,_,s4⟩:=Ep E (by omega);obtain⟨t,i1,i2,i3⟩:=z2I N m2 o _ (by omega) V;exact⟨t,o,i1,i2,i3,s4⟩)
   have af:Qb s=len:=by rw[Xg,l1]
   refine⟨.mk k T a b c d s p,?_,?_,?_⟩
   ·rw[Qw]
    refine⟨some ⟨g,Y,none⟩,ab,by rw[af],.inr ⟨?_,g,Y,rfl,aj,by rw[af];omega,l2⟩⟩;cases s with
    |nil=>exact absurd l1.symm h0
    |cons _ _=>rfl
   ·rw[RtZ]
    exact⟨G,l3⟩
   ·rw[RtU]
    exact⟨by omega,by omega,by omega,by omega,l4⟩
def RgU(rs:List Rr):Prop:=∀x∈rs,RtU x.2.1
theorem y0I{fuel:Nat}{A:List Value}{x:DataW H×List MemPlace}(h:DataW.trod enc prog W 0 sp hl fuel 121 A=some x):
  ∃r:Rr,(∃k T a b c d o n y p,Qw W W.heap.size r.2.1 (r8 k T a b c d o n y p)/\A=zT r.1::(r8 k T a b c d o n y p++[zI r.2.2]))/\r.1.size<=9223372036854775807/\RtZ r.2.1/\RtU r.2.1:=by
 obtain⟨xs,n,rfl,rfl,E,G,D⟩:=DataW.trod_struct Tryz.structRule h;rw[Tryz.cellsRule]at E;rw[Rw Tryz.fieldsRule]at G
 match A,E with
 |[c0,c1,c2,c3,c4,c5,c6,c7,c8,c9],_=>
 match xs,G with
 |[y0,y1,y2],_=>
 obtain⟨f0,g0,t0,o0⟩:=Jl Tryz.fieldsRule 0 _ rfl;obtain⟨f1,g1,t1,o1⟩:=Jl Tryz.fieldsRule 1 _ rfl;obtain⟨f2,g2,t2,o2⟩:=Jl Tryz.fieldsRule 2 _ rfl;have U:=D 0 f0 g0;have V:=D 1 f1 g1;have Y:=D 2 f2 g2;simp only[t0,o0,t1,o1,t2,o2,Tryz.cellsInt,Tryz.cellsStr,Tryz.cellsNode,List.drop_zero,List.drop_succ_cons,List.take_succ_cons,List.take_zero,List.getElem?_cons_zero,List.getElem?_cons_succ]at U V Y;obtain⟨M,Z,_,wM⟩:=DataW.trod_string Tryz.underlying9 U;obtain⟨q,e9,_,_⟩:=DataW.trod_int Tryz.underlying3 Y;obtain⟨t,i1,i2,i3⟩:=z2I _ n _ _ (Nat.lt_succ_self _) V;simp only[List.cons.injEq,and_true]at Z e9;subst Z e9;obtain⟨k,T,a,b,c,d,o,n1,y,p,e⟩:=i1.shape;refine⟨(M,t,q),⟨k,T,a,b,c,d,o,n1,y,p,by rw[<-e];exact i1,?_⟩,by unfold maxLen at wM;exact wM,i2,i3⟩;rw[<-e];rfl
theorem z2J{fuel:Nat}{V:Option Addr}{n af:Nat}{x:DataW H×List MemPlace}(h:DataW.trod enc prog W 0 sp hl fuel 49 [.slice V n af]=some x):
  ∃rs,Qg W W.heap.size V n rs/\RgZ rs/\RgU rs:=by
 rcases DataW.trod_slice Tryz.sliceRules h with⟨E,_⟩|⟨ad,len,am,ao,rest,m2,ap,E,_,_,aq,ar,au,ag,_⟩
 ·simp only[List.cons.injEq,and_true,Value.slice.injEq]at E
  obtain⟨rfl,rfl,rfl⟩:=E;exact⟨[],⟨rfl,by unfold maxLen;omega,fun j G=>by simp at G⟩,fun x hx=>by simp at hx,fun x hx=>by simp at hx⟩
 ·simp only[List.cons.injEq,and_true,Value.slice.injEq]at E
  obtain⟨rfl,rfl,rfl⟩:=E;have aa:∀i,i<n->∃U y,W.cells? 0 (ad.add (i*10)) 10=some U/\DataW.trod enc prog W 0 sp hl m2 121 U=some y:=fun i A=>by
   have Y:=ag i A;rw[List.getElem?_eq_getElem (by omega)]at Y;obtain⟨U,D,h3⟩:=Option.bind_eq_some_iff.1 Y;rw[Tryz.cellsRule]at D;exact⟨U,_,D,h3⟩
  obtain⟨g,ab,ah⟩:=ad;by_cases h0:n=0
  ·subst h0
   exact⟨[],⟨rfl,by unfold maxLen;omega,fun j G=>by simp at G⟩,fun x hx=>by simp at hx,fun x hx=>by simp at hx⟩
  obtain⟨av,_,ac,_⟩:=aa 0 (by omega);obtain rfl:ah=none:=z2H ac (by omega);obtain⟨ai,_,_⟩:=Ep ac (by omega);have aj:∀i,∃r:Rr,i<n->Rk W W.heap.size g (ab+i*10) r/\r.1.size<=9223372036854775807/\RtZ r.2.1/\RtU r.2.1:=fun i=>by
   by_cases A:i<n
   ·obtain⟨U,y,D,h3⟩:=aa i A
    obtain⟨_,_,o⟩:=Ep D (by omega);obtain⟨r,⟨k,T,a,b,c,d,V,n1,ak,p,i1,rfl⟩,i2,i3,i4⟩:=y0I h3;exact⟨r,fun _=>⟨⟨k,T,a,b,c,d,V,n1,ak,p,i1,o 0 _ rfl,o 1 _ rfl,o 2 _ rfl,o 3 _ rfl,o 4 _ rfl,o 5 _ rfl,o 6 _ rfl,o 7 _ rfl,o 8 _ rfl,o 9 _ rfl⟩,i2,i3,i4⟩⟩
   ·exact⟨(⟨#[]⟩,.mk 0 ⟨#[]⟩ 0 0 0 0 [] 0,0),fun h=>absurd h A⟩
  obtain⟨f,Z⟩:=Classical.axiomOfChoice aj;have ae:∀x∈(List.range n).map f,∃i,i<n/\f i=x:=fun x hx=>by
   obtain⟨i,Y,D⟩:=List.mem_map.1 hx;exact⟨i,List.mem_range.1 Y,D⟩
  refine⟨(List.range n).map f,⟨by simp,by omega,fun j G=> ?_⟩,fun x hx=> ?_,fun x hx=> ?_⟩
  ·have al:j<n:=by simpa using G
   have e:((List.range n).map f)[j]=f j:=by rw[List.getElem_map,List.getElem_range]
   rw[e];exact⟨g,ab,rfl,ai,(Z j al).1⟩
  ·obtain⟨i,A,rfl⟩:=ae x hx
   exact⟨(Z i A).2.1,(Z i A).2.2.1⟩
  ·obtain⟨i,A,rfl⟩:=ae x hx
   exact(Z i A).2.2.2
theorem y0J{base:Nat}{v:Value}{d:DataW H}{Y:List MemPlace}(Z:Value.okWide prog W .any base 51 v)(h:DataW.Trod enc prog W 0 sp hl 51 v d Y):
  ∃G n aa rs,v=.agg #[.slice G n aa]/\Qg W W.heap.size G n rs/\RgZ rs/\RgU rs:=by
 obtain⟨cs,rfl,U⟩:=okWide_struct Tryz.structGram Z;rw[Tryz.cellsGram]at U;obtain⟨l⟩:=cs
 match l,U with
 |[c0],_=>
 obtain⟨fuel,y⟩:=h;obtain⟨xs,n,rfl,hx,ab,V,y⟩:=DataW.trod_struct Tryz.structGram y;rw[Rw Tryz.fieldsGram]at V
 match xs,V with
 |[y0],_=>
 obtain⟨f0,g0,t0,o0⟩:=Jl Tryz.fieldsGram 0 _ rfl;have r:=y 0 f0 g0;simp only[Value.cells,t0,o0,Tryz.cellsRules,List.drop_zero,List.take_succ_cons,List.take_zero,List.getElem?_cons_zero]at r;have r1:=r;rcases DataW.trod_slice Tryz.sliceRules r1 with⟨o,_⟩|⟨ad,len,ac,ae,rest,m2,af,o,_,_,ag,ah,ai,aj,_⟩
 ·simp only[List.cons.injEq,and_true]at o
  subst o;obtain⟨rs,A,D,E⟩:=z2J r;exact⟨_,_,_,rs,rfl,A,D,E⟩
 ·simp only[List.cons.injEq,and_true]at o
  subst o;obtain⟨rs,A,D,E⟩:=z2J r;exact⟨_,_,_,rs,rfl,A,D,E⟩
end
theorem y0K{a b c d:Int}(h:zc a b c d=true):a=0/\b=0/\c=0/\d=0:=by
 unfold zc at h;simpa using h
mutual
theorem z2K:∀t:RT,okT t=true->RtU t->∃n,Tq t n/\Vk n/\Wf Nmq n
 | .mk k T a b c d s p,h,hu=>by
   rw[okT,Bool.and_eq_true]at h;obtain⟨o,D⟩:=h;rw[RtU]at hu;obtain⟨E,G,U,V,us⟩:=hu;obtain⟨q,A,Y,Z⟩:=z2L s D us;have ab:q.length=Qb s:=A.length;obtain⟨a,rfl⟩:=Int.eq_ofNat_of_zero_le E.1;obtain⟨b,rfl⟩:=Int.eq_ofNat_of_zero_le G.1;obtain⟨c,rfl⟩:=Int.eq_ofNat_of_zero_le U.1;obtain⟨d,rfl⟩:=Int.eq_ofNat_of_zero_le V.1;have cw:=z0q a b c d (by omega) (by omega) (by omega) (by omega);have cl:=z6K a b c d (by omega) (by omega) (by omega) (by omega);have hk:0<=k:=by
    rcases Int.lt_or_le k 0 with r|r
    ·unfold okN at o
     rw[if_neg (by omega),if_neg (by omega),if_neg (by omega),if_neg (by omega),if_neg (by omega),if_neg (by omega)]at o;cases o
    ·exact r
   obtain⟨kd,rfl⟩:=Int.eq_ofNat_of_zero_le hk;have c0:zc (a:Int) (b:Int) (c:Int) (d:Int)=true->cls a b c d=0:=fun r=>by
    have:=y0K r;have ha:a=0:=by omega
    have hb:b=0:=by omega
    have hc:c=0:=by omega
    have hd:d=0:=by omega
    subst ha hb hc hd;rfl
   refine⟨.mk kd T (cls a b c d) q 0,?_,?_,?_⟩
   ·rw[Tq]
    exact⟨rfl,rfl,by rw[cw.1],by rw[cw.2.1],by rw[cw.2.2.1],by rw[cw.2.2.2],A⟩
   ·rw[Vk]
    refine⟨?_,Y⟩;have y:((Qb s:Nat):Int)=0->q=[]:=fun r=>List.eq_nil_of_length_eq_zero (by omega)
    unfold okN at o;split at o
    ·rename_i aa
     simp only[Bool.and_eq_true,beq_iff_eq]at o;rcases aa with h4|h4
     ·exact .inl ⟨by omega,Mb o.1,c0 o.2.1,y o.2.2⟩
     ·exact .inr (.inr (.inr (.inl ⟨by omega,Mb o.1,c0 o.2.1,y o.2.2⟩)))
    ·split at o
     ·simp only[Bool.and_eq_true,beq_iff_eq]at o
      exact .inr (.inl ⟨by omega,c0 o.2.1,y o.2.2⟩)
     ·split at o
      ·simp only[Bool.and_eq_true,beq_iff_eq]at o
       exact .inr (.inr (.inl ⟨by omega,Mb o.1,y o.2⟩))
      ·split at o
       ·simp only[Bool.and_eq_true,beq_iff_eq]at o
        exact .inr (.inr (.inr (.inr (.inl ⟨by omega,c0 o.2.1,y o.2.2⟩))))
       ·split at o
        ·simp only[Bool.and_eq_true,decide_eq_true_eq]at o
         exact .inr (.inr (.inr (.inr (.inr (.inl ⟨by omega,Mb o.1,c0 o.2.1,by omega⟩)))))
        ·split at o
         ·simp only[Bool.and_eq_true,beq_iff_eq]at o
          exact .inr (.inr (.inr (.inr (.inr (.inr ⟨by omega,by omega,Mb o.1,c0 o.2.1,by omega⟩)))))
         ·cases o
   ·rw[Wf]
    refine⟨fun e=> ?_,fun e=> ?_,cl,Z⟩
    ·subst e
     unfold okN at o;rw[if_neg (by decide),if_pos (by decide)]at o;simp only[Bool.and_eq_true,decide_eq_true_eq]at o;omega
    ·subst e
     unfold okN at o;rw[if_neg (by decide),if_neg (by decide),if_neg (by decide),if_pos (by decide)]at o;simp only[Bool.and_eq_true]at o;exact o.1
theorem z2L:∀s:List RT,okL s=true->Xh s->∃q,TqL s q/\VkL q/\WfL Nmq q
 |[],_,_=>⟨[],by rw[TqL];trivial,by rw[VkL];trivial,by rw[WfL];trivial⟩
 |t::r,h,hu=>by
  rw[okL,Bool.and_eq_true]at h;rw[Xh]at hu;obtain⟨n,a1,a2,a3⟩:=z2K t h.1 hu.1;obtain⟨q,o,y,A⟩:=z2L r h.2 hu.2;exact⟨n::q,by rw[TqL];exact⟨a1,o⟩,by rw[VkL];exact⟨a2,y⟩,by rw[WfL];exact⟨a3,A⟩⟩
end
theorem z2M:∀{rs:List Rr},rs.all okR=true->RgU rs->∃ns,TqR rs ns/\∀x∈ns,Ruk Nmq x
 |[],_,_=>⟨[],by rw[TqR];trivial,fun x hx=>by simp at hx⟩
 |x::r,h,hu=>by
  rw[List.all_cons,Bool.and_eq_true]at h;obtain⟨ns,a1,a2⟩:=z2M h.2 (fun y o=>hu y (by simp[o]));have hx:=h.1;unfold okR at hx;rw[Bool.and_eq_true]at hx;obtain⟨n,A,D,E⟩:=z2K x.2.1 hx.2 (hu x (by simp));refine⟨(x.1,n,0)::ns,by rw[TqR];exact⟨rfl,A,a1⟩,fun y o=> ?_⟩;rcases List.mem_cons.1 o with rfl|o
  ·exact⟨hx.1,D,E⟩
  ·exact a2 y o
theorem y0L{rs:List Rr}(h:okG rs=true)(r:RgU rs):∃ns,TqR rs ns/\(∀x∈ns,Ruk Nmq x)/\1<=ns.length/\ns.length<=64:=by
 unfold okG at h;simp only[Bool.and_eq_true,decide_eq_true_eq]at h;obtain⟨ns,o,y⟩:=z2M h.2.2 r;have:=o.len;exact⟨ns,o,y,by omega,by omega⟩
end
open Go.RowKit Go.Shelf
theorem Ry{M:zA}(h:nmS M=true):1<=M.size:=by
 rcases Nat.lt_or_ge 0 M.size with o|o
 ·exact o
 ·have e:M={data:=#[]}:=by
   apply ByteArray.ext;apply Array.ext';exact List.eq_nil_of_length_eq_zero (by have:M.data.size=M.size:=rfl;rw[Array.length_toList];omega)
  subst e
  revert h
  decide+kernel
theorem Dq(h:Nat)(n:Nd):sz (pN qT cT n)<=sz (pP qT cT h n):=by
 unfold pP;split
 ·rw[sz,Xv];omega
 ·exact Nat.le_refl _
mutual
theorem Rf:∀(t:RT) (n:Nd),Tq t n->Vk n->Wf Nmq n->(rfT t).length<=sz (pN qT cT n)
 | .mk k T a b c d s p,.mk kd T' C s' p',hq,hv,hw=>by
   rw[Tq]at hq;obtain⟨Y,Z,_,_,_,_,y⟩:=hq;rw[Wf]at hw;rw[Vk]at hv;rw[rfT];by_cases h5:kd=5
   ·rw[if_pos (by omega)]
    have o:1<=T'.size:=Ry (hw.2.1 h5);rw[h5,pN];simp[sz];exact o
   ·rw[if_neg (by omega)]
    have A:∀D E,(rfL s).length<=sz (pS qT cT D E s'):=fun D E=>by
     cases s with
     |nil=>rw[rfL];exact Nat.zero_le _
     |cons t r=>
      cases s' with
      |nil=>simp[TqL]at y
      |cons n q=>
       rw[TqL]at y;have G:=hv.2;rw[VkL]at G;have U:=hw.2.2.2;rw[WfL]at U;have i1:=Rf t n y.1 G.1 U.1;have i2:=z2N r q D E y.2 G.2 U.2;have i3:=Dq D n;rw[rfL,List.length_append,Fg,Xv];omega
    have V:kd<=4->(rfL s).length=0:=fun h=>by
     have e:s'=[]:=by
      rcases hv.1 with o|o|o|o|o|o|o
      ·exact o.2.2.2
      ·exact o.2.2
      ·exact o.2.2
      ·exact o.2.2.2
      ·omega
      ·omega
      ·omega
     have:=A 0 bE;rw[e,pS,sz]at this;omega
    rw[pN]
    repeat' split
    all_goals first
     |(rw[V (by omega)];exact Nat.zero_le _)
     |exact A _ _
     |(rw[sz];exact Nat.le_trans (A _ _) (Nat.le_add_left _ _))
     |(rw[Xv];exact Nat.le_trans (A _ _) (Nat.le_add_right _ _))
     |omega
theorem z2N:∀(s:List RT) (q:List Nd) (o:Nat) (y:zA),TqL s q->VkL q->WfL Nmq q->(rfL s).length<=sz (pB qT cT o y q)
 |[],_,_,_,_,_,_=>by rw[rfL];exact Nat.zero_le _
 |t::r,[],_,_,h,_,_=>by simp[TqL]at h
 |t::r,n::q,o,y,h,hv,hw=>by
  rw[TqL]at h;rw[VkL]at hv;rw[WfL]at hw;have A:=Rf t n h.1 hv.1 hw.1;have D:=z2N r q o y h.2 hv.2 hw.2;have E:=Dq o n;rw[rfL,List.length_append,Fb,sz,Xv];omega
end
theorem Rg:∀{rs:List Rr} {ns:List Rl},TqR rs ns->(∀x∈ns,Ruk Nmq x)->∀x∈rs,(rfT x.2.1).length<=sz (pR qT cT ns)
 |[],_,_,_,x,hx=>by simp at hx
 |a::r,[],h,_,_,_=>by simp[TqR]at h
 |a::r,b::q,h,hk,x,hx=>by
  rw[TqR]at h;rw[pR,sz,sz,Xv,sz];rcases List.mem_cons.1 hx with rfl|hx
  ·have o:=hk b (by simp)
   have:=Rf _ _ h.2.1 o.2.1 o.2.2;omega
  ·have:=Rg h.2.2 (fun y A=>hk y (List.mem_cons_of_mem _ A)) x hx
   omega
theorem Rb(h:Option Addr)(n o:Nat)(A E:Value)(w:World)
  (y:Hid (∀W:World,zB w W->Calls prog 242 #[.agg #[.slice h n o]] W (zR W (.tuple #[A,E])))):
  Calls prog 236 #[.agg #[.slice h n o]] w fun e w'=>e=.returned E/\zB w w':=by
 have r:Hid (zB w (w.alloc (.cells #[.slice h n o] 51))):=(Below.refl _ w).alloc L0q _;go_enter func236,ntmps236
 go_wp2_with(first|(go_at_call 242;refine(y.out _ r.out).mono ?_;rintro e D ⟨rfl,G⟩;have U:Hid (zB w D):=r.out.trans (G.mono r.out.size)))
 go_ret;exact⟨rfl,U.out⟩
def RtA(rs:List Rr)(E:Value):Prop:=(∃c:Int,(c=2∨c=20)/\E=.iface 34 (zI c))∨(E=.nilIface/\okG rs=true/\∀x∈rs,(rfT x.2.1).length<=8192)
open Go.Maps
attribute [local go_sem] Oper.semAt_some
theorem y0M(y:Option Addr)(n A:Nat)(c:Int)(w:World)
  (V:Hid (∀W:World,zB w W->Calls prog 236 #[.agg #[.slice y n A]] W (zR W (.iface 34 (zI c)))))(m:Nat):
  CallsIn Fence.wide (m+5) prog 201 #[.agg #[.slice y n A]] w fun e w'=>e=.returned (.tuple #[.map none,.iface 34 (zI c)])/\zB w w':=by
 obtain⟨h,o⟩:∃h,h=((w.alloc (.cells #[.slice y n A] 51)).alloc (.cells #[.map none] 317)).alloc (.cells #[.nilIface] 31):=⟨_,rfl⟩;have D:zB w h:=by rw[o];exact(((Below.refl _ w).alloc L0q _).alloc (by simp) _).alloc (by simp;omega) _
 have c2:h.heap[w.heap.size+1]? =some (.cells #[.map none] 317):=by
  rw[o];exact(Below.heap_alloc _ _ _ (by simp)).trans (Qx _ _ (by simp))
 have c3:h.heap[w.heap.size+1+1]? =some (.cells #[.nilIface] 31):=by
  rw[o];exact Qx _ _ (by simp)
 have aa:h.heap.size=w.heap.size+1+1+1:=by rw[o];simp
 have Y:=hid (V.out h D);refine callsIn_of_wp_marks func201 rfl trivial ?_ rfl;simp only[ntmps201,List.size_toArray,List.length_cons,List.length_nil,Nat.reduceAdd,Nat.reduceSub,Array.replicate_succ,Array.replicate_zero,List.push_toArray,List.append_toArray,List.nil_append,List.cons_append]
 gi_wp2
 rw[<-o];clear o;refine⟨trivial,?_⟩;refine(callsIn_wide.2 Y.out).mono ?_;rintro e E ⟨rfl,r⟩;have G:=(r.block _ (by omega)).trans c2;have U:=(r.block _ (by omega)).trans c3;have ab:=r.size;have Z:Hid (zB w E):=D.trans (r.mono D.size);obtain⟨x2,e2⟩:=Qy G;obtain⟨x3,e3⟩:=Qy U;have l2:=Qq G;have l3:=Qq U;clear Y V c2 c3
 gi_wp2
 have b2:Boxed E (w.heap.size+1) 317 (.map none):=G;have b3:Boxed E (w.heap.size+1+1) 31 .nilIface:=U;have y1:=((b2.set (.map none)).other (B':=w.heap.size+1+1) (by omega) (.iface 34 (zI c))).cell;have y2:=((b3.other (B':=w.heap.size+1) (by omega) (.map none)).set (.iface 34 (zI c))).cell;refine⟨.tuple #[.map none,.iface 34 (zI c)],by simp[results,Tryz.f201,go_sem,y1,y2],rfl,?_⟩;exact(Z.out.setCell (p:=⟨w.heap.size+1,0,none⟩) (by show w.heap.size<=_+1;omega) _).setCell (p:=⟨w.heap.size+1+1,0,none⟩) (by show w.heap.size<=_+1+1;omega) _
def Zd(X:Option (Int ⊕ (Int×Int)))(S:Nat)(w':World)(v:Value):Prop:=match X with
 |none=>v=.nilIface
 |some (.inl c)=>v=.iface 34 (zI c)
 |some (.inr q)=>∃g,v=.iface 181 (zP g 0)/\S<=g/\w'.heap[g]? =some (.cells #[zI q.1,zI q.2] 183)
def CkX(rs:List Rr)(X:Option (Int ⊕ (Int×Int))):Prop:=match X with
 |none=>okG rs=true/\ckR rs=none/\∀x∈rs,(rfT x.2.1).length<=8192
 |some (.inl c)=>c=2∨c=20
 |some (.inr q)=>okG rs=true/\ckR rs=some q
theorem Zd.shape{X:Option (Int ⊕ (Int×Int))}{S:Nat}{w':World}{v:Value}(h:Zd X S w' v)(o:X≠none):∃t u,v=.iface t u:=by
 match X,o with
 |some (.inl c),_=>exact⟨_,_,h⟩
 |some (.inr q),_=>
  obtain⟨g,r,_⟩:=h;exact⟨_,_,r⟩
mutual
theorem Qw.upto{w:World}{B B':Nat}(A:B<=B'):∀(t:RT) (r:List Value),Qw w B t r->Qw w B' t r
 | .mk k T a b c d s p,r,h=>by
   rw[Qw]at h ⊢;obtain⟨D,E,rfl,h⟩:=h;refine⟨D,E,rfl,?_⟩;rcases h with y|⟨y,g,o,G,Y,U,V⟩
   ·exact .inl y
   ·exact .inr ⟨y,g,o,G,by omega,U,Zj.upto A s g o V⟩
theorem Zj.upto{w:World}{B B':Nat}(h:B<=B'):∀(s:List RT) (g o:Nat),Zj w B g o s->Zj w B' g o s
 |[],g,o,_=>by rw[Zj];trivial
 |t::r,g,o,ht=>by
  rw[Zj]at ht ⊢;obtain⟨⟨y,A,D⟩,E⟩:=ht;exact⟨⟨y,Qw.upto h t y A,D⟩,Zj.upto h r g _ E⟩
end
theorem Qg.upto{w:World}{B B' n:Nat}{r:Option Addr}{rs:List Rr}(h:Qg w B r n rs)(y:B<=B'):Qg w B' r n rs:=
 ⟨h.1,h.2.1,fun j A=>by
   obtain⟨g,o,D,Z,k,T,a,b,c,d,E,G,U,p,V,Y⟩:=h.2.2 j A;exact⟨g,o,D,by omega,k,T,a,b,c,d,E,G,U,p,Qw.upto y _ _ V,Y⟩⟩
theorem Zd.lo{X:Option (Int ⊕ (Int×Int))}{S S':Nat}{w':World}{v:Value}(h:Zd X S w' v)(y:S'<=S):Zd X S' w' v:=by
 match X with
 |none=>exact h
 |some (.inl c)=>exact h
 |some (.inr q)=>
  obtain⟨g,o,A,r⟩:=h;exact⟨g,o,by omega,r⟩
theorem z2O(y:Option Addr)(n A:Nat)(rs:List Rr)(X:Option (Int ⊕ (Int×Int)))(W:World)
  (D:Hid (∀W':World,zB W W'->Calls prog 201 #[.agg #[.slice y n A]] W' fun e w'=>∃m v,e=.returned (.tuple #[m,v])/\Zd X W'.heap.size w' v/\(X=none->∃M,m=.map (some M)/\W'.heap.size<=M/\Pm w' M (nmL rs))/\(X≠none->m=.map none)/\zB W' w')):
  Calls prog 174 #[.agg #[.slice y n A]] W fun e w'=>∃v,e=.returned v/\Zd X W.heap.size w' v/\zB W w':=by
 have h:Hid (zB W (W.alloc (.cells #[.slice y n A] 51))):=(Below.refl _ W).alloc L0q _;have U:Hid (zB W W):=Below.refl _ W;go_enter func174,ntmps174
 go_wp2_with fail
 first
  |(refine(D.out _ h.out).mono ?_;rintro e w1 ⟨m,v,rfl,o,-,-,r⟩;have E:=h.out.trans (r.mono h.out.size);have G:=o.lo (S':=W.heap.size) h.out.size)
  |(refine(D.out _ U.out).mono ?_;rintro e w1 ⟨m,v,rfl,o,-,-,r⟩;have E:=r;have G:=o)
 clear D h U o r;have V:=hid E;have Y:=hid G;clear E G
 go_wp2_with fail
 go_ret;exact⟨_,rfl,Y.out,V.out⟩
theorem y0N{W:World}{s:Nat}{v:Value}{u:List Int}(h:W.ownsRow s 3 1 v u.length (u.map (Value.int .i64)))(hl:u.length<=1048576):Eh W W.heap.size v u:=by
 rcases h.2 with⟨rfl,y⟩|⟨g,A,D,rfl,G,r,U,V,Y,E⟩
 ·cases u with
  |nil=>exact⟨none,0,rfl,hl,fun j o=>by simp at o⟩
  |cons _ _=>simp at y
 ·refine⟨_,A,rfl,hl,fun j o=>⟨g,0,rfl,(Array.getElem?_eq_some_iff.1 r).1,?_⟩⟩
  refine(Qj r (0+j) _ ?_).1;have e:(D.toList.take (u.length*1))[j]? =(u.map (Value.int .i64))[j]? :=by rw[E]
  rw[List.getElem?_take_of_lt (by omega)]at e;rw[Nat.zero_add,<-Array.getElem?_toList,e];simp[o]
theorem y0O{w:World}{r n:Nat}{vs:List Value}{us:List (List Int)}{W:World}(h:Uw w r n vs us W)(A:vs.length=n)(hl:∀u∈us,u.length<=1048576)(E:n<=1048576):UsM W W.heap.size (zS r n n) us:=by
 have D:us.length=n:=by rw[<-h.len];exact A
 refine⟨_,n,by rw[D],by omega,fun i o=>⟨r,0,vs[i]'(by rw[h.len];exact o),rfl,Qq h.blk,?_,y0N (h.row i (by rw[h.len];exact o) o) (hl _ (List.getElem_mem o))⟩⟩;refine(Qj h.blk (0+i) _ ?_).1;have y:i<vs.length:=by rw[h.len];exact o
 rw[Nat.zero_add,List.getElem?_toArray,List.getElem?_append_left y,List.getElem?_eq_getElem y]
theorem Rh{zs:List Int}{x:Int}(h:x∈Lib.compact zs):x∈zs:=by
 unfold Lib.compact Lib.compactUpTo at h;obtain⟨i,o,rfl⟩:=List.mem_map.1 h;have r:i<zs.length:=List.mem_range.1 (List.mem_filter.1 o).1;rw[getElem!_pos _ i (by simpa using r)];simp
theorem y0P{l:List ByteArray}{y:Rr}{x:Int}(hl:1<=l.length)(h:x∈usR l y):∃m:Nat,m<l.length/\x=(m:Int):=by
 have o:x∈ixL l (rfT y.2.1):=(Mf _).mem_iff.1 (Rh h);obtain⟨q,_,rfl⟩:=List.mem_map.1 o;refine⟨ixV l q.1,?_,rfl⟩;unfold ixV;cases hin:inN q.1 l with
 |true=>exact Gh _ _ hin
 |false=>exact hl
theorem Gz{rs:List Rr}(h:okG rs=true):1<=rs.length/\rs.length<=64:=by
 unfold okG at h;simp only[Bool.and_eq_true,decide_eq_true_eq]at h;exact⟨h.1,h.2.1⟩
@[reducible] def CkC (so:Option Addr) (n cap:Nat) (rs:List Rr) (X:Option (Int ⊕ (Int×Int))) (W:World):Prop:=∀W':World,zB W W'->Calls prog 201 #[.agg #[.slice so n cap]] W' fun e w'=>∃m v,e=.returned (.tuple #[m,v])/\Zd X W'.heap.size w' v/\(X=none->∃M,m=.map (some M)/\W'.heap.size<=M/\Pm w' M (nmL rs))/\(X≠none->m=.map none)/\zB W' w'
theorem CkC.from{o:Option Addr}{n r:Nat}{rs:List Rr}{X:Option (Int ⊕ (Int×Int))}{W W':World}(h:CkC o n r rs X W)(y:zB W W'):CkC o n r rs X W':=fun A D=>h A (y.trans (D.mono y.size))
open Go.Extern.Stop Go.Stop Go.Extern
theorem y0Q(c:Int)(t:Addr)(old:Value)(w:World)(r:w.cell? ⟨0,0,none⟩=some (.iface 203 (.agg #[.pointer (some ⟨6,31,none⟩)])))(y:w.cell? t=some old)(D:w.frozen? t=false):
  Calls prog 29 #[.iface 34 (.int .i64 c),.iface 87 (.pointer (some t))] w fun E w'=>E=.returned (.bool true)/\w'=((((w.alloc (.cells #[.pointer (some t)] 87)).alloc (.cells #[.pointer (some ⟨6,87,none⟩),.pointer (some ⟨w.heap.size,0,none⟩),.int .u64 150] 147)).alloc (.cells #[.pointer (some ⟨6,87,none⟩),.pointer (some ⟨w.heap.size,0,none⟩),.int .u64 150] 147)).alloc (.cells #[.int .i64 c] 34)).setCell t (.int .i64 c):=by
 have U:= @run_callFunc_extern prog 60 _ (fun args=>ReflectliteValue.unpack (args.getD 0 (.tuple #[]))) func60 (by kernel_rfl) (by kernel_rfl) (by kernel_rfl) (by kernel_rfl);have V:= @run_callFunc_extern prog 61 _ (ReflectliteValue.methodAny (ReflectliteValue.valueError "reflectlite.Value.Type" 0) (fun t _ _ _=>ReflectliteType.toType t)) func61 (by kernel_rfl) (by kernel_rfl) (by kernel_rfl) (by kernel_rfl);have Y:= @run_callFunc_extern prog 62 _ (ReflectliteValue.method (ReflectliteValue.valueError "reflectlite.Value.IsNil" 0) ReflectliteValue.isNil) func62 (by kernel_rfl) (by kernel_rfl) (by kernel_rfl) (by kernel_rfl);have Z:= @run_callFunc_extern prog 337 _ (ReflectliteType.abiMethod fun t=>do pure (.int .u8 (<-Rtype.kind t))) func337 (by kernel_rfl) (by kernel_rfl) (by kernel_rfl) (by kernel_rfl);have aa:= @run_callFunc_extern prog 350 _ (ReflectliteType.method ReflectliteType.elem) func350 (by kernel_rfl) (by kernel_rfl) (by kernel_rfl) (by kernel_rfl);have ab:= @run_callFunc_extern prog 351 _ (ReflectliteType.relation "Implements" ReflectliteType.implements_) func351 (by kernel_rfl) (by kernel_rfl) (by kernel_rfl) (by kernel_rfl);have ac:= @run_callFunc_extern prog 98 _ ReflectliteType.typeOf func98 (by kernel_rfl) (by kernel_rfl) (by kernel_rfl) (by kernel_rfl);have ad:= @run_callFunc_extern prog 348 _ (ReflectliteType.relation "AssignableTo" ReflectliteType.assignableTo) func348 (by kernel_rfl) (by kernel_rfl) (by kernel_rfl) (by kernel_rfl);have ae:= @run_callFunc_extern prog 99 _ (ReflectliteValue.method (ReflectliteValue.valueError "reflectlite.Value.Elem" 0) ReflectliteValue.elem) func99 (by kernel_rfl) (by kernel_rfl) (by kernel_rfl) (by kernel_rfl);have af:= @run_callFunc_extern prog 100 _ ReflectliteValue.set func100 (by kernel_rfl) (by kernel_rfl) (by kernel_rfl) (by kernel_rfl);have tO:=Tryz.typeOfEE;have mA:=Tryz.methodAssignableTo;have aE:=Tryz.assignableEE;have vE:=Tryz.valueOfEE;have vP:=Tryz.valueOfPE;have tP:=Tryz.typePE;have mK:=Tryz.methodKind;have mE:=Tryz.methodElem;have mI:=Tryz.methodImplements;have kP:=Tryz.kindPE;have kE:=Tryz.kindEE;have eP:=Tryz.elemPE;have iE:=Tryz.implementsEE;have nP:=Tryz.isNilPE ⟨w.heap.size,0,none⟩ t ((w.alloc (.cells #[.pointer (some t)] 87)).alloc (.cells #[.pointer (some ⟨6,87,none⟩),.pointer (some ⟨w.heap.size,0,none⟩),.int .u64 150] 147)) (by simp);have G:0<w.heap.size:=by
  rcases Nat.lt_or_ge 0 w.heap.size with o|o
  ·exact o
  ·simp[World.cell?,Array.getElem?_eq_none o]at r
 have ag:((w.alloc (.cells #[.pointer (some t)] 87)).alloc (.cells #[.pointer (some ⟨6,87,none⟩),.pointer (some ⟨w.heap.size,0,none⟩),.int .u64 150] 147)).cell? ⟨0,0,none⟩=some (.iface 203 (.agg #[.pointer (some ⟨6,31,none⟩)])):=by
  rw[World.cell?_alloc_lt _ _ ⟨0,0,none⟩ (by simp<;>omega),World.cell?_alloc_lt _ _ ⟨0,0,none⟩ G];exact r
 have A:t.block<w.heap.size:=by
  rcases Nat.lt_or_ge t.block w.heap.size with h|h
  ·exact h
  ·simp[World.cell?,Array.getElem?_eq_none h]at y
 have el:=Tryz.elemVE ⟨w.heap.size,0,none⟩ t (((w.alloc (.cells #[.pointer (some t)] 87)).alloc (.cells #[.pointer (some ⟨6,87,none⟩),.pointer (some ⟨w.heap.size,0,none⟩),.int .u64 150] 147)).alloc (.cells #[.pointer (some ⟨6,87,none⟩),.pointer (some ⟨w.heap.size,0,none⟩),.int .u64 150] 147)) (by rw[World.cell?_alloc_lt _ _ ⟨w.heap.size,0,none⟩ (by simp<;>omega)];simp);have st:=Tryz.setEE t ⟨w.heap.size+1+1+1,0,none⟩ c old ((((w.alloc (.cells #[.pointer (some t)] 87)).alloc (.cells #[.pointer (some ⟨6,87,none⟩),.pointer (some ⟨w.heap.size,0,none⟩),.int .u64 150] 147)).alloc (.cells #[.pointer (some ⟨6,87,none⟩),.pointer (some ⟨w.heap.size,0,none⟩),.int .u64 150] 147)).alloc (.cells #[.int .i64 c] 34))
  (by rw[World.cell?_alloc_at _ _ _ _ (by simp)];rfl)
  (by rw[World.cell?_alloc_lt _ _ t (by simp<;>omega),World.cell?_alloc_lt _ _ t (by simp<;>omega),World.cell?_alloc_lt _ _ t (by simp<;>omega),World.cell?_alloc_lt _ _ t A];exact y)
  (by rw[World.frozen?_alloc_old _ _ t (by simp<;>omega),World.frozen?_alloc_old _ _ t (by simp<;>omega),World.frozen?_alloc_old _ _ t (by simp<;>omega),World.frozen?_alloc_old _ _ t (Nat.ne_of_lt A)];exact D)
 go_enter func29,ntmps29
 go_wp2
 refine wp_loop_rounds 1 ?_;rw[rounds_succ]
 go_wp2
 go_ret;exact⟨rfl,rfl⟩
theorem Rm(c:Int)(w:World)(h:Vg w):Calls prog 14 #[.iface 34 (.int .i64 c)] w fun e w'=>e=.returned (.int .i64 c)/\Below w.heap.size w w':=by
 have y:=h.lt;have r:=y0Q c ⟨w.heap.size,0,none⟩ (.int .i64 0) (w.alloc (.cells #[.int .i64 0] 34)) (by rw[World.cell?_alloc_lt _ _ ⟨0,0,none⟩ y];exact h) (by simp) (by simp);clear h;go_enter func14,ntmps14
 go_wp2_with fail
 refine r.mono ?_;rintro e w1 ⟨rfl,o⟩;have D:w1.cell? ⟨w.heap.size,0,none⟩=some (.int .i64 c):=by
  rw[o];exact World.cell?_setCell_same' _ _ _ (by rw[World.cell?_alloc_lt _ _ ⟨w.heap.size,0,none⟩ (by simp<;>omega),World.cell?_alloc_lt _ _ ⟨w.heap.size,0,none⟩ (by simp<;>omega),World.cell?_alloc_lt _ _ ⟨w.heap.size,0,none⟩ (by simp<;>omega),World.cell?_alloc_lt _ _ ⟨w.heap.size,0,none⟩ (by simp)];simp)
 have A:Hid (Below w.heap.size w w1):=by
  show Below w.heap.size w w1;rw[o];exact(((((B0q.alloc L0q _).alloc (by simp) _).alloc (by simp<;>omega) _).alloc (by simp<;>omega) _).alloc (by simp<;>omega) _).setCell L0q _
 clear o r
 go_wp2
 go_ret;exact⟨rfl,A.out⟩
def xOf(rs:List Rr):Option (Int ⊕ (Int×Int)):=(ckR rs).map .inr
theorem z2P(y:Option Addr)(n A:Nat)(rs:List Rr)(B:Nat)(w:World)(hz:RgZ rs)(h:Qg w B y n rs)(Y:B<=w.heap.size)(ab:5<w.heap.size)(Z:okG rs=true)(hl:∀x∈rs,(rfT x.2.1).length<=8192)
  (hR:∀W:World,zB w W->Calls prog 236 #[.agg #[.slice y n A]] W fun e w'=>e=.returned .nilIface/\zB W w'):CkX rs (xOf rs)/\CkC y n A rs (xOf rs) w:=by
 have hC:∀W:World,zB w W->Calls prog 201 #[.agg #[.slice y n A]] W (CkP W rs):=fun W o=>callsIn_wide.1 (y0q y n A rs W ((h.below (o.mono Y)).upto (Nat.le_trans Y o.size)) (by have:=o.size;omega) (hid hz) (hid fun W' aa=>hR W' (o.trans (aa.mono o.size))) 0)
 unfold xOf;cases hk:ckR rs with
 |none=>
  refine⟨⟨Z,hk,hl⟩,fun W o=>(hC W o).mono fun e w' D=> ?_⟩;obtain⟨E,⟨c,p,g,r,_⟩|⟨M,_,G,U,V⟩⟩:=D
  ·rw[hk]at r;cases r
  ·exact⟨_,_,G,rfl,fun _=>⟨M,rfl,U,V⟩,fun h=>absurd rfl h,E⟩
 |some q=>
  refine⟨⟨Z,hk⟩,fun W o=>(hC W o).mono fun e w' D=> ?_⟩;obtain⟨E,⟨c,p,g,r,G,U,V⟩|⟨M,r,_⟩⟩:=D
  ·rw[hk]at r
   cases r;exact⟨_,_,G,⟨g,rfl,U,V⟩,(fun h=>by cases h),fun _=>rfl,E⟩
  ·rw[hk]at r;cases r
theorem z2Q(zs:List Int):∀(i:Nat) (h:i<zs.length),zs[i]∈Lib.compact zs
 |0,h=>by
  unfold Lib.compact Lib.compactUpTo;refine List.mem_map.2 ⟨0,List.mem_filter.2 ⟨List.mem_range.2 h,Lib.keeps_lt_one _ 0 (by omega)⟩,?_⟩;rw[getElem!_pos _ 0 (by simpa using h)];simp
 |i+1,h=>by
  by_cases hk:Lib.keeps zs.toArray (i+1)=true
  ·unfold Lib.compact Lib.compactUpTo
   refine List.mem_map.2 ⟨i+1,List.mem_filter.2 ⟨List.mem_range.2 h,hk⟩,?_⟩;rw[getElem!_pos _ (i+1) (by simpa using h)];simp
  ·have e:zs.toArray[i+1]! =zs.toArray[i]! :=Classical.byContradiction fun o=>hk (Lib.keeps_pos (by simpa using o))
   rw[getElem!_pos _ (i+1) (by simpa using h),getElem!_pos _ i (by simp;omega)]at e;have r:zs[i+1]=zs[i]:=by simpa using e
   rw[r];exact z2Q zs i (by omega)
theorem z2R{zs:List Int}{x:Int}(h:x∈zs):x∈Lib.compact zs:=by
 obtain⟨i,o,rfl⟩:=List.getElem_of_mem h;exact z2Q zs i o
theorem y0R{l:List ByteArray}{y:Rr}{x:Int}:x∈usR l y↔x∈ixL l (rfT y.2.1):=⟨fun h=>(Mf _).mem_iff.1 (Rh h),fun h=>z2R ((Mf _).mem_iff.2 h)⟩
def fdI(s:zA)(l:List ByteArray):Int:=if inN s l then(ixN s l:Int)else-1
theorem z2S{s:zA}:∀{l:List ByteArray} {j:Nat} (o:j<l.length),(∀i (y:i<l.length),i<j->l[i]≠s)->l[j]=s->inN s l=true/\ixN s l=j
 |[],j,o,_,_=>by simp at o
 |a::r,0,_,_,h=>by
  have h:a=s:=h;rw[inN,ixN,if_pos h,if_pos h];exact⟨rfl,rfl⟩
 |a::r,j+1,o,hb,h=>by
  have A:a≠s:=hb 0 (by simp) (by omega);obtain⟨D,E⟩:=z2S (l:=r) (j:=j) (by simpa using o) (fun i y G=>hb (i+1) (by simpa using y) (by omega)) h;rw[inN,ixN,if_neg A,if_neg A,E];exact⟨D,rfl⟩
theorem z2T{s:zA}:∀{l:List ByteArray},(∀i (o:i<l.length),l[i]≠s)->inN s l=false
 |[],_=>rfl
 |a::r,h=>by
  have y:a≠s:=h 0 (by simp);rw[inN,if_neg y];exact z2T fun i o=>h (i+1) (by simpa using o)
theorem y0S(a b:zA):(a.toList == b.toList)=decide (a=b):=by
 by_cases h:a=b
 ·subst h;simp
 ·have:a.toList≠b.toList:=fun e=>h (by
   rw[Go.ByteArray.toList_eq,Go.ByteArray.toList_eq]at e;exact ByteArray.ext (Array.toList_inj.1 e))
  simp[h,this]
theorem y0T(N0 r s:zA)(y a1 A c1 D p1 E:Int)(G:Option Addr)(U V h:Nat)(W:World)(o:Boxed W h 9 (zT s)):
  Calls prog 159 #[.agg #[zT N0,zI y,zT r,zU a1,zU A,zU c1,zU D,.slice G U V,zI p1,zI E],zP h 0] W fun e w'=>e=.returned (.bool (decide (N0=s)))/\zB W w':=by
 have Y:=o.cell;have lb:=o.lt;go_enter func159,ntmps159
 go_wp2_with fail
 go_ret;refine⟨?_,(Below.refl _ W).alloc L0q _⟩;show Ending.returned (.bool (N0.toList == s.toList))=_;rw[y0S]
theorem y0U(s:zA)(Z:Option Addr)(n af:Nat)(rs:List Rr)(B A:Nat)(W:World)(h:Qg W B Z n rs)(hB:B<=W.heap.size)(hb:Boxed W A 9 (zT s))(ag:A<W.heap.size):
  Calls prog 158 #[.slice Z n af,.func (.func 159) #[] #[zP A 0]] W fun e w'=>e=.returned (zI (fdI s (nmL rs)))/\zB W w':=by
 have HR:=hid h;have aa:Hid (n=rs.length):=h.1;have ao:n<=9223372036854775807:=by have:=h.2.1;unfold maxLen at this;omega
 have ah:=hid hb;have ai:Hid (B<=W.heap.size):=hB;clear h hb hB;go_enter func158,ntmps158
 go_wp2_with fail
 go_loopw [8] (fun i wr=>∃j:Nat,i=zI (j:Int)/\j<=n/\Hid (∀i (D:i<rs.length),i<j->rs[i].1≠s)/\Hid (zB W wr)) (fun i _=>n-(intOf i).toNat)
 case atStart=>exact⟨0,rfl,Nat.zero_le _,fun i D h0=>by omega,Below.refl _ _⟩
 case round=>
  obtain⟨j,rfl,hj,E,r⟩:=hrel;have ap:(nmL rs).length=rs.length:=List.length_map _;by_cases hjn:j<n
  ·have aq:(j:Int)<(n:Int):=by omega
   have a0:decide ((j:Int)<(n:Int))=true:=by simp;omega
   have aj:j<rs.length:=by rw[<-aa.out];exact hjn
   obtain⟨g,o,rfl,hg,k1,T1,a1,b1,c1,d1,ak,n1,al,p1,am,r0⟩:=HR.out.2.2 j aj;have ab:∀q,wr.cell? ⟨g,q,none⟩=W.cell? ⟨g,q,none⟩:=fun q=>r.out.cell (p:=⟨g,q,none⟩) (Nat.lt_of_lt_of_le hg ai.out)
   simp only[<-ab]at r0;obtain⟨z0,z1,z2,z3,z4,z5,z6,z7,z8,z9⟩:=r0;obtain⟨N0,G⟩:∃N0,N0=rs[j].1:=⟨_,rfl⟩;obtain⟨U,ac⟩:∃U,U=rs[j].2.2:=⟨_,rfl⟩;rw[<-G]at z0;rw[<-ac]at z9;have ad:Hid (N0=rs[j].1):=G;have y:=hid (y0T N0 T1 s k1 a1 b1 c1 d1 p1 U ak n1 al A wr ((r.out.block A ag).trans ah.out));clear ab am G ac;by_cases e:N0=s
   ·rw[decide_eq_true e]at y
    have V:Hid (N0=s):=e;clear e
    go_wp2_with(first
     |(go_at_call 159;refine y.out.mono ?_;clear y;rintro e w5 ⟨rfl,Y⟩))
    go_ret;refine⟨?_,r.out.trans (Y.mono r.out.size)⟩;obtain⟨i1,i2⟩:=z2S (s:=s) (l:=nmL rs) (j:=j) (by omega) (fun i D ae=>by have:=E.out i (by omega) ae;simpa [nmL]using this) (by have:=V.out;rw[ad.out]at this;simpa [nmL]using this);unfold fdI;rw[i1,i2];rfl
   ·rw[decide_eq_false e]at y
    have V:Hid (N0≠s):=e;clear e
    go_wp2_with(first
     |(go_at_call 159;refine y.out.mono ?_;clear y;rintro e w5 ⟨rfl,Y⟩))
    refine⟨⟨j+1,by go_num,by omega,hid (fun i D ae=> ?_),hid (r.out.trans (Y.mono r.out.size))⟩,by simp[intOf];omega⟩;by_cases e:i=j
    ·subst e
     have:=V.out;rw[ad.out]at this;exact this
    ·exact E.out i D (by omega)
  ·have a0:decide ((j:Int)<(n:Int))=false:=by simp;omega
   go_wp2_with fail
   go_ret;refine⟨?_,r.out⟩;unfold fdI;rw[z2T (s:=s) (l:=nmL rs) fun i D=>by have:=E.out i (by omega) (by have:=aa.out;omega);simpa [nmL]using this];rfl
end Go.Proofs.YtmelafeingcgnaaGreatDoor
