/- Lemmas for the last text. Conditions: those that each names. -/
import Derived.Test.YtmelafeingcgnaaGreatDoorVS9ToO18
import Derived.Deep.RegionHeld3
import Derived.Deep.AppendLies
import Derived.Maps.AppendAt
import Derived.Test.YtmelafeingcgnaaGreatDoorVR8ToU1
import Derived.Test.YtmelafeingcgnaaGreatDoorVO5ToS4
set_option linter.unusedVariables false
set_option maxRecDepth 100000
set_option maxHeartbeats 8000000
namespace Go.Proofs.YtmelafeingcgnaaGreatDoor
open Go.Proofs.Tryz
open Go.RowKit Go.Shelf
variable {W W' w:World} {y0 y1 y2:Value}
theorem Rp(s:zA)(y:Option Addr)(n D:Nat)(rs:List Rr)(B:Nat)(W:World)(h:Qg W B y n rs)(A:B<=W.heap.size):
  Calls prog 122 #[.agg #[.slice y n D],zT s] W fun e w'=>e=.returned (zI (fdI s (nmL rs)))/\zB W w':=by
 have E:=hid (fun(G:Nat) (W':World) (U:zB W W') (hx:Boxed W' G 9 (zT s))=>y0U s y n D rs B G W' (h.below (U.mono A)) (Nat.le_trans A U.size) hx hx.lt);have r:Hid (∀o V:Obj,zB W ((W.alloc o).alloc V)):=fun o V=>((Below.refl _ W).alloc L0q _).alloc (by simp) _
 have Y:Hid (∀o:Obj,Boxed ((W.alloc o).alloc (.cells #[zT s] 9)) (W.heap.size+1) 9 (zT s)):=fun o=>by
  have:=Boxed.new (W.alloc o) 9 (zT s);simpa only[World.size_alloc]using this
 clear h A;go_enter func122,ntmps122
 go_wp2_with fail
 refine(E.out _ _ (r.out _ _) (Y.out _)).mono ?_;rintro e w1 ⟨rfl,Z⟩;have H1:=hid ((r.out _ _).trans (Z.mono (r.out _ _).size));clear Z E Y r
 go_wp2_with fail
 go_ret;exact⟨rfl,H1.out⟩
theorem z2U:∀{rs:List Rr} {l:List ByteArray},Yh l rs=none->∀j (o:j<rs.length),inN rs[j].1 (l++nmL (rs.take j))=false
 |[],_,_,j,o=>by simp at o
 |x::r,l,h,0,_=>by
  rw[Yh]at h;cases hi:inN x.1 l with
  |true=>rw[hi]at h;cases h
  |false=>simpa [nmL]using hi
 |x::r,l,h,j+1,o=>by
  rw[Yh]at h;cases hi:inN x.1 l with
  |true=>rw[hi]at h;cases h
  |false=>
   rw[hi]at h;have:=z2U (l:=l++[x.1]) (by simpa using h) j (by simpa using o);simpa [nmL,List.append_assoc]using this
theorem y0V{rs:List Rr}(h:ckR rs=none)(j:Nat)(r:j<rs.length):inN rs[j].1 (nmL (rs.take j))=false:=by
 have o:Dz rs=none:=by
  unfold ckR at h;cases o:Dz rs with
  |none=>rfl
  |some p=>rw[o]at h;cases h
 have:=z2U o j r;rwa[List.nil_append]at this
theorem z2V(s:zA):∀a b,inN s (a++b)=(inN s a||inN s b)
 |[],b=>by rw[List.nil_append,inN];rfl
 |x::r,b=>by rw[List.cons_append,inN,inN,z2V s r b];by_cases h:x=s<;>simp[h]
theorem z2W(s:zA):∀a b,ixN s (a++b)=if inN s a then ixN s a else a.length+ixN s b
 |[],b=>by rw[List.nil_append,inN];simp
 |x::r,b=>by
  rw[List.cons_append,ixN,ixN,inN,z2W s r b];by_cases h:x=s
  ·simp[h]
  ·simp only[h,if_false]
   by_cases h2:inN s r=true
   ·simp[h2]
   ·simp[h2];omega
theorem z2X{rs:List Rr}(h:ckR rs=none)(j:Nat)(o:j<rs.length):fdI rs[j].1 (nmL rs)=(j:Int):=by
 have r:=y0V h j o;have e:nmL rs=nmL (rs.take j)++(rs[j].1::nmL (rs.drop (j+1))):=by
  have y:rs=rs.take j++(rs[j]::rs.drop (j+1)):=by rw[<-List.drop_eq_getElem_cons o,List.take_append_drop]
  have A:=congrArg nmL y;rw[A];unfold nmL;rw[List.map_append];rfl
 have hl:(nmL (rs.take j)).length=j:=by unfold nmL;rw[List.length_map,List.length_take];omega
 unfold fdI;rw[e,z2V,z2W,r,inN,ixN,if_pos rfl,if_pos rfl,hl];simp
mutual
def Zw(w:World)(P:Nat->Prop):RT->List Value->Prop
 | .mk k T a b c d s p,cs=>∃so cap,cs=r8 k T a b c d so (Qb s) cap p/\(s.isEmpty=true∨(s.isEmpty=false/\∃g cur,so=some ⟨g,0,none⟩/\P g/\w.heap[g]? =some (.cells cur 119)/\Qb s<=maxLen/\Zx w P s cur.toList))
def Zx(w:World)(P:Nat->Prop):List RT->List Value->Prop
 |[],_=>True
 |t::r,vs=>∃c rest,vs=c++rest/\Zw w P t c/\Zx w P r rest
end
theorem Zw.len{P:Nat->Prop}{t:RT}{c:List Value}(h:Zw w P t c):c.length=8:=by
 obtain⟨k,T,a,b,c0,d,s,p⟩:=t;rw[Zw]at h;obtain⟨o,r,rfl,_⟩:=h;rfl
mutual
theorem Zw.kept{w w':World}{P Q:Nat->Prop}(y:∀g o,P g->zH w g (.cells o 119)->w'.heap[g]? =w.heap[g]? /\Q g):∀(t:RT) (c:List Value),Zw w P t c->Zw w' Q t c
 | .mk k T a b c d s p,cs,h=>by
   rw[Zw]at h ⊢;obtain⟨D,E,G,r⟩:=h;refine⟨D,E,G,?_⟩;rcases r with r|⟨U,g,o,V,Y,A,Z,h8⟩
   ·exact .inl r
   ·have:=y g o Y A
    exact .inr ⟨U,g,o,V,this.2,this.1.trans A,Z,Zx.kept y s o.toList h8⟩
theorem Zx.kept{w w':World}{P Q:Nat->Prop}(o:∀g y,P g->zH w g (.cells y 119)->w'.heap[g]? =w.heap[g]? /\Q g):∀(l:List RT) (vs:List Value),Zx w P l vs->Zx w' Q l vs
 |[],vs,h=>by rw[Zx];trivial
 |n::r,vs,h=>by
  rw[Zx]at h ⊢;obtain⟨c,rest,A,D,E⟩:=h;exact⟨c,rest,A,Zw.kept o n c D,Zx.kept o r rest E⟩
end
theorem Zx.append{w:World}{P:Nat->Prop}:∀(l:List RT) (vs:List Value) (n:RT) (c:List Value),Zx w P l vs->vs.length=l.length*8->Zw w P n c->Zx w P (l++[n]) (vs++c)
 |[],vs,n,c,_,hl,hn=>by
  have:vs=[]:=List.eq_nil_of_length_eq_zero (by simpa using hl);subst this;rw[List.nil_append,Zx];exact⟨c,[],by simp,hn,by rw[Zx];trivial⟩
 |m::r,vs,n,c,h,hl,hn=>by
  rw[Zx]at h;obtain⟨d,rest,rfl,o,y⟩:=h;have A:=o.len;rw[List.cons_append,Zx];refine⟨d,rest++c,by rw[List.append_assoc],o,Zx.append r rest n c y ?_ hn⟩;simp at hl;omega
theorem Zx.more{w:World}{P:Nat->Prop}:∀(l:List RT) (vs us:List Value),Zx w P l vs->Zx w P l (vs++us)
 |[],_,_,_=>by rw[Zx];trivial
 |n::r,vs,us,h=>by
  rw[Zx]at h ⊢;obtain⟨c,rest,rfl,o,y⟩:=h;exact⟨c,rest++us,by rw[List.append_assoc],o,Zx.more r rest us y⟩
def CnA(t:RT)(w:World)(e:Ending)(w':World):Prop:=∃k T a b c d so n cap p,e=.returned (.agg #[zI k,zT T,zU a,zU b,zU c,zU d,.slice so n cap,zI p])/\Hid (Zw w' (fun g=>w.heap.size<=g) t (r8 k T a b c d so n cap p))/\Hid (zB w w')
theorem Rq.app2{base j:Nat}{a y:Value}{xs E:List Value}{acc:List RT}{t:RT}{wr o W4 A:World}
  (G:wr.ownsRow base 119 8 a j xs)(hl:acc.length=j)(Z:Zx wr (fun g=>base<=g/\a.ownBlock≠some g) acc xs)(af:base<=wr.heap.size)(U:zB wr o)
  (r:Zw o (fun g=>wr.heap.size<=g) t E)(h4:o.heap.size<=W4.heap.size)(aa:∀g,g<o.heap.size->W4.heap[g]? =o.heap[g]?)(ab:W4.grownBy A a.ownBlock)(ac:y.ownBlock=a.ownBlock∨y.ownBlock=some W4.heap.size):
  Zx A (fun g=>base<=g/\y.ownBlock≠some g) (acc++[t]) (xs++E):=by
 have V:∀g,g<o.heap.size->a.ownBlock≠some g->A.heap[g]? =o.heap[g]? /\y.ownBlock≠some g:=fun g hl Y=>by
  refine⟨(ab.block g (by omega) (fun e=>Y e.symm)).trans (aa g hl),?_⟩;rcases ac with h|h
  ·rw[h];exact Y
  ·rw[h];intro e;have:=Option.some.inj e;omega
 refine Zx.append _ _ _ _ (Zx.kept (fun g ad D r=> ?_) _ _ Z) (by rw[hl];exact G.1) (Zw.kept (fun g ad D r=> ?_) _ _ r)
 ·have ae:=Qq r
  have:=U.size;have h:=V g (by omega) D.2;exact⟨h.1.trans (U.block g ae),D.1,h.2⟩
 ·have h:=V g (Qq r) (fun e=>by have:=(G.lt g e).2;omega)
  exact⟨h.1,by omega,h.2⟩
theorem Kv{h:Nat}{y3 r y A D:Value}(o:zC W h 0 y0/\zC W h 1 y1/\zC W h 2 y2/\zC W h 3 y3/\zC W h 4 r/\zC W h 5 y/\zC W h 6 A/\zC W h 7 D)(E:zB W W'):zC W' h 0 y0/\zC W' h 1 y1/\zC W' h 2 y2/\zC W' h 3 y3/\zC W' h 4 r/\zC W' h 5 y/\zC W' h 6 A/\zC W' h 7 D:=
 have k:∀{j:Nat} {v:Value},zC W h j v->zC W' h j v:=fun{j v} e=>(E.cell (p:=⟨h,j,none⟩) (World.block_lt_of_cell? W _ e)).trans e
 ⟨k o.1,k o.2.1,k o.2.2.1,k o.2.2.2.1,k o.2.2.2.2.1,k o.2.2.2.2.2.1,k o.2.2.2.2.2.2.1,k o.2.2.2.2.2.2.2⟩
theorem z2Y{o:Obj}{b:Nat}(h:b<=w.heap.size):b<=(w.alloc o).heap.size:=by rw[World.size_alloc];omega
def RqR(w:World)(P:Nat->Prop)(x:Rr)(cs:List Value):Prop:=∃c,cs=zT x.1::(c++[zI x.2.2])/\Zw w P x.2.1 c
def Zv(w:World)(P:Nat->Prop):List Rr->List Value->Prop
 |[],_=>True
 |x::r,vs=>∃c rest,vs=c++rest/\RqR w P x c/\Zv w P r rest
theorem RqR.len{w:World}{P:Nat->Prop}{x:Rr}{c:List Value}(h:RqR w P x c):c.length=10:=by
 obtain⟨c1,rfl,o⟩:=h;have:=o.len;simp;omega
theorem Zv.kept{w w':World}{P Q:Nat->Prop}(o:∀g y,P g->zH w g (.cells y 119)->w'.heap[g]? =w.heap[g]? /\Q g):∀(l:List Rr) (vs:List Value),Zv w P l vs->Zv w' Q l vs
 |[],vs,h=>by rw[Zv];trivial
 |n::r,vs,h=>by
  rw[Zv]at h ⊢;obtain⟨c,rest,A,⟨c1,D,E⟩,G⟩:=h;exact⟨c,rest,A,⟨c1,D,Zw.kept o _ _ E⟩,Zv.kept o r rest G⟩
theorem Zv.append{w:World}{P:Nat->Prop}:∀(l:List Rr) (vs:List Value) (n:Rr) (c:List Value),Zv w P l vs->vs.length=l.length*10->RqR w P n c->Zv w P (l++[n]) (vs++c)
 |[],vs,n,c,_,hl,hn=>by
  have:vs=[]:=List.eq_nil_of_length_eq_zero (by simpa using hl);subst this;rw[List.nil_append,Zv];exact⟨c,[],by simp,hn,by rw[Zv];trivial⟩
 |m::r,vs,n,c,h,hl,hn=>by
  rw[Zv]at h;obtain⟨d,rest,rfl,o,y⟩:=h;have A:=o.len;rw[List.cons_append,Zv];refine⟨d,rest++c,by rw[List.append_assoc],o,Zv.append r rest n c y ?_ hn⟩;simp at hl;omega
mutual
theorem Zw.is{w:World}{P:Nat->Prop}:∀(t:RT) (c:List Value),Zw w P t c->Qw w w.heap.size t c
 | .mk k T a b c d s p,cs,h=>by
   rw[Zw]at h;rw[Qw];obtain⟨A,D,E,o⟩:=h;refine⟨A,D,E,?_⟩;rcases o with o|⟨G,g,r,U,h5,y,V,Y⟩
   ·exact .inl o
   ·exact .inr ⟨G,g,0,U,Qq y,V,Zx.is s r.toList g 0 r y (fun i u Z=>by rw[Nat.zero_add];simpa using Z) Y⟩
theorem Zx.is{w:World}{P:Nat->Prop}:∀(s:List RT) (vs:List Value) (g o:Nat) (A:Array Value),zH w g (.cells A 119)->(∀i u,vs[i]? =some u->A[o+i]? =some u)->Zx w P s vs->Zj w w.heap.size g o s
 |[],_,_,_,_,_,_,_=>by rw[Zj];trivial
 |t::r,vs,g,o,A,hg,hv,h=>by
  rw[Zx]at h;rw[Zj];obtain⟨c,rest,rfl,D,E⟩:=h;have G:=D.len;refine⟨⟨c,Zw.is t c D,fun j u y=> ?_⟩,Zx.is r rest g (o+8) A hg (fun i u y=> ?_) E⟩
  ·have U:j<c.length:=by
    rcases Nat.lt_or_ge j c.length with h|h
    ·exact h
    ·rw[List.getElem?_eq_none h]at y;cases y
   have:=hv j u (by rw[List.getElem?_append_left U];exact y);simp[World.cell?,hg,this]
  ·have:=hv (8+i) u (by rw[List.getElem?_append_right (by omega),G,Nat.add_sub_cancel_left];exact y)
   rw[Nat.add_assoc];exact this
end
theorem Zv.get{w:World}{P:Nat->Prop}:∀(l:List Rr) (vs:List Value),Zv w P l vs->∀(j:Nat) (y:j<l.length),∃c,RqR w P l[j] c/\∀i u,c[i]? =some u->vs[j*10+i]? =some u
 |[],_,_,j,y=>by simp at y
 |x::r,vs,h,0,_=>by
  rw[Zv]at h;obtain⟨c,rest,rfl,A,_⟩:=h;refine⟨c,A,fun i u o=> ?_⟩;have D:i<c.length:=by
   rcases Nat.lt_or_ge i c.length with h|h
   ·exact h
   ·rw[List.getElem?_eq_none h]at o;cases o
  rw[Nat.zero_mul,Nat.zero_add,List.getElem?_append_left D];exact o
 |x::r,vs,h,j+1,y=>by
  rw[Zv]at h;obtain⟨c,rest,rfl,A,E⟩:=h;obtain⟨G,U,V⟩:=Zv.get r rest E j (by simpa using y);have Y:=A.len;refine⟨G,U,fun i u o=> ?_⟩;rw[List.getElem?_append_right (by omega),Y,show(j+1)*10+i-10=j*10+i by omega];exact V i u o
theorem Zv.is{w:World}{base n:Nat}{P:Nat->Prop}{a:Value}{xs:List Value}{rs:List Rr}(Z:w.ownsRow base 121 10 a n xs)(D:n=rs.length)(h:Zv w P rs xs):∃r A,a=.slice r n A/\Qg w w.heap.size r n rs:=by
 obtain⟨hx,⟨h1,E⟩|⟨g,A,aa,e1,ac,G,ad,ae,af,ht⟩⟩:=Z
 ·exact⟨none,0,by rw[h1,E],D,by rw[E];unfold maxLen;omega,fun j U=>by omega⟩
 ·refine⟨some ⟨g,0,none⟩,A,e1,D,by omega,fun j U=>⟨g,0,rfl,Qq G,?_⟩⟩
  obtain⟨c,⟨c1,rfl,h2⟩,h3⟩:=Zv.get rs xs h j U;have rt:=h2.is;obtain⟨k,T,a,b,c,d,r,V,Y,p,rfl⟩:=rt.shape;have o:∀i u,(Value.string rs[j].1::(r8 k T a b c d r V Y p++[.int .i64 rs[j].2.2]))[i]? =some u->w.cell? ⟨g,0+j*10+i,none⟩=some u:=fun i u hu=>by
   have y:=h3 i u hu;rw[<-ht]at y;have ab:j*10+i<n*10:=by
    rcases Nat.lt_or_ge (j*10+i) (n*10)with h|h
    ·exact h
    ·rw[List.getElem?_eq_none (by rw[List.length_take];omega)]at y;cases y
   rw[List.getElem?_take_of_lt ab]at y;have h5:aa[j*10+i]? =some u:=by simpa using y
   rw[Nat.zero_add];simp[World.cell?,G,h5]
  exact⟨k,T,a,b,c,d,r,V,Y,p,rt,o 0 _ rfl,o 1 _ rfl,o 2 _ rfl,o 3 _ rfl,o 4 _ rfl,o 5 _ rfl,o 6 _ rfl,o 7 _ rfl,o 8 _ rfl,o 9 _ rfl⟩
theorem Gm{base e size n i:Nat}{v:Value}{xs:List Value}{o:Obj}(h:w.ownsRow base e size v n xs)(y:w.heap[i]? =some o)(D:∀r,o≠.cells r e (0,0)):v.ownBlock≠some i:=by
 obtain⟨_,⟨E,_⟩|⟨g,U,r,rfl,_,G,_⟩⟩:=h
 ·subst E;simp[Value.ownBlock]
 ·intro A
  simp[Value.ownBlock]at A;subst A;rw[G]at y;cases y;exact D r rfl
theorem z2Z(N:zA)(a:Int)(T:zA)(c0 c1 c2 c3:Int)(h:Option Addr)(o r:Nat)(p q:Int):∀u∈[Value.string N,Value.int .i64 a,zT T,zU c0,zU c1,zU c2,zU c3,.slice h o r,zI p,zI q],u.oneCell'=true:=z1h N a T c0 c1 c2 c3 h o r p q
@[reducible] def ov (x:Ot):Value:=.agg #[.bool x.1,.bool x.2.1,.bool x.2.2]
theorem Ec(z s f:Bool)(w:World):Calls prog 272 #[.agg #[.bool z,.bool s,.bool f]] w fun e w'=>e=.returned (.bool (suc (z,s,f)))/\Hid (zB w w'):=by
 have h:Hid (∀o:Obj,zB w (w.alloc o)):=fun o=>(Below.refl _ w).alloc L0q o
 cases z<;>cases s<;>(
  go_enter func272,ntmps272
  go_wp2_with fail
  go_ret;exact⟨rfl,hid (h.out _)⟩)
theorem Zz{B:Nat}{a b c:Value}{t:TypeId}(h:zH w B (.cells #[a,b,c] t)):(zC w B 0 a/\zC w B 1 b/\zC w B 2 c)/\w.frozen? ⟨B,0,none⟩=false/\w.frozen? ⟨B,1,none⟩=false/\w.frozen? ⟨B,2,none⟩=false:=by
 obtain⟨x0,y0⟩:=Qj h 0 a rfl;obtain⟨x1,y1⟩:=Qj h 1 b rfl;obtain⟨x2,y2⟩:=Qj h 2 c rfl;exact⟨⟨x0,x1,x2⟩,y0,y1,y2⟩
theorem z3a(h:Hid (zB w W)/\zC W w.heap.size 0 y0/\zC W w.heap.size 1 y1/\zC W w.heap.size 2 y2)(o:zB W W'):Hid (zB w W')/\zC W' w.heap.size 0 y0/\zC W' w.heap.size 1 y1/\zC W' w.heap.size 2 y2:=by
 obtain⟨z,r,y,A⟩:=h;have hl:w.heap.size<W.heap.size:=World.block_lt_of_cell? W ⟨w.heap.size,0,none⟩ r;have e:∀j,W'.cell? ⟨w.heap.size,j,none⟩=W.cell? ⟨w.heap.size,j,none⟩:=fun j=>o.cell (p:=⟨w.heap.size,j,none⟩) hl
 exact⟨hid (z.out.trans (o.mono z.out.size)),(e _).trans r,(e _).trans y,(e _).trans A⟩
theorem z3b(h:Hid (zB w W)/\zC W w.heap.size 0 y0/\zC W w.heap.size 1 y1/\zC W w.heap.size 2 y2)(o:W.grownBy W' (some (w.heap.size+1+1))):Hid (zB w W')/\zC W' w.heap.size 0 y0/\zC W' w.heap.size 1 y1/\zC W' w.heap.size 2 y2:=by
 obtain⟨z,r,y,A⟩:=h;have e:∀j,W'.cell? ⟨w.heap.size,j,none⟩=W.cell? ⟨w.heap.size,j,none⟩:=fun j=>World.cell?_of_block (o.block w.heap.size (World.block_lt_of_cell? W ⟨w.heap.size,0,none⟩ r) (fun e=>by have:=Option.some.inj e;omega))
 exact⟨hid (z.out.grown o z.out.size (fun g e=>by have:=Option.some.inj e;omega)),(e _).trans r,(e _).trans y,(e _).trans A⟩
theorem Xj(W:World)(R:Nat)(v0 v1 v2:Value):W.grownBy (((W.setCell ⟨R,0,none⟩ v0).setCell ⟨R,1,none⟩ v1).setCell ⟨R,2,none⟩ v2) (some R):=G.setR (G.setR (G.setR (G.refl _ _)))
theorem y0W(z s f:Bool)(w:World):Calls prog 241 #[zI 8,.agg #[.bool z,.bool s,.bool f]] w fun e w'=>e=.returned (ov (Zb 8 (z,s,f)))/\Hid (zB w w'):=by
 have h:Hid (∀o r y:Obj,zB w (((w.alloc o).alloc r).alloc y)):=fun o r y=>(((Below.refl _ w).alloc L0q o).alloc (by simp) r).alloc (by simp;omega) y
 match z,s,f with
 |true,true,true=>
  go_enter func241,ntmps241
  go_wp2_with fail
  refine bodyPost_ret (v:=.agg #[.bool true,.bool true,.bool false]) (by simp[results,Tryz.results241,go_sem]) rfl ?_;exact⟨rfl,hid (h.out _ _ _)⟩
 |true,true,false=>
  go_enter func241,ntmps241
  go_wp2_with fail
  refine bodyPost_ret (v:=.agg #[.bool true,.bool true,.bool false]) (by simp[results,Tryz.results241,go_sem]) rfl ?_;exact⟨rfl,hid (h.out _ _ _)⟩
 |true,false,true=>
  go_enter func241,ntmps241
  go_wp2_with fail
  refine bodyPost_ret (v:=.agg #[.bool true,.bool false,.bool false]) (by simp[results,Tryz.results241,go_sem]) rfl ?_;exact⟨rfl,hid (h.out _ _ _)⟩
 |true,false,false=>
  go_enter func241,ntmps241
  go_wp2_with fail
  refine bodyPost_ret (v:=.agg #[.bool true,.bool false,.bool false]) (by simp[results,Tryz.results241,go_sem]) rfl ?_;exact⟨rfl,hid (h.out _ _ _)⟩
 |false,true,true=>
  go_enter func241,ntmps241
  go_wp2_with fail
  refine bodyPost_ret (v:=.agg #[.bool true,.bool true,.bool false]) (by simp[results,Tryz.results241,go_sem]) rfl ?_;exact⟨rfl,hid (h.out _ _ _)⟩
 |false,true,false=>
  go_enter func241,ntmps241
  go_wp2_with fail
  refine bodyPost_ret (v:=.agg #[.bool false,.bool true,.bool false]) (by simp[results,Tryz.results241,go_sem]) rfl ?_;exact⟨rfl,hid (h.out _ _ _)⟩
 |false,false,true=>
  go_enter func241,ntmps241
  go_wp2_with fail
  refine bodyPost_ret (v:=.agg #[.bool true,.bool false,.bool false]) (by simp[results,Tryz.results241,go_sem]) rfl ?_;exact⟨rfl,hid (h.out _ _ _)⟩
 |false,false,false=>
  go_enter func241,ntmps241
  go_wp2_with fail
  refine bodyPost_ret (v:=.agg #[.bool false,.bool false,.bool false]) (by simp[results,Tryz.results241,go_sem]) rfl ?_;exact⟨rfl,hid (h.out _ _ _)⟩
theorem y0X(z s f:Bool)(w:World):Calls prog 241 #[zI 9,.agg #[.bool z,.bool s,.bool f]] w fun e w'=>e=.returned (ov (Zb 9 (z,s,f)))/\Hid (zB w w'):=by
 have h:Hid (∀o r y:Obj,zB w (((w.alloc o).alloc r).alloc y)):=fun o r y=>(((Below.refl _ w).alloc L0q o).alloc (by simp) r).alloc (by simp;omega) y
 match z,s,f with
 |true,true,true=>
  go_enter func241,ntmps241
  go_wp2_with fail
  refine bodyPost_ret (v:=.agg #[.bool true,.bool true,.bool false]) (by simp[results,Tryz.results241,go_sem]) rfl ?_;exact⟨rfl,hid (h.out _ _ _)⟩
 |true,true,false=>
  go_enter func241,ntmps241
  go_wp2_with fail
  refine bodyPost_ret (v:=.agg #[.bool false,.bool true,.bool false]) (by simp[results,Tryz.results241,go_sem]) rfl ?_;exact⟨rfl,hid (h.out _ _ _)⟩
 |true,false,true=>
  go_enter func241,ntmps241
  go_wp2_with fail
  refine bodyPost_ret (v:=.agg #[.bool true,.bool false,.bool false]) (by simp[results,Tryz.results241,go_sem]) rfl ?_;exact⟨rfl,hid (h.out _ _ _)⟩
 |true,false,false=>
  go_enter func241,ntmps241
  go_wp2_with fail
  refine bodyPost_ret (v:=.agg #[.bool false,.bool false,.bool false]) (by simp[results,Tryz.results241,go_sem]) rfl ?_;exact⟨rfl,hid (h.out _ _ _)⟩
 |false,true,true=>
  go_enter func241,ntmps241
  go_wp2_with fail
  refine bodyPost_ret (v:=.agg #[.bool true,.bool true,.bool false]) (by simp[results,Tryz.results241,go_sem]) rfl ?_;exact⟨rfl,hid (h.out _ _ _)⟩
 |false,true,false=>
  go_enter func241,ntmps241
  go_wp2_with fail
  refine bodyPost_ret (v:=.agg #[.bool false,.bool true,.bool false]) (by simp[results,Tryz.results241,go_sem]) rfl ?_;exact⟨rfl,hid (h.out _ _ _)⟩
 |false,false,true=>
  go_enter func241,ntmps241
  go_wp2_with fail
  refine bodyPost_ret (v:=.agg #[.bool true,.bool false,.bool false]) (by simp[results,Tryz.results241,go_sem]) rfl ?_;exact⟨rfl,hid (h.out _ _ _)⟩
 |false,false,false=>
  go_enter func241,ntmps241
  go_wp2_with fail
  refine bodyPost_ret (v:=.agg #[.bool false,.bool false,.bool false]) (by simp[results,Tryz.results241,go_sem]) rfl ?_;exact⟨rfl,hid (h.out _ _ _)⟩
theorem y0Y(z s f:Bool)(w:World):Calls prog 241 #[zI 10,.agg #[.bool z,.bool s,.bool f]] w fun e w'=>e=.returned (ov (Zb 10 (z,s,f)))/\Hid (zB w w'):=by
 have h:Hid (∀o r y:Obj,zB w (((w.alloc o).alloc r).alloc y)):=fun o r y=>(((Below.refl _ w).alloc L0q o).alloc (by simp) r).alloc (by simp;omega) y
 match z,s,f with
 |true,true,true=>
  go_enter func241,ntmps241
  go_wp2_with fail
  refine bodyPost_ret (v:=.agg #[.bool true,.bool true,.bool true]) (by simp[results,Tryz.results241,go_sem]) rfl ?_;exact⟨rfl,hid (h.out _ _ _)⟩
 |true,true,false=>
  go_enter func241,ntmps241
  go_wp2_with fail
  refine bodyPost_ret (v:=.agg #[.bool false,.bool true,.bool false]) (by simp[results,Tryz.results241,go_sem]) rfl ?_;exact⟨rfl,hid (h.out _ _ _)⟩
 |true,false,true=>
  go_enter func241,ntmps241
  go_wp2_with fail
  refine bodyPost_ret (v:=.agg #[.bool true,.bool false,.bool true]) (by simp[results,Tryz.results241,go_sem]) rfl ?_;exact⟨rfl,hid (h.out _ _ _)⟩
 |true,false,false=>
  go_enter func241,ntmps241
  go_wp2_with fail
  refine bodyPost_ret (v:=.agg #[.bool false,.bool false,.bool false]) (by simp[results,Tryz.results241,go_sem]) rfl ?_;exact⟨rfl,hid (h.out _ _ _)⟩
 |false,true,true=>
  go_enter func241,ntmps241
  go_wp2_with fail
  refine bodyPost_ret (v:=.agg #[.bool false,.bool true,.bool true]) (by simp[results,Tryz.results241,go_sem]) rfl ?_;exact⟨rfl,hid (h.out _ _ _)⟩
 |false,true,false=>
  go_enter func241,ntmps241
  go_wp2_with fail
  refine bodyPost_ret (v:=.agg #[.bool false,.bool true,.bool false]) (by simp[results,Tryz.results241,go_sem]) rfl ?_;exact⟨rfl,hid (h.out _ _ _)⟩
 |false,false,true=>
  go_enter func241,ntmps241
  go_wp2_with fail
  refine bodyPost_ret (v:=.agg #[.bool false,.bool false,.bool true]) (by simp[results,Tryz.results241,go_sem]) rfl ?_;exact⟨rfl,hid (h.out _ _ _)⟩
 |false,false,false=>
  go_enter func241,ntmps241
  go_wp2_with fail
  refine bodyPost_ret (v:=.agg #[.bool false,.bool false,.bool false]) (by simp[results,Tryz.results241,go_sem]) rfl ?_;exact⟨rfl,hid (h.out _ _ _)⟩
theorem y0Z(z s f:Bool)(w:World):Calls prog 241 #[zI 11,.agg #[.bool z,.bool s,.bool f]] w fun e w'=>e=.returned (ov (Zb 11 (z,s,f)))/\Hid (zB w w'):=by
 obtain⟨o,r⟩:∃o,o=((w.alloc (.cells #[.bool z,.bool s,.bool f] 264)).alloc (.cells #[.bool false,.bool false,.bool false] 264)).alloc (.cells #[.bool false,.bool false,.bool false] 264):=⟨_,rfl⟩;have V:Hid (zB w o):=by rw[r];exact(((Below.refl _ w).alloc L0q _).alloc (by simp) _).alloc (by simp;omega) _
 have Y:o.heap[w.heap.size]? =some (.cells #[.bool z,.bool s,.bool f] 264):=by rw[r];exact(Below.heap_alloc _ _ _ (by simp;omega)).trans ((Below.heap_alloc _ _ _ (by simp)).trans (Qx w _ rfl))
 have af:Hid (o.heap[w.heap.size+1]? =some (.cells #[.bool false,.bool false,.bool false] 264)):=by rw[r];exact(Below.heap_alloc _ _ _ (by simp)).trans (Qx _ _ (by simp))
 have ag:Hid (o.heap[w.heap.size+1+1]? =some (.cells #[.bool false,.bool false,.bool false] 264)):=by rw[r];exact Qx _ _ (by simp)
 obtain⟨⟨t0,t1,t2⟩,_⟩:=Zz Y;have S2:(fun W:World=>Hid (zB w W)/\zC W w.heap.size 0 (.bool z)/\zC W w.heap.size 1 (.bool s)/\zC W w.heap.size 2 (.bool f)) o.drew:=⟨hid V.out.drew,t0,t1,t2⟩;have ap:=Qq Y;have ak:=Qq ag.out;have al:=Qq af.out;have HS:=hid (fun W:World=>Ec z s f W);clear Y;go_enter func241,ntmps241
 go_wp2_with fail
 rw[<-r];clear r
 go_region_held3 (fun W:World=>Hid (zB w W)/\zC W w.heap.size 0 (.bool z)/\zC W w.heap.size 1 (.bool s)/\zC W w.heap.size 2 (.bool f)) (first|(with_reducible assumption)|(with_reducible exact z3a (by assumption) (by assumption))|(with_reducible exact z3b (by assumption) (Xj _ _ _ _ _))) (first
  |(go_at_call 272;refine(HS.out _).mono ?_;rintro e Z ⟨rfl,ah⟩;have y:=ah.out;have A:=hid ((y.block (w.heap.size+1+1) ak).trans ag.out);have aa:=hid ((y.block (w.heap.size+1) al).trans af.out);obtain⟨⟨z0,z1,z2⟩,f0,f1,f2⟩:=Zz A.out;have lz:=Qq A.out))
 obtain⟨h,D⟩:∃h,h=((Z.setCell ⟨w.heap.size+1+1,0,none⟩ (.bool (suc (z,s,f)))).setCell ⟨w.heap.size+1+1,1,none⟩ (.bool false)).setCell ⟨w.heap.size+1+1,2,none⟩ (.bool f):=⟨_,rfl⟩;have ab:h.heap[w.heap.size+1+1]? =some (.cells #[.bool (suc (z,s,f)),.bool false,.bool f] 264):=by rw[D];exact Qk (Qk (Qk A.out 0 _) 1 _) 2 _
 have ac:Z.grownBy h (some (w.heap.size+1+1)):=by rw[D];exact Xj _ _ _ _ _
 have E:h.heap[w.heap.size+1]? =some (.cells #[.bool false,.bool false,.bool false] 264):=(ac.block _ (Qq aa.out) (fun e=>by have:=Option.some.inj e;omega)).trans aa.out;rw[<-D];obtain⟨G,U⟩:∃G,G=((h.setCell ⟨w.heap.size+1,0,none⟩ (.bool (suc (z,s,f)))).setCell ⟨w.heap.size+1,1,none⟩ (.bool false)).setCell ⟨w.heap.size+1,2,none⟩ (.bool f):=⟨_,rfl⟩;have ai:G.heap[w.heap.size+1]? =some (.cells #[.bool (suc (z,s,f)),.bool false,.bool f] 264):=by rw[U];exact Qk (Qk (Qk E 0 _) 1 _) 2 _
 have aj:h.grownBy G (some (w.heap.size+1)):=by rw[U];exact Xj _ _ _ _ _
 have ad:zB w Z:=V.out.drew.trans (y.mono V.out.drew.size);have ae:zB w h:=ad.grown ac ad.size (fun g e=>by have:=Option.some.inj e;omega);have am:=hid (ae.grown aj ae.size (fun g e=>by have:=Option.some.inj e;omega));obtain⟨⟨u0,u1,u2⟩,_⟩:=Zz ab;obtain⟨⟨r0,r1,r2⟩,q0,q1,q2⟩:=Zz E;obtain⟨⟨e0,e1,e2⟩,_⟩:=Zz ai;have lx:=Qq ab;have ly:=Qq E;have ao:=hid U;clear D U ab ac E ai aj ad ae A aa ah y z0 z1 z2 f0 f1 f2 S2 t0 t1 t2 HS
 go_wp2_with fail
 rw[<-ao.out];refine bodyPost_ret (v:=.agg #[.bool (suc (z,s,f)),.bool false,.bool f]) (by simp[results,Tryz.results241,go_sem,e0,e1,e2]) rfl ?_;exact⟨rfl,am⟩
theorem y1a(z s f:Bool)(w:World):Calls prog 241 #[zI 12,.agg #[.bool z,.bool s,.bool f]] w fun e w'=>e=.returned (ov (Zb 12 (z,s,f)))/\Hid (zB w w'):=by
 obtain⟨o,r⟩:∃o,o=((w.alloc (.cells #[.bool z,.bool s,.bool f] 264)).alloc (.cells #[.bool false,.bool false,.bool false] 264)).alloc (.cells #[.bool false,.bool false,.bool false] 264):=⟨_,rfl⟩;have V:Hid (zB w o):=by rw[r];exact(((Below.refl _ w).alloc L0q _).alloc (by simp) _).alloc (by simp;omega) _
 have Y:o.heap[w.heap.size]? =some (.cells #[.bool z,.bool s,.bool f] 264):=by rw[r];exact(Below.heap_alloc _ _ _ (by simp;omega)).trans ((Below.heap_alloc _ _ _ (by simp)).trans (Qx w _ rfl))
 have af:Hid (o.heap[w.heap.size+1]? =some (.cells #[.bool false,.bool false,.bool false] 264)):=by rw[r];exact(Below.heap_alloc _ _ _ (by simp)).trans (Qx _ _ (by simp))
 have ag:Hid (o.heap[w.heap.size+1+1]? =some (.cells #[.bool false,.bool false,.bool false] 264)):=by rw[r];exact Qx _ _ (by simp)
 obtain⟨⟨t0,t1,t2⟩,_⟩:=Zz Y;have S2:(fun W:World=>Hid (zB w W)/\zC W w.heap.size 0 (.bool z)/\zC W w.heap.size 1 (.bool s)/\zC W w.heap.size 2 (.bool f)) o.drew:=⟨hid V.out.drew,t0,t1,t2⟩;have ap:=Qq Y;have ak:=Qq ag.out;have al:=Qq af.out;have HS:=hid (fun W:World=>Ec z s f W);clear Y;go_enter func241,ntmps241
 go_wp2_with fail
 rw[<-r];clear r
 go_region_held3 (fun W:World=>Hid (zB w W)/\zC W w.heap.size 0 (.bool z)/\zC W w.heap.size 1 (.bool s)/\zC W w.heap.size 2 (.bool f)) (first|(with_reducible assumption)|(with_reducible exact z3a (by assumption) (by assumption))|(with_reducible exact z3b (by assumption) (Xj _ _ _ _ _))) (first
  |(go_at_call 272;refine(HS.out _).mono ?_;rintro e Z ⟨rfl,ah⟩;have y:=ah.out;have A:=hid ((y.block (w.heap.size+1+1) ak).trans ag.out);have aa:=hid ((y.block (w.heap.size+1) al).trans af.out);obtain⟨⟨z0,z1,z2⟩,f0,f1,f2⟩:=Zz A.out;have lz:=Qq A.out))
 obtain⟨h,D⟩:∃h,h=((Z.setCell ⟨w.heap.size+1+1,0,none⟩ (.bool f)).setCell ⟨w.heap.size+1+1,1,none⟩ (.bool false)).setCell ⟨w.heap.size+1+1,2,none⟩ (.bool (suc (z,s,f))):=⟨_,rfl⟩;have ab:h.heap[w.heap.size+1+1]? =some (.cells #[.bool f,.bool false,.bool (suc (z,s,f))] 264):=by rw[D];exact Qk (Qk (Qk A.out 0 _) 1 _) 2 _
 have ac:Z.grownBy h (some (w.heap.size+1+1)):=by rw[D];exact Xj _ _ _ _ _
 have E:h.heap[w.heap.size+1]? =some (.cells #[.bool false,.bool false,.bool false] 264):=(ac.block _ (Qq aa.out) (fun e=>by have:=Option.some.inj e;omega)).trans aa.out;rw[<-D];obtain⟨G,U⟩:∃G,G=((h.setCell ⟨w.heap.size+1,0,none⟩ (.bool f)).setCell ⟨w.heap.size+1,1,none⟩ (.bool false)).setCell ⟨w.heap.size+1,2,none⟩ (.bool (suc (z,s,f))):=⟨_,rfl⟩;have ai:G.heap[w.heap.size+1]? =some (.cells #[.bool f,.bool false,.bool (suc (z,s,f))] 264):=by rw[U];exact Qk (Qk (Qk E 0 _) 1 _) 2 _
 have aj:h.grownBy G (some (w.heap.size+1)):=by rw[U];exact Xj _ _ _ _ _
 have ad:zB w Z:=V.out.drew.trans (y.mono V.out.drew.size);have ae:zB w h:=ad.grown ac ad.size (fun g e=>by have:=Option.some.inj e;omega);have am:=hid (ae.grown aj ae.size (fun g e=>by have:=Option.some.inj e;omega));obtain⟨⟨u0,u1,u2⟩,_⟩:=Zz ab;obtain⟨⟨r0,r1,r2⟩,q0,q1,q2⟩:=Zz E;obtain⟨⟨e0,e1,e2⟩,_⟩:=Zz ai;have lx:=Qq ab;have ly:=Qq E;have ao:=hid U;clear D U ab ac E ai aj ad ae A aa ah y z0 z1 z2 f0 f1 f2 S2 t0 t1 t2 HS
 go_wp2_with fail
 rw[<-ao.out];refine bodyPost_ret (v:=.agg #[.bool f,.bool false,.bool (suc (z,s,f))]) (by simp[results,Tryz.results241,go_sem,e0,e1,e2]) rfl ?_;exact⟨rfl,am⟩
end Go.Proofs.YtmelafeingcgnaaGreatDoor
