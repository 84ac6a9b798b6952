/- Lemmas for the last text. Conditions: those that each names. -/
import Derived.Test.YtgnkkgcgbeianaaGreatDoorVLBToLD
import Derived.ScopeJumps
import Derived.WalkMore
import Derived.WalkSmall
set_option linter.unusedVariables false
set_option maxRecDepth 100000
set_option maxHeartbeats 32000000
namespace Go.Proofs.YtgnkkgcgbeianaaGreatDoor
open Go.Proofs.Tryz
open Go.RowKit Go.Shelf Go.Maps
theorem Tryz.infoNte:(Tryz.prog.info? 160).map (fun i=>(i.zero,i.size,i.bytes))=some (some (.agg #[.bool false,.int .i32 0]),2,8):=by kernel_rfl
theorem y8k(n:Nat)(A:n<=1048576)(W:World):(Instr.makeSlice 158 (.int .i64 n) (.int .i64 n)).run prog W=.ok (.slice (some ⟨W.heap.size,0,none⟩) n n) (W.alloc (.cells (madeCells #[.bool false,.int .i32 0] (n*2)) 160)):=by
 obtain⟨h,o,r,t,y⟩:=info_parts Tryz.infoNte;rw[run_make W 158 160 h _ Tryz.underlying158 o r .i64 .i64 n n (by omega) (by omega) (by rw[y];omega) (by omega),t];simp[Value.cells]
theorem z8e{a b:Value}{n k:Nat}(h:k<n):(madeCells #[a,b] (n*2))[k*2]? =some a/\(madeCells #[a,b] (n*2))[k*2+1]? =some b:=by
 have s:=size_madeCells #[a,b] (n*2);constructor
 ·rw[Array.getElem?_eq_getElem (by rw[s];omega)]
  simp[madeCells]
 ·rw[Array.getElem?_eq_getElem (by rw[s];omega)]
  simp[madeCells,Nat.add_mod]
theorem y8l{W W':World}{p0 p1:Addr}{v0 v1:Value}(h:W.cell? p0=some v0/\W.cell? p1=some v1)(r:Below W.heap.size W W'):W'.cell? p0=some v0/\W'.cell? p1=some v1:=by
 have k:∀{p:Addr} {u:Value},W.cell? p=some u->W'.cell? p=some u:=fun{p u} o=>(r.cell (p:=p) (World.block_lt_of_cell? W _ o)).trans o
 exact⟨k h.1,k h.2⟩
theorem y8m(M NB h nc:Nat)(g o y:Nat)(k at':Nat)(E:Int)(hx:E<2147483648/\ -2147483648<=E)(v0 v1:Value)(w:World)(A:w.cell? ⟨M,4,none⟩=some (.slice (some ⟨NB,0,none⟩) h nc))(ha:at'<h)(D:w.cell? ⟨NB,at',none⟩=some (.slice (some ⟨g,0,none⟩) o y))(G:k<o)(I:w.cell? ⟨g,k*2,none⟩=some v0)(U:w.cell? ⟨g,k*2+1,none⟩=some v1)(V:w.frozen? ⟨g,k*2,none⟩=false)(Y:w.frozen? ⟨g,k*2+1,none⟩=false):
  Calls prog 72 #[.pointer (some ⟨M,0,none⟩),.int .i64 k,.int .i64 at',.int .i64 E] w fun e w'=>e=.returned (.tuple #[])/\w'=(w.setCell ⟨g,k*2,none⟩ (.bool true)).setCell ⟨g,k*2+1,none⟩ (.int .i32 E):=by
 have Z:=World.block_lt_of_cell? w _ A;have aa:(at':Int)<(h:Int):=by omega
 have ab:(k:Int)<(o:Int):=by omega
 have q:∀(w:World) (a:Option Addr) (n c r t:Nat),(binOp .eql 158 (.slice a n c) (.slice none r t)).run prog w=.ok (.bool a.isNone) w:=fun w a n c r t=>Lib.run_eql_slice_nil w _ _ a n c r t Tryz.underlying158
 have hw:IntKind.i32.wrap E=E:=by rw[IntKind.wrap_i32];omega
 go_enter func72,ntmps72
 go_wp2_with fail
 (try simp only[Exit.inBlock,Exit.then])
 exact bodyPost_end (v:=.tuple #[]) (by simp[results,Tryz.results72,go_sem]) rfl ⟨rfl,rfl⟩
def nwN(w:World)(NB at' ol k:Nat)(E:Int):World:=(((w.alloc (.cells (madeCells #[.bool false,.int .i32 0] (ol*2)) 160)).drew.setCell ⟨NB,at',none⟩ (.slice (some ⟨w.heap.size,0,none⟩) ol ol)).setCell ⟨w.heap.size,k*2,none⟩ (.bool true)).setCell ⟨w.heap.size,k*2+1,none⟩ (.int .i32 E)
theorem y8n(M NB r nc:Nat)(oso:Option Addr)(oc:Nat)(h:Nat)(ae:h<=200)(k at':Nat)(E:Int)(hx:E<2147483648/\ -2147483648<=E)(w:World)(m0:w.cell? ⟨M,0,none⟩=some (.slice oso h oc))(G:w.cell? ⟨M,4,none⟩=some (.slice (some ⟨NB,0,none⟩) r nc))(ha:at'<r)(cur:Array Value)(t:TypeId)(Y:w.heap[NB]? =some (.cells cur t))(I:cur[at']? =some (.slice none 0 0))(ad:M≠NB)(hk:k<h):
  Calls prog 72 #[.pointer (some ⟨M,0,none⟩),.int .i64 k,.int .i64 at',.int .i64 E] w fun e w'=>e=.returned (.tuple #[])/\w'=nwN w NB at' h k E:=by
 have hm:=World.block_lt_of_cell? w _ G;obtain⟨hn,hf⟩:=Qj Y at' _ I;have ab:=World.block_lt_of_cell? w _ hn;have af:(at':Int)<(r:Int):=by omega
 have ag:(k:Int)<(h:Int):=by omega
 have q:∀(w:World) (a:Option Addr) (n c Z c':Nat),(binOp .eql 158 (.slice a n c) (.slice none Z c')).run prog w=.ok (.bool a.isNone) w:=fun w a n c Z c'=>Lib.run_eql_slice_nil w _ _ a n c Z c' Tryz.underlying158
 have hw:IntKind.i32.wrap E=E:=by rw[IntKind.wrap_i32];omega
 go_enter func72,ntmps72;have HS:Hid (w.drew.cell? ⟨M,4,none⟩=some (.slice (some ⟨NB,0,none⟩) r nc)/\w.drew.cell? ⟨M,0,none⟩=some (.slice oso h oc)):=⟨G,m0⟩;have ah:=y8k h (by omega)
 go_wp2_with fail
 refine Zj 13 (fun X:World=>X.cell? ⟨M,4,none⟩=some (.slice (some ⟨NB,0,none⟩) r nc)/\X.cell? ⟨M,0,none⟩=some (.slice oso h oc)) (by kernel_rfl) HS.out (fun o=> ?_);refine Qz 0 o ?_;refine Qz 1 o ?_;refine Qz 2 o ?_;refine Qz 3 o ?_;refine Qz 4 o ?_;refine Qz 5 o ?_;refine Qz 6 o ?_;refine Qz 7 o ?_;refine Qz 8 o ?_;refine Qz 9 o ?_;refine Qz 10 o ?_
 (refine Qg 11 (fun K y=> ?_);go_simp;replace o:=y8l o ((Below.refl _ w.drew).alloc L0q (.cells (madeCells #[.bool false,.int .i32 0] (h*2)) 160));refine y.out _ _ o ?_;clear y K)
 (try simp only[Act.put,List.setIfInBounds_toArray,List.set_cons_zero,List.set_cons_succ])
 refine Qz 12 o ?_;refine Vw (fun K y=> ?_);obtain⟨X,A⟩:∃X,X=(w.alloc (.cells (madeCells #[.bool false,.int .i32 0] (h*2)) 160)).drew:=⟨_,rfl⟩;have aa:Below w.heap.size w X:=by rw[A];exact((Below.refl _ w).alloc L0q _).drew
 have U:X.heap[NB]? =some (.cells cur t):=(aa.block _ ab).trans Y;have ac:X.heap[w.heap.size]? =some (.cells (madeCells #[.bool false,.int .i32 0] (h*2)) 160):=by rw[A];exact Qx w _ rfl
 obtain⟨x0,x1⟩:=Qj U at' _ I;have x2:=Qq U;obtain⟨V,D⟩:∃V,V=X.setCell ⟨NB,at',none⟩ (.slice (some ⟨w.heap.size,0,none⟩) h h):=⟨_,rfl⟩;have v0:V.cell? ⟨NB,at',none⟩=some (.slice (some ⟨w.heap.size,0,none⟩) h h):=by
  rw[D];refine(Qj (Qk U at' _) at' _ ?_).1;rw[Array.getElem?_setIfInBounds_self_of_lt (Array.getElem?_eq_some_iff.1 I).1]
 have v1:V.cell? ⟨M,4,none⟩=some (.slice (some ⟨NB,0,none⟩) r nc):=by
  have e:V.heap[M]? =X.heap[M]? :=by rw[D];exact Below.heap_setCell _ _ _ _ ad
  exact(z9g e).trans ((aa.cell (p:=⟨M,4,none⟩) hm).trans G)
 have v2:V.heap[w.heap.size]? =some (.cells (madeCells #[.bool false,.int .i32 0] (h*2)) 160):=by rw[D];exact(Below.heap_setCell _ _ _ _ (fun e=>by have e2:w.heap.size=NB:=e;have h3:NB<w.heap.size:=ab;omega)).trans ac
 obtain⟨u0,u1⟩:=z8e (a:=.bool false) (b:=.int .i32 0) hk;obtain⟨y0,y1⟩:=Qj v2 _ _ u0;obtain⟨y2,y3⟩:=Qj v2 _ _ u1;have lv:=Qq v2;have lm:=World.block_lt_of_cell? V _ v1;have ln:=World.block_lt_of_cell? V _ v0;have HV:=hid D;have HX:=hid A;rw[<-A];clear o A aa U ac D hn G m0 Y I HS hf u0 u1 v2
 go_simp
 refine y.out _ _ ?_;clear y K x0 x1 x2;rw[<-HV.out]
 go_wp2_with fail
 (try simp only[Exit.inBlock,Exit.then])
 refine bodyPost_end (v:=.tuple #[]) (by simp[results,Tryz.results72,go_sem]) rfl ⟨rfl,?_⟩;rw[HV.out,HX.out];rfl
def ntc(x:Option (Option Nat)):Bool×Int:=match x with|none=>(false,0)|some e=>(true,enE e)
def ntS(ol:Nat)(g:Option Nat):Value:=match g with|none=>.slice none 0 0|some g=>.slice (some ⟨g,0,none⟩) ol ol
structure NtM (ol n:Nat) (NB B:Nat) (X:Nat->Prop) (N:Nt) (G:Nat->Option Nat) (W:World):Prop where
 nb:∃cur,W.heap[NB]? =some (.cells cur 158)/\∀i,i<=n->cur[i]? =some (ntS ol (G i))
 no:∀i,i<=n->G i=none->∀k,N k i=none
 so:∀i,i<=n->∀g,G i=some g->B<=g/\¬X g/\g≠NB/\∃cr,W.heap[g]? =some (.cells cr 160)/\∀k:Nat,k<ol->cr[k*2]? =some (.bool (ntc (N k i)).1)/\cr[k*2+1]? =some (.int .i32 (ntc (N k i)).2)
 inj:∀i j g,i<=n->j<=n->G i=some g->G j=some g->i=j
theorem NtM.keep{t n NB B:Nat}{X y:Nat->Prop}{N:Nt}{G:Nat->Option Nat}{W W':World}(h:NtM t n NB B X N G W)(A:∀g,(g=NB∨∃i,i<=n/\G i=some g)->W'.heap[g]? =W.heap[g]?)(D:∀g,(∃i,i<=n/\G i=some g)->¬y g):NtM t n NB B y N G W':=by
 obtain⟨cur,E,I⟩:=h.nb;refine⟨⟨cur,(A _ (.inl rfl)).trans E,I⟩,h.no,fun i o g r=> ?_,h.inj⟩;obtain⟨a,b,c,U,d,e⟩:=h.so i o g r;exact⟨a,D g ⟨i,o,r⟩,c,U,(A _ (.inr ⟨i,o,r⟩)).trans d,e⟩
theorem NtM.below{t n NB B:Nat}{X:Nat->Prop}{N:Nt}{G:Nat->Option Nat}{W W':World}(h:NtM t n NB B X N G W)(y:Below W.heap.size W W'):NtM t n NB B X N G W':=by
 refine h.keep (fun g o=> ?_) (fun g o=> ?_)
 ·rcases o with rfl|⟨i,r,o⟩
  ·obtain⟨cur,A,_⟩:=h.nb
   exact y.block _ (Qq A)
  ·obtain⟨_,_,_,D,d,_⟩:=h.so i r g o
   exact y.block _ (Qq d)
 ·obtain⟨i,r,o⟩:=o
  exact(h.so i r g o).2.1
theorem y8o{n:Nat}(o:n<=4096){x:Option (Option Nat)}(h:∀e,x=some (some e)->e<=n):(ntc x).2<2147483648/\ -2147483648<=(ntc x).2:=by
 cases x with
 |none=>exact⟨by decide,by decide⟩
 |some e=>
  cases e with
  |none=>exact⟨by decide,by decide⟩
  |some e=>
   have:=h e rfl;show((e:Nat):Int)<_/\_<=((e:Nat):Int);omega
theorem y8p{o n NB B M:Nat}{X:Nat->Prop}{N:Nt}{G:Nat->Option Nat}{w:World}(h:NtM o n NB B X N G w)(E:n<=4096)(I:∀k i e,N k i=some (some e)->e<=n)(nc:Nat)(A:w.cell? ⟨M,4,none⟩=some (.slice (some ⟨NB,0,none⟩) (n+1) nc))(k i:Nat)(t:k<o)(y:i<=n):
  Calls prog 41 #[.pointer (some ⟨M,0,none⟩),.int .i64 k,.int .i64 i] w fun e w'=>e=.returned (.tuple #[.int .i64 (ntc (N k i)).2,.bool (ntc (N k i)).1])/\Below w.heap.size w w':=by
 obtain⟨cur,D,U⟩:=h.nb;have r:=U i y;cases hg:G i with
 |none=>
  rw[hg]at r;have:=h.no i y hg k;rw[this];exact y7K M NB (n+1) nc k i w A (by omega) (Qj D i _ r).1
 |some g=>
  rw[hg]at r;obtain⟨_,_,_,Z,d,e⟩:=h.so i y g hg;exact y7L M NB (n+1) nc g o o k i _ _ (y8o E (fun V Y=>I k i V Y)) w A (by omega) (Qj D i _ r).1 t (Qj d _ _ (e k t).1).1 (Qj d _ _ (e k t).2).1
theorem Bd(N:Nt)(k:Int)(i:Nat)(e:Option Nat):Zv N k i e k i=some e:=if_pos ⟨rfl,rfl⟩
theorem Kw{N:Nt}{k k':Int}{i i':Nat}{e:Option Nat}(h:¬(k'=k/\i'=i)):Zv N k i e k' i'=N k' i':=if_neg h
theorem z8f{r:Nat}{o:Array Value}{N:Nt}{i k:Nat}{e:Option Nat}(t:k<r)(h:∀k:Nat,k<r->o[k*2]? =some (.bool (ntc (N k i)).1)/\o[k*2+1]? =some (.int .i32 (ntc (N k i)).2)):∀k':Nat,k'<r->((o.setIfInBounds (k*2) (.bool true)).setIfInBounds (k*2+1) (.int .i32 (enE e)))[k'*2]? =some (.bool (ntc (Zv N k i e k' i)).1)/\((o.setIfInBounds (k*2) (.bool true)).setIfInBounds (k*2+1) (.int .i32 (enE e)))[k'*2+1]? =some (.int .i32 (ntc (Zv N k i e k' i)).2):=by
 intro k' y;have A:=(Array.getElem?_eq_some_iff.1 (h k t).1).1;have D:=(Array.getElem?_eq_some_iff.1 (h k t).2).1;by_cases he:k'=k
 ·subst he
  rw[Bd];constructor
  ·rw[Array.getElem?_setIfInBounds_ne (by omega),Array.getElem?_setIfInBounds_self_of_lt A];rfl
  ·rw[Array.getElem?_setIfInBounds_self_of_lt (by rw[Array.size_setIfInBounds];exact D)];rfl
 ·rw[Kw (fun E=>he (by have:=E.1;omega))]
  constructor
  ·rw[Array.getElem?_setIfInBounds_ne (by omega),Array.getElem?_setIfInBounds_ne (by omega)];exact(h k' y).1
  ·rw[Array.getElem?_setIfInBounds_ne (by omega),Array.getElem?_setIfInBounds_ne (by omega)];exact(h k' y).2
theorem y8q{o n NB B M:Nat}{X:Nat->Prop}{N:Nt}{G:Nat->Option Nat}{w:World}(h:NtM o n NB B X N G w)(aj:o<=200)(hB:B<=w.heap.size)(ak:B<=NB)(hX:∀g,X g->g<w.heap.size)(al:M≠NB)(oso:Option Addr)(oc nc:Nat)(m0:w.cell? ⟨M,0,none⟩=some (.slice oso o oc))(m4:w.cell? ⟨M,4,none⟩=some (.slice (some ⟨NB,0,none⟩) (n+1) nc))(k i:Nat)(I:k<o)(hi:i<=n)(e:Option Nat)(he:∀x,e=some x->x<=4096):
  Calls prog 72 #[.pointer (some ⟨M,0,none⟩),.int .i64 k,.int .i64 i,.int .i64 (enE e)] w fun e' w'=>e'=.returned (.tuple #[])/\Below B w w'/\(∀g,g<w.heap.size->g≠NB->(∀i,i<=n->G i≠some g)->w'.heap[g]? =w.heap[g]?)/\∃G',NtM o n NB B X (Zv N k i e) G' w':=by
 have hE:enE e<2147483648/\ -2147483648<=enE e:=by
  cases e with
  |none=>exact⟨by decide,by decide⟩
  |some x=>have:=he x rfl;show((x:Nat):Int)<_/\_<=((x:Nat):Int);omega
 obtain⟨cur,Z,h2⟩:=h.nb;have aa:=h2 i hi;cases A:G i with
 |some g=>
  rw[A]at aa;obtain⟨ag,az,am,cr,d,ee⟩:=h.so i hi g A;obtain⟨q0,q1⟩:=Qj d _ _ (ee k I).1;obtain⟨q2,q3⟩:=Qj d _ _ (ee k I).2;refine(y8m M NB (n+1) nc g o o k i (enE e) hE _ _ w m4 (by omega) (Qj Z i _ aa).1 I q0 q2 q1 q3).mono ?_;rintro e' w' ⟨rfl,rfl⟩;have U:∀b,b≠g->((w.setCell ⟨g,k*2,none⟩ (.bool true)).setCell ⟨g,k*2+1,none⟩ (.int .i32 (enE e))).heap[b]? =w.heap[b]? :=fun b r=>(Below.heap_setCell _ _ _ _ r).trans (Below.heap_setCell _ _ _ _ r)
  refine⟨rfl,((Below.refl B w).setCell (p:=⟨g,k*2,none⟩) ag _).setCell (p:=⟨g,k*2+1,none⟩) ag _,fun b _ _ ao=>U b (fun t=>ao i hi (by rw[t];exact A)),G,?_⟩;refine⟨⟨cur,(U _ (fun t=>am t.symm)).trans Z,h2⟩,fun j y E k'=> ?_,fun j y b r=> ?_,h.inj⟩
  ·rw[Kw (fun t=>by rw[t.2,A]at E;cases E)]
   exact h.no j y E k'
  ·obtain⟨a1,a2,a3,cb,a4,a5⟩:=h.so j y b r
   refine⟨a1,a2,a3,?_⟩;by_cases hji:j=i
   ·subst hji
    rw[A]at r;cases r;rw[d]at a4;cases a4;exact⟨_,Qk (Qk d _ _) _ _,z8f I ee⟩
   ·refine⟨cb,(U b (fun t=>hji (h.inj j i g y hi (by rw[r,t]) A))).trans a4,fun k' ab=> ?_⟩
    rw[Kw (fun t=>hji t.2)];exact a5 k' ab
 |none=>
  rw[A]at aa;have ap:=Qq Z;refine(y8n M NB (n+1) nc oso oc o aj k i (enE e) hE w m0 m4 (by omega) cur _ Z aa al I).mono ?_;rintro e' w' ⟨rfl,rfl⟩;obtain⟨s,hs⟩:∃s,s=w.heap.size:=⟨_,rfl⟩;obtain⟨V,ah⟩:∃V,V=madeCells #[.bool false,.int .i32 0] (o*2):=⟨_,rfl⟩;have ae:s≠NB:=by omega
  have e4:nwN w NB i o k (enE e)=(((w.alloc (.cells V 160)).drew.setCell ⟨NB,i,none⟩ (.slice (some ⟨s,0,none⟩) o o)).setCell ⟨s,k*2,none⟩ (.bool true)).setCell ⟨s,k*2+1,none⟩ (.int .i32 (enE e)):=by unfold nwN;rw[ah,hs]
  rw[e4];obtain⟨D,af⟩:∃D,D=(w.alloc (.cells V 160)).drew:=⟨_,rfl⟩;rw[<-af];have ac:Below w.heap.size w D:=by rw[af];exact((Below.refl _ w).alloc L0q _).drew
  have aq:D.heap[s]? =some (.cells V 160):=by rw[af,hs];exact Qx w _ rfl
  have ar:D.heap[NB]? =some (.cells cur 158):=(ac.block _ ap).trans Z;have U:∀b,b<w.heap.size->b≠NB->(((D.setCell ⟨NB,i,none⟩ (.slice (some ⟨s,0,none⟩) o o)).setCell ⟨s,k*2,none⟩ (.bool true)).setCell ⟨s,k*2+1,none⟩ (.int .i32 (enE e))).heap[b]? =w.heap[b]? :=fun b r au=>(Below.heap_setCell _ _ _ _ (show b≠s by omega)).trans ((Below.heap_setCell _ _ _ _ (show b≠s by omega)).trans ((Below.heap_setCell _ _ _ _ au).trans (ac.block _ r)))
  have av:(((D.setCell ⟨NB,i,none⟩ (.slice (some ⟨s,0,none⟩) o o)).setCell ⟨s,k*2,none⟩ (.bool true)).setCell ⟨s,k*2+1,none⟩ (.int .i32 (enE e))).heap[NB]? =some (.cells (cur.setIfInBounds i (.slice (some ⟨s,0,none⟩) o o)) 158):=(Below.heap_setCell _ _ _ _ (Ne.symm ae)).trans ((Below.heap_setCell _ _ _ _ (Ne.symm ae)).trans (Qk ar _ _));have aw:(((D.setCell ⟨NB,i,none⟩ (.slice (some ⟨s,0,none⟩) o o)).setCell ⟨s,k*2,none⟩ (.bool true)).setCell ⟨s,k*2+1,none⟩ (.int .i32 (enE e))).heap[s]? =some (.cells ((V.setIfInBounds (k*2) (.bool true)).setIfInBounds (k*2+1) (.int .i32 (enE e))) 160):=Qk (Qk ((Below.heap_setCell _ _ _ _ ae).trans aq) _ _) _ _;have ax:Below B w (((D.setCell ⟨NB,i,none⟩ (.slice (some ⟨s,0,none⟩) o o)).setCell ⟨s,k*2,none⟩ (.bool true)).setCell ⟨s,k*2+1,none⟩ (.int .i32 (enE e))):=(((ac.mono hB).setCell (p:=⟨NB,i,none⟩) ak _).setCell (p:=⟨s,k*2,none⟩) (by show B<=s;omega) _).setCell (p:=⟨s,k*2+1,none⟩) (by show B<=s;omega) _;refine⟨rfl,ax,fun b ac ay _=>U b ac ay,fun j=>if j=i then some s else G j,?_⟩;have ai:∀j,j<=n->∀g,G j=some g->g<w.heap.size:=fun j y g A=>by
   obtain⟨_,_,_,cr,d,_⟩:=h.so j y g A;exact Qq d
  refine⟨⟨_,av,fun j y=> ?_⟩,fun j y E k'=> ?_,fun j y b r=> ?_,fun a b g ha r ad Y=> ?_⟩
  ·by_cases hji:j=i
   ·subst hji
    rw[if_pos rfl,Array.getElem?_setIfInBounds_self_of_lt (Array.getElem?_eq_some_iff.1 aa).1];rfl
   ·rw[if_neg hji,Array.getElem?_setIfInBounds_ne (Ne.symm hji)]
    exact h2 j y
  ·by_cases hji:j=i
   ·rw[if_pos hji]at E;cases E
   ·rw[if_neg hji]at E
    rw[Kw (fun t=>hji t.2)];exact h.no j y E k'
  ·by_cases hji:j=i
   ·rw[if_pos hji]at r
    cases r;subst hji;refine⟨by omega,fun hx=>absurd (hX _ hx) (by omega),ae,_,aw,z8f (N:=N) I fun k' ab=> ?_⟩;rw[h.no j y A k',ah];exact z8e ab
   ·rw[if_neg hji]at r
    obtain⟨a1,a2,a3,cb,a4,a5⟩:=h.so j y b r;refine⟨a1,a2,a3,cb,(U b (Qq a4) a3).trans a4,fun k' ab=> ?_⟩;rw[Kw (fun t=>hji t.2)];exact a5 k' ab
  ·by_cases h5:a=i
   ·rw[if_pos h5]at ad
    cases ad;by_cases h6:b=i
    ·rw[h5,h6]
    ·rw[if_neg h6]at Y
     have:=ai b r _ Y;omega
   ·rw[if_neg h5]at ad
    by_cases h6:b=i
    ·rw[if_pos h6]at Y
     cases Y;have:=ai a ha _ ad;omega
    ·rw[if_neg h6]at Y
     exact h.inj a b g ha r ad Y
section
theorem z1g{p:Nat->Prop}(h:∃n,p n):∃n,p n/\∀m,p m->n<=m:=by
 obtain⟨n,r⟩:=h
 induction n using Nat.strongRecOn with
 |_ n ih=>
  by_cases h:∃m,m<n/\p m
  ·obtain⟨m,o,t⟩:=h
   exact ih m o t
  ·exact⟨n,r,fun m o=>Nat.le_of_not_lt fun hl=>h ⟨m,hl,o⟩⟩
open Classical in
theorem y8r{P:Program}{a:Act}{w:World}{Q:Exit->Act->World->Prop}{c rest:Code}(l:Nat)(J:Nat->Act->World->Prop)(A:findLabel c l=some rest)
  (first:c.wp P (Exit.jump l (fun a w=>∃q,J q a w) Q) a w)
  (D:∀q a w,J q a w->rest.wp P (Exit.jump l (fun t w'=>∃o,o<q/\J o t w') Q) a w):(Code.scope c).wp P Q a w:=by
 refine wp_scope_jumps l (fun a w=>∃q,J q a w) (fun a w=>if h:∃q,J q a w then Classical.choose (z1g h)else 0) A first fun a w y=> ?_
 refine Code.wp_mono (fun e t w' h=> ?_) (D _ a w (Classical.choose_spec (z1g y)).1);cases e with
 |goto l'=>
  obtain⟨rfl,o,E,r⟩:=h;refine⟨rfl,⟨o,r⟩,?_⟩;rw[dif_pos y,dif_pos ⟨o,r⟩];exact Nat.lt_of_le_of_lt ((Classical.choose_spec (z1g ⟨o,r⟩)).2 _ r) E
 |normal=>exact h
 |exit id=>exact h
 |ret=>exact h
 |panic ch=>exact h
 |outgrown=>exact h
def wqC(x:Wq):List Value:=[.int .i64 x.1,.int .i64 (x.2.1:Nat),.int .i64 (x.2.2.1:Nat),.int .i64 (x.2.2.2:Nat)]
def wqV:List Wq->List Value
 |[]=>[]
 |x::r=>wqV r++wqC x
theorem Bm:∀S:List Wq,(wqV S).length=S.length*4
 |[]=>rfl
 |x::r=>by rw[wqV,List.length_append,Bm r,List.length_cons,Nat.add_mul];rfl
section
variable (ops:List Ox) (ns:List ByteArray) (ro:List Int) (T:ByteArray) (mo:Nat) (oso nso rso:Option Addr) (oc nc rc M NB:Nat) (w0:World)
@[reducible] def mtO (v:Value) (c:Nat):Obj:=.cells #[.slice oso ops.length oc,.slice nso ns.length nc,.slice rso ro.length rc,.string T,.slice (some ⟨NB,0,none⟩) (T.size+1) (T.size+1),.int .i64 c,.int .i64 mo,v] 99
structure MtM (N:Nt) (c:Nat) (S:List Wq) (v:Value) (W:World):Prop where
 pg:PgM ops ns ro oso nso rso w0
 be:Below w0.heap.size w0 W
 lm:w0.heap.size<=M
 ln:w0.heap.size<=NB
 ne:M≠NB
 m:W.heap[M]? =some (mtO ops ns ro T mo oso nso rso oc nc rc NB v c)
 ow:W.ownsRow w0.heap.size 153 4 v S.length (wqV S)
 nm:v.ownBlock≠some M
 nn:v.ownBlock≠some NB
 nt:∃G,NtM ops.length T.size NB w0.heap.size (fun g=>g=M∨v.ownBlock=some g) N G W
end
section
variable {ops:List Ox} {ns:List ByteArray} {ro:List Int} {T:ByteArray} {mo:Nat} {oso nso rso:Option Addr} {oc nc rc M NB:Nat} {w0:World} {N:Nt} {c:Nat} {S:List Wq} {v:Value} {W W':World}
theorem MtM.below(h:MtM ops ns ro T mo oso nso rso oc nc rc M NB w0 N c S v W)(o:Below W.heap.size W W'):MtM ops ns ro T mo oso nso rso oc nc rc M NB w0 N c S v W':=by
 obtain⟨G,r⟩:=h.nt;exact⟨h.pg,h.be.trans (o.mono h.be.size),h.lm,h.ln,h.ne,(o.block _ (Qq h.m)).trans h.m,Yf h.ow o,h.nm,h.nn,G,r.below o⟩
theorem MtM.pgw(h:MtM ops ns ro T mo oso nso rso oc nc rc M NB w0 N c S v W):PgM ops ns ro oso nso rso W:=h.pg.below h.be
theorem MtM.note(h:MtM ops ns ro T mo oso nso rso oc nc rc M NB w0 N c S v W)(hT:T.size<=4096)(k i:Nat)(I:k<ops.length)(U:i<=T.size)(e:Option Nat)(V:∀x,e=some x->x<=4096):
  Calls prog 72 #[.pointer (some ⟨M,0,none⟩),.int .i64 k,.int .i64 i,.int .i64 (enE e)] W fun r w'=>r=.returned (.tuple #[])/\W.heap.size<=w'.heap.size/\MtM ops ns ro T mo oso nso rso oc nc rc M NB w0 (Zv N k i e) c S v w':=by
 obtain⟨G,t⟩:=h.nt;have Y:=h.be.size;have y:∀g,(g=M∨v.ownBlock=some g)->g<W.heap.size:=fun g o=>by
  rcases o with rfl|o
  ·exact Qq h.m
  ·exact(h.ow.lt _ o).2
 refine(y8q t h.pg.l2 Y h.ln y h.ne oso oc (T.size+1) (Qj h.m 0 _ rfl).1 (Qj h.m 4 _ rfl).1 k i I U e V).mono ?_;rintro r w' ⟨rfl,A,Z,G',aa⟩;have D:∀g,(g=M∨v.ownBlock=some g)->w'.heap[g]? =W.heap[g]? :=fun g o=>Z g (y g o) (fun E=>by
  rcases o with rfl|o
  ·exact h.ne E
  ·exact h.nn (by rw[o,E])) fun j hj ab=>(t.so j hj g ab).2.1 o
 exact⟨rfl,A.size,h.pg,h.be.trans A,h.lm,h.ln,h.ne,(D M (.inl rfl)).trans h.m,Vm h.ow (fun g o=>D g (.inr o)),h.nm,h.nn,G',aa⟩
theorem MtM.noted(h:MtM ops ns ro T mo oso nso rso oc nc rc M NB w0 N c S v W)(o:T.size<=4096)(r:∀k i e,N k i=some (some e)->e<=T.size)(k i:Nat)(t:k<ops.length)(y:i<=T.size):
  Calls prog 41 #[.pointer (some ⟨M,0,none⟩),.int .i64 k,.int .i64 i] W fun e w'=>e=.returned (.tuple #[.int .i64 (ntc (N k i)).2,.bool (ntc (N k i)).1])/\Below W.heap.size W w':=by
 obtain⟨G,A⟩:=h.nt;exact y8p A o r (T.size+1) (Qj h.m 4 _ rfl).1 k i t y
theorem MtM.count(h:MtM ops ns ro T mo oso nso rso oc nc rc M NB w0 N c S v W)(r:Nat):MtM ops ns ro T mo oso nso rso oc nc rc M NB w0 N r S v (W.setCell ⟨M,5,none⟩ (.int .i64 r)):=by
 obtain⟨G,t⟩:=h.nt;have E:∀g,g≠M->(W.setCell ⟨M,5,none⟩ (.int .i64 r)).heap[g]? =W.heap[g]? :=fun g o=>Below.heap_setCell _ _ _ _ o
 refine⟨h.pg,h.be.setCell (p:=⟨M,5,none⟩) h.lm _,h.lm,h.ln,h.ne,Qk h.m 5 _,Vm h.ow (fun g o=>E g (fun y=>h.nm (by rw[o,y]))),h.nm,h.nn,G,t.keep (fun g o=>E g ?_) (fun g o=> ?_)⟩
 ·rcases o with rfl|⟨j,A,D⟩
  ·exact Ne.symm h.ne
  ·exact fun y=>(t.so j A g D).2.1 (.inl y)
 ·obtain⟨j,A,D⟩:=o
  exact(t.so j A g D).2.1
theorem MtM.push{t:World}{g y:Nat}{x:Wq}(h:MtM ops ns ro T mo oso nso rso oc nc rc M NB w0 N c S v W)(Z:t.ownsRow w0.heap.size 153 4 (.slice (some ⟨g,0,none⟩) (S.length+1) y) (S.length+1) (wqV S++wqC x))(D:W.grownBy t v.ownBlock)(o:v.ownBlock=some g∨W.heap.size<=g):MtM ops ns ro T mo oso nso rso oc nc rc M NB w0 N c (x::S) (.slice (some ⟨g,0,none⟩) (S.length+1) y) (t.setCell ⟨M,7,none⟩ (.slice (some ⟨g,0,none⟩) (S.length+1) y)):=by
 obtain⟨G,A⟩:=h.nt;have lM:=Qq h.m;obtain⟨cur,aa,_⟩:=A.nb;have lN:=Qq aa;have V:g≠M:=fun e=>by
  rcases o with o|o
  ·exact h.nm (by rw[o,e])
  ·omega
 have gN:g≠NB:=fun e=>by
  rcases o with o|o
  ·exact h.nn (by rw[o,e])
  ·omega
 have Y:∀b,b<W.heap.size->b≠M->v.ownBlock≠some b->(t.setCell ⟨M,7,none⟩ (.slice (some ⟨g,0,none⟩) (S.length+1) y)).heap[b]? =W.heap[b]? :=fun b r ab ac=>(Below.heap_setCell _ _ _ _ ab).trans (D.block b r (fun e=>ac e.symm))
 have ad:t.heap[M]? =some (mtO ops ns ro T mo oso nso rso oc nc rc NB v c):=(D.block M lM (fun e=>h.nm e.symm)).trans h.m;refine⟨h.pg,(h.be.grown D h.be.size (fun b r=>(h.ow.lt b r).1)).setCell (p:=⟨M,7,none⟩) h.lm _,h.lm,h.ln,h.ne,Qk ad 7 _,Vm Z (fun b r=>Below.heap_setCell _ _ _ _ (fun e=> ?_)),fun e=> ?_,fun e=> ?_,G,A.keep (fun b r=> ?_) (fun b r=> ?_)⟩
 ·have E:g=b:=Option.some.inj r
  exact V (E.trans e)
 ·exact V (Option.some.inj e)
 ·exact gN (Option.some.inj e)
 ·rcases r with rfl|⟨j,I,U⟩
  ·exact Y _ lN (Ne.symm h.ne) h.nn
  ·obtain⟨_,a2,_,cr,a4,_⟩:=A.so j I b U
   exact Y b (Qq a4) (fun e=>a2 (.inl e)) (fun e=>a2 (.inr e))
 ·obtain⟨j,I,U⟩:=r
  obtain⟨_,a2,_,cr,a4,_⟩:=A.so j I b U;rintro(e|e)
  ·exact a2 (.inl e)
  ·have E:g=b:=Option.some.inj e
   rcases o with o|o
   ·exact a2 (.inr (by rw[o,E]))
   ·have:=Qq a4;omega
end
end
section
theorem y8s(A:List Value)(a b c d h o r t:Value)(n:Nat)(y:A.length=n):((((A++[a,b,c,d]).set n h).set (n+1) o).set (n+2) r).set (n+3) t=A++[h,o,r,t]:=by
 subst y;simp
section
variable {ops:List Ox} {ns:List ByteArray} {ro:List Int} {T:ByteArray} {mo:Nat} {oso nso rso:Option Addr} {oc nc rc M NB:Nat} {w0:World} {N:Nt} {c:Nat} {S:List Wq} {v:Value} {W W':World}
theorem MtM.shape{x:Wq}{r:List Wq}(h:MtM ops ns ro T mo oso nso rso oc nc rc M NB w0 N c (x::r) v W):∃g o,v=.slice (some ⟨g,0,none⟩) (r.length+1) o/\g≠M/\g≠NB/\g<W.heap.size/\(∀j:Nat,∀u,(wqC x)[j]? =some u->W.cell? ⟨g,r.length*4+j,none⟩=some u)/\∀j,W.frozen? ⟨g,j,none⟩=false:=by
 obtain⟨g,o,rfl⟩:=ownsRow_succ h.ow;have t:W.ownsRow w0.heap.size 153 4 (.slice (some ⟨g,0,none⟩) (r.length+1) o) (r.length+1) (wqV r++wqC x):=h.ow;refine⟨g,o,rfl,fun e=>h.nm (by rw[e];rfl),fun e=>h.nn (by rw[e];rfl),(t.lt g rfl).2,fun j u y=> ?_,fun j=>t.frozenAt j⟩;have A:j<4:=(List.getElem?_eq_some_iff.1 y).1;rw[t.cellAt (r.length*4+j) (by omega),List.getElem?_append_right (by rw[Bm];omega),Bm,Nat.add_sub_cancel_left];exact y
theorem MtM.swap{x x':Wq}{r:List Wq}{g y:Nat}(h:MtM ops ns ro T mo oso nso rso oc nc rc M NB w0 N c (x::r) (.slice (some ⟨g,0,none⟩) (r.length+1) y) W):MtM ops ns ro T mo oso nso rso oc nc rc M NB w0 N c (x'::r) (.slice (some ⟨g,0,none⟩) (r.length+1) y) ((((W.setCell ⟨g,r.length*4,none⟩ (.int .i64 x'.1)).setCell ⟨g,r.length*4+1,none⟩ (.int .i64 (x'.2.1:Nat))).setCell ⟨g,r.length*4+2,none⟩ (.int .i64 (x'.2.2.1:Nat))).setCell ⟨g,r.length*4+3,none⟩ (.int .i64 (x'.2.2.2:Nat))):=by
 obtain⟨G,A⟩:=h.nt;have U:W.ownsRow w0.heap.size 153 4 (.slice (some ⟨g,0,none⟩) (r.length+1) y) (r.length+1) (wqV r++wqC x):=h.ow;have t:=(U.lt g rfl).1;have Y:M≠g:=fun e=>h.nm (by rw[e];rfl)
 have Z:NB≠g:=fun e=>h.nn (by rw[e];rfl)
 have V:∀b,b≠g->((((W.setCell ⟨g,r.length*4,none⟩ (.int .i64 x'.1)).setCell ⟨g,r.length*4+1,none⟩ (.int .i64 (x'.2.1:Nat))).setCell ⟨g,r.length*4+2,none⟩ (.int .i64 (x'.2.2.1:Nat))).setCell ⟨g,r.length*4+3,none⟩ (.int .i64 (x'.2.2.2:Nat))).heap[b]? =W.heap[b]? :=fun b o=>(Below.heap_setCell _ _ _ _ o).trans ((Below.heap_setCell _ _ _ _ o).trans ((Below.heap_setCell _ _ _ _ o).trans (Below.heap_setCell _ _ _ _ o)))
 have D:=(((((U.stored (r.length*4) (.int .i64 x'.1)).1).stored (r.length*4+1) (.int .i64 (x'.2.1:Nat))).1.stored (r.length*4+2) (.int .i64 (x'.2.2.1:Nat))).1.stored (r.length*4+3) (.int .i64 (x'.2.2.2:Nat))).1;have e:=y8s (wqV r) (.int .i64 x.1) (.int .i64 (x.2.1:Nat)) (.int .i64 (x.2.2.1:Nat)) (.int .i64 (x.2.2.2:Nat)) (.int .i64 x'.1) (.int .i64 (x'.2.1:Nat)) (.int .i64 (x'.2.2.1:Nat)) (.int .i64 (x'.2.2.2:Nat)) (r.length*4) (Bm r);unfold wqC at D;rw[e]at D;refine⟨h.pg,(((h.be.setCell (p:=⟨g,r.length*4,none⟩) t _).setCell (p:=⟨g,r.length*4+1,none⟩) t _).setCell (p:=⟨g,r.length*4+2,none⟩) t _).setCell (p:=⟨g,r.length*4+3,none⟩) t _,h.lm,h.ln,h.ne,(V M Y).trans h.m,D,h.nm,h.nn,G,A.keep (fun b o=>V b ?_) (fun b o=> ?_)⟩
 ·rcases o with rfl|⟨j,E,I⟩
  ·exact Z
  ·exact fun e=>(A.so j E b I).2.1 (.inr (by rw[e];rfl))
 ·obtain⟨j,E,I⟩:=o
  exact(A.so j E b I).2.1
theorem MtM.pop{x:Wq}{r:List Wq}{g t:Nat}(h:MtM ops ns ro T mo oso nso rso oc nc rc M NB w0 N c (x::r) (.slice (some ⟨g,0,none⟩) (r.length+1) t) W):MtM ops ns ro T mo oso nso rso oc nc rc M NB w0 N c r (.slice (some ⟨g,0,none⟩) r.length t) (W.setCell ⟨M,7,none⟩ (.slice (some ⟨g,0,none⟩) r.length t)):=by
 obtain⟨G,y⟩:=h.nt;have I:W.ownsRow w0.heap.size 153 4 (.slice (some ⟨g,0,none⟩) (r.length+1) t) (r.length+1) (wqV r++wqC x):=h.ow;have U:g≠M:=fun e=>h.nm (by rw[e];rfl)
 have E:∀b,b≠M->(W.setCell ⟨M,7,none⟩ (.slice (some ⟨g,0,none⟩) r.length t)).heap[b]? =W.heap[b]? :=fun b o=>Below.heap_setCell _ _ _ _ o
 refine⟨h.pg,h.be.setCell (p:=⟨M,7,none⟩) h.lm _,h.lm,h.ln,h.ne,Qk h.m 7 _,Vm (ownsRow_pop (Bm r) I) (fun b o=>E b ?_),h.nm,h.nn,G,y.keep (fun b o=>E b ?_) (fun b o=> ?_)⟩
 ·have V:g=b:=Option.some.inj o
  rw[<-V];exact U
 ·rcases o with rfl|⟨j,A,D⟩
  ·exact Ne.symm h.ne
  ·exact fun e=>(y.so j A b D).2.1 (.inl e)
 ·obtain⟨j,A,D⟩:=o
  exact(y.so j A b D).2.1
end
structure OpW (ops:List Ox) (ro:List Int):Prop where
 rf:∀k (hk:k<ops.length),ops[k].1=5->∀x∈ops[k].2.2.2,0<=x/\x<(ro.length:Int)
 ot:∀k (hk:k<ops.length),ops[k].1≠5->∀x∈ops[k].2.2.2,0<=x/\x<(ops.length:Int)
 rt:∀x∈ro,0<=x/\x<(ops.length:Int)
 cl:∀k (hk:k<ops.length),ops[k].1=3->(0<=ops[k].2.2.1.1/\ops[k].2.2.1.1<18446744073709551616)/\(0<=ops[k].2.2.1.2.1/\ops[k].2.2.1.2.1<18446744073709551616)/\(0<=ops[k].2.2.1.2.2.1/\ops[k].2.2.1.2.2.1<18446744073709551616)/\(0<=ops[k].2.2.1.2.2.2/\ops[k].2.2.1.2.2.2<18446744073709551616)
theorem OpW.part{ops:List Ox}{ro:List Int}(h:OpW ops ro){k:Nat}(o:k<ops.length){j:Nat}(r:j<ops[k].2.2.2.length):∃k':Nat,prt ro ops[k] j=(k':Int)/\k'<ops.length:=by
 have y:ops[k].2.2.2.getD j 0=ops[k].2.2.2[j]:=by rw[List.getD_eq_getElem?_getD,List.getElem?_eq_getElem r];rfl
 unfold prt;rw[y];have t:ops[k].2.2.2[j]∈ops[k].2.2.2:=List.getElem_mem r;by_cases h5:ops[k].1=5
 ·rw[if_pos h5]
  obtain⟨A,D⟩:=h.rf k o h5 _ t;have hl:(ops[k].2.2.2[j]).toNat<ro.length:=by omega
  rw[List.getD_eq_getElem?_getD,List.getElem?_eq_getElem hl];obtain⟨a,b⟩:=h.rt _ (List.getElem_mem hl);exact⟨(ro[(ops[k].2.2.2[j]).toNat]).toNat,by show ro[(ops[k].2.2.2[j]).toNat]=_;omega,by omega⟩
 ·rw[if_neg h5]
  obtain⟨a,b⟩:=h.ot k o h5 _ t;exact⟨(ops[k].2.2.2[j]).toNat,by omega,by omega⟩
def WqR(ops:List Ox)(n:Nat)(x:Wq):Prop:=∃(k:Nat) (hk:k<ops.length),x.1=(k:Int)/\x.2.1<=n/\x.2.2.1<ops[k].2.2.2.length/\x.2.2.2<=n
theorem z8g{T:ByteArray}{o:Ox}{i x:Nat}(t:i<=T.size)(h:aln T o i=some x):x<=T.size:=by
 unfold aln at h;have one:∀{b:Bool} {y:Nat},Zp b y=some x->b=true/\y=x:=fun{b y} A=>by
  cases b with
  |false=>cases A
  |true=>exact⟨rfl,Option.some.inj A⟩
 split at h
 ·obtain⟨r,rfl⟩:=one h
  exact Lf t r
 ·split at h
  ·obtain⟨r,rfl⟩:=one h
   exact Bw r
  ·split at h
   ·obtain⟨r,rfl⟩:=one h
    exact Bw r
   ·split at h
    ·cases h;exact t
    ·cases h
theorem y8t{o:Ox}{w:Wq}{e:Option Nat}{n x:Nat}(r:w.2.1<=n)(A:w.2.2.2<=n)(t:∀y,e=some y->y<=n)(h:otc o w e=some x):x<=n:=by
 have one:∀{b:Bool} {y:Nat},Zp b y=some x->y=x:=fun{b y} D=>by
  cases b with
  |false=>cases D
  |true=>exact Option.some.inj D
 unfold otc at h;split at h
 ·cases e with
  |none=>cases h;exact r
  |some y=>cases h;exact t _ rfl
 ·split at h
  ·cases h;exact A
  ·split at h
   ·split at h
    ·cases h;exact A
    ·exact t _ h
   ·split at h
    ·rw[<-one h];exact r
    ·split at h
     ·rw[<-one h];exact r
     ·exact t _ h
theorem y8u{ops:List Ox}{n k:Nat}(I:k<ops.length){f j a:Nat}{e:Option Nat}{w':Wq}(U:WqR ops n ((k:Int),f,j,a))(D:∀y,e=some y->y<=n)(h:nxt ops[k] ((k:Int),f,j,a) e=some w'):WqR ops n w'/\w'.1=(k:Int)/\w'.2.2.1<ops[k].2.2.2.length:=by
 obtain⟨E,ab,o,G,V,ha⟩:=U;have Y:k=E:=by have:(k:Int)=(E:Int):=o;omega
 subst Y;have fin:∀r t:Nat,w'=((k:Int),f,r,t)->r<ops[k].2.2.2.length->t<=n->WqR ops n w'/\w'.1=(k:Int)/\w'.2.2.1<ops[k].2.2.2.length:=fun r t Z o e3=>by
  subst Z;exact⟨⟨k,I,rfl,G,o,e3⟩,rfl,o⟩
 have ac:j<ops[k].2.2.2.length:=V;unfold nxt at h;split at h
 ·cases e with
  |none=>cases h
  |some x=>
   dsimp only at h;split at h
   ·cases h
   ·rename_i A
    have aa:¬j+1=ops[k].2.2.2.length:=A;exact fin (j+1) x (Option.some.inj h).symm (by omega) (D _ rfl)
 ·split at h
  ·cases e with
   |some x=>cases h
   |none=>
    dsimp only at h;split at h
    ·cases h
    ·rename_i A
     have aa:¬j+1=ops[k].2.2.2.length:=A;exact fin (j+1) f (Option.some.inj h).symm (by omega) G
  ·split at h
   ·cases e with
    |none=>cases h
    |some x=>exact fin 0 x (Option.some.inj h).symm (by omega) (D _ rfl)
   ·cases h
end
end Go.Proofs.YtgnkkgcgbeianaaGreatDoor
