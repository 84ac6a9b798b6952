/- Lemmas for the last text. Conditions: those that each names. -/
import Derived.Test.YtgnkkgcgbeianaaGreatDoorVPR1ToT11
import Derived.Test.YtgnkkgcgbeianaaGreatDoorVT13
import Derived.Test.YtgnkkgcgbeianaaGreatDoorVU3ToU7
set_option linter.unusedVariables false
set_option maxRecDepth 100000
set_option maxHeartbeats 8000000
namespace Go.Proofs.YtgnkkgcgbeianaaGreatDoor
open Go.Proofs.Tryz
open Go.RowKit Go.Shelf
variable {x:Rr} {T:ByteArray} {W:World} {sB:Nat}
mutual
def flT(K:ByteArray->Ot):RT->Option Int
 | .mk k T a b c d s p=>if(k=9∨k=10)/\(ofH K s).1=true then some p else flL K s
def flL(K:ByteArray->Ot):List RT->Option Int
 |[]=>none
 |t::r=>match flT K t with
  |some p=>some p
  |none=>flL K r
end
def flG(K:ByteArray->Ot):List Rr->Option Int
 |[]=>none
 |x::r=>match flT K x.2.1 with
  |some p=>some p
  |none=>flG K r
mutual
def fbT(K:ByteArray->Ot):RT->List ByteArray
 | .mk k T a b c d s p=>(if k=5 then [T]else [])++fbL K (decide (k=6)) s
def fbL(K:ByteArray->Ot)(sq:Bool):List RT->List ByteArray
 |[]=>[]
 |t::r=>fbT K t++(if sq&& !(ofT K t).1 then []else fbL K sq r)
end
theorem z5D{K:ByteArray->Ot}{o:Bool}:∀{s:List RT} {x:ByteArray},x∈fbL K o s->∃t∈s,x∈fbT K t
 |[],x,h=>by simp[fbL]at h
 |t::r,x,h=>by
  rw[fbL,List.mem_append]at h;rcases h with h|h
  ·exact⟨t,by simp,h⟩
  ·by_cases e:(o&& !(ofT K t).1)=true
   ·rw[if_pos e]at h;simp at h
   ·rw[if_neg e]at h
    obtain⟨u,y,hx⟩:=z5D h;exact⟨u,by simp[y],hx⟩
theorem Bq{y:ByteArray×Int}:∀{s:List RT} {t:RT},t∈s->y∈rfT t->y∈rfL s
 |a::r,t,h,hy=>by
  rw[rfL,List.mem_append];rcases List.mem_cons.1 h with rfl|h
  ·exact .inl hy
  ·exact .inr (Bq h hy)
theorem z0m{K:ByteArray->Ot}:∀(Q:Nat) (t:RT),SizeOf.sizeOf t<Q->okT t=true->∀x∈fbT K t,∃y∈rfT t,y.1=x
 |0,t,h=>by omega
 |Q+1,.mk k T a b c d s p,h=>by
  intro r x hx;rw[okT,Bool.and_eq_true]at r;rw[fbT,List.mem_append]at hx;rw[rfT];by_cases h5:k=5
  ·subst h5
   have o:Qb s=0:=by
    have:=r.1;unfold okN at this;rw[if_neg (by decide),if_neg (by decide),if_neg (by decide),if_pos rfl,Bool.and_eq_true,Bool.and_eq_true]at this;have D:=this.2.2;simp at D;omega
   rw[Xc]at o;have o:s=[]:=List.eq_nil_of_length_eq_zero o;subst o;rw[if_pos rfl]at hx ⊢;rcases hx with hx|hx
   ·exact⟨(T,p),by simp,(by simpa using hx:x=T).symm⟩
   ·simp[fbL]at hx
  ·rw[if_neg h5]at hx ⊢
   rcases hx with hx|hx
   ·simp at hx
   ·obtain⟨t,E,hx⟩:=z5D hx
    obtain⟨j,A,rfl⟩:=List.getElem_of_mem E;have I:=List.sizeOf_lt_of_mem (List.getElem_mem A);simp only[RT.mk.sizeOf_spec]at h;obtain⟨y,G,e⟩:=z0m Q s[j] (by omega) (Hy r.2 j A) x hx;exact⟨y,Bq (List.getElem_mem A) G,e⟩
def bgR(rs:List Rr)(K:ByteArray->Ot)(x:Rr):List Int:=Lib.compact (srt ((fbT K x.2.1).map fun s=>fdI s (nmL rs)))
theorem y4J{rs:List Rr}{s:ByteArray}(h:inN s (nmL rs)=true):fdI s (nmL rs)=(ixV (nmL rs) s:Int):=by
 unfold fdI ixV;rw[if_pos h,if_pos h]
theorem z0n{rs:List Rr}{K:ByteArray->Ot}{i:Int}:i∈bgR rs K x↔∃s∈fbT K x.2.1,fdI s (nmL rs)=i:=by
 unfold bgR;refine⟨fun h=> ?_,fun⟨s,o,e⟩=> ?_⟩
 ·have:=(Aw _).mem_iff.1 (z0e h)
  exact List.mem_map.1 this
 ·exact z4z ((Aw _).mem_iff.2 (List.mem_map.2 ⟨s,o,e⟩))
theorem y4K{rs:List Rr}{K:ByteArray->Ot}(o:okG rs=true)(r:ckR rs=none)(hx:x∈rs):∀i∈bgR rs K x,i∈usR (nmL rs) x:=fun i t=>by
 obtain⟨s,A,e⟩:=z0n.1 t;obtain⟨y,h,rfl⟩:=z0m _ x.2.1 (Nat.lt_succ_self _) (Fl o x hx).2 s A;have D:=Al (Iw r) y (Ny.2 ⟨x,hx,h⟩);refine y2U.2 ?_;unfold ixL;exact List.mem_map.2 ⟨y,h,by rw[<-e,y4J D]⟩
theorem y4L{rs:List Rr}{K:ByteArray->Ot}(h:okG rs=true)(o:ckR rs=none)(hx:x∈rs):∀i∈bgR rs K x,∃m:Nat,m<rs.length/\i=(m:Int):=fun i r=>by
 have hl:(nmL rs).length=rs.length:=List.length_map _;have:=y2R (l:=nmL rs) (y:=x) (by rw[hl];exact(Gc h).1) (y4K h o hx i r);rw[hl]at this;exact this
theorem z5E(o:Nat)(t:ByteArray){n:Nd}:∀{s:List Nd},n∈s->sz (pN qT cT n)<=sz (pB qT cT o t s)
 |a::r,h=>by
  have e:sz (pB qT cT o t (a::r))=t.size+(sz (pP qT cT o a)+sz (pB qT cT o t r)):=by rw[pB,sz,Xd];rfl
  rcases List.mem_cons.1 h with rfl|h
  ·have:=Kj o n
   omega
  ·have:=z5E o t h
   omega
theorem z0o(o:Nat)(t:ByteArray){n:Nd}:∀{s:List Nd},n∈s->sz (pN qT cT n)<=sz (pS qT cT o t s)
 |a::r,h=>by
  have e:sz (pS qT cT o t (a::r))=sz (pP qT cT o a)+sz (pB qT cT o t r):=by rw[pS,Xd];rfl
  rcases List.mem_cons.1 h with rfl|h
  ·have:=Kj o n
   omega
  ·have:=z5E o t h
   omega
theorem Ih(o:Nat){n:Nd}:∀{s:List Nd},n∈s->dN n<=dS o s
 |a::r,h=>by
  rw[Uc];rcases List.mem_cons.1 h with rfl|h
  ·have:dN n<=dP o n:=by unfold dP;split<;>omega
   omega
  ·have:=Ih o h
   omega
theorem y4M{kd:Nat}{C p:Nat}{s:List Nd}(o:Vk (.mk kd T C s p)){n:Nd}(h:n∈s):sz (pN qT cT n)<=sz (pN qT cT (.mk kd T C s p))/\dN n<=dN (.mk kd T C s p):=by
 rw[Vk]at o;rw[pN,dN];rcases o.1 with⟨_,_,_,rfl⟩|⟨_,_,rfl⟩|⟨_,_,rfl⟩|⟨_,_,_,rfl⟩|⟨_,_,rfl⟩|⟨r,_,_,U⟩|⟨V,Y,_,_,Z⟩
 ·simp at h
 ·simp at h
 ·simp at h
 ·simp at h
 ·simp at h
 ·rcases r with rfl|rfl
  ·simp only[Nat.reduceEqDiff,if_false,if_true]
   exact⟨z0o 6 bSp h,Ih 6 h⟩
  ·simp only[Nat.reduceEqDiff,if_false,if_true]
   exact⟨z0o 7 bSl h,Ih 7 h⟩
 ·have t:¬kd=1:=by omega
  have y:¬kd=2:=by omega
  have A:¬kd=3:=by omega
  have D:¬kd=4:=by omega
  have E:¬kd=5:=by omega
  have G:¬kd=6:=by omega
  have I:¬kd=7:=by omega
  simp only[if_neg t,if_neg y,if_neg A,if_neg D,if_neg E,if_neg G,if_neg I];have h3:=z0o kd bE h;refine⟨?_,Ih kd h⟩;by_cases h11:kd=11∨kd=12
  ·rw[if_pos h11,sz];omega
  ·rw[if_neg h11,Xd];omega
theorem z5F{n:Nat}:∀{s:List RT} {q:List Nd},TqL s q->∀(j:Nat) (o:j<s.length),∃y:j<q.length,Tq s[j] q[j]
 |[],_,_,j,o=>by simp at o
 |_::_,[],h,_,_=>by simp[TqL]at h
 |t::r,n::q,h,0,_=>by rw[TqL]at h;exact⟨by simp,h.1⟩
 |t::r,a::q,h,j+1,o=>by
  rw[TqL]at h;obtain⟨y,A⟩:=z5F (n:=n) h.2 j (by simpa using o);exact⟨by simpa using y,A⟩
theorem z5G{Nm:ByteArray->Prop}:∀{s:List Nd},WfL Nm s->∀n∈s,Wf Nm n
 |[],_,n,h=>by simp at h
 |a::r,h,n,o=>by
  rw[WfL]at h;rcases List.mem_cons.1 o with rfl|o
  ·exact h.1
  ·exact z5G h.2 n o
structure Fit (l:List ByteArray) (t:RT):Prop where
 ok:okT t=true
 z:RtZ t
 txt:∃nd,Tq t nd/\Vk nd/\Wf Nmq nd/\sz (pN qT cT nd)<=8186/\dN nd<=24
 rf:∀y∈rfT t,inN y.1 l=true
theorem z0p{a b c d p:Int}{s:List RT}(h:okT (.mk 5 T a b c d s p)=true):s=[]:=by
 rw[okT,Bool.and_eq_true]at h;have:=h.1;unfold okN at this;rw[if_neg (by decide),if_neg (by decide),if_neg (by decide),if_pos rfl,Bool.and_eq_true,Bool.and_eq_true]at this;have r:=this.2.2;simp at r;have o:Qb s=0:=by omega
 rw[Xc]at o;exact List.eq_nil_of_length_eq_zero o
theorem Fit.sub{l:List ByteArray}{k a b c d p:Int}{s:List RT}(h:Fit l (.mk k T a b c d s p))(j:Nat)(o:j<s.length):Fit l s[j]:=by
 obtain⟨t,E,⟨I,G,A,r,hs,hd⟩,U⟩:=h;obtain⟨kd,T',C,V,p'⟩:=I;have Y:k≠5:=fun e=>by
  subst e;have:=z0p t;subst this;simp at o
 rw[okT,Bool.and_eq_true]at t;rw[RtZ]at E;rw[Tq]at G;obtain⟨D,Z⟩:=z5F (n:=0) G.2.2.2.2.2.2 j o;have aa:=y4M A (List.getElem_mem D);rw[Vk]at A;rw[Wf]at r;refine⟨Hy t.2 j o,E.2.get j o,⟨V[j],Z,A.2.mem _ (List.getElem_mem D),z5G (by first|exact r.2.2|exact r.2.2.2|exact r.2) _ (List.getElem_mem D),by omega,by omega⟩,fun y hy=>U y ?_⟩;rw[rfT,if_neg Y];exact Bq (List.getElem_mem o) hy
theorem z5H{x:Rl}(hx:1<=x.1.size):∀{ns:List Rl},x∈ns->sz (pN qT cT x.2.1)+6<=sz (pR qT cT ns)
 |y::r,h=>by
  have o:bAr.size=4:=by decide
  have t:bNl.size=1:=by decide
  rw[pR,sz,sz,Xd,sz];rcases List.mem_cons.1 h with rfl|h
  ·omega
  ·have:=z5H hx h
   omega
theorem z5I{x:Rl}:∀{ns:List Rl},x∈ns->dN x.2.1<=dR ns
 |y::r,h=>by
  rw[dR];rcases List.mem_cons.1 h with rfl|h
  ·omega
  ·have:=z5I h
   omega
theorem z0q{rs:List Rr}(t:PrG rs)(A:ckR rs=none)(D:RgZ rs)(hx:x∈rs):Fit (nmL rs) x.2.1:=by
 obtain⟨E,ns,r,G,hs,hd⟩:=t;obtain⟨j,h,rfl⟩:=List.getElem_of_mem hx;have o:j<ns.length:=by rw[r.len];exact h
 have I:=r.get j h o;have U:=Fl E _ (List.getElem_mem h);obtain⟨V,Y,Z⟩:=G _ (List.getElem_mem o);have h6:=z5H (z0c V) (List.getElem_mem o);have h7:=z5I (List.getElem_mem o);exact⟨U.2,(D _ (List.getElem_mem h)).2,⟨_,I.2,Y,Z,by omega,by omega⟩,fun y hy=>Al (Iw A) y (Ny.2 ⟨_,List.getElem_mem h,hy⟩)⟩
theorem y4N{h:Nd}(o:Vk h)(r:Wf Nmq h)(t:sz (pN qT cT h)<=8186)(hd:dN h<=24):(exS h).size≠0:=by
 have y:sz (pR qT cT [(bA,h,0)])<=8192:=by
  rw[pR,pR];simp only[sz,Xd];have A:bA.size=1:=rfl;have D:bAr.size=4:=by decide
  have E:bNl.size=1:=by decide
  omega
 have G:dR [(bA,h,0)]<=24:=by
  rw[dR,dR];simp only;omega
 unfold exS;rw[if_neg (by omega)];have I:=Tz (pN qT cT h);have U:=z5B h o r;omega
mutual
theorem z5J{l:List ByteArray}:∀t:RT,(∀y∈rfT t,inN y.1 l=true)->hrT l t=true
 | .mk k T a b c d s p,h=>by
   rw[hrT];rw[rfT]at h;by_cases h5:k=5
   ·rw[if_pos h5]at h ⊢
    exact h (T,p) (by simp)
   ·rw[if_neg h5]at h ⊢
    exact z5K s h
theorem z5K{l:List ByteArray}:∀s:List RT,(∀y∈rfL s,inN y.1 l=true)->hrL l s=true
 |[],_=>by rw[hrL]
 |t::r,h=>by
  rw[rfL]at h;rw[hrL,z5J t (fun y o=>h y (List.mem_append.2 (.inl o))),z5K r (fun y o=>h y (List.mem_append.2 (.inr o)))];rfl
end
open Go.Maps
theorem y4O(y:Option Addr)(n A:Nat)(rs:List Rr)(K:ByteArray->Ot)(k:Int)(T:ByteArray)(a b c d p:Int)(D:Option Addr)(E G:Nat)(t:RT)(B B1:Nat)(w:World)(h:Qf w B y n (bG rs K))(U:B<=w.heap.size)(aa:okG rs=true)(ab:ckR rs=none)(hz:RgZ rs)(Y:TabIs w)(V:Qv w B1 t (r8 k T a b c d D E G p))(ag:B1<=w.heap.size)(hf:Fit (nmL rs) t):
  ∀W:World,Below w.heap.size w W->Calls prog 155 #[.agg #[.slice y n A],.agg (r8 k T a b c d D E G p).toArray] W fun e w'=>e=.returned (.tuple #[ov (ofT K t),.nilIface])/\Below W.heap.size W w':=fun W hW=>by
 obtain⟨ah,ac,⟨Z,hq,hv,hw,hs,hd⟩,ad⟩:=hf;have ae:=y4u K hz;have af:=y4t K ab;have ai:=z5x K aa;obtain⟨hX,hC⟩:=z5v y n A (bG rs K) B w ae h U Y (y4y K aa) af;have V:=Qv.upto ag t _ V;have r:∀{W'},Below W.heap.size W W'->Below w.heap.size w W':=fun o=>hW.trans (o.mono hW.size)
 have hN:∀W':World,Below W.heap.size W W'->Calls prog 152 #[.agg #[.slice y n A]] W' fun e w'=>e=.returned .nilIface/\Below W'.heap.size W' w':=fun W' o=>(z4w y n A (bG rs K) none W' (hC.from (r o))).mono fun e w' he=>by
  obtain⟨v,h1,I,h3⟩:=he;have I:v=.nilIface:=I;rw[h1,I];exact⟨rfl,h3⟩
 have hE:∀W':World,Below W.heap.size W W'->Calls prog 192 #[.agg (r8 k T a b c d D E G p).toArray] W' fun e w'=>e=.returned (.string (exS Z))/\Below W'.heap.size W' w':=fun W' o=>
  y4d k T a b c d p D E G t Z W' (Y.below (r o) Y.lt) (Qv.upto (r o).size t _ (V.below (r o))) ac hq hv hw
 have hH:∀W':World,Below W.heap.size W W'->Calls prog 193 #[.agg #[.slice y n A],.agg (r8 k T a b c d D E G p).toArray] W' fun e w'=>e=.returned (.bool true)/\Below W'.heap.size W' w':=fun W' o=>by
  have:=z5h (nmL (bG rs K)) (bG rs K) rfl y n A B _ t _ w.heap.size W' (Nat.lt_succ_self _) (V.below (r o)) (r o).size (h.below ((r o).mono U)) (Nat.le_trans U (r o).size);rw[z0l,z5J t ad]at this;exact this
 refine(y4g y n A (bG rs K) k T a b c d D E G p t W (exS Z) (y4i (y4N hv hw hs hd)) hN hE hH (fun W' o=>z5l y n A (bG rs K) B W' (h.below ((r o).mono U)) (Nat.le_trans U (r o).size) ae ai af) (fun W' M nn m o aj=>z5b M nn (itr (bG rs K) m) t _ W' w.heap.size (V.below (r o)) (r o).size ac ah aj)).mono fun e w' he=> ?_
 obtain⟨m,h1,I,h3⟩:=he;rw[y4w ab h1 t ad]at I;exact⟨I,h3⟩
theorem y4P(t:Option Addr)(n A:Nat)(k:Int)(T:ByteArray)(a b c d p:Int)(D:Option Addr)(E G:Nat)(y:Ot)(w:World)
  (HE:Hid (∀W:World,Below w.heap.size w W->Calls prog 155 #[.agg #[.slice t n A],.agg #[.int .i64 k,.string T,.int .u64 a,.int .u64 b,.int .u64 c,.int .u64 d,.slice D E G,.int .i64 p]] W fun e w'=>e=.returned (.tuple #[ov y,.nilIface])/\Below W.heap.size W w')):
  Calls prog 112 #[.agg #[.slice t n A],.agg #[.int .i64 k,.string T,.int .u64 a,.int .u64 b,.int .u64 c,.int .u64 d,.slice D E G,.int .i64 p]] w fun e w'=>e=.returned (ov y)/\Below w.heap.size w w':=by
 obtain⟨y1,y2,y3⟩:=y;obtain⟨h,o⟩:∃h,h=((w.alloc (.cells #[.slice t n A] 43)).alloc (.cells #[.int .i64 k,.string T,.int .u64 a,.int .u64 b,.int .u64 c,.int .u64 d,.slice D E G,.int .i64 p] 81)).alloc (.cells #[.bool false,.bool false,.bool false] 210):=⟨_,rfl⟩;have I:Below w.heap.size w h:=by rw[o];exact(((Below.refl _ w).alloc L0q _).alloc (by simp) _).alloc (by simp;omega) _
 have U:Hid (h.heap[w.heap.size+1+1]? =some (.cells #[.bool false,.bool false,.bool false] 210)):=by rw[o];exact Qx _ _ (by simp)
 have V:=hid (HE.out h I);have Y:=hid I;have aa:=hid o;dsimp only[ov]at V;clear o I HE;go_enter func112,ntmps112
 go_wp2_with fail
 rw[<-aa.out];refine V.out.mono ?_;rintro e w2 ⟨rfl,Z⟩;have ab:=hid (Y.out.trans (Z.mono Y.out.size));have r:=(Z.block _ (Qq U.out)).trans U.out;obtain⟨⟨u0,u1,u2⟩,f0,f1,f2⟩:=Zz r;have lr:=Qq r;have ad:=hid r;clear Z V aa U Y r
 go_wp2_with fail
 have hP:=Vd (v0:=.bool y1) (v1:=.bool y2) (v2:=.bool y3) ad.out;have ae:((((w2.setCell ⟨w.heap.size+1+1,0,none⟩ (.bool y1)).setCell ⟨w.heap.size+1+1,1,none⟩ (.bool y2)).setCell ⟨w.heap.size+1+1,2,none⟩ (.bool y3)).alloc (.cells #[.bool y1,.bool y2,.bool y3] 210)).heap[w.heap.size+1+1]? =some (.cells #[.bool y1,.bool y2,.bool y3] 210):=(Below.heap_alloc _ _ _ (Qq hP)).trans hP;obtain⟨⟨r0,r1,r2⟩,_⟩:=Zz ae;refine bodyPost_ret (v:=.agg #[.bool y1,.bool y2,.bool y3]) (by simp[results,Tryz.results112,go_sem,r0,r1,r2]) rfl ?_;have ac:=ab.out.grown (Xg w2 (w.heap.size+1+1) (.bool y1) (.bool y2) (.bool y3)) ab.out.size (fun g e=>by have:=Option.some.inj e;omega);exact⟨rfl,ac.alloc ac.size _⟩
theorem z5L(o:Option Addr)(n D:Nat)(rs:List Rr)(K:ByteArray->Ot)(k:Int)(T:ByteArray)(a b c d p:Int)(r:Option Addr)(y A:Nat)(t:RT)(B E:Nat)(w:World)(h:Qf w B o n (bG rs K))(G:B<=w.heap.size)(I:okG rs=true)(U:ckR rs=none)(V:RgZ rs)(Y:TabIs w)(Z:Qv w E t (r8 k T a b c d r y A p))(aa:E<=w.heap.size)(hf:Fit (nmL rs) t):
  Calls prog 112 #[.agg #[.slice o n D],.agg #[.int .i64 k,.string T,.int .u64 a,.int .u64 b,.int .u64 c,.int .u64 d,.slice r y A,.int .i64 p]] w fun e w'=>e=.returned (ov (ofT K t))/\Below w.heap.size w w':=
 y4P o n D k T a b c d p r y A _ w (hid (y4O o n D rs K k T a b c d p r y A t B E w h G I U V Y Z aa hf))
theorem z5M{W':World}{r o t y A:Nat}{v0 v1 v2 v3 v4:Value}(h:W.cell? ⟨sB,0,none⟩=some v0/\W.cell? ⟨r,0,none⟩=some v1/\W.cell? ⟨o,t,none⟩=some v2/\W.cell? ⟨o,y,none⟩=some v3/\W.cell? ⟨o,A,none⟩=some v4)(D:Below W.heap.size W W'):W'.cell? ⟨sB,0,none⟩=some v0/\W'.cell? ⟨r,0,none⟩=some v1/\W'.cell? ⟨o,t,none⟩=some v2/\W'.cell? ⟨o,y,none⟩=some v3/\W'.cell? ⟨o,A,none⟩=some v4:=by
 obtain⟨E,G,I,U,V⟩:=h;have e:∀{a:Addr} {u:Value},W.cell? a=some u->W'.cell? a=some u:=fun{a u} h=>(D.cell (p:=a) (World.block_lt_of_cell? W _ h)).trans h
 exact⟨e E,e G,e I,e U,e V⟩
theorem y4Q{W':World}{r o y A D:Nat}{v0 v1 v2 v3 v4:Value}{row:Option Nat}(h:W.cell? ⟨sB,0,none⟩=some v0/\W.cell? ⟨r,0,none⟩=some v1/\W.cell? ⟨o,y,none⟩=some v2/\W.cell? ⟨o,A,none⟩=some v3/\W.cell? ⟨o,D,none⟩=some v4)(E:some sB≠row)(G:some r≠row)(t:some o≠row)(I:W.grownBy W' row):W'.cell? ⟨sB,0,none⟩=some v0/\W'.cell? ⟨r,0,none⟩=some v1/\W'.cell? ⟨o,y,none⟩=some v2/\W'.cell? ⟨o,A,none⟩=some v3/\W'.cell? ⟨o,D,none⟩=some v4:=by
 obtain⟨U,V,Y,Z,h4⟩:=h;have e:∀{a:Addr} {u:Value},some a.block≠row->W.cell? a=some u->W'.cell? a=some u:=fun{a u} aa h=>(I.cell_far a (World.block_lt_of_cell? W _ h) aa).trans h
 exact⟨e E U,e G V,e t Y,e t Z,e t h4⟩
theorem y4R(nm:ByteArray)(y1 y2 y3:Bool)(w:World):Calls prog 109 #[.string nm,.agg #[.bool y1,.bool y2,.bool y3]] w (CnA (sI nm (y1,y2,y3)) w):=by
 cases y1<;>cases y2<;>cases y3
 ·exact y4E nm w
 ·exact y4C nm w
 ·exact y4H nm w
 ·exact y4D nm w
 ·exact y4B nm w
 ·exact y4G nm w
 ·exact y4F nm w
 ·exact y4I nm w
def BfP(rs:List Rr)(X:Option (Int ⊕ (Int×Int)))(W:World)(e:Ending)(w':World):Prop:=Below W.heap.size W w'/\
 ((X≠none/\∃v,e=.returned (.tuple #[.agg #[.slice none 0 0],v])/\Zm X W.heap.size w' v)∨
  (X=none/\∃so' cap' m,e=.returned (.tuple #[.agg #[.slice so' rs.length cap'],.nilIface])/\Xy (itr rs m) rs/\Qf w' w'.heap.size so' rs.length (bG rs (itr rs m))))
theorem y4S(E:Option Addr)(n G:Nat)(X:Option (Int ⊕ (Int×Int)))(w:World)
  (V:Hid (∀W:World,Below w.heap.size w W->Calls prog 108 #[.agg #[.slice E n G]] W fun e w'=>∃o r,e=.returned (.tuple #[.slice none 0 0,.iface o r])/\Zm X W.heap.size w' (.iface o r)/\Below W.heap.size W w')):
  Calls prog 81 #[.agg #[.slice E n G]] w fun e w'=>∃v,e=.returned (.tuple #[.agg #[.slice none 0 0],v])/\Zm X w.heap.size w' v/\Below w.heap.size w w':=by
 obtain⟨h,t⟩:∃h,h=(w.alloc (.cells #[.slice E n G] 43)).alloc (.cells #[.slice none 0 0] 43):=⟨_,rfl⟩;have I:Below w.heap.size w h:=by rw[t];exact((Below.refl _ w).alloc L0q _).alloc (by simp) _
 have y:Hid (h.heap[w.heap.size+1]? =some (.cells #[.slice none 0 0] 43)):=by rw[t];exact Qx _ _ (by simp)
 have Y:=hid (V.out h I);have A:=hid I;have aa:=Qq y.out;have Z:=hid t;clear t I V;go_enter func81,ntmps81
 go_wp2_with fail
 rw[<-Z.out];refine Y.out.mono ?_;rintro e w2 ⟨o,r,rfl,hv,U⟩;have D:=(U.block _ (Qq y.out)).trans y.out;obtain⟨u0,f0⟩:=Qw D;have lr:=Qq D;have ab:=hid D;have HV:=hid hv;have ac:=hid (A.out.trans (U.mono A.out.size));have ad:=hid A.out.size;clear hv U D Y Z y A
 go_wp2_with fail
 have r0:=(Qw (Qk ab.out 0 (.slice none 0 0))).1;refine bodyPost_ret (v:=.tuple #[.agg #[.slice none 0 0],.iface o r]) (by simp[results,Tryz.results81,go_sem,r0]) rfl ?_;exact⟨_,rfl,(HV.out.kept (grownBy_setCell' _ _ _) aa).lo ad.out,ac.out.setCell (p:=⟨w.heap.size+1,0,none⟩) (by show w.heap.size<=_+1;omega) _⟩
theorem z5N(rs:List Rr)(K:ByteArray->Ot):(bG rs K).length=rs.length:=List.length_map _
theorem y4T(rs:List Rr)(K:ByteArray->Ot)(j:Nat)(h:j<rs.length){o:j<(bG rs K).length}:(bG rs K)[j]=(rs[j].1,sI rs[j].1 (K rs[j].1),0):=by simp[bG]
theorem PqR.put{o:World}{j:Nat}{r:List Rr}{xs:List Value}{a v u:Value}(h:PqR o j r xs a W)(t:W.heap[sB]? =some (.cells #[u] 43))(A:o.heap.size<=sB):PqR o j r xs a (W.setCell ⟨sB,0,none⟩ v):=by
 refine⟨h.be.setCell (p:=⟨sB,0,none⟩) A _,h.ow.kept (grownBy_setCell' _ _ _) (.inr (Fp h.ow t (fun cur e=>by cases e))),Zk.kept (fun g cur D y=>⟨Below.heap_setCell _ _ _ _ (fun e=> ?_),D⟩) _ _ h.rq⟩;have E:g=sB:=e;subst E;rw[t]at y;cases y
theorem y4U(so:Option Addr)(n ah:Nat)(rs:List Rr)(w:World)(h:Qf w w.heap.size so n rs)(hn:n<=1048576)
  (HC:Hid (∀W:World,Below w.heap.size w W->Calls prog 108 #[.agg #[.slice so n ah]] W (RuP rs none W))):
  Calls prog 81 #[.agg #[.slice so n ah]] w (BfP rs none w):=by
 obtain⟨iT,a2,a4,a5,a6⟩:=info_parts Tryz.infoRl;obtain⟨Z,ab⟩:∃Z,Z=(w.alloc (.cells #[.slice so n ah] 43)).alloc (.cells #[.slice none 0 0] 43):=⟨_,rfl⟩;have ar:Below w.heap.size w Z:=by rw[ab];exact((Below.refl _ w).alloc L0q _).alloc (by simp) _
 have au:Hid (Z.heap[w.heap.size+1]? =some (.cells #[.slice none 0 0] 43)):=by rw[ab];exact Qx _ _ (by simp)
 have av:Hid (Z.heap[w.heap.size]? =some (.cells #[.slice so n ah] 43)):=by rw[ab];exact(Below.heap_alloc _ _ _ (by simp)).trans (Qx w _ rfl)
 have HS:=hid (HC.out Z ar);have aw:=hid ar;have aG:=hid ab;have HG:=hid h;have ac:Hid (n=rs.length):=h.1;clear ab ar HC h;go_enter func81,ntmps81
 go_wp2_with fail
 rw[<-aG.out];refine HS.out.mono ?_;rintro e I ⟨ai,a7⟩;rcases a7 with⟨hx,_⟩|⟨_,V,m,cs,rfl,a8,aH,aI,ax⟩
 ·exact absurd rfl hx
 rw[<-ac.out];obtain⟨G,ay⟩:∃G,G=itr rs m:=⟨_,rfl⟩;have a9:=hid aH;have ba:Hid (G=itr rs m):=ay;rw[<-ay]at ax;have bb:=hid ax;have az:=hid aI;have aJ:=hid (aw.out.trans (ai.mono aw.out.size));have aj:=hid ((ai.block _ (Qq au.out)).trans au.out);have aK:=hid ((ai.block _ (Qq av.out)).trans av.out);obtain⟨g2,_⟩:=Qw aK.out;have bc:=Qq aK.out;obtain⟨W3,ak⟩:∃W3,W3=I.alloc (.cells #[.slice none 0 0] 43):=⟨_,rfl⟩;have aL:Hid (PqR I 0 (bG rs G) [] (.slice none 0 0) W3):=by
  rw[ak];exact⟨B0q.alloc L0q _,World.ownsRow_nil _ _ _ _,by rw[List.take_zero,Zk];trivial⟩
 have aA:Hid (W3.heap[I.heap.size]? =some (.cells #[.slice none 0 0] 43)):=by rw[ak];exact Qx _ _ rfl
 clear HS aG au av aw ai aI ax aH ay a8
 go_wp2_with fail
 rw[<-ak];clear ak g2 bc;obtain⟨sB,aB⟩:∃sB,sB=I.heap.size:=⟨_,rfl⟩;rw[<-aB]at aA ⊢;have bd:Hid (sB=I.heap.size):=aB;clear aB
 go_loopw [21] (fun i wr=>∃(j:Nat) (xs:List Value) (v:Value),i=.int .i64 j/\j<=n/\Hid (PqR I j (bG rs G) xs v wr)/\Hid (wr.heap[sB]? =some (.cells #[v] 43))) (fun i _=>n-(intOf i).toNat)
 case atStart=>exact⟨0,[],_,rfl,Nat.zero_le _,aL,aA⟩
 case round=>
  obtain⟨j,xs,v,rfl,hj,E,aa⟩:=hrel;clear aL aA;have aM:=hid (aJ.out.trans (E.out.be.mono aJ.out.size));obtain⟨A,D,rfl⟩:=Mw E.out.ow;by_cases hjn:j<n
  ·have bz:(j:Int)<(n:Int):=by omega
   have a0:decide ((j:Int)<(n:Int))=true:=by simp;omega
   have ad:j<rs.length:=by rw[<-ac.out];exact hjn
   have bf:j<(bG rs G).length:=by rw[z5N];exact ad
   obtain⟨g,o,rfl,hg,k1,T1,a1,b1,c1,d1,bg,n1,bh,p1,bi,r0⟩:=HG.out.2.2 j ad;have aN:∀q,wr.cell? ⟨g,q,none⟩=w.cell? ⟨g,q,none⟩:=fun q=>aM.out.cell (p:=⟨g,q,none⟩) hg
   simp only[<-aN]at r0;obtain⟨z0,z1,z2,z3,z4,z5,z6,z7,z8,z9⟩:=r0;have bA:g<wr.heap.size:=World.block_lt_of_cell? wr _ z0;obtain⟨N0,al⟩:∃N0,N0=rs[j].1:=⟨_,rfl⟩;obtain⟨q1,aO⟩:∃q1,q1=rs[j].2.2:=⟨_,rfl⟩;rw[<-al]at z0;rw[<-aO]at z9;obtain⟨⟨y1,y2,y3⟩,hy⟩:∃y,y=G N0:=⟨_,rfl⟩;have aP:(N0,sI N0 (y1,y2,y3),(0:Int))=(bG rs G)[j]:=by
    rw[y4T rs G j ad,hy,al]
   have bj:=hid aP;obtain⟨e0,e1,e2⟩:=bb.out.2 j ad ad;rw[<-al,<-hy]at e0 e1 e2;have ae:=(E.out.be.block _ (Qq az.out)).trans az.out;have x0:=(Qj ae _ _ e0).1;have x1:=(Qj ae _ _ e1).1;have x2:=(Qj ae _ _ e2).1;have lu:=Qq ae;have bC:V<I.heap.size:=Qq az.out;obtain⟨t0,t1⟩:=Qw aa.out;have aQ:=Qq aa.out;have bD:=E.out.be.size;have aR:=hid (y4R N0 y1 y2 y3);clear bi aN al aO hy aP e0 e1 e2 ae
   go_wp2_with fail
   obtain⟨W4,af⟩:∃W4,W4=wr.alloc (.cells #[.string N0,.int .i64 k1,.string T1,.int .u64 a1,.int .u64 b1,.int .u64 c1,.int .u64 d1,.slice bg n1 bh,.int .i64 p1,.int .i64 q1] 83):=⟨_,rfl⟩;have am:Hid (Below wr.heap.size wr W4.drew):=by rw[af];exact((Below.refl _ wr).alloc L0q _).drew
   have aS:W4.drew.heap.size=wr.heap.size+1:=by rw[af];exact World.size_alloc _ _
   obtain⟨rB,ao⟩:∃rB,rB=wr.heap.size:=⟨_,rfl⟩;have aT:Hid (W4.drew.cell? ⟨sB,0,none⟩=some (.slice A j D)/\W4.drew.cell? ⟨rB,0,none⟩=some (.string N0)/\W4.drew.cell? ⟨V,j*3,none⟩=some (.bool y1)/\W4.drew.cell? ⟨V,j*3+1,none⟩=some (.bool y2)/\W4.drew.cell? ⟨V,j*3+2,none⟩=some (.bool y3)):=by
    have e:∀{a:Addr} {u:Value},wr.cell? a=some u->W4.drew.cell? a=some u:=fun{a u} h=>(am.out.cell (p:=a) (World.block_lt_of_cell? wr _ h)).trans h
    refine⟨e t0,?_,e x0,e x1,e x2⟩;rw[af,ao];exact(Qj (Qx wr _ rfl) 0 _ rfl).1
   rw[<-af,<-ao];have aC:Hid (∀r,Hid (Below W4.drew.heap.size W4.drew r)->I.heap.size<=r.heap.size/\sB<r.heap.size):=fun r h=>by
    have:=h.out.size;constructor<;>omega
   have bk:Hid (∀r,Hid (Below W4.drew.heap.size W4.drew r)->r.heap[sB]? =some (.cells #[.slice A j D] 43)):=fun r h=>(h.out.block _ (by omega)).trans ((am.out.block _ aQ).trans aa.out)
   have bl:Hid (∀r,Hid (Below W4.drew.heap.size W4.drew r)->r.ownsRow I.heap.size 83 10 (.slice A j D) j xs):=fun r h=>Yf (Yf E.out.ow am.out) h.out
   have aU:Hid (some sB≠(Value.slice A j D).ownBlock):=fun e=>Fp E.out.ow aa.out (fun cur e=>by cases e) e.symm
   have bm:Hid (some rB≠(Value.slice A j D).ownBlock):=fun e=>by have:=(E.out.ow.lt _ e.symm).2;omega
   have bn:Hid (some V≠(Value.slice A j D).ownBlock):=fun e=>by have:=(E.out.ow.lt _ e.symm).1;omega
   have bE:Hid (rB=wr.heap.size):=ao;have m1:j+1<=maxLen:=by unfold maxLen;omega
   have m2:(j+1)*112<=140737488355328:=by omega
   clear af ao z0 z1 z2 z3 z4 z5 z6 z7 z8 z9 t0 t1 x0 x1 x2;refine Zj 15 (fun W:World=>W.cell? ⟨sB,0,none⟩=some (.slice A j D)/\W.cell? ⟨rB,0,none⟩=some (.string N0)/\W.cell? ⟨V,j*3,none⟩=some (.bool y1)/\W.cell? ⟨V,j*3+1,none⟩=some (.bool y2)/\W.cell? ⟨V,j*3+2,none⟩=some (.bool y3)) (by kernel_rfl) aT.out (fun t=> ?_);refine Qz 0 t ?_;refine Qz 1 t ?_;refine Qz 2 t ?_;refine Qz 3 t ?_;refine Qz 4 t ?_;refine Qz 5 t ?_;refine Qz 6 t ?_;refine Qz 7 t ?_;refine Qz 8 t ?_;refine Qz 9 t ?_
   (refine Qg 10 (fun K U=> ?_);go_simp;refine(aR.out _).mono ?_;rintro e r ⟨k3,T3,a3,b3,c3,d3,aD,n3,aE,p3,rfl,aV,Y⟩;go_simp;replace t:=z5M t Y.out;refine U.out _ _ t ?_;clear U K)
   (try simp only[Act.put,List.setIfInBounds_toArray,List.set_cons_zero,List.set_cons_succ])
   refine Qz 11 t ?_
   (refine Qg 12 (fun K U=> ?_);go_simp;replace t:=z5M t ((Below.refl _ r).alloc L0q (.cells #[.string N0,.int .i64 k3,.string T3,.int .u64 a3,.int .u64 b3,.int .u64 c3,.int .u64 d3,.slice aD n3 aE,.int .i64 p3,.int .i64 0] 83));refine U.out _ _ t ?_;clear U K)
   (try simp only[Act.put,List.setIfInBounds_toArray,List.set_cons_zero,List.set_cons_succ])
   (refine Qg 13 (fun K U=> ?_);refine step_append_lies _ rfl (.tmp 27) (.tmp 38) 41 rfl I.heap.size 83 iT (.agg #[.string ⟨#[]⟩,.int .i64 0,.string ⟨#[]⟩,.int .u64 0,.int .u64 0,.int .u64 0,.int .u64 0,.slice none 0 0,.int .i64 0,.int .i64 0]) 10 112 Tryz.underlying41 a2 a4 a5 a6 rfl (by decide) (.slice A j D) j xs (by rfl) ((bl.out r Y).alloc _) ⟨r.heap.size,0,none⟩ 1 1 [.string N0,.int .i64 k3,.string T3,.int .u64 a3,.int .u64 b3,.int .u64 c3,.int .u64 d3,.slice aD n3 aE,.int .i64 p3,.int .i64 0] (by rfl) rfl (Rw r _ _ _ _ _ _ _ _ _ _ _) (z4H _ _ _ _ _ _ _ _ _ _ _ _) (by decide) m1 m2 (by rw[World.size_alloc];have:=aC.out r Y;omega) _ rfl ?_;intro g6 aW w6 aX ap bo bp;have ag:=((ap.block sB (by rw[World.size_alloc];have:=aC.out r Y;omega) aU.out).trans (Below.heap_alloc _ _ _ (aC.out r Y).2)).trans (bk.out r Y);replace t:=y4Q t aU.out bm.out bn.out ap;refine U.out _ _ t ?_;clear U K)
   (try simp only[Act.put,List.setIfInBounds_toArray,List.set_cons_zero,List.set_cons_succ])
   refine Qz 14 t ?_;refine Vw (fun K U=> ?_);obtain⟨s0,s1⟩:=Qw ag;have ls:=Qq ag;clear t
   go_simp
   refine U.out _ _ ?_;clear U K;have aY:=PqR.step E.out bf bj.out (am.out.trans (Y.out.mono (by rw[aS];omega))) ⟨r8 k3 T3 a3 b3 c3 d3 aD n3 aE p3,rfl,Zf.kept (fun g cur hp _=>⟨rfl,Nat.le_trans (by rw[aS];omega) hp⟩) _ _ aV.out⟩ ((Below.refl _ r).alloc L0q _) aX ap;have bq:=hid (aY.put (v:=.slice (some ⟨g6,0,none⟩) (j+1) aW) ag (by rw[bd.out];exact Nat.le_refl _));have br:=hid (Qk ag 0 (.slice (some ⟨g6,0,none⟩) (j+1) aW));clear aY aX ap bo bp ag aV Y s0 s1 aR aT
   go_wp2_with fail
   exact⟨⟨j+1,_,_,by go_num,by omega,bq,br⟩,by simp[intOf];omega⟩
  ·have a0:decide ((j:Int)<(n:Int))=false:=by simp;omega
   obtain rfl:j=n:=by omega
   have aF:(bG rs G).length=j:=by rw[z5N];exact ac.out.symm
   have hq:=E.out.rq;rw[List.take_of_length_le (by rw[aF];exact Nat.le_refl _)]at hq;have aq:=(E.out.be.block _ (Qq aj.out)).trans aj.out;obtain⟨u0,f0⟩:=Qw aq;have lr:=Qq aq;have bs:=hid aq;obtain⟨t0,t1⟩:=Qw aa.out;have aQ:=Qq aa.out;have aZ:wr.grownBy (wr.setCell ⟨w.heap.size+1,0,none⟩ (.slice A j D)) (some (w.heap.size+1)):=grownBy_setCell' _ _ _;have bt:Hid (Qf (wr.setCell ⟨w.heap.size+1,0,none⟩ (.slice A j D)) (wr.setCell ⟨w.heap.size+1,0,none⟩ (.slice A j D)).heap.size A j (bG rs G)):=by
    have bu:=E.out.ow.kept aZ (.inr (fun e=>by have:=(E.out.ow.lt _ e).1;have:=Qq aj.out;omega));have bv:Zk (wr.setCell ⟨w.heap.size+1,0,none⟩ (.slice A j D)) (fun g=>I.heap.size<=g) (bG rs G) xs:=Zk.kept (fun g cur hp _=>⟨Below.heap_setCell _ _ _ _ (fun e=>by have e2:g=w.heap.size+1:=e;have:=Qq aj.out;omega),hp⟩) _ _ hq;obtain⟨bF,bH,ea,bw⟩:=Zk.is bu aF.symm bv;simp only[Value.slice.injEq]at ea;obtain⟨rfl,-,rfl⟩:=ea;exact bw
   have bx:Hid (Below w.heap.size w (wr.setCell ⟨w.heap.size+1,0,none⟩ (.slice A j D))):=aM.out.setCell (p:=⟨w.heap.size+1,0,none⟩) (by show w.heap.size<=_+1;omega) _;clear hq aZ aq aF
   go_wp2_with fail
   have r0:=(Qw (Qk bs.out 0 (.slice A j D))).1;refine bodyPost_ret (v:=.tuple #[.agg #[.slice A j D],.nilIface]) (by simp[results,Tryz.results81,go_sem,r0]) rfl ?_;refine⟨bx.out,.inr ⟨rfl,A,D,m,by rw[<-ac.out],a9.out,?_⟩⟩;rw[<-ac.out,<-ba.out];exact bt.out
theorem y4V(o:Option Addr)(n r:Nat)(rs:List Rr)(X:Option (Int ⊕ (Int×Int)))(B:Nat)(w:World)(I:CkX rs X)(V:CkC o n r rs X w)(Y:RgZ rs)(h:Qf w B o n rs)(D:B<=w.heap.size):∀W:World,Below w.heap.size w W->Calls prog 81 #[.agg #[.slice o n r]] W (BfP rs X W):=fun W y=>by
 have Z:∀{W'},Below W.heap.size W W'->Below w.heap.size w W':=fun t=>y.trans (t.mono y.size)
 have U:=fun(W':World) (t:Below W.heap.size W W')=>y4m o n r rs X B w I V Y h D W' (Z t)
 cases X with
 |some x=>
  refine(y4S o n r (some x) W (hid fun W' t=>(U W' t).mono fun e w' E=> ?_)).mono fun e w' E=> ?_
  ·obtain⟨hb,⟨_,v,G,A⟩|⟨h0,_⟩⟩:=E
   ·obtain⟨tt,uu,rfl⟩:=A.shape (by simp)
    exact⟨tt,uu,G,A,hb⟩
   ·cases h0
  ·obtain⟨v,G,A,h3⟩:=E
   exact⟨h3,.inl ⟨by simp,v,G,A⟩⟩
 |none=>
  have aa:=(Gc I.1).2;exact y4U o n r rs W ((h.below (y.mono D)).upto (Nat.le_trans D y.size)) (by have:=h.1;omega) (hid U)
end Go.Proofs.YtgnkkgcgbeianaaGreatDoor
