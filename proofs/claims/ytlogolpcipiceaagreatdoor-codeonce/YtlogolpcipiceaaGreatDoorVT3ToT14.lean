/- Lemmas for the last text. Conditions: those that each names. -/
import Derived.Test.YtlogolpcipiceaaGreatDoorVPR1ToT11
import Derived.Test.YtlogolpcipiceaaGreatDoorVT13
import Derived.Test.YtlogolpcipiceaaGreatDoorVU3ToU7
set_option linter.unusedVariables false
set_option maxRecDepth 100000
set_option maxHeartbeats 8000000
namespace Go.Proofs.YtlogolpcipiceaaGreatDoor
open Go.Proofs.Tryz
open Go.RowKit Go.Shelf
variable {x:Rr} {T:ByteArray} {W:World} {sB:Nat}
mutual
def flT(K:ByteArray->Ot):RT->Option Int
 | .mk k T a b c d s p=>if(k=9∨k=10)/\(ofH K s).1=true then some p else flL K s
def flL(K:ByteArray->Ot):List RT->Option Int
 |[]=>none
 |t::r=>match flT K t with
  |some p=>some p
  |none=>flL K r
end
def flG(K:ByteArray->Ot):List Rr->Option Int
 |[]=>none
 |x::r=>match flT K x.2.1 with
  |some p=>some p
  |none=>flG K r
mutual
def fbT(K:ByteArray->Ot):RT->List ByteArray
 | .mk k T a b c d s p=>(if k=5 then [T]else [])++fbL K (decide (k=6)) s
def fbL(K:ByteArray->Ot)(sq:Bool):List RT->List ByteArray
 |[]=>[]
 |t::r=>fbT K t++(if sq&& !(ofT K t).1 then []else fbL K sq r)
end
theorem z3U{K:ByteArray->Ot}{sq:Bool}:∀{s:List RT} {x:ByteArray},x∈fbL K sq s->∃t∈s,x∈fbT K t
 |[],x,h=>by simp[fbL]at h
 |t::r,x,h=>by
  rw[fbL,List.mem_append]at h;rcases h with h|h
  ·exact⟨t,by simp,h⟩
  ·by_cases e:(sq&& !(ofT K t).1)=true
   ·rw[if_pos e]at h;simp at h
   ·rw[if_neg e]at h
    obtain⟨u,hu,hx⟩:=z3U h;exact⟨u,by simp[hu],hx⟩
theorem Sp{y:ByteArray×Int}:∀{s:List RT} {t:RT},t∈s->y∈rfT t->y∈rfL s
 |a::r,t,h,hy=>by
  rw[rfL,List.mem_append];rcases List.mem_cons.1 h with rfl|h
  ·exact .inl hy
  ·exact .inr (Sp h hy)
theorem z3V{K:ByteArray->Ot}:∀(Q:Nat) (t:RT),SizeOf.sizeOf t<Q->okT t=true->∀x∈fbT K t,∃y∈rfT t,y.1=x
 |0,t,h=>by omega
 |Q+1,.mk k T a b c d s p,h=>by
  intro hok x hx;rw[okT,Bool.and_eq_true]at hok;rw[fbT,List.mem_append]at hx;rw[rfT];by_cases h5:k=5
  ·subst h5
   have hs:Qp s=0:=by
    have:=hok.1;unfold okN at this;rw[if_neg (by decide),if_neg (by decide),if_neg (by decide),if_pos rfl,Bool.and_eq_true,Bool.and_eq_true]at this;have h2:=this.2.2;simp at h2;omega
   rw[Xd]at hs;have hs:s=[]:=List.eq_nil_of_length_eq_zero hs;subst hs;rw[if_pos rfl]at hx ⊢;rcases hx with hx|hx
   ·exact⟨(T,p),by simp,(by simpa using hx:x=T).symm⟩
   ·simp[fbL]at hx
  ·rw[if_neg h5]at hx ⊢
   rcases hx with hx|hx
   ·simp at hx
   ·obtain⟨t,ht,hx⟩:=z3U hx
    obtain⟨j,hj,rfl⟩:=List.getElem_of_mem ht;have h1:=List.sizeOf_lt_of_mem (List.getElem_mem hj);simp only[RT.mk.sizeOf_spec]at h;obtain⟨y,hy,e⟩:=z3V Q s[j] (by omega) (Cm hok.2 j hj) x hx;exact⟨y,Sp (List.getElem_mem hj) hy,e⟩
def bgR(rs:List Rr)(K:ByteArray->Ot)(x:Rr):List Int:=Lib.compact (srt ((fbT K x.2.1).map fun s=>fdI s (nmL rs)))
theorem y1N{rs:List Rr}{s:ByteArray}(h:inN s (nmL rs)=true):fdI s (nmL rs)=(ixV (nmL rs) s:Int):=by
 unfold fdI ixV;rw[if_pos h,if_pos h]
theorem z3W{rs:List Rr}{K:ByteArray->Ot}{i:Int}:i∈bgR rs K x↔∃s∈fbT K x.2.1,fdI s (nmL rs)=i:=by
 unfold bgR;refine⟨fun h=> ?_,fun⟨s,hs,e⟩=> ?_⟩
 ·have:=(Mf _).mem_iff.1 (Sk h)
  exact List.mem_map.1 this
 ·exact z2X ((Mf _).mem_iff.2 (List.mem_map.2 ⟨s,hs,e⟩))
theorem y1O{rs:List Rr}{K:ByteArray->Ot}(hok:okG rs=true)(hck:ckR rs=none)(hx:x∈rs):∀i∈bgR rs K x,i∈usR (nmL rs) x:=fun i hi=>by
 obtain⟨s,hs,e⟩:=z3W.1 hi;obtain⟨y,hy,rfl⟩:=z3V _ x.2.1 (Nat.lt_succ_self _) (Gl hok x hx).2 s hs;have hny:=Az (Ec hck) y (Kf.2 ⟨x,hx,hy⟩);refine z9S.2 ?_;unfold ixL;exact List.mem_map.2 ⟨y,hy,by rw[<-e,y1N hny]⟩
theorem y1P{rs:List Rr}{K:ByteArray->Ot}(hok:okG rs=true)(hck:ckR rs=none)(hx:x∈rs):∀i∈bgR rs K x,∃m:Nat,m<rs.length/\i=(m:Int):=fun i hi=>by
 have hl:(nmL rs).length=rs.length:=List.length_map _;have:=z9Q (l:=nmL rs) (y:=x) (by rw[hl];exact(Jb hok).1) (y1O hok hck hx i hi);rw[hl]at this;exact this
theorem z3X(over:Nat)(sep:ByteArray){n:Nd}:∀{s:List Nd},n∈s->sz (pN qT cT n)<=sz (pB qT cT over sep s)
 |a::r,h=>by
  have e:sz (pB qT cT over sep (a::r))=sep.size+(sz (pP qT cT over a)+sz (pB qT cT over sep r)):=by rw[pB,sz,Xl];rfl
  rcases List.mem_cons.1 h with rfl|h
  ·have:=Dv over n
   omega
  ·have:=z3X over sep h
   omega
theorem Sc(over:Nat)(sep:ByteArray){n:Nd}:∀{s:List Nd},n∈s->sz (pN qT cT n)<=sz (pS qT cT over sep s)
 |a::r,h=>by
  have e:sz (pS qT cT over sep (a::r))=sz (pP qT cT over a)+sz (pB qT cT over sep r):=by rw[pS,Xl];rfl
  rcases List.mem_cons.1 h with rfl|h
  ·have:=Dv over n
   omega
  ·have:=z3X over sep h
   omega
theorem Hx(over:Nat){n:Nd}:∀{s:List Nd},n∈s->dN n<=dS over s
 |a::r,h=>by
  rw[Uk];rcases List.mem_cons.1 h with rfl|h
  ·have:dN n<=dP over n:=by unfold dP;split<;>omega
   omega
  ·have:=Hx over h
   omega
theorem y1Q{kd:Nat}{C p:Nat}{s:List Nd}(hv:Vk (.mk kd T C s p)){n:Nd}(h:n∈s):sz (pN qT cT n)<=sz (pN qT cT (.mk kd T C s p))/\dN n<=dN (.mk kd T C s p):=by
 rw[Vk]at hv;rw[pN,dN];rcases hv.1 with⟨_,_,_,rfl⟩|⟨_,_,rfl⟩|⟨_,_,rfl⟩|⟨_,_,_,rfl⟩|⟨_,_,rfl⟩|⟨h67,_,_,h2⟩|⟨h8,h12,_,_,h1⟩
 ·simp at h
 ·simp at h
 ·simp at h
 ·simp at h
 ·simp at h
 ·rcases h67 with rfl|rfl
  ·simp only[Nat.reduceEqDiff,if_false,if_true]
   exact⟨Sc 6 bSp h,Hx 6 h⟩
  ·simp only[Nat.reduceEqDiff,if_false,if_true]
   exact⟨Sc 7 bSl h,Hx 7 h⟩
 ·have hk1:¬kd=1:=by omega
  have hk2:¬kd=2:=by omega
  have hk3:¬kd=3:=by omega
  have hk4:¬kd=4:=by omega
  have hk5:¬kd=5:=by omega
  have hk6:¬kd=6:=by omega
  have hk7:¬kd=7:=by omega
  simp only[if_neg hk1,if_neg hk2,if_neg hk3,if_neg hk4,if_neg hk5,if_neg hk6,if_neg hk7];have h3:=Sc kd bE h;refine⟨?_,Hx kd h⟩;by_cases h11:kd=11∨kd=12
  ·rw[if_pos h11,sz];omega
  ·rw[if_neg h11,Xl];omega
theorem z3Y{n:Nat}:∀{s:List RT} {q:List Nd},TqL s q->∀(j:Nat) (h1:j<s.length),∃h2:j<q.length,Tq s[j] q[j]
 |[],_,_,j,h1=>by simp at h1
 |_::_,[],h,_,_=>by simp[TqL]at h
 |t::r,n::q,h,0,_=>by rw[TqL]at h;exact⟨by simp,h.1⟩
 |t::r,a::q,h,j+1,h1=>by
  rw[TqL]at h;obtain⟨h2,h3⟩:=z3Y (n:=n) h.2 j (by simpa using h1);exact⟨by simpa using h2,h3⟩
theorem z3Z{Nm:ByteArray->Prop}:∀{s:List Nd},WfL Nm s->∀n∈s,Wf Nm n
 |[],_,n,h=>by simp at h
 |a::r,h,n,hn=>by
  rw[WfL]at h;rcases List.mem_cons.1 hn with rfl|hn
  ·exact h.1
  ·exact z3Z h.2 n hn
structure Fit (l:List ByteArray) (t:RT):Prop where
 ok:okT t=true
 z:RtZ t
 txt:∃nd,Tq t nd/\Vk nd/\Wf Nmq nd/\sz (pN qT cT nd)<=8186/\dN nd<=24
 rf:∀y∈rfT t,inN y.1 l=true
theorem Sl{a b c d p:Int}{s:List RT}(h:okT (.mk 5 T a b c d s p)=true):s=[]:=by
 rw[okT,Bool.and_eq_true]at h;have:=h.1;unfold okN at this;rw[if_neg (by decide),if_neg (by decide),if_neg (by decide),if_pos rfl,Bool.and_eq_true,Bool.and_eq_true]at this;have h2:=this.2.2;simp at h2;have hs:Qp s=0:=by omega
 rw[Xd]at hs;exact List.eq_nil_of_length_eq_zero hs
theorem Fit.sub{l:List ByteArray}{k a b c d p:Int}{s:List RT}(h:Fit l (.mk k T a b c d s p))(j:Nat)(hj:j<s.length):Fit l s[j]:=by
 obtain⟨hok,hz,⟨nd,hq,hv,hw,hs,hd⟩,hr⟩:=h;obtain⟨kd,T',C,s',p'⟩:=nd;have hk5:k≠5:=fun e=>by
  subst e;have:=Sl hok;subst this;simp at hj
 rw[okT,Bool.and_eq_true]at hok;rw[RtZ]at hz;rw[Tq]at hq;obtain⟨h2,h3⟩:=z3Y (n:=0) hq.2.2.2.2.2.2 j hj;have hpn:=y1Q hv (List.getElem_mem h2);rw[Vk]at hv;rw[Wf]at hw;refine⟨Cm hok.2 j hj,hz.2.get j hj,⟨s'[j],h3,hv.2.mem _ (List.getElem_mem h2),z3Z (by first|exact hw.2.2|exact hw.2.2.2|exact hw.2) _ (List.getElem_mem h2),by omega,by omega⟩,fun y hy=>hr y ?_⟩;rw[rfT,if_neg hk5];exact Sp (List.getElem_mem hj) hy
theorem z4a{x:Rl}(hx:1<=x.1.size):∀{ns:List Rl},x∈ns->sz (pN qT cT x.2.1)+6<=sz (pR qT cT ns)
 |y::r,h=>by
  have e1:bAr.size=4:=by decide
  have e2:bNl.size=1:=by decide
  rw[pR,sz,sz,Xl,sz];rcases List.mem_cons.1 h with rfl|h
  ·omega
  ·have:=z4a hx h
   omega
theorem z4b{x:Rl}:∀{ns:List Rl},x∈ns->dN x.2.1<=dR ns
 |y::r,h=>by
  rw[dR];rcases List.mem_cons.1 h with rfl|h
  ·omega
  ·have:=z4b h
   omega
theorem Tz{rs:List Rr}(hp:PrG rs)(hck:ckR rs=none)(hz:RgZ rs)(hx:x∈rs):Fit (nmL rs) x.2.1:=by
 obtain⟨hok,ns,hq,hn,hs,hd⟩:=hp;obtain⟨j,hj,rfl⟩:=List.getElem_of_mem hx;have hj2:j<ns.length:=by rw[hq.len];exact hj
 have h1:=hq.get j hj hj2;have ho:=Gl hok _ (List.getElem_mem hj);obtain⟨r1,r2,r3⟩:=hn _ (List.getElem_mem hj2);have h6:=z4a (Sx r1) (List.getElem_mem hj2);have h7:=z4b (List.getElem_mem hj2);exact⟨ho.2,(hz _ (List.getElem_mem hj)).2,⟨_,h1.2,r2,r3,by omega,by omega⟩,fun y hy=>Az (Ec hck) y (Kf.2 ⟨_,List.getElem_mem hj,hy⟩)⟩
theorem y1R{nd:Nd}(hv:Vk nd)(hw:Wf Nmq nd)(hs:sz (pN qT cT nd)<=8186)(hd:dN nd<=24):(exS nd).size≠0:=by
 have hz:sz (pR qT cT [(bA,nd,0)])<=8192:=by
  rw[pR,pR];simp only[sz,Xl];have e1:bA.size=1:=rfl;have e2:bAr.size=4:=by decide
  have e3:bNl.size=1:=by decide
  omega
 have hdr:dR [(bA,nd,0)]<=24:=by
  rw[dR,dR];simp only;omega
 unfold exS;rw[if_neg (by omega)];have h1:=Ob (pN qT cT nd);have h2:=y1C nd hv hw;omega
mutual
theorem z4c{l:List ByteArray}:∀t:RT,(∀y∈rfT t,inN y.1 l=true)->hrT l t=true
 | .mk k T a b c d s p,h=>by
   rw[hrT];rw[rfT]at h;by_cases h5:k=5
   ·rw[if_pos h5]at h ⊢
    exact h (T,p) (by simp)
   ·rw[if_neg h5]at h ⊢
    exact z4d s h
theorem z4d{l:List ByteArray}:∀s:List RT,(∀y∈rfL s,inN y.1 l=true)->hrL l s=true
 |[],_=>by rw[hrL]
 |t::r,h=>by
  rw[rfL]at h;rw[hrL,z4c t (fun y hy=>h y (List.mem_append.2 (.inl hy))),z4d r (fun y hy=>h y (List.mem_append.2 (.inr hy)))];rfl
end
open Go.Maps
theorem y1S(so:Option Addr)(n cap:Nat)(rs:List Rr)(K:ByteArray->Ot)(k:Int)(T:ByteArray)(a b c d p:Int)(so1:Option Addr)(n1 cap1:Nat)(t:RT)(B B1:Nat)(w:World)(h:Qv w B so n (bG rs K))(hB:B<=w.heap.size)(hok:okG rs=true)(hck:ckR rs=none)(hz:RgZ rs)(hT:TabIs w)(ht:Qj w B1 t (r8 k T a b c d so1 n1 cap1 p))(hB1:B1<=w.heap.size)(hf:Fit (nmL rs) t):
  ∀W:World,Below w.heap.size w W->Calls prog 170 #[.agg #[.slice so n cap],.agg (r8 k T a b c d so1 n1 cap1 p).toArray] W fun e w'=>e=.returned (.tuple #[ov (ofT K t),.nilIface])/\Below W.heap.size W w':=fun W hW=>by
 obtain⟨hokT,htz,⟨nd,hq,hv,hw,hs,hd⟩,hrf⟩:=hf;have hbz:=y1w K hz;have hbck:=y1v K hck;have hbok:=z3Q K hok;obtain⟨hX,hC⟩:=y1r so n cap (bG rs K) B w hbz h hB hT (y1B K hok) hbck;have ht:=Qj.upto hB1 t _ ht;have hup:∀{W'},Below W.heap.size W W'->Below w.heap.size w W':=fun hW'=>hW.trans (hW'.mono hW.size)
 have hN:∀W':World,Below W.heap.size W W'->Calls prog 167 #[.agg #[.slice so n cap]] W' fun e w'=>e=.returned .nilIface/\Below W'.heap.size W' w':=fun W' hW'=>(z2V so n cap (bG rs K) none W' (hC.from (hup hW'))).mono fun e w' he=>by
  obtain⟨v,h1,h2,h3⟩:=he;have h2:v=.nilIface:=h2;rw[h1,h2];exact⟨rfl,h3⟩
 have hE:∀W':World,Below W.heap.size W W'->Calls prog 202 #[.agg (r8 k T a b c d so1 n1 cap1 p).toArray] W' fun e w'=>e=.returned (.string (exS nd))/\Below W'.heap.size W' w':=fun W' hW'=>
  y1d k T a b c d p so1 n1 cap1 t nd W' (hT.below (hup hW') hT.lt) (Qj.upto (hup hW').size t _ (ht.below (hup hW'))) htz hq hv hw
 have hH:∀W':World,Below W.heap.size W W'->Calls prog 203 #[.agg #[.slice so n cap],.agg (r8 k T a b c d so1 n1 cap1 p).toArray] W' fun e w'=>e=.returned (.bool true)/\Below W'.heap.size W' w':=fun W' hW'=>by
  have:=z3C (nmL (bG rs K)) (bG rs K) rfl so n cap B _ t _ w.heap.size W' (Nat.lt_succ_self _) (ht.below (hup hW')) (hup hW').size (h.below ((hup hW').mono hB)) (Nat.le_trans hB (hup hW').size);rw[Sd,z4c t hrf]at this;exact this
 refine(y1g so n cap (bG rs K) k T a b c d so1 n1 cap1 p t W (exS nd) (y1i (y1R hv hw hs hd)) hN hE hH (fun W' hW'=>z3F so n cap (bG rs K) B W' (h.below ((hup hW').mono hB)) (Nat.le_trans hB (hup hW').size) hbz hbok hbck) (fun W' M nn m hW' hNm=>z3x M nn (itr (bG rs K) m) t _ W' w.heap.size (ht.below (hup hW')) (hup hW').size htz hokT hNm)).mono fun e w' he=> ?_
 obtain⟨m,h1,h2,h3⟩:=he;rw[y1y hck h1 t hrf]at h2;exact⟨h2,h3⟩
theorem y1T(so:Option Addr)(n cap:Nat)(k:Int)(T:ByteArray)(a b c d p:Int)(so1:Option Addr)(n1 cap1:Nat)(y:Ot)(w:World)
  (HE:Hid (∀W:World,Below w.heap.size w W->Calls prog 170 #[.agg #[.slice so n cap],.agg #[.int .i64 k,.string T,.int .u64 a,.int .u64 b,.int .u64 c,.int .u64 d,.slice so1 n1 cap1,.int .i64 p]] W fun e w'=>e=.returned (.tuple #[ov y,.nilIface])/\Below W.heap.size W w')):
  Calls prog 137 #[.agg #[.slice so n cap],.agg #[.int .i64 k,.string T,.int .u64 a,.int .u64 b,.int .u64 c,.int .u64 d,.slice so1 n1 cap1,.int .i64 p]] w fun e w'=>e=.returned (ov y)/\Below w.heap.size w w':=by
 obtain⟨y1,y2,y3⟩:=y;obtain⟨W1,hW1⟩:∃W1,W1=((w.alloc (.cells #[.slice so n cap] 24)).alloc (.cells #[.int .i64 k,.string T,.int .u64 a,.int .u64 b,.int .u64 c,.int .u64 d,.slice so1 n1 cap1,.int .i64 p] 71)).alloc (.cells #[.bool false,.bool false,.bool false] 199):=⟨_,rfl⟩;have hB1:Below w.heap.size w W1:=by rw[hW1];exact(((Below.refl _ w).alloc L0q _).alloc (by simp) _).alloc (by simp;omega) _
 have HR1:Hid (W1.heap[w.heap.size+1+1]? =some (.cells #[.bool false,.bool false,.bool false] 199)):=by rw[hW1];exact Qx _ _ (by simp)
 have HS:=hid (HE.out W1 hB1);have HB1:=hid hB1;have HW1:=hid hW1;dsimp only[ov]at HS;clear hW1 hB1 HE;go_enter func137,ntmps137
 go_wp2_with fail
 rw[<-HW1.out];refine HS.out.mono ?_;rintro e w2 ⟨rfl,hb2⟩;have HB2:=hid (HB1.out.trans (hb2.mono HB1.out.size));have hr2:=(hb2.block _ (Qz HR1.out)).trans HR1.out;obtain⟨⟨u0,u1,u2⟩,f0,f1,f2⟩:=Zz hr2;have lr:=Qz hr2;have HR2:=hid hr2;clear hb2 HS HW1 HR1 HB1 hr2
 go_wp2_with fail
 have hP:=Vy (v0:=.bool y1) (v1:=.bool y2) (v2:=.bool y3) HR2.out;have hPA:((((w2.setCell ⟨w.heap.size+1+1,0,none⟩ (.bool y1)).setCell ⟨w.heap.size+1+1,1,none⟩ (.bool y2)).setCell ⟨w.heap.size+1+1,2,none⟩ (.bool y3)).alloc (.cells #[.bool y1,.bool y2,.bool y3] 199)).heap[w.heap.size+1+1]? =some (.cells #[.bool y1,.bool y2,.bool y3] 199):=(Below.heap_alloc _ _ _ (Qz hP)).trans hP;obtain⟨⟨r0,r1,r2⟩,_⟩:=Zz hPA;refine bodyPost_ret (v:=.agg #[.bool y1,.bool y2,.bool y3]) (by simp[results,Tryz.results137,go_sem,r0,r1,r2]) rfl ?_;have hB3:=HB2.out.grown (Xj w2 (w.heap.size+1+1) (.bool y1) (.bool y2) (.bool y3)) HB2.out.size (fun g e=>by have:=Option.some.inj e;omega);exact⟨rfl,hB3.alloc hB3.size _⟩
theorem z4e(so:Option Addr)(n cap:Nat)(rs:List Rr)(K:ByteArray->Ot)(k:Int)(T:ByteArray)(a b c d p:Int)(so1:Option Addr)(n1 cap1:Nat)(t:RT)(B B1:Nat)(w:World)(h:Qv w B so n (bG rs K))(hB:B<=w.heap.size)(hok:okG rs=true)(hck:ckR rs=none)(hz:RgZ rs)(hT:TabIs w)(ht:Qj w B1 t (r8 k T a b c d so1 n1 cap1 p))(hB1:B1<=w.heap.size)(hf:Fit (nmL rs) t):
  Calls prog 137 #[.agg #[.slice so n cap],.agg #[.int .i64 k,.string T,.int .u64 a,.int .u64 b,.int .u64 c,.int .u64 d,.slice so1 n1 cap1,.int .i64 p]] w fun e w'=>e=.returned (ov (ofT K t))/\Below w.heap.size w w':=
 y1T so n cap k T a b c d p so1 n1 cap1 _ w (hid (y1S so n cap rs K k T a b c d p so1 n1 cap1 t B B1 w h hB hok hck hz hT ht hB1 hf))
theorem z4f{W':World}{rB ub o0 o1 o2:Nat}{v0 v1 v2 v3 v4:Value}(h:W.cell? ⟨sB,0,none⟩=some v0/\W.cell? ⟨rB,0,none⟩=some v1/\W.cell? ⟨ub,o0,none⟩=some v2/\W.cell? ⟨ub,o1,none⟩=some v3/\W.cell? ⟨ub,o2,none⟩=some v4)(hb:Below W.heap.size W W'):W'.cell? ⟨sB,0,none⟩=some v0/\W'.cell? ⟨rB,0,none⟩=some v1/\W'.cell? ⟨ub,o0,none⟩=some v2/\W'.cell? ⟨ub,o1,none⟩=some v3/\W'.cell? ⟨ub,o2,none⟩=some v4:=by
 obtain⟨h0,h1,h2,h3,h4⟩:=h;have e:∀{a:Addr} {u:Value},W.cell? a=some u->W'.cell? a=some u:=fun{a u} h=>(hb.cell (p:=a) (World.block_lt_of_cell? W _ h)).trans h
 exact⟨e h0,e h1,e h2,e h3,e h4⟩
theorem y1U{W':World}{rB ub o0 o1 o2:Nat}{v0 v1 v2 v3 v4:Value}{row:Option Nat}(h:W.cell? ⟨sB,0,none⟩=some v0/\W.cell? ⟨rB,0,none⟩=some v1/\W.cell? ⟨ub,o0,none⟩=some v2/\W.cell? ⟨ub,o1,none⟩=some v3/\W.cell? ⟨ub,o2,none⟩=some v4)(n0:some sB≠row)(n1:some rB≠row)(n2:some ub≠row)(hg:W.grownBy W' row):W'.cell? ⟨sB,0,none⟩=some v0/\W'.cell? ⟨rB,0,none⟩=some v1/\W'.cell? ⟨ub,o0,none⟩=some v2/\W'.cell? ⟨ub,o1,none⟩=some v3/\W'.cell? ⟨ub,o2,none⟩=some v4:=by
 obtain⟨h0,h1,h2,h3,h4⟩:=h;have e:∀{a:Addr} {u:Value},some a.block≠row->W.cell? a=some u->W'.cell? a=some u:=fun{a u} hne h=>(hg.cell_far a (World.block_lt_of_cell? W _ h) hne).trans h
 exact⟨e n0 h0,e n1 h1,e n2 h2,e n2 h3,e n2 h4⟩
theorem y1V(nm:ByteArray)(y1 y2 y3:Bool)(w:World):Calls prog 134 #[.string nm,.agg #[.bool y1,.bool y2,.bool y3]] w (CnA (sI nm (y1,y2,y3)) w):=by
 cases y1<;>cases y2<;>cases y3
 ·exact y1I nm w
 ·exact y1G nm w
 ·exact y1L nm w
 ·exact y1H nm w
 ·exact y1F nm w
 ·exact y1K nm w
 ·exact y1J nm w
 ·exact y1M nm w
def BfP(rs:List Rr)(X:Option (Int ⊕ (Int×Int)))(W:World)(e:Ending)(w':World):Prop:=Below W.heap.size W w'/\
 ((X≠none/\∃v,e=.returned (.tuple #[.agg #[.slice none 0 0],v])/\Zv X W.heap.size w' v)∨
  (X=none/\∃so' cap' m,e=.returned (.tuple #[.agg #[.slice so' rs.length cap'],.nilIface])/\Yk (itr rs m) rs/\Qv w' w'.heap.size so' rs.length (bG rs (itr rs m))))
theorem y1W(so:Option Addr)(n cap:Nat)(X:Option (Int ⊕ (Int×Int)))(w:World)
  (HC:Hid (∀W:World,Below w.heap.size w W->Calls prog 133 #[.agg #[.slice so n cap]] W fun e w'=>∃tt uu,e=.returned (.tuple #[.slice none 0 0,.iface tt uu])/\Zv X W.heap.size w' (.iface tt uu)/\Below W.heap.size W w')):
  Calls prog 100 #[.agg #[.slice so n cap]] w fun e w'=>∃v,e=.returned (.tuple #[.agg #[.slice none 0 0],v])/\Zv X w.heap.size w' v/\Below w.heap.size w w':=by
 obtain⟨W1,hW1⟩:∃W1,W1=(w.alloc (.cells #[.slice so n cap] 24)).alloc (.cells #[.slice none 0 0] 24):=⟨_,rfl⟩;have hB1:Below w.heap.size w W1:=by rw[hW1];exact((Below.refl _ w).alloc L0q _).alloc (by simp) _
 have HR1:Hid (W1.heap[w.heap.size+1]? =some (.cells #[.slice none 0 0] 24)):=by rw[hW1];exact Qx _ _ (by simp)
 have HS:=hid (HC.out W1 hB1);have HB1:=hid hB1;have hs1:=Qz HR1.out;have HW1:=hid hW1;clear hW1 hB1 HC;go_enter func100,ntmps100
 go_wp2_with fail
 rw[<-HW1.out];refine HS.out.mono ?_;rintro e w2 ⟨tt,uu,rfl,hv,hb2⟩;have hr2:=(hb2.block _ (Qz HR1.out)).trans HR1.out;obtain⟨u0,f0⟩:=Qk hr2;have lr:=Qz hr2;have HR2:=hid hr2;have HV:=hid hv;have HB2:=hid (HB1.out.trans (hb2.mono HB1.out.size));have HSz:=hid HB1.out.size;clear hv hb2 hr2 HS HW1 HR1 HB1
 go_wp2_with fail
 have r0:=(Qk (Qb HR2.out 0 (.slice none 0 0))).1;refine bodyPost_ret (v:=.tuple #[.agg #[.slice none 0 0],.iface tt uu]) (by simp[results,Tryz.results100,go_sem,r0]) rfl ?_;exact⟨_,rfl,(HV.out.kept (grownBy_setCell' _ _ _) hs1).lo HSz.out,HB2.out.setCell (p:=⟨w.heap.size+1,0,none⟩) (by show w.heap.size<=_+1;omega) _⟩
theorem z4g(rs:List Rr)(K:ByteArray->Ot):(bG rs K).length=rs.length:=List.length_map _
theorem y1X(rs:List Rr)(K:ByteArray->Ot)(j:Nat)(hj:j<rs.length){hj':j<(bG rs K).length}:(bG rs K)[j]=(rs[j].1,sI rs[j].1 (K rs[j].1),0):=by simp[bG]
theorem PqR.put{w2:World}{j:Nat}{ps:List Rr}{xs:List Value}{a v u:Value}(h:PqR w2 j ps xs a W)(hs:W.heap[sB]? =some (.cells #[u] 24))(hB:w2.heap.size<=sB):PqR w2 j ps xs a (W.setCell ⟨sB,0,none⟩ v):=by
 refine⟨h.be.setCell (p:=⟨sB,0,none⟩) hB _,h.ow.kept (grownBy_setCell' _ _ _) (.inr (Gp h.ow hs (fun cur e=>by cases e))),Zw.kept (fun g cur hp hq=>⟨Below.heap_setCell _ _ _ _ (fun e=> ?_),hp⟩) _ _ h.rq⟩;have e2:g=sB:=e;subst e2;rw[hs]at hq;cases hq
theorem y1Y(so:Option Addr)(n cap:Nat)(rs:List Rr)(w:World)(h:Qv w w.heap.size so n rs)(hn:n<=1048576)
  (HC:Hid (∀W:World,Below w.heap.size w W->Calls prog 133 #[.agg #[.slice so n cap]] W (RuP rs none W))):
  Calls prog 100 #[.agg #[.slice so n cap]] w (BfP rs none w):=by
 obtain⟨iT,hiT,hzT0,hzT1,hzT2⟩:=info_parts Tryz.infoRl;obtain⟨W1,hW1⟩:∃W1,W1=(w.alloc (.cells #[.slice so n cap] 24)).alloc (.cells #[.slice none 0 0] 24):=⟨_,rfl⟩;have hB1:Below w.heap.size w W1:=by rw[hW1];exact((Below.refl _ w).alloc L0q _).alloc (by simp) _
 have HR1:Hid (W1.heap[w.heap.size+1]? =some (.cells #[.slice none 0 0] 24)):=by rw[hW1];exact Qx _ _ (by simp)
 have HG1:Hid (W1.heap[w.heap.size]? =some (.cells #[.slice so n cap] 24)):=by rw[hW1];exact(Below.heap_alloc _ _ _ (by simp)).trans (Qx w _ rfl)
 have HS:=hid (HC.out W1 hB1);have HB1:=hid hB1;have HW1:=hid hW1;have HG:=hid h;have HNl:Hid (n=rs.length):=h.1;clear hW1 hB1 HC h;go_enter func100,ntmps100
 go_wp2_with fail
 rw[<-HW1.out];refine HS.out.mono ?_;rintro e w2 ⟨hb2,hre⟩;rcases hre with⟨hx,_⟩|⟨_,ub,m,cs,rfl,hub,hfx,hcs,hou⟩
 ·exact absurd rfl hx
 rw[<-HNl.out];obtain⟨KK,hKK⟩:∃KK,KK=itr rs m:=⟨_,rfl⟩;have HFx:=hid hfx;have HKK:Hid (KK=itr rs m):=hKK;rw[<-hKK]at hou;have HOu:=hid hou;have HCs:=hid hcs;have HB2:=hid (HB1.out.trans (hb2.mono HB1.out.size));have HR2:=hid ((hb2.block _ (Qz HR1.out)).trans HR1.out);have HG2:=hid ((hb2.block _ (Qz HG1.out)).trans HG1.out);obtain⟨g2,_⟩:=Qk HG2.out;have lg2:=Qz HG2.out;obtain⟨W3,hW3⟩:∃W3,W3=w2.alloc (.cells #[.slice none 0 0] 24):=⟨_,rfl⟩;have HC0:Hid (PqR w2 0 (bG rs KK) [] (.slice none 0 0) W3):=by
  rw[hW3];exact⟨B0q.alloc L0q _,World.ownsRow_nil _ _ _ _,by rw[List.take_zero,Zw];trivial⟩
 have HSb0:Hid (W3.heap[w2.heap.size]? =some (.cells #[.slice none 0 0] 24)):=by rw[hW3];exact Qx _ _ rfl
 clear HS HW1 HR1 HG1 HB1 hb2 hcs hou hfx hKK hub
 go_wp2_with fail
 rw[<-hW3];clear hW3 g2 lg2;obtain⟨sB,hsB⟩:∃sB,sB=w2.heap.size:=⟨_,rfl⟩;rw[<-hsB]at HSb0 ⊢;have HsB:Hid (sB=w2.heap.size):=hsB;clear hsB
 go_loopw [21] (fun i wr=>∃(j:Nat) (xs:List Value) (v:Value),i=.int .i64 j/\j<=n/\Hid (PqR w2 j (bG rs KK) xs v wr)/\Hid (wr.heap[sB]? =some (.cells #[v] 24))) (fun i _=>n-(intOf i).toNat)
 case atStart=>exact⟨0,[],_,rfl,Nat.zero_le _,HC0,HSb0⟩
 case round=>
  obtain⟨j,xs,v,rfl,hj,HP,HSb⟩:=hrel;clear HC0 HSb0;have HBw:=hid (HB2.out.trans (HP.out.be.mono HB2.out.size));obtain⟨sa,sca,rfl⟩:=z0m HP.out.ow;by_cases hjn:j<n
  ·have hjI:(j:Int)<(n:Int):=by omega
   have a0:decide ((j:Int)<(n:Int))=true:=by simp;omega
   have hjs:j<rs.length:=by rw[<-HNl.out];exact hjn
   have hjp:j<(bG rs KK).length:=by rw[z4g];exact hjs
   obtain⟨g,o,rfl,hg,k1,T1,a1,b1,c1,d1,so1,n1,cap1,p1,hrt,r0⟩:=HG.out.2.2 j hjs;have hce:∀q,wr.cell? ⟨g,q,none⟩=w.cell? ⟨g,q,none⟩:=fun q=>HBw.out.cell (p:=⟨g,q,none⟩) hg
   simp only[<-hce]at r0;obtain⟨z0,z1,z2,z3,z4,z5,z6,z7,z8,z9⟩:=r0;have hgl:g<wr.heap.size:=World.block_lt_of_cell? wr _ z0;obtain⟨N0,hN0⟩:∃N0,N0=rs[j].1:=⟨_,rfl⟩;obtain⟨q1,hq1⟩:∃q1,q1=rs[j].2.2:=⟨_,rfl⟩;rw[<-hN0]at z0;rw[<-hq1]at z9;obtain⟨⟨y1,y2,y3⟩,hy⟩:∃y,y=KK N0:=⟨_,rfl⟩;have hXx:(N0,sI N0 (y1,y2,y3),(0:Int))=(bG rs KK)[j]:=by
    rw[y1X rs KK j hjs,hy,hN0]
   have HXx:=hid hXx;obtain⟨e0,e1,e2⟩:=HOu.out.2 j hjs hjs;rw[<-hN0,<-hy]at e0 e1 e2;have hcu:=(HP.out.be.block _ (Qz HCs.out)).trans HCs.out;have x0:=(Zc hcu _ _ e0).1;have x1:=(Zc hcu _ _ e1).1;have x2:=(Zc hcu _ _ e2).1;have lu:=Qz hcu;have hul:ub<w2.heap.size:=Qz HCs.out;obtain⟨t0,t1⟩:=Qk HSb.out;have lsb:=Qz HSb.out;have hbe:=HP.out.be.size;have HSt:=hid (y1V N0 y1 y2 y3);clear hrt hce hN0 hq1 hy hXx e0 e1 e2 hcu
   go_wp2_with fail
   obtain⟨W4,hW4⟩:∃W4,W4=wr.alloc (.cells #[.string N0,.int .i64 k1,.string T1,.int .u64 a1,.int .u64 b1,.int .u64 c1,.int .u64 d1,.slice so1 n1 cap1,.int .i64 p1,.int .i64 q1] 73):=⟨_,rfl⟩;have HB4:Hid (Below wr.heap.size wr W4.drew):=by rw[hW4];exact((Below.refl _ wr).alloc L0q _).drew
   have hs4:W4.drew.heap.size=wr.heap.size+1:=by rw[hW4];exact World.size_alloc _ _
   obtain⟨rB,hrB⟩:∃rB,rB=wr.heap.size:=⟨_,rfl⟩;have HS0:Hid (W4.drew.cell? ⟨sB,0,none⟩=some (.slice sa j sca)/\W4.drew.cell? ⟨rB,0,none⟩=some (.string N0)/\W4.drew.cell? ⟨ub,j*3,none⟩=some (.bool y1)/\W4.drew.cell? ⟨ub,j*3+1,none⟩=some (.bool y2)/\W4.drew.cell? ⟨ub,j*3+2,none⟩=some (.bool y3)):=by
    have e:∀{a:Addr} {u:Value},wr.cell? a=some u->W4.drew.cell? a=some u:=fun{a u} h=>(HB4.out.cell (p:=a) (World.block_lt_of_cell? wr _ h)).trans h
    refine⟨e t0,?_,e x0,e x1,e x2⟩;rw[hW4,hrB];exact(Zc (Qx wr _ rfl) 0 _ rfl).1
   rw[<-hW4,<-hrB];have HSz:Hid (∀w3,Hid (Below W4.drew.heap.size W4.drew w3)->w2.heap.size<=w3.heap.size/\sB<w3.heap.size):=fun w3 h=>by
    have:=h.out.size;constructor<;>omega
   have HSb3:Hid (∀w3,Hid (Below W4.drew.heap.size W4.drew w3)->w3.heap[sB]? =some (.cells #[.slice sa j sca] 24)):=fun w3 h=>(h.out.block _ (by omega)).trans ((HB4.out.block _ lsb).trans HSb.out)
   have HOw:Hid (∀w3,Hid (Below W4.drew.heap.size W4.drew w3)->w3.ownsRow w2.heap.size 73 10 (.slice sa j sca) j xs):=fun w3 h=>Ux (Ux HP.out.ow HB4.out) h.out
   have HNe:Hid (some sB≠(Value.slice sa j sca).ownBlock):=fun e=>Gp HP.out.ow HSb.out (fun cur e=>by cases e) e.symm
   have HNr:Hid (some rB≠(Value.slice sa j sca).ownBlock):=fun e=>by have:=(HP.out.ow.lt _ e.symm).2;omega
   have HNu:Hid (some ub≠(Value.slice sa j sca).ownBlock):=fun e=>by have:=(HP.out.ow.lt _ e.symm).1;omega
   have HrB:Hid (rB=wr.heap.size):=hrB;have m1:j+1<=maxLen:=by unfold maxLen;omega
   have m2:(j+1)*112<=140737488355328:=by omega
   clear hW4 hrB z0 z1 z2 z3 z4 z5 z6 z7 z8 z9 t0 t1 x0 x1 x2;refine Zl 15 (fun W:World=>W.cell? ⟨sB,0,none⟩=some (.slice sa j sca)/\W.cell? ⟨rB,0,none⟩=some (.string N0)/\W.cell? ⟨ub,j*3,none⟩=some (.bool y1)/\W.cell? ⟨ub,j*3+1,none⟩=some (.bool y2)/\W.cell? ⟨ub,j*3+2,none⟩=some (.bool y3)) (by kernel_rfl) HS0.out (fun hHeld=> ?_);refine Qq 0 hHeld ?_;refine Qq 1 hHeld ?_;refine Qq 2 hHeld ?_;refine Qq 3 hHeld ?_;refine Qq 4 hHeld ?_;refine Qq 5 hHeld ?_;refine Qq 6 hHeld ?_;refine Qq 7 hHeld ?_;refine Qq 8 hHeld ?_;refine Qq 9 hHeld ?_
   (refine Qd 10 (fun K hK=> ?_);go_simp;refine(HSt.out _).mono ?_;rintro e w3 ⟨k3,T3,a3,b3,c3,d3,so3,n3,cap3,p3,rfl,HQ3,HB3⟩;go_simp;replace hHeld:=z4f hHeld HB3.out;refine hK.out _ _ hHeld ?_;clear hK K)
   (try simp only[Act.put,List.setIfInBounds_toArray,List.set_cons_zero,List.set_cons_succ])
   refine Qq 11 hHeld ?_
   (refine Qd 12 (fun K hK=> ?_);go_simp;replace hHeld:=z4f hHeld ((Below.refl _ w3).alloc L0q (.cells #[.string N0,.int .i64 k3,.string T3,.int .u64 a3,.int .u64 b3,.int .u64 c3,.int .u64 d3,.slice so3 n3 cap3,.int .i64 p3,.int .i64 0] 73));refine hK.out _ _ hHeld ?_;clear hK K)
   (try simp only[Act.put,List.setIfInBounds_toArray,List.set_cons_zero,List.set_cons_succ])
   (refine Qd 13 (fun K hK=> ?_);refine step_append_lies _ rfl (.tmp 27) (.tmp 38) 22 rfl w2.heap.size 73 iT (.agg #[.string ⟨#[]⟩,.int .i64 0,.string ⟨#[]⟩,.int .u64 0,.int .u64 0,.int .u64 0,.int .u64 0,.slice none 0 0,.int .i64 0,.int .i64 0]) 10 112 Tryz.underlying22 hiT hzT0 hzT1 hzT2 rfl (by decide) (.slice sa j sca) j xs (by rfl) ((HOw.out w3 HB3).alloc _) ⟨w3.heap.size,0,none⟩ 1 1 [.string N0,.int .i64 k3,.string T3,.int .u64 a3,.int .u64 b3,.int .u64 c3,.int .u64 d3,.slice so3 n3 cap3,.int .i64 p3,.int .i64 0] (by rfl) rfl (Bb w3 _ _ _ _ _ _ _ _ _ _ _) (z9X _ _ _ _ _ _ _ _ _ _ _ _) (by decide) m1 m2 (by rw[World.size_alloc];have:=HSz.out w3 HB3;omega) _ rfl ?_;intro g6 cap6 w6 hown6 hgr6 hat6 hlt6;have hS6:=((hgr6.block sB (by rw[World.size_alloc];have:=HSz.out w3 HB3;omega) HNe.out).trans (Below.heap_alloc _ _ _ (HSz.out w3 HB3).2)).trans (HSb3.out w3 HB3);replace hHeld:=y1U hHeld HNe.out HNr.out HNu.out hgr6;refine hK.out _ _ hHeld ?_;clear hK K)
   (try simp only[Act.put,List.setIfInBounds_toArray,List.set_cons_zero,List.set_cons_succ])
   refine Qq 14 hHeld ?_;refine Jh (fun K hK=> ?_);obtain⟨s0,s1⟩:=Qk hS6;have ls:=Qz hS6;clear hHeld
   go_simp
   refine hK.out _ _ ?_;clear hK K;have hst:=PqR.step HP.out hjp HXx.out (HB4.out.trans (HB3.out.mono (by rw[hs4];omega))) ⟨r8 k3 T3 a3 b3 c3 d3 so3 n3 cap3 p3,rfl,Zb.kept (fun g cur hp _=>⟨rfl,Nat.le_trans (by rw[hs4];omega) hp⟩) _ _ HQ3.out⟩ ((Below.refl _ w3).alloc L0q _) hown6 hgr6;have HSt2:=hid (hst.put (v:=.slice (some ⟨g6,0,none⟩) (j+1) cap6) hS6 (by rw[HsB.out];exact Nat.le_refl _));have HSb6:=hid (Qb hS6 0 (.slice (some ⟨g6,0,none⟩) (j+1) cap6));clear hst hown6 hgr6 hat6 hlt6 hS6 HQ3 HB3 s0 s1 HSt HS0
   go_wp2_with fail
   exact⟨⟨j+1,_,_,by go_num,by omega,HSt2,HSb6⟩,by simp[intOf];omega⟩
  ·have a0:decide ((j:Int)<(n:Int))=false:=by simp;omega
   obtain rfl:j=n:=by omega
   have hpl:(bG rs KK).length=j:=by rw[z4g];exact HNl.out.symm
   have hq:=HP.out.rq;rw[List.take_of_length_le (by rw[hpl];exact Nat.le_refl _)]at hq;have hR3:=(HP.out.be.block _ (Qz HR2.out)).trans HR2.out;obtain⟨u0,f0⟩:=Qk hR3;have lr:=Qz hR3;have HR3:=hid hR3;obtain⟨t0,t1⟩:=Qk HSb.out;have lsb:=Qz HSb.out;have hset:wr.grownBy (wr.setCell ⟨w.heap.size+1,0,none⟩ (.slice sa j sca)) (some (w.heap.size+1)):=grownBy_setCell' _ _ _;have HFin:Hid (Qv (wr.setCell ⟨w.heap.size+1,0,none⟩ (.slice sa j sca)) (wr.setCell ⟨w.heap.size+1,0,none⟩ (.slice sa j sca)).heap.size sa j (bG rs KK)):=by
    have ho':=HP.out.ow.kept hset (.inr (fun e=>by have:=(HP.out.ow.lt _ e).1;have:=Qz HR2.out;omega));have hq':Zw (wr.setCell ⟨w.heap.size+1,0,none⟩ (.slice sa j sca)) (fun g=>w2.heap.size<=g) (bG rs KK) xs:=Zw.kept (fun g cur hp _=>⟨Below.heap_setCell _ _ _ _ (fun e=>by have e2:g=w.heap.size+1:=e;have:=Qz HR2.out;omega),hp⟩) _ _ hq;obtain⟨so',cap',ea,hrg⟩:=Zw.is ho' hpl.symm hq';simp only[Value.slice.injEq]at ea;obtain⟨rfl,-,rfl⟩:=ea;exact hrg
   have HBf:Hid (Below w.heap.size w (wr.setCell ⟨w.heap.size+1,0,none⟩ (.slice sa j sca))):=HBw.out.setCell (p:=⟨w.heap.size+1,0,none⟩) (by show w.heap.size<=_+1;omega) _;clear hq hset hR3 hpl
   go_wp2_with fail
   have r0:=(Qk (Qb HR3.out 0 (.slice sa j sca))).1;refine bodyPost_ret (v:=.tuple #[.agg #[.slice sa j sca],.nilIface]) (by simp[results,Tryz.results100,go_sem,r0]) rfl ?_;refine⟨HBf.out,.inr ⟨rfl,sa,sca,m,by rw[<-HNl.out],HFx.out,?_⟩⟩;rw[<-HNl.out,<-HKK.out];exact HFin.out
theorem y1Z(so:Option Addr)(n cap:Nat)(rs:List Rr)(X:Option (Int ⊕ (Int×Int)))(B:Nat)(w:World)(hX:CkX rs X)(hC:CkC so n cap rs X w)(hz:RgZ rs)(h:Qv w B so n rs)(hB:B<=w.heap.size):∀W:World,Below w.heap.size w W->Calls prog 100 #[.agg #[.slice so n cap]] W (BfP rs X W):=fun W hW=>by
 have hup:∀{W'},Below W.heap.size W W'->Below w.heap.size w W':=fun hW'=>hW.trans (hW'.mono hW.size)
 have hRu:=fun(W':World) (hW':Below W.heap.size W W')=>y1m so n cap rs X B w hX hC hz h hB W' (hup hW')
 cases X with
 |some x=>
  refine(y1W so n cap (some x) W (hid fun W' hW'=>(hRu W' hW').mono fun e w' he=> ?_)).mono fun e w' he=> ?_
  ·obtain⟨hb,⟨_,v,h1,h2⟩|⟨h0,_⟩⟩:=he
   ·obtain⟨tt,uu,rfl⟩:=h2.shape (by simp)
    exact⟨tt,uu,h1,h2,hb⟩
   ·cases h0
  ·obtain⟨v,h1,h2,h3⟩:=he
   exact⟨h3,.inl ⟨by simp,v,h1,h2⟩⟩
 |none=>
  have hlen:=(Jb hX.1).2;exact y1Y so n cap rs W ((h.below (hW.mono hB)).upto (Nat.le_trans hB hW.size)) (by have:=h.1;omega) (hid hRu)
end Go.Proofs.YtlogolpcipiceaaGreatDoor
