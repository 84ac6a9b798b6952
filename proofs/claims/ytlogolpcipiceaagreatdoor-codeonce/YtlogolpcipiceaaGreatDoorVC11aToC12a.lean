/- Lemmas for the last text. Conditions: those that each names. -/
import Derived.Test.YtlogolpcipiceaaGreatDoorVC10aToXF
import Derived.Deep.RegionHeld3
import Derived.Deep.AppendLies
import Derived.Deep.RegionLaw
import Derived.Deep.DeepCutAuto
set_option linter.unusedVariables false
set_option maxRecDepth 100000
set_option maxHeartbeats 8000000
namespace Go.Proofs.YtlogolpcipiceaaGreatDoor
open Go.Proofs.Tryz
open Go.RowKit Go.Shelf Go.Maps
variable {x:Rr} {W W' w w2 w5 w6:World} {B M cap5 g g5 n o:Nat} {xs:List Value}
theorem Hf(C i:Nat):(0:Int)<=(wd C i:Nat)/\((wd C i:Nat):Int)<18446744073709551616:=by
 have:=Xq C i;omega
mutual
theorem z4R:∀n:Nd,RtU (toR n)
 | .mk kd T C s p=>by rw[toR,RtU];exact⟨Hf C 0,Hf C 1,Hf C 2,Hf C 3,z4S s⟩
theorem z4S:∀s:List Nd,Vm (Vv s)
 |[]=>by rw[Vv,Vm];trivial
 |n::r=>by rw[Vv,Vm];exact⟨z4R n,z4S r⟩
end
theorem y3s{S:ByteArray}{rs:List Rl}(hp:Vj S=.inr rs)(h1:sz (pR qT cT rs)<=8192)(h2:dR rs<=24):PrG (toG rs):=by
 have hx:∀x∈rs,Ruk Nmq x:=fun x hx=>(Px hp x hx).1
 have hl:=Rm hp;exact⟨Sz (Jl rs) hx hl.2 hl.1,rs,Jl rs,hx,h1,h2⟩
theorem y3t{us:List (List Int)}(h:∀i x:Nat,(x:Int)∈us.getD i []->i<x){x i:Nat}(hr:Rch us x i):x<=i:=by
 induction hr with
 |refl=>exact Nat.le_refl _
 |step _ hm ih=>exact Nat.le_trans ih (Nat.le_of_lt (h _ _ hm))
theorem y3u{us:List (List Int)}(h:∀i x:Nat,(x:Int)∈us.getD i []->i<x)(i:Nat):¬Bck us i:=fun⟨x,hx,hr⟩=>by
 have h1:=h i x hx;have h2:=y3t h hr;omega
@[reducible] def smC:ByteArray:={data:=#[97,32,60,45,32,39,120,39,32,98,32,47,32,39,120,39,32,98,32,60,45,32,39,120,39,42]}
theorem y3v:∀p,p<26->bt smC p≠some 91:=by decide
theorem y3w(p:Nat):bt smC p≠some 91:=fun h=>y3v p (Qh h).1 h
def pgG(rs:List Rr):List Int×List Ox:=mkG (fun T=>fdI T (nmL rs)) rs []
def z4T(x:Nat):Bool:=match Vj smC with
 | .inr rs=>decide (sz (pR qT cT rs)<=8192)&&(decide (dR rs<=24)&&(decide (ckR (toG rs)=none)&&((toG rs).all (fun x=>decide (ofT (itr (toG rs) 6) x.2.1=itr (toG rs) 6 x.1))&&(decide (flG (itr (toG rs) 6) (toG rs)=none)&&(decide ((toG rs).map (fun x=>(fbT (itr (toG rs) 6) x.2.1).map fun s=>fdI s (nmL (toG rs)))=[[],[]])&&(decide ((pgG (toG rs)).1=[3,4])&&decide ((pgG (toG rs)).2.map (fun o=>o.2.1.data.toList)=[[120],[],[],[],[]])))))))
 | .inl _=>false
theorem y3x:∀x,x<1->z4T x=true:=by decide+kernel
theorem y3y:∃rs,Vj smC=.inr rs/\sz (pR qT cT rs)<=8192/\dR rs<=24/\ckR (toG rs)=none/\soZ (toG rs) none=none/\(toG rs).length=2/\(pgG (toG rs)).1=[3,4]/\(pgG (toG rs)).2.map (fun o=>o.2.1.data.toList)=[[120],[],[],[],[]]:=by
 have h:=y3x 0 (by decide);unfold z4T at h;cases hp:Vj smC with
 |inl c=>rw[hp]at h;cases h
 |inr rs=>
  rw[hp]at h;simp only[Bool.and_eq_true,decide_eq_true_eq]at h;obtain⟨h1,h2,h3,h4,h5,h6,h7,h8⟩:=h;have hf:Yk (itr (toG rs) 6) (toG rs):=fun x hx=>by simpa using List.all_eq_true.1 h4 x hx
  have hlen:(toG rs).length=2:=by have:=congrArg List.length h6;simpa using this
  rw[z4t hf]at h5 h6;refine⟨rs,rfl,h1,h2,h3,?_,hlen,h7,h8⟩;have hb:∀i,i<(toG rs).length->¬Bck (bgU (toG rs)) i:=fun i _=>y3u (fun i x hx=>by
   rw[List.getD_eq_getElem?_getD]at hx;unfold bgU at hx;rcases Nat.lt_or_ge i (toG rs).length with hi|hi
   ·rw[List.getElem?_map,List.getElem?_eq_getElem hi]at hx
    have hx:(x:Int)∈bgR (toG rs) (kG (toG rs)) (toG rs)[i]:=hx;obtain⟨s,hs,e⟩:=z3W.1 hx;have hm:(x:Int)∈(fbT (kG (toG rs)) (toG rs)[i].2.1).map (fun s=>fdI s (nmL (toG rs))):=List.mem_map.2 ⟨s,hs,e⟩;have h10:=congrArg (fun l=>l[i]?) h6;simp only[List.getElem?_map,List.getElem?_eq_getElem hi,Option.map_some]at h10;rcases(by omega:i=0∨i=1)with rfl|rfl
    ·rw[show([[],[]]:List (List Int))[0]? =some []from rfl]at h10
     have h10:=Option.some.inj h10;rw[h10]at hm;simp at hm
    ·rw[show([[],[]]:List (List Int))[1]? =some []from rfl]at h10
     have h10:=Option.some.inj h10;rw[h10]at hm;simp at hm
   ·rw[List.getElem?_eq_none (by simpa using hi)]at hx
    simp at hx) i
  unfold soZ flX;simp only;rw[h5,z4w hb];rfl
theorem Kc{e size:Nat}{v:Value}(h:W.ownsRow B e size v n xs)(hn:0<n):∃g c,v=.slice (some ⟨g,0,none⟩) n c/\B<=g/\g<W.heap.size/\∀i u,xs[i]? =some u->W.cell? ⟨g,i,none⟩=some u:=by
 obtain⟨g,c,rfl,h1,h2⟩:=h.form hn;refine⟨g,c,rfl,h1,h2,fun i u hi=> ?_⟩;have hc:=h.cells (g:=g) rfl i u hi;have hadd:(⟨g,0,none⟩:Addr).add i=⟨g,i,none⟩:=by unfold Addr.add;split<;>simp_all
 rw[hadd]at hc;exact hc
theorem y3z{S:ByteArray}{rs:List Rl}(hS:S.size<=8192)(hp:Vj S=.inr rs)(h1:sz (pR qT cT rs)<=8192)(h2:dR rs<=24)(hck:ckR (toG rs)=none)(hZ:soZ (toG rs) none=none)(B g n cap:Nat)(fp:Addr)(W:World)(hr:RoR B (.slice (some ⟨g,0,none⟩) n cap) rs W)(hT:TabIs W)(hF:W.cell? ⟨1,0,none⟩=some (.iface 379 (.pointer (some fp))))(hPw:Yj W):
  Calls prog 11 #[.agg #[.slice (some ⟨g,0,none⟩) n cap]] W (MaQ (fun T=>fdI T (nmL (toG rs))) (toG rs) False W):=by
 obtain⟨hi,hz,hX,hC⟩:=z9R hS hp h1 h2 B g n cap W hr hT;have e0:xOf (toG rs)=none:=by unfold xOf;rw[hck];rfl
 rw[e0]at hX hC;have hU:RgU (toG rs):=fun x hx=>by
  obtain⟨y,_,rfl⟩:=List.mem_map.1 hx;exact z4R y.2.1
 refine(Tp _ n cap (toG rs) none W.heap.size fp W hX (fun _=>y3s hp h1 h2) hC hz hU hi L0q hT hF hPw W B0q).mono fun e w' he=> ?_
 obtain⟨hb,h⟩:=he;refine⟨hb,?_⟩;rcases h with⟨h,_⟩|⟨_,h⟩|⟨_,h⟩
 ·exact absurd hZ h
 ·exact .inr (.inl ⟨id,h⟩)
 ·exact .inr (.inr ⟨id,h⟩)
theorem y3A(n:Nat)(rs:List Rl)(S:ByteArray)(hS:S=smC)(w:World)
  (HPA:Hid (Calls prog 29 #[.string smC] w fun e w'=>∃g cap,e=.returned (.tuple #[.agg #[.slice (some ⟨g,0,none⟩) n cap],.nilIface])/\Hid (RoR w.heap.size (.slice (some ⟨g,0,none⟩) n cap) rs w')/\Hid (Below w.heap.size w w')))
  (HM:Hid (∀(g cap:Nat) (W:World),RoR w.heap.size (.slice (some ⟨g,0,none⟩) n cap) rs W->Below w.heap.size w W->Calls prog 11 #[.agg #[.slice (some ⟨g,0,none⟩) n cap]] W fun e w'=>∃go oc nso nn nc gr rc,e=.returned (.tuple #[.agg #[.slice (some ⟨go,0,none⟩) 5 oc,.slice nso nn nc,.slice (some ⟨gr,0,none⟩) 2 rc],.nilIface])/\w'.cell? ⟨gr,0,none⟩=some (.int .i64 3)/\w'.cell? ⟨gr,1,none⟩=some (.int .i64 4)/\w'.cell? ⟨go,1,none⟩=some (.string {data:=#[120]})/\Below W.heap.size W w')):
  Calls prog 9 #[] w fun e w'=>e=.returned (.bool true)/\Hid (Below w.heap.size w w'):=by
 go_enter func9,ntmps9
 go_wp2_with fail
 refine HPA.out.mono ?_;rintro e w1 ⟨g,cap,rfl,HRo,HB⟩;obtain⟨u1,hu1⟩:∃u1,u1=w1.alloc (.cells #[.slice (some ⟨g,0,none⟩) n cap] 24):=⟨_,rfl⟩;have hb11:Below w1.heap.size w1 u1:=by rw[hu1];exact(Below.refl _ w1).alloc L0q _
 have HBu:=hid (HB.out.trans (hb11.mono HB.out.size));have HC1:=hid (HM.out g cap u1 (HRo.out.below hb11) HBu.out);have HU1:=hid hu1;clear HPA HRo hb11 hu1 HM
 go_wp2_with fail
 rw[<-HU1.out];refine HC1.out.mono ?_;rintro e w2 ⟨go,oc,nso,nn,nc,gr,rc,rfl,c0,c1,c2,hb2⟩;have HB2:=hid (HBu.out.trans (hb2.mono HBu.out.size));have l0:=World.block_lt_of_cell? w2 _ c0;have l2:=World.block_lt_of_cell? w2 _ c2;clear HC1 HU1 hb2 HBu
 go_wp2_with fail
 go_ret;exact⟨rfl,hid (HB2.out.alloc HB2.out.size _)⟩
theorem z4U(fp:Addr)(w:World)(h:Yw w)(hT:TabIs w)(hF:w.cell? ⟨1,0,none⟩=some (.iface 379 (.pointer (some fp))))(hPw:Yj w):Calls prog 9 #[] w fun e w'=>e=.returned (.bool true)/\Hid (Below w.heap.size w w'):=by
 obtain⟨rs,hp,hs1,hs2,hck,hZ,hl,p1,p2⟩:=y3y;have HPA:=y3r smC rs w (by decide) y3w hp;unfold Dp at HPA;simp only at HPA;have hFb:∀{W:World},Below w.heap.size w W->W.cell? ⟨1,0,none⟩=some (.iface 379 (.pointer (some fp))):=fun hb=>(hb.cell (p:=⟨1,0,none⟩) (World.block_lt_of_cell? w _ hF)).trans hF
 refine y3A rs.length rs _ rfl w (hid HPA) (hid fun g cap W hr hb=> ?_);refine(y3z (by decide) hp hs1 hs2 hck hZ _ g rs.length cap fp W hr (hT.below hb hT.lt) (hFb hb) (hPw.below hb)).mono fun e w' he=> ?_
 have hl5:(pgG (toG rs)).2.length=5:=by have:=congrArg List.length p2;simpa using this
 have hl2:(pgG (toG rs)).1.length=2:=by rw[p1];rfl
 unfold pgG at hl5 p1 p2;obtain⟨hbw,h⟩:=he;rcases h with⟨h,_⟩|⟨_,h,_⟩|⟨_,_,Q,v,vn,vr,xs,B,rfl,hB,ho,hops,hq,hn,hro⟩
 ·exact h.elim
 ·omega
 ·rw[hl5]at ho
  rw[hl]at hro hn;obtain⟨go,oc,rfl,_,_,co⟩:=Kc ho (by omega);obtain⟨gr,rc,rfl,_,_,cr⟩:=Kc hro (by omega);obtain⟨nso,nc,rfl⟩:=Yh hn;refine⟨go,oc,nso,_,nc,gr,rc,rfl,cr 0 _ (by rw[p1];rfl),cr 1 _ (by rw[p1];rfl),?_,hbw⟩;obtain⟨c,⟨so,cap,hc,_⟩,hcx⟩:=hops 0 (by omega);have hx:xs[0*7+1]? =some (.string (mkG (fun T=>fdI T (nmL (toG rs))) (toG rs) []).2[0].2.1):=hcx 1 _ (by rw[hc];rfl);have ht:(mkG (fun T=>fdI T (nmL (toG rs))) (toG rs) []).2[0].2.1={data:=#[120]}:=by
   have h9:=congrArg (fun l=>l[0]?) p2;simp only[List.getElem?_map,List.getElem?_eq_getElem (show 0<(mkG (fun T=>fdI T (nmL (toG rs))) (toG rs) []).2.length by omega),Option.map_some]at h9;have h9:=Option.some.inj h9;apply ByteArray.ext;exact Array.toList_inj.1 h9
  rw[ht]at hx;exact co 1 _ hx
mutual
theorem z4V{ix ix':ByteArray->Int}:∀(t:RT),(∀y∈rfT t,ix y.1=ix' y.1)->∀ops:List Ox,mkT ix t ops=mkT ix' t ops
 | .mk k T a b c d s p,h,ops=>by
   rw[mkT,mkT];by_cases h5:k=5
   ·rw[if_pos h5,if_pos h5,h (T,p) (by rw[rfT,if_pos h5];exact List.mem_singleton.2 rfl)]
   ·rw[if_neg h5,if_neg h5,z4W s (fun y hy=>h y (by rw[rfT,if_neg h5];exact hy)) ops]
theorem z4W{ix ix':ByteArray->Int}:∀(s:List RT),(∀y∈rfL s,ix y.1=ix' y.1)->∀ops:List Ox,mkL ix s ops=mkL ix' s ops
 |[],_,ops=>by rw[mkL,mkL]
 |t::r,h,ops=>by
  rw[mkL,mkL,z4V t (fun y hy=>h y (by rw[rfL];exact List.mem_append.2 (.inl hy))) ops,z4W r (fun y hy=>h y (by rw[rfL];exact List.mem_append.2 (.inr hy)))]
end
theorem z4X{ix ix':ByteArray->Int}:∀(s:List Rr),(∀x∈s,∀y∈rfT x.2.1,ix y.1=ix' y.1)->∀ops:List Ox,mkG ix s ops=mkG ix' s ops
 |[],_,ops=>by rw[mkG,mkG]
 |x::r,h,ops=>by
  rw[mkG,mkG,z4V x.2.1 (h x List.mem_cons_self) ops,z4X r (fun y hy=>h y (List.mem_cons_of_mem _ hy))]
theorem y3B{s x:ByteArray}{l:List ByteArray}(h:inN s l=true):fdI s (l++[x])=fdI s l:=by
 unfold fdI;rw[if_pos h,if_pos (by rw[Pc,h];rfl),Rz,if_pos h]
theorem y3C{rs:List Rr}(hck:ckR rs=none):∃i l,(pgG (rs++[x])).1=(pgG rs).1++[i]/\(pgG (rs++[x])).2=(pgG rs).2++l:=by
 have e:mkG (fun T=>fdI T (nmL (rs++[x]))) rs []=mkG (fun T=>fdI T (nmL rs)) rs []:=by
  refine z4X rs (fun y hy z hz=> ?_) [];have h1:inN z.1 (nmL rs)=true:=Az (Ec hck) z (Kf.2 ⟨y,hy,hz⟩);have h2:nmL (rs++[x])=nmL rs++[x.1]:=by unfold nmL;rw[List.map_append];rfl
  rw[h2];exact y3B h1
 unfold pgG;rw[Tg,e];obtain⟨_,_,l,hl⟩:=Tw (fun T=>fdI T (nmL (rs++[x]))) x.2.1 (mkG (fun T=>fdI T (nmL rs)) rs []).2;exact⟨_,l,rfl,hl⟩
theorem Rk.move{w':World}{B' g' o':Nat}(h:Rk w B g o x)(hc:∀q,q<10->w'.cell? ⟨g',o'+q,none⟩=w.cell? ⟨g,o+q,none⟩)(hb:Below B w w')(hB:B<=B'):Rk w' B' g' o' x:=by
 obtain⟨k,T,a,b,c,d,so,n,cap,p,h1,z0,z1,z2,z3,z4,z5,z6,z7,z8,z9⟩:=h;exact⟨k,T,a,b,c,d,so,n,cap,p,Qj.upto hB _ _ (h1.below hb),(hc 0 (by omega)).trans z0,(hc 1 (by omega)).trans z1,(hc 2 (by omega)).trans z2,(hc 3 (by omega)).trans z3,(hc 4 (by omega)).trans z4,(hc 5 (by omega)).trans z5,(hc 6 (by omega)).trans z6,(hc 7 (by omega)).trans z7,(hc 8 (by omega)).trans z8,(hc 9 (by omega)).trans z9⟩
theorem Rk.ok(h:Rk w B g o x)(q:Nat)(hq:q<10):∃v,w.cell? ⟨g,o+q,none⟩=some v/\v.oneCell'=true:=by
 obtain⟨k,T,a,b,c,d,so,n,cap,p,h1,z0,z1,z2,z3,z4,z5,z6,z7,z8,z9⟩:=h
 match q,hq with
 |0,_=>exact⟨_,z0,rfl⟩
 |1,_=>exact⟨_,z1,rfl⟩
 |2,_=>exact⟨_,z2,rfl⟩
 |3,_=>exact⟨_,z3,rfl⟩
 |4,_=>exact⟨_,z4,rfl⟩
 |5,_=>exact⟨_,z5,rfl⟩
 |6,_=>exact⟨_,z6,rfl⟩
 |7,_=>exact⟨_,z7,rfl⟩
 |8,_=>exact⟨_,z8,rfl⟩
 |9,_=>exact⟨_,z9,rfl⟩
theorem y3D{rs:List Rr}(h:Qv w B (some ⟨g,o,none⟩) n rs):∃xs:List Value,xs.length=n*10/\(∀i u,xs[i]? =some u->w.cell? ⟨g,o+i,none⟩=some u)/\∀u∈xs,u.oneCell'=true:=by
 have hk:∀i,i<n*10->∃v,w.cell? ⟨g,o+i,none⟩=some v/\v.oneCell'=true:=fun i hi=>by
  obtain⟨g',o',e,_,hr⟩:=h.2.2 (i/10) (by have:=h.1;omega);simp only[Option.some.injEq,Addr.mk.injEq,and_true]at e;obtain⟨rfl,rfl⟩:=e;have:=hr.ok (i%10) (by omega);rw[Nat.add_assoc,show i/10*10+i%10=i by omega]at this;exact this
 refine⟨(List.range (n*10)).map fun i=>(w.cell? ⟨g,o+i,none⟩).getD .nilIface,by simp,fun i u hu=> ?_,fun u hu=> ?_⟩
 ·rw[List.getElem?_map]at hu
  rcases Nat.lt_or_ge i (n*10)with hi|hi
  ·rw[List.getElem?_range hi]at hu
   obtain⟨v,hv,_⟩:=hk i hi;have hu':(w.cell? ⟨g,o+i,none⟩).getD .nilIface=u:=Option.some.inj hu;rw[hv]at hu' ⊢;exact congrArg some hu'
  ·rw[List.getElem?_eq_none (by simpa using hi)]at hu
   cases hu
 ·obtain⟨i,hi,rfl⟩:=List.mem_map.1 hu
  obtain⟨v,hv,ho⟩:=hk i (List.mem_range.1 hi);rw[hv];exact ho
theorem y3E{w':World}{B' base g6 cap6:Nat}{rs:List Rr}{news:List Value}(h:Qv w B (some ⟨g,o,none⟩) n rs)(hl:xs.length=n*10)(hx:∀i u,xs[i]? =some u->w.cell? ⟨g,o+i,none⟩=some u)(hb:Below B w w')(hB:B<=B')(hn:n+1<=maxLen)(hg6:g6<B')
  (hown:w'.ownsRow base 73 10 (.slice (some ⟨g6,0,none⟩) (n+1) cap6) (n+1) (xs++news))(hR:∀o',(∀q u,news[q]? =some u->w'.cell? ⟨g6,o'+q,none⟩=some u)->Rk w' B' g6 o' x):Qv w' B' (some ⟨g6,0,none⟩) (n+1) (rs++[x]):=by
 have hc:=hown.cells (g:=g6) rfl;have hc2:∀j u,(xs++news)[j]? =some u->w'.cell? ⟨g6,0+j,none⟩=some u:=fun j u hj=>by
  have:=hc j u hj;simp only[Addr.add]at this;by_cases h0:j=0
  ·subst h0;simpa using this
  ·rw[if_neg h0]at this;exact this
 refine⟨by rw[List.length_append,<-h.1];rfl,hn,fun j hj=>⟨g6,0,rfl,hg6,?_⟩⟩;by_cases hjn:j<rs.length
 ·rw[List.getElem_append_left hjn]
  obtain⟨g',o',e,_,hr⟩:=h.2.2 j hjn;simp only[Option.some.injEq,Addr.mk.injEq,and_true]at e;obtain⟨rfl,rfl⟩:=e;refine hr.move (fun q hq=> ?_) hb hB;have hlt:j*10+q<xs.length:=by rw[hl,h.1];omega
  have e1:=hx (j*10+q) _ (List.getElem?_eq_getElem hlt);have e2:=hc2 (j*10+q) xs[j*10+q] (by rw[List.getElem?_append_left hlt,List.getElem?_eq_getElem hlt]);rw[Nat.add_assoc,Nat.add_assoc,e1,e2]
 ·have ej:j=rs.length:=by rw[List.length_append]at hj;simp at hj;omega
  subst ej;rw[List.getElem_append_right L0q];simp only[Nat.sub_self,List.getElem_cons_zero];refine hR _ fun q u hq=> ?_
  have e2:=hc2 (rs.length*10+q) u (by rw[List.getElem?_append_right (by rw[hl,h.1];omega),hl,h.1,Nat.add_sub_cancel_left];exact hq);rw[Nat.add_assoc];exact e2
theorem y3F{P:Program}{ops:Array Oper}{o:Oper}{a:Act}{K:Act->World->Prop}{Q:Exit->Act->World->Prop}{E:Prop}(hgd:o.guard=none)(s x:Operand)(t:TypeId)
  (ho:o.op=.call {callee:=.builtin .append,args:=#[s,x],argTypes:=#[t,t]})(e:TypeId)(i:TypeInfo)(ht:P.underlying t=some (.slice e))(hi:P.info? e=some i)(so:Option Addr)(c:Nat)
  (hs:a.eval s=.slice none 0 0)(hx:a.eval x=.slice so 0 c)(h:K (a.put o.dst (.slice none 0 0)) w):
  if Region.wanted o (yielded ops a.tmps)=true then Oper.wp P o a w K Q else E:=by
 have hw:Region.wanted o (yielded ops a.tmps)=true:=by simp[Region.wanted,hgd]
 rw[if_pos hw];have hr:(Builtin.append_ #[t,t] o.type #[.slice none 0 0,.slice so 0 c]).run P w=.ok (.slice none 0 0) w:=by
  cases so<;>simp[Builtin.append_,run_underlying ht,sizeOf,typeInfo,hi,Builtin.lenOf,Builtin.firstCells,loadCells,loadCellsFrom]
 unfold Oper.wp execOp;simp only[ho,resolve,invoke,builtin,Sem.run_bind,Sem.run_pure,Result.andThen_ok,List.map_toArray,List.map_cons,List.map_nil,hs,hx,hr];exact h
theorem Tc{h:Nat}{y0 y1 y2 y3 y4 y5 y6 y7 v:Value}(hs:Hid (Below w2.heap.size w2 W)/\W.cell? ⟨g,0,none⟩=some v/\W.cell? ⟨h,0,none⟩=some y0/\W.cell? ⟨h,1,none⟩=some y1/\W.cell? ⟨h,2,none⟩=some y2/\W.cell? ⟨h,3,none⟩=some y3/\W.cell? ⟨h,4,none⟩=some y4/\W.cell? ⟨h,5,none⟩=some y5/\W.cell? ⟨h,6,none⟩=some y6/\W.cell? ⟨h,7,none⟩=some y7)(hg:Hid (g<w2.heap.size/\h<w2.heap.size))(hb:Below w2.heap.size W W'):
  Hid (Below w2.heap.size w2 W')/\W'.cell? ⟨g,0,none⟩=some v/\W'.cell? ⟨h,0,none⟩=some y0/\W'.cell? ⟨h,1,none⟩=some y1/\W'.cell? ⟨h,2,none⟩=some y2/\W'.cell? ⟨h,3,none⟩=some y3/\W'.cell? ⟨h,4,none⟩=some y4/\W'.cell? ⟨h,5,none⟩=some y5/\W'.cell? ⟨h,6,none⟩=some y6/\W'.cell? ⟨h,7,none⟩=some y7:=by
 obtain⟨z,z0,z1,z2,z3,z4,z5,z6,z7,z8⟩:=hs;have e:∀j,W'.cell? ⟨h,j,none⟩=W.cell? ⟨h,j,none⟩:=fun j=>hb.cell (p:=⟨h,j,none⟩) hg.out.2
 exact⟨hid (z.out.trans hb),(hb.cell (p:=⟨g,0,none⟩) hg.out.1).trans z0,(e _).trans z1,(e _).trans z2,(e _).trans z3,(e _).trans z4,(e _).trans z5,(e _).trans z6,(e _).trans z7,(e _).trans z8⟩
theorem z4Y(o:Obj)(h:Hid (Below w2.heap.size w2 W)):Below w2.heap.size W (W.alloc o):=(Below.refl _ W).alloc h.out.size o
theorem Ak(h:Hid (Below w2.heap.size w2 W))(hb:Below w2.heap.size W W'):Hid (Below w2.heap.size w2 W'):=hid (h.out.trans hb)
theorem Hg{row:Option Nat}(h:Hid (Below w2.heap.size w2 W))(hg:W.grownBy W' row)(hr:∀g,row=some g->w2.heap.size<=g):Below w2.heap.size W W':=(Below.refl _ W).grown hg h.out.size hr
theorem z4Z(g o j:Nat):(⟨g,o,none⟩:Addr).add j=⟨g,o+j,none⟩:=by unfold Addr.add;split<;>simp_all
theorem y3G{j:Nat}(h:g<n):((⟨g,o,none⟩:Addr).add j).block<n:=by rw[z4Z];exact h
theorem z5a(h:w5.ownsRow (M+1) 73 10 (.slice (some ⟨g5,0,none⟩) n cap5) n xs)(hM:Hid (M=w2.heap.size)):∀g,Value.ownBlock (.slice (some ⟨g5,0,none⟩) n cap5)=some g->w2.heap.size<=g:=fun g e=>by
 have:=(h.lt g e).1;have:=hM.out;omega
theorem y3H{Wz:World}{X:Obj}(hZ:Wz.heap.size=M+1)(hm:Wz.heap[M]? =some Zg)(h5:Wz.drew.grownBy w5 (Value.ownBlock (.slice none 0 0)))(h:w5.ownsRow (M+1) 73 10 (.slice (some ⟨g5,0,none⟩) n cap5) n xs)(h6:(w5.alloc X).grownBy w6 (Value.ownBlock (.slice (some ⟨g5,0,none⟩) n cap5))):w6.heap[M]? =some Zg:=by
 have s5:=h5.size;have e:Wz.drew.heap.size=M+1:=hZ;refine(h6.block M (by rw[World.size_alloc];omega) (fun e=>by have:=(h.lt M e.symm).1;omega)).trans ((Below.heap_alloc _ _ _ (by omega)).trans ((h5.block M (by omega) (fun e=>by cases e)).trans hm))
theorem y3I{Wz:World}{X:Obj}(hZ:Wz.heap.size=M+1)(hm:Wz.heap[M]? =some Zg)(h5:(Wz.alloc X).drew.grownBy w5 (Value.ownBlock (.slice none 0 0)))(h:w5.ownsRow (M+1) 73 10 (.slice (some ⟨g5,0,none⟩) n cap5) n xs)(h6:w5.grownBy w6 (Value.ownBlock (.slice (some ⟨g5,0,none⟩) n cap5))):w6.heap[M]? =some Zg:=by
 have s5:(Wz.alloc X).heap.size<=w5.heap.size:=h5.size;rw[World.size_alloc]at s5;refine(h6.block M (by omega) (fun e=>by have:=(h.lt M e.symm).1;omega)).trans ((h5.block M (by show _<(Wz.alloc X).heap.size;rw[World.size_alloc];omega) (fun e=>by cases e)).trans ((Below.heap_alloc _ _ _ (by omega)).trans hm))
theorem y3J{g6 cap6:Nat}{so:Option Addr}{rs:List Rr}{k a1 b1 c1 d1 p:Int}{T:ByteArray}{so1:Option Addr}{n1 cap1:Nat}{t:RT}(hM:M=w2.heap.size)(h:Qv w w.heap.size so n rs)(hb:Below w.heap.size w w2)(hw:Below w2.heap.size w2 w6)
  (ht:Qj w w.heap.size t (r8 k T a1 b1 c1 d1 so1 n1 cap1 p))(hn:n+1<=maxLen)(hl:xs.length=n*10)(hx:∀g o,so=some ⟨g,o,none⟩->∀i u,xs[i]? =some u->w.cell? ⟨g,o+i,none⟩=some u)
  (hown:w6.ownsRow (M+1) 73 10 (.slice (some ⟨g6,0,none⟩) (n+1) cap6) (n+1) (xs++[.string {data:=#[99,111,100,101,109,111,114,101]},.int .i64 k,.string T,.int .u64 a1,.int .u64 b1,.int .u64 c1,.int .u64 d1,.slice so1 n1 cap1,.int .i64 p,.int .i64 0]))(v:Value):
  Qv (w6.setCell ⟨M,0,none⟩ v) (w6.setCell ⟨M,0,none⟩ v).heap.size (some ⟨g6,0,none⟩) (n+1) (rs++[({data:=#[99,111,100,101,109,111,114,101]},t,0)])/\Below w2.heap.size w2 (w6.setCell ⟨M,0,none⟩ v):=by
 have hB:Below w2.heap.size w2 (w6.setCell ⟨M,0,none⟩ v):=hw.setCell (p:=⟨M,0,none⟩) (by show _<=M;omega) v;refine⟨?_,hB⟩;have hb7:Below w.heap.size w (w6.setCell ⟨M,0,none⟩ v):=hb.trans (hB.mono hb.size);have hg6:M+1<=g6/\g6<w6.heap.size:=hown.lt g6 rfl;have hown7:(w6.setCell ⟨M,0,none⟩ v).ownsRow (M+1) 73 10 (.slice (some ⟨g6,0,none⟩) (n+1) cap6) (n+1) (xs++[.string {data:=#[99,111,100,101,109,111,114,101]},.int .i64 k,.string T,.int .u64 a1,.int .u64 b1,.int .u64 c1,.int .u64 d1,.slice so1 n1 cap1,.int .i64 p,.int .i64 0]):=hown.kept (G.setR (G.refl w6 M)) (.inr (fun e=>by have e2:g6=M:=Option.some.inj e;omega));obtain⟨W7,hW7⟩:∃W7,W7=w6.setCell ⟨M,0,none⟩ v:=⟨_,rfl⟩;have hs7:W7.heap.size=w6.heap.size:=by rw[hW7,World.size_setCell]
 rw[<-hW7]at hb7 hown7 ⊢;have hR:∀o',(∀q u,([.string {data:=#[99,111,100,101,109,111,114,101]},.int .i64 k,.string T,.int .u64 a1,.int .u64 b1,.int .u64 c1,.int .u64 d1,.slice so1 n1 cap1,.int .i64 p,.int .i64 0]:List Value)[q]? =some u->W7.cell? ⟨g6,o'+q,none⟩=some u)->Rk W7 W7.heap.size g6 o' ({data:=#[99,111,100,101,109,111,114,101]},t,0):=fun o' hc=>
  ⟨k,T,a1,b1,c1,d1,so1,n1,cap1,p,Qj.upto hb7.size _ _ (ht.below hb7),hc 0 _ rfl,hc 1 _ rfl,hc 2 _ rfl,hc 3 _ rfl,hc 4 _ rfl,hc 5 _ rfl,hc 6 _ rfl,hc 7 _ rfl,hc 8 _ rfl,hc 9 _ rfl⟩
 cases rs with
 |nil=>
  have hn0:n=0:=h.1;subst hn0;have hx0:xs=[]:=List.eq_nil_of_length_eq_zero (by simpa using hl);subst hx0;refine⟨rfl,hn,fun j hj=>⟨g6,0,rfl,by omega,?_⟩⟩;have ej:j=0:=by simp at hj;omega
  subst ej;refine hR _ fun q u hq=> ?_
  have hc:=hown7.cells (g:=g6) rfl q u hq;simp only[Addr.add]at hc;by_cases h0:q=0
  ·subst h0;simpa using hc
  ·rw[if_neg h0]at hc
   rw[Nat.zero_mul,Nat.zero_add];rw[Nat.zero_add]at hc;exact hc
 |cons y r=>
  obtain⟨g,o,rfl,hg,_⟩:=h.2.2 0 (by simp);exact y3E h hl (hx g o rfl) hb7 hb7.size hn (by omega) hown7 hR
theorem y3K{rs:List Rr}(h:RgZ rs)(h1:x.1.size<=9223372036854775807)(h2:RtZ x.2.1):RgZ (rs++[x]):=fun y hy=>by
 rcases List.mem_append.1 hy with h'|h'
 ·exact h y h'
 ·obtain rfl:=List.mem_singleton.1 h'
  exact⟨h1,h2⟩
theorem y3L{rs:List Rr}(h:RgU rs)(h2:RtU x.2.1):RgU (rs++[x]):=fun y hy=>by
 rcases List.mem_append.1 hy with h'|h'
 ·exact h y h'
 ·obtain rfl:=List.mem_singleton.1 h'
  exact h2
structure PgR (rs:List Rr) (oso:Option Addr) (ol:Nat) (nso:Option Addr) (nl:Nat) (rso:Option Addr) (rl:Nat) (W:World):Prop where
 ck:ckR rs=none
 lo:ol=(pgG rs).2.length
 ln:nl=rs.length
 lr:rl=rs.length
 l2:(pgG rs).2.length<=200
 l6:rs.length<=64
 o:∀i (hi:i<(pgG rs).2.length),∃g so cap,oso=some ⟨g,0,none⟩/\g<W.heap.size/\W.cell? ⟨g,i*7,none⟩=some (.int .i64 (pgG rs).2[i].1)/\W.cell? ⟨g,i*7+1,none⟩=some (.string (pgG rs).2[i].2.1)/\W.cell? ⟨g,i*7+6,none⟩=some (.slice so (pgG rs).2[i].2.2.2.length cap)
 n:∀i (hi:i<rs.length),∃g,nso=some ⟨g,0,none⟩/\g<W.heap.size/\W.cell? ⟨g,i,none⟩=some (.string rs[i].1)
 r:∀i (hi:i<rs.length),∃g x,rso=some ⟨g,0,none⟩/\g<W.heap.size/\(pgG rs).1[i]? =some x/\W.cell? ⟨g,i,none⟩=some (.int .i64 x)
theorem PgR.below{rs:List Rr}{oso:Option Addr}{ol:Nat}{nso:Option Addr}{nl:Nat}{rso:Option Addr}{rl:Nat}(h:PgR rs oso ol nso nl rso rl W)(hb:Below W.heap.size W W'):PgR rs oso ol nso nl rso rl W':=by
 refine⟨h.ck,h.lo,h.ln,h.lr,h.l2,h.l6,fun i hi=> ?_,fun i hi=> ?_,fun i hi=> ?_⟩
 ·obtain⟨g,so,cap,h1,h2,h3,h4,h5⟩:=h.o i hi
  exact⟨g,so,cap,h1,Nat.lt_of_lt_of_le h2 hb.size,(hb.cell (p:=⟨g,i*7,none⟩) h2).trans h3,(hb.cell (p:=⟨g,i*7+1,none⟩) h2).trans h4,(hb.cell (p:=⟨g,i*7+6,none⟩) h2).trans h5⟩
 ·obtain⟨g,h1,h2,h3⟩:=h.n i hi
  exact⟨g,h1,Nat.lt_of_lt_of_le h2 hb.size,(hb.cell (p:=⟨g,i,none⟩) h2).trans h3⟩
 ·obtain⟨g,x,h1,h2,h3,h4⟩:=h.r i hi
  exact⟨g,x,h1,Nat.lt_of_lt_of_le h2 hb.size,h3,(hb.cell (p:=⟨g,i,none⟩) h2).trans h4⟩
def PgS(rs:List Rr)(W:World)(e:Ending)(w':World):Prop:=∃oso ol oc nso nl nc rso rl rc ev,e=.returned (.tuple #[.agg #[.slice oso ol oc,.slice nso nl nc,.slice rso rl rc],ev])/\Hid (Below W.heap.size W w')/\((∃tt uu,ev=.iface tt uu)∨(ev=.nilIface/\Hid (PgR rs oso ol nso nl rso rl w')))
theorem z5b(so:Option Addr)(n cap:Nat)(rs:List Rr)(X:Option (Int ⊕ (Int×Int)))(B:Nat)(fp:Addr)(w:World)(hX:CkX rs X)(hP:X=none->PrG rs)(hC:CkC so n cap rs X w)(hz:RgZ rs)(hu:RgU rs)(h:Qv w B so n rs)(hB:B<=w.heap.size)(hT:TabIs w)(hF:w.cell? ⟨1,0,none⟩=some (.iface 379 (.pointer (some fp))))(hPw:Yj w)(W:World)(hW:Below w.heap.size w W):
  Calls prog 11 #[.agg #[.slice so n cap]] W (PgS rs W):=by
 refine(Tp so n cap rs X B fp w hX hP hC hz hu h hB hT hF hPw W hW).mono fun e w' he=> ?_
 obtain⟨hb,⟨_,tt,uu,rfl⟩|⟨_,_,rfl⟩|⟨hE,hl,Q,v,vn,vr,xs,B2,rfl,hB2,ho,hops,hq,hn,hr⟩⟩:=he
 ·exact⟨_,_,_,_,_,_,_,_,_,_,rfl,hb,.inl ⟨tt,uu,rfl⟩⟩
 ·exact⟨_,_,_,_,_,_,_,_,_,_,rfl,hb,.inl ⟨_,_,rfl⟩⟩
 ·have e0:soZ rs X=none:=Classical.not_not.1 hE
  obtain rfl:X=none:=by
   cases X with
   |none=>rfl
   |some x=>unfold soZ at e0;cases e0
  obtain⟨hok,hck,_⟩:=hX;have h64:=(Jb hok).2;have hlr:(pgG rs).1.length=rs.length:=(Km (fun T=>fdI T (nmL rs)) rs []).2.1.1;obtain⟨oso,oc,ev⟩:=Yh ho;obtain⟨nso,nc,en⟩:=Yh hn;obtain⟨rso,rc,er⟩:=Yh hr;refine⟨oso,_,oc,nso,_,nc,rso,_,rc,_,by rw[ev,en,er];rfl,hb,.inr ⟨rfl,hid ⟨hck,rfl,rfl,rfl,hl,h64,fun i hi=> ?_,fun i hi=> ?_,fun i hi=> ?_⟩⟩⟩
  ·obtain⟨g,c,e1,_,hg,hc⟩:=Kc ho (Nat.lt_of_le_of_lt (Nat.zero_le i) hi)
   rw[ev]at e1;injection e1 with e1 _ _
   obtain⟨cs,⟨so3,cap3,hcs,_⟩,hx⟩:=hops i hi;subst hcs;exact⟨g,so3,cap3,e1,hg,hc (i*7) _ (hx 0 _ rfl),hc (i*7+1) _ (hx 1 _ rfl),hc (i*7+6) _ (hx 6 _ rfl)⟩
  ·obtain⟨g,c,e1,_,hg,hc⟩:=Kc hn (Nat.lt_of_le_of_lt (Nat.zero_le i) hi)
   rw[en]at e1;injection e1 with e1 _ _
   exact⟨g,e1,hg,hc i _ (by unfold nS;rw[List.getElem?_map,List.getElem?_eq_getElem hi];rfl)⟩
  ·obtain⟨g,c,e1,_,hg,hc⟩:=Kc hr (Nat.lt_of_le_of_lt (Nat.zero_le i) hi)
   rw[er]at e1;injection e1 with e1 _ _
   have hi':i<(pgG rs).1.length:=by omega
   refine⟨g,(pgG rs).1[i],e1,hg,List.getElem?_eq_getElem hi',hc i _ ?_⟩;show(nI (pgG rs).1)[i]? =_;unfold nI;rw[List.getElem?_map,List.getElem?_eq_getElem hi'];rfl
end Go.Proofs.YtlogolpcipiceaaGreatDoor
