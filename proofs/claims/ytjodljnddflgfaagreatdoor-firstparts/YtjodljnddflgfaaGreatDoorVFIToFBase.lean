/- Lemmas for the last text. Conditions: those that each names. -/
import Derived.Test.YtjodljnddflgfaaGreatDoorVFGToFH
import Derived.Test.YtjodljnddflgfaaGreatDoorVU9ToU2
import Derived.Test.YtjodljnddflgfaaGreatDoorVPR2ToT12
import Derived.Test.YtjodljnddflgfaaGreatDoorVT14
import Derived.Test.YtjodljnddflgfaaGreatDoorVPR1ToU15
import Derived.Test.YtjodljnddflgfaaGreatDoorVX9ToX11
import Derived.Test.YtjodljnddflgfaaGreatDoorRows
import Derived.ProofKit
import Derived.OpenShut
import Derived.Carry
import Derived.Test.YtjodljnddflgfaaGreatDoorCards
import Derived.Test.YtjodljnddflgfaaGreatDoorTie
import Derived.LaidMore
import Derived.LaidHandle
import Derived.Stop.Joined
import Derived.SizedLaws
import Derived.Lib.LaidTab
import Derived.Test.YtjodljnddflgfaaGreatDoorVX17ToQ1
import Derived.Test.YtjodljnddflgfaaGreatDoorVF6ToU5
import Derived.Deep.DeepCutAuto
set_option linter.unusedVariables false
set_option maxRecDepth 100000
set_option maxHeartbeats 8000000
namespace Go.Proofs.YtjodljnddflgfaaGreatDoor
open Go.Proofs.Tryz
open Go.RowKit Go.Shelf Go.Maps
variable {t:RT} {V:ByteArray} {W:World}
mutual
theorem z5p{l:List ByteArray}:∀t:RT,hrT l t=true->∀y∈rfT t,inN y.1 l=true
 | .mk k T a b c d s p,h,y,hy=>by
   rw[hrT]at h;rw[rfT]at hy;by_cases h5:k=5
   ·rw[if_pos h5]at h hy
    rw[List.mem_singleton]at hy;subst hy;exact h
   ·rw[if_neg h5]at h hy
    exact z5q s h y hy
theorem z5q{l:List ByteArray}:∀s:List RT,hrL l s=true->∀y∈rfL s,inN y.1 l=true
 |[],_,y,hy=>by rw[rfL]at hy;cases hy
 |t::r,h,y,hy=>by
  rw[hrL,Bool.and_eq_true]at h;rw[rfL]at hy;rcases List.mem_append.1 hy with hy|hy
  ·exact z5p t h.1 y hy
  ·exact z5q r h.2 y hy
end
theorem y3p{nd:Nd}(h:(exS nd).size≠0):sz (pN qT cT nd)<=8186/\dN nd<=24:=by
 unfold exS at h;by_cases hc:8192<sz (pR qT cT [(bA,nd,0)])∨24<dR [(bA,nd,0)]
 ·rw[if_pos hc]at h;exact absurd rfl h
 ·have e:sz (pR qT cT [(bA,nd,0)])=sz (pN qT cT nd)+6:=by
   rw[pR,pR];simp only[sz,Vp];have e1:bA.size=1:=rfl;have e2:bAr.size=4:=by decide
   have e3:bNl.size=1:=by decide
   omega
  have e2:dN nd<=dR [(bA,nd,0)]:=by
   rw[dR,dR];simp only;omega
  omega
theorem y3q{l:List ByteArray}(hV:ExV t V)(h0:V.size≠0)(hh:hrT l t=true)(hz:RtZ t):Fit l t:=by
 have hok:okT t=true:=by
  cases e:okT t with
  |true=>rfl
  |false=>exact absurd (hV.1 e) h0
 obtain⟨nd,h1,h2,h3,rfl⟩:=hV.2 hok;exact⟨hok,hz,⟨nd,h1,h2,h3,y3p h0⟩,z5p t hh⟩
def FeP(rs:List Rr)(t:RT)(X:Option (Int ⊕ (Int×Int)))(V:ByteArray)(W:World)(e:Ending)(w':World):Prop:=Below W.heap.size W w'/\
 ((X≠none/\∃v,e=.returned (.tuple #[av (0,false),v])/\Zd X W.heap.size w' v)∨
  (X=none/\(V.size=0∨hrT (nmL rs) t=false)/\e=.returned (.tuple #[av (0,false),.iface 43 (.int .i64 1)]))∨
  (X=none/\V.size≠0/\hrT (nmL rs) t=true/\∃m mm,Yk (itr rs m) rs/\Uc (itr rs m) (Qm (itr rs m) rs mm) rs/\BdA (Qm (itr rs m) rs mm)/\e=.returned (.tuple #[av (afT (itr rs m) (Qm (itr rs m) rs mm) t),.nilIface])))
theorem Im(so:Option Addr)(n cap:Nat)(rs:List Rr)(X:Option (Int ⊕ (Int×Int)))(k:Int)(T:ByteArray)(a b c d p:Int)(so1:Option Addr)(n1 cap1:Nat)(t:RT)(B:Nat)(w:World)(hX:CkX rs X)(hP:X=none->PrG rs)(hC:CkC so n cap rs X w)(hT:TabIs w)(hz:RgZ rs)(hu:RgU rs)(h:Qh w B so n rs)(hB:B<=w.heap.size)(ht:Qk w w.heap.size t (r8 k T a b c d so1 n1 cap1 p))(htz:RtZ t)(htu:RtU t):
  ∃V,ExV t V/\∀W:World,Below w.heap.size w W->Calls prog 10 #[.agg #[.slice so n cap],.agg (r8 k T a b c d so1 n1 cap1 p).toArray] W (FeP rs t X V W):=by
 obtain⟨V,hV,hE⟩:=y1I so n cap rs X k T a b c d p so1 n1 cap1 t B w hX hC hT hz h hB ht htz htu;refine⟨V,hV,fun W hW=> ?_⟩;have hup:∀{W'},Below W.heap.size W W'->Below w.heap.size w W':=fun hW'=>hW.trans (hW'.mono hW.size)
 have hOf:=fun(W':World) (hW':Below W.heap.size W W')=>z5l so n cap rs X B w hX hC hz h hB W' (hup hW')
 cases X with
 |some x=>
  refine(z5o so n cap k T a b c d so1 n1 cap1 p (some x) W (hid fun W' hW'=>(hE W' (hup hW')).mono fun e w' he=> ?_)).mono fun e w' he=> ?_
  ·obtain⟨hb,⟨_,v,h1,h2⟩|⟨h0,_⟩|⟨h0,_⟩⟩:=he
   ·obtain⟨tt,uu,rfl⟩:=h2.shape (by simp)
    exact⟨tt,uu,h1,h2,hb⟩
   ·cases h0
   ·cases h0
  ·obtain⟨tt,uu,h1,h2,h3⟩:=he
   exact⟨h3,.inl ⟨by simp,_,h1,h2⟩⟩
 |none=>
  obtain⟨hok,hck,_⟩:=hX;by_cases hbad:V.size=0∨hrT (nmL rs) t=false
  ·refine(z5o so n cap k T a b c d so1 n1 cap1 p (some (.inl 1)) W (hid fun W' hW'=>(hE W' (hup hW')).mono fun e w' he=> ?_)).mono fun e w' he=> ?_
   ·obtain⟨hb,⟨h0,_⟩|⟨_,_,h1⟩|⟨_,h0,h1,_⟩⟩:=he
    ·exact absurd rfl h0
    ·exact⟨_,_,h1,rfl,hb⟩
    ·rcases hbad with h2|h2
     ·exact absurd h2 h0
     ·rw[h1]at h2;cases h2
   ·obtain⟨tt,uu,h1,h2,h3⟩:=he
    have h2:Value.iface tt uu=.iface 43 (.int .i64 1):=h2;rw[h2]at h1;exact⟨h3,.inr (.inl ⟨rfl,hbad,h1⟩)⟩
  ·have h0:V.size≠0:=fun e=>hbad (.inl e)
   have hh:hrT (nmL rs) t=true:=by
    cases e:hrT (nmL rs) t with
    |true=>rfl
    |false=>exact absurd (.inr e) hbad
   have hf:=y3q hV h0 hh htz;refine(y3o so n cap k T a b c d so1 n1 cap1 p rs t W (hid fun W' hW'=>(hE W' (hup hW')).mono fun e w' he=> ?_) (hid fun W' hW'=>(hOf W' hW').mono fun e w' he=> ?_) (hid fun W' B' so' cap' m hW' hB' hRg=>z5m so n cap so' rs.length cap' rs (itr rs m) B B' W' (h.below ((hup hW').mono hB)) (Nat.le_trans hB (hup hW').size) hRg hB' hz hu (hP rfl) hok hck (hT.below (hup hW') hT.lt)) (hid fun W' B' so' cap' m hW' hB' hRg=>z5b rs (itr rs m) so' rs.length cap' B' w.heap.size t k T a b c d p so1 n1 cap1 W' hok hck hz hf (ht.below (hup hW')) (hup hW').size hRg hB' (hT.below (hup hW') hT.lt)) (hid fun W' M nn m F cs hF hq hNa=>z5i (itr rs m) (nmL rs) M nn F t cs W' hF hq hf htu hNa)).mono fun e w' he=> ?_
   ·obtain⟨hb,⟨h1,_⟩|⟨_,h1,_⟩|⟨_,_,_,m,_,h1⟩⟩:=he
    ·exact absurd rfl h1
    ·exact absurd h1 hbad
    ·exact⟨_,_,_,h1,hb⟩
   ·obtain⟨hb,⟨h1,_⟩|⟨_,so',cap',m,h1,h2,h3⟩⟩:=he
    ·exact absurd rfl h1
    ·exact⟨so',cap',m,h1,h2,h3,hb⟩
   ·obtain⟨⟨m,mm,h1,h2,h3,h4⟩,hb⟩:=he
    exact⟨hb,.inr (.inr ⟨rfl,h0,hh,m,mm,h1,h2,h3,h4⟩)⟩
theorem y3r(x y:Ah):leA x (orA x y):=⟨fun i hi=>by unfold orA;rw[Nat.testBit_or,hi];rfl,fun e=>by unfold orA;rw[e];rfl⟩
theorem y3s(x y:Ah):leA y (orA x y):=⟨fun i hi=>by unfold orA;rw[Nat.testBit_or,hi,Bool.or_true],fun e=>by unfold orA;rw[e,Bool.or_true]⟩
theorem z5r(K:ByteArray->Ot)(F:ByteArray->Ah):∀(s:List RT) (x:Ah),leA x (afA K F x s)
 |[],x=>by rw[afA];exact Um _
 |t::r,x=>by rw[afA];exact Am (y3r _ _) (z5r K F r _)
theorem z5s(K:ByteArray->Ot)(F:ByteArray->Ah){t:RT}:∀{s:List RT} (x:Ah),t∈s->leA (afT K F t) (afA K F x s)
 |u::r,x,h=>by
  rw[afA];rcases List.mem_cons.1 h with rfl|h
  ·exact Am (y3s _ _) (z5r K F r _)
  ·exact z5s K F _ h
theorem y3t{x y:Ah}(h:leA x y):x.1&&&y.1=x.1:=Nat.eq_of_testBit_eq fun i=>by
 rw[Nat.testBit_and];cases e:x.1.testBit i with
 |false=>rfl
 |true=>rw[h.1 i e];rfl
@[reducible] def sm9:ByteArray:={data:=#[97,32,60,45,32,33,39,122,39,32,91,97,45,122,93]}
def z5t(x:Nat):Bool:=match Ux sm9 with
 | .inr rs=>decide (sz (pR qT cT rs)<=8192)&&(decide (dR rs<=24)&&(decide (ckR (toG rs)=none)&&((toG rs).all (fun x=>decide (ofT (itr (toG rs) 4) x.2.1=itr (toG rs) 4 x.1))&&((toG rs).all (fun x=>decide (afT (itr (toG rs) 4) (Qm (itr (toG rs) 4) (toG rs) 2) x.2.1=Qm (itr (toG rs) 4) (toG rs) 2 x.1))&&(decide ((toG rs).map (fun x=>Qm (itr (toG rs) 4) (toG rs) 2 x.1)=[(spn 97 25,false)]))))))
 | .inl _=>false
theorem y3u:∀x,x<1->z5t x=true:=by decide+kernel
theorem y3v:∃rs,Ux sm9=.inr rs/\sz (pR qT cT rs)<=8192/\dR rs<=24/\ckR (toG rs)=none/\∀m mm,Yk (itr (toG rs) m) (toG rs)->Uc (itr (toG rs) m) (Qm (itr (toG rs) m) (toG rs) mm) (toG rs)->(toG rs).map (fun x=>Qm (itr (toG rs) m) (toG rs) mm x.1)=[(spn 97 25,false)]:=by
 have h:=y3u 0 (by decide);unfold z5t at h;cases hp:Ux sm9 with
 |inl c=>rw[hp]at h;cases h
 |inr rs=>
  rw[hp]at h;simp only[Bool.and_eq_true,decide_eq_true_eq]at h;obtain⟨h1,h2,h3,h4,h5,h6⟩:=h;have hf:Yk (itr (toG rs) 4) (toG rs):=fun x hx=>by simpa using List.all_eq_true.1 h4 x hx
  have hg:Uc (itr (toG rs) 4) (Qm (itr (toG rs) 4) (toG rs) 2) (toG rs):=fun x hx=>by simpa using List.all_eq_true.1 h5 x hx
  refine⟨rs,rfl,h1,h2,h3,fun m mm hm hmm=> ?_⟩;have e:=Ny hm hf;rw[e]at hmm ⊢;rw[Nb _ hmm hg];exact h6
theorem Ip(C i:Nat):(0:Int)<=(wd C i:Nat)/\((wd C i:Nat):Int)<18446744073709551616:=by
 have:=Zm C i;omega
mutual
theorem z5u:∀n:Nd,RtU (toR n)
 | .mk kd T C s p=>by rw[toR,RtU];exact⟨Ip C 0,Ip C 1,Ip C 2,Ip C 3,z5v s⟩
theorem z5v:∀s:List Nd,Zh (Uj s)
 |[]=>by rw[Uj,Zh];trivial
 |n::r=>by rw[Uj,Zh];exact⟨z5u n,z5v r⟩
end
theorem y3w{S:ByteArray}{rs:List Rl}(hp:Ux S=.inr rs)(h1:sz (pR qT cT rs)<=8192)(h2:dR rs<=24):PrG (toG rs):=by
 have hx:∀x∈rs,Ruk Nmq x:=fun x hx=>(Sx hp x hx).1
 have hl:=Tv hp;exact⟨Tf (Fx rs) hx hl.2 hl.1,rs,Fx rs,hx,h1,h2⟩
theorem y3x{S:ByteArray}{rs:List Rl}(hS:S.size<=8192)(hp:Ux S=.inr rs)(h1:sz (pR qT cT rs)<=8192)(h2:dR rs<=24)(hck:ckR (toG rs)=none)(hU:RgU (toG rs))(B g n cap:Nat)(W:World)(hr:RoR B (.slice (some ⟨g,0,none⟩) n cap) rs W)(hT:TabIs W):
  Calls prog 9 #[.agg #[.slice (some ⟨g,0,none⟩) n cap]] W (FrP (toG rs) none W):=by
 obtain⟨hi,hz,hX,hC⟩:=y0F hS hp h1 h2 B g n cap W hr hT;have e:xOf (toG rs)=none:=by unfold xOf;rw[hck];rfl
 rw[e]at hX hC;exact z5n _ n cap (toG rs) none W.heap.size W hX (fun _=>y3w hp h1 h2) hC hz hU hi L0q hT W B0q
theorem y3y:nb (txt (spn 97 25))={data:=#[91,97,45,121,93]}:=by decide+kernel
theorem y3z(n:Nat)(rs:List Rl)(w:World)(HN:Hid (n=rs.length))
  (HPA:Hid (Calls prog 24 #[.string sm9] w fun e w'=>∃g cap,e=.returned (.tuple #[.agg #[.slice (some ⟨g,0,none⟩) n cap],.nilIface])/\Hid (RoR w.heap.size (.slice (some ⟨g,0,none⟩) n cap) rs w')/\Hid (Below w.heap.size w w')))
  (HR:Hid (∀(g cap:Nat) (W:World),RoR w.heap.size (.slice (some ⟨g,0,none⟩) n cap) rs W->Below w.heap.size w W->Calls prog 9 #[.agg #[.slice (some ⟨g,0,none⟩) n cap]] W fun e w'=>∃ub,e=.returned (.tuple #[.slice (some ⟨ub,0,none⟩) 1 1,.nilIface])/\w'.heap[ub]? =some (.cells #[.int .u64 (wd (spn 97 25) 0:Nat),.int .u64 (wd (spn 97 25) 1:Nat),.int .u64 (wd (spn 97 25) 2:Nat),.int .u64 (wd (spn 97 25) 3:Nat),.bool false] 39)/\Below W.heap.size W w'))
  (HX:Hid (∀W:World,Below w.heap.size w W->Calls prog 25 #[cv (spn 97 25)] W fun e w'=>e=.returned (.string {data:=#[91,97,45,121,93]})/\Below W.heap.size W w')):
  Calls prog 7 #[] w fun e w'=>e=.returned (.bool true)/\Hid (Below w.heap.size w w'):=by
 generalize spn 97 25=C at HR HX;go_enter func7,ntmps7
 go_wp2_with fail
 refine HPA.out.mono ?_;rintro e w1 ⟨g,cap,rfl,HRo,HB⟩;obtain⟨u1,hu1⟩:∃u1,u1=w1.alloc (.cells #[.slice (some ⟨g,0,none⟩) n cap] 24):=⟨_,rfl⟩;have hb11:Below w1.heap.size w1 u1:=by rw[hu1];exact(Below.refl _ w1).alloc L0q _
 have HBu:=hid (HB.out.trans (hb11.mono HB.out.size));have HCk:=hid (HR.out g cap u1 (HRo.out.below hb11) HBu.out);clear HPA HRo HR hb11
 go_wp2_with fail
 rw[<-hu1];refine HCk.out.mono ?_;rintro e w2 ⟨ub,rfl,hA2,hb2⟩;obtain⟨⟨t0,t1,t2,t3,t4⟩,-⟩:=Qv hA2;have la:=Qz hA2;have HB2:=hid (HBu.out.trans (hb2.mono HBu.out.size));have HX2:=hid (HX.out w2 HB2.out);clear HCk hb2 hA2 hu1 HB HBu HX;dsimp only[cv]at HX2
 go_wp2_with(first
  |(go_at_call 25;refine HX2.out.mono ?_;rintro e w3 ⟨rfl,hb3⟩;have HB3:=hid (HB2.out.trans (hb3.mono HB2.out.size))))
 go_ret;exact⟨rfl,HB3⟩
theorem z5w(w:World)(h:Yz w)(hT:TabIs w):Calls prog 7 #[] w fun e w'=>e=.returned (.bool true)/\Hid (Below w.heap.size w w'):=by
 obtain⟨rs,hp,hs1,hs2,hck,hz⟩:=y3v;have hU:RgU (toG rs):=fun x hx=>by
  obtain⟨y,_,rfl⟩:=List.mem_map.1 hx;exact z5u y.2.1
 have HPA:=z7B sm9 w h (by decide);rw[hp]at HPA;unfold Gh at HPA;simp only at HPA;refine y3z rs.length rs w (hid rfl) (hid HPA) (hid fun g cap W hr hb=>(y3x (by decide) hp hs1 hs2 hck hU _ g rs.length cap W hr (hT.below hb hT.lt)).mono fun e w' he=> ?_) (hid fun W hb=>by rw[<-y3y];exact z1M _ W (z0f 97 25 (by decide)) (hT.below hb hT.lt));obtain⟨hb2,⟨h0,_⟩|⟨_,ub,m,mm,cs,he,_,hf,hg,_,hcs,hA⟩⟩:=he
 ·exact absurd rfl h0
 ·have hv:=hz m mm hf hg
  have hl:(toG rs).length=1:=by have:=congrArg List.length hv;simpa using this
  have hv0:Qm (itr (toG rs) m) (toG rs) mm (toG rs)[0].1=(spn 97 25,false):=by
   have:=congrArg (fun l=>l[0]?) hv;simp only[List.getElem?_map,List.getElem?_cons_zero]at this;rw[List.getElem?_eq_getElem (by omega)]at this;exact Option.some.inj this
  obtain⟨hsz,hcell⟩:=hA;have hc:=hcell 0 (by omega) (by omega);rw[hv0]at hc;rw[hl]at hsz he;refine⟨ub,he,?_,hb2⟩;rw[hcs];congr 2;obtain⟨c0,c1,c2,c3,c4⟩:=hc;apply Array.ext
  ·simpa using hsz
  ·intro i h1 h2
   have hi:i<5:=by simpa using h2
   have e:=fun(k:Nat) (v:Value) (hk:cs[k]? =some v) (hki:i=k)=>(show cs[i]=v by subst hki;rw[Array.getElem?_eq_getElem h1]at hk;exact Option.some.inj hk)
   rcases(by omega:i=0∨i=1∨i=2∨i=3∨i=4)with hi|hi|hi|hi|hi
   ·rw[e 0 _ c0 hi];subst hi;rfl
   ·rw[e 1 _ c1 hi];subst hi;rfl
   ·rw[e 2 _ c2 hi];subst hi;rfl
   ·rw[e 3 _ c3 hi];subst hi;rfl
   ·rw[e 4 _ c4 hi];subst hi;rfl
theorem Vv{W':World}{B:Nat}{o:Obj}(h:Hid (W.heap[B]? =some o))(hb:Below W.heap.size W W'):Hid (W'.heap[B]? =some o):=(hb.block _ (Qz h.out)).trans h.out
def FeW(rs:List Rr)(t:RT)(W:World)(e:Ending)(w':World):Prop:=∃(C:Nat) (x:Bool) (v:Value),e=.returned (.tuple #[.agg #[.int .u64 (wd C 0),.int .u64 (wd C 1),.int .u64 (wd C 2),.int .u64 (wd C 3),.bool x],v])/\Hid (Below W.heap.size W w')/\((∃tt uu,v=.iface tt uu)∨(v=.nilIface/\Hid (∃m mm,Yk (itr rs m) rs/\Uc (itr rs m) (Qm (itr rs m) rs mm) rs/\BdA (Qm (itr rs m) rs mm)/\(C,x)=afT (itr rs m) (Qm (itr rs m) rs mm) t)))
theorem FeP.short{rs:List Rr}{X:Option (Int ⊕ (Int×Int))}{e:Ending}{w':World}(h:FeP rs t X V W e w'):FeW rs t W e w':=by
 obtain⟨hb,⟨hX,v,h1,h2⟩|⟨_,_,h1⟩|⟨_,_,_,m,mm,h1,h2,h3,h4⟩⟩:=h
 ·obtain⟨tt,uu,rfl⟩:=h2.shape hX
  exact⟨0,false,_,h1,hb,.inl ⟨tt,uu,rfl⟩⟩
 ·exact⟨0,false,_,h1,hb,.inl ⟨_,_,rfl⟩⟩
 ·exact⟨_,_,_,h4,hb,.inr ⟨rfl,m,mm,h1,h2,h3,rfl⟩⟩
theorem y3A{K:ByteArray->Ot}{F:ByteArray->Ah}{u:RT}{A B C D:Nat}{x y z s:Bool}(hA:A<2^256)(h1:(A,x)=afT K F t)(h2:(B,y)=afT K F u)(h3:(C,z)=afT K F (.mk 6 {data:=#[]} 0 0 0 0 [t,u] 0))(h4:(D,s)=afT K F (.mk 7 {data:=#[]} 0 0 0 0 [t,u] 0)):C&&&A=C/\z=(x&&y)/\D=A|||B/\s=(x||y):=by
 rw[afT]at h3 h4;simp only[Int.reduceEq,if_false,if_true,afS,afA,<-h1,<-h2,or_self]at h3 h4;unfold Gq Xq at h3;unfold orA at h4;have e:Qj&&&A=A:=by
  rw[Nat.and_comm];unfold Qj;rw[Nat.and_two_pow_sub_one_eq_mod];exact Nat.mod_eq_of_lt hA
 simp only[if_true,e,Bool.true_and,Prod.mk.injEq]at h3;simp only[Nat.zero_or,Bool.false_or,Prod.mk.injEq]at h4;refine⟨?_,h3.2,h4.1,h4.2⟩;rw[h3.1];split
 ·rw[Nat.and_assoc,Nat.and_comm B A,<-Nat.and_assoc,Nat.and_self]
 ·rw[Nat.and_self]
theorem y3B{T:ByteArray}(hT:nmS T=true)(hV:ExV (.mk 5 T 0 0 0 0 [] 0) V):V.size≠0:=by
 have hok:okT (.mk 5 T 0 0 0 0 [] 0)=true:=by
  rw[okT,okL,Bool.and_true];unfold okN;rw[if_neg (by decide),if_neg (by decide),if_neg (by decide),if_pos rfl,hT];rfl
 obtain⟨nd,hq,hv,hw,rfl⟩:=hV.2 hok;obtain⟨kd,T',C,s',p'⟩:=nd;rw[Tq]at hq;obtain⟨hk,rfl,_,_,_,_,hs⟩:=hq;obtain rfl:kd=5:=by omega
 have h1:=Hb hT;have h32:T'.size<=32:=by
  unfold nmS at hT;cases hb:bt T' 0 with
  |none=>rw[hb]at hT;cases hT
  |some x=>
   rw[hb]at hT;simp only[Bool.and_eq_true,decide_eq_true_eq]at hT;exact hT.1.1
 cases s' with
 |cons a r=>simp[TqL]at hs
 |nil=>
  have hp:pN qT cT (.mk 5 T' C [] p')=[T']:=by rw[pN];simp
  have hd:dN (.mk 5 T' C [] p')=0:=by rw[dN,if_neg (by decide),dS]
  have hz:sz (pR qT cT [(bA,.mk 5 T' C [] p',0)])<=8192:=by
   rw[pR,hp,pR];simp only[sz,List.cons_append,List.nil_append];have e1:bA.size=1:=rfl;have e2:bAr.size<=10:=by decide
   have e3:bNl.size<=10:=by decide
   omega
  have hdr:dR [(bA,Nd.mk 5 T' C [] p',0)]<=24:=by
   rw[dR,dR,hd];decide
  unfold exS;rw[if_neg (by omega),hp];have:=Eh [T'];rw[sz,sz]at this;omega
theorem y3C{T:ByteArray}(h:T.size<=9223372036854775807):RtZ (.mk 5 T 0 0 0 0 [] 0):=by rw[RtZ,Yy];exact⟨h,trivial⟩
theorem y3D(T:ByteArray):RtU (.mk 5 T 0 0 0 0 [] 0):=by rw[RtU,Zh];exact⟨by decide,by decide,by decide,by decide,trivial⟩
theorem y3E(T:ByteArray)(W:World):Qk W W.heap.size (.mk 5 T 0 0 0 0 [] 0) (r8 5 T 0 0 0 0 none 0 0 0):=by
 rw[Qk];exact⟨none,0,rfl,.inl rfl⟩
theorem z5x{s:ByteArray}:∀{l:List ByteArray},s∈l->inN s l=true
 |[],h=>by simp at h
 |a::r,h=>by
  rw[inN];by_cases e:a=s
  ·rw[if_pos e]
  ·rw[if_neg e]
   rcases List.mem_cons.1 h with h|h
   ·exact absurd h.symm e
   ·exact z5x h
open Go.ChangeShapes Go.WideShapes
theorem Tryz.own:ownKnob Tryz.prog.godebug=none:=by kernel_rfl
theorem Tryz.et:Tryz.prog.globalNamed "errors.errorType"=some 0:=by kernel_rfl
theorem Tryz.rt:(Tryz.prog.cutTypes.find? (·.1 == "internal/reflectlite.rtype")).map (·.2)=some 200:=by kernel_rfl
theorem Tryz.oneRow:((List.range 322).filter fun t=>Tryz.prog.rowNamed t [101,114,114,111,114])=[35]:=by kernel_rfl
theorem Tryz.nTypes:Tryz.prog.types.size=322:=by kernel_rfl
theorem y3F{l:List (String×DataW Unit)}(h:handlesMet prog l W)(hm:("errors.errorType",Rows.laid_errors_errorType)∈l):Yz W:=by
 obtain⟨name,u,ty,e1,e2,e3,e4,e5⟩:=h _ hm;have en:name=[101,114,114,111,114]:=(Option.some.inj e1).symm;subst en;obtain rfl:=Option.some.inj (Tryz.rt.symm.trans e2);have hm:ty∈(List.range 322).filter fun t=>Tryz.prog.rowNamed t [101,114,114,111,114]:=List.mem_filter.2 ⟨List.mem_range.2 (by rw[<-Tryz.nTypes];exact e3),e4⟩
 rw[Tryz.oneRow]at hm;obtain rfl:=List.mem_singleton.1 hm;have hh:typeHandle prog 35=.pointer (some ⟨3,35,none⟩):=by kernel_rfl
 rw[hh]at e5;have:=World.var?_cell Tryz.et e5 0;unfold Yz;simpa using this
theorem Tryz.laidOutW:laidOutB prog=true:=by kernel_rfl
theorem Tryz.gT:Tryz.prog.globalNamed "math/bits.deBruijn64tab"=some 1:=by kernel_rfl
theorem Tryz.gTType:(Tryz.prog.globals[1]?).map (·.type)=some 246:=by kernel_rfl
theorem Tryz.cellsTab:Tryz.prog.cellsOf 246=64:=by kernel_rfl
theorem Tryz.cellsU8:Tryz.prog.cellsOf 5=1:=by kernel_rfl
theorem y3G{rest:List (String×DataW Unit)}(h:laidMet prog (("math/bits.deBruijn64tab",Rows.laid_math_bits_deBruijn64tab)::rest) W):TabIs W:=by
 have hT:Lib.TabIs prog W "math/bits.deBruijn64tab" .u8 (Lib.deBruijn64tab.map fun n:Nat=>(n:Int)):=Lib.tabIs_of_head (rest:=rest) Tryz.gT Tryz.gTType Tryz.underlying246 Tryz.underlying5 Tryz.cellsU8 Tryz.cellsTab h;intro i hi;have:=hT.cell Tryz.gT i (by simp[Lib.deBruijn64tab];omega);rw[this];congr 2;simp only[List.getD,List.getElem?_map];cases Lib.deBruijn64tab[i]? <;>rfl
theorem Ic(h:laidMetH prog [("math/bits.deBruijn64tab",Rows.laid_math_bits_deBruijn64tab),("errors.errorType",Rows.laid_errors_errorType)] W):Yz W/\TabIs W:=by
 have h':laidMet prog [("math/bits.deBruijn64tab",Rows.laid_math_bits_deBruijn64tab)] W/\handlesMet prog [("errors.errorType",Rows.laid_errors_errorType)] W:=h;exact⟨y3F h'.2 (List.mem_singleton.2 rfl),y3G (rest:=[]) h'.1⟩
theorem y3S:True:=trivial
end Go.Proofs.YtjodljnddflgfaaGreatDoor
