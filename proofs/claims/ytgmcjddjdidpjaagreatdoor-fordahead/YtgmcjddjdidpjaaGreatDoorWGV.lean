/- Lemmas for the last text. Conditions: those that each names. -/
import Derived.Test.YtgmcjddjdidpjaaGreatDoorWGU
set_option linter.unusedVariables false
set_option maxRecDepth 100000
set_option maxHeartbeats 4000000
namespace Go.Proofs.YtgmcjddjdidpjaaGreatDoor
open Go.Proofs.Tryz
open Go.RowKit Go.Shelf Go.Maps
theorem y4a(C i:Nat):(0:Int)<=(wd C i:Nat)/\((wd C i:Nat):Int)<18446744073709551616:=by
 have:=Zf C i;omega
mutual
theorem y4e:∀n:Nd,RtU (toR n)
 | .mk kd T C s p=>by rw[toR,RtU];exact⟨y4a C 0,y4a C 1,y4a C 2,y4a C 3,y4f s⟩
theorem y4f:∀s:List Nd,Uc (Um s)
 |[]=>by rw[Um,Uc];trivial
 |n::r=>by rw[Um,Uc];exact⟨y4e n,y4f r⟩
end
theorem y4l{S:ByteArray}{rs:List Rl}(hp:parS S=.inr rs)(h1:sz (pR qT cT rs)<=8192)(h2:dR rs<=24):PrG (toG rs):=by
 have hx:∀x∈rs,Ruk Nmq x:=fun x hx=>(z1Z hp x hx).1
 have hl:=z3m hp;exact⟨z3p (Db rs) hx hl.2 hl.1,rs,Db rs,hx,h1,h2⟩
theorem y4g{o:Option (Option Nat×Nat)}{f:Option Nat->Bool}(h:okE o f=true):∃e c,o=some (e,c)/\f e=true/\c<=1000:=by
 unfold okE at h;cases o with
 |none=>cases h
 |some x=>
  obtain⟨e,c⟩:=x;simp only[Bool.and_eq_true,decide_eq_true_eq]at h;exact⟨e,c,rfl,h.1,h.2⟩
theorem y4m{us:List (List Int)}(h:∀i x:Nat,(x:Int)∈us.getD i []->i<x){x i:Nat}(hr:Rch us x i):x<=i:=by
 induction hr with
 |refl=>exact Nat.le_refl _
 |step _ hm ih=>exact Nat.le_trans ih (Nat.le_of_lt (h _ _ hm))
theorem y4n{us:List (List Int)}(h:∀i x:Nat,(x:Int)∈us.getD i []->i<x)(i:Nat):¬Bck us i:=fun⟨x,hx,hr⟩=>by
 have h1:=h i x hx;have h2:=y4m h hr;omega
theorem y4o:∃rs,parS smA=.inr rs/\sz (pR qT cT rs)<=8192/\dR rs<=24/\ckR (toG rs)=none/\soZ (toG rs) none=none/\∃h:(toG rs).length=3,(∃c,c<=1000/\Mt (bdR (toG rs)) tA (.one ((toG rs)[0]'(by omega)).2.1) 0 (some 7) c)/\(∃c,c<=1000/\Mt (bdR (toG rs)) tB (.one ((toG rs)[0]'(by omega)).2.1) 0 none c)/\Mt (bdR (toG rs)) tC (.one ((toG rs)[2]'(by omega)).2.1) 1 (some 2) 4:=by
 have h:=y4k 0 (by decide);unfold y4d at h;cases hp:parS smA with
 |inl c=>rw[hp]at h;cases h
 |inr rs=>
  rw[hp]at h;simp only[Bool.and_eq_true,decide_eq_true_eq]at h;obtain⟨h1,h2,h3,h4,h5,h6,h7,h8,h9⟩:=h;have hf:Yh (itr (toG rs) 6) (toG rs):=fun x hx=>by simpa using List.all_eq_true.1 h4 x hx
  have hlen:(toG rs).length=3:=by have:=congrArg List.length h6;simpa using this
  have g0:(((toG rs)[0]?.map (·.2.1)).getD (.mk 1 tA 0 0 0 0 [] 0))=((toG rs)[0]'(by omega)).2.1:=by rw[List.getElem?_eq_getElem (by omega)];rfl
  have g2:(((toG rs)[2]?.map (·.2.1)).getD (.mk 1 tA 0 0 0 0 [] 0))=((toG rs)[2]'(by omega)).2.1:=by rw[List.getElem?_eq_getElem (by omega)];rfl
  rw[g0]at h7 h8;rw[g2]at h9;rw[kG_eq hf]at h5 h6;refine⟨rs,rfl,h1,h2,h3,?_,hlen,?_,?_,y3Z _ _ _ _ _ h9⟩
  ·have hb:∀i,i<(toG rs).length->¬Bck (bgU (toG rs)) i:=fun i _=>y4n (fun i x hx=>by
    rw[List.getD_eq_getElem?_getD]at hx;unfold bgU at hx;rcases Nat.lt_or_ge i (toG rs).length with hi|hi
    ·rw[List.getElem?_map,List.getElem?_eq_getElem hi]at hx
     have hx:(x:Int)∈bgR (toG rs) (kG (toG rs)) (toG rs)[i]:=hx;obtain⟨s,hs,e⟩:=y1O.1 hx;have hm:(x:Int)∈(fbT (kG (toG rs)) (toG rs)[i].2.1).map (fun s=>fdI s (nmL (toG rs))):=List.mem_map.2 ⟨s,hs,e⟩;have h10:=congrArg (fun l=>l[i]?) h6;simp only[List.getElem?_map,List.getElem?_eq_getElem hi,Option.map_some]at h10;rcases(by omega:i=0∨i=1∨i=2)with rfl|rfl|rfl
     ·rw[show([[1],[2],[]]:List (List Int))[0]? =some [1]from rfl]at h10
      have h10:=Option.some.inj h10;rw[h10]at hm;simp at hm;omega
     ·rw[show([[1],[2],[]]:List (List Int))[1]? =some [2]from rfl]at h10
      have h10:=Option.some.inj h10;rw[h10]at hm;simp at hm;omega
     ·rw[show([[1],[2],[]]:List (List Int))[2]? =some []from rfl]at h10
      have h10:=Option.some.inj h10;rw[h10]at hm;simp at hm
    ·rw[List.getElem?_eq_none (by simpa using hi)]at hx
     simp at hx) i
   unfold soZ flX;simp only;rw[h5,lfG_none hb];rfl
  ·obtain⟨e,c,e1,e2,e3⟩:=y4g h7
   have e2:e=some 7:=by simpa using e2
   subst e2;exact⟨c,e3,y3Z _ _ _ _ _ e1⟩
  ·obtain⟨e,c,e1,e2,e3⟩:=y4g h8
   have e2:e=none:=by simpa using e2
   subst e2;exact⟨c,e3,y3Z _ _ _ _ _ e1⟩
theorem y4h(so:Option Addr)(n cap:Nat)(T:ByteArray)(m x y:Int)(q:Bool)(w:World)(hq:(x == (T.size:Int))=q)(hT:T.size<=9223372036854775807)
  (HM:Hid (∀W:World,Below w.heap.size w W->Calls prog 11 #[.agg #[.slice so n cap],.int .i64 0,.string T,.int .i64 0,.int .i64 m] W fun e w'=>e=.returned (.tuple #[.int .i64 x,.int .i64 y,.nilIface])/\Below W.heap.size W w')):
  Calls prog 12 #[.agg #[.slice so n cap],.string T,.int .i64 m] w fun e w'=>e=.returned (.tuple #[.bool q,.int .i64 y,.nilIface])/\Below w.heap.size w w':=by
 go_enter func12,ntmps12
 go_wp2_with fail
 first
  |refine(HM.out _ B0q).mono ?_
  |refine(HM.out _ ((Below.refl _ w).alloc L0q _)).mono ?_
 rintro e w1 ⟨rfl,hb⟩;have HB:=hid hb;clear hb
 go_wp2_with fail
 refine bodyPost_ret (v:=.tuple #[.bool q,.int .i64 y,.nilIface]) (by simp[results,Tryz.results12,go_sem]) rfl ?_
 first
  |exact⟨rfl,HB.out⟩
  |exact⟨rfl,((Below.refl _ w).alloc L0q _).trans (HB.out.mono (by simp))⟩
end Go.Proofs.YtgmcjddjdidpjaaGreatDoor
