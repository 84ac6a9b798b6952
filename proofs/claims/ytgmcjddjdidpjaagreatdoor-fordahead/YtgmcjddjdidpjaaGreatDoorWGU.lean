/- Lemmas for the last text. Conditions: those that each names. -/
import Derived.Test.YtgmcjddjdidpjaaGreatDoorVT21ToGBase
set_option linter.unusedVariables false
namespace Go.Proofs.YtgmcjddjdidpjaaGreatDoor
open Go.Proofs.Tryz
open Go.RowKit Go.Shelf Go.Maps
def evM(B:ByteArray->Option RT)(T:ByteArray):Nat->Jb->Nat->Option (Option Nat×Nat)
 |0,_,_=>none
 |f+1,.one (.mk k N a b c d s p),i=>
  if k=1 then some (some i,1)
  else if k=2 then some (oneE (Lib.hasPrefix (T.data.toList.drop i) N.data.toList) (i+N.size),1)
  else if k=3 then some (oneE (hasB (cl4 a b c d) T i) (i+1),1)
  else if k=4 then some (oneE (hasB all256 T i) (i+1),1)
  else if k=5 then(match B N with
   |none=>none
   |some t=>(evM B T f (.one t) i).map fun x=>(x.1,x.2+1))
  else if k=6 then(evM B T f (.row s) i).map fun x=>(x.1,x.2+1)
  else if k=7 then(evM B T f (.alt s) i).map fun x=>(x.1,x.2+1)
  else match s with
   |[]=>none
   |t::r=>
    if k=9 then(evM B T f (.rep t) i).map fun x=>(x.1,x.2+1)
    else match evM B T f (.one t) i with
     |none=>none
     |some (e,n)=>
      if k=8 then some (some (e.getD i),n+1)
      else if k=11 then some (oneE e.isSome i,n+1)
      else if k=12 then some (oneE e.isNone i,n+1)
      else if k=10 then(match e with
       |none=>some (none,n+1)
       |some x=>(evM B T f (.rep t) x).map fun y=>(y.1,n+y.2+1))
      else none
 |f+1,.row [],i=>some (some i,0)
 |f+1,.row (t::r),i=>match evM B T f (.one t) i with
  |none=>none
  |some (none,n)=>some (none,n)
  |some (some x,n)=>(evM B T f (.row r) x).map fun y=>(y.1,n+y.2)
 |f+1,.alt [],i=>some (none,0)
 |f+1,.alt (t::r),i=>match evM B T f (.one t) i with
  |none=>none
  |some (some x,n)=>some (some x,n)
  |some (none,n)=>(evM B T f (.alt r) i).map fun y=>(y.1,n+y.2)
 |f+1,.rep t,i=>match evM B T f (.one t) i with
  |none=>none
  |some (none,n)=>some (some i,n)
  |some (some x,n)=>(evM B T f (.rep t) x).map fun y=>(y.1,n+y.2)
theorem y3Y{α β:Type}{o:Option α}{g:α->β}{y:β}(h:o.map g=some y):∃x,o=some x/\g x=y:=by
 cases o with
 |none=>cases h
 |some x=>exact⟨x,rfl,Option.some.inj h⟩
theorem y3Z{B:ByteArray->Option RT}{T:ByteArray}:∀(f:Nat) (j:Jb) (i:Nat) (e:Option Nat) (c:Nat),evM B T f j i=some (e,c)->Mt B T j i e c
 |0,j,_,_,_,h=>by unfold evM at h;cases h
 |f+1,.one (.mk k N a b c d s p),i,e,n,h=>by
  have ih:= @y3Z B T f;rw[evM.eq_def]at h;dsimp only at h;by_cases h1:k=1
  ·subst h1;rw[if_pos rfl]at h;cases h;exact .emp
  rw[if_neg h1]at h;by_cases h2:k=2
  ·subst h2;rw[if_pos rfl,<-litB_drop]at h;cases h;exact .lit
  rw[if_neg h2]at h;by_cases h3:k=3
  ·subst h3;rw[if_pos rfl]at h;cases h;exact .set
  rw[if_neg h3]at h;by_cases h4:k=4
  ·subst h4;rw[if_pos rfl]at h;cases h;exact .any
  rw[if_neg h4]at h;by_cases h5:k=5
  ·subst h5
   rw[if_pos rfl]at h;cases hB:B N with
   |none=>rw[hB]at h;cases h
   |some t=>
    rw[hB]at h;obtain⟨x,hx,e1⟩:=y3Y h;cases e1;exact .ref hB (ih _ _ _ _ hx)
  rw[if_neg h5]at h;by_cases h6:k=6
  ·subst h6
   rw[if_pos rfl]at h;obtain⟨x,hx,e1⟩:=y3Y h;cases e1;exact .seq (ih _ _ _ _ hx)
  rw[if_neg h6]at h;by_cases h7:k=7
  ·subst h7
   rw[if_pos rfl]at h;obtain⟨x,hx,e1⟩:=y3Y h;cases e1;exact .cho (ih _ _ _ _ hx)
  rw[if_neg h7]at h;cases s with
  |nil=>cases h
  |cons t r=>
   simp only at h;by_cases h9:k=9
   ·subst h9
    rw[if_pos rfl]at h;obtain⟨x,hx,e1⟩:=y3Y h;cases e1;exact .star (ih _ _ _ _ hx)
   rw[if_neg h9]at h;cases hE:evM B T f (.one t) i with
   |none=>rw[hE]at h;cases h
   |some y=>
    obtain⟨e0,n0⟩:=y;rw[hE]at h;simp only at h;have hm:=ih _ _ _ _ hE;by_cases h8:k=8
    ·subst h8;rw[if_pos rfl]at h;cases h;exact .opt hm
    rw[if_neg h8]at h;by_cases h11:k=11
    ·subst h11;rw[if_pos rfl]at h;cases h;exact .and hm
    rw[if_neg h11]at h;by_cases h12:k=12
    ·subst h12;rw[if_pos rfl]at h;cases h;exact .not hm
    rw[if_neg h12]at h;by_cases h10:k=10
    ·subst h10
     rw[if_pos rfl]at h;cases e0 with
     |none=>cases h;exact .plus_no hm
     |some x=>
      simp only at h;obtain⟨y,hy,e1⟩:=y3Y h;cases e1;exact .plus_ok hm (ih _ _ _ _ hy)
    rw[if_neg h10]at h;cases h
 |f+1,.row [],i,e,n,h=>by rw[evM]at h;cases h;exact .row_nil
 |f+1,.row (t::r),i,e,n,h=>by
  have ih:= @y3Z B T f;rw[evM.eq_def]at h;dsimp only at h;cases hE:evM B T f (.one t) i with
  |none=>rw[hE]at h;cases h
  |some y=>
   obtain⟨e0,n0⟩:=y;rw[hE]at h;cases e0 with
   |none=>cases h;exact .row_no (ih _ _ _ _ hE)
   |some x=>
    simp only at h;obtain⟨y,hy,e1⟩:=y3Y h;cases e1;exact .row_ok (ih _ _ _ _ hE) (ih _ _ _ _ hy)
 |f+1,.alt [],i,e,n,h=>by rw[evM]at h;cases h;exact .alt_nil
 |f+1,.alt (t::r),i,e,n,h=>by
  have ih:= @y3Z B T f;rw[evM.eq_def]at h;dsimp only at h;cases hE:evM B T f (.one t) i with
  |none=>rw[hE]at h;cases h
  |some y=>
   obtain⟨e0,n0⟩:=y;rw[hE]at h;cases e0 with
   |some x=>cases h;exact .alt_ok (ih _ _ _ _ hE)
   |none=>
    simp only at h;obtain⟨y,hy,e1⟩:=y3Y h;cases e1;exact .alt_no (ih _ _ _ _ hE) (ih _ _ _ _ hy)
 |f+1,.rep t,i,e,n,h=>by
  have ih:= @y3Z B T f;rw[evM.eq_def]at h;dsimp only at h;cases hE:evM B T f (.one t) i with
  |none=>rw[hE]at h;cases h
  |some y=>
   obtain⟨e0,n0⟩:=y;rw[hE]at h;cases e0 with
   |none=>cases h;exact .rep_end (ih _ _ _ _ hE)
   |some x=>
    simp only at h;obtain⟨y,hy,e1⟩:=y3Y h;cases e1;exact .rep_go (ih _ _ _ _ hE) (ih _ _ _ _ hy)
@[reducible] def smA:ByteArray:={data:=#[115,32,60,45,32,101,32,33,46,32,101,32,60,45,32,116,32,40,39,43,39,32,116,41,42,32,116,32,60,45,32,91,48,45,57,93,43,32,47,32,39,40,39,32,101,32,39,41,39]}
@[reducible] def tA:ByteArray:={data:=#[49,43,40,50,43,51,41]}
@[reducible] def tB:ByteArray:={data:=#[49,43]}
@[reducible] def tC:ByteArray:={data:=#[97,55]}
def okE(o:Option (Option Nat×Nat))(f:Option Nat->Bool):Bool:=match o with
 |some (e,c)=>f e&&decide (c<=1000)
 |none=>false
def y4d(x:Nat):Bool:=match parS smA with
 | .inr rs=>decide (sz (pR qT cT rs)<=8192)&&(decide (dR rs<=24)&&(decide (ckR (toG rs)=none)&&((toG rs).all (fun x=>decide (ofT (itr (toG rs) 6) x.2.1=itr (toG rs) 6 x.1))&&(decide (flG (itr (toG rs) 6) (toG rs)=none)&&(decide ((toG rs).map (fun x=>(fbT (itr (toG rs) 6) x.2.1).map fun s=>fdI s (nmL (toG rs)))=[[1],[2],[]])&&(okE (evM (bdR (toG rs)) tA 99 (.one (((toG rs)[0]?.map (·.2.1)).getD (.mk 1 tA 0 0 0 0 [] 0))) 0) (fun e=>decide (e=some 7))&&(okE (evM (bdR (toG rs)) tB 99 (.one (((toG rs)[0]?.map (·.2.1)).getD (.mk 1 tA 0 0 0 0 [] 0))) 0) (fun e=>decide (e=none))&&decide (evM (bdR (toG rs)) tC 99 (.one (((toG rs)[2]?.map (·.2.1)).getD (.mk 1 tA 0 0 0 0 [] 0))) 1=some (some 2,4)))))))))
 | .inl _=>false
theorem y4k:∀x,x<1->y4d x=true:=by decide+kernel
end Go.Proofs.YtgmcjddjdidpjaaGreatDoor
