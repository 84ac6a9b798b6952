/- Lemmas for the last text. Conditions: those that each names. -/
import Derived.Test.YtgmcjddjdidpjabGreatDoorVGZToGFW
import Derived.Test.YtgmcjddjdidpjabGreatDoorVT21ToGBase
import Derived.SizedLaws
import Derived.Test.YtgmcjddjdidpjabGreatDoorVS9
set_option linter.unusedVariables false
set_option maxRecDepth 100000
set_option maxHeartbeats 8000000
namespace Go.Proofs.YtgmcjddjdidpjabGreatDoor
open Go.Proofs.Tryz
open Go.RowKit Go.Shelf Go.Maps
def AtV(rs:List Rr)(t:RT)(T:ByteArray)(f r:Int):Prop:=r= -2∨(0<=f/\f<=(T.size:Int))/\∃e c,Mt (bdR (wiG fsS t rs)) T (.one t) f.toNat e c/\r=eI e
def AtA(rs:List Rr)(t:RT)(T:ByteArray)(f:Int)(W:World)(e:Ending)(w':World):Prop:=∃r,e=.returned (.int .i64 r)/\Hid (AtV rs t T f r)/\Hid (Below W.heap.size W w')
def AtM(rs:List Rr)(t:RT)(T:ByteArray)(f x:Int)(v:Value):Prop:=(v=.nilIface/\(0<=f/\f<=(T.size:Int))/\∃e c,Mt (bdR (wiG fsS t rs)) T (.one t) f.toNat e c/\x=eI e)∨∃tt uu,v=.iface tt uu
theorem y5e{rs:List Rr}{t:RT}{T:ByteArray}{f x y:Int}{v:Value}{Z:Prop}{L:Int}(h:FmV (upB L 0&&(upB (T.size:Int) f&&upB 1048576 50000)) (decide (T.size<=4096)) (Gm (wiG fsS t rs) 0 T f 50000) Z x y v):AtM rs t T f x v:=by
 rcases h with⟨_,_,_,tt,uu,h⟩|⟨_,_,_,_,h⟩|⟨_,_,_,_,_,h⟩|⟨hZ,h1,h2,hr,h⟩
 ·exact .inr ⟨tt,uu,h⟩
 ·exact .inr ⟨_,_,h⟩
 ·exact .inr ⟨_,_,h⟩
 ·rcases h with⟨e,c,hM,hc,rfl,rfl,hv⟩|⟨_,_,_,h⟩
  ·simp only[Bool.and_eq_true]at h1
   obtain⟨j,hj,hj2⟩:=Id h1.2.1;exact .inl ⟨hv,⟨by omega,by omega⟩,e,c,hM,rfl⟩
  ·exact .inr ⟨_,_,h⟩
theorem z5C{rs:List Rr}{t:RT}(h:RgZ rs)(ht:RtZ t):RgZ (wiG fsS t rs):=fun y hy=>by
 rcases List.mem_cons.1 hy with rfl|h'
 ·exact⟨(show fsS.size<=9223372036854775807 by decide),ht⟩
 ·exact h y h'
theorem z5D{rs:List Rr}{t:RT}(h:RgU rs)(ht:RtU t):RgU (wiG fsS t rs):=fun y hy=>by
 rcases List.mem_cons.1 hy with rfl|h'
 ·exact ht
 ·exact h y h'
theorem Ic(so:Option Addr)(n cap:Nat)(rs:List Rr)(kx:Int)(Tx:ByteArray)(ax bx cx dx:Int)(sox:Option Addr)(nx capx:Nat)(px:Int)(t:RT)(T:ByteArray)(f:Int)(fp:Addr)(B:Nat)(w:World)(hT:TabIs w)(hF:w.cell? ⟨1,0,none⟩=some (.iface 243 (.pointer (some fp))))(hz:RgZ rs)(hu:RgU rs)(h:Qy w B so n rs)(hB:B<=w.heap.size)(hn:n*112<=140737488351232)(ht:Qk w B t (r8 kx Tx ax bx cx dx sox nx capx px))(htz:RtZ t)(htu:RtU t)(hTz:T.size<=9223372036854775807)(W:World)(hW:Below w.heap.size w W):
  Calls prog 7 #[.agg #[.slice so n cap],.agg #[.int .i64 kx,.string Tx,.int .u64 ax,.int .u64 bx,.int .u64 cx,.int .u64 dx,.slice sox nx capx,.int .i64 px],.string T,.int .i64 f] W (AtA rs t T f W):=by
 refine(y4V so n cap kx Tx ax bx cx dx sox nx capx px T f W (AtM rs t T f) (fun x v hv=> ?_) (hid fun W1 hW1=> ?_)).mono ?_
 ·rcases hv with⟨h,_⟩|⟨tt,uu,h⟩
  ·exact .inl h
  ·exact .inr ⟨tt,uu,h⟩
 ·have hb1:Below w.heap.size w W1:=hW.trans (hW1.mono hW.size)
  refine(y5d so n cap rs kx Tx ax bx cx dx sox nx capx px t B W1 (h.below (hb1.mono hB)) (Nat.le_trans hB hb1.size) hn (ht.below (hb1.mono hB))).mono ?_;rintro e w' ⟨g6,cap6,rfl,hR,hb⟩;refine⟨_,_,_,rfl,hb,fun W2 hW2=> ?_⟩;have hb2:Below w.heap.size w w':=hb1.trans (hb.mono hb1.size);have hfl:1<w.heap.size:=World.block_lt_of_cell? w _ hF;have hT2:=hT.below hb2 hT.lt;have hF2:=(hb2.cell (p:=⟨1,0,none⟩) hfl).trans hF;obtain⟨X,hX,hP,hC⟩:=y2z (some ⟨g6,0,none⟩) (n+1) cap6 _ w'.heap.size w' (z5C hz htz) (z5D hu htu) hR L0q hT2;refine(z5r (some ⟨g6,0,none⟩) (n+1) cap6 _ X w'.heap.size fp w' hX hP hC (z5C hz htz) (z5D hu htu) hR L0q hT2 hF2 0 f 50000 T hTz W2 hW2).mono ?_;rintro e w3 ⟨x,y,v,rfl,hv,hb3⟩;exact⟨x,y,v,rfl,y5e hv,hb3⟩
 ·rintro e w' ⟨x,v,r,hM,h1,h2,rfl,hb⟩
  refine⟨r,rfl,hid ?_,hid hb⟩;rcases hM with⟨hv,hf,e,c,hm,hx⟩|⟨tt,uu,hv⟩
  ·exact .inr ⟨hf,e,c,hm,(h1 hv).trans hx⟩
  ·exact .inl (h2 (by rw[hv];intro hh;cases hh))
theorem AtV.three{rs:List Rr}{t:RT}{T:ByteArray}{f r:Int}(h:AtV rs t T f r):r= -2∨(r= -1/\(0<=f/\f<=(T.size:Int))/\∃c,Mt (bdR (wiG fsS t rs)) T (.one t) f.toNat none c)∨∃x:Nat,r=(x:Int)/\(0<=f/\f<=(T.size:Int))/\∃c,Mt (bdR (wiG fsS t rs)) T (.one t) f.toNat (some x) c:=by
 rcases h with h|⟨hf,e,c,hm,h⟩
 ·exact .inl h
 ·cases e with
  |none=>exact .inr (.inl ⟨h,hf,c,hm⟩)
  |some x=>exact .inr (.inr ⟨x,h,hf,c,hm⟩)
def evM(B:ByteArray->Option RT)(T:ByteArray):Nat->Jb->Nat->Option (Option Nat×Nat)
 |0,_,_=>none
 |f+1,.one (.mk k N a b c d s p),i=>
  if k=1 then some (some i,1)
  else if k=2 then some (Xb (Lib.hasPrefix (T.data.toList.drop i) N.data.toList) (i+N.size),1)
  else if k=3 then some (Xb (Jd (cl4 a b c d) T i) (i+1),1)
  else if k=4 then some (Xb (Jd Uy T i) (i+1),1)
  else if k=5 then(match B N with
   |none=>none
   |some t=>(evM B T f (.one t) i).map fun x=>(x.1,x.2+1))
  else if k=6 then(evM B T f (.row s) i).map fun x=>(x.1,x.2+1)
  else if k=7 then(evM B T f (.alt s) i).map fun x=>(x.1,x.2+1)
  else match s with
   |[]=>none
   |t::r=>
    if k=9 then(evM B T f (.rep t) i).map fun x=>(x.1,x.2+1)
    else match evM B T f (.one t) i with
     |none=>none
     |some (e,n)=>
      if k=8 then some (some (e.getD i),n+1)
      else if k=11 then some (Xb e.isSome i,n+1)
      else if k=12 then some (Xb e.isNone i,n+1)
      else if k=10 then(match e with
       |none=>some (none,n+1)
       |some x=>(evM B T f (.rep t) x).map fun y=>(y.1,n+y.2+1))
      else none
 |f+1,.row [],i=>some (some i,0)
 |f+1,.row (t::r),i=>match evM B T f (.one t) i with
  |none=>none
  |some (none,n)=>some (none,n)
  |some (some x,n)=>(evM B T f (.row r) x).map fun y=>(y.1,n+y.2)
 |f+1,.alt [],i=>some (none,0)
 |f+1,.alt (t::r),i=>match evM B T f (.one t) i with
  |none=>none
  |some (some x,n)=>some (some x,n)
  |some (none,n)=>(evM B T f (.alt r) i).map fun y=>(y.1,n+y.2)
 |f+1,.rep t,i=>match evM B T f (.one t) i with
  |none=>none
  |some (none,n)=>some (some i,n)
  |some (some x,n)=>(evM B T f (.rep t) x).map fun y=>(y.1,n+y.2)
theorem Dj{α β:Type}{o:Option α}{g:α->β}{y:β}(h:o.map g=some y):∃x,o=some x/\g x=y:=by
 cases o with
 |none=>cases h
 |some x=>exact⟨x,rfl,Option.some.inj h⟩
theorem Kw{B:ByteArray->Option RT}{T:ByteArray}:∀(f:Nat) (j:Jb) (i:Nat) (e:Option Nat) (c:Nat),evM B T f j i=some (e,c)->Mt B T j i e c
 |0,j,_,_,_,h=>by unfold evM at h;cases h
 |f+1,.one (.mk k N a b c d s p),i,e,n,h=>by
  have ih:= @Kw B T f;rw[evM.eq_def]at h;dsimp only at h;by_cases h1:k=1
  ·subst h1;rw[if_pos rfl]at h;cases h;exact .emp
  rw[if_neg h1]at h;by_cases h2:k=2
  ·subst h2;rw[if_pos rfl,<-z3a]at h;cases h;exact .lit
  rw[if_neg h2]at h;by_cases h3:k=3
  ·subst h3;rw[if_pos rfl]at h;cases h;exact .set
  rw[if_neg h3]at h;by_cases h4:k=4
  ·subst h4;rw[if_pos rfl]at h;cases h;exact .any
  rw[if_neg h4]at h;by_cases h5:k=5
  ·subst h5
   rw[if_pos rfl]at h;cases hB:B N with
   |none=>rw[hB]at h;cases h
   |some t=>
    rw[hB]at h;obtain⟨x,hx,e1⟩:=Dj h;cases e1;exact .ref hB (ih _ _ _ _ hx)
  rw[if_neg h5]at h;by_cases h6:k=6
  ·subst h6
   rw[if_pos rfl]at h;obtain⟨x,hx,e1⟩:=Dj h;cases e1;exact .seq (ih _ _ _ _ hx)
  rw[if_neg h6]at h;by_cases h7:k=7
  ·subst h7
   rw[if_pos rfl]at h;obtain⟨x,hx,e1⟩:=Dj h;cases e1;exact .cho (ih _ _ _ _ hx)
  rw[if_neg h7]at h;cases s with
  |nil=>cases h
  |cons t r=>
   simp only at h;by_cases h9:k=9
   ·subst h9
    rw[if_pos rfl]at h;obtain⟨x,hx,e1⟩:=Dj h;cases e1;exact .star (ih _ _ _ _ hx)
   rw[if_neg h9]at h;cases hE:evM B T f (.one t) i with
   |none=>rw[hE]at h;cases h
   |some y=>
    obtain⟨e0,n0⟩:=y;rw[hE]at h;simp only at h;have hm:=ih _ _ _ _ hE;by_cases h8:k=8
    ·subst h8;rw[if_pos rfl]at h;cases h;exact .opt hm
    rw[if_neg h8]at h;by_cases h11:k=11
    ·subst h11;rw[if_pos rfl]at h;cases h;exact .and hm
    rw[if_neg h11]at h;by_cases h12:k=12
    ·subst h12;rw[if_pos rfl]at h;cases h;exact .not hm
    rw[if_neg h12]at h;by_cases h10:k=10
    ·subst h10
     rw[if_pos rfl]at h;cases e0 with
     |none=>cases h;exact .plus_no hm
     |some x=>
      simp only at h;obtain⟨y,hy,e1⟩:=Dj h;cases e1;exact .plus_ok hm (ih _ _ _ _ hy)
    rw[if_neg h10]at h;cases h
 |f+1,.row [],i,e,n,h=>by rw[evM]at h;cases h;exact .row_nil
 |f+1,.row (t::r),i,e,n,h=>by
  have ih:= @Kw B T f;rw[evM.eq_def]at h;dsimp only at h;cases hE:evM B T f (.one t) i with
  |none=>rw[hE]at h;cases h
  |some y=>
   obtain⟨e0,n0⟩:=y;rw[hE]at h;cases e0 with
   |none=>cases h;exact .row_no (ih _ _ _ _ hE)
   |some x=>
    simp only at h;obtain⟨y,hy,e1⟩:=Dj h;cases e1;exact .row_ok (ih _ _ _ _ hE) (ih _ _ _ _ hy)
 |f+1,.alt [],i,e,n,h=>by rw[evM]at h;cases h;exact .alt_nil
 |f+1,.alt (t::r),i,e,n,h=>by
  have ih:= @Kw B T f;rw[evM.eq_def]at h;dsimp only at h;cases hE:evM B T f (.one t) i with
  |none=>rw[hE]at h;cases h
  |some y=>
   obtain⟨e0,n0⟩:=y;rw[hE]at h;cases e0 with
   |some x=>cases h;exact .alt_ok (ih _ _ _ _ hE)
   |none=>
    simp only at h;obtain⟨y,hy,e1⟩:=Dj h;cases e1;exact .alt_no (ih _ _ _ _ hE) (ih _ _ _ _ hy)
 |f+1,.rep t,i,e,n,h=>by
  have ih:= @Kw B T f;rw[evM.eq_def]at h;dsimp only at h;cases hE:evM B T f (.one t) i with
  |none=>rw[hE]at h;cases h
  |some y=>
   obtain⟨e0,n0⟩:=y;rw[hE]at h;cases e0 with
   |none=>cases h;exact .rep_end (ih _ _ _ _ hE)
   |some x=>
    simp only at h;obtain⟨y,hy,e1⟩:=Dj h;cases e1;exact .rep_go (ih _ _ _ _ hE) (ih _ _ _ _ hy)
@[reducible] def smA:ByteArray:={data:=#[115,32,60,45,32,101,32,33,46,32,101,32,60,45,32,116,32,40,39,43,39,32,116,41,42,32,116,32,60,45,32,91,48,45,57,93,43,32,47,32,39,40,39,32,101,32,39,41,39]}
@[reducible] def tA:ByteArray:={data:=#[49,43,40,50,43,51,41]}
@[reducible] def tB:ByteArray:={data:=#[49,43]}
@[reducible] def tC:ByteArray:={data:=#[97,55]}
def okE(o:Option (Option Nat×Nat))(f:Option Nat->Bool):Bool:=match o with
 |some (e,c)=>f e&&decide (c<=1000)
 |none=>false
def z5E(x:Nat):Bool:=match Vy smA with
 | .inr rs=>decide (sz (pR qT cT rs)<=8192)&&(decide (dR rs<=24)&&(decide (ckR (toG rs)=none)&&((toG rs).all (fun x=>decide (ofT (itr (toG rs) 6) x.2.1=itr (toG rs) 6 x.1))&&(decide (flG (itr (toG rs) 6) (toG rs)=none)&&(decide ((toG rs).map (fun x=>(fbT (itr (toG rs) 6) x.2.1).map fun s=>fdI s (nmL (toG rs)))=[[1],[2],[]])&&(okE (evM (bdR (toG rs)) tA 99 (.one (((toG rs)[0]?.map (·.2.1)).getD (.mk 1 tA 0 0 0 0 [] 0))) 0) (fun e=>decide (e=some 7))&&(okE (evM (bdR (toG rs)) tB 99 (.one (((toG rs)[0]?.map (·.2.1)).getD (.mk 1 tA 0 0 0 0 [] 0))) 0) (fun e=>decide (e=none))&&decide (evM (bdR (toG rs)) tC 99 (.one (((toG rs)[2]?.map (·.2.1)).getD (.mk 1 tA 0 0 0 0 [] 0))) 1=some (some 2,4)))))))))
 | .inl _=>false
theorem y5f:∀x,x<1->z5E x=true:=by decide+kernel
theorem Il(C i:Nat):(0:Int)<=(wd C i:Nat)/\((wd C i:Nat):Int)<18446744073709551616:=by
 have:=Zv C i;omega
mutual
theorem z5F:∀n:Nd,RtU (toR n)
 | .mk kd T C s p=>by rw[toR,RtU];exact⟨Il C 0,Il C 1,Il C 2,Il C 3,z5G s⟩
theorem z5G:∀s:List Nd,Yy (Vb s)
 |[]=>by rw[Vb,Yy];trivial
 |n::r=>by rw[Vb,Yy];exact⟨z5F n,z5G r⟩
end
theorem y5g{S:ByteArray}{rs:List Rl}(hp:Vy S=.inr rs)(h1:sz (pR qT cT rs)<=8192)(h2:dR rs<=24):PrG (toG rs):=by
 have hx:∀x∈rs,Ruk Nmq x:=fun x hx=>(Sj hp x hx).1
 have hl:=Td hp;exact⟨Tc (Fj rs) hx hl.2 hl.1,rs,Fj rs,hx,h1,h2⟩
theorem z5H{o:Option (Option Nat×Nat)}{f:Option Nat->Bool}(h:okE o f=true):∃e c,o=some (e,c)/\f e=true/\c<=1000:=by
 unfold okE at h;cases o with
 |none=>cases h
 |some x=>
  obtain⟨e,c⟩:=x;simp only[Bool.and_eq_true,decide_eq_true_eq]at h;exact⟨e,c,rfl,h.1,h.2⟩
theorem y5h{us:List (List Int)}(h:∀i x:Nat,(x:Int)∈us.getD i []->i<x){x i:Nat}(hr:Rch us x i):x<=i:=by
 induction hr with
 |refl=>exact Nat.le_refl _
 |step _ hm ih=>exact Nat.le_trans ih (Nat.le_of_lt (h _ _ hm))
theorem y5i{us:List (List Int)}(h:∀i x:Nat,(x:Int)∈us.getD i []->i<x)(i:Nat):¬Bck us i:=fun⟨x,hx,hr⟩=>by
 have h1:=h i x hx;have h2:=y5h h hr;omega
theorem y5j:∃rs,Vy smA=.inr rs/\sz (pR qT cT rs)<=8192/\dR rs<=24/\ckR (toG rs)=none/\soZ (toG rs) none=none/\∃h:(toG rs).length=3,(∃c,c<=1000/\Mt (bdR (toG rs)) tA (.one ((toG rs)[0]'(by omega)).2.1) 0 (some 7) c)/\(∃c,c<=1000/\Mt (bdR (toG rs)) tB (.one ((toG rs)[0]'(by omega)).2.1) 0 none c)/\Mt (bdR (toG rs)) tC (.one ((toG rs)[2]'(by omega)).2.1) 1 (some 2) 4:=by
 have h:=y5f 0 (by decide);unfold z5E at h;cases hp:Vy smA with
 |inl c=>rw[hp]at h;cases h
 |inr rs=>
  rw[hp]at h;simp only[Bool.and_eq_true,decide_eq_true_eq]at h;obtain⟨h1,h2,h3,h4,h5,h6,h7,h8,h9⟩:=h;have hf:Yw (itr (toG rs) 6) (toG rs):=fun x hx=>by simpa using List.all_eq_true.1 h4 x hx
  have hlen:(toG rs).length=3:=by have:=congrArg List.length h6;simpa using this
  have g0:(((toG rs)[0]?.map (·.2.1)).getD (.mk 1 tA 0 0 0 0 [] 0))=((toG rs)[0]'(by omega)).2.1:=by rw[List.getElem?_eq_getElem (by omega)];rfl
  have g2:(((toG rs)[2]?.map (·.2.1)).getD (.mk 1 tA 0 0 0 0 [] 0))=((toG rs)[2]'(by omega)).2.1:=by rw[List.getElem?_eq_getElem (by omega)];rfl
  rw[g0]at h7 h8;rw[g2]at h9;rw[z5n hf]at h5 h6;refine⟨rs,rfl,h1,h2,h3,?_,hlen,?_,?_,Kw _ _ _ _ _ h9⟩
  ·have hb:∀i,i<(toG rs).length->¬Bck (bgU (toG rs)) i:=fun i _=>y5i (fun i x hx=>by
    rw[List.getD_eq_getElem?_getD]at hx;unfold bgU at hx;rcases Nat.lt_or_ge i (toG rs).length with hi|hi
    ·rw[List.getElem?_map,List.getElem?_eq_getElem hi]at hx
     have hx:(x:Int)∈bgR (toG rs) (kG (toG rs)) (toG rs)[i]:=hx;obtain⟨s,hs,e⟩:=z4H.1 hx;have hm:(x:Int)∈(fbT (kG (toG rs)) (toG rs)[i].2.1).map (fun s=>fdI s (nmL (toG rs))):=List.mem_map.2 ⟨s,hs,e⟩;have h10:=congrArg (fun l=>l[i]?) h6;simp only[List.getElem?_map,List.getElem?_eq_getElem hi,Option.map_some]at h10;rcases(by omega:i=0∨i=1∨i=2)with rfl|rfl|rfl
     ·rw[show([[1],[2],[]]:List (List Int))[0]? =some [1]from rfl]at h10
      have h10:=Option.some.inj h10;rw[h10]at hm;simp at hm;omega
     ·rw[show([[1],[2],[]]:List (List Int))[1]? =some [2]from rfl]at h10
      have h10:=Option.some.inj h10;rw[h10]at hm;simp at hm;omega
     ·rw[show([[1],[2],[]]:List (List Int))[2]? =some []from rfl]at h10
      have h10:=Option.some.inj h10;rw[h10]at hm;simp at hm
    ·rw[List.getElem?_eq_none (by simpa using hi)]at hx
     simp at hx) i
   unfold soZ flX;simp only;rw[h5,z5q hb];rfl
  ·obtain⟨e,c,e1,e2,e3⟩:=z5H h7
   have e2:e=some 7:=by simpa using e2
   subst e2;exact⟨c,e3,Kw _ _ _ _ _ e1⟩
  ·obtain⟨e,c,e1,e2,e3⟩:=z5H h8
   have e2:e=none:=by simpa using e2
   subst e2;exact⟨c,e3,Kw _ _ _ _ _ e1⟩
theorem z5I(so:Option Addr)(n cap:Nat)(T:ByteArray)(m x y:Int)(q:Bool)(w:World)(hq:(x == (T.size:Int))=q)(hT:T.size<=9223372036854775807)
  (HM:Hid (∀W:World,Below w.heap.size w W->Calls prog 10 #[.agg #[.slice so n cap],.int .i64 0,.string T,.int .i64 0,.int .i64 m] W fun e w'=>e=.returned (.tuple #[.int .i64 x,.int .i64 y,.nilIface])/\Below W.heap.size W w')):
  Calls prog 9 #[.agg #[.slice so n cap],.string T,.int .i64 m] w fun e w'=>e=.returned (.tuple #[.bool q,.int .i64 y,.nilIface])/\Below w.heap.size w w':=by
 go_enter func9,ntmps9
 go_wp2_with fail
 first
  |refine(HM.out _ B0q).mono ?_
  |refine(HM.out _ ((Below.refl _ w).alloc L0q _)).mono ?_
 rintro e w1 ⟨rfl,hb⟩;have HB:=hid hb;clear hb
 go_wp2_with fail
 refine bodyPost_ret (v:=.tuple #[.bool q,.int .i64 y,.nilIface]) (by simp[results,Tryz.results9,go_sem]) rfl ?_
 first
  |exact⟨rfl,HB.out⟩
  |exact⟨rfl,((Below.refl _ w).alloc L0q _).trans (HB.out.mono (by simp))⟩
theorem y5k(n:Nat)(rs:List Rl)(y1 y2:Int)(S A B C:ByteArray)(hS:S=smA)(hA:A=tA)(hB:B=tB)(hC:C=tC)(w:World)
  (HPA:Hid (Calls prog 8 #[.string smA] w fun e w'=>∃g cap,e=.returned (.tuple #[.agg #[.slice (some ⟨g,0,none⟩) n cap],.nilIface])/\Hid (RoR w.heap.size (.slice (some ⟨g,0,none⟩) n cap) rs w')/\Hid (Below w.heap.size w w')))
  (HA1:Hid (∀(g cap:Nat) (W:World),RoR w.heap.size (.slice (some ⟨g,0,none⟩) n cap) rs W->Below w.heap.size w W->Calls prog 9 #[.agg #[.slice (some ⟨g,0,none⟩) n cap],.string tA,.int .i64 1000] W fun e w'=>e=.returned (.tuple #[.bool true,.int .i64 y1,.nilIface])/\Below W.heap.size W w'))
  (HA2:Hid (∀(g cap:Nat) (W:World),RoR w.heap.size (.slice (some ⟨g,0,none⟩) n cap) rs W->Below w.heap.size w W->Calls prog 9 #[.agg #[.slice (some ⟨g,0,none⟩) n cap],.string tB,.int .i64 1000] W fun e w'=>e=.returned (.tuple #[.bool false,.int .i64 y2,.nilIface])/\Below W.heap.size W w'))
  (HM:Hid (∀(g cap:Nat) (W:World),RoR w.heap.size (.slice (some ⟨g,0,none⟩) n cap) rs W->Below w.heap.size w W->Calls prog 10 #[.agg #[.slice (some ⟨g,0,none⟩) n cap],.int .i64 2,.string tC,.int .i64 1,.int .i64 9] W fun e w'=>e=.returned (.tuple #[.int .i64 2,.int .i64 4,.nilIface])/\Below W.heap.size W w')):
  Calls prog 5 #[] w fun e w'=>e=.returned (.bool true)/\Hid (Below w.heap.size w w'):=by
 go_enter func5,ntmps5
 go_wp2_with fail
 refine HPA.out.mono ?_;rintro e w1 ⟨g,cap,rfl,HRo,HB⟩;obtain⟨u1,hu1⟩:∃u1,u1=w1.alloc (.cells #[.slice (some ⟨g,0,none⟩) n cap] 24):=⟨_,rfl⟩;have hb11:Below w1.heap.size w1 u1:=by rw[hu1];exact(Below.refl _ w1).alloc L0q _
 have HG1:Hid (u1.heap[w1.heap.size]? =some (.cells #[.slice (some ⟨g,0,none⟩) n cap] 24)):=by rw[hu1];exact Qx w1 _ rfl
 have HBu:=hid (HB.out.trans (hb11.mono HB.out.size));have HRu:=hid (HRo.out.below hb11);have HC1:=hid (HA1.out g cap u1 HRu.out HBu.out);have HU1:=hid hu1;clear HPA HRo hb11 hu1 HA1
 go_wp2_with fail
 rw[<-HU1.out];refine HC1.out.mono ?_;rintro e w2 ⟨rfl,hb2⟩;have HB2:=hid (HBu.out.trans (hb2.mono HBu.out.size));have HR2:=hid (HRu.out.below hb2);have hG2:=(hb2.block _ (Qz HG1.out)).trans HG1.out;have g2:=(Qj hG2).1;have lg2:=Qz hG2;have HG2:=hid hG2;have HC2:=hid (HA2.out g cap w2 HR2.out HB2.out);clear HC1 HU1 hb2 hG2 HA2 HRu HBu HG1
 go_wp2_with fail
 refine HC2.out.mono ?_;rintro e w3 ⟨rfl,hb3⟩;have HB3:=hid (HB2.out.trans (hb3.mono HB2.out.size));have HR3:=hid (HR2.out.below hb3);have hG3:=(hb3.block _ (Qz HG2.out)).trans HG2.out;have g3:=(Qj hG3).1;have lg3:=Qz hG3;have HC3:=hid (HM.out g cap w3 HR3.out HB3.out);clear HC2 hb3 hG3 HM HR2 HB2 HG2 g2 lg2
 go_wp2_with fail
 refine HC3.out.mono ?_;rintro e w4 ⟨rfl,hb4⟩;have HB4:=hid (HB3.out.trans (hb4.mono HB3.out.size));clear HC3 hb4 HR3 HB3 g3 lg3
 go_wp2_with fail
 go_ret;exact⟨rfl,HB4⟩
theorem z0c{S:ByteArray}{rs:List Rl}(hS:S.size<=8192)(hp:Vy S=.inr rs)(h1:sz (pR qT cT rs)<=8192)(h2:dR rs<=24)(hck:ckR (toG rs)=none)(hZ:soZ (toG rs) none=none)(B g n cap:Nat)(fp:Addr)(W:World)(hr:RoR B (.slice (some ⟨g,0,none⟩) n cap) rs W)(hT:TabIs W)(hF:W.cell? ⟨1,0,none⟩=some (.iface 243 (.pointer (some fp))))(hn:n=(toG rs).length)(r a m:Nat)(T:ByteArray)(hrn:r<(toG rs).length)(ha:a<=T.size)(hm:m<=1048576)(hTz:T.size<=4096)(e:Option Nat)(c:Nat)(hM:Mt (bdR (toG rs)) T (.one (toG rs)[r].2.1) a e c)(hc:c<=m)(W':World)(hW:Below W.heap.size W W'):
  Calls prog 10 #[.agg #[.slice (some ⟨g,0,none⟩) n cap],.int .i64 r,.string T,.int .i64 a,.int .i64 m] W' fun e' w'=>e'=.returned (.tuple #[.int .i64 (eI e),.int .i64 c,.nilIface])/\Below W'.heap.size W' w':=by
 obtain⟨hi,hz,hX,hC⟩:=y1m hS hp h1 h2 B g n cap W hr hT;have e0:xOf (toG rs)=none:=by unfold xOf;rw[hck];rfl
 rw[e0]at hX hC;have hU:RgU (toG rs):=fun x hx=>by
  obtain⟨y,_,rfl⟩:=List.mem_map.1 hx;exact z5F y.2.1
 refine(z5r _ n cap (toG rs) none W.heap.size fp W hX (fun _=>y5g hp h1 h2) hC hz hU hi L0q hT hF (r:Int) (a:Int) (m:Int) T (by omega) W' hW).mono fun e' w' he=> ?_
 obtain⟨x,y,v,rfl,hv,hb⟩:=he;refine⟨?_,hb⟩;have u1:upB ((n:Int)-1) (r:Int)=true:=by unfold upB;simp;omega
 have u2:upB (T.size:Int) (a:Int)=true:=by unfold upB;simp;omega
 have u3:upB 1048576 (m:Int)=true:=by unfold upB;simp;omega
 rw[u1,u2,u3]at hv;rcases hv with⟨h,_⟩|⟨_,h,_⟩|⟨_,_,h,_⟩|⟨_,_,_,hr',h⟩
 ·exact absurd hZ h
 ·cases h
 ·have:=of_decide_eq_false h;omega
 ·rcases h with⟨e2,c2,h3,_,rfl,rfl,rfl⟩|⟨h3,_⟩
  ·obtain⟨rfl,rfl⟩:=Zm hM (by simpa using h3)
   rfl
  ·have:=h3 e c (by simpa using hM)
   omega
theorem z5J(fp:Addr)(w:World)(h:Xw w)(hT:TabIs w)(hF:w.cell? ⟨1,0,none⟩=some (.iface 243 (.pointer (some fp)))):Calls prog 5 #[] w fun e w'=>e=.returned (.bool true)/\Hid (Below w.heap.size w w'):=by
 obtain⟨rs,hp,hs1,hs2,hck,hZ,hl,⟨c1,hc1,m1⟩,⟨c2,hc2,m2⟩,m3⟩:=y5j;have HPA:=z7S smA w h (by decide);rw[hp]at HPA;unfold Gv at HPA;simp only at HPA;have hlen:rs.length=(toG rs).length:=by unfold toG;rw[List.length_map]
 have hFb:∀{W:World},Below w.heap.size w W->W.cell? ⟨1,0,none⟩=some (.iface 243 (.pointer (some fp))):=fun hb=>(hb.cell (p:=⟨1,0,none⟩) (World.block_lt_of_cell? w _ hF)).trans hF
 refine y5k rs.length rs (c1:Int) (c2:Int) _ _ _ _ rfl rfl rfl rfl w (hid HPA) (hid fun g cap W hr hb=> ?_) (hid fun g cap W hr hb=> ?_) (hid fun g cap W hr hb=> ?_)
 ·exact z5I _ _ _ tA 1000 7 (c1:Int) true W rfl (by decide) (hid fun W' hW=>z0c (by decide) hp hs1 hs2 hck hZ _ g rs.length cap fp W hr (hT.below hb hT.lt) (hFb hb) hlen 0 0 1000 tA (by omega) (by decide) (by decide) (by decide) (some 7) c1 m1 hc1 W' hW)
 ·exact z5I _ _ _ tB 1000 (-1) (c2:Int) false W rfl (by decide) (hid fun W' hW=>z0c (by decide) hp hs1 hs2 hck hZ _ g rs.length cap fp W hr (hT.below hb hT.lt) (hFb hb) hlen 0 0 1000 tB (by omega) (by decide) (by decide) (by decide) none c2 m2 hc2 W' hW)
 ·exact z0c (by decide) hp hs1 hs2 hck hZ _ g rs.length cap fp W hr (hT.below hb hT.lt) (hFb hb) hlen 2 1 9 tC (by omega) (by decide) (by decide) (by decide) (some 2) 4 m3 (by decide) W B0q
theorem z5K{W:World}{B:Nat}{t:RT}(kx:Int)(Tx:ByteArray)(ax bx cx dx:Int)(sox:Option Addr)(nx capx:Nat)(px:Int)(ht:Qk W B t (r8 kx Tx ax bx cx dx sox nx capx px))(hB:B<=W.heap.size)(k:Int):
  Qk (W.alloc (.cells #[.int .i64 kx,.string Tx,.int .u64 ax,.int .u64 bx,.int .u64 cx,.int .u64 dx,.slice sox nx capx,.int .i64 px] 30)) (W.alloc (.cells #[.int .i64 kx,.string Tx,.int .u64 ax,.int .u64 bx,.int .u64 cx,.int .u64 dx,.slice sox nx capx,.int .i64 px] 30)).heap.size (.mk k {data:=#[]} 0 0 0 0 [t] 0) (r8 k {data:=#[]} 0 0 0 0 (some ⟨W.heap.size,0,none⟩) 1 1 0):=by
 have hb:=(Below.refl _ W).alloc L0q (.cells #[.int .i64 kx,.string Tx,.int .u64 ax,.int .u64 bx,.int .u64 cx,.int .u64 dx,.slice sox nx capx,.int .i64 px] 30);have hn:=Qx W (.cells #[.int .i64 kx,.string Tx,.int .u64 ax,.int .u64 bx,.int .u64 cx,.int .u64 dx,.slice sox nx capx,.int .i64 px] 30) rfl;have hs:W.heap.size<=(W.alloc (.cells #[.int .i64 kx,.string Tx,.int .u64 ax,.int .u64 bx,.int .u64 cx,.int .u64 dx,.slice sox nx capx,.int .i64 px] 30)).heap.size:=hb.size;have e:#[.int .i64 kx,.string Tx,.int .u64 ax,.int .u64 bx,.int .u64 cx,.int .u64 dx,.slice sox nx capx,.int .i64 px]=(r8 kx Tx ax bx cx dx sox nx capx px).toArray:=rfl;rw[Qk];refine⟨_,1,rfl,.inr ⟨rfl,W.heap.size,0,rfl,by simp,by rw[Xk];unfold maxLen;simp,?_⟩⟩;rw[Qc,Qc];refine⟨⟨_,Qk.upto (Nat.le_trans hB hs) _ _ (ht.below (hb.mono hB)),fun j v hj=> ?_⟩,trivial⟩;refine(Ql hn (0+j) v ?_).1;rw[e,List.getElem?_toArray,Nat.zero_add];exact hj
theorem z5L{t:RT}(k:Int)(hz:RtZ t):RtZ (.mk k {data:=#[]} 0 0 0 0 [t] 0):=by rw[RtZ,Yz,Yz];exact⟨by decide,hz,trivial⟩
theorem z5M{t:RT}(k:Int)(hu:RtU t):RtU (.mk k {data:=#[]} 0 0 0 0 [t] 0):=by rw[RtU,Yy,Yy];exact⟨by decide,by decide,by decide,by decide,hu,trivial⟩
structure Rv1 (w:World) (G N:Array Value) (W:World):Prop where
 be:Below w.heap.size w W
 g:W.heap[w.heap.size]? =some (.cells G 24)
 n:W.heap[w.heap.size+1]? =some (.cells N 30)
theorem Rv1.below{w W W':World}{G N:Array Value}(h:Rv1 w G N W)(hb:Below W.heap.size W W'):Rv1 w G N W':=
 ⟨h.be.trans (hb.mono h.be.size),(hb.block _ (Qz h.g)).trans h.g,(hb.block _ (Qz h.n)).trans h.n⟩
theorem Lz(x:Nat)(c:Int)(h:c<0):decide ((x:Int)=c)=false/\((x:Int) == c)=false/\¬((x:Int)=c):=by
 have:¬((x:Int)=c):=by omega
 exact⟨by simpa using this,by simpa using this,this⟩
theorem z5N(x:Nat):decide ((0:Int)<=(x:Int))=true/\(0:Int)<=(x:Int)/\decide ((x:Int)<0)=false/\¬((x:Int)<0):=by
 exact⟨by simp,by omega,by simp,by omega⟩
theorem Jk{t:RT}(h:∀y∈rfT t,y.1≠fsS):frJ fsS (.one t):=h
section
open Go.ChangeShapes Go.WideShapes Go.ChangeAt
theorem Tryz.bytesRule:Tryz.prog.bytesOf 46=112:=by kernel_rfl
section
variable {H:Type} {enc:TypeId×Value->H} {W:World} {sp:Nat->Bool} {hl:Bool}
theorem y5l{e t:TypeId}{y:DataW H}{elems rest:List (DataW H)}(hu:Tryz.prog.underlying t=some (.slice e))(hy:y=.slice elems rest)(hw:∀n∈y.weights prog t,n<=reachBytes):elems.length*Tryz.prog.bytesOf e<=reachBytes:=by
 subst hy;refine Nat.le_trans (Nat.mul_le_mul_right _ (Nat.le_add_right _ rest.length)) (hw _ ?_);simp only[DataW.weights,hu,List.mem_cons,List.mem_append,true_or]
theorem y5m{t:TypeId}{fs:Array Field}{l:List (String×TypeId×Nat)}(hu:Tryz.prog.underlying t=some (.struct fs))(hl:fs.toList.map (fun f=>(f.name,f.type,f.offset))=l){xs:List (DataW H×List MemPlace)}{y:DataW H}(hy:y=.agg (xs.map (·.1)))(hw:∀n∈y.weights prog t,n<=reachBytes){i:Nat}{q:String×TypeId×Nat}{x:DataW H×List MemPlace}(hi:l[i]? =some q)(hx:xs[i]? =some x):∀n∈x.1.weights prog q.2.1,n<=reachBytes:=by
 subst hy;intro n hn;refine hw n ?_;simp only[DataW.weights,hu];refine DataW.weights_mem_each (j:=i) (t:=q.2.1) (d:=x.1) ?_ (by rw[List.getElem?_map,hx];rfl) n hn;have h2:fs.toList.map (·.type)=l.map (fun x=>x.2.1):=by rw[<-hl,List.map_map];rfl
 rw[h2,List.getElem?_map,hi];rfl
theorem z5O{so:Option Addr}{n cap:Nat}{d:DataW H}{ps:List MemPlace}(h:DataW.Trod enc prog W 0 sp hl 24 (.agg #[.slice so n cap]) d ps)(hw:∀m∈d.weights prog 24,m<=reachBytes):n*112<=140737488351232:=by
 obtain⟨fuel,hf⟩:=h;obtain⟨xs,m,rfl,hx,hlen,hxs,hf⟩:=DataW.trod_struct Tryz.structGram hf;rw[Hd Tryz.fieldsGram]at hxs
 match xs,hxs with
 |[y0],_=>
 have hd:d=.agg ([y0].map (·.1)):=congrArg Prod.fst hx;have w0:=y5m Tryz.structGram Tryz.fieldsGram hd hw (i:=0) rfl (x:=y0) rfl;obtain⟨f0,g0,t0,o0⟩:=Gf Tryz.fieldsGram 0 _ rfl;have r0:=hf 0 f0 g0;simp only[Value.cells,t0,o0,Tryz.cellsRules,List.drop_zero,List.take_succ_cons,List.take_zero,List.getElem?_cons_zero]at r0;rcases DataW.trod_slice Tryz.sliceRules r0 with⟨e6,_⟩|⟨ad,len,cap',elems,rest,m2,hm2,e6,ex,_,hlc,hcm,hel,hev,_⟩
 ·simp only[List.cons.injEq,and_true,Value.slice.injEq]at e6
  obtain⟨rfl,rfl,rfl⟩:=e6;omega
 ·simp only[List.cons.injEq,and_true,Value.slice.injEq]at e6
  obtain⟨rfl,rfl,rfl⟩:=e6;have u1:=y5l Tryz.sliceRules (by rw[ex]) w0;rw[List.length_map,hel,Tryz.bytesRule]at u1;exact u1
end
end
theorem y5z:True:=trivial
end Go.Proofs.YtgmcjddjdidpjabGreatDoor
