/- Lemmas for the last text. Conditions: those that each names. -/
import Derived.Test.YtgmcjddjdidpjaaGreatDoorVO6ToO16
import Derived.Deep.RegionHeld3
import Derived.Deep.AppendLies
import Derived.Maps.AppendAt
import Derived.Test.YtgmcjddjdidpjaaGreatDoorVS1ToHA
import Derived.Test.YtgmcjddjdidpjaaGreatDoorVHBToO4
set_option linter.unusedVariables false
set_option maxRecDepth 100000
set_option maxHeartbeats 8000000
namespace Go.Proofs.YtgmcjddjdidpjaaGreatDoor
open Go.Proofs.Tryz
open Go.RowKit Go.Shelf
variable {W W' w:World} {y0 y1 y2:Value}
def fdI(s:ByteArray)(l:List ByteArray):Int:=if inN s l then(ixN s l:Int)else-1
theorem z4M{s:ByteArray}:∀{l:List ByteArray} {j:Nat} (hj:j<l.length),(∀i (hi:i<l.length),i<j->l[i]≠s)->l[j]=s->inN s l=true/\ixN s l=j
 |[],j,hj,_,_=>by simp at hj
 |a::r,0,_,_,h=>by
  have h:a=s:=h;rw[inN,ixN,if_pos h,if_pos h];exact⟨rfl,rfl⟩
 |a::r,j+1,hj,hb,h=>by
  have h0:a≠s:=hb 0 (by simp) (by omega);obtain⟨i1,i2⟩:=z4M (l:=r) (j:=j) (by simpa using hj) (fun i hi hij=>hb (i+1) (by simpa using hi) (by omega)) h;rw[inN,ixN,if_neg h0,if_neg h0,i2];exact⟨i1,rfl⟩
theorem z4N{s:ByteArray}:∀{l:List ByteArray},(∀i (hi:i<l.length),l[i]≠s)->inN s l=false
 |[],_=>rfl
 |a::r,h=>by
  have h0:a≠s:=h 0 (by simp);rw[inN,if_neg h0];exact z4N fun i hi=>h (i+1) (by simpa using hi)
theorem y2x(a b:ByteArray):(a.toList == b.toList)=decide (a=b):=by
 by_cases h:a=b
 ·subst h;simp
 ·have:a.toList≠b.toList:=fun e=>h (by
   rw[Go.ByteArray.toList_eq,Go.ByteArray.toList_eq]at e;exact ByteArray.ext (Array.toList_inj.1 e))
  simp[h,this]
theorem y2y(N0 T1 s:ByteArray)(k1 a1 b1 c1 d1 p1 q1:Int)(so1:Option Addr)(n1 cap1 nB:Nat)(W:World)(hb:Boxed W nB 9 (.string s)):
  Calls prog 158 #[.agg #[.string N0,.int .i64 k1,.string T1,.int .u64 a1,.int .u64 b1,.int .u64 c1,.int .u64 d1,.slice so1 n1 cap1,.int .i64 p1,.int .i64 q1],.pointer (some ⟨nB,0,none⟩)] W fun e w'=>e=.returned (.bool (decide (N0=s)))/\Below W.heap.size W w':=by
 have cn:=hb.cell;have lb:=hb.lt;go_enter func158,ntmps158
 go_wp2_with fail
 go_ret;refine⟨?_,(Below.refl _ W).alloc L0q _⟩;show Ending.returned (.bool (N0.toList == s.toList))=_;rw[y2x]
theorem y2z(s:ByteArray)(so:Option Addr)(n cap:Nat)(rs:List Rr)(B nB:Nat)(W:World)(h:Qg W B so n rs)(hB:B<=W.heap.size)(hb:Boxed W nB 9 (.string s))(hnB:nB<W.heap.size):
  Calls prog 157 #[.slice so n cap,.func (.func 158) #[] #[.pointer (some ⟨nB,0,none⟩)]] W fun e w'=>e=.returned (.int .i64 (fdI s (nmL rs)))/\Below W.heap.size W w':=by
 have HR:=hid h;have HNl:Hid (n=rs.length):=h.1;have hn6:n<=9223372036854775807:=by have:=h.2.1;unfold maxLen at this;omega
 have HBx:=hid hb;have HBB:Hid (B<=W.heap.size):=hB;clear h hb hB;go_enter func157,ntmps157
 go_wp2_with fail
 go_loopw [8] (fun i wr=>∃j:Nat,i=.int .i64 j/\j<=n/\Hid (∀i (hi:i<rs.length),i<j->rs[i].1≠s)/\Hid (Below W.heap.size W wr)) (fun i _=>n-(intOf i).toNat)
 case atStart=>exact⟨0,rfl,Nat.zero_le _,fun i hi h0=>by omega,Below.refl _ _⟩
 case round=>
  obtain⟨j,rfl,hj,HA,HBj⟩:=hrel;have hnl:(nmL rs).length=rs.length:=List.length_map _;by_cases hjn:j<n
  ·have hjI:(j:Int)<(n:Int):=by omega
   have a0:decide ((j:Int)<(n:Int))=true:=by simp;omega
   have hjs:j<rs.length:=by rw[<-HNl.out];exact hjn
   obtain⟨g,o,rfl,hg,k1,T1,a1,b1,c1,d1,so1,n1,cap1,p1,hrt,r0⟩:=HR.out.2.2 j hjs;have hce:∀q,wr.cell? ⟨g,q,none⟩=W.cell? ⟨g,q,none⟩:=fun q=>HBj.out.cell (p:=⟨g,q,none⟩) (Nat.lt_of_lt_of_le hg HBB.out)
   simp only[<-hce]at r0;obtain⟨z0,z1,z2,z3,z4,z5,z6,z7,z8,z9⟩:=r0;obtain⟨N0,hN0⟩:∃N0,N0=rs[j].1:=⟨_,rfl⟩;obtain⟨q1,hq1⟩:∃q1,q1=rs[j].2.2:=⟨_,rfl⟩;rw[<-hN0]at z0;rw[<-hq1]at z9;have HN0:Hid (N0=rs[j].1):=hN0;have HF:=hid (y2y N0 T1 s k1 a1 b1 c1 d1 p1 q1 so1 n1 cap1 nB wr ((HBj.out.block nB hnB).trans HBx.out));clear hce hrt hN0 hq1;by_cases e:N0=s
   ·rw[decide_eq_true e]at HF
    have HE:Hid (N0=s):=e;clear e
    go_wp2_with(first
     |(go_at_call 158;refine HF.out.mono ?_;clear HF;rintro e w5 ⟨rfl,hb5⟩))
    go_ret;refine⟨?_,HBj.out.trans (hb5.mono HBj.out.size)⟩;obtain⟨i1,i2⟩:=z4M (s:=s) (l:=nmL rs) (j:=j) (by omega) (fun i hi hij=>by have:=HA.out i (by omega) hij;simpa [nmL]using this) (by have:=HE.out;rw[HN0.out]at this;simpa [nmL]using this);unfold fdI;rw[i1,i2];rfl
   ·rw[decide_eq_false e]at HF
    have HE:Hid (N0≠s):=e;clear e
    go_wp2_with(first
     |(go_at_call 158;refine HF.out.mono ?_;clear HF;rintro e w5 ⟨rfl,hb5⟩))
    refine⟨⟨j+1,by go_num,by omega,hid (fun i hi hij=> ?_),hid (HBj.out.trans (hb5.mono HBj.out.size))⟩,by simp[intOf];omega⟩;by_cases e:i=j
    ·subst e
     have:=HE.out;rw[HN0.out]at this;exact this
    ·exact HA.out i hi (by omega)
  ·have a0:decide ((j:Int)<(n:Int))=false:=by simp;omega
   go_wp2_with fail
   go_ret;refine⟨?_,HBj.out⟩;unfold fdI;rw[z4N (s:=s) (l:=nmL rs) fun i hi=>by have:=HA.out i (by omega) (by have:=HNl.out;omega);simpa [nmL]using this];rfl
theorem z4O(s:ByteArray)(so:Option Addr)(n cap:Nat)(rs:List Rr)(B:Nat)(W:World)(h:Qg W B so n rs)(hB:B<=W.heap.size):
  Calls prog 114 #[.agg #[.slice so n cap],.string s] W fun e w'=>e=.returned (.int .i64 (fdI s (nmL rs)))/\Below W.heap.size W w':=by
 have HI:=hid (fun(nB:Nat) (W':World) (hb:Below W.heap.size W W') (hx:Boxed W' nB 9 (.string s))=>y2z s so n cap rs B nB W' (h.below (hb.mono hB)) (Nat.le_trans hB hb.size) hx hx.lt);have HB2:Hid (∀o o':Obj,Below W.heap.size W ((W.alloc o).alloc o')):=fun o o'=>((Below.refl _ W).alloc L0q _).alloc (by simp) _
 have HX1:Hid (∀o:Obj,Boxed ((W.alloc o).alloc (.cells #[.string s] 9)) (W.heap.size+1) 9 (.string s)):=fun o=>by
  have:=Boxed.new (W.alloc o) 9 (.string s);simpa only[World.size_alloc]using this
 clear h hB;go_enter func114,ntmps114
 go_wp2_with fail
 refine(HI.out _ _ (HB2.out _ _) (HX1.out _)).mono ?_;rintro e w1 ⟨rfl,hb1⟩;have H1:=hid ((HB2.out _ _).trans (hb1.mono (HB2.out _ _).size));clear hb1 HI HX1 HB2
 go_wp2_with fail
 go_ret;exact⟨rfl,H1.out⟩
theorem z4P:∀{rs:List Rr} {l:List ByteArray},Vm l rs=none->∀j (hj:j<rs.length),inN rs[j].1 (l++nmL (rs.take j))=false
 |[],_,_,j,hj=>by simp at hj
 |x::r,l,h,0,_=>by
  rw[Vm]at h;cases hi:inN x.1 l with
  |true=>rw[hi]at h;cases h
  |false=>simpa [nmL]using hi
 |x::r,l,h,j+1,hj=>by
  rw[Vm]at h;cases hi:inN x.1 l with
  |true=>rw[hi]at h;cases h
  |false=>
   rw[hi]at h;have:=z4P (l:=l++[x.1]) (by simpa using h) j (by simpa using hj);simpa [nmL,List.append_assoc]using this
theorem y2A{rs:List Rr}(h:ckR rs=none)(j:Nat)(hj:j<rs.length):inN rs[j].1 (nmL (rs.take j))=false:=by
 have hd:Nw rs=none:=by
  unfold ckR at h;cases hd:Nw rs with
  |none=>rfl
  |some p=>rw[hd]at h;cases h
 have:=z4P hd j hj;rwa[List.nil_append]at this
theorem z4Q(s:ByteArray):∀a b,inN s (a++b)=(inN s a||inN s b)
 |[],b=>by rw[List.nil_append,inN];rfl
 |x::r,b=>by rw[List.cons_append,inN,inN,z4Q s r b];by_cases h:x=s<;>simp[h]
theorem z4R(s:ByteArray):∀a b,ixN s (a++b)=if inN s a then ixN s a else a.length+ixN s b
 |[],b=>by rw[List.nil_append,inN];simp
 |x::r,b=>by
  rw[List.cons_append,ixN,ixN,inN,z4R s r b];by_cases h:x=s
  ·simp[h]
  ·simp only[h,if_false]
   by_cases h2:inN s r=true
   ·simp[h2]
   ·simp[h2];omega
theorem z4S{rs:List Rr}(h:ckR rs=none)(j:Nat)(hj:j<rs.length):fdI rs[j].1 (nmL rs)=(j:Int):=by
 have h0:=y2A h j hj;have e:nmL rs=nmL (rs.take j)++(rs[j].1::nmL (rs.drop (j+1))):=by
  have e1:rs=rs.take j++(rs[j]::rs.drop (j+1)):=by rw[<-List.drop_eq_getElem_cons hj,List.take_append_drop]
  have e2:=congrArg nmL e1;rw[e2];unfold nmL;rw[List.map_append];rfl
 have hl:(nmL (rs.take j)).length=j:=by unfold nmL;rw[List.length_map,List.length_take];omega
 unfold fdI;rw[e,z4Q,z4R,h0,inN,ixN,if_pos rfl,if_pos rfl,hl];simp
mutual
def Xy(w:World)(P:Nat->Prop):RT->List Value->Prop
 | .mk k T a b c d s p,cs=>∃so cap,cs=r8 k T a b c d so (Qw s) cap p/\(s.isEmpty=true∨(s.isEmpty=false/\∃g cur,so=some ⟨g,0,none⟩/\P g/\w.heap[g]? =some (.cells cur 58)/\Qw s<=maxLen/\Yh w P s cur.toList))
def Yh(w:World)(P:Nat->Prop):List RT->List Value->Prop
 |[],_=>True
 |t::r,vs=>∃c rest,vs=c++rest/\Xy w P t c/\Yh w P r rest
end
theorem Xy.len{P:Nat->Prop}{t:RT}{c:List Value}(h:Xy w P t c):c.length=8:=by
 obtain⟨k,T,a,b,c0,d,s,p⟩:=t;rw[Xy]at h;obtain⟨so,cap,rfl,_⟩:=h;rfl
mutual
theorem Xy.kept{w w':World}{P Q:Nat->Prop}(hk:∀g cur,P g->w.heap[g]? =some (.cells cur 58)->w'.heap[g]? =w.heap[g]? /\Q g):∀(t:RT) (c:List Value),Xy w P t c->Xy w' Q t c
 | .mk k T a b c d s p,cs,h=>by
   rw[Xy]at h ⊢;obtain⟨so,cap,h1,h2⟩:=h;refine⟨so,cap,h1,?_⟩;rcases h2 with h2|⟨h3,g,cur,h4,h5,h6,h7,h8⟩
   ·exact .inl h2
   ·have:=hk g cur h5 h6
    exact .inr ⟨h3,g,cur,h4,this.2,this.1.trans h6,h7,Yh.kept hk s cur.toList h8⟩
theorem Yh.kept{w w':World}{P Q:Nat->Prop}(hk:∀g cur,P g->w.heap[g]? =some (.cells cur 58)->w'.heap[g]? =w.heap[g]? /\Q g):∀(l:List RT) (vs:List Value),Yh w P l vs->Yh w' Q l vs
 |[],vs,h=>by rw[Yh];trivial
 |n::r,vs,h=>by
  rw[Yh]at h ⊢;obtain⟨c,rest,h1,h2,h3⟩:=h;exact⟨c,rest,h1,Xy.kept hk n c h2,Yh.kept hk r rest h3⟩
end
def CnA(t:RT)(w:World)(e:Ending)(w':World):Prop:=∃k T a b c d so n cap p,e=.returned (.agg #[.int .i64 k,.string T,.int .u64 a,.int .u64 b,.int .u64 c,.int .u64 d,.slice so n cap,.int .i64 p])/\Hid (Xy w' (fun g=>w.heap.size<=g) t (r8 k T a b c d so n cap p))/\Hid (Below w.heap.size w w')
theorem Ak{h:Nat}{y3 y4 y5 y6 y7:Value}(hs:W.cell? ⟨h,0,none⟩=some y0/\W.cell? ⟨h,1,none⟩=some y1/\W.cell? ⟨h,2,none⟩=some y2/\W.cell? ⟨h,3,none⟩=some y3/\W.cell? ⟨h,4,none⟩=some y4/\W.cell? ⟨h,5,none⟩=some y5/\W.cell? ⟨h,6,none⟩=some y6/\W.cell? ⟨h,7,none⟩=some y7)(hb:Below W.heap.size W W'):W'.cell? ⟨h,0,none⟩=some y0/\W'.cell? ⟨h,1,none⟩=some y1/\W'.cell? ⟨h,2,none⟩=some y2/\W'.cell? ⟨h,3,none⟩=some y3/\W'.cell? ⟨h,4,none⟩=some y4/\W'.cell? ⟨h,5,none⟩=some y5/\W'.cell? ⟨h,6,none⟩=some y6/\W'.cell? ⟨h,7,none⟩=some y7:=
 have k:∀{j:Nat} {v:Value},W.cell? ⟨h,j,none⟩=some v->W'.cell? ⟨h,j,none⟩=some v:=fun{j v} e=>(hb.cell (p:=⟨h,j,none⟩) (World.block_lt_of_cell? W _ e)).trans e
 ⟨k hs.1,k hs.2.1,k hs.2.2.1,k hs.2.2.2.1,k hs.2.2.2.2.1,k hs.2.2.2.2.2.1,k hs.2.2.2.2.2.2.1,k hs.2.2.2.2.2.2.2⟩
theorem y2B{o:Obj}{b:Nat}(h:b<=w.heap.size):b<=(w.alloc o).heap.size:=by rw[World.size_alloc];omega
def RqR(w:World)(P:Nat->Prop)(x:Rr)(cs:List Value):Prop:=∃c,cs=.string x.1::(c++[.int .i64 x.2.2])/\Xy w P x.2.1 c
def Xz(w:World)(P:Nat->Prop):List Rr->List Value->Prop
 |[],_=>True
 |x::r,vs=>∃c rest,vs=c++rest/\RqR w P x c/\Xz w P r rest
theorem RqR.len{w:World}{P:Nat->Prop}{x:Rr}{c:List Value}(h:RqR w P x c):c.length=10:=by
 obtain⟨c1,rfl,h2⟩:=h;have:=h2.len;simp;omega
theorem Xz.kept{w w':World}{P Q:Nat->Prop}(hk:∀g cur,P g->w.heap[g]? =some (.cells cur 58)->w'.heap[g]? =w.heap[g]? /\Q g):∀(l:List Rr) (vs:List Value),Xz w P l vs->Xz w' Q l vs
 |[],vs,h=>by rw[Xz];trivial
 |n::r,vs,h=>by
  rw[Xz]at h ⊢;obtain⟨c,rest,h1,⟨c1,h2,h3⟩,h4⟩:=h;exact⟨c,rest,h1,⟨c1,h2,Xy.kept hk _ _ h3⟩,Xz.kept hk r rest h4⟩
theorem Xz.append{w:World}{P:Nat->Prop}:∀(l:List Rr) (vs:List Value) (n:Rr) (c:List Value),Xz w P l vs->vs.length=l.length*10->RqR w P n c->Xz w P (l++[n]) (vs++c)
 |[],vs,n,c,_,hl,hn=>by
  have:vs=[]:=List.eq_nil_of_length_eq_zero (by simpa using hl);subst this;rw[List.nil_append,Xz];exact⟨c,[],by simp,hn,by rw[Xz];trivial⟩
 |m::r,vs,n,c,h,hl,hn=>by
  rw[Xz]at h;obtain⟨d,rest,rfl,h2,h3⟩:=h;have hd:=h2.len;rw[List.cons_append,Xz];refine⟨d,rest++c,by rw[List.append_assoc],h2,Xz.append r rest n c h3 ?_ hn⟩;simp at hl;omega
mutual
theorem Xy.is{w:World}{P:Nat->Prop}:∀(t:RT) (c:List Value),Xy w P t c->Qv w w.heap.size t c
 | .mk k T a b c d s p,cs,h=>by
   rw[Xy]at h;rw[Qv];obtain⟨so,cap,h1,h2⟩:=h;refine⟨so,cap,h1,?_⟩;rcases h2 with h2|⟨h3,g,cur,h4,h5,h6,h7,h8⟩
   ·exact .inl h2
   ·exact .inr ⟨h3,g,0,h4,Qz h6,h7,Yh.is s cur.toList g 0 cur h6 (fun i u hu=>by rw[Nat.zero_add];simpa using hu) h8⟩
theorem Yh.is{w:World}{P:Nat->Prop}:∀(s:List RT) (vs:List Value) (g o:Nat) (cur:Array Value),w.heap[g]? =some (.cells cur 58)->(∀i u,vs[i]? =some u->cur[o+i]? =some u)->Yh w P s vs->Zq w w.heap.size g o s
 |[],_,_,_,_,_,_,_=>by rw[Zq];trivial
 |t::r,vs,g,o,cur,hg,hv,h=>by
  rw[Yh]at h;rw[Zq];obtain⟨c,rest,rfl,h2,h3⟩:=h;have hc:=h2.len;refine⟨⟨c,Xy.is t c h2,fun j u hu=> ?_⟩,Yh.is r rest g (o+8) cur hg (fun i u hu=> ?_) h3⟩
  ·have hj:j<c.length:=by
    rcases Nat.lt_or_ge j c.length with h|h
    ·exact h
    ·rw[List.getElem?_eq_none h]at hu;cases hu
   have:=hv j u (by rw[List.getElem?_append_left hj];exact hu);simp[World.cell?,hg,this]
  ·have:=hv (8+i) u (by rw[List.getElem?_append_right (by omega),hc,Nat.add_sub_cancel_left];exact hu)
   rw[Nat.add_assoc];exact this
end
theorem Xz.get{w:World}{P:Nat->Prop}:∀(l:List Rr) (vs:List Value),Xz w P l vs->∀(j:Nat) (hj:j<l.length),∃c,RqR w P l[j] c/\∀i u,c[i]? =some u->vs[j*10+i]? =some u
 |[],_,_,j,hj=>by simp at hj
 |x::r,vs,h,0,_=>by
  rw[Xz]at h;obtain⟨c,rest,rfl,h2,_⟩:=h;refine⟨c,h2,fun i u hu=> ?_⟩;have hi:i<c.length:=by
   rcases Nat.lt_or_ge i c.length with h|h
   ·exact h
   ·rw[List.getElem?_eq_none h]at hu;cases hu
  rw[Nat.zero_mul,Nat.zero_add,List.getElem?_append_left hi];exact hu
 |x::r,vs,h,j+1,hj=>by
  rw[Xz]at h;obtain⟨c,rest,rfl,h2,h3⟩:=h;obtain⟨c',h4,h5⟩:=Xz.get r rest h3 j (by simpa using hj);have hc:=h2.len;refine⟨c',h4,fun i u hu=> ?_⟩;rw[List.getElem?_append_right (by omega),hc,show(j+1)*10+i-10=j*10+i by omega];exact h5 i u hu
theorem Xz.is{w:World}{base n:Nat}{P:Nat->Prop}{a:Value}{xs:List Value}{rs:List Rr}(ho:w.ownsRow base 65 10 a n xs)(hn:n=rs.length)(h:Xz w P rs xs):∃so cap,a=.slice so n cap/\Qg w w.heap.size so n rs:=by
 obtain⟨hx,⟨h1,h0⟩|⟨g,cap,cur,e1,hg1,hg2,hc1,hc2,hc3,ht⟩⟩:=ho
 ·exact⟨none,0,by rw[h1,h0],hn,by rw[h0];unfold maxLen;omega,fun j hj=>by omega⟩
 ·refine⟨some ⟨g,0,none⟩,cap,e1,hn,by omega,fun j hj=>⟨g,0,rfl,Qz hg2,?_⟩⟩
  obtain⟨c,⟨c1,rfl,h2⟩,h3⟩:=Xz.get rs xs h j hj;have rt:=h2.is;obtain⟨k,T,a,b,c,d,so,n1,cap1,p,rfl⟩:=rt.shape;have hcell:∀i u,(Value.string rs[j].1::(r8 k T a b c d so n1 cap1 p++[.int .i64 rs[j].2.2]))[i]? =some u->w.cell? ⟨g,0+j*10+i,none⟩=some u:=fun i u hu=>by
   have h4:=h3 i u hu;rw[<-ht]at h4;have hlt:j*10+i<n*10:=by
    rcases Nat.lt_or_ge (j*10+i) (n*10)with h|h
    ·exact h
    ·rw[List.getElem?_eq_none (by rw[List.length_take];omega)]at h4;cases h4
   rw[List.getElem?_take_of_lt hlt]at h4;have h5:cur[j*10+i]? =some u:=by simpa using h4
   rw[Nat.zero_add];simp[World.cell?,hg2,h5]
  exact⟨k,T,a,b,c,d,so,n1,cap1,p,rt,hcell 0 _ rfl,hcell 1 _ rfl,hcell 2 _ rfl,hcell 3 _ rfl,hcell 4 _ rfl,hcell 5 _ rfl,hcell 6 _ rfl,hcell 7 _ rfl,hcell 8 _ rfl,hcell 9 _ rfl⟩
theorem Kx{base e size n i:Nat}{v:Value}{xs:List Value}{o:Obj}(h:w.ownsRow base e size v n xs)(ho:w.heap[i]? =some o)(hne:∀cur,o≠.cells cur e (0,0)):v.ownBlock≠some i:=by
 obtain⟨_,⟨h1,_⟩|⟨g,cap,cur,rfl,_,hg,_⟩⟩:=h
 ·subst h1;simp[Value.ownBlock]
 ·intro e2
  simp[Value.ownBlock]at e2;subst e2;rw[hg]at ho;cases ho;exact hne cur rfl
theorem y2C(N:ByteArray)(a:Int)(T:ByteArray)(c0 c1 c2 c3:Int)(so:Option Addr)(sl sc:Nat)(p q:Int):∀u∈[Value.string N,Value.int .i64 a,.string T,.int .u64 c0,.int .u64 c1,.int .u64 c2,.int .u64 c3,.slice so sl sc,.int .i64 p,.int .i64 q],u.oneCell'=true:=z1T N a T c0 c1 c2 c3 so sl sc p q
@[reducible] def ov (x:Ot):Value:=.agg #[.bool x.1,.bool x.2.1,.bool x.2.2]
theorem Lc(z s f:Bool)(w:World):Calls prog 142 #[.agg #[.bool z,.bool s,.bool f]] w fun e w'=>e=.returned (.bool (suc (z,s,f)))/\Hid (Below w.heap.size w w'):=by
 have HB:Hid (∀o:Obj,Below w.heap.size w (w.alloc o)):=fun o=>(Below.refl _ w).alloc L0q o
 cases z<;>cases s<;>(
  go_enter func142,ntmps142
  go_wp2_with fail
  go_ret;exact⟨rfl,hid (HB.out _)⟩)
theorem Zk{B:Nat}{a b c:Value}{t:TypeId}(h:w.heap[B]? =some (.cells #[a,b,c] t)):(w.cell? ⟨B,0,none⟩=some a/\w.cell? ⟨B,1,none⟩=some b/\w.cell? ⟨B,2,none⟩=some c)/\w.frozen? ⟨B,0,none⟩=false/\w.frozen? ⟨B,1,none⟩=false/\w.frozen? ⟨B,2,none⟩=false:=by
 obtain⟨x0,y0⟩:=Qf h 0 a rfl;obtain⟨x1,y1⟩:=Qf h 1 b rfl;obtain⟨x2,y2⟩:=Qf h 2 c rfl;exact⟨⟨x0,x1,x2⟩,y0,y1,y2⟩
theorem z4T(h:Hid (Below w.heap.size w W)/\W.cell? ⟨w.heap.size,0,none⟩=some y0/\W.cell? ⟨w.heap.size,1,none⟩=some y1/\W.cell? ⟨w.heap.size,2,none⟩=some y2)(hb:Below W.heap.size W W'):Hid (Below w.heap.size w W')/\W'.cell? ⟨w.heap.size,0,none⟩=some y0/\W'.cell? ⟨w.heap.size,1,none⟩=some y1/\W'.cell? ⟨w.heap.size,2,none⟩=some y2:=by
 obtain⟨z,z0,z1,z2⟩:=h;have hl:w.heap.size<W.heap.size:=World.block_lt_of_cell? W ⟨w.heap.size,0,none⟩ z0;have e:∀j,W'.cell? ⟨w.heap.size,j,none⟩=W.cell? ⟨w.heap.size,j,none⟩:=fun j=>hb.cell (p:=⟨w.heap.size,j,none⟩) hl
 exact⟨hid (z.out.trans (hb.mono z.out.size)),(e _).trans z0,(e _).trans z1,(e _).trans z2⟩
theorem z4U(h:Hid (Below w.heap.size w W)/\W.cell? ⟨w.heap.size,0,none⟩=some y0/\W.cell? ⟨w.heap.size,1,none⟩=some y1/\W.cell? ⟨w.heap.size,2,none⟩=some y2)(hb:W.grownBy W' (some (w.heap.size+1+1))):Hid (Below w.heap.size w W')/\W'.cell? ⟨w.heap.size,0,none⟩=some y0/\W'.cell? ⟨w.heap.size,1,none⟩=some y1/\W'.cell? ⟨w.heap.size,2,none⟩=some y2:=by
 obtain⟨z,z0,z1,z2⟩:=h;have e:∀j,W'.cell? ⟨w.heap.size,j,none⟩=W.cell? ⟨w.heap.size,j,none⟩:=fun j=>World.cell?_of_block (hb.block w.heap.size (World.block_lt_of_cell? W ⟨w.heap.size,0,none⟩ z0) (fun e=>by have:=Option.some.inj e;omega))
 exact⟨hid (z.out.grown hb z.out.size (fun g e=>by have:=Option.some.inj e;omega)),(e _).trans z0,(e _).trans z1,(e _).trans z2⟩
theorem Yz(W:World)(R:Nat)(v0 v1 v2:Value):W.grownBy (((W.setCell ⟨R,0,none⟩ v0).setCell ⟨R,1,none⟩ v1).setCell ⟨R,2,none⟩ v2) (some R):=G.setR (G.setR (G.setR (G.refl _ _)))
theorem y2D(z s f:Bool)(w:World):Calls prog 87 #[.int .i64 8,.agg #[.bool z,.bool s,.bool f]] w fun e w'=>e=.returned (ov (Zc 8 (z,s,f)))/\Hid (Below w.heap.size w w'):=by
 have HB:Hid (∀o1 o2 o3:Obj,Below w.heap.size w (((w.alloc o1).alloc o2).alloc o3)):=fun o1 o2 o3=>(((Below.refl _ w).alloc L0q o1).alloc (by simp) o2).alloc (by simp;omega) o3
 match z,s,f with
 |true,true,true=>
  go_enter func87,ntmps87
  go_wp2_with fail
  refine bodyPost_ret (v:=.agg #[.bool true,.bool true,.bool false]) (by simp[results,Tryz.results87,go_sem]) rfl ?_;exact⟨rfl,hid (HB.out _ _ _)⟩
 |true,true,false=>
  go_enter func87,ntmps87
  go_wp2_with fail
  refine bodyPost_ret (v:=.agg #[.bool true,.bool true,.bool false]) (by simp[results,Tryz.results87,go_sem]) rfl ?_;exact⟨rfl,hid (HB.out _ _ _)⟩
 |true,false,true=>
  go_enter func87,ntmps87
  go_wp2_with fail
  refine bodyPost_ret (v:=.agg #[.bool true,.bool false,.bool false]) (by simp[results,Tryz.results87,go_sem]) rfl ?_;exact⟨rfl,hid (HB.out _ _ _)⟩
 |true,false,false=>
  go_enter func87,ntmps87
  go_wp2_with fail
  refine bodyPost_ret (v:=.agg #[.bool true,.bool false,.bool false]) (by simp[results,Tryz.results87,go_sem]) rfl ?_;exact⟨rfl,hid (HB.out _ _ _)⟩
 |false,true,true=>
  go_enter func87,ntmps87
  go_wp2_with fail
  refine bodyPost_ret (v:=.agg #[.bool true,.bool true,.bool false]) (by simp[results,Tryz.results87,go_sem]) rfl ?_;exact⟨rfl,hid (HB.out _ _ _)⟩
 |false,true,false=>
  go_enter func87,ntmps87
  go_wp2_with fail
  refine bodyPost_ret (v:=.agg #[.bool false,.bool true,.bool false]) (by simp[results,Tryz.results87,go_sem]) rfl ?_;exact⟨rfl,hid (HB.out _ _ _)⟩
 |false,false,true=>
  go_enter func87,ntmps87
  go_wp2_with fail
  refine bodyPost_ret (v:=.agg #[.bool true,.bool false,.bool false]) (by simp[results,Tryz.results87,go_sem]) rfl ?_;exact⟨rfl,hid (HB.out _ _ _)⟩
 |false,false,false=>
  go_enter func87,ntmps87
  go_wp2_with fail
  refine bodyPost_ret (v:=.agg #[.bool false,.bool false,.bool false]) (by simp[results,Tryz.results87,go_sem]) rfl ?_;exact⟨rfl,hid (HB.out _ _ _)⟩
theorem y2E(z s f:Bool)(w:World):Calls prog 87 #[.int .i64 9,.agg #[.bool z,.bool s,.bool f]] w fun e w'=>e=.returned (ov (Zc 9 (z,s,f)))/\Hid (Below w.heap.size w w'):=by
 have HB:Hid (∀o1 o2 o3:Obj,Below w.heap.size w (((w.alloc o1).alloc o2).alloc o3)):=fun o1 o2 o3=>(((Below.refl _ w).alloc L0q o1).alloc (by simp) o2).alloc (by simp;omega) o3
 match z,s,f with
 |true,true,true=>
  go_enter func87,ntmps87
  go_wp2_with fail
  refine bodyPost_ret (v:=.agg #[.bool true,.bool true,.bool false]) (by simp[results,Tryz.results87,go_sem]) rfl ?_;exact⟨rfl,hid (HB.out _ _ _)⟩
 |true,true,false=>
  go_enter func87,ntmps87
  go_wp2_with fail
  refine bodyPost_ret (v:=.agg #[.bool false,.bool true,.bool false]) (by simp[results,Tryz.results87,go_sem]) rfl ?_;exact⟨rfl,hid (HB.out _ _ _)⟩
 |true,false,true=>
  go_enter func87,ntmps87
  go_wp2_with fail
  refine bodyPost_ret (v:=.agg #[.bool true,.bool false,.bool false]) (by simp[results,Tryz.results87,go_sem]) rfl ?_;exact⟨rfl,hid (HB.out _ _ _)⟩
 |true,false,false=>
  go_enter func87,ntmps87
  go_wp2_with fail
  refine bodyPost_ret (v:=.agg #[.bool false,.bool false,.bool false]) (by simp[results,Tryz.results87,go_sem]) rfl ?_;exact⟨rfl,hid (HB.out _ _ _)⟩
 |false,true,true=>
  go_enter func87,ntmps87
  go_wp2_with fail
  refine bodyPost_ret (v:=.agg #[.bool true,.bool true,.bool false]) (by simp[results,Tryz.results87,go_sem]) rfl ?_;exact⟨rfl,hid (HB.out _ _ _)⟩
 |false,true,false=>
  go_enter func87,ntmps87
  go_wp2_with fail
  refine bodyPost_ret (v:=.agg #[.bool false,.bool true,.bool false]) (by simp[results,Tryz.results87,go_sem]) rfl ?_;exact⟨rfl,hid (HB.out _ _ _)⟩
 |false,false,true=>
  go_enter func87,ntmps87
  go_wp2_with fail
  refine bodyPost_ret (v:=.agg #[.bool true,.bool false,.bool false]) (by simp[results,Tryz.results87,go_sem]) rfl ?_;exact⟨rfl,hid (HB.out _ _ _)⟩
 |false,false,false=>
  go_enter func87,ntmps87
  go_wp2_with fail
  refine bodyPost_ret (v:=.agg #[.bool false,.bool false,.bool false]) (by simp[results,Tryz.results87,go_sem]) rfl ?_;exact⟨rfl,hid (HB.out _ _ _)⟩
theorem y2F(z s f:Bool)(w:World):Calls prog 87 #[.int .i64 10,.agg #[.bool z,.bool s,.bool f]] w fun e w'=>e=.returned (ov (Zc 10 (z,s,f)))/\Hid (Below w.heap.size w w'):=by
 have HB:Hid (∀o1 o2 o3:Obj,Below w.heap.size w (((w.alloc o1).alloc o2).alloc o3)):=fun o1 o2 o3=>(((Below.refl _ w).alloc L0q o1).alloc (by simp) o2).alloc (by simp;omega) o3
 match z,s,f with
 |true,true,true=>
  go_enter func87,ntmps87
  go_wp2_with fail
  refine bodyPost_ret (v:=.agg #[.bool true,.bool true,.bool true]) (by simp[results,Tryz.results87,go_sem]) rfl ?_;exact⟨rfl,hid (HB.out _ _ _)⟩
 |true,true,false=>
  go_enter func87,ntmps87
  go_wp2_with fail
  refine bodyPost_ret (v:=.agg #[.bool false,.bool true,.bool false]) (by simp[results,Tryz.results87,go_sem]) rfl ?_;exact⟨rfl,hid (HB.out _ _ _)⟩
 |true,false,true=>
  go_enter func87,ntmps87
  go_wp2_with fail
  refine bodyPost_ret (v:=.agg #[.bool true,.bool false,.bool true]) (by simp[results,Tryz.results87,go_sem]) rfl ?_;exact⟨rfl,hid (HB.out _ _ _)⟩
 |true,false,false=>
  go_enter func87,ntmps87
  go_wp2_with fail
  refine bodyPost_ret (v:=.agg #[.bool false,.bool false,.bool false]) (by simp[results,Tryz.results87,go_sem]) rfl ?_;exact⟨rfl,hid (HB.out _ _ _)⟩
 |false,true,true=>
  go_enter func87,ntmps87
  go_wp2_with fail
  refine bodyPost_ret (v:=.agg #[.bool false,.bool true,.bool true]) (by simp[results,Tryz.results87,go_sem]) rfl ?_;exact⟨rfl,hid (HB.out _ _ _)⟩
 |false,true,false=>
  go_enter func87,ntmps87
  go_wp2_with fail
  refine bodyPost_ret (v:=.agg #[.bool false,.bool true,.bool false]) (by simp[results,Tryz.results87,go_sem]) rfl ?_;exact⟨rfl,hid (HB.out _ _ _)⟩
 |false,false,true=>
  go_enter func87,ntmps87
  go_wp2_with fail
  refine bodyPost_ret (v:=.agg #[.bool false,.bool false,.bool true]) (by simp[results,Tryz.results87,go_sem]) rfl ?_;exact⟨rfl,hid (HB.out _ _ _)⟩
 |false,false,false=>
  go_enter func87,ntmps87
  go_wp2_with fail
  refine bodyPost_ret (v:=.agg #[.bool false,.bool false,.bool false]) (by simp[results,Tryz.results87,go_sem]) rfl ?_;exact⟨rfl,hid (HB.out _ _ _)⟩
theorem y2G(z s f:Bool)(w:World):Calls prog 87 #[.int .i64 11,.agg #[.bool z,.bool s,.bool f]] w fun e w'=>e=.returned (ov (Zc 11 (z,s,f)))/\Hid (Below w.heap.size w w'):=by
 obtain⟨W0,hW0⟩:∃W0,W0=((w.alloc (.cells #[.bool z,.bool s,.bool f] 47)).alloc (.cells #[.bool false,.bool false,.bool false] 47)).alloc (.cells #[.bool false,.bool false,.bool false] 47):=⟨_,rfl⟩;have HB0:Hid (Below w.heap.size w W0):=by rw[hW0];exact(((Below.refl _ w).alloc L0q _).alloc (by simp) _).alloc (by simp;omega) _
 have hT0:W0.heap[w.heap.size]? =some (.cells #[.bool z,.bool s,.bool f] 47):=by rw[hW0];exact(Below.heap_alloc _ _ _ (by simp;omega)).trans ((Below.heap_alloc _ _ _ (by simp)).trans (Qq w _ rfl))
 have HR0:Hid (W0.heap[w.heap.size+1]? =some (.cells #[.bool false,.bool false,.bool false] 47)):=by rw[hW0];exact(Below.heap_alloc _ _ _ (by simp)).trans (Qq _ _ (by simp))
 have HZ0:Hid (W0.heap[w.heap.size+1+1]? =some (.cells #[.bool false,.bool false,.bool false] 47)):=by rw[hW0];exact Qq _ _ (by simp)
 obtain⟨⟨t0,t1,t2⟩,_⟩:=Zk hT0;have S2:(fun W:World=>Hid (Below w.heap.size w W)/\W.cell? ⟨w.heap.size,0,none⟩=some (.bool z)/\W.cell? ⟨w.heap.size,1,none⟩=some (.bool s)/\W.cell? ⟨w.heap.size,2,none⟩=some (.bool f)) W0.drew:=⟨hid HB0.out.drew,t0,t1,t2⟩;have lt0:=Qz hT0;have lz0:=Qz HZ0.out;have lr0:=Qz HR0.out;have HS:=hid (fun W:World=>Lc z s f W);clear hT0;go_enter func87,ntmps87
 go_wp2_with fail
 rw[<-hW0];clear hW0
 go_region_held3 (fun W:World=>Hid (Below w.heap.size w W)/\W.cell? ⟨w.heap.size,0,none⟩=some (.bool z)/\W.cell? ⟨w.heap.size,1,none⟩=some (.bool s)/\W.cell? ⟨w.heap.size,2,none⟩=some (.bool f)) (first|(with_reducible assumption)|(with_reducible exact z4T (by assumption) (by assumption))|(with_reducible exact z4U (by assumption) (Yz _ _ _ _ _))) (first
  |(go_at_call 142;refine(HS.out _).mono ?_;rintro e w4 ⟨rfl,HB4⟩;have hb4:=HB4.out;have HZ4:=hid ((hb4.block (w.heap.size+1+1) lz0).trans HZ0.out);have HR4:=hid ((hb4.block (w.heap.size+1) lr0).trans HR0.out);obtain⟨⟨z0,z1,z2⟩,f0,f1,f2⟩:=Zk HZ4.out;have lz:=Qz HZ4.out))
 obtain⟨X3,hX3⟩:∃X3,X3=((w4.setCell ⟨w.heap.size+1+1,0,none⟩ (.bool (suc (z,s,f)))).setCell ⟨w.heap.size+1+1,1,none⟩ (.bool false)).setCell ⟨w.heap.size+1+1,2,none⟩ (.bool f):=⟨_,rfl⟩;have bX3:X3.heap[w.heap.size+1+1]? =some (.cells #[.bool (suc (z,s,f)),.bool false,.bool f] 47):=by rw[hX3];exact Qy (Qy (Qy HZ4.out 0 _) 1 _) 2 _
 have gX3:w4.grownBy X3 (some (w.heap.size+1+1)):=by rw[hX3];exact Yz _ _ _ _ _
 have rX3:X3.heap[w.heap.size+1]? =some (.cells #[.bool false,.bool false,.bool false] 47):=(gX3.block _ (Qz HR4.out) (fun e=>by have:=Option.some.inj e;omega)).trans HR4.out;rw[<-hX3];obtain⟨Y3,hY3⟩:∃Y3,Y3=((X3.setCell ⟨w.heap.size+1,0,none⟩ (.bool (suc (z,s,f)))).setCell ⟨w.heap.size+1,1,none⟩ (.bool false)).setCell ⟨w.heap.size+1,2,none⟩ (.bool f):=⟨_,rfl⟩;have bY3:Y3.heap[w.heap.size+1]? =some (.cells #[.bool (suc (z,s,f)),.bool false,.bool f] 47):=by rw[hY3];exact Qy (Qy (Qy rX3 0 _) 1 _) 2 _
 have gY3:X3.grownBy Y3 (some (w.heap.size+1)):=by rw[hY3];exact Yz _ _ _ _ _
 have hB4:Below w.heap.size w w4:=HB0.out.drew.trans (hb4.mono HB0.out.drew.size);have hBX:Below w.heap.size w X3:=hB4.grown gX3 hB4.size (fun g e=>by have:=Option.some.inj e;omega);have HBY:=hid (hBX.grown gY3 hBX.size (fun g e=>by have:=Option.some.inj e;omega));obtain⟨⟨u0,u1,u2⟩,_⟩:=Zk bX3;obtain⟨⟨r0,r1,r2⟩,q0,q1,q2⟩:=Zk rX3;obtain⟨⟨e0,e1,e2⟩,_⟩:=Zk bY3;have lx:=Qz bX3;have ly:=Qz rX3;have HY3:=hid hY3;clear hX3 hY3 bX3 gX3 rX3 bY3 gY3 hB4 hBX HZ4 HR4 HB4 hb4 z0 z1 z2 f0 f1 f2 S2 t0 t1 t2 HS
 go_wp2_with fail
 rw[<-HY3.out];refine bodyPost_ret (v:=.agg #[.bool (suc (z,s,f)),.bool false,.bool f]) (by simp[results,Tryz.results87,go_sem,e0,e1,e2]) rfl ?_;exact⟨rfl,HBY⟩
theorem y2H(z s f:Bool)(w:World):Calls prog 87 #[.int .i64 12,.agg #[.bool z,.bool s,.bool f]] w fun e w'=>e=.returned (ov (Zc 12 (z,s,f)))/\Hid (Below w.heap.size w w'):=by
 obtain⟨W0,hW0⟩:∃W0,W0=((w.alloc (.cells #[.bool z,.bool s,.bool f] 47)).alloc (.cells #[.bool false,.bool false,.bool false] 47)).alloc (.cells #[.bool false,.bool false,.bool false] 47):=⟨_,rfl⟩;have HB0:Hid (Below w.heap.size w W0):=by rw[hW0];exact(((Below.refl _ w).alloc L0q _).alloc (by simp) _).alloc (by simp;omega) _
 have hT0:W0.heap[w.heap.size]? =some (.cells #[.bool z,.bool s,.bool f] 47):=by rw[hW0];exact(Below.heap_alloc _ _ _ (by simp;omega)).trans ((Below.heap_alloc _ _ _ (by simp)).trans (Qq w _ rfl))
 have HR0:Hid (W0.heap[w.heap.size+1]? =some (.cells #[.bool false,.bool false,.bool false] 47)):=by rw[hW0];exact(Below.heap_alloc _ _ _ (by simp)).trans (Qq _ _ (by simp))
 have HZ0:Hid (W0.heap[w.heap.size+1+1]? =some (.cells #[.bool false,.bool false,.bool false] 47)):=by rw[hW0];exact Qq _ _ (by simp)
 obtain⟨⟨t0,t1,t2⟩,_⟩:=Zk hT0;have S2:(fun W:World=>Hid (Below w.heap.size w W)/\W.cell? ⟨w.heap.size,0,none⟩=some (.bool z)/\W.cell? ⟨w.heap.size,1,none⟩=some (.bool s)/\W.cell? ⟨w.heap.size,2,none⟩=some (.bool f)) W0.drew:=⟨hid HB0.out.drew,t0,t1,t2⟩;have lt0:=Qz hT0;have lz0:=Qz HZ0.out;have lr0:=Qz HR0.out;have HS:=hid (fun W:World=>Lc z s f W);clear hT0;go_enter func87,ntmps87
 go_wp2_with fail
 rw[<-hW0];clear hW0
 go_region_held3 (fun W:World=>Hid (Below w.heap.size w W)/\W.cell? ⟨w.heap.size,0,none⟩=some (.bool z)/\W.cell? ⟨w.heap.size,1,none⟩=some (.bool s)/\W.cell? ⟨w.heap.size,2,none⟩=some (.bool f)) (first|(with_reducible assumption)|(with_reducible exact z4T (by assumption) (by assumption))|(with_reducible exact z4U (by assumption) (Yz _ _ _ _ _))) (first
  |(go_at_call 142;refine(HS.out _).mono ?_;rintro e w4 ⟨rfl,HB4⟩;have hb4:=HB4.out;have HZ4:=hid ((hb4.block (w.heap.size+1+1) lz0).trans HZ0.out);have HR4:=hid ((hb4.block (w.heap.size+1) lr0).trans HR0.out);obtain⟨⟨z0,z1,z2⟩,f0,f1,f2⟩:=Zk HZ4.out;have lz:=Qz HZ4.out))
 obtain⟨X3,hX3⟩:∃X3,X3=((w4.setCell ⟨w.heap.size+1+1,0,none⟩ (.bool f)).setCell ⟨w.heap.size+1+1,1,none⟩ (.bool false)).setCell ⟨w.heap.size+1+1,2,none⟩ (.bool (suc (z,s,f))):=⟨_,rfl⟩;have bX3:X3.heap[w.heap.size+1+1]? =some (.cells #[.bool f,.bool false,.bool (suc (z,s,f))] 47):=by rw[hX3];exact Qy (Qy (Qy HZ4.out 0 _) 1 _) 2 _
 have gX3:w4.grownBy X3 (some (w.heap.size+1+1)):=by rw[hX3];exact Yz _ _ _ _ _
 have rX3:X3.heap[w.heap.size+1]? =some (.cells #[.bool false,.bool false,.bool false] 47):=(gX3.block _ (Qz HR4.out) (fun e=>by have:=Option.some.inj e;omega)).trans HR4.out;rw[<-hX3];obtain⟨Y3,hY3⟩:∃Y3,Y3=((X3.setCell ⟨w.heap.size+1,0,none⟩ (.bool f)).setCell ⟨w.heap.size+1,1,none⟩ (.bool false)).setCell ⟨w.heap.size+1,2,none⟩ (.bool (suc (z,s,f))):=⟨_,rfl⟩;have bY3:Y3.heap[w.heap.size+1]? =some (.cells #[.bool f,.bool false,.bool (suc (z,s,f))] 47):=by rw[hY3];exact Qy (Qy (Qy rX3 0 _) 1 _) 2 _
 have gY3:X3.grownBy Y3 (some (w.heap.size+1)):=by rw[hY3];exact Yz _ _ _ _ _
 have hB4:Below w.heap.size w w4:=HB0.out.drew.trans (hb4.mono HB0.out.drew.size);have hBX:Below w.heap.size w X3:=hB4.grown gX3 hB4.size (fun g e=>by have:=Option.some.inj e;omega);have HBY:=hid (hBX.grown gY3 hBX.size (fun g e=>by have:=Option.some.inj e;omega));obtain⟨⟨u0,u1,u2⟩,_⟩:=Zk bX3;obtain⟨⟨r0,r1,r2⟩,q0,q1,q2⟩:=Zk rX3;obtain⟨⟨e0,e1,e2⟩,_⟩:=Zk bY3;have lx:=Qz bX3;have ly:=Qz rX3;have HY3:=hid hY3;clear hX3 hY3 bX3 gX3 rX3 bY3 gY3 hB4 hBX HZ4 HR4 HB4 hb4 z0 z1 z2 f0 f1 f2 S2 t0 t1 t2 HS
 go_wp2_with fail
 rw[<-HY3.out];refine bodyPost_ret (v:=.agg #[.bool f,.bool false,.bool (suc (z,s,f))]) (by simp[results,Tryz.results87,go_sem,e0,e1,e2]) rfl ?_;exact⟨rfl,HBY⟩
end Go.Proofs.YtgmcjddjdidpjaaGreatDoor
