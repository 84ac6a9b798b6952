/- Lemmas for the last text. Conditions: those that each names. -/
import Derived.Test.YtlogolpcipiceaaGreatDoorVO12ToO16
import Derived.Deep.RegionHeld3
import Derived.Deep.AppendLies
import Derived.Maps.AppendAt
import Derived.Test.YtlogolpcipiceaaGreatDoorVS1ToO3
set_option linter.unusedVariables false
set_option maxRecDepth 100000
set_option maxHeartbeats 8000000
namespace Go.Proofs.YtlogolpcipiceaaGreatDoor
open Go.Proofs.Tryz
open Go.RowKit Go.Shelf
def fdI(s:ByteArray)(l:List ByteArray):Int:=if inN s l then(ixN s l:Int)else-1
theorem z2Y{s:ByteArray}:∀{l:List ByteArray} {j:Nat} (hj:j<l.length),(∀i (hi:i<l.length),i<j->l[i]≠s)->l[j]=s->inN s l=true/\ixN s l=j
 |[],j,hj,_,_=>by simp at hj
 |a::r,0,_,_,h=>by
  have h:a=s:=h;rw[inN,ixN,if_pos h,if_pos h];exact⟨rfl,rfl⟩
 |a::r,j+1,hj,hb,h=>by
  have h0:a≠s:=hb 0 (by simp) (by omega);obtain⟨i1,i2⟩:=z2Y (l:=r) (j:=j) (by simpa using hj) (fun i hi hij=>hb (i+1) (by simpa using hi) (by omega)) h;rw[inN,ixN,if_neg h0,if_neg h0,i2];exact⟨i1,rfl⟩
theorem z2Z{s:ByteArray}:∀{l:List ByteArray},(∀i (hi:i<l.length),l[i]≠s)->inN s l=false
 |[],_=>rfl
 |a::r,h=>by
  have h0:a≠s:=h 0 (by simp);rw[inN,if_neg h0];exact z2Z fun i hi=>h (i+1) (by simpa using hi)
theorem z9T(a b:ByteArray):(a.toList == b.toList)=decide (a=b):=by
 by_cases h:a=b
 ·subst h;simp
 ·have:a.toList≠b.toList:=fun e=>h (by
   rw[Go.ByteArray.toList_eq,Go.ByteArray.toList_eq]at e;exact ByteArray.ext (Array.toList_inj.1 e))
  simp[h,this]
theorem z9U(N0 T1 s:ByteArray)(k1 a1 b1 c1 d1 p1 q1:Int)(so1:Option Addr)(n1 cap1 nB:Nat)(W:World)(hb:Boxed W nB 9 (.string s)):
  Calls prog 148 #[.agg #[.string N0,.int .i64 k1,.string T1,.int .u64 a1,.int .u64 b1,.int .u64 c1,.int .u64 d1,.slice so1 n1 cap1,.int .i64 p1,.int .i64 q1],.pointer (some ⟨nB,0,none⟩)] W fun e w'=>e=.returned (.bool (decide (N0=s)))/\Below W.heap.size W w':=by
 have cn:=hb.cell;have lb:=hb.lt;go_enter func148,ntmps148
 go_wp2_with fail
 go_ret;refine⟨?_,(Below.refl _ W).alloc L0q _⟩;show Ending.returned (.bool (N0.toList == s.toList))=_;rw[z9T]
theorem z9V(s:ByteArray)(so:Option Addr)(n cap:Nat)(rs:List Rr)(B nB:Nat)(W:World)(h:Qv W B so n rs)(hB:B<=W.heap.size)(hb:Boxed W nB 9 (.string s))(hnB:nB<W.heap.size):
  Calls prog 147 #[.slice so n cap,.func (.func 148) #[] #[.pointer (some ⟨nB,0,none⟩)]] W fun e w'=>e=.returned (.int .i64 (fdI s (nmL rs)))/\Below W.heap.size W w':=by
 have HR:=hid h;have HNl:Hid (n=rs.length):=h.1;have hn6:n<=9223372036854775807:=by have:=h.2.1;unfold maxLen at this;omega
 have HBx:=hid hb;have HBB:Hid (B<=W.heap.size):=hB;clear h hb hB;go_enter func147,ntmps147
 go_wp2_with fail
 go_loopw [8] (fun i wr=>∃j:Nat,i=.int .i64 j/\j<=n/\Hid (∀i (hi:i<rs.length),i<j->rs[i].1≠s)/\Hid (Below W.heap.size W wr)) (fun i _=>n-(intOf i).toNat)
 case atStart=>exact⟨0,rfl,Nat.zero_le _,fun i hi h0=>by omega,Below.refl _ _⟩
 case round=>
  obtain⟨j,rfl,hj,HA,HBj⟩:=hrel;have hnl:(nmL rs).length=rs.length:=List.length_map _;by_cases hjn:j<n
  ·have hjI:(j:Int)<(n:Int):=by omega
   have a0:decide ((j:Int)<(n:Int))=true:=by simp;omega
   have hjs:j<rs.length:=by rw[<-HNl.out];exact hjn
   obtain⟨g,o,rfl,hg,k1,T1,a1,b1,c1,d1,so1,n1,cap1,p1,hrt,r0⟩:=HR.out.2.2 j hjs;have hce:∀q,wr.cell? ⟨g,q,none⟩=W.cell? ⟨g,q,none⟩:=fun q=>HBj.out.cell (p:=⟨g,q,none⟩) (Nat.lt_of_lt_of_le hg HBB.out)
   simp only[<-hce]at r0;obtain⟨z0,z1,z2,z3,z4,z5,z6,z7,z8,z9⟩:=r0;obtain⟨N0,hN0⟩:∃N0,N0=rs[j].1:=⟨_,rfl⟩;obtain⟨q1,hq1⟩:∃q1,q1=rs[j].2.2:=⟨_,rfl⟩;rw[<-hN0]at z0;rw[<-hq1]at z9;have HN0:Hid (N0=rs[j].1):=hN0;have HF:=hid (z9U N0 T1 s k1 a1 b1 c1 d1 p1 q1 so1 n1 cap1 nB wr ((HBj.out.block nB hnB).trans HBx.out));clear hce hrt hN0 hq1;by_cases e:N0=s
   ·rw[decide_eq_true e]at HF
    have HE:Hid (N0=s):=e;clear e
    go_wp2_with(first
     |(go_at_call 148;refine HF.out.mono ?_;clear HF;rintro e w5 ⟨rfl,hb5⟩))
    go_ret;refine⟨?_,HBj.out.trans (hb5.mono HBj.out.size)⟩;obtain⟨i1,i2⟩:=z2Y (s:=s) (l:=nmL rs) (j:=j) (by omega) (fun i hi hij=>by have:=HA.out i (by omega) hij;simpa [nmL]using this) (by have:=HE.out;rw[HN0.out]at this;simpa [nmL]using this);unfold fdI;rw[i1,i2];rfl
   ·rw[decide_eq_false e]at HF
    have HE:Hid (N0≠s):=e;clear e
    go_wp2_with(first
     |(go_at_call 148;refine HF.out.mono ?_;clear HF;rintro e w5 ⟨rfl,hb5⟩))
    refine⟨⟨j+1,by go_num,by omega,hid (fun i hi hij=> ?_),hid (HBj.out.trans (hb5.mono HBj.out.size))⟩,by simp[intOf];omega⟩;by_cases e:i=j
    ·subst e
     have:=HE.out;rw[HN0.out]at this;exact this
    ·exact HA.out i hi (by omega)
  ·have a0:decide ((j:Int)<(n:Int))=false:=by simp;omega
   go_wp2_with fail
   go_ret;refine⟨?_,HBj.out⟩;unfold fdI;rw[z2Z (s:=s) (l:=nmL rs) fun i hi=>by have:=HA.out i (by omega) (by have:=HNl.out;omega);simpa [nmL]using this];rfl
theorem Sw(s:ByteArray)(so:Option Addr)(n cap:Nat)(rs:List Rr)(B:Nat)(W:World)(h:Qv W B so n rs)(hB:B<=W.heap.size):
  Calls prog 104 #[.agg #[.slice so n cap],.string s] W fun e w'=>e=.returned (.int .i64 (fdI s (nmL rs)))/\Below W.heap.size W w':=by
 have HI:=hid (fun(nB:Nat) (W':World) (hb:Below W.heap.size W W') (hx:Boxed W' nB 9 (.string s))=>z9V s so n cap rs B nB W' (h.below (hb.mono hB)) (Nat.le_trans hB hb.size) hx hx.lt);have HB2:Hid (∀o o':Obj,Below W.heap.size W ((W.alloc o).alloc o')):=fun o o'=>((Below.refl _ W).alloc L0q _).alloc (by simp) _
 have HX1:Hid (∀o:Obj,Boxed ((W.alloc o).alloc (.cells #[.string s] 9)) (W.heap.size+1) 9 (.string s)):=fun o=>by
  have:=Boxed.new (W.alloc o) 9 (.string s);simpa only[World.size_alloc]using this
 clear h hB;go_enter func104,ntmps104
 go_wp2_with fail
 refine(HI.out _ _ (HB2.out _ _) (HX1.out _)).mono ?_;rintro e w1 ⟨rfl,hb1⟩;have H1:=hid ((HB2.out _ _).trans (hb1.mono (HB2.out _ _).size));clear hb1 HI HX1 HB2
 go_wp2_with fail
 go_ret;exact⟨rfl,H1.out⟩
theorem z3a:∀{rs:List Rr} {l:List ByteArray},Ym l rs=none->∀j (hj:j<rs.length),inN rs[j].1 (l++nmL (rs.take j))=false
 |[],_,_,j,hj=>by simp at hj
 |x::r,l,h,0,_=>by
  rw[Ym]at h;cases hi:inN x.1 l with
  |true=>rw[hi]at h;cases h
  |false=>simpa [nmL]using hi
 |x::r,l,h,j+1,hj=>by
  rw[Ym]at h;cases hi:inN x.1 l with
  |true=>rw[hi]at h;cases h
  |false=>
   rw[hi]at h;have:=z3a (l:=l++[x.1]) (by simpa using h) j (by simpa using hj);simpa [nmL,List.append_assoc]using this
theorem z9W{rs:List Rr}(h:ckR rs=none)(j:Nat)(hj:j<rs.length):inN rs[j].1 (nmL (rs.take j))=false:=by
 have hd:Dx rs=none:=by
  unfold ckR at h;cases hd:Dx rs with
  |none=>rfl
  |some p=>rw[hd]at h;cases h
 have:=z3a hd j hj;rwa[List.nil_append]at this
theorem z3b(s:ByteArray):∀a b,inN s (a++b)=(inN s a||inN s b)
 |[],b=>by rw[List.nil_append,inN];rfl
 |x::r,b=>by rw[List.cons_append,inN,inN,z3b s r b];by_cases h:x=s<;>simp[h]
theorem z3c(s:ByteArray):∀a b,ixN s (a++b)=if inN s a then ixN s a else a.length+ixN s b
 |[],b=>by rw[List.nil_append,inN];simp
 |x::r,b=>by
  rw[List.cons_append,ixN,ixN,inN,z3c s r b];by_cases h:x=s
  ·simp[h]
  ·simp only[h,if_false]
   by_cases h2:inN s r=true
   ·simp[h2]
   ·simp[h2];omega
theorem z3d{rs:List Rr}(h:ckR rs=none)(j:Nat)(hj:j<rs.length):fdI rs[j].1 (nmL rs)=(j:Int):=by
 have h0:=z9W h j hj;have e:nmL rs=nmL (rs.take j)++(rs[j].1::nmL (rs.drop (j+1))):=by
  have e1:rs=rs.take j++(rs[j]::rs.drop (j+1)):=by rw[<-List.drop_eq_getElem_cons hj,List.take_append_drop]
  have e2:=congrArg nmL e1;rw[e2];unfold nmL;rw[List.map_append];rfl
 have hl:(nmL (rs.take j)).length=j:=by unfold nmL;rw[List.length_map,List.length_take];omega
 unfold fdI;rw[e,z3b,z3c,h0,inN,ixN,if_pos rfl,if_pos rfl,hl];simp
theorem Dj.below{W W':World}{B S:Nat}{rv:Value}{u:List Int}(h:Dj W B rv u)(hb:Below S W W')(hS:B<=S):Dj W' B rv u:=by
 obtain⟨so,cap,h1,h2,h3⟩:=h;refine⟨so,cap,h1,h2,fun j hj=> ?_⟩;obtain⟨g,o,e1,e2,e3⟩:=h3 j hj;exact⟨g,o,e1,e2,(hb.cell (p:=⟨g,o+j,none⟩) (by show g<S;omega)).trans e3⟩
theorem UsM.below{W W':World}{B S:Nat}{uv:Value}{us:List (List Int)}(h:UsM W B uv us)(hb:Below S W W')(hS:B<=S):UsM W' B uv us:=by
 obtain⟨so,cap,h1,h2,h3⟩:=h;refine⟨so,cap,h1,h2,fun i hi=> ?_⟩;obtain⟨g,o,rv,e1,e2,e3,e4⟩:=h3 i hi;exact⟨g,o,rv,e1,e2,(hb.cell (p:=⟨g,o+i,none⟩) (by show g<S;omega)).trans e3,e4.below hb hS⟩
mutual
def Zb(w:World)(P:Nat->Prop):RT->List Value->Prop
 | .mk k T a b c d s p,cs=>∃so cap,cs=r8 k T a b c d so (Qp s) cap p/\(s.isEmpty=true∨(s.isEmpty=false/\∃g cur,so=some ⟨g,0,none⟩/\P g/\w.heap[g]? =some (.cells cur 71)/\Qp s<=maxLen/\Xm w P s cur.toList))
def Xm(w:World)(P:Nat->Prop):List RT->List Value->Prop
 |[],_=>True
 |t::r,vs=>∃c rest,vs=c++rest/\Zb w P t c/\Xm w P r rest
end
theorem Zb.len{w:World}{P:Nat->Prop}{t:RT}{c:List Value}(h:Zb w P t c):c.length=8:=by
 obtain⟨k,T,a,b,c0,d,s,p⟩:=t;rw[Zb]at h;obtain⟨so,cap,rfl,_⟩:=h;rfl
mutual
theorem Zb.kept{w w':World}{P Q:Nat->Prop}(hk:∀g cur,P g->w.heap[g]? =some (.cells cur 71)->w'.heap[g]? =w.heap[g]? /\Q g):∀(t:RT) (c:List Value),Zb w P t c->Zb w' Q t c
 | .mk k T a b c d s p,cs,h=>by
   rw[Zb]at h ⊢;obtain⟨so,cap,h1,h2⟩:=h;refine⟨so,cap,h1,?_⟩;rcases h2 with h2|⟨h3,g,cur,h4,h5,h6,h7,h8⟩
   ·exact .inl h2
   ·have:=hk g cur h5 h6
    exact .inr ⟨h3,g,cur,h4,this.2,this.1.trans h6,h7,Xm.kept hk s cur.toList h8⟩
theorem Xm.kept{w w':World}{P Q:Nat->Prop}(hk:∀g cur,P g->w.heap[g]? =some (.cells cur 71)->w'.heap[g]? =w.heap[g]? /\Q g):∀(l:List RT) (vs:List Value),Xm w P l vs->Xm w' Q l vs
 |[],vs,h=>by rw[Xm];trivial
 |n::r,vs,h=>by
  rw[Xm]at h ⊢;obtain⟨c,rest,h1,h2,h3⟩:=h;exact⟨c,rest,h1,Zb.kept hk n c h2,Xm.kept hk r rest h3⟩
end
def CnA(t:RT)(w:World)(e:Ending)(w':World):Prop:=∃k T a b c d so n cap p,e=.returned (.agg #[.int .i64 k,.string T,.int .u64 a,.int .u64 b,.int .u64 c,.int .u64 d,.slice so n cap,.int .i64 p])/\Hid (Zb w' (fun g=>w.heap.size<=g) t (r8 k T a b c d so n cap p))/\Hid (Below w.heap.size w w')
theorem Kx{W W':World}{h:Nat}{y0 y1 y2 y3 y4 y5 y6 y7:Value}(hs:W.cell? ⟨h,0,none⟩=some y0/\W.cell? ⟨h,1,none⟩=some y1/\W.cell? ⟨h,2,none⟩=some y2/\W.cell? ⟨h,3,none⟩=some y3/\W.cell? ⟨h,4,none⟩=some y4/\W.cell? ⟨h,5,none⟩=some y5/\W.cell? ⟨h,6,none⟩=some y6/\W.cell? ⟨h,7,none⟩=some y7)(hb:Below W.heap.size W W'):W'.cell? ⟨h,0,none⟩=some y0/\W'.cell? ⟨h,1,none⟩=some y1/\W'.cell? ⟨h,2,none⟩=some y2/\W'.cell? ⟨h,3,none⟩=some y3/\W'.cell? ⟨h,4,none⟩=some y4/\W'.cell? ⟨h,5,none⟩=some y5/\W'.cell? ⟨h,6,none⟩=some y6/\W'.cell? ⟨h,7,none⟩=some y7:=
 have k:∀{j:Nat} {v:Value},W.cell? ⟨h,j,none⟩=some v->W'.cell? ⟨h,j,none⟩=some v:=fun{j v} e=>(hb.cell (p:=⟨h,j,none⟩) (World.block_lt_of_cell? W _ e)).trans e
 ⟨k hs.1,k hs.2.1,k hs.2.2.1,k hs.2.2.2.1,k hs.2.2.2.2.1,k hs.2.2.2.2.2.1,k hs.2.2.2.2.2.2.1,k hs.2.2.2.2.2.2.2⟩
mutual
def RtB:RT->Prop
 | .mk k T a b c d s p=>T.size<=281474976710656/\Qp s*88<=140737488351232/\Kj s
def Kj:List RT->Prop
 |[]=>True
 |t::r=>RtB t/\Kj r
end
theorem Kj.at:∀{s:List RT},Kj s->∀(j:Nat) (h:j<s.length),RtB s[j]
 |[],_,j,h=>by simp at h
 |t::r,hv,0,_=>by rw[Kj]at hv;exact hv.1
 |t::r,hv,j+1,h=>by rw[Kj]at hv;exact hv.2.at j (by simpa using h)
def RqR(w:World)(P:Nat->Prop)(x:Rr)(cs:List Value):Prop:=∃c,cs=.string x.1::(c++[.int .i64 x.2.2])/\Zb w P x.2.1 c
def Zw(w:World)(P:Nat->Prop):List Rr->List Value->Prop
 |[],_=>True
 |x::r,vs=>∃c rest,vs=c++rest/\RqR w P x c/\Zw w P r rest
theorem RqR.len{w:World}{P:Nat->Prop}{x:Rr}{c:List Value}(h:RqR w P x c):c.length=10:=by
 obtain⟨c1,rfl,h2⟩:=h;have:=h2.len;simp;omega
theorem Zw.kept{w w':World}{P Q:Nat->Prop}(hk:∀g cur,P g->w.heap[g]? =some (.cells cur 71)->w'.heap[g]? =w.heap[g]? /\Q g):∀(l:List Rr) (vs:List Value),Zw w P l vs->Zw w' Q l vs
 |[],vs,h=>by rw[Zw];trivial
 |n::r,vs,h=>by
  rw[Zw]at h ⊢;obtain⟨c,rest,h1,⟨c1,h2,h3⟩,h4⟩:=h;exact⟨c,rest,h1,⟨c1,h2,Zb.kept hk _ _ h3⟩,Zw.kept hk r rest h4⟩
theorem Zw.append{w:World}{P:Nat->Prop}:∀(l:List Rr) (vs:List Value) (n:Rr) (c:List Value),Zw w P l vs->vs.length=l.length*10->RqR w P n c->Zw w P (l++[n]) (vs++c)
 |[],vs,n,c,_,hl,hn=>by
  have:vs=[]:=List.eq_nil_of_length_eq_zero (by simpa using hl);subst this;rw[List.nil_append,Zw];exact⟨c,[],by simp,hn,by rw[Zw];trivial⟩
 |m::r,vs,n,c,h,hl,hn=>by
  rw[Zw]at h;obtain⟨d,rest,rfl,h2,h3⟩:=h;have hd:=h2.len;rw[List.cons_append,Zw];refine⟨d,rest++c,by rw[List.append_assoc],h2,Zw.append r rest n c h3 ?_ hn⟩;simp at hl;omega
mutual
theorem Zb.is{w:World}{P:Nat->Prop}:∀(t:RT) (c:List Value),Zb w P t c->Qj w w.heap.size t c
 | .mk k T a b c d s p,cs,h=>by
   rw[Zb]at h;rw[Qj];obtain⟨so,cap,h1,h2⟩:=h;refine⟨so,cap,h1,?_⟩;rcases h2 with h2|⟨h3,g,cur,h4,h5,h6,h7,h8⟩
   ·exact .inl h2
   ·exact .inr ⟨h3,g,0,h4,Qz h6,h7,Xm.is s cur.toList g 0 cur h6 (fun i u hu=>by rw[Nat.zero_add];simpa using hu) h8⟩
theorem Xm.is{w:World}{P:Nat->Prop}:∀(s:List RT) (vs:List Value) (g o:Nat) (cur:Array Value),w.heap[g]? =some (.cells cur 71)->(∀i u,vs[i]? =some u->cur[o+i]? =some u)->Xm w P s vs->Ql w w.heap.size g o s
 |[],_,_,_,_,_,_,_=>by rw[Ql];trivial
 |t::r,vs,g,o,cur,hg,hv,h=>by
  rw[Xm]at h;rw[Ql];obtain⟨c,rest,rfl,h2,h3⟩:=h;have hc:=h2.len;refine⟨⟨c,Zb.is t c h2,fun j u hu=> ?_⟩,Xm.is r rest g (o+8) cur hg (fun i u hu=> ?_) h3⟩
  ·have hj:j<c.length:=by
    rcases Nat.lt_or_ge j c.length with h|h
    ·exact h
    ·rw[List.getElem?_eq_none h]at hu;cases hu
   have:=hv j u (by rw[List.getElem?_append_left hj];exact hu);simp[World.cell?,hg,this]
  ·have:=hv (8+i) u (by rw[List.getElem?_append_right (by omega),hc,Nat.add_sub_cancel_left];exact hu)
   rw[Nat.add_assoc];exact this
end
theorem Zw.get{w:World}{P:Nat->Prop}:∀(l:List Rr) (vs:List Value),Zw w P l vs->∀(j:Nat) (hj:j<l.length),∃c,RqR w P l[j] c/\∀i u,c[i]? =some u->vs[j*10+i]? =some u
 |[],_,_,j,hj=>by simp at hj
 |x::r,vs,h,0,_=>by
  rw[Zw]at h;obtain⟨c,rest,rfl,h2,_⟩:=h;refine⟨c,h2,fun i u hu=> ?_⟩;have hi:i<c.length:=by
   rcases Nat.lt_or_ge i c.length with h|h
   ·exact h
   ·rw[List.getElem?_eq_none h]at hu;cases hu
  rw[Nat.zero_mul,Nat.zero_add,List.getElem?_append_left hi];exact hu
 |x::r,vs,h,j+1,hj=>by
  rw[Zw]at h;obtain⟨c,rest,rfl,h2,h3⟩:=h;obtain⟨c',h4,h5⟩:=Zw.get r rest h3 j (by simpa using hj);have hc:=h2.len;refine⟨c',h4,fun i u hu=> ?_⟩;rw[List.getElem?_append_right (by omega),hc,show(j+1)*10+i-10=j*10+i by omega];exact h5 i u hu
theorem Zw.is{w:World}{base n:Nat}{P:Nat->Prop}{a:Value}{xs:List Value}{rs:List Rr}(ho:w.ownsRow base 73 10 a n xs)(hn:n=rs.length)(h:Zw w P rs xs):∃so cap,a=.slice so n cap/\Qv w w.heap.size so n rs:=by
 obtain⟨hx,⟨h1,h0⟩|⟨g,cap,cur,e1,hg1,hg2,hc1,hc2,hc3,ht⟩⟩:=ho
 ·exact⟨none,0,by rw[h1,h0],hn,by rw[h0];unfold maxLen;omega,fun j hj=>by omega⟩
 ·refine⟨some ⟨g,0,none⟩,cap,e1,hn,by omega,fun j hj=>⟨g,0,rfl,Qz hg2,?_⟩⟩
  obtain⟨c,⟨c1,rfl,h2⟩,h3⟩:=Zw.get rs xs h j hj;have rt:=h2.is;obtain⟨k,T,a,b,c,d,so,n1,cap1,p,rfl⟩:=rt.shape;have hcell:∀i u,(Value.string rs[j].1::(r8 k T a b c d so n1 cap1 p++[.int .i64 rs[j].2.2]))[i]? =some u->w.cell? ⟨g,0+j*10+i,none⟩=some u:=fun i u hu=>by
   have h4:=h3 i u hu;rw[<-ht]at h4;have hlt:j*10+i<n*10:=by
    rcases Nat.lt_or_ge (j*10+i) (n*10)with h|h
    ·exact h
    ·rw[List.getElem?_eq_none (by rw[List.length_take];omega)]at h4;cases h4
   rw[List.getElem?_take_of_lt hlt]at h4;have h5:cur[j*10+i]? =some u:=by simpa using h4
   rw[Nat.zero_add];simp[World.cell?,hg2,h5]
  exact⟨k,T,a,b,c,d,so,n1,cap1,p,rt,hcell 0 _ rfl,hcell 1 _ rfl,hcell 2 _ rfl,hcell 3 _ rfl,hcell 4 _ rfl,hcell 5 _ rfl,hcell 6 _ rfl,hcell 7 _ rfl,hcell 8 _ rfl,hcell 9 _ rfl⟩
theorem Gp{w:World}{base e size n i:Nat}{v:Value}{xs:List Value}{o:Obj}(h:w.ownsRow base e size v n xs)(ho:w.heap[i]? =some o)(hne:∀cur,o≠.cells cur e (0,0)):v.ownBlock≠some i:=by
 obtain⟨_,⟨h1,_⟩|⟨g,cap,cur,rfl,_,hg,_⟩⟩:=h
 ·subst h1;simp[Value.ownBlock]
 ·intro e2
  simp[Value.ownBlock]at e2;subst e2;rw[hg]at ho;cases ho;exact hne cur rfl
theorem z9X(N:ByteArray)(a:Int)(T:ByteArray)(c0 c1 c2 c3:Int)(so:Option Addr)(sl sc:Nat)(p q:Int):∀u∈[Value.string N,Value.int .i64 a,.string T,.int .u64 c0,.int .u64 c1,.int .u64 c2,.int .u64 c3,.slice so sl sc,.int .i64 p,.int .i64 q],u.oneCell'=true:=Lz N a T c0 c1 c2 c3 so sl sc p q
@[reducible] def Ot:=Bool×Bool×Bool
def suc(x:Ot):Bool:=x.1||x.2.1
def Kk(a n:Ot):Ot:=(a.1&&n.1,a.2.1&&suc n||a.1&&n.2.1,a.2.2||suc a&&n.2.2)
def Dw(a n:Ot):Ot:=(a.1||a.2.2&&n.1,a.2.1||a.2.2&&n.2.1,a.2.2&&n.2.2)
def Xg(k:Int)(x:Ot):Ot:=
 if k=8 then(x.1||x.2.2,x.2.1,false)else if k=9 then(x.2.2,x.2.1,false)else if k=10 then(x.1&&x.2.2,x.2.1,x.2.2)else if k=11 then(suc x,false,x.2.2)else if k=12 then(x.2.2,false,suc x)else(false,false,false)
mutual
def ofT(K:ByteArray->Ot):RT->Ot
 | .mk k T a b c d s p=>
   if k=1 then(true,false,false)else if k=2 then(if T.size=0 then(true,false,false)else(false,true,true))else if k=3 then(if a=0/\b=0/\c=0/\d=0 then(false,false,true)else(false,true,true))else if k=4 then(false,true,true)else if k=5 then K T else if k=6 then ofS K (true,false,false) s else if k=7 then ofA K (false,false,true) s else Xg k (ofH K s)
def ofS(K:ByteArray->Ot)(acc:Ot):List RT->Ot
 |[]=>acc
 |t::r=>ofS K (Kk acc (ofT K t)) r
def ofA(K:ByteArray->Ot)(acc:Ot):List RT->Ot
 |[]=>acc
 |t::r=>ofA K (Dw acc (ofT K t)) r
def ofH(K:ByteArray->Ot):List RT->Ot
 |[]=>(false,false,false)
 |t::r=>ofT K t
end
def leO(x y:Ot):Bool:=(!x.1||y.1)&&((!x.2.1||y.2.1)&&(!x.2.2||y.2.2))
theorem Uc(x:Ot):leO x x=true:=by obtain⟨a,b,c⟩:=x;revert a b c;decide
theorem Sy{x y z:Ot}:leO x y=true->leO y z=true->leO x z=true:=by
 obtain⟨a,b,c⟩:=x;obtain⟨d,e,f⟩:=y;obtain⟨g,h,i⟩:=z
 revert a b c d e f g h i
 decide
theorem z9Y{x y a b:Ot}:leO x y=true->leO a b=true->leO (Kk x a) (Kk y b)=true:=by
 obtain⟨x1,x2,x3⟩:=x;obtain⟨y1,y2,y3⟩:=y;obtain⟨a1,a2,a3⟩:=a;obtain⟨b1,b2,b3⟩:=b
 revert x1 x2 x3 y1 y2 y3 a1 a2 a3 b1 b2 b3
 decide+kernel
theorem z9Z{x y a b:Ot}:leO x y=true->leO a b=true->leO (Dw x a) (Dw y b)=true:=by
 obtain⟨x1,x2,x3⟩:=x;obtain⟨y1,y2,y3⟩:=y;obtain⟨a1,a2,a3⟩:=a;obtain⟨b1,b2,b3⟩:=b
 revert x1 x2 x3 y1 y2 y3 a1 a2 a3 b1 b2 b3
 decide+kernel
theorem y0a(k:Int){x y:Ot}:leO x y=true->leO (Xg k x) (Xg k y)=true:=by
 obtain⟨x1,x2,x3⟩:=x;obtain⟨y1,y2,y3⟩:=y;unfold Xg;by_cases h8:k=8
 ·rw[if_pos h8,if_pos h8];revert x1 x2 x3 y1 y2 y3;decide
 rw[if_neg h8,if_neg h8];by_cases h9:k=9
 ·rw[if_pos h9,if_pos h9];revert x1 x2 x3 y1 y2 y3;decide
 rw[if_neg h9,if_neg h9];by_cases h10:k=10
 ·rw[if_pos h10,if_pos h10];revert x1 x2 x3 y1 y2 y3;decide
 rw[if_neg h10,if_neg h10];by_cases h11:k=11
 ·rw[if_pos h11,if_pos h11];revert x1 x2 x3 y1 y2 y3;decide
 rw[if_neg h11,if_neg h11];by_cases h12:k=12
 ·rw[if_pos h12,if_pos h12];revert x1 x2 x3 y1 y2 y3;decide
 rw[if_neg h12,if_neg h12];intro _;exact Uc _
mutual
theorem Mh{K K':ByteArray->Ot}(h:∀s,leO (K s) (K' s)=true):∀t:RT,leO (ofT K t) (ofT K' t)=true
 | .mk k T a b c d s p=>by
   rw[ofT,ofT];by_cases h1:k=1
   ·rw[if_pos h1,if_pos h1];exact Uc _
   rw[if_neg h1,if_neg h1];by_cases h2:k=2
   ·rw[if_pos h2,if_pos h2];exact Uc _
   rw[if_neg h2,if_neg h2];by_cases h3:k=3
   ·rw[if_pos h3,if_pos h3];exact Uc _
   rw[if_neg h3,if_neg h3];by_cases h4:k=4
   ·rw[if_pos h4,if_pos h4];exact Uc _
   rw[if_neg h4,if_neg h4];by_cases h5:k=5
   ·rw[if_pos h5,if_pos h5];exact h T
   rw[if_neg h5,if_neg h5];by_cases h6:k=6
   ·rw[if_pos h6,if_pos h6];exact z3e h s _ _ (Uc _)
   rw[if_neg h6,if_neg h6];by_cases h7:k=7
   ·rw[if_pos h7,if_pos h7];exact z3f h s _ _ (Uc _)
   rw[if_neg h7,if_neg h7];exact y0a k (y0b h s)
theorem z3e{K K':ByteArray->Ot}(h:∀s,leO (K s) (K' s)=true):∀(l:List RT) (x y:Ot),leO x y=true->leO (ofS K x l) (ofS K' y l)=true
 |[],x,y,hx=>by rw[ofS,ofS];exact hx
 |t::r,x,y,hx=>by rw[ofS,ofS];exact z3e h r _ _ (z9Y hx (Mh h t))
theorem z3f{K K':ByteArray->Ot}(h:∀s,leO (K s) (K' s)=true):∀(l:List RT) (x y:Ot),leO x y=true->leO (ofA K x l) (ofA K' y l)=true
 |[],x,y,hx=>by rw[ofA,ofA];exact hx
 |t::r,x,y,hx=>by rw[ofA,ofA];exact z3f h r _ _ (z9Z hx (Mh h t))
theorem y0b{K K':ByteArray->Ot}(h:∀s,leO (K s) (K' s)=true):∀(l:List RT),leO (ofH K l) (ofH K' l)=true
 |[]=>by rw[ofH,ofH];exact Uc _
 |t::r=>by rw[ofH,ofH];exact Mh h t
end
def Ul(K:ByteArray->Ot)(s:ByteArray)(x:Ot):ByteArray->Ot:=fun t=>if t=s then x else K t
def Vc(K:ByteArray->Ot)(x:Rr):ByteArray->Ot:=Ul K x.1 (ofT K x.2.1)
def swp(K:ByteArray->Ot):List Rr->(ByteArray->Ot)
 |[]=>K
 |x::r=>Vc (swp K r) x
def z0O:ByteArray->Ot:=fun _=>(false,false,false)
def itr(rs:List Rr):Nat->(ByteArray->Ot)
 |0=>z0O
 |n+1=>swp (itr rs n) rs
def Yk(K:ByteArray->Ot)(rs:List Rr):Prop:=∀x∈rs,ofT K x.2.1=K x.1
theorem z3g{K:ByteArray->Ot}{s:ByteArray}{x:Ot}(h:x=K s):Ul K s x=K:=by
 funext t;unfold Ul;by_cases e:t=s
 ·rw[if_pos e,h,e]
 ·rw[if_neg e]
theorem z3h{K:ByteArray->Ot}:∀{rs:List Rr},Yk K rs->swp K rs=K
 |[],_=>rfl
 |x::r,h=>by
  rw[swp,z3h (fun y hy=>h y (List.mem_cons_of_mem _ hy)),Vc];exact z3g (h x (List.mem_cons_self ..))
theorem Sf{rs:List Rr}{n:Nat}(h:Yk (itr rs n) rs):∀m,itr rs (n+m)=itr rs n
 |0=>rfl
 |m+1=>by rw[<-Nat.add_assoc,itr,Sf h m,z3h h]
theorem y0c{rs:List Rr}{n m:Nat}(h:Yk (itr rs n) rs)(k:Yk (itr rs m) rs):itr rs n=itr rs m:=by
 rcases Nat.le_total n m with e|e
 ·rw[<-Nat.add_sub_cancel' e,Sf h]
 ·rw[<-Nat.add_sub_cancel' e,Sf k]
def Kv(K:ByteArray->Ot)(rs:List Rr):Prop:=∀x∈rs,leO (K x.1) (ofT K x.2.1)=true
theorem z3i{K:ByteArray->Ot}{x:Rr}(h:leO (K x.1) (ofT K x.2.1)=true):∀s,leO (K s) (Vc K x s)=true:=fun s=>by
 unfold Vc Ul;by_cases e:s=x.1
 ·rw[if_pos e,e];exact h
 ·rw[if_neg e];exact Uc _
theorem y0d{K:ByteArray->Ot}{rs:List Rr}{x:Rr}(hu:∀y∈rs,y.1=x.1->y=x)(hx:x∈rs)(h:Kv K rs):Kv (Vc K x) rs:=fun y hy=>by
 have hle:=z3i (h x hx);by_cases e:y.1=x.1
 ·rw[hu y hy e]
  refine Sy ?_ (Mh hle x.2.1);unfold Vc Ul;rw[if_pos rfl];exact Uc _
 ·refine Sy ?_ (Sy (h y hy) (Mh hle y.2.1))
  unfold Vc Ul;rw[if_neg e];exact Uc _
def Kw(x:Ot):Nat:=x.1.toNat+(x.2.1.toNat+x.2.2.toNat)
theorem z3j(x:Ot):Kw x<=3:=by obtain⟨a,b,c⟩:=x;revert a b c;decide
theorem z3k{x y:Ot}:leO x y=true->Kw x<=Kw y:=by
 obtain⟨a,b,c⟩:=x;obtain⟨d,e,f⟩:=y
 revert a b c d e f
 decide
theorem y0e{x y:Ot}:leO x y=true->x≠y->Kw x<Kw y:=by
 obtain⟨a,b,c⟩:=x;obtain⟨d,e,f⟩:=y
 revert a b c d e f
 decide
def lck(K:ByteArray->Ot):List Rr->Nat
 |[]=>0
 |x::r=>(3-Kw (K x.1))+lck K r
theorem z3l{K K':ByteArray->Ot}(h:∀s,leO (K s) (K' s)=true):∀rs:List Rr,lck K' rs<=lck K rs
 |[]=>Nat.le_refl _
 |x::r=>by
  have h1:=z3l h r;have h2:=z3k (h x.1);rw[lck,lck];omega
theorem z3m{K K':ByteArray->Ot}(h:∀s,leO (K s) (K' s)=true):∀{rs:List Rr} {x:Rr},x∈rs->K x.1≠K' x.1->lck K' rs<lck K rs
 |y::r,x,hx,hne=>by
  have h1:=z3l h r;have h2:=z3k (h y.1);have h4:=z3j (K y.1);have h5:=z3j (K' y.1);rw[lck,lck];rcases List.mem_cons.1 hx with rfl|hx
  ·have h3:=y0e (h x.1) hne
   omega
  ·have h3:=z3m h hx hne
   omega
end Go.Proofs.YtlogolpcipiceaaGreatDoor
