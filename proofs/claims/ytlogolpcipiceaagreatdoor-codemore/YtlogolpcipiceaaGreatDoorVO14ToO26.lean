/- Lemmas for the last text. Conditions: those that each names. -/
import Derived.Test.YtlogolpcipiceaaGreatDoorVS9ToO13
import Derived.Test.YtlogolpcipiceaaGreatDoorVEAsToX11
import Derived.Deep.RegionHeld3
import Derived.Deep.AppendLies
set_option linter.unusedVariables false
set_option maxRecDepth 100000
set_option maxHeartbeats 8000000
namespace Go.Proofs.YtlogolpcipiceaaGreatDoor
open Go.Proofs.Tryz
open Go.RowKit Go.Shelf Go.Maps
variable {W W':World} {x:Int} {rs:List Rr}
theorem Zk.lo{X:Option (Int ⊕ (Int×Int))}{S S':Nat}{w':World}{v:Value}(h:Zk X S w' v)(hS:S'<=S):Zk X S' w' v:=by
 match X with
 |none=>exact h
 |some (.inl c)=>exact h
 |some (.inr q)=>
  obtain⟨g,h1,h2,h3⟩:=h;exact⟨g,h1,by omega,h3⟩
theorem z3B(so:Option Addr)(n cap:Nat)(rs:List Rr)(X:Option (Int ⊕ (Int×Int)))(W:World)
  (HC:Hid (∀W':World,Below W.heap.size W W'->Calls prog 199 #[.agg #[.slice so n cap]] W' fun e w'=>∃m v,e=.returned (.tuple #[m,v])/\Zk X W'.heap.size w' v/\(X=none->∃M,m=.map (some M)/\W'.heap.size<=M/\Pm w' M (nmL rs))/\(X≠none->m=.map none)/\Below W'.heap.size W' w')):
  Calls prog 167 #[.agg #[.slice so n cap]] W fun e w'=>∃v,e=.returned v/\Zk X W.heap.size w' v/\Below W.heap.size W w':=by
 have HB1:Hid (Below W.heap.size W (W.alloc (.cells #[.slice so n cap] 24))):=(Below.refl _ W).alloc L0q _;have HB0:Hid (Below W.heap.size W W):=Below.refl _ W;go_enter func167,ntmps167
 go_wp2_with fail
 first
  |(refine(HC.out _ HB1.out).mono ?_;rintro e w1 ⟨m,v,rfl,h1,-,-,h2⟩;have h3:=HB1.out.trans (h2.mono HB1.out.size);have h4:=h1.lo (S':=W.heap.size) HB1.out.size)
  |(refine(HC.out _ HB0.out).mono ?_;rintro e w1 ⟨m,v,rfl,h1,-,-,h2⟩;have h3:=h2;have h4:=h1)
 clear HC HB1 HB0 h1 h2;have H3:=hid h3;have H4:=hid h4;clear h3 h4
 go_wp2_with fail
 go_ret;exact⟨_,rfl,H4.out,H3.out⟩
theorem y0D{s:Nat}{v:Value}{u:List Int}(h:W.ownsRow s 3 1 v u.length (u.map (Value.int .i64)))(hl:u.length<=1048576):Dd W W.heap.size v u:=by
 rcases h.2 with⟨rfl,h0⟩|⟨g,cap,cur,rfl,h1,h2,h3,h4,h5,h6⟩
 ·cases u with
  |nil=>exact⟨none,0,rfl,hl,fun j hj=>by simp at hj⟩
  |cons _ _=>simp at h0
 ·refine⟨_,cap,rfl,hl,fun j hj=>⟨g,0,rfl,(Array.getElem?_eq_some_iff.1 h2).1,?_⟩⟩
  refine(Xv h2 (0+j) _ ?_).1;have e:(cur.toList.take (u.length*1))[j]? =(u.map (Value.int .i64))[j]? :=by rw[h6]
  rw[List.getElem?_take_of_lt (by omega)]at e;rw[Nat.zero_add,<-Array.getElem?_toList,e];simp[hj]
theorem y0E{w:World}{ub n:Nat}{vs:List Value}{us:List (List Int)}(h:Uw w ub n vs us W)(hn:vs.length=n)(hl:∀u∈us,u.length<=1048576)(hn2:n<=1048576):UsM W W.heap.size (.slice (some ⟨ub,0,none⟩) n n) us:=by
 have hu:us.length=n:=by rw[<-h.len];exact hn
 refine⟨_,n,by rw[hu],by omega,fun i hi=>⟨ub,0,vs[i]'(by rw[h.len];exact hi),rfl,Qq h.blk,?_,y0D (h.row i (by rw[h.len];exact hi) hi) (hl _ (List.getElem_mem hi))⟩⟩;refine(Xv h.blk (0+i) _ ?_).1;have hv:i<vs.length:=by rw[h.len];exact hi
 rw[Nat.zero_add,List.getElem?_toArray,List.getElem?_append_left hv,List.getElem?_eq_getElem hv]
theorem Tg{zs:List Int}(h:x∈Lib.compact zs):x∈zs:=by
 unfold Lib.compact Lib.compactUpTo at h;obtain⟨i,hi,rfl⟩:=List.mem_map.1 h;have hi2:i<zs.length:=List.mem_range.1 (List.mem_filter.1 hi).1;rw[getElem!_pos _ i (by simpa using hi2)];simp
theorem y0F{l:List ByteArray}{y:Rr}(hl:1<=l.length)(h:x∈usR l y):∃m:Nat,m<l.length/\x=(m:Int):=by
 have h1:x∈ixL l (rfT y.2.1):=(Ax _).mem_iff.1 (Tg h);obtain⟨q,_,rfl⟩:=List.mem_map.1 h1;refine⟨ixV l q.1,?_,rfl⟩;unfold ixV;cases hin:inN q.1 l with
 |true=>exact Sf _ _ hin
 |false=>exact hl
theorem Gb(h:okG rs=true):1<=rs.length/\rs.length<=64:=by
 unfold okG at h;simp only[Bool.and_eq_true,decide_eq_true_eq]at h;exact⟨h.1,h.2.1⟩
@[reducible] def CkC (so:Option Addr) (n cap:Nat) (rs:List Rr) (X:Option (Int ⊕ (Int×Int))) (W:World):Prop:=∀W':World,Below W.heap.size W W'->Calls prog 199 #[.agg #[.slice so n cap]] W' fun e w'=>∃m v,e=.returned (.tuple #[m,v])/\Zk X W'.heap.size w' v/\(X=none->∃M,m=.map (some M)/\W'.heap.size<=M/\Pm w' M (nmL rs))/\(X≠none->m=.map none)/\Below W'.heap.size W' w'
theorem CkC.from{so:Option Addr}{n cap:Nat}{X:Option (Int ⊕ (Int×Int))}(h:CkC so n cap rs X W)(hW:Below W.heap.size W W'):CkC so n cap rs X W':=fun W2 h2=>h W2 (hW.trans (h2.mono hW.size))
open Go.Extern.Stop Go.Stop Go.Extern
def xOf(rs:List Rr):Option (Int ⊕ (Int×Int)):=(ckR rs).map .inr
theorem Tb(so:Option Addr)(n cap:Nat)(rs:List Rr)(B:Nat)(w:World)(hz:RgZ rs)(h:Qy w B so n rs)(hB:B<=w.heap.size)(hTg:5<w.heap.size)(hok:okG rs=true)(hl:∀x∈rs,(rfT x.2.1).length<=8192)
  (hR:∀W:World,Below w.heap.size w W->Calls prog 233 #[.agg #[.slice so n cap]] W fun e w'=>e=.returned .nilIface/\Below W.heap.size W w'):CkX rs (xOf rs)/\CkC so n cap rs (xOf rs) w:=by
 have hC:∀W:World,Below w.heap.size w W->Calls prog 199 #[.agg #[.slice so n cap]] W (CkP W rs):=fun W hW=>callsIn_wide.1 (y0e so n cap rs W ((h.below (hW.mono hB)).upto (Nat.le_trans hB hW.size)) (by have:=hW.size;omega) (hid hz) (hid fun W' hW'=>hR W' (hW.trans (hW'.mono hW.size))) 0)
 unfold xOf;cases hk:ckR rs with
 |none=>
  refine⟨⟨hok,hk,hl⟩,fun W hW=>(hC W hW).mono fun e w' he=> ?_⟩;obtain⟨hb,⟨c,p,g,h1,_⟩|⟨M,_,h2,h3,h4⟩⟩:=he
  ·rw[hk]at h1;cases h1
  ·exact⟨_,_,h2,rfl,fun _=>⟨M,rfl,h3,h4⟩,fun h=>absurd rfl h,hb⟩
 |some q=>
  refine⟨⟨hok,hk⟩,fun W hW=>(hC W hW).mono fun e w' he=> ?_⟩;obtain⟨hb,⟨c,p,g,h1,h2,h3,h4⟩|⟨M,h1,_⟩⟩:=he
  ·rw[hk]at h1
   cases h1;exact⟨_,_,h2,⟨g,rfl,h3,h4⟩,(fun h=>by cases h),fun _=>rfl,hb⟩
  ·rw[hk]at h1;cases h1
theorem y0G{S:ByteArray}{rs:List Rl}(hS:S.size<=8192)(hp:Vv S=.inr rs)(h1:sz (pR qT cT rs)<=8192)(h2:dR rs<=24)(B g n cap:Nat)(W:World)(hr:RoR B (.slice (some ⟨g,0,none⟩) n cap) rs W)(hT:TabIs W):
  Qy W W.heap.size (some ⟨g,0,none⟩) n (toG rs)/\RgZ (toG rs)/\CkX (toG rs) (xOf (toG rs))/\CkC (some ⟨g,0,none⟩) n cap (toG rs) (xOf (toG rs)) W:=by
 have hx:∀x∈rs,Ruk Nmq x:=fun x hx=>(Rf hp x hx).1
 have hl:=Tz hp;have hi:=z3t hr (Tj (z3s hS hp)) hl.1;have hz:=(Hk (Gg rs) hx).2;have hT':=hT.lt;refine⟨hi,hz,Tb _ n cap (toG rs) W.heap.size W hz hi L0q hT' (Tv (Gg rs) hx hl.2 hl.1) (fun x hx'=>Nat.le_trans (Hy (Gg rs) hx x hx') h1) fun W' hW'=>Hf _ n cap (.string (cat (pR qT cT rs))) _ W' (hid fun W2 hW2=> ?_)⟩;have hb:Below W.heap.size W W2:=hW'.trans (hW2.mono hW'.size);have:=y0w hS hp B g n cap W2 (hr.below hb) (hT.below hb hT.lt);rw[Mp h1 h2]at this;exact this
theorem z3C(zs:List Int):∀(i:Nat) (hi:i<zs.length),zs[i]∈Lib.compact zs
 |0,hi=>by
  unfold Lib.compact Lib.compactUpTo;refine List.mem_map.2 ⟨0,List.mem_filter.2 ⟨List.mem_range.2 hi,Lib.keeps_lt_one _ 0 (by omega)⟩,?_⟩;rw[getElem!_pos _ 0 (by simpa using hi)];simp
 |i+1,hi=>by
  by_cases hk:Lib.keeps zs.toArray (i+1)=true
  ·unfold Lib.compact Lib.compactUpTo
   refine List.mem_map.2 ⟨i+1,List.mem_filter.2 ⟨List.mem_range.2 hi,hk⟩,?_⟩;rw[getElem!_pos _ (i+1) (by simpa using hi)];simp
  ·have e:zs.toArray[i+1]! =zs.toArray[i]! :=Classical.byContradiction fun hne=>hk (Lib.keeps_pos (by simpa using hne))
   rw[getElem!_pos _ (i+1) (by simpa using hi),getElem!_pos _ i (by simp;omega)]at e;have e':zs[i+1]=zs[i]:=by simpa using e
   rw[e'];exact z3C zs i (by omega)
theorem z3D{zs:List Int}(h:x∈zs):x∈Lib.compact zs:=by
 obtain⟨i,hi,rfl⟩:=List.getElem_of_mem h;exact z3C zs i hi
theorem y0H{l:List ByteArray}{y:Rr}:x∈usR l y↔x∈ixL l (rfT y.2.1):=⟨fun h=>(Ax _).mem_iff.1 (Tg h),fun h=>z3D ((Ax _).mem_iff.2 h)⟩
def fdI(s:ByteArray)(l:List ByteArray):Int:=if inN s l then(ixN s l:Int)else-1
theorem z3E{s:ByteArray}:∀{l:List ByteArray} {j:Nat} (hj:j<l.length),(∀i (hi:i<l.length),i<j->l[i]≠s)->l[j]=s->inN s l=true/\ixN s l=j
 |[],j,hj,_,_=>by simp at hj
 |a::r,0,_,_,h=>by
  have h:a=s:=h;rw[inN,ixN,if_pos h,if_pos h];exact⟨rfl,rfl⟩
 |a::r,j+1,hj,hb,h=>by
  have h0:a≠s:=hb 0 (by simp) (by omega);obtain⟨i1,i2⟩:=z3E (l:=r) (j:=j) (by simpa using hj) (fun i hi hij=>hb (i+1) (by simpa using hi) (by omega)) h;rw[inN,ixN,if_neg h0,if_neg h0,i2];exact⟨i1,rfl⟩
theorem z3F{s:ByteArray}:∀{l:List ByteArray},(∀i (hi:i<l.length),l[i]≠s)->inN s l=false
 |[],_=>rfl
 |a::r,h=>by
  have h0:a≠s:=h 0 (by simp);rw[inN,if_neg h0];exact z3F fun i hi=>h (i+1) (by simpa using hi)
theorem y0I(a b:ByteArray):(a.toList == b.toList)=decide (a=b):=by
 by_cases h:a=b
 ·subst h;simp
 ·have:a.toList≠b.toList:=fun e=>h (by
   rw[Go.ByteArray.toList_eq,Go.ByteArray.toList_eq]at e;exact ByteArray.ext (Array.toList_inj.1 e))
  simp[h,this]
theorem y0J(N0 T1 s:ByteArray)(k1 a1 b1 c1 d1 p1 q1:Int)(so1:Option Addr)(n1 cap1 nB:Nat)(W:World)(hb:Boxed W nB 9 (.string s)):
  Calls prog 148 #[.agg #[.string N0,.int .i64 k1,.string T1,.int .u64 a1,.int .u64 b1,.int .u64 c1,.int .u64 d1,.slice so1 n1 cap1,.int .i64 p1,.int .i64 q1],.pointer (some ⟨nB,0,none⟩)] W fun e w'=>e=.returned (.bool (decide (N0=s)))/\Below W.heap.size W w':=by
 have cn:=hb.cell;have lb:=hb.lt;go_enter func148,ntmps148
 go_wp2_with fail
 go_ret;refine⟨?_,(Below.refl _ W).alloc L0q _⟩;show Ending.returned (.bool (N0.toList == s.toList))=_;rw[y0I]
theorem y0K(s:ByteArray)(so:Option Addr)(n cap:Nat)(rs:List Rr)(B nB:Nat)(W:World)(h:Qy W B so n rs)(hB:B<=W.heap.size)(hb:Boxed W nB 9 (.string s))(hnB:nB<W.heap.size):
  Calls prog 147 #[.slice so n cap,.func (.func 148) #[] #[.pointer (some ⟨nB,0,none⟩)]] W fun e w'=>e=.returned (.int .i64 (fdI s (nmL rs)))/\Below W.heap.size W w':=by
 have HR:=hid h;have HNl:Hid (n=rs.length):=h.1;have hn6:n<=9223372036854775807:=by have:=h.2.1;unfold maxLen at this;omega
 have HBx:=hid hb;have HBB:Hid (B<=W.heap.size):=hB;clear h hb hB;go_enter func147,ntmps147
 go_wp2_with fail
 go_loopw [8] (fun i wr=>∃j:Nat,i=.int .i64 j/\j<=n/\Hid (∀i (hi:i<rs.length),i<j->rs[i].1≠s)/\Hid (Below W.heap.size W wr)) (fun i _=>n-(intOf i).toNat)
 case atStart=>exact⟨0,rfl,Nat.zero_le _,fun i hi h0=>by omega,Below.refl _ _⟩
 case round=>
  obtain⟨j,rfl,hj,HA,HBj⟩:=hrel;have hnl:(nmL rs).length=rs.length:=List.length_map _;by_cases hjn:j<n
  ·have hjI:(j:Int)<(n:Int):=by omega
   have a0:decide ((j:Int)<(n:Int))=true:=by simp;omega
   have hjs:j<rs.length:=by rw[<-HNl.out];exact hjn
   obtain⟨g,o,rfl,hg,k1,T1,a1,b1,c1,d1,so1,n1,cap1,p1,hrt,r0⟩:=HR.out.2.2 j hjs;have hce:∀q,wr.cell? ⟨g,q,none⟩=W.cell? ⟨g,q,none⟩:=fun q=>HBj.out.cell (p:=⟨g,q,none⟩) (Nat.lt_of_lt_of_le hg HBB.out)
   simp only[<-hce]at r0;obtain⟨z0,z1,z2,z3,z4,z5,z6,z7,z8,z9⟩:=r0;obtain⟨N0,hN0⟩:∃N0,N0=rs[j].1:=⟨_,rfl⟩;obtain⟨q1,hq1⟩:∃q1,q1=rs[j].2.2:=⟨_,rfl⟩;rw[<-hN0]at z0;rw[<-hq1]at z9;have HN0:Hid (N0=rs[j].1):=hN0;have HF:=hid (y0J N0 T1 s k1 a1 b1 c1 d1 p1 q1 so1 n1 cap1 nB wr ((HBj.out.block nB hnB).trans HBx.out));clear hce hrt hN0 hq1;by_cases e:N0=s
   ·rw[decide_eq_true e]at HF
    have HE:Hid (N0=s):=e;clear e
    go_wp2_with(first
     |(go_at_call 148;refine HF.out.mono ?_;clear HF;rintro e w5 ⟨rfl,hb5⟩))
    go_ret;refine⟨?_,HBj.out.trans (hb5.mono HBj.out.size)⟩;obtain⟨i1,i2⟩:=z3E (s:=s) (l:=nmL rs) (j:=j) (by omega) (fun i hi hij=>by have:=HA.out i (by omega) hij;simpa [nmL]using this) (by have:=HE.out;rw[HN0.out]at this;simpa [nmL]using this);unfold fdI;rw[i1,i2];rfl
   ·rw[decide_eq_false e]at HF
    have HE:Hid (N0≠s):=e;clear e
    go_wp2_with(first
     |(go_at_call 148;refine HF.out.mono ?_;clear HF;rintro e w5 ⟨rfl,hb5⟩))
    refine⟨⟨j+1,by go_num,by omega,hid (fun i hi hij=> ?_),hid (HBj.out.trans (hb5.mono HBj.out.size))⟩,by simp[intOf];omega⟩;by_cases e:i=j
    ·subst e
     have:=HE.out;rw[HN0.out]at this;exact this
    ·exact HA.out i hi (by omega)
  ·have a0:decide ((j:Int)<(n:Int))=false:=by simp;omega
   go_wp2_with fail
   go_ret;refine⟨?_,HBj.out⟩;unfold fdI;rw[z3F (s:=s) (l:=nmL rs) fun i hi=>by have:=HA.out i (by omega) (by have:=HNl.out;omega);simpa [nmL]using this];rfl
theorem Th(s:ByteArray)(so:Option Addr)(n cap:Nat)(rs:List Rr)(B:Nat)(W:World)(h:Qy W B so n rs)(hB:B<=W.heap.size):
  Calls prog 104 #[.agg #[.slice so n cap],.string s] W fun e w'=>e=.returned (.int .i64 (fdI s (nmL rs)))/\Below W.heap.size W w':=by
 have HI:=hid (fun(nB:Nat) (W':World) (hb:Below W.heap.size W W') (hx:Boxed W' nB 9 (.string s))=>y0K s so n cap rs B nB W' (h.below (hb.mono hB)) (Nat.le_trans hB hb.size) hx hx.lt);have HB2:Hid (∀o o':Obj,Below W.heap.size W ((W.alloc o).alloc o')):=fun o o'=>((Below.refl _ W).alloc L0q _).alloc (by simp) _
 have HX1:Hid (∀o:Obj,Boxed ((W.alloc o).alloc (.cells #[.string s] 9)) (W.heap.size+1) 9 (.string s)):=fun o=>by
  have:=Boxed.new (W.alloc o) 9 (.string s);simpa only[World.size_alloc]using this
 clear h hB;go_enter func104,ntmps104
 go_wp2_with fail
 refine(HI.out _ _ (HB2.out _ _) (HX1.out _)).mono ?_;rintro e w1 ⟨rfl,hb1⟩;have H1:=hid ((HB2.out _ _).trans (hb1.mono (HB2.out _ _).size));clear hb1 HI HX1 HB2
 go_wp2_with fail
 go_ret;exact⟨rfl,H1.out⟩
theorem z3G:∀{rs:List Rr} {l:List ByteArray},Ym l rs=none->∀j (hj:j<rs.length),inN rs[j].1 (l++nmL (rs.take j))=false
 |[],_,_,j,hj=>by simp at hj
 |x::r,l,h,0,_=>by
  rw[Ym]at h;cases hi:inN x.1 l with
  |true=>rw[hi]at h;cases h
  |false=>simpa [nmL]using hi
 |x::r,l,h,j+1,hj=>by
  rw[Ym]at h;cases hi:inN x.1 l with
  |true=>rw[hi]at h;cases h
  |false=>
   rw[hi]at h;have:=z3G (l:=l++[x.1]) (by simpa using h) j (by simpa using hj);simpa [nmL,List.append_assoc]using this
theorem y0L(h:ckR rs=none)(j:Nat)(hj:j<rs.length):inN rs[j].1 (nmL (rs.take j))=false:=by
 have hd:Dh rs=none:=by
  unfold ckR at h;cases hd:Dh rs with
  |none=>rfl
  |some p=>rw[hd]at h;cases h
 have:=z3G hd j hj;rwa[List.nil_append]at this
theorem z3H(s:ByteArray):∀a b,inN s (a++b)=(inN s a||inN s b)
 |[],b=>by rw[List.nil_append,inN];rfl
 |x::r,b=>by rw[List.cons_append,inN,inN,z3H s r b];by_cases h:x=s<;>simp[h]
theorem z3I(s:ByteArray):∀a b,ixN s (a++b)=if inN s a then ixN s a else a.length+ixN s b
 |[],b=>by rw[List.nil_append,inN];simp
 |x::r,b=>by
  rw[List.cons_append,ixN,ixN,inN,z3I s r b];by_cases h:x=s
  ·simp[h]
  ·simp only[h,if_false]
   by_cases h2:inN s r=true
   ·simp[h2]
   ·simp[h2];omega
theorem z3J(h:ckR rs=none)(j:Nat)(hj:j<rs.length):fdI rs[j].1 (nmL rs)=(j:Int):=by
 have h0:=y0L h j hj;have e:nmL rs=nmL (rs.take j)++(rs[j].1::nmL (rs.drop (j+1))):=by
  have e1:rs=rs.take j++(rs[j]::rs.drop (j+1)):=by rw[<-List.drop_eq_getElem_cons hj,List.take_append_drop]
  have e2:=congrArg nmL e1;rw[e2];unfold nmL;rw[List.map_append];rfl
 have hl:(nmL (rs.take j)).length=j:=by unfold nmL;rw[List.length_map,List.length_take];omega
 unfold fdI;rw[e,z3H,z3I,h0,inN,ixN,if_pos rfl,if_pos rfl,hl];simp
theorem Dd.below{B S:Nat}{rv:Value}{u:List Int}(h:Dd W B rv u)(hb:Below S W W')(hS:B<=S):Dd W' B rv u:=by
 obtain⟨so,cap,h1,h2,h3⟩:=h;refine⟨so,cap,h1,h2,fun j hj=> ?_⟩;obtain⟨g,o,e1,e2,e3⟩:=h3 j hj;exact⟨g,o,e1,e2,(hb.cell (p:=⟨g,o+j,none⟩) (by show g<S;omega)).trans e3⟩
theorem UsM.below{W W':World}{B S:Nat}{uv:Value}{us:List (List Int)}(h:UsM W B uv us)(hb:Below S W W')(hS:B<=S):UsM W' B uv us:=by
 obtain⟨so,cap,h1,h2,h3⟩:=h;refine⟨so,cap,h1,h2,fun i hi=> ?_⟩;obtain⟨g,o,rv,e1,e2,e3,e4⟩:=h3 i hi;exact⟨g,o,rv,e1,e2,(hb.cell (p:=⟨g,o+i,none⟩) (by show g<S;omega)).trans e3,e4.below hb hS⟩
mutual
def Zm(w:World)(P:Nat->Prop):RT->List Value->Prop
 | .mk k T a b c d s p,cs=>∃so cap,cs=r8 k T a b c d so (Qp s) cap p/\(s.isEmpty=true∨(s.isEmpty=false/\∃g cur,so=some ⟨g,0,none⟩/\P g/\w.heap[g]? =some (.cells cur 71)/\Qp s<=maxLen/\Xk w P s cur.toList))
def Xk(w:World)(P:Nat->Prop):List RT->List Value->Prop
 |[],_=>True
 |t::r,vs=>∃c rest,vs=c++rest/\Zm w P t c/\Xk w P r rest
end
theorem Zm.len{w:World}{P:Nat->Prop}{t:RT}{c:List Value}(h:Zm w P t c):c.length=8:=by
 obtain⟨k,T,a,b,c0,d,s,p⟩:=t;rw[Zm]at h;obtain⟨so,cap,rfl,_⟩:=h;rfl
mutual
theorem Zm.kept{w w':World}{P Q:Nat->Prop}(hk:∀g cur,P g->w.heap[g]? =some (.cells cur 71)->w'.heap[g]? =w.heap[g]? /\Q g):∀(t:RT) (c:List Value),Zm w P t c->Zm w' Q t c
 | .mk k T a b c d s p,cs,h=>by
   rw[Zm]at h ⊢;obtain⟨so,cap,h1,h2⟩:=h;refine⟨so,cap,h1,?_⟩;rcases h2 with h2|⟨h3,g,cur,h4,h5,h6,h7,h8⟩
   ·exact .inl h2
   ·have:=hk g cur h5 h6
    exact .inr ⟨h3,g,cur,h4,this.2,this.1.trans h6,h7,Xk.kept hk s cur.toList h8⟩
theorem Xk.kept{w w':World}{P Q:Nat->Prop}(hk:∀g cur,P g->w.heap[g]? =some (.cells cur 71)->w'.heap[g]? =w.heap[g]? /\Q g):∀(l:List RT) (vs:List Value),Xk w P l vs->Xk w' Q l vs
 |[],vs,h=>by rw[Xk];trivial
 |n::r,vs,h=>by
  rw[Xk]at h ⊢;obtain⟨c,rest,h1,h2,h3⟩:=h;exact⟨c,rest,h1,Zm.kept hk n c h2,Xk.kept hk r rest h3⟩
end
theorem Xk.more{w:World}{P:Nat->Prop}:∀(l:List RT) (vs us:List Value),Xk w P l vs->Xk w P l (vs++us)
 |[],_,_,_=>by rw[Xk];trivial
 |n::r,vs,us,h=>by
  rw[Xk]at h ⊢;obtain⟨c,rest,rfl,h2,h3⟩:=h;exact⟨c,rest++us,by rw[List.append_assoc],h2,Xk.more r rest us h3⟩
def CnA(t:RT)(w:World)(e:Ending)(w':World):Prop:=∃k T a b c d so n cap p,e=.returned (.agg #[.int .i64 k,.string T,.int .u64 a,.int .u64 b,.int .u64 c,.int .u64 d,.slice so n cap,.int .i64 p])/\Hid (Zm w' (fun g=>w.heap.size<=g) t (r8 k T a b c d so n cap p))/\Hid (Below w.heap.size w w')
theorem Nx{h:Nat}{y0 y1 y2 y3 y4 y5 y6 y7:Value}(hs:W.cell? ⟨h,0,none⟩=some y0/\W.cell? ⟨h,1,none⟩=some y1/\W.cell? ⟨h,2,none⟩=some y2/\W.cell? ⟨h,3,none⟩=some y3/\W.cell? ⟨h,4,none⟩=some y4/\W.cell? ⟨h,5,none⟩=some y5/\W.cell? ⟨h,6,none⟩=some y6/\W.cell? ⟨h,7,none⟩=some y7)(hb:Below W.heap.size W W'):W'.cell? ⟨h,0,none⟩=some y0/\W'.cell? ⟨h,1,none⟩=some y1/\W'.cell? ⟨h,2,none⟩=some y2/\W'.cell? ⟨h,3,none⟩=some y3/\W'.cell? ⟨h,4,none⟩=some y4/\W'.cell? ⟨h,5,none⟩=some y5/\W'.cell? ⟨h,6,none⟩=some y6/\W'.cell? ⟨h,7,none⟩=some y7:=
 have k:∀{j:Nat} {v:Value},W.cell? ⟨h,j,none⟩=some v->W'.cell? ⟨h,j,none⟩=some v:=fun{j v} e=>(hb.cell (p:=⟨h,j,none⟩) (World.block_lt_of_cell? W _ e)).trans e
 ⟨k hs.1,k hs.2.1,k hs.2.2.1,k hs.2.2.2.1,k hs.2.2.2.2.1,k hs.2.2.2.2.2.1,k hs.2.2.2.2.2.2.1,k hs.2.2.2.2.2.2.2⟩
mutual
def RtB:RT->Prop
 | .mk k T a b c d s p=>T.size<=281474976710656/\Qp s*88<=140737488351232/\Nj s
def Nj:List RT->Prop
 |[]=>True
 |t::r=>RtB t/\Nj r
end
theorem Nj.at:∀{s:List RT},Nj s->∀(j:Nat) (h:j<s.length),RtB s[j]
 |[],_,j,h=>by simp at h
 |t::r,hv,0,_=>by rw[Nj]at hv;exact hv.1
 |t::r,hv,j+1,h=>by rw[Nj]at hv;exact hv.2.at j (by simpa using h)
end Go.Proofs.YtlogolpcipiceaaGreatDoor
