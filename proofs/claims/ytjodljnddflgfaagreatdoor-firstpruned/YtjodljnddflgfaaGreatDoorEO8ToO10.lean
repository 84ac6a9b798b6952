/- Lemmas for the last text. Conditions: those that each names. -/
import Derived.Test.YtjodljnddflgfaaGreatDoorER2ToO7
import Derived.Test.YtjodljnddflgfaaGreatDoorVFIToFBase
set_option linter.unusedVariables false
set_option maxRecDepth 100000
set_option maxHeartbeats 8000000
namespace Go.Proofs.YtjodljnddflgfaaGreatDoor
open Go.Proofs.Tryz
open Go.RowKit Go.Shelf Go.Maps
variable {W:World} {base k n s sb:Nat} {v:Value} {xs:List Value} {P:Nat->Prop} {out:List Int}
def usR(l:List ByteArray)(x:Rr):List Int:=Lib.compact (srt (ixL l (rfT x.2.1)))
structure y3U (w:World) (ub n:Nat) (vs:List Value) (us:List (List Int)) (W:World):Prop where
 blk:W.heap[ub]? =some (.cells (vs++List.replicate (n-vs.length) (Value.slice none 0 0)).toArray 99)
 len:vs.length=us.length
 row:∀i (h1:i<vs.length) (h2:i<us.length),W.ownsRow w.heap.size 3 1 vs[i] us[i].length (us[i].map (Value.int .i64))
 be:Below w.heap.size w W
 lo:w.heap.size<=ub
theorem y4V{α:Type}(vs:List α)(n:Nat)(z:α)(h:vs.length<n):(vs++List.replicate (n-vs.length) z).toArray[vs.length]? =some z:=by
 rw[List.getElem?_toArray,List.getElem?_append_right L0q,Nat.sub_self,List.getElem?_replicate,if_pos (by omega)]
theorem y4W{α:Type}(vs:List α)(n:Nat)(z v:α)(h:vs.length<n):(vs++List.replicate (n-vs.length) z).toArray.setIfInBounds vs.length v=((vs++[v])++List.replicate (n-(vs++[v]).length) z).toArray:=by
 have e:n-vs.length=(n-(vs++[v]).length)+1:=by simp;omega
 rw[e,List.replicate_succ];simp
theorem y4X{W':World}{S:Nat}(h:W.ownsRow s 3 1 v k xs)(hb:Below S W W')(hS:S=W.heap.size):W'.ownsRow s 3 1 v k xs:=by
 refine⟨h.1,?_⟩;rcases h.2 with h1|⟨g,cap,cur,h1,h2,h3,h4⟩
 ·exact .inl h1
 ·exact .inr ⟨g,cap,cur,h1,h2,(hb.block g (by rw[hS];exact(Array.getElem?_eq_some_iff.1 h3).1)).trans h3,h4⟩
theorem y4p{ub j:Nat}{u:Value}{cur:Array Value}(h:W.ownsRow s 3 1 v k xs)(hu:W.heap[ub]? =some (.cells cur 99)):(W.setCell ⟨ub,j,none⟩ u).ownsRow s 3 1 v k xs:=by
 refine⟨h.1,?_⟩;rcases h.2 with h1|⟨g,cap,cur',h1,h2,h3,h4⟩
 ·exact .inl h1
 ·refine .inr ⟨g,cap,cur',h1,h2,(Below.heap_setCell _ _ _ g (fun e=> ?_)).trans h3,h4⟩
  have e:g=ub:=e;rw[e,hu]at h3;cases h3
theorem y4q{s':Nat}(h:W.ownsRow s 3 1 v k xs)(hs:s'<=s):W.ownsRow s' 3 1 v k xs:=by
 refine⟨h.1,?_⟩;rcases h.2 with h1|⟨g,cap,cur,h1,h2,h3⟩
 ·exact .inl h1
 ·exact .inr ⟨g,cap,cur,h1,by omega,h3⟩
theorem y3U.below{w:World}{ub:Nat}{vs:List Value}{us:List (List Int)}{W':World}(h:y3U w ub n vs us W)(hb:Below W.heap.size W W'):y3U w ub n vs us W':=
 ⟨(hb.block ub (Array.getElem?_eq_some_iff.1 h.blk).1).trans h.blk,h.len,fun i h1 h2=>y4X (h.row i h1 h2) hb rfl,h.be.trans (hb.mono h.be.size),h.lo⟩
theorem y3U.step{w:World}{ub n:Nat}{vs:List Value}{us:List (List Int)}{W:World}{v:Value}{u:List Int}(h:y3U w ub n vs us W)(hn:vs.length<n)(hr:W.ownsRow w.heap.size 3 1 v u.length (u.map (Value.int .i64))):y3U w ub n (vs++[v]) (us++[u]) (W.setCell ⟨ub,vs.length,none⟩ v):=by
 refine⟨by rw[Qy h.blk,y4W vs n _ v hn],by simp[h.len],fun i h1 h2=> ?_,h.be.setCell (p:=⟨ub,vs.length,none⟩) h.lo v,h.lo⟩;by_cases hi:i<vs.length
 ·have hi2:i<us.length:=by rw[<-h.len];exact hi
  rw[List.getElem_append_left hi,List.getElem_append_left hi2];exact y4p (h.row i hi hi2) h.blk
 ·have e1:i=vs.length:=by simp at h1;omega
  subst e1;have e2:vs.length=us.length:=h.len;rw[List.getElem_append_right (by omega)];have:(us++[u])[vs.length]=u:=by rw[List.getElem_append_right (by omega)];simp[e2]
  rw[this];simp only[Nat.sub_self,List.getElem_cons_zero];exact y4p hr h.blk
theorem Tryz.infoInts:(Tryz.prog.info? 99).map (fun i=>(i.zero,i.size,i.bytes))=some (some (.slice none 0 0),1,24):=by kernel_rfl
theorem y4r(z:Value)(hz:z.cells=#[z])(k:Nat):madeCells z.cells k=(List.replicate k z).toArray:=by
 rw[hz];unfold madeCells;apply Array.ext
 ·simp
 ·intro i h1 h2
  simp[Nat.mod_one]
theorem y4Y(n:Nat)(hn:n<=1048576)(W:World):(Instr.makeSlice 151 (.int .i64 n) (.int .i64 n)).run prog W=.ok (.slice (some ⟨W.heap.size,0,none⟩) n n) (W.alloc (.cells (List.replicate n (Value.slice none 0 0)).toArray 99)):=by
 obtain⟨i0,hi0,hz0,hz1,hz2⟩:=info_parts Tryz.infoInts;rw[run_make W 151 99 i0 (.slice none 0 0) Tryz.underlying151 hi0 hz0 .i64 .i64 n n (by omega) (by omega) (by rw[hz2];omega) (by omega),hz1,y4r _ rfl];simp
theorem y4Z(so:Option Addr)(n cap:Nat)(rs:List Rr)(w:World)(h:Qh w w.heap.size so n rs)(hTg:1<w.heap.size)(HZ:Hid (RgZ rs))(HL:Hid (∀x∈rs,(rfT x.2.1).length<=1048576))(hn:n<=1048576)
  (HC:Hid (∀W:World,Below w.heap.size w W->Calls prog 97 #[.agg #[.slice so n cap]] W fun e w'=>∃M,e=.returned (.tuple #[.map (some M),.nilIface])/\W.heap.size<=M/\Pm w' M (nmL rs)/\Below W.heap.size W w')):
  Calls prog 81 #[.agg #[.slice so n cap]] w fun e w'=>∃ub vs,e=.returned (.tuple #[.slice (some ⟨ub,0,none⟩) n n,.nilIface])/\vs.length=n/\y3U w ub n vs (rs.map (usR (nmL rs))) w':=by
 obtain⟨W0,hW0⟩:∃W0,W0=w.alloc (.cells #[.slice so n cap] 24):=⟨_,rfl⟩;have hB0:Below w.heap.size w W0:=by rw[hW0];exact(Below.refl _ w).alloc L0q _
 have c1:W0.heap[w.heap.size]? =some (.cells #[.slice so n cap] 24):=by rw[hW0];exact Qx w _ rfl
 have hs0:W0.heap.size=w.heap.size+1:=by rw[hW0];simp
 have HC0:=hid (HC.out W0 hB0);have hmk:=y4Y n hn;go_enter func81,ntmps81
 go_wp2_with fail
 rw[<-hW0];clear hW0;refine HC0.out.mono ?_;rintro e W1 ⟨M,rfl,hM,HP,hb1⟩;have d1:=(hb1.block _ (by omega)).trans c1;have hs1:=hb1.size;obtain⟨e1,_⟩:=Qw d1;have hl1:w.heap.size<W1.heap.size:=by omega
 clear HC0 HC;obtain⟨ub,hub⟩:∃ub,ub=W1.heap.size:=⟨_,rfl⟩;obtain⟨W2,hW2⟩:∃W2,W2=W1.alloc (.cells (Array.replicate n (Value.slice none 0 0)) 99):=⟨_,rfl⟩;have hBw:Below w.heap.size w W1:=hB0.trans (hb1.mono hB0.size);have HU2:Hid (y3U w ub n [] [] W2):=by
  refine⟨?_,rfl,fun i h1=>by simp at h1,by rw[hW2];exact hBw.alloc hBw.size _,by rw[hub];exact hBw.size⟩;rw[hW2,hub,Qx _ _ rfl];simp
 have HP2:Hid (Pm W2 M (nmL rs)):=by rw[hW2];exact HP.kept (World.grownBy_alloc _ _ none) (by simp)
 have HMu:Hid (M<ub):=by rw[hub];exact HP.lt
 have HR:=hid h;have HNl:Hid (n=rs.length):=h.1
 go_wp2_with fail
 rw[<-hW2,<-hub];clear hW2 hub d1 e1 h hs0 hs1 hB0 c1 hb1 hl1 hmk HP hBw hM
 go_loopw [24] (fun i wr=>∃j:Nat,i=.int .i64 j/\j<=n/\Hid (∃vs,vs.length=j/\y3U w ub n vs ((rs.take j).map (usR (nmL rs))) wr)/\Hid (Pm wr M (nmL rs))) (fun i _=>n-(intOf i).toNat)
 case atStart=>exact⟨0,rfl,Nat.zero_le _,⟨[],rfl,by rw[List.take_zero];exact HU2.out⟩,HP2⟩
 case round=>
  obtain⟨j,rfl,hj,HUj,HPj⟩:=hrel;by_cases hjn:j<n
  ·have hjI:(j:Int)<(n:Int):=by omega
   have a0:decide ((j:Int)<(n:Int))=true:=by simp;omega
   have hjs:j<rs.length:=by rw[<-HNl.out];exact hjn
   obtain⟨g,o,rfl,hg,k1,T1,a1,b1,c1,d1,so1,n1,cap1,p1,hrt,r0⟩:=HR.out.2.2 j hjs;obtain⟨vs,hvl,hU⟩:=HUj.out;have hce:∀q,wr.cell? ⟨g,q,none⟩=w.cell? ⟨g,q,none⟩:=fun q=>hU.be.cell (p:=⟨g,q,none⟩) hg
   simp only[<-hce]at r0;obtain⟨z0,z1,z2,z3,z4,z5,z6,z7,z8,z9⟩:=r0;have hgl:g<wr.heap.size:=World.block_lt_of_cell? wr _ z0;obtain⟨N0,hN0⟩:∃N0,N0=rs[j].1:=⟨_,rfl⟩;obtain⟨q1,hq1⟩:∃q1,q1=rs[j].2.2:=⟨_,rfl⟩;rw[<-hN0]at z0;rw[<-hq1]at z9;have hb2:Below wr.heap.size wr (wr.alloc (.cells #[.string N0,.int .i64 k1,.string T1,.int .u64 a1,.int .u64 b1,.int .u64 c1,.int .u64 d1,.slice so1 n1 cap1,.int .i64 p1,.int .i64 q1] 57)):=(Below.refl _ wr).alloc L0q _;have hU2:=hU.below hb2;have hx:=List.getElem_mem hjs;have HUS:=hid (callsIn_wide.1 (y4U k1 T1 a1 b1 c1 d1 so1 n1 cap1 p1 rs[j].2.1 M (nmL rs) (wr.alloc (.cells #[.string N0,.int .i64 k1,.string T1,.int .u64 a1,.int .u64 b1,.int .u64 c1,.int .u64 d1,.slice so1 n1 cap1,.int .i64 p1,.int .i64 q1] 57)) w.heap.size hU2.be.size (hrt.below hU2.be) (HZ.out _ hx).2 (by have:=hU2.be.size;omega) (HPj.out.kept (World.grownBy_alloc _ _ none) (by simp)) (HL.out _ hx) 0));have HUw:=hid hU2;have HV:Hid (vs.length=j):=hvl;have lu:ub<wr.heap.size:=Qz hU.blk;clear hN0 hq1 hce hrt hU hb2 hU2 hvl HUj
   go_wp2_with(first
    |(go_at_call 120;refine HUS.out.mono ?_;clear HUS;rintro e w6 ⟨v6,rfl,hr6,hb6⟩;obtain⟨so6,sc6,rfl⟩:=z9h hr6;have hU6:=HUw.out.below hb6;obtain⟨x6,f6⟩:=Zj hU6.blk j (.slice none 0 0) (by have:=y4V vs n (Value.slice none 0 0) (by rw[HV.out];exact hjn);rw[HV.out]at this;rw[HV.out];exact this)))
   refine⟨⟨j+1,by go_num,by omega,hid ⟨vs++[.slice so6 (usR (nmL rs) rs[j]).length sc6],by rw[List.length_append,HV.out];rfl,?_⟩,hid ?_⟩,by simp[intOf];omega⟩
   ·have hs:=hU6.step (u:=usR (nmL rs) rs[j]) (by rw[HV.out];exact hjn) (y4q hr6 HUw.out.be.size)
    rw[HV.out]at hs;rw[show(rs.take (j+1)).map (usR (nmL rs))=(rs.take j).map (usR (nmL rs))++[usR (nmL rs) rs[j]] by rw[show rs.take (j+1)=rs.take j++[rs[j]] by simp,List.map_append];rfl];exact hs
   ·have hP6:=(HPj.out.kept (World.grownBy_alloc _ (.cells #[.string N0,.int .i64 k1,.string T1,.int .u64 a1,.int .u64 b1,.int .u64 c1,.int .u64 d1,.slice so1 n1 cap1,.int .i64 p1,.int .i64 q1] 57) none) (by simp)).below hb6 (by rw[World.size_alloc];have:=HPj.out.lt;omega)
    obtain⟨D,hown,hD⟩:=hP6;exact⟨D,hown.setCell (a:=⟨ub,j,none⟩) (by have:=HMu.out;show M≠ub;omega) _,hD⟩
  ·have a0:decide ((j:Int)<(n:Int))=false:=by simp;omega
   have hjn':rs.take j=rs:=List.take_of_length_le (by rw[<-HNl.out];omega);rw[hjn']at HUj;clear hjn'
   go_wp2_with fail
   obtain⟨vs,hvl,hU⟩:=HUj.out;refine bodyPost_ret (v:=.tuple #[.slice (some ⟨ub,0,none⟩) n n,.nilIface]) (by simp[results,Tryz.results81,go_sem]) rfl ?_;exact⟨ub,vs,rfl,by omega,hU⟩
inductive Rch (us:List (List Int)) (a:Nat):Nat->Prop where
 |refl:Rch us a a
 |step {b c:Nat}:Rch us a b->(c:Int)∈us.getD b []->Rch us a c
theorem Rch.trans{us:List (List Int)}{a b c:Nat}(h:Rch us a b)(k:Rch us b c):Rch us a c:=by
 induction k with
 |refl=>exact h
 |step _ hm ih=>exact ih.step hm
structure Ty (us:List (List Int)) (P:Nat->Prop) (sn:List Bool) (out:List Int) (sn':List Bool) (out':List Int):Prop where
 len:sn'.length=sn.length
 mono:∀i:Nat,sn[i]? =some true->sn'[i]? =some true
 ext:∃news:List Int,out'=out++news/\news.Nodup/\(∀x∈news,∃i:Nat,x=(i:Int)/\sn[i]? =some false/\sn'[i]? =some true/\P i)/\(∀i:Nat,sn[i]? =some false->sn'[i]? =some true->(i:Int)∈news)
def y3T(us:List (List Int))(E:Nat->Prop)(sn sn':List Bool):Prop:=∀i:Nat,sn[i]? =some false->sn'[i]? =some true->¬E i->∀k∈us.getD i [],∃m:Nat,k=(m:Int)/\sn'[m]? =some true
theorem Ty.refl(us:List (List Int))(P:Nat->Prop)(sn:List Bool)(out:List Int):Ty us P sn out sn out:=
 ⟨rfl,fun _ h=>h,[],by simp,List.nodup_nil,fun x h=>by simp at h,fun i h1 h2=>by rw[h1]at h2;cases h2⟩
theorem y3T.refl(us:List (List Int))(E:Nat->Prop)(sn:List Bool):y3T us E sn sn:=fun i h1 h2=>by rw[h1]at h2;cases h2
theorem Ty.weak{us:List (List Int)}{Q:Nat->Prop}{sn sn':List Bool}{out':List Int}(h:Ty us P sn out sn' out')(hq:∀i,P i->Q i):Ty us Q sn out sn' out':=by
 obtain⟨h1,h2,news,h3,h4,h5,h6⟩:=h;exact⟨h1,h2,news,h3,h4,fun x hx=>(h5 x hx).imp fun i ⟨a,b,c,d⟩=>⟨a,b,c,hq i d⟩,h6⟩
theorem y3T.weak{us:List (List Int)}{E F:Nat->Prop}{sn sn':List Bool}(h:y3T us E sn sn')(hq:∀i,E i->F i):y3T us F sn sn':=fun i h1 h2 h3=>h i h1 h2 fun e=>h3 (hq i e)
theorem Ty.get{us:List (List Int)}{sn sn':List Bool}{out':List Int}(h:Ty us P sn out sn' out'){i:Nat}{b:Bool}(hi:sn[i]? =some b):sn'[i]? =some true∨sn'[i]? =some false:=by
 have hl:i<sn'.length:=by rw[h.len];exact(List.getElem?_eq_some_iff.1 hi).1
 rw[List.getElem?_eq_getElem hl];cases sn'[i]<;>simp
theorem Ty.trans{us:List (List Int)}{P:Nat->Prop}{s1 s2 s3:List Bool}{o1 o2 o3:List Int}(h:Ty us P s1 o1 s2 o2)(k:Ty us P s2 o2 s3 o3):Ty us P s1 o1 s3 o3:=by
 obtain⟨n1,e1,d1,a1,b1⟩:=h.ext;obtain⟨n2,e2,d2,a2,b2⟩:=k.ext;have back:∀i:Nat,s2[i]? =some false->s1[i]? =some false:=fun i hi=>by
  have hl:i<s1.length:=by rw[<-h.len];exact(List.getElem?_eq_some_iff.1 hi).1
  have e:=List.getElem?_eq_getElem hl;cases hb:s1[i]with
  |false=>rw[e,hb]
  |true=>
   rw[hb]at e;rw[h.mono i e]at hi;cases hi
 refine⟨k.len.trans h.len,fun i hi=>k.mono i (h.mono i hi),n1++n2,by rw[e2,e1,List.append_assoc],?_,fun x hx=> ?_,fun i hi hj=> ?_⟩
 ·refine List.nodup_append.2 ⟨d1,d2,fun x hx y hy e=> ?_⟩
  subst e;obtain⟨i,rfl,_,q2,_⟩:=a1 x hx;obtain⟨j,ej,q3,_,_⟩:=a2 _ hy;have:i=j:=by omega
  subst this;rw[q2]at q3;cases q3
 ·rcases List.mem_append.1 hx with hx|hx
  ·obtain⟨i,q1,q2,q3,q4⟩:=a1 x hx
   exact⟨i,q1,q2,k.mono i q3,q4⟩
  ·obtain⟨i,q1,q2,q3,q4⟩:=a2 x hx
   exact⟨i,q1,back i q2,q3,q4⟩
 ·rcases h.get hi with h2|h2
  ·exact List.mem_append.2 (.inl (b1 i hi h2))
  ·exact List.mem_append.2 (.inr (b2 i h2 hj))
theorem y3T.trans{us:List (List Int)}{E:Nat->Prop}{s1 s2 s3:List Bool}{o1 o2 o3:List Int}(h:Ty us P s1 o1 s2 o2)(k:Ty us P s2 o2 s3 o3)(c:y3T us E s1 s2)(d:y3T us E s2 s3):y3T us E s1 s3:=fun i h1 h3 hE x hx=>by
 rcases h.get h1 with h2|h2
 ·obtain⟨m,rfl,hm⟩:=c i h1 h2 hE x hx
  exact⟨m,rfl,k.mono m hm⟩
 ·exact d i h2 h3 hE x hx
theorem Ty.mark(us:List (List Int))(sn:List Bool)(out:List Int)(p:Nat)(h:sn[p]? =some false):Ty us (Rch us p) sn out (sn.set p true) (out++[(p:Int)]):=by
 have hp:p<sn.length:=(List.getElem?_eq_some_iff.1 h).1;refine⟨List.length_set,fun i hi=> ?_,[(p:Int)],rfl,by simp,fun x hx=> ?_,fun i h1 h2=> ?_⟩
 ·by_cases e:p=i
  ·subst e;rw[h]at hi;cases hi
  ·rw[List.getElem?_set_ne e];exact hi
 ·obtain rfl:x=(p:Int):=by simpa using hx
  exact⟨p,rfl,h,by rw[List.getElem?_set_self hp],.refl⟩
 ·by_cases e:p=i
  ·subst e;simp
  ·rw[List.getElem?_set_ne e,h1]at h2;cases h2
theorem y3T.mark(us:List (List Int))(sn:List Bool)(p:Nat):y3T us (· =p) sn (sn.set p true):=fun i h1 h2 hE=>by
 rw[List.getElem?_set_ne (fun e=>hE e.symm),h1]at h2;cases h2
def unm(sn:List Bool):Nat:=(sn.filter (· == false)).length
theorem y4s:∀(sn:List Bool) (p:Nat),sn[p]? =some false->unm (sn.set p true)<unm sn
 |[],p,h=>by simp at h
 |b::r,0,h=>by
  obtain rfl:b=false:=by simpa using h
  simp[unm]
 |b::r,p+1,h=>by
  have ih:=y4s r p (by simpa using h);unfold unm at ih ⊢;rw[List.set_cons_succ,List.filter_cons,List.filter_cons];split
  ·simp only[List.length_cons];omega
  ·exact ih
theorem y4t:∀(a b:List Bool),b.length=a.length->(∀i:Nat,a[i]? =some true->b[i]? =some true)->unm b<=unm a
 |[],[],_,_=>Nat.le_refl _
 |[],_::_,h,_=>by simp at h
 |_::_,[],h,_=>by simp at h
 |x::r,y::q,h,hm=>by
  have ih:=y4t r q (by simpa using h) (fun i hi=>by have:=hm (i+1) (by simpa using hi);simpa using this);have h0:=hm 0;unfold unm at ih ⊢;rw[List.filter_cons,List.filter_cons];cases x<;>cases y<;>simp_all;omega
def y4u(W:World)(B:Nat)(rv:Value)(u:List Int):Prop:=∃so cap,rv=.slice so u.length cap/\u.length<=1048576/\∀j (hj:j<u.length),∃g o,so=some ⟨g,o,none⟩/\g<B/\W.cell? ⟨g,o+j,none⟩=some (.int .i64 u[j])
def UsM(W:World)(B:Nat)(uv:Value)(us:List (List Int)):Prop:=∃so cap,uv=.slice so us.length cap/\us.length<=1048576/\∀i (hi:i<us.length),∃g o rv,so=some ⟨g,o,none⟩/\g<B/\W.cell? ⟨g,o+i,none⟩=some rv/\y4u W B rv us[i]
structure Vs (base n sB oB uB vB sb:Nat) (uv:Value) (w0:World) (sn:List Bool) (out:List Int) (W:World):Prop where
 sbx:Boxed W sB 215 (.slice (some ⟨sb,0,none⟩) n n)
 sbl:W.heap[sb]? =some (.cells (sn.map Value.bool).toArray 4)
 obx:∃v,Boxed W oB 99 v/\W.ownsRow base 3 1 v out.length (out.map (Value.int .i64))
 ubx:Boxed W uB 151 uv
 vbx:Boxed W vB 216 (.func (.func 121) #[] #[.pointer (some ⟨sB,0,none⟩),.pointer (some ⟨oB,0,none⟩),.pointer (some ⟨uB,0,none⟩),.pointer (some ⟨vB,0,none⟩)])
 be:Below base w0 W
 len:sn.length=n
theorem y4e{a b:Nat}{x y:Array Value}{t u:TypeId}(h:W.heap[a]? =some (.cells x t))(k:W.heap[b]? =some (.cells y u))(ht:t≠u):a≠b:=fun e=>by
 subst e;rw[h]at k;cases k;exact ht rfl
theorem y5a{b e size:Nat}{y:Array Value}{u:TypeId}(h:W.ownsRow base e size v k xs)(hb:W.heap[b]? =some (.cells y u))(ht:u≠e):some b≠v.ownBlock:=by
 rcases h.2 with⟨rfl,_⟩|⟨g,cap,cur,rfl,_,hgb,_⟩
 ·simp[Value.ownBlock]
 ·intro e'
  obtain rfl:b=g:=by simpa [Value.ownBlock]using e'
  exact(y4e hb hgb ht) rfl
theorem Vs.mark{sB oB uB vB:Nat}{uv:Value}{w0:World}{sn:List Bool}(h:Vs base n sB oB uB vB sb uv w0 sn out W)(hsb:base<=sb)(p:Nat):Vs base n sB oB uB vB sb uv w0 (sn.set p true) out (W.setCell ⟨sb,p,none⟩ (.bool true)):=by
 have keep:∀{b:Nat} {y:Array Value} {u:TypeId},W.heap[b]? =some (.cells y u)->u≠4->(W.setCell ⟨sb,p,none⟩ (.bool true)).heap[b]? =some (.cells y u):=fun hb hu=>(Below.heap_setCell _ _ _ _ (fun e=>y4e hb h.sbl hu e)).trans hb
 obtain⟨v,hv,hr⟩:=h.obx;refine⟨keep h.sbx (by decide),?_,⟨v,keep hv (by decide),?_⟩,keep h.ubx (by decide),keep h.vbx (by decide),h.be.setCell (p:=⟨sb,p,none⟩) hsb _,by rw[List.length_set,h.len]⟩
 ·rw[Qy h.sbl]
  congr 2;apply Array.ext';simp[List.map_set]
 ·refine⟨hr.1,?_⟩
  rcases hr.2 with h1|⟨g,cap,cur,h1,h2,h3,h4⟩
  ·exact .inl h1
  ·exact .inr ⟨g,cap,cur,h1,h2,keep h3 (by decide),h4⟩
theorem Vs.app{sB oB uB vB:Nat}{uv:Value}{w0 w1:World}{sn:List Bool}(h:Vs base n sB oB uB vB sb uv w0 sn out W)(hw0:base<=w0.heap.size)(hoB:base<=oB){v':Value}{tmp:Obj}{x:Int}(hv:Boxed W oB 99 v)(hr:W.ownsRow base 3 1 v out.length (out.map (Value.int .i64)))
  (hown:w1.ownsRow base 3 1 v' (out.length+1) (out.map (Value.int .i64)++[.int .i64 x]))(hg:(W.alloc tmp).grownBy w1 v.ownBlock):Vs base n sB oB uB vB sb uv w0 sn (out++[x]) (w1.setCell ⟨oB,0,none⟩ v'):=by
 obtain⟨hv1,hv2,hr2,hko,hbe⟩:=Boxed.appended hv (by decide) hr (Nat.le_trans hw0 h.be.size) hoB hown hg;have keep:∀{b:Nat} {y:Array Value} {u:TypeId},W.heap[b]? =some (.cells y u)->u≠3->u≠99->(w1.setCell ⟨oB,0,none⟩ v').heap[b]? =some (.cells y u):=fun{b y u} hb hu hu2=>by
  have hne:=y5a hr hb hu;have hlt:=(Array.getElem?_eq_some_iff.1 hb).1;have h1:w1.heap[b]? =some (.cells y u):=(hg.block b (by rw[World.size_alloc];omega) hne).trans ((Below.heap_alloc _ _ _ hlt).trans hb);exact(Below.heap_setCell _ _ _ _ (fun e=>y4e h1 hv1 hu2 e)).trans h1
 exact⟨keep h.sbx (by decide) (by decide),keep h.sbl (by decide) (by decide),⟨v',hv2,by rw[List.length_append,List.map_append];exact hr2⟩,keep h.ubx (by decide) (by decide),keep h.vbx (by decide) (by decide),h.be.trans hbe,h.len⟩
theorem y5b(place n:Nat)(sB oB uB vB sb:Nat)(W:World)(h1:Boxed W sB 215 (.slice (some ⟨sb,0,none⟩) n n))(hc:W.cell? ⟨sb,place,none⟩=some (.bool true))(hp:place<n)(hn:n<=1048576):
  Calls prog 121 #[.int .i64 place,.pointer (some ⟨sB,0,none⟩),.pointer (some ⟨oB,0,none⟩),.pointer (some ⟨uB,0,none⟩),.pointer (some ⟨vB,0,none⟩)] W fun e w'=>e=.returned (.tuple #[])/\w'=W:=by
 have c1:=h1.cell;go_enter func121,ntmps121
 go_wp2_with fail
 refine bodyPost_ret (v:=.tuple #[]) (by simp[results,Tryz.results121]) rfl ?_;exact⟨rfl,rfl⟩
theorem y4v{sn:List Bool}(h:W.heap[sb]? =some (.cells (sn.map Value.bool).toArray 4)){p:Nat}{b:Bool}(hp:sn[p]? =some b):W.cell? ⟨sb,p,none⟩=some (.bool b)/\W.frozen? ⟨sb,p,none⟩=false:=Zj h p _ (by simp[hp])
theorem y4w(base n sB oB uB vB sb:Nat)(uv:Value)(us:List (List Int))(w0:World)(HU:Hid (UsM w0 base uv us))(HN:Hid (us.length=n))(HX:Hid (∀u∈us,∀x∈u,∃m:Nat,m<n/\x=(m:Int)))(hw0:base<=w0.heap.size)(hsb:base<=sb)(hoB:base<=oB)(hn:n<=1048576):
  ∀(N:Nat) (sn:List Bool) (out:List Int) (W:World) (place:Nat),unm sn<N->out.length+unm sn<=n->Vs base n sB oB uB vB sb uv w0 sn out W->place<n->
  Calls prog 121 #[.int .i64 place,.pointer (some ⟨sB,0,none⟩),.pointer (some ⟨oB,0,none⟩),.pointer (some ⟨uB,0,none⟩),.pointer (some ⟨vB,0,none⟩)] W fun e w'=>e=.returned (.tuple #[])/\∃sn' out',Vs base n sB oB uB vB sb uv w0 sn' out' w'/\Ty us (Rch us place) sn out sn' out'/\y3T us (fun _=>False) sn sn'/\sn'[place]? =some true/\out'.length+unm sn'<=n
 |0,sn,out,W,place,hN,_,_,_=>by omega
 |N+1,sn,out,W,place,hN,hO,hV,hp=>by
  have hpl:place<sn.length:=by rw[hV.len];exact hp
  cases hb:sn[place]with
  |true=>
   have hs:sn[place]? =some true:=by rw[List.getElem?_eq_getElem hpl,hb]
   refine(y5b place n sB oB uB vB sb W hV.sbx (y4v hV.sbl hs).1 hp hn).mono fun e w' he=> ?_
   rw[he.2];exact⟨he.1,sn,out,hV,Ty.refl _ _ _ _,y3T.refl _ _ _,hs,hO⟩
  |false=>
   have hs:sn[place]? =some false:=by rw[List.getElem?_eq_getElem hpl,hb]
   obtain⟨i0,hi0,hz0,hz1,hz2⟩:=info_parts Tryz.infoInt;have hV1:=hV.mark hsb place;have hum:=y4s sn place hs;obtain⟨v,hv,hrow⟩:=hV1.obx;obtain⟨x1,f1⟩:=y4v hV.sbl hs;have c1:=hV.sbx.cell;have c2:=hv.cell;have HV1:=hid hV1;have hol:out.length<1048576:=by omega
   have HS:=hid hs;have HO:Hid (out.length+unm sn<=n):=hO;have HM:Hid (unm (sn.set place true)<unm sn):=hum;have HNN:Hid (unm sn<N+1):=hN;have hbs:base<=(W.setCell ⟨sb,place,none⟩ (.bool true)).heap.size:=Nat.le_trans hw0 hV1.be.size;have HBS:Hid (base<=(W.setCell ⟨sb,place,none⟩ (.bool true)).heap.size):=hbs;obtain⟨uso,ucap,rfl,hul,hur⟩:=HU.out;have hpu:place<us.length:=by rw[HN.out];exact hp
   obtain⟨ug,uo,rv,rfl,hug,huc,rso,rcap,rfl,hrl,hrc⟩:=hur place hpu;have HRC:=hid hrc;have HUC:=hid huc;have hcn:∀j u,[Value.int .i64 place][j]? =some u->((W.setCell ⟨sb,place,none⟩ (.bool true)).alloc (.cells #[.int .i64 place] 3)).cell? ((⟨W.heap.size,0,none⟩:Addr).add j)=some u:=by
    have h:=cell_one_new (W.setCell ⟨sb,place,none⟩ (.bool true)) (.int .i64 place) 3;rw[show(W.setCell ⟨sb,place,none⟩ (.bool true)).heap.size=W.heap.size by simp]at h;exact h
   have HCN:=hid hcn;clear hV hV1 hb hs hO hum hN hur hul hrc huc hbs hcn;go_enter func121,ntmps121
   go_wp2_with(first
    |(at_builtin;refine wpList_append_own _ rfl _ _ 99 rfl base 3 i0 (.int .i64 0) 1 8 Tryz.underlying99 hi0 hz0 hz1 hz2 rfl (by decide) _ _ _ rfl (hrow.alloc _) ⟨W.heap.size,0,none⟩ 1 1 [.int .i64 place] rfl rfl HCN.out (by simp[Value.oneCell']) (by unfold maxLen;omega) (by omega) (by rw[World.size_alloc];have:=HBS.out;omega) ?_;intro v' w1 hown' hgrow _;obtain⟨g',cap',rfl⟩:=ownsRow_succ hown';have hV2:=HV1.out.app hw0 hoB hv hrow hown' hgrow;obtain⟨hv1,_⟩:=Boxed.appended hv (by decide) hrow HBS.out hoB hown' hgrow;have cv1:=hv1.cell;have fv1:=hv1.frozen;have cu:=hV2.ubx.cell;have cr:=(hV2.be.cell (p:=⟨ug,uo+place,none⟩) hug).trans HUC.out))
   obtain⟨W2,hW2⟩:∃W2,W2=w1.setCell ⟨oB,0,none⟩ (.slice (some ⟨g',0,none⟩) (out.length+1) cap'):=⟨_,rfl⟩;rw[<-hW2]at hV2 ⊢;obtain⟨u,hu⟩:∃u,u=us[place]:=⟨_,rfl⟩;rw[<-hu]at hrl ⊢;have HRC2:Hid (∀j (hj:j<u.length),∃g o,rso=some ⟨g,o,none⟩/\g<base/\w0.cell? ⟨g,o+j,none⟩=some (.int .i64 u[j])):=by subst hu;exact HRC.out
   have HUu:Hid (us.getD place []=u):=by
    show _=_;rw[hu,List.getD_eq_getElem?_getD,List.getElem?_eq_getElem hpu];rfl
   have HXu:Hid (∀x∈u,∃m:Nat,m<n/\x=(m:Int)):=fun x hx=>HX.out us[place] (List.getElem_mem hpu) x (by rw[<-hu];exact hx)
   obtain⟨k,hk⟩:∃k,k=u.length:=⟨_,rfl⟩;rw[<-hk]at hrl ⊢;have HKu:Hid (k=u.length):=hk;have HV2:=hid hV2;clear hW2 hu hk hV2 hown' hgrow hv hrow c1 c2 x1 f1 cv1 fv1 cu cr hv1 HRC HUC HCN
   go_loopw [24] (fun i wr=>∃j:Nat,i=.int .i64 j/\j<=k/\Hid (∃snj outj,Vs base n sB oB uB vB sb (.slice (some ⟨ug,uo,none⟩) us.length ucap) w0 snj outj wr/\Ty us (Rch us place) sn out snj outj/\y3T us (· =place) sn snj/\snj[place]? =some true/\outj.length+unm snj<=n/\∀i (hi:i<u.length),i<j->∃m:Nat,u[i]=(m:Int)/\snj[m]? =some true)) (fun i _=>k-(intOf i).toNat)
   case atStart=>
    refine⟨0,rfl,Nat.zero_le _,sn.set place true,out++[(place:Int)],HV2.out,Ty.mark us sn out place HS.out,y3T.mark us sn place,List.getElem?_set_self hpl,?_,fun i hi h0=>by omega⟩;have h1:=HO.out;have h2:=HM.out;rw[List.length_append];simp only[List.length_cons,List.length_nil];omega
   case round=>
    obtain⟨j,rfl,hj,HJ⟩:=hrel;by_cases hjn:j<k
    ·have hjI:(j:Int)<(k:Int):=by omega
     have a0:decide ((j:Int)<(k:Int))=true:=by simp;omega
     have hju:j<u.length:=by rw[<-HKu.out];exact hjn
     obtain⟨snj,outj,vj,pj,cj,mj,lj,aj⟩:=HJ.out;obtain⟨rg,ro,rfl,hrg,hrcell⟩:=HRC2.out j hju;have cr:=(vj.be.cell (p:=⟨rg,ro+j,none⟩) hrg).trans hrcell;have hgl:rg<wr.heap.size:=World.block_lt_of_cell? wr _ cr;obtain⟨nx,hnx,enx⟩:=HXu.out u[j] (List.getElem_mem hju);rw[enx]at cr;have cvs:=vj.vbx.cell;have hlt:unm snj<N:=by
      have h1:=y4t (sn.set place true) snj (by rw[List.length_set];exact pj.len) (fun i hi=>by
       by_cases e:place=i
       ·subst e;exact mj
       ·rw[List.getElem?_set_ne e]at hi;exact pj.mono i hi)
      have h2:=HM.out;have h3:=HNN.out;omega
     have HC:=hid (y4w base n sB oB uB vB sb _ us w0 HU HN HX hw0 hsb hoB hn N snj outj wr nx hlt lj vj hnx);have HP:=hid pj;have HCj:=hid cj;have HA:=hid aj;have HE:Hid (u[j]=(nx:Int)):=enx;clear vj pj cj aj hrcell enx hlt HJ
     go_wp2_with(first
      |(go_at_call 121;refine HC.out.mono ?_;clear HC;rintro e w5 ⟨rfl,sn5,out5,v5,p5,c5,m5,l5⟩))
     have hst:Rch us place nx:=Rch.refl.step (by rw[HUu.out,<-HE.out];exact List.getElem_mem hju);have p6:=p5.weak (Q:=Rch us place) (fun i hi=>hst.trans hi);refine⟨⟨j+1,by go_num,by omega,sn5,out5,v5,HP.out.trans p6,y3T.trans HP.out p6 HCj.out (c5.weak (fun i h=>h.elim)),p5.mono _ mj,l5,fun i hi hij=> ?_⟩,by simp[intOf];omega⟩;by_cases e:i=j
     ·subst e
      exact⟨nx,HE.out,m5⟩
     ·obtain⟨m,h1,h2⟩:=HA.out i hi (by omega)
      exact⟨m,h1,p5.mono m h2⟩
    ·have a0:decide ((j:Int)<(k:Int))=false:=by simp;omega
     go_wp2_with fail
     go_end0
     obtain⟨snj,outj,vj,pj,cj,mj,lj,aj⟩:=HJ.out;refine⟨rfl,snj,outj,vj,pj,fun i h1 h2 _ x hx=> ?_,mj,lj⟩;by_cases e:i=place
     ·subst e
      rw[HUu.out]at hx;obtain⟨q,hq,rfl⟩:=List.getElem_of_mem hx;exact aj q hq (by have:=HKu.out;omega)
     ·exact cj i h1 h2 e x hx
end Go.Proofs.YtjodljnddflgfaaGreatDoor
