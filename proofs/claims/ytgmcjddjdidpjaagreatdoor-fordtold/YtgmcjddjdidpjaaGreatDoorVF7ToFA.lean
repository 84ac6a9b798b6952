/- Lemmas for the last text. Conditions: those that each names. -/
import Derived.Test.YtgmcjddjdidpjaaGreatDoorVF4ToF6
import Derived.Test.YtgmcjddjdidpjaaGreatDoorVT15ToT16
set_option linter.unusedVariables false
set_option maxRecDepth 100000
set_option maxHeartbeats 16000000
namespace Go.Proofs.YtgmcjddjdidpjaaGreatDoor
open Go.Proofs.Tryz
open Go.RowKit Go.Shelf Go.Maps
variable {a b c d:Int}
theorem Fit.len{l:List ByteArray}{k p:Int}{T:ByteArray}{s:List RT}(h:Fit l (.mk k T a b c d s p)):s.length<=8192:=by
 obtain⟨hok,hz,⟨nd,hq,hv,hw,hs,hd⟩,hr⟩:=h;obtain⟨kd,T',C,s',p'⟩:=nd;rw[Tq]at hq;obtain⟨_,_,_,_,_,_,hl⟩:=hq;rw[Vk]at hv;have hlen:s'.length=s.length:=hl.length';rw[<-hlen];rw[pN]at hs;rcases hv.1 with⟨rfl,_,_,rfl⟩|⟨rfl,_,rfl⟩|⟨rfl,_,rfl⟩|⟨rfl,_,_,rfl⟩|⟨rfl,_,rfl⟩|⟨h67,_,_,h2⟩|⟨h8,h12,_,_,h1⟩
 ·simp
 ·simp
 ·simp
 ·simp
 ·simp
 ·rcases h67 with rfl|rfl
  ·simp only[Nat.reduceEqDiff,if_false,if_true]at hs
   have:=Aw 6 bSp (by decide) s';omega
  ·simp only[Nat.reduceEqDiff,if_false,if_true]at hs
   have:=Aw 7 bSl (by decide) s';omega
 ·omega
theorem z6C(rs:List Rr)(K:ByteArray->Ot)(so0:Option Addr)(n0 cap0:Nat)(B0:Nat)(hok:okG rs=true)(hck:ckR rs=none)(hz:RgZ rs):∀(N:Nat) (k:Int) (T:ByteArray) (a b c d:Int) (s:List RT) (p:Int) (so:Option Addr) (cap B:Nat) (w:World),SizeOf.sizeOf s<N->Fit (nmL rs) (.mk k T a b c d s p)->(s.isEmpty=true∨(s.isEmpty=false/\∃g o,so=some ⟨g,o,none⟩/\g<B/\Qw s<=maxLen/\Zq w B g o s))->B<=w.heap.size->Qg w B0 so0 n0 (bG rs K)->B0<=w.heap.size->TabIs w->3<w.heap.size->
  Calls prog 60 #[.agg #[.slice so0 n0 cap0],.agg #[.int .i64 k,.string T,.int .u64 a,.int .u64 b,.int .u64 c,.int .u64 d,.slice so (Qw s) cap,.int .i64 p]] w (MmA K (.mk k T a b c d s p) w)
 |0,_,_,_,_,_,_,s,_,_,_,_,_,h,_,_,_,_,_,_,_=>by omega
 |N+1,k,T,a,b,c,d,s,p,so,cap,B,w,hN,hf,ht,hB,hg0,hB0,hT,hTl=>by
  have hlen:=hf.len;have parts:∀j (hj:j<s.length),∃g o,so=some ⟨g,o,none⟩/\g<w.heap.size/\∃k1 T1 a1 b1 c1 d1 so1 n1 cap1 p1,Rc w g (o+j*8) k1 T1 a1 b1 c1 d1 (.slice so1 n1 cap1) p1/\Qv w B s[j] (r8 k1 T1 a1 b1 c1 d1 so1 n1 cap1 p1):=fun j hj=>by
   rcases ht with h1|⟨h1,g,o,rfl,hg,hm,hs⟩
   ·have hs0:s=[]:=by simpa using h1
    subst hs0;simp at hj
   ·obtain⟨k1,T1,a1,b1,c1,d1,so1,n1,cap1,p1,r1,r2⟩:=Cf hs j hj
    exact⟨g,o,rfl,by omega,k1,T1,a1,b1,c1,d1,so1,n1,cap1,p1,r2,r1⟩
  refine y6w K so0 n0 cap0 k T a b c d p so (Qw s) cap s w (hid (Zh s)) (by rw[Zh];omega) (hid fun _ W hW=> ?_) (hid fun j hj=> ?_)
  ·refine y6t K so0 n0 cap0 so (Qw s) cap s W (by rw[Zh];omega) (hid (Zh s)) (hid fun j hj=> ?_)
   obtain⟨g,o,e,hg,k1,T1,a1,b1,c1,d1,so1,n1,cap1,p1,r2,r1⟩:=parts j hj;refine⟨g,o,e,Nat.lt_of_lt_of_le hg hW.size,k1,T1,a1,b1,c1,d1,so1,n1,cap1,p1,r2.below hW hg,fun W' hW'=> ?_⟩;have hW2:=hW.trans (hW'.mono hW.size);exact z0J so0 n0 cap0 rs K k1 T1 a1 b1 c1 d1 p1 so1 n1 cap1 s[j] B0 B W' (hg0.below (hW2.mono hB0)) (Nat.le_trans hB0 hW2.size) hok hck hz (hT.below hW2 hTl) (r1.below (hW2.mono hB)) (Nat.le_trans hB hW2.size) (hf.sub j hj)
  ·obtain⟨g,o,e,hg,k1,T1,a1,b1,c1,d1,so1,n1,cap1,p1,r2,r1⟩:=parts j hj
   have hsj:=hf.sub j hj;have hsz:=List.sizeOf_lt_of_mem (List.getElem_mem hj);refine⟨g,o,e,hg,k1,T1,a1,b1,c1,d1,so1,n1,cap1,p1,r2,fun W hb=> ?_⟩;obtain⟨t,ht'⟩:∃t,t=s[j]:=⟨_,rfl⟩;rw[<-ht']at r1 hsj hsz ⊢;obtain⟨k',T',a',b',c',d',s1,p'⟩:=t;rw[Qv]at r1;obtain⟨so',cap',e,hr⟩:=r1;simp only[List.cons.injEq,Value.int.injEq,Value.string.injEq,Value.slice.injEq,true_and,and_true]at e;obtain⟨rfl,rfl,rfl,rfl,rfl,rfl,⟨rfl,rfl,rfl⟩,rfl⟩:=e;simp only[RT.mk.sizeOf_spec]at hsz;refine z6C rs K so0 n0 cap0 B0 hok hck hz N _ _ _ _ _ _ s1 _ _ _ B W (by omega) hsj ?_ (Nat.le_trans hB hb.size) (hg0.below (hb.mono hB0)) (Nat.le_trans hB0 hb.size) (hT.below hb hTl) (Nat.lt_of_lt_of_le hTl hb.size);rcases hr with h2|⟨h2,g1,o1,h3,h4,h5,h6⟩
   ·exact .inl h2
   ·exact .inr ⟨h2,g1,o1,h3,h4,h5,h6.below h4 (hb.mono hB)⟩
theorem y6x(rs:List Rr)(K:ByteArray->Ot)(so0:Option Addr)(n0 cap0:Nat)(B0 B:Nat)(t:RT)(k:Int)(T:ByteArray)(a b c d p:Int)(so:Option Addr)(n cap:Nat)(w:World)(hok:okG rs=true)(hck:ckR rs=none)(hz:RgZ rs)(hf:Fit (nmL rs) t)(ht:Qv w B t (r8 k T a b c d so n cap p))(hB:B<=w.heap.size)(hg0:Qg w B0 so0 n0 (bG rs K))(hB0:B0<=w.heap.size)(hT:TabIs w):
  Calls prog 60 #[.agg #[.slice so0 n0 cap0],.agg #[.int .i64 k,.string T,.int .u64 a,.int .u64 b,.int .u64 c,.int .u64 d,.slice so n cap,.int .i64 p]] w (MmA K t w):=by
 obtain⟨k',T',a',b',c',d',s1,p'⟩:=t;rw[Qv]at ht;obtain⟨so',cap',e,hr⟩:=ht;simp only[List.cons.injEq,Value.int.injEq,Value.string.injEq,Value.slice.injEq,true_and,and_true]at e;obtain⟨rfl,rfl,rfl,rfl,rfl,rfl,⟨rfl,rfl,rfl⟩,rfl⟩:=e;exact z6C rs K so0 n0 cap0 B0 hok hck hz _ _ _ _ _ _ _ s1 _ _ _ B w (Nat.lt_succ_self _) hf hr hB hg0 hB0 hT hT.lt
def Mc(w:World)(g o:Nat)(k:Int)(T:ByteArray)(a b c d:Int)(so:Option Addr)(n cap:Nat)(p:Int)(po:Option Addr)(pn pc:Nat)(l:Int):Prop:=w.cell? ⟨g,o,none⟩=some (.int .i64 k)/\w.cell? ⟨g,o+1,none⟩=some (.string T)/\w.cell? ⟨g,o+2,none⟩=some (.int .u64 a)/\w.cell? ⟨g,o+3,none⟩=some (.int .u64 b)/\w.cell? ⟨g,o+4,none⟩=some (.int .u64 c)/\w.cell? ⟨g,o+5,none⟩=some (.int .u64 d)/\w.cell? ⟨g,o+6,none⟩=some (.slice so n cap)/\w.cell? ⟨g,o+7,none⟩=some (.int .i64 p)/\w.cell? ⟨g,o+8,none⟩=some (.slice po pn pc)/\w.cell? ⟨g,o+9,none⟩=some (.int .i64 l)
theorem Mc.below{w w':World}{B g o:Nat}{k:Int}{T:ByteArray}{so:Option Addr}{n cap:Nat}{p:Int}{po:Option Addr}{pn pc:Nat}{l:Int}(h:Mc w g o k T a b c d so n cap p po pn pc l)(hb:Below B w w')(hg:g<B):Mc w' g o k T a b c d so n cap p po pn pc l:=by
 obtain⟨h0,h1,h2,h3,h4,h5,h6,h7,h8,h9⟩:=h;have e:∀(j:Nat) (u:Value),w.cell? ⟨g,j,none⟩=some u->w'.cell? ⟨g,j,none⟩=some u:=fun j u h=>(hb.cell (p:=⟨g,j,none⟩) hg).trans h
 exact⟨e _ _ h0,e _ _ h1,e _ _ h2,e _ _ h3,e _ _ h4,e _ _ h5,e _ _ h6,e _ _ h7,e _ _ h8,e _ _ h9⟩
theorem y6y(h:(0<=a/\a<18446744073709551616)/\(0<=b/\b<18446744073709551616)/\(0<=c/\c<18446744073709551616)/\(0<=d/\d<18446744073709551616)):((wd (cl4 a b c d) 0:Nat):Int)=a/\((wd (cl4 a b c d) 1:Nat):Int)=b/\((wd (cl4 a b c d) 2:Nat):Int)=c/\((wd (cl4 a b c d) 3:Nat):Int)=d:=by
 obtain⟨h0,h1,h2,h3⟩:=Pv a.toNat b.toNat c.toNat d.toNat (by omega) (by omega) (by omega) (by omega);unfold cl4;rw[h0,h1,h2,h3];exact⟨by omega,by omega,by omega,by omega⟩
theorem y6z(m:Option Nat)(C:Nat×Bool)(T:ByteArray)(a b c d:Int)(so:Option Addr)(n cap:Nat)(p:Int)(po:Option Addr)(pn pc:Nat)(l:Int)(w:World)
  (HQ:Hid (∀W:World,Below w.heap.size w W->Calls prog 92 #[] W fun e w'=>e=.returned (av C)/\Below W.heap.size W w')):
  Calls prog 62 #[.map m,.agg #[.int .i64 1,.string T,.int .u64 a,.int .u64 b,.int .u64 c,.int .u64 d,.slice so n cap,.int .i64 p,.slice po pn pc,.int .i64 l]] w fun e w'=>e=.returned (av C)/\Below w.heap.size w w':=by
 obtain⟨W1,hW1⟩:∃W1,W1=(w.alloc (.cells #[.int .i64 1,.string T,.int .u64 a,.int .u64 b,.int .u64 c,.int .u64 d,.slice so n cap,.int .i64 p,.slice po pn pc,.int .i64 l] 137)).alloc (.cells #[.int .u64 0,.int .u64 0,.int .u64 0,.int .u64 0,.bool false] 53):=⟨_,rfl⟩;have hB1:Below w.heap.size w W1:=by rw[hW1];exact((Below.refl _ w).alloc L0q _).alloc (by simp) _
 have HR1:Hid (W1.heap[w.heap.size+1]? =some (.cells #[.int .u64 0,.int .u64 0,.int .u64 0,.int .u64 0,.bool false] 53)):=by rw[hW1];exact Qq _ _ (by simp)
 have HB1:=hid hB1;have HS:=hid (HQ.out W1 hB1);have HW1:=hid hW1;clear hW1 hB1 HQ;go_enter func62,ntmps62
 go_wp2_with(first
  |(go_at_call 92;rw[<-HW1.out];refine HS.out.mono ?_;rintro e w4 ⟨rfl,hb4⟩;have hr4:=(hb4.block _ (Qz HR1.out)).trans HR1.out;obtain⟨⟨u0,u1,u2,u3,u4⟩,f0,f1,f2,f3,f4⟩:=Qh hr4;have lr:=Qz hr4;have HR4:=hid hr4;have HB4:=hid (HB1.out.trans (hb4.mono HB1.out.size));clear hr4 hb4 HS HB1 HR1;try dsimp only[cv,av]))
 have hP:=Yk (v0:=.int .u64 (wd C.1 0:Nat)) (v1:=.int .u64 (wd C.1 1:Nat)) (v2:=.int .u64 (wd C.1 2:Nat)) (v3:=.int .u64 (wd C.1 3:Nat)) (v4:=.bool C.2) HR4.out;obtain⟨⟨r0,r1,r2,r3,r4⟩,_⟩:=Qh hP;unfold st5 at r0 r1 r2 r3 r4;refine bodyPost_ret (v:=av C) (by simp[results,Tryz.results62,go_sem,r0,r1,r2,r3,r4]) rfl ?_;exact⟨rfl,HB4.out.grown (Xp _ (w.heap.size+1) _ _ _ _ _) HB4.out.size (fun g e=>by have:=Option.some.inj e;omega)⟩
theorem y6A(m:Option Nat)(C:Nat×Bool)(T:ByteArray)(a b c d:Int)(so:Option Addr)(n cap:Nat)(p:Int)(po:Option Addr)(pn pc:Nat)(l:Int)(w:World)
  (HQ:Hid (∀W:World,Below w.heap.size w W->Calls prog 92 #[] W fun e w'=>e=.returned (av C)/\Below W.heap.size W w')):
  Calls prog 62 #[.map m,.agg #[.int .i64 8,.string T,.int .u64 a,.int .u64 b,.int .u64 c,.int .u64 d,.slice so n cap,.int .i64 p,.slice po pn pc,.int .i64 l]] w fun e w'=>e=.returned (av C)/\Below w.heap.size w w':=by
 obtain⟨W1,hW1⟩:∃W1,W1=(w.alloc (.cells #[.int .i64 8,.string T,.int .u64 a,.int .u64 b,.int .u64 c,.int .u64 d,.slice so n cap,.int .i64 p,.slice po pn pc,.int .i64 l] 137)).alloc (.cells #[.int .u64 0,.int .u64 0,.int .u64 0,.int .u64 0,.bool false] 53):=⟨_,rfl⟩;have hB1:Below w.heap.size w W1:=by rw[hW1];exact((Below.refl _ w).alloc L0q _).alloc (by simp) _
 have HR1:Hid (W1.heap[w.heap.size+1]? =some (.cells #[.int .u64 0,.int .u64 0,.int .u64 0,.int .u64 0,.bool false] 53)):=by rw[hW1];exact Qq _ _ (by simp)
 have HB1:=hid hB1;have HS:=hid (HQ.out W1 hB1);have HW1:=hid hW1;clear hW1 hB1 HQ;go_enter func62,ntmps62
 go_wp2_with(first
  |(go_at_call 92;rw[<-HW1.out];refine HS.out.mono ?_;rintro e w4 ⟨rfl,hb4⟩;have hr4:=(hb4.block _ (Qz HR1.out)).trans HR1.out;obtain⟨⟨u0,u1,u2,u3,u4⟩,f0,f1,f2,f3,f4⟩:=Qh hr4;have lr:=Qz hr4;have HR4:=hid hr4;have HB4:=hid (HB1.out.trans (hb4.mono HB1.out.size));clear hr4 hb4 HS HB1 HR1;try dsimp only[cv,av]))
 have hP:=Yk (v0:=.int .u64 (wd C.1 0:Nat)) (v1:=.int .u64 (wd C.1 1:Nat)) (v2:=.int .u64 (wd C.1 2:Nat)) (v3:=.int .u64 (wd C.1 3:Nat)) (v4:=.bool C.2) HR4.out;obtain⟨⟨r0,r1,r2,r3,r4⟩,_⟩:=Qh hP;unfold st5 at r0 r1 r2 r3 r4;refine bodyPost_ret (v:=av C) (by simp[results,Tryz.results62,go_sem,r0,r1,r2,r3,r4]) rfl ?_;exact⟨rfl,HB4.out.grown (Xp _ (w.heap.size+1) _ _ _ _ _) HB4.out.size (fun g e=>by have:=Option.some.inj e;omega)⟩
theorem y6B(m:Option Nat)(C:Nat×Bool)(T:ByteArray)(a b c d:Int)(so:Option Addr)(n cap:Nat)(p:Int)(po:Option Addr)(pn pc:Nat)(l:Int)(w:World)
  (HQ:Hid (∀W:World,Below w.heap.size w W->Calls prog 92 #[] W fun e w'=>e=.returned (av C)/\Below W.heap.size W w')):
  Calls prog 62 #[.map m,.agg #[.int .i64 9,.string T,.int .u64 a,.int .u64 b,.int .u64 c,.int .u64 d,.slice so n cap,.int .i64 p,.slice po pn pc,.int .i64 l]] w fun e w'=>e=.returned (av C)/\Below w.heap.size w w':=by
 obtain⟨W1,hW1⟩:∃W1,W1=(w.alloc (.cells #[.int .i64 9,.string T,.int .u64 a,.int .u64 b,.int .u64 c,.int .u64 d,.slice so n cap,.int .i64 p,.slice po pn pc,.int .i64 l] 137)).alloc (.cells #[.int .u64 0,.int .u64 0,.int .u64 0,.int .u64 0,.bool false] 53):=⟨_,rfl⟩;have hB1:Below w.heap.size w W1:=by rw[hW1];exact((Below.refl _ w).alloc L0q _).alloc (by simp) _
 have HR1:Hid (W1.heap[w.heap.size+1]? =some (.cells #[.int .u64 0,.int .u64 0,.int .u64 0,.int .u64 0,.bool false] 53)):=by rw[hW1];exact Qq _ _ (by simp)
 have HB1:=hid hB1;have HS:=hid (HQ.out W1 hB1);have HW1:=hid hW1;clear hW1 hB1 HQ;go_enter func62,ntmps62
 go_wp2_with(first
  |(go_at_call 92;rw[<-HW1.out];refine HS.out.mono ?_;rintro e w4 ⟨rfl,hb4⟩;have hr4:=(hb4.block _ (Qz HR1.out)).trans HR1.out;obtain⟨⟨u0,u1,u2,u3,u4⟩,f0,f1,f2,f3,f4⟩:=Qh hr4;have lr:=Qz hr4;have HR4:=hid hr4;have HB4:=hid (HB1.out.trans (hb4.mono HB1.out.size));clear hr4 hb4 HS HB1 HR1;try dsimp only[cv,av]))
 have hP:=Yk (v0:=.int .u64 (wd C.1 0:Nat)) (v1:=.int .u64 (wd C.1 1:Nat)) (v2:=.int .u64 (wd C.1 2:Nat)) (v3:=.int .u64 (wd C.1 3:Nat)) (v4:=.bool C.2) HR4.out;obtain⟨⟨r0,r1,r2,r3,r4⟩,_⟩:=Qh hP;unfold st5 at r0 r1 r2 r3 r4;refine bodyPost_ret (v:=av C) (by simp[results,Tryz.results62,go_sem,r0,r1,r2,r3,r4]) rfl ?_;exact⟨rfl,HB4.out.grown (Xp _ (w.heap.size+1) _ _ _ _ _) HB4.out.size (fun g e=>by have:=Option.some.inj e;omega)⟩
theorem y6C(m:Option Nat)(C:Nat×Bool)(T:ByteArray)(a b c d:Int)(so:Option Addr)(n cap:Nat)(p:Int)(po:Option Addr)(pn pc:Nat)(l:Int)(w:World)(hT:T.toList.isEmpty=true)
  (HQ:Hid (∀W:World,Below w.heap.size w W->Calls prog 92 #[] W fun e w'=>e=.returned (av C)/\Below W.heap.size W w')):
  Calls prog 62 #[.map m,.agg #[.int .i64 2,.string T,.int .u64 a,.int .u64 b,.int .u64 c,.int .u64 d,.slice so n cap,.int .i64 p,.slice po pn pc,.int .i64 l]] w fun e w'=>e=.returned (av C)/\Below w.heap.size w w':=by
 obtain⟨W1,hW1⟩:∃W1,W1=(w.alloc (.cells #[.int .i64 2,.string T,.int .u64 a,.int .u64 b,.int .u64 c,.int .u64 d,.slice so n cap,.int .i64 p,.slice po pn pc,.int .i64 l] 137)).alloc (.cells #[.int .u64 0,.int .u64 0,.int .u64 0,.int .u64 0,.bool false] 53):=⟨_,rfl⟩;have hB1:Below w.heap.size w W1:=by rw[hW1];exact((Below.refl _ w).alloc L0q _).alloc (by simp) _
 have HR1:Hid (W1.heap[w.heap.size+1]? =some (.cells #[.int .u64 0,.int .u64 0,.int .u64 0,.int .u64 0,.bool false] 53)):=by rw[hW1];exact Qq _ _ (by simp)
 have HB1:=hid hB1;have HS:=hid (HQ.out W1 hB1);have HW1:=hid hW1;clear hW1 hB1 HQ;go_enter func62,ntmps62
 go_wp2_with(first
  |(go_at_call 92;rw[<-HW1.out];refine HS.out.mono ?_;rintro e w4 ⟨rfl,hb4⟩;have hr4:=(hb4.block _ (Qz HR1.out)).trans HR1.out;obtain⟨⟨u0,u1,u2,u3,u4⟩,f0,f1,f2,f3,f4⟩:=Qh hr4;have lr:=Qz hr4;have HR4:=hid hr4;have HB4:=hid (HB1.out.trans (hb4.mono HB1.out.size));clear hr4 hb4 HS HB1 HR1;try dsimp only[cv,av]))
 have hP:=Yk (v0:=.int .u64 (wd C.1 0:Nat)) (v1:=.int .u64 (wd C.1 1:Nat)) (v2:=.int .u64 (wd C.1 2:Nat)) (v3:=.int .u64 (wd C.1 3:Nat)) (v4:=.bool C.2) HR4.out;obtain⟨⟨r0,r1,r2,r3,r4⟩,_⟩:=Qh hP;unfold st5 at r0 r1 r2 r3 r4;refine bodyPost_ret (v:=av C) (by simp[results,Tryz.results62,go_sem,r0,r1,r2,r3,r4]) rfl ?_;exact⟨rfl,HB4.out.grown (Xp _ (w.heap.size+1) _ _ _ _ _) HB4.out.size (fun g e=>by have:=Option.some.inj e;omega)⟩
theorem y6D(m:Option Nat)(C x:Nat)(T:ByteArray)(a b c d:Int)(so:Option Addr)(n cap:Nat)(p:Int)(po:Option Addr)(pn pc:Nat)(l:Int)(w:World)(hT:T.toList.isEmpty=false)(hk:0<T.size)(hx:(T[0]).toNat=x)
  (HQ:Hid (∀W:World,Below w.heap.size w W->Calls prog 91 #[.int .u8 x] W fun e w'=>e=.returned (cv C)/\Below W.heap.size W w')):
  Calls prog 62 #[.map m,.agg #[.int .i64 2,.string T,.int .u64 a,.int .u64 b,.int .u64 c,.int .u64 d,.slice so n cap,.int .i64 p,.slice po pn pc,.int .i64 l]] w fun e w'=>e=.returned (av (C,false))/\Below w.heap.size w w':=by
 obtain⟨W1,hW1⟩:∃W1,W1=(w.alloc (.cells #[.int .i64 2,.string T,.int .u64 a,.int .u64 b,.int .u64 c,.int .u64 d,.slice so n cap,.int .i64 p,.slice po pn pc,.int .i64 l] 137)).alloc (.cells #[.int .u64 0,.int .u64 0,.int .u64 0,.int .u64 0,.bool false] 53):=⟨_,rfl⟩;have hB1:Below w.heap.size w W1:=by rw[hW1];exact((Below.refl _ w).alloc L0q _).alloc (by simp) _
 have HR1:Hid (W1.heap[w.heap.size+1]? =some (.cells #[.int .u64 0,.int .u64 0,.int .u64 0,.int .u64 0,.bool false] 53)):=by rw[hW1];exact Qq _ _ (by simp)
 have HB1:=hid hB1;have HS:=hid (HQ.out W1 hB1);have HW1:=hid hW1;clear hW1 hB1 HQ;go_enter func62,ntmps62
 go_wp2_with(first
  |(go_at_call 91;rw[<-HW1.out];refine HS.out.mono ?_;rintro e w4 ⟨rfl,hb4⟩;have hr4:=(hb4.block _ (Qz HR1.out)).trans HR1.out;obtain⟨⟨u0,u1,u2,u3,u4⟩,f0,f1,f2,f3,f4⟩:=Qh hr4;have lr:=Qz hr4;have HR4:=hid hr4;have HB4:=hid (HB1.out.trans (hb4.mono HB1.out.size));clear hr4 hb4 HS HB1 HR1;try dsimp only[cv,av]))
 have hP:=Yk (v0:=.int .u64 (wd (C,false).1 0:Nat)) (v1:=.int .u64 (wd (C,false).1 1:Nat)) (v2:=.int .u64 (wd (C,false).1 2:Nat)) (v3:=.int .u64 (wd (C,false).1 3:Nat)) (v4:=.bool (C,false).2) HR4.out;obtain⟨⟨r0,r1,r2,r3,r4⟩,_⟩:=Qh hP;unfold st5 at r0 r1 r2 r3 r4;refine bodyPost_ret (v:=av (C,false)) (by simp[results,Tryz.results62,go_sem,r0,r1,r2,r3,r4]) rfl ?_;exact⟨rfl,HB4.out.grown (Xp _ (w.heap.size+1) _ _ _ _ _) HB4.out.size (fun g e=>by have:=Option.some.inj e;omega)⟩
theorem y6E(m:Option Nat)(C:Nat)(T:ByteArray)(a b c d:Int)(so:Option Addr)(n cap:Nat)(p:Int)(po:Option Addr)(pn pc:Nat)(l:Int)(w:World)
  (HQ:Hid (∀W:World,Below w.heap.size w W->Calls prog 93 #[] W fun e w'=>e=.returned (cv C)/\Below W.heap.size W w')):
  Calls prog 62 #[.map m,.agg #[.int .i64 4,.string T,.int .u64 a,.int .u64 b,.int .u64 c,.int .u64 d,.slice so n cap,.int .i64 p,.slice po pn pc,.int .i64 l]] w fun e w'=>e=.returned (av (C,false))/\Below w.heap.size w w':=by
 obtain⟨W1,hW1⟩:∃W1,W1=(w.alloc (.cells #[.int .i64 4,.string T,.int .u64 a,.int .u64 b,.int .u64 c,.int .u64 d,.slice so n cap,.int .i64 p,.slice po pn pc,.int .i64 l] 137)).alloc (.cells #[.int .u64 0,.int .u64 0,.int .u64 0,.int .u64 0,.bool false] 53):=⟨_,rfl⟩;have hB1:Below w.heap.size w W1:=by rw[hW1];exact((Below.refl _ w).alloc L0q _).alloc (by simp) _
 have HR1:Hid (W1.heap[w.heap.size+1]? =some (.cells #[.int .u64 0,.int .u64 0,.int .u64 0,.int .u64 0,.bool false] 53)):=by rw[hW1];exact Qq _ _ (by simp)
 have HB1:=hid hB1;have HS:=hid (HQ.out W1 hB1);have HW1:=hid hW1;clear hW1 hB1 HQ;go_enter func62,ntmps62
 go_wp2_with(first
  |(go_at_call 93;rw[<-HW1.out];refine HS.out.mono ?_;rintro e w4 ⟨rfl,hb4⟩;have hr4:=(hb4.block _ (Qz HR1.out)).trans HR1.out;obtain⟨⟨u0,u1,u2,u3,u4⟩,f0,f1,f2,f3,f4⟩:=Qh hr4;have lr:=Qz hr4;have HR4:=hid hr4;have HB4:=hid (HB1.out.trans (hb4.mono HB1.out.size));clear hr4 hb4 HS HB1 HR1;try dsimp only[cv,av]))
 have hP:=Yk (v0:=.int .u64 (wd (C,false).1 0:Nat)) (v1:=.int .u64 (wd (C,false).1 1:Nat)) (v2:=.int .u64 (wd (C,false).1 2:Nat)) (v3:=.int .u64 (wd (C,false).1 3:Nat)) (v4:=.bool (C,false).2) HR4.out;obtain⟨⟨r0,r1,r2,r3,r4⟩,_⟩:=Qh hP;unfold st5 at r0 r1 r2 r3 r4;refine bodyPost_ret (v:=av (C,false)) (by simp[results,Tryz.results62,go_sem,r0,r1,r2,r3,r4]) rfl ?_;exact⟨rfl,HB4.out.grown (Xp _ (w.heap.size+1) _ _ _ _ _) HB4.out.size (fun g e=>by have:=Option.some.inj e;omega)⟩
theorem y6F(m:Option Nat)(C:Nat×Bool)(T:ByteArray)(a b c d:Int)(so:Option Addr)(n cap:Nat)(p:Int)(po:Option Addr)(pn pc:Nat)(l:Int)(w:World)
  (HQ:Hid (∀W:World,Below w.heap.size w W->Calls prog 94 #[.map m,.agg #[.int .i64 6,.string T,.int .u64 a,.int .u64 b,.int .u64 c,.int .u64 d,.slice so n cap,.int .i64 p,.slice po pn pc,.int .i64 l]] W fun e w'=>e=.returned (av C)/\Below W.heap.size W w')):
  Calls prog 62 #[.map m,.agg #[.int .i64 6,.string T,.int .u64 a,.int .u64 b,.int .u64 c,.int .u64 d,.slice so n cap,.int .i64 p,.slice po pn pc,.int .i64 l]] w fun e w'=>e=.returned (av C)/\Below w.heap.size w w':=by
 obtain⟨W1,hW1⟩:∃W1,W1=(w.alloc (.cells #[.int .i64 6,.string T,.int .u64 a,.int .u64 b,.int .u64 c,.int .u64 d,.slice so n cap,.int .i64 p,.slice po pn pc,.int .i64 l] 137)).alloc (.cells #[.int .u64 0,.int .u64 0,.int .u64 0,.int .u64 0,.bool false] 53):=⟨_,rfl⟩;have hB1:Below w.heap.size w W1:=by rw[hW1];exact((Below.refl _ w).alloc L0q _).alloc (by simp) _
 have HR1:Hid (W1.heap[w.heap.size+1]? =some (.cells #[.int .u64 0,.int .u64 0,.int .u64 0,.int .u64 0,.bool false] 53)):=by rw[hW1];exact Qq _ _ (by simp)
 have HB1:=hid hB1;have HS:=hid (HQ.out W1 hB1);have HW1:=hid hW1;clear hW1 hB1 HQ;go_enter func62,ntmps62
 go_wp2_with(first
  |(go_at_call 94;rw[<-HW1.out];refine HS.out.mono ?_;rintro e w4 ⟨rfl,hb4⟩;have hr4:=(hb4.block _ (Qz HR1.out)).trans HR1.out;obtain⟨⟨u0,u1,u2,u3,u4⟩,f0,f1,f2,f3,f4⟩:=Qh hr4;have lr:=Qz hr4;have HR4:=hid hr4;have HB4:=hid (HB1.out.trans (hb4.mono HB1.out.size));clear hr4 hb4 HS HB1 HR1;try dsimp only[cv,av]))
 have hP:=Yk (v0:=.int .u64 (wd C.1 0:Nat)) (v1:=.int .u64 (wd C.1 1:Nat)) (v2:=.int .u64 (wd C.1 2:Nat)) (v3:=.int .u64 (wd C.1 3:Nat)) (v4:=.bool C.2) HR4.out;obtain⟨⟨r0,r1,r2,r3,r4⟩,_⟩:=Qh hP;unfold st5 at r0 r1 r2 r3 r4;refine bodyPost_ret (v:=av C) (by simp[results,Tryz.results62,go_sem,r0,r1,r2,r3,r4]) rfl ?_;exact⟨rfl,HB4.out.grown (Xp _ (w.heap.size+1) _ _ _ _ _) HB4.out.size (fun g e=>by have:=Option.some.inj e;omega)⟩
theorem y6G(m:Option Nat)(C:Nat×Bool)(T:ByteArray)(a b c d:Int)(so:Option Addr)(n cap:Nat)(p:Int)(po:Option Addr)(pn pc:Nat)(l:Int)(w:World)
  (HQ:Hid (∀W:World,Below w.heap.size w W->Calls prog 95 #[.map m,.slice po pn pc] W fun e w'=>e=.returned (av C)/\Below W.heap.size W w')):
  Calls prog 62 #[.map m,.agg #[.int .i64 7,.string T,.int .u64 a,.int .u64 b,.int .u64 c,.int .u64 d,.slice so n cap,.int .i64 p,.slice po pn pc,.int .i64 l]] w fun e w'=>e=.returned (av C)/\Below w.heap.size w w':=by
 obtain⟨W1,hW1⟩:∃W1,W1=(w.alloc (.cells #[.int .i64 7,.string T,.int .u64 a,.int .u64 b,.int .u64 c,.int .u64 d,.slice so n cap,.int .i64 p,.slice po pn pc,.int .i64 l] 137)).alloc (.cells #[.int .u64 0,.int .u64 0,.int .u64 0,.int .u64 0,.bool false] 53):=⟨_,rfl⟩;have hB1:Below w.heap.size w W1:=by rw[hW1];exact((Below.refl _ w).alloc L0q _).alloc (by simp) _
 have HR1:Hid (W1.heap[w.heap.size+1]? =some (.cells #[.int .u64 0,.int .u64 0,.int .u64 0,.int .u64 0,.bool false] 53)):=by rw[hW1];exact Qq _ _ (by simp)
 have HB1:=hid hB1;have HS:=hid (HQ.out W1 hB1);have HW1:=hid hW1;clear hW1 hB1 HQ;go_enter func62,ntmps62
 go_wp2_with(first
  |(go_at_call 95;rw[<-HW1.out];refine HS.out.mono ?_;rintro e w4 ⟨rfl,hb4⟩;have hr4:=(hb4.block _ (Qz HR1.out)).trans HR1.out;obtain⟨⟨u0,u1,u2,u3,u4⟩,f0,f1,f2,f3,f4⟩:=Qh hr4;have lr:=Qz hr4;have HR4:=hid hr4;have HB4:=hid (HB1.out.trans (hb4.mono HB1.out.size));clear hr4 hb4 HS HB1 HR1;try dsimp only[cv,av]))
 have hP:=Yk (v0:=.int .u64 (wd C.1 0:Nat)) (v1:=.int .u64 (wd C.1 1:Nat)) (v2:=.int .u64 (wd C.1 2:Nat)) (v3:=.int .u64 (wd C.1 3:Nat)) (v4:=.bool C.2) HR4.out;obtain⟨⟨r0,r1,r2,r3,r4⟩,_⟩:=Qh hP;unfold st5 at r0 r1 r2 r3 r4;refine bodyPost_ret (v:=av C) (by simp[results,Tryz.results62,go_sem,r0,r1,r2,r3,r4]) rfl ?_;exact⟨rfl,HB4.out.grown (Xp _ (w.heap.size+1) _ _ _ _ _) HB4.out.size (fun g e=>by have:=Option.some.inj e;omega)⟩
theorem y6H(m:Option Nat)(C:Nat×Bool)(T:ByteArray)(a b c d:Int)(so:Option Addr)(n cap:Nat)(p:Int)(g pn pc:Nat)(l:Int)(w:World)(k1:Int)(T1:ByteArray)(a1 b1 c1 d1:Int)(so1:Option Addr)(n1 cap1:Nat)(p1:Int)(po1:Option Addr)(pn1 pc1:Nat)(l1:Int)(hg:g<w.heap.size)(hm:Mc w g 0 k1 T1 a1 b1 c1 d1 so1 n1 cap1 p1 po1 pn1 pc1 l1)
  (HQ:Hid (∀W:World,Below w.heap.size w W->Calls prog 96 #[.map m,.agg #[.int .i64 k1,.string T1,.int .u64 a1,.int .u64 b1,.int .u64 c1,.int .u64 d1,.slice so1 n1 cap1,.int .i64 p1,.slice po1 pn1 pc1,.int .i64 l1]] W fun e w'=>e=.returned (av C)/\Below W.heap.size W w')):
  Calls prog 62 #[.map m,.agg #[.int .i64 12,.string T,.int .u64 a,.int .u64 b,.int .u64 c,.int .u64 d,.slice so n cap,.int .i64 p,.slice (some ⟨g,0,none⟩) 1 pc,.int .i64 l]] w fun e w'=>e=.returned (av C)/\Below w.heap.size w w':=by
 obtain⟨W1,hW1⟩:∃W1,W1=(w.alloc (.cells #[.int .i64 12,.string T,.int .u64 a,.int .u64 b,.int .u64 c,.int .u64 d,.slice so n cap,.int .i64 p,.slice (some ⟨g,0,none⟩) 1 pc,.int .i64 l] 137)).alloc (.cells #[.int .u64 0,.int .u64 0,.int .u64 0,.int .u64 0,.bool false] 53):=⟨_,rfl⟩;have hB1:Below w.heap.size w W1:=by rw[hW1];exact((Below.refl _ w).alloc L0q _).alloc (by simp) _
 have HR1:Hid (W1.heap[w.heap.size+1]? =some (.cells #[.int .u64 0,.int .u64 0,.int .u64 0,.int .u64 0,.bool false] 53)):=by rw[hW1];exact Qq _ _ (by simp)
 obtain⟨z0,z1,z2,z3,z4,z5,z6,z7,z8,z9⟩:=hm;simp only[Nat.zero_add]at z1 z2 z3 z4 z5 z6 z7 z8 z9;have hg1:g<w.heap.size+1:=by omega
 have HB1:=hid hB1;have HS:=hid (HQ.out W1 hB1);have HW1:=hid hW1;clear hW1 hB1 HQ;go_enter func62,ntmps62
 go_wp2_with(first
  |(go_at_call 96;rw[<-HW1.out];refine HS.out.mono ?_;rintro e w4 ⟨rfl,hb4⟩;have hr4:=(hb4.block _ (Qz HR1.out)).trans HR1.out;obtain⟨⟨u0,u1,u2,u3,u4⟩,f0,f1,f2,f3,f4⟩:=Qh hr4;have lr:=Qz hr4;have HR4:=hid hr4;have HB4:=hid (HB1.out.trans (hb4.mono HB1.out.size));clear hr4 hb4 HS HB1 HR1;try dsimp only[cv,av]))
 have hP:=Yk (v0:=.int .u64 (wd C.1 0:Nat)) (v1:=.int .u64 (wd C.1 1:Nat)) (v2:=.int .u64 (wd C.1 2:Nat)) (v3:=.int .u64 (wd C.1 3:Nat)) (v4:=.bool C.2) HR4.out;obtain⟨⟨r0,r1,r2,r3,r4⟩,_⟩:=Qh hP;unfold st5 at r0 r1 r2 r3 r4;refine bodyPost_ret (v:=av C) (by simp[results,Tryz.results62,go_sem,r0,r1,r2,r3,r4]) rfl ?_;exact⟨rfl,HB4.out.grown (Xp _ (w.heap.size+1) _ _ _ _ _) HB4.out.size (fun g e=>by have:=Option.some.inj e;omega)⟩
theorem y6I(m:Option Nat)(C:Nat×Bool)(T:ByteArray)(a b c d:Int)(so:Option Addr)(n cap:Nat)(p:Int)(g pn pc:Nat)(l:Int)(w:World)(k1:Int)(T1:ByteArray)(a1 b1 c1 d1:Int)(so1:Option Addr)(n1 cap1:Nat)(p1:Int)(po1:Option Addr)(pn1 pc1:Nat)(l1:Int)(hg:g<w.heap.size)(hm:Mc w g 0 k1 T1 a1 b1 c1 d1 so1 n1 cap1 p1 po1 pn1 pc1 l1)
  (HQ:Hid (∀W:World,Below w.heap.size w W->Calls prog 62 #[.map m,.agg #[.int .i64 k1,.string T1,.int .u64 a1,.int .u64 b1,.int .u64 c1,.int .u64 d1,.slice so1 n1 cap1,.int .i64 p1,.slice po1 pn1 pc1,.int .i64 l1]] W fun e w'=>e=.returned (av C)/\Below W.heap.size W w')):
  Calls prog 62 #[.map m,.agg #[.int .i64 10,.string T,.int .u64 a,.int .u64 b,.int .u64 c,.int .u64 d,.slice so n cap,.int .i64 p,.slice (some ⟨g,0,none⟩) 1 pc,.int .i64 l]] w fun e w'=>e=.returned (av C)/\Below w.heap.size w w':=by
 obtain⟨W1,hW1⟩:∃W1,W1=(w.alloc (.cells #[.int .i64 10,.string T,.int .u64 a,.int .u64 b,.int .u64 c,.int .u64 d,.slice so n cap,.int .i64 p,.slice (some ⟨g,0,none⟩) 1 pc,.int .i64 l] 137)).alloc (.cells #[.int .u64 0,.int .u64 0,.int .u64 0,.int .u64 0,.bool false] 53):=⟨_,rfl⟩;have hB1:Below w.heap.size w W1:=by rw[hW1];exact((Below.refl _ w).alloc L0q _).alloc (by simp) _
 have HR1:Hid (W1.heap[w.heap.size+1]? =some (.cells #[.int .u64 0,.int .u64 0,.int .u64 0,.int .u64 0,.bool false] 53)):=by rw[hW1];exact Qq _ _ (by simp)
 obtain⟨z0,z1,z2,z3,z4,z5,z6,z7,z8,z9⟩:=hm;simp only[Nat.zero_add]at z1 z2 z3 z4 z5 z6 z7 z8 z9;have hg1:g<w.heap.size+1:=by omega
 have HB1:=hid hB1;have HS:=hid (HQ.out W1 hB1);have HW1:=hid hW1;clear hW1 hB1 HQ;go_enter func62,ntmps62
 go_wp2_with(first
  |(go_at_call 62;rw[<-HW1.out];refine HS.out.mono ?_;rintro e w4 ⟨rfl,hb4⟩;have hr4:=(hb4.block _ (Qz HR1.out)).trans HR1.out;obtain⟨⟨u0,u1,u2,u3,u4⟩,f0,f1,f2,f3,f4⟩:=Qh hr4;have lr:=Qz hr4;have HR4:=hid hr4;have HB4:=hid (HB1.out.trans (hb4.mono HB1.out.size));clear hr4 hb4 HS HB1 HR1;try dsimp only[cv,av]))
 have hP:=Yk (v0:=.int .u64 (wd C.1 0:Nat)) (v1:=.int .u64 (wd C.1 1:Nat)) (v2:=.int .u64 (wd C.1 2:Nat)) (v3:=.int .u64 (wd C.1 3:Nat)) (v4:=.bool C.2) HR4.out;obtain⟨⟨r0,r1,r2,r3,r4⟩,_⟩:=Qh hP;unfold st5 at r0 r1 r2 r3 r4;refine bodyPost_ret (v:=av C) (by simp[results,Tryz.results62,go_sem,r0,r1,r2,r3,r4]) rfl ?_;exact⟨rfl,HB4.out.grown (Xp _ (w.heap.size+1) _ _ _ _ _) HB4.out.size (fun g e=>by have:=Option.some.inj e;omega)⟩
theorem y6J(m:Option Nat)(C:Nat×Bool)(T:ByteArray)(a b c d:Int)(so:Option Addr)(n cap:Nat)(p:Int)(g pn pc:Nat)(l:Int)(w:World)(k1:Int)(T1:ByteArray)(a1 b1 c1 d1:Int)(so1:Option Addr)(n1 cap1:Nat)(p1:Int)(po1:Option Addr)(pn1 pc1:Nat)(l1:Int)(hg:g<w.heap.size)(hm:Mc w g 0 k1 T1 a1 b1 c1 d1 so1 n1 cap1 p1 po1 pn1 pc1 l1)
  (HQ:Hid (∀W:World,Below w.heap.size w W->Calls prog 62 #[.map m,.agg #[.int .i64 k1,.string T1,.int .u64 a1,.int .u64 b1,.int .u64 c1,.int .u64 d1,.slice so1 n1 cap1,.int .i64 p1,.slice po1 pn1 pc1,.int .i64 l1]] W fun e w'=>e=.returned (av C)/\Below W.heap.size W w')):
  Calls prog 62 #[.map m,.agg #[.int .i64 11,.string T,.int .u64 a,.int .u64 b,.int .u64 c,.int .u64 d,.slice so n cap,.int .i64 p,.slice (some ⟨g,0,none⟩) 1 pc,.int .i64 l]] w fun e w'=>e=.returned (av C)/\Below w.heap.size w w':=by
 obtain⟨W1,hW1⟩:∃W1,W1=(w.alloc (.cells #[.int .i64 11,.string T,.int .u64 a,.int .u64 b,.int .u64 c,.int .u64 d,.slice so n cap,.int .i64 p,.slice (some ⟨g,0,none⟩) 1 pc,.int .i64 l] 137)).alloc (.cells #[.int .u64 0,.int .u64 0,.int .u64 0,.int .u64 0,.bool false] 53):=⟨_,rfl⟩;have hB1:Below w.heap.size w W1:=by rw[hW1];exact((Below.refl _ w).alloc L0q _).alloc (by simp) _
 have HR1:Hid (W1.heap[w.heap.size+1]? =some (.cells #[.int .u64 0,.int .u64 0,.int .u64 0,.int .u64 0,.bool false] 53)):=by rw[hW1];exact Qq _ _ (by simp)
 obtain⟨z0,z1,z2,z3,z4,z5,z6,z7,z8,z9⟩:=hm;simp only[Nat.zero_add]at z1 z2 z3 z4 z5 z6 z7 z8 z9;have hg1:g<w.heap.size+1:=by omega
 have HB1:=hid hB1;have HS:=hid (HQ.out W1 hB1);have HW1:=hid hW1;clear hW1 hB1 HQ;go_enter func62,ntmps62
 go_wp2_with(first
  |(go_at_call 62;rw[<-HW1.out];refine HS.out.mono ?_;rintro e w4 ⟨rfl,hb4⟩;have hr4:=(hb4.block _ (Qz HR1.out)).trans HR1.out;obtain⟨⟨u0,u1,u2,u3,u4⟩,f0,f1,f2,f3,f4⟩:=Qh hr4;have lr:=Qz hr4;have HR4:=hid hr4;have HB4:=hid (HB1.out.trans (hb4.mono HB1.out.size));clear hr4 hb4 HS HB1 HR1;try dsimp only[cv,av]))
 have hP:=Yk (v0:=.int .u64 (wd C.1 0:Nat)) (v1:=.int .u64 (wd C.1 1:Nat)) (v2:=.int .u64 (wd C.1 2:Nat)) (v3:=.int .u64 (wd C.1 3:Nat)) (v4:=.bool C.2) HR4.out;obtain⟨⟨r0,r1,r2,r3,r4⟩,_⟩:=Qh hP;unfold st5 at r0 r1 r2 r3 r4;refine bodyPost_ret (v:=av C) (by simp[results,Tryz.results62,go_sem,r0,r1,r2,r3,r4]) rfl ?_;exact⟨rfl,HB4.out.grown (Xp _ (w.heap.size+1) _ _ _ _ _) HB4.out.size (fun g e=>by have:=Option.some.inj e;omega)⟩
theorem y6K(m:Option Nat)(T:ByteArray)(a b c d:Int)(so:Option Addr)(n cap:Nat)(p:Int)(po:Option Addr)(pn pc:Nat)(l:Int)(w:World)(C:Nat)(h0:a=(wd C 0:Nat))(h1:b=(wd C 1:Nat))(h2:c=(wd C 2:Nat))(h3:d=(wd C 3:Nat)):
  Calls prog 62 #[.map m,.agg #[.int .i64 3,.string T,.int .u64 a,.int .u64 b,.int .u64 c,.int .u64 d,.slice so n cap,.int .i64 p,.slice po pn pc,.int .i64 l]] w fun e w'=>e=.returned (av (C,false))/\Below w.heap.size w w':=by
 subst h0 h1 h2 h3;have HB:Hid (∀o1 o2:Obj,Below w.heap.size w ((w.alloc o1).alloc o2)):=fun o1 o2=>((Below.refl _ w).alloc L0q o1).alloc (by simp) o2
 go_enter func62,ntmps62
 go_wp2_with fail
 refine bodyPost_ret (v:=av (C,false)) (by simp[results,Tryz.results62,go_sem]) rfl ?_;exact⟨rfl,HB.out _ _⟩
theorem y6L(B nn:Nat)(F:ByteArray->Ah)(T:ByteArray)(a b c d:Int)(so:Option Addr)(n cap:Nat)(p:Int)(po:Option Addr)(pn pc:Nat)(l:Int)(w:World)(hM:Na w B nn F)(hT:T.size<=maxLen):
  Calls prog 62 #[.map (some B),.agg #[.int .i64 5,.string T,.int .u64 a,.int .u64 b,.int .u64 c,.int .u64 d,.slice so n cap,.int .i64 p,.slice po pn pc,.int .i64 l]] w fun e w'=>e=.returned (av (F T))/\Below w.heap.size w w':=by
 have HB:Hid (∀o1 o2:Obj,Below w.heap.size w ((w.alloc o1).alloc o2)):=fun o1 o2=>((Below.refl _ w).alloc L0q o1).alloc (by simp) o2
 have hL:=((hM.kept (World.grownBy_alloc w (.cells #[.int .i64 5,.string T,.int .u64 a,.int .u64 b,.int .u64 c,.int .u64 d,.slice so n cap,.int .i64 p,.slice po pn pc,.int .i64 l] 137) none) (by simp)).kept (World.grownBy_alloc _ (.cells #[.int .u64 0,.int .u64 0,.int .u64 0,.int .u64 0,.bool false] 53) none) (by simp)).look hT;obtain⟨⟨C,x⟩,hx⟩:∃x,x=F T:=⟨_,rfl⟩;rw[<-hx]at hL ⊢;dsimp only[av]at hL;clear hx hM;go_enter func62,ntmps62
 go_wp2_with fail
 refine bodyPost_ret (v:=av (C,x)) (by simp[results,Tryz.results62,go_sem]) rfl ?_;exact⟨rfl,HB.out _ _⟩
theorem z6D(A:ByteArray->Ot)(F:ByteArray->Ah)(t:RT):∀(l:List RT) (x:Ah),afA A F x (l++[t])=orA (afA A F x l) (afT A F t)
 |[],x=>by rw[List.nil_append,afA,afA,afA]
 |a::r,x=>by rw[List.cons_append,afA,afA,z6D A F t r]
theorem y6M(A:ByteArray->Ot)(F:ByteArray->Ah)(x:Ah)(s:List RT)(j:Nat)(hj:j<s.length):afA A F x (s.take (j+1))=orA (afA A F x (s.take j)) (afT A F s[j]):=by
 rw[show s.take (j+1)=s.take j++[s[j]] by simp,z6D]
theorem y6N(m:Option Nat)(A:ByteArray->Ot)(F:ByteArray->Ah)(so:Option Addr)(n cap:Nat)(s:List RT)(w:World)(hn:n<=1048576)(HN:Hid (n=s.length))
  (HC:Hid (∀j (hj:j<s.length),∃g,so=some ⟨g,0,none⟩/\g<w.heap.size/\∃k1 T1 a1 b1 c1 d1 so1 n1 cap1 p1 po1 pn1 pc1 l1,Mc w g (j*10) k1 T1 a1 b1 c1 d1 so1 n1 cap1 p1 po1 pn1 pc1 l1/\
    ∀W:World,Below w.heap.size w W->Calls prog 62 #[.map m,.agg #[.int .i64 k1,.string T1,.int .u64 a1,.int .u64 b1,.int .u64 c1,.int .u64 d1,.slice so1 n1 cap1,.int .i64 p1,.slice po1 pn1 pc1,.int .i64 l1]] W fun e w'=>e=.returned (av (afT A F s[j]))/\Below W.heap.size W w')):
  Calls prog 95 #[.map m,.slice so n cap] w fun e w'=>e=.returned (av (afA A F (0,false) s))/\Below w.heap.size w w':=by
 obtain⟨W1,hW1⟩:∃W1,W1=(w.alloc (.cells #[.int .u64 0,.int .u64 0,.int .u64 0,.int .u64 0,.bool false] 53)).alloc (.cells #[.int .u64 0,.int .u64 0,.int .u64 0,.int .u64 0,.bool false] 53):=⟨_,rfl⟩;have HB1:Hid (Below w.heap.size w W1):=by rw[hW1];exact((Below.refl _ w).alloc L0q _).alloc (by simp) _
 have HR1:Hid (W1.heap[w.heap.size]? =some (.cells #[.int .u64 0,.int .u64 0,.int .u64 0,.int .u64 0,.bool false] 53)):=by rw[hW1];exact(Below.heap_alloc _ _ _ (by simp)).trans (Qq w _ rfl)
 have HA1:Hid (W1.heap[w.heap.size+1]? =some (.cells #[.int .u64 (wd 0 0),.int .u64 (wd 0 1),.int .u64 (wd 0 2),.int .u64 (wd 0 3),.bool false] 53)):=by rw[hW1];simp only[Vx];exact Qq _ _ (by simp)
 have HE:=hid Py;have HW1:=hid hW1;clear hW1;go_enter func95,ntmps95
 go_wp2_with fail
 rw[<-HW1.out];clear HW1
 go_loopw [11] (fun i wr=>∃j:Nat,i=.int .i64 j/\j<=n/\Hid (Below w.heap.size w wr)/\Hid (wr.heap[w.heap.size]? =some (.cells #[.int .u64 0,.int .u64 0,.int .u64 0,.int .u64 0,.bool false] 53))/\∃(C:Nat) (x:Bool),Hid ((C,x)=afA A F (0,false) (s.take j))/\Hid (wr.heap[w.heap.size+1]? =some (.cells #[.int .u64 (wd C 0),.int .u64 (wd C 1),.int .u64 (wd C 2),.int .u64 (wd C 3),.bool x] 53))) (fun i _=>n-(intOf i).toNat)
 case atStart=>exact⟨0,rfl,Nat.zero_le _,HB1,HR1,0,false,hid (by rw[List.take_zero,afA]),HA1⟩
 case round=>
  obtain⟨j,rfl,hj,HBr,HRr,C,x,HX,HAr⟩:=hrel;by_cases hjn:j<n
  ·have hjI:(j:Int)<(n:Int):=by omega
   have a0:decide ((j:Int)<(n:Int))=true:=by simp;omega
   have hjs:j<s.length:=by rw[<-HN.out];exact hjn
   obtain⟨g,rfl,hg,k1,T1,a1,b1,c1,d1,so1,n1,cap1,p1,po1,pn1,pc1,l1,hrc,hcall⟩:=HC.out j hjs;obtain⟨z0,z1,z2,z3,z4,z5,z6,z7,z8,z9⟩:=hrc.below HBr.out hg;have hgl:g<wr.heap.size:=World.block_lt_of_cell? wr _ z0;obtain⟨⟨D,y⟩,hy⟩:∃y,y=afT A F s[j]:=⟨_,rfl⟩;have hbp:Below w.heap.size w (wr.alloc (.cells #[.int .i64 k1,.string T1,.int .u64 a1,.int .u64 b1,.int .u64 c1,.int .u64 d1,.slice so1 n1 cap1,.int .i64 p1,.slice po1 pn1 pc1,.int .i64 l1] 137)):=HBr.out.alloc HBr.out.size _;have hbq:=(Below.refl _ wr).alloc L0q (.cells #[.int .i64 k1,.string T1,.int .u64 a1,.int .u64 b1,.int .u64 c1,.int .u64 d1,.slice so1 n1 cap1,.int .i64 p1,.slice po1 pn1 pc1,.int .i64 l1] 137);have HRp:=hid ((hbq.block _ (Qz HRr.out)).trans HRr.out);have HAp:=hid ((hbq.block _ (Qz HAr.out)).trans HAr.out);have HBp:=hid hbp;have HS:=hid (hcall _ hbp);rw[<-hy]at HS;have HY:=hid hy;have HEi:=hid (HE.out C D);clear hcall hrc hy hbp hbq HRr HAr HBr HC HE;dsimp only[av]at HS;dsimp only[cv]at HEi;cases x<;>(
    go_wp2_with(first
     |(go_at_call 62;refine HS.out.mono ?_;rintro e w4 ⟨rfl,hb4⟩;have HB4:=hid (HBp.out.trans (hb4.mono HBp.out.size));have hR4:=(hb4.block _ (Qz HRp.out)).trans HRp.out;have hA4:=(hb4.block _ (Qz HAp.out)).trans HAp.out;have hln:=Qz hA4;have hn4:=(Below.refl _ w4).alloc L0q (.cells #[.int .u64 (wd D 0),.int .u64 (wd D 1),.int .u64 (wd D 2),.int .u64 (wd D 3),.bool y] 53);have HRq:=hid ((hn4.block _ (Qz hR4)).trans hR4);have hAq:=(hn4.block _ hln).trans hA4;have HAq:=hid hAq;have HNq:=hid (Qq w4 (.cells #[.int .u64 (wd D 0),.int .u64 (wd D 1),.int .u64 (wd D 2),.int .u64 (wd D 3),.bool y] 53) rfl);have HBq:=hid (HB4.out.trans (hn4.mono HB4.out.size));obtain⟨⟨t0,t1,t2,t3,t4⟩,-⟩:=Qh hAq;obtain⟨⟨v0,v1,v2,v3,v4⟩,-⟩:=Qh HNq.out;have hla:=Qz hAq;have hlb:=Qz HNq.out;clear hb4 hR4 hA4 hn4 hAq HS HBp HRp HAp HB4)
     |(go_at_call 145;refine(HEi.out _).mono ?_;rintro e w5 ⟨rfl,hb5⟩;have HB5:=hid (HBq.out.trans (hb5.mono HBq.out.size));have HR5:=hid ((hb5.block _ (Qz HRq.out)).trans HRq.out);have hA5:=(hb5.block _ (Qz HAq.out)).trans HAq.out;have HA5:=hid hA5;obtain⟨⟨c0,c1',c2,c3,c4⟩,f0,f1,f2,f3,f4⟩:=Qh hA5;obtain⟨⟨-,-,-,-,n4⟩,-⟩:=Qh ((hb5.block _ (Qz HNq.out)).trans HNq.out);have lc:=Qz hA5;have ne:=Nat.ne_of_gt hln;have ne2:=Nat.ne_of_lt hln;clear hb5 hA5 t0 t1 t2 t3 t4 v0 v1 v2 v3 v4 HBq HRq HAq HNq HEi))
    refine⟨⟨j+1,by go_num,by omega,hid (HB5.out.grown (Xp _ (w.heap.size+1) _ _ _ _ _) HB5.out.size (fun g e=>by have:=Option.some.inj e;omega)),hid (((Xp _ (w.heap.size+1) _ _ _ _ _).block _ (Qz HR5.out) (fun e=>by have:=Option.some.inj e;omega)).trans HR5.out),C|||D,_,hid (by rw[y6M A F _ s j hjs,<-HX.out,<-HY.out];simp[orA]),hid (Yk HA5.out)⟩,by simp[intOf];omega⟩)
  ·have a0:decide ((j:Int)<(n:Int))=false:=by simp;omega
   have hjn':s.take j=s:=List.take_of_length_le (by rw[<-HN.out];omega);rw[hjn']at HX;obtain⟨⟨t0,t1,t2,t3,t4⟩,-⟩:=Qh HAr.out;obtain⟨⟨u0,u1,u2,u3,u4⟩,f0,f1,f2,f3,f4⟩:=Qh HRr.out;have la:=Qz HAr.out;have lr:=Qz HRr.out;have HBl:=hid (HBr.out.grown (Xp wr w.heap.size (.int .u64 (wd C 0)) (.int .u64 (wd C 1)) (.int .u64 (wd C 2)) (.int .u64 (wd C 3)) (.bool x)) HBr.out.size (fun g e=>by have:=Option.some.inj e;omega));have hP:=Yk (v0:=.int .u64 (wd C 0)) (v1:=.int .u64 (wd C 1)) (v2:=.int .u64 (wd C 2)) (v3:=.int .u64 (wd C 3)) (v4:=.bool x) HRr.out;obtain⟨⟨r0,r1,r2,r3,r4⟩,_⟩:=Qh hP;unfold st5 at r0 r1 r2 r3 r4;clear hjn' HAr HRr HBr hP
   go_wp2_with fail
   refine bodyPost_ret (v:=av (C,x)) (by simp[results,Tryz.results95,go_sem,r0,r1,r2,r3,r4]) rfl ?_;exact⟨by rw[<-HX.out],HBl.out⟩
end Go.Proofs.YtgmcjddjdidpjaaGreatDoor
