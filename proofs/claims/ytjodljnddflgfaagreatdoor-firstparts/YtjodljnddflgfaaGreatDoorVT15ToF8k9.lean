/- Lemmas for the last text. Conditions: those that each names. -/
import Derived.Test.YtjodljnddflgfaaGreatDoorVPR2ToT12
import Derived.Test.YtjodljnddflgfaaGreatDoorVPR1ToU15
import Derived.Test.YtjodljnddflgfaaGreatDoorVF6ToU5
import Derived.Test.YtjodljnddflgfaaGreatDoorVO18ToF5
set_option linter.unusedVariables false
set_option maxRecDepth 100000
set_option maxHeartbeats 8000000
namespace Go.Proofs.YtjodljnddflgfaaGreatDoor
open Go.Proofs.Tryz
open Go.RowKit Go.Shelf Go.Maps
variable {a b c d:Int}
theorem y2g(so:Option Addr)(n cap:Nat)(rs:List Rr)(K:ByteArray->Ot)(k:Int)(T:ByteArray)(a b c d p:Int)(so1:Option Addr)(n1 cap1:Nat)(t:RT)(B B1:Nat)(w:World)(h:Qh w B so n (bG rs K))(hB:B<=w.heap.size)(hok:okG rs=true)(hck:ckR rs=none)(hz:RgZ rs)(hT:TabIs w)(ht:Qk w B1 t (r8 k T a b c d so1 n1 cap1 p))(hB1:B1<=w.heap.size)(hf:Fit (nmL rs) t):
  ∀W:World,Below w.heap.size w W->Calls prog 29 #[.agg #[.slice so n cap],.agg (r8 k T a b c d so1 n1 cap1 p).toArray] W fun e w'=>e=.returned (.tuple #[ov (ofT K t),.nilIface])/\Below W.heap.size W w':=fun W hW=>by
 obtain⟨hokT,htz,⟨nd,hq,hv,hw,hs,hd⟩,hrf⟩:=hf;have hbz:=y1W K hz;have hbck:=y1V K hck;have hbok:=z4O K hok;obtain⟨hX,hC⟩:=y1R so n cap (bG rs K) B w hbz h hB hT (y2b K hok) hbck;have ht:=Qk.upto hB1 t _ ht;have hup:∀{W'},Below W.heap.size W W'->Below w.heap.size w W':=fun hW'=>hW.trans (hW'.mono hW.size)
 have hN:∀W':World,Below W.heap.size W W'->Calls prog 58 #[.agg #[.slice so n cap]] W' fun e w'=>e=.returned .nilIface/\Below W'.heap.size W' w':=fun W' hW'=>(Wq so n cap (bG rs K) none W' (hC.from (hup hW'))).mono fun e w' he=>by
  obtain⟨v,h1,h2,h3⟩:=he;have h2:v=.nilIface:=h2;rw[h1,h2];exact⟨rfl,h3⟩
 have hE:∀W':World,Below W.heap.size W W'->Calls prog 59 #[.agg (r8 k T a b c d so1 n1 cap1 p).toArray] W' fun e w'=>e=.returned (.string (exS nd))/\Below W'.heap.size W' w':=fun W' hW'=>
  z4y k T a b c d p so1 n1 cap1 t nd W' (hT.below (hup hW') hT.lt) (Qk.upto (hup hW').size t _ (ht.below (hup hW'))) htz hq hv hw
 have hH:∀W':World,Below W.heap.size W W'->Calls prog 60 #[.agg #[.slice so n cap],.agg (r8 k T a b c d so1 n1 cap1 p).toArray] W' fun e w'=>e=.returned (.bool true)/\Below W'.heap.size W' w':=fun W' hW'=>by
  have:=Wg (nmL (bG rs K)) (bG rs K) rfl so n cap B _ t _ w.heap.size W' (Nat.lt_succ_self _) (ht.below (hup hW')) (hup hW').size (h.below ((hup hW').mono hB)) (Nat.le_trans hB (hup hW').size);rw[Wm,z4Y t hrf]at this;exact this
 refine(z4A so n cap (bG rs K) k T a b c d so1 n1 cap1 p t W (exS nd) (Ix (y2f hv hw hs hd)) hN hE hH (fun W' hW'=>Wh so n cap (bG rs K) B W' (h.below ((hup hW').mono hB)) (Nat.le_trans hB (hup hW').size) hbz hbok hbck) (fun W' M nn m hW' hNm=>Wy M nn (itr (bG rs K) m) t _ W' w.heap.size (ht.below (hup hW')) (hup hW').size htz hokT hNm)).mono fun e w' he=> ?_
 obtain⟨m,h1,h2,h3⟩:=he;rw[y1Y hck h1 t hrf]at h2;exact⟨h2,h3⟩
theorem y2h(so:Option Addr)(n cap:Nat)(k:Int)(T:ByteArray)(a b c d p:Int)(so1:Option Addr)(n1 cap1:Nat)(y:Ot)(w:World)
  (HE:Hid (∀W:World,Below w.heap.size w W->Calls prog 29 #[.agg #[.slice so n cap],.agg #[.int .i64 k,.string T,.int .u64 a,.int .u64 b,.int .u64 c,.int .u64 d,.slice so1 n1 cap1,.int .i64 p]] W fun e w'=>e=.returned (.tuple #[ov y,.nilIface])/\Below W.heap.size W w')):
  Calls prog 104 #[.agg #[.slice so n cap],.agg #[.int .i64 k,.string T,.int .u64 a,.int .u64 b,.int .u64 c,.int .u64 d,.slice so1 n1 cap1,.int .i64 p]] w fun e w'=>e=.returned (ov y)/\Below w.heap.size w w':=by
 obtain⟨y1,y2,y3⟩:=y;obtain⟨W1,hW1⟩:∃W1,W1=((w.alloc (.cells #[.slice so n cap] 24)).alloc (.cells #[.int .i64 k,.string T,.int .u64 a,.int .u64 b,.int .u64 c,.int .u64 d,.slice so1 n1 cap1,.int .i64 p] 30)).alloc (.cells #[.bool false,.bool false,.bool false] 71):=⟨_,rfl⟩;have hB1:Below w.heap.size w W1:=by rw[hW1];exact(((Below.refl _ w).alloc L0q _).alloc (by simp) _).alloc (by simp;omega) _
 have HR1:Hid (W1.heap[w.heap.size+1+1]? =some (.cells #[.bool false,.bool false,.bool false] 71)):=by rw[hW1];exact Qx _ _ (by simp)
 have HS:=hid (HE.out W1 hB1);have HB1:=hid hB1;have HW1:=hid hW1;dsimp only[ov]at HS;clear hW1 hB1 HE;go_enter func104,ntmps104
 go_wp2_with fail
 rw[<-HW1.out];refine HS.out.mono ?_;rintro e w2 ⟨rfl,hb2⟩;have HB2:=hid (HB1.out.trans (hb2.mono HB1.out.size));have hr2:=(hb2.block _ (Qz HR1.out)).trans HR1.out;obtain⟨⟨u0,u1,u2⟩,f0,f1,f2⟩:=Ql hr2;have lr:=Qz hr2;have HR2:=hid hr2;clear hb2 HS HW1 HR1 HB1 hr2
 go_wp2_with fail
 have hP:=Vj (v0:=.bool y1) (v1:=.bool y2) (v2:=.bool y3) HR2.out;have hPA:((((w2.setCell ⟨w.heap.size+1+1,0,none⟩ (.bool y1)).setCell ⟨w.heap.size+1+1,1,none⟩ (.bool y2)).setCell ⟨w.heap.size+1+1,2,none⟩ (.bool y3)).alloc (.cells #[.bool y1,.bool y2,.bool y3] 71)).heap[w.heap.size+1+1]? =some (.cells #[.bool y1,.bool y2,.bool y3] 71):=(Below.heap_alloc _ _ _ (Qz hP)).trans hP;obtain⟨⟨r0,r1,r2⟩,_⟩:=Ql hPA;refine bodyPost_ret (v:=.agg #[.bool y1,.bool y2,.bool y3]) (by simp[results,Tryz.results104,go_sem,r0,r1,r2]) rfl ?_;have hB3:=HB2.out.grown (Xk w2 (w.heap.size+1+1) (.bool y1) (.bool y2) (.bool y3)) HB2.out.size (fun g e=>by have:=Option.some.inj e;omega);exact⟨rfl,hB3.alloc hB3.size _⟩
theorem y2i(so:Option Addr)(n cap:Nat)(rs:List Rr)(K:ByteArray->Ot)(k:Int)(T:ByteArray)(a b c d p:Int)(so1:Option Addr)(n1 cap1:Nat)(t:RT)(B B1:Nat)(w:World)(h:Qh w B so n (bG rs K))(hB:B<=w.heap.size)(hok:okG rs=true)(hck:ckR rs=none)(hz:RgZ rs)(hT:TabIs w)(ht:Qk w B1 t (r8 k T a b c d so1 n1 cap1 p))(hB1:B1<=w.heap.size)(hf:Fit (nmL rs) t):
  Calls prog 104 #[.agg #[.slice so n cap],.agg #[.int .i64 k,.string T,.int .u64 a,.int .u64 b,.int .u64 c,.int .u64 d,.slice so1 n1 cap1,.int .i64 p]] w fun e w'=>e=.returned (ov (ofT K t))/\Below w.heap.size w w':=
 y2h so n cap k T a b c d p so1 n1 cap1 _ w (hid (y2g so n cap rs K k T a b c d p so1 n1 cap1 t B B1 w h hB hok hck hz hT ht hB1 hf))
theorem Fit.len{l:List ByteArray}{k p:Int}{T:ByteArray}{s:List RT}(h:Fit l (.mk k T a b c d s p)):s.length<=8192:=by
 obtain⟨hok,hz,⟨nd,hq,hv,hw,hs,hd⟩,hr⟩:=h;obtain⟨kd,T',C,s',p'⟩:=nd;rw[Tq]at hq;obtain⟨_,_,_,_,_,_,hl⟩:=hq;rw[Vk]at hv;have hlen:s'.length=s.length:=hl.length';rw[<-hlen];rw[pN]at hs;rcases hv.1 with⟨rfl,_,_,rfl⟩|⟨rfl,_,rfl⟩|⟨rfl,_,rfl⟩|⟨rfl,_,_,rfl⟩|⟨rfl,_,rfl⟩|⟨h67,_,_,h2⟩|⟨h8,h12,_,_,h1⟩
 ·simp
 ·simp
 ·simp
 ·simp
 ·simp
 ·rcases h67 with rfl|rfl
  ·simp only[Nat.reduceEqDiff,if_false,if_true]at hs
   have:=Ij 6 bSp (by decide) s';omega
  ·simp only[Nat.reduceEqDiff,if_false,if_true]at hs
   have:=Ij 7 bSl (by decide) s';omega
 ·omega
theorem z5a(rs:List Rr)(K:ByteArray->Ot)(so0:Option Addr)(n0 cap0:Nat)(B0:Nat)(hok:okG rs=true)(hck:ckR rs=none)(hz:RgZ rs):∀(N:Nat) (k:Int) (T:ByteArray) (a b c d:Int) (s:List RT) (p:Int) (so:Option Addr) (cap B:Nat) (w:World),SizeOf.sizeOf s<N->Fit (nmL rs) (.mk k T a b c d s p)->(s.isEmpty=true∨(s.isEmpty=false/\∃g o,so=some ⟨g,o,none⟩/\g<B/\Zw s<=maxLen/\Qc w B g o s))->B<=w.heap.size->Qh w B0 so0 n0 (bG rs K)->B0<=w.heap.size->TabIs w->1<w.heap.size->
  Calls prog 31 #[.agg #[.slice so0 n0 cap0],.agg #[.int .i64 k,.string T,.int .u64 a,.int .u64 b,.int .u64 c,.int .u64 d,.slice so (Zw s) cap,.int .i64 p]] w (MmA K (.mk k T a b c d s p) w)
 |0,_,_,_,_,_,_,s,_,_,_,_,_,h,_,_,_,_,_,_,_=>by omega
 |N+1,k,T,a,b,c,d,s,p,so,cap,B,w,hN,hf,ht,hB,hg0,hB0,hT,hTl=>by
  have hlen:=hf.len;have parts:∀j (hj:j<s.length),∃g o,so=some ⟨g,o,none⟩/\g<w.heap.size/\∃k1 T1 a1 b1 c1 d1 so1 n1 cap1 p1,Rc w g (o+j*8) k1 T1 a1 b1 c1 d1 (.slice so1 n1 cap1) p1/\Qk w B s[j] (r8 k1 T1 a1 b1 c1 d1 so1 n1 cap1 p1):=fun j hj=>by
   rcases ht with h1|⟨h1,g,o,rfl,hg,hm,hs⟩
   ·have hs0:s=[]:=by simpa using h1
    subst hs0;simp at hj
   ·obtain⟨k1,T1,a1,b1,c1,d1,so1,n1,cap1,p1,r1,r2⟩:=Ab hs j hj
    exact⟨g,o,rfl,by omega,k1,T1,a1,b1,c1,d1,so1,n1,cap1,p1,r2,r1⟩
  refine y0V K so0 n0 cap0 k T a b c d p so (Zw s) cap s w (hid (Xc s)) (by rw[Xc];omega) (hid fun _ W hW=> ?_) (hid fun j hj=> ?_)
  ·refine y0S K so0 n0 cap0 so (Zw s) cap s W (by rw[Xc];omega) (hid (Xc s)) (hid fun j hj=> ?_)
   obtain⟨g,o,e,hg,k1,T1,a1,b1,c1,d1,so1,n1,cap1,p1,r2,r1⟩:=parts j hj;refine⟨g,o,e,Nat.lt_of_lt_of_le hg hW.size,k1,T1,a1,b1,c1,d1,so1,n1,cap1,p1,r2.below hW hg,fun W' hW'=> ?_⟩;have hW2:=hW.trans (hW'.mono hW.size);exact y2i so0 n0 cap0 rs K k1 T1 a1 b1 c1 d1 p1 so1 n1 cap1 s[j] B0 B W' (hg0.below (hW2.mono hB0)) (Nat.le_trans hB0 hW2.size) hok hck hz (hT.below hW2 hTl) (r1.below (hW2.mono hB)) (Nat.le_trans hB hW2.size) (hf.sub j hj)
  ·obtain⟨g,o,e,hg,k1,T1,a1,b1,c1,d1,so1,n1,cap1,p1,r2,r1⟩:=parts j hj
   have hsj:=hf.sub j hj;have hsz:=List.sizeOf_lt_of_mem (List.getElem_mem hj);refine⟨g,o,e,hg,k1,T1,a1,b1,c1,d1,so1,n1,cap1,p1,r2,fun W hb=> ?_⟩;obtain⟨t,ht'⟩:∃t,t=s[j]:=⟨_,rfl⟩;rw[<-ht']at r1 hsj hsz ⊢;obtain⟨k',T',a',b',c',d',s1,p'⟩:=t;rw[Qk]at r1;obtain⟨so',cap',e,hr⟩:=r1;simp only[List.cons.injEq,Value.int.injEq,Value.string.injEq,Value.slice.injEq,true_and,and_true]at e;obtain⟨rfl,rfl,rfl,rfl,rfl,rfl,⟨rfl,rfl,rfl⟩,rfl⟩:=e;simp only[RT.mk.sizeOf_spec]at hsz;refine z5a rs K so0 n0 cap0 B0 hok hck hz N _ _ _ _ _ _ s1 _ _ _ B W (by omega) hsj ?_ (Nat.le_trans hB hb.size) (hg0.below (hb.mono hB0)) (Nat.le_trans hB0 hb.size) (hT.below hb hTl) (Nat.lt_of_lt_of_le hTl hb.size);rcases hr with h2|⟨h2,g1,o1,h3,h4,h5,h6⟩
   ·exact .inl h2
   ·exact .inr ⟨h2,g1,o1,h3,h4,h5,h6.below h4 (hb.mono hB)⟩
theorem z5b(rs:List Rr)(K:ByteArray->Ot)(so0:Option Addr)(n0 cap0:Nat)(B0 B:Nat)(t:RT)(k:Int)(T:ByteArray)(a b c d p:Int)(so:Option Addr)(n cap:Nat)(w:World)(hok:okG rs=true)(hck:ckR rs=none)(hz:RgZ rs)(hf:Fit (nmL rs) t)(ht:Qk w B t (r8 k T a b c d so n cap p))(hB:B<=w.heap.size)(hg0:Qh w B0 so0 n0 (bG rs K))(hB0:B0<=w.heap.size)(hT:TabIs w):
  Calls prog 31 #[.agg #[.slice so0 n0 cap0],.agg #[.int .i64 k,.string T,.int .u64 a,.int .u64 b,.int .u64 c,.int .u64 d,.slice so n cap,.int .i64 p]] w (MmA K t w):=by
 obtain⟨k',T',a',b',c',d',s1,p'⟩:=t;rw[Qk]at ht;obtain⟨so',cap',e,hr⟩:=ht;simp only[List.cons.injEq,Value.int.injEq,Value.string.injEq,Value.slice.injEq,true_and,and_true]at e;obtain⟨rfl,rfl,rfl,rfl,rfl,rfl,⟨rfl,rfl,rfl⟩,rfl⟩:=e;exact z5a rs K so0 n0 cap0 B0 hok hck hz _ _ _ _ _ _ _ s1 _ _ _ B w (Nat.lt_succ_self _) hf hr hB hg0 hB0 hT hT.lt
def Mc(w:World)(g o:Nat)(k:Int)(T:ByteArray)(a b c d:Int)(so:Option Addr)(n cap:Nat)(p:Int)(po:Option Addr)(pn pc:Nat)(l:Int):Prop:=w.cell? ⟨g,o,none⟩=some (.int .i64 k)/\w.cell? ⟨g,o+1,none⟩=some (.string T)/\w.cell? ⟨g,o+2,none⟩=some (.int .u64 a)/\w.cell? ⟨g,o+3,none⟩=some (.int .u64 b)/\w.cell? ⟨g,o+4,none⟩=some (.int .u64 c)/\w.cell? ⟨g,o+5,none⟩=some (.int .u64 d)/\w.cell? ⟨g,o+6,none⟩=some (.slice so n cap)/\w.cell? ⟨g,o+7,none⟩=some (.int .i64 p)/\w.cell? ⟨g,o+8,none⟩=some (.slice po pn pc)/\w.cell? ⟨g,o+9,none⟩=some (.int .i64 l)
theorem Mc.below{w w':World}{B g o:Nat}{k:Int}{T:ByteArray}{so:Option Addr}{n cap:Nat}{p:Int}{po:Option Addr}{pn pc:Nat}{l:Int}(h:Mc w g o k T a b c d so n cap p po pn pc l)(hb:Below B w w')(hg:g<B):Mc w' g o k T a b c d so n cap p po pn pc l:=by
 obtain⟨h0,h1,h2,h3,h4,h5,h6,h7,h8,h9⟩:=h;have e:∀(j:Nat) (u:Value),w.cell? ⟨g,j,none⟩=some u->w'.cell? ⟨g,j,none⟩=some u:=fun j u h=>(hb.cell (p:=⟨g,j,none⟩) hg).trans h
 exact⟨e _ _ h0,e _ _ h1,e _ _ h2,e _ _ h3,e _ _ h4,e _ _ h5,e _ _ h6,e _ _ h7,e _ _ h8,e _ _ h9⟩
theorem y2j(h:(0<=a/\a<18446744073709551616)/\(0<=b/\b<18446744073709551616)/\(0<=c/\c<18446744073709551616)/\(0<=d/\d<18446744073709551616)):((wd (cl4 a b c d) 0:Nat):Int)=a/\((wd (cl4 a b c d) 1:Nat):Int)=b/\((wd (cl4 a b c d) 2:Nat):Int)=c/\((wd (cl4 a b c d) 3:Nat):Int)=d:=by
 obtain⟨h0,h1,h2,h3⟩:=z0e a.toNat b.toNat c.toNat d.toNat (by omega) (by omega) (by omega) (by omega);unfold cl4;rw[h0,h1,h2,h3];exact⟨by omega,by omega,by omega,by omega⟩
theorem y2k(m:Option Nat)(C:Nat×Bool)(T:ByteArray)(a b c d:Int)(so:Option Addr)(n cap:Nat)(p:Int)(po:Option Addr)(pn pc:Nat)(l:Int)(w:World)
  (HQ:Hid (∀W:World,Below w.heap.size w W->Calls prog 64 #[] W fun e w'=>e=.returned (av C)/\Below W.heap.size W w')):
  Calls prog 30 #[.map m,.agg #[.int .i64 1,.string T,.int .u64 a,.int .u64 b,.int .u64 c,.int .u64 d,.slice so n cap,.int .i64 p,.slice po pn pc,.int .i64 l]] w fun e w'=>e=.returned (av C)/\Below w.heap.size w w':=by
 obtain⟨W1,hW1⟩:∃W1,W1=(w.alloc (.cells #[.int .i64 1,.string T,.int .u64 a,.int .u64 b,.int .u64 c,.int .u64 d,.slice so n cap,.int .i64 p,.slice po pn pc,.int .i64 l] 77)).alloc (.cells #[.int .u64 0,.int .u64 0,.int .u64 0,.int .u64 0,.bool false] 39):=⟨_,rfl⟩;have hB1:Below w.heap.size w W1:=by rw[hW1];exact((Below.refl _ w).alloc L0q _).alloc (by simp) _
 have HR1:Hid (W1.heap[w.heap.size+1]? =some (.cells #[.int .u64 0,.int .u64 0,.int .u64 0,.int .u64 0,.bool false] 39)):=by rw[hW1];exact Qx _ _ (by simp)
 have HB1:=hid hB1;have HS:=hid (HQ.out W1 hB1);have HW1:=hid hW1;clear hW1 hB1 HQ;go_enter func30,ntmps30
 go_wp2_with(first
  |(go_at_call 64;rw[<-HW1.out];refine HS.out.mono ?_;rintro e w4 ⟨rfl,hb4⟩;have hr4:=(hb4.block _ (Qz HR1.out)).trans HR1.out;obtain⟨⟨u0,u1,u2,u3,u4⟩,f0,f1,f2,f3,f4⟩:=Qv hr4;have lr:=Qz hr4;have HR4:=hid hr4;have HB4:=hid (HB1.out.trans (hb4.mono HB1.out.size));clear hr4 hb4 HS HB1 HR1;try dsimp only[cv,av]))
 have hP:=Xg (v0:=.int .u64 (wd C.1 0:Nat)) (v1:=.int .u64 (wd C.1 1:Nat)) (v2:=.int .u64 (wd C.1 2:Nat)) (v3:=.int .u64 (wd C.1 3:Nat)) (v4:=.bool C.2) HR4.out;obtain⟨⟨r0,r1,r2,r3,r4⟩,_⟩:=Qv hP;unfold st5 at r0 r1 r2 r3 r4;refine bodyPost_ret (v:=av C) (by simp[results,Tryz.results30,go_sem,r0,r1,r2,r3,r4]) rfl ?_;exact⟨rfl,HB4.out.grown (Xx _ (w.heap.size+1) _ _ _ _ _) HB4.out.size (fun g e=>by have:=Option.some.inj e;omega)⟩
theorem y2l(m:Option Nat)(C:Nat×Bool)(T:ByteArray)(a b c d:Int)(so:Option Addr)(n cap:Nat)(p:Int)(po:Option Addr)(pn pc:Nat)(l:Int)(w:World)
  (HQ:Hid (∀W:World,Below w.heap.size w W->Calls prog 64 #[] W fun e w'=>e=.returned (av C)/\Below W.heap.size W w')):
  Calls prog 30 #[.map m,.agg #[.int .i64 8,.string T,.int .u64 a,.int .u64 b,.int .u64 c,.int .u64 d,.slice so n cap,.int .i64 p,.slice po pn pc,.int .i64 l]] w fun e w'=>e=.returned (av C)/\Below w.heap.size w w':=by
 obtain⟨W1,hW1⟩:∃W1,W1=(w.alloc (.cells #[.int .i64 8,.string T,.int .u64 a,.int .u64 b,.int .u64 c,.int .u64 d,.slice so n cap,.int .i64 p,.slice po pn pc,.int .i64 l] 77)).alloc (.cells #[.int .u64 0,.int .u64 0,.int .u64 0,.int .u64 0,.bool false] 39):=⟨_,rfl⟩;have hB1:Below w.heap.size w W1:=by rw[hW1];exact((Below.refl _ w).alloc L0q _).alloc (by simp) _
 have HR1:Hid (W1.heap[w.heap.size+1]? =some (.cells #[.int .u64 0,.int .u64 0,.int .u64 0,.int .u64 0,.bool false] 39)):=by rw[hW1];exact Qx _ _ (by simp)
 have HB1:=hid hB1;have HS:=hid (HQ.out W1 hB1);have HW1:=hid hW1;clear hW1 hB1 HQ;go_enter func30,ntmps30
 go_wp2_with(first
  |(go_at_call 64;rw[<-HW1.out];refine HS.out.mono ?_;rintro e w4 ⟨rfl,hb4⟩;have hr4:=(hb4.block _ (Qz HR1.out)).trans HR1.out;obtain⟨⟨u0,u1,u2,u3,u4⟩,f0,f1,f2,f3,f4⟩:=Qv hr4;have lr:=Qz hr4;have HR4:=hid hr4;have HB4:=hid (HB1.out.trans (hb4.mono HB1.out.size));clear hr4 hb4 HS HB1 HR1;try dsimp only[cv,av]))
 have hP:=Xg (v0:=.int .u64 (wd C.1 0:Nat)) (v1:=.int .u64 (wd C.1 1:Nat)) (v2:=.int .u64 (wd C.1 2:Nat)) (v3:=.int .u64 (wd C.1 3:Nat)) (v4:=.bool C.2) HR4.out;obtain⟨⟨r0,r1,r2,r3,r4⟩,_⟩:=Qv hP;unfold st5 at r0 r1 r2 r3 r4;refine bodyPost_ret (v:=av C) (by simp[results,Tryz.results30,go_sem,r0,r1,r2,r3,r4]) rfl ?_;exact⟨rfl,HB4.out.grown (Xx _ (w.heap.size+1) _ _ _ _ _) HB4.out.size (fun g e=>by have:=Option.some.inj e;omega)⟩
theorem y2m(m:Option Nat)(C:Nat×Bool)(T:ByteArray)(a b c d:Int)(so:Option Addr)(n cap:Nat)(p:Int)(po:Option Addr)(pn pc:Nat)(l:Int)(w:World)
  (HQ:Hid (∀W:World,Below w.heap.size w W->Calls prog 64 #[] W fun e w'=>e=.returned (av C)/\Below W.heap.size W w')):
  Calls prog 30 #[.map m,.agg #[.int .i64 9,.string T,.int .u64 a,.int .u64 b,.int .u64 c,.int .u64 d,.slice so n cap,.int .i64 p,.slice po pn pc,.int .i64 l]] w fun e w'=>e=.returned (av C)/\Below w.heap.size w w':=by
 obtain⟨W1,hW1⟩:∃W1,W1=(w.alloc (.cells #[.int .i64 9,.string T,.int .u64 a,.int .u64 b,.int .u64 c,.int .u64 d,.slice so n cap,.int .i64 p,.slice po pn pc,.int .i64 l] 77)).alloc (.cells #[.int .u64 0,.int .u64 0,.int .u64 0,.int .u64 0,.bool false] 39):=⟨_,rfl⟩;have hB1:Below w.heap.size w W1:=by rw[hW1];exact((Below.refl _ w).alloc L0q _).alloc (by simp) _
 have HR1:Hid (W1.heap[w.heap.size+1]? =some (.cells #[.int .u64 0,.int .u64 0,.int .u64 0,.int .u64 0,.bool false] 39)):=by rw[hW1];exact Qx _ _ (by simp)
 have HB1:=hid hB1;have HS:=hid (HQ.out W1 hB1);have HW1:=hid hW1;clear hW1 hB1 HQ;go_enter func30,ntmps30
 go_wp2_with(first
  |(go_at_call 64;rw[<-HW1.out];refine HS.out.mono ?_;rintro e w4 ⟨rfl,hb4⟩;have hr4:=(hb4.block _ (Qz HR1.out)).trans HR1.out;obtain⟨⟨u0,u1,u2,u3,u4⟩,f0,f1,f2,f3,f4⟩:=Qv hr4;have lr:=Qz hr4;have HR4:=hid hr4;have HB4:=hid (HB1.out.trans (hb4.mono HB1.out.size));clear hr4 hb4 HS HB1 HR1;try dsimp only[cv,av]))
 have hP:=Xg (v0:=.int .u64 (wd C.1 0:Nat)) (v1:=.int .u64 (wd C.1 1:Nat)) (v2:=.int .u64 (wd C.1 2:Nat)) (v3:=.int .u64 (wd C.1 3:Nat)) (v4:=.bool C.2) HR4.out;obtain⟨⟨r0,r1,r2,r3,r4⟩,_⟩:=Qv hP;unfold st5 at r0 r1 r2 r3 r4;refine bodyPost_ret (v:=av C) (by simp[results,Tryz.results30,go_sem,r0,r1,r2,r3,r4]) rfl ?_;exact⟨rfl,HB4.out.grown (Xx _ (w.heap.size+1) _ _ _ _ _) HB4.out.size (fun g e=>by have:=Option.some.inj e;omega)⟩
end Go.Proofs.YtjodljnddflgfaaGreatDoor
