/- Lemmas for the last text. Conditions: those that each names. -/
import Derived.Test.YtgmcjddjdidpjaaGreatDoorVF7ToFA
import Derived.Test.YtgmcjddjdidpjaaGreatDoorVFBToFC4
import Derived.Test.YtgmcjddjdidpjaaGreatDoorVU9ToU11
import Derived.Laws.StructEq
import Derived.Test.YtgmcjddjdidpjaaGreatDoorVRLToGI
import Derived.RegionIn
import Derived.RangeFuncCalls
set_option linter.unusedVariables false
set_option maxRecDepth 100000
set_option maxHeartbeats 16000000
namespace Go.Proofs.YtgmcjddjdidpjaaGreatDoor
open Go.Proofs.Tryz
open Go.RowKit Go.Shelf Go.Maps
theorem y6W(m:Option Nat)(T:ByteArray)(a b c d:Int)(so:Option Addr)(n cap:Nat)(p:Int)(po:Option Addr)(pn pc:Nat)(l:Int)(w:World)(hT:T.size≠1):
  Calls prog 96 #[.map m,.agg #[.int .i64 2,.string T,.int .u64 a,.int .u64 b,.int .u64 c,.int .u64 d,.slice so n cap,.int .i64 p,.slice po pn pc,.int .i64 l]] w fun e w'=>e=.returned (av Xx)/\Below w.heap.size w w':=by
 have hT0:((T.size:Int) == 1)=false:=by simp;omega
 have hT1:¬(T.size:Int)=1:=by omega
 have hT2:decide ((T.size:Int)=1)=false:=by simp;omega
 obtain⟨W1,hW1⟩:∃W1,W1=(w.alloc (.cells #[.int .i64 2,.string T,.int .u64 a,.int .u64 b,.int .u64 c,.int .u64 d,.slice so n cap,.int .i64 p,.slice po pn pc,.int .i64 l] 137)).alloc (.cells #[.int .u64 0,.int .u64 0,.int .u64 0,.int .u64 0,.bool false] 53):=⟨_,rfl⟩;have hB1:Below w.heap.size w W1:=by rw[hW1];exact((Below.refl _ w).alloc L0q _).alloc (by simp) _
 have hM1:W1.heap[w.heap.size]? =some (.cells #[.int .i64 2,.string T,.int .u64 a,.int .u64 b,.int .u64 c,.int .u64 d,.slice so n cap,.int .i64 p,.slice po pn pc,.int .i64 l] 137):=by rw[hW1];exact(Below.heap_alloc _ _ _ (by simp)).trans (Qq w _ rfl)
 have hR1:W1.heap[w.heap.size+1]? =some (.cells #[.int .u64 0,.int .u64 0,.int .u64 0,.int .u64 0,.bool false] 53):=by rw[hW1];exact Qq _ _ (by simp)
 have HAn:=hid (Fb W1);have HW1:=hid hW1;have HB1:=hid hB1;have HM1:=hid hM1;have HR1:=hid hR1;clear hW1 hB1 hM1 hR1;dsimp only[av,Xx]at HAn;go_enter func96,ntmps96
 go_wp2_with fail
 rw[<-HW1.out];clear HW1;refine HAn.out.mono ?_;rintro e w1 ⟨rfl,hb1⟩;obtain⟨oB,hoB⟩:∃oB,oB=w1.heap.size:=⟨_,rfl⟩;obtain⟨W2,hW2⟩:∃W2,W2=w1.alloc (.cells #[.int .u64 (wd Qj 0),.int .u64 (wd Qj 1),.int .u64 (wd Qj 2),.int .u64 (wd Qj 3),.bool true] 53):=⟨_,rfl⟩;have hn2:=(Below.refl _ w1).alloc L0q (.cells #[.int .u64 (wd Qj 0),.int .u64 (wd Qj 1),.int .u64 (wd Qj 2),.int .u64 (wd Qj 3),.bool true] 53);have hMw:=(hb1.block _ (Qz HM1.out)).trans HM1.out;have hRw:=(hb1.block _ (Qz HR1.out)).trans HR1.out;have hR2:=(hn2.block _ (Qz hRw)).trans hRw;have hO2:=Qq w1 (.cells #[.int .u64 (wd Qj 0),.int .u64 (wd Qj 1),.int .u64 (wd Qj 2),.int .u64 (wd Qj 3),.bool true] 53) rfl;have hB2:Below w.heap.size w w1:=HB1.out.trans (hb1.mono HB1.out.size);have HBw:=hid hB2;have HB2:=hid (hB2.alloc hB2.size (.cells #[.int .u64 (wd Qj 0),.int .u64 (wd Qj 1),.int .u64 (wd Qj 2),.int .u64 (wd Qj 3),.bool true] 53));have hlo:w.heap.size+1<w1.heap.size:=Qz hRw;obtain⟨⟨m0,m1,m2,m3,m4,m5,m6,m7,m8,m9⟩,-⟩:=Yy hMw;have lm:=Qz hMw;have hRc:=Qh hRw;rw[<-hW2]at hR2 hO2 HB2;have HR2:=hid hR2;have HW2:=hid hW2;rw[<-hoB]at hO2 hlo;have HO2:=hid hO2;clear hR2 hO2 hb1 hn2 hB2 HM1 HR1 HAn hW2 HB1 hMw;obtain⟨⟨q0,q1,q2,q3,q4⟩,g0,g1,g2,g3,g4⟩:=hRc;have lr:=Qz hRw;have HRw:=hid hRw;have hne:w1.heap.size≠w.heap.size+1:=by omega
 clear HW2 HB2 HR2 HO2 hRw
 go_wp2_with fail
 have hP:=Yk (v0:=.int .u64 (wd Qj 0)) (v1:=.int .u64 (wd Qj 1)) (v2:=.int .u64 (wd Qj 2)) (v3:=.int .u64 (wd Qj 3)) (v4:=.bool true) HRw.out;have hPA:=(Below.heap_alloc _ (.cells #[.int .u64 (wd Qj 0),.int .u64 (wd Qj 1),.int .u64 (wd Qj 2),.int .u64 (wd Qj 3),.bool true] 53) _ (Qz hP)).trans hP;obtain⟨⟨r0,r1,r2,r3,r4⟩,_⟩:=Qh hPA;unfold st5 at r0 r1 r2 r3 r4;refine bodyPost_ret (v:=av Xx) (by simp[results,Tryz.results96,go_sem,r0,r1,r2,r3,r4,Xx]) rfl ?_;have hg:=HBw.out.grown (Xp w1 (w.heap.size+1) (.int .u64 (wd Qj 0)) (.int .u64 (wd Qj 1)) (.int .u64 (wd Qj 2)) (.int .u64 (wd Qj 3)) (.bool true)) HBw.out.size (fun g e=>by have:=Option.some.inj e;omega);exact⟨rfl,hg.alloc hg.size _⟩
theorem y6X(m:Option Nat)(k:Int)(T:ByteArray)(a b c d:Int)(so:Option Addr)(n cap:Nat)(p:Int)(po:Option Addr)(pn pc:Nat)(l:Int)(w:World)(h2:k≠2)(h3:k≠3)(h4:k≠4):
  Calls prog 96 #[.map m,.agg #[.int .i64 k,.string T,.int .u64 a,.int .u64 b,.int .u64 c,.int .u64 d,.slice so n cap,.int .i64 p,.slice po pn pc,.int .i64 l]] w fun e w'=>e=.returned (av Xx)/\Below w.heap.size w w':=by
 have b2:(k == 2)=false:=by simp[h2]
 have b3:(k == 3)=false:=by simp[h3]
 have b4:(k == 4)=false:=by simp[h4]
 have e2:decide (k=2)=false:=by simp[h2]
 have e3:decide (k=3)=false:=by simp[h3]
 have e4:decide (k=4)=false:=by simp[h4]
 obtain⟨W1,hW1⟩:∃W1,W1=(w.alloc (.cells #[.int .i64 k,.string T,.int .u64 a,.int .u64 b,.int .u64 c,.int .u64 d,.slice so n cap,.int .i64 p,.slice po pn pc,.int .i64 l] 137)).alloc (.cells #[.int .u64 0,.int .u64 0,.int .u64 0,.int .u64 0,.bool false] 53):=⟨_,rfl⟩;have hB1:Below w.heap.size w W1:=by rw[hW1];exact((Below.refl _ w).alloc L0q _).alloc (by simp) _
 have hM1:W1.heap[w.heap.size]? =some (.cells #[.int .i64 k,.string T,.int .u64 a,.int .u64 b,.int .u64 c,.int .u64 d,.slice so n cap,.int .i64 p,.slice po pn pc,.int .i64 l] 137):=by rw[hW1];exact(Below.heap_alloc _ _ _ (by simp)).trans (Qq w _ rfl)
 have hR1:W1.heap[w.heap.size+1]? =some (.cells #[.int .u64 0,.int .u64 0,.int .u64 0,.int .u64 0,.bool false] 53):=by rw[hW1];exact Qq _ _ (by simp)
 have HAn:=hid (Fb W1);have HW1:=hid hW1;have HB1:=hid hB1;have HM1:=hid hM1;have HR1:=hid hR1;clear hW1 hB1 hM1 hR1;dsimp only[av,Xx]at HAn;go_enter func96,ntmps96
 go_wp2_with fail
 rw[<-HW1.out];clear HW1;refine HAn.out.mono ?_;rintro e w1 ⟨rfl,hb1⟩;obtain⟨oB,hoB⟩:∃oB,oB=w1.heap.size:=⟨_,rfl⟩;obtain⟨W2,hW2⟩:∃W2,W2=w1.alloc (.cells #[.int .u64 (wd Qj 0),.int .u64 (wd Qj 1),.int .u64 (wd Qj 2),.int .u64 (wd Qj 3),.bool true] 53):=⟨_,rfl⟩;have hn2:=(Below.refl _ w1).alloc L0q (.cells #[.int .u64 (wd Qj 0),.int .u64 (wd Qj 1),.int .u64 (wd Qj 2),.int .u64 (wd Qj 3),.bool true] 53);have hMw:=(hb1.block _ (Qz HM1.out)).trans HM1.out;have hRw:=(hb1.block _ (Qz HR1.out)).trans HR1.out;have hR2:=(hn2.block _ (Qz hRw)).trans hRw;have hO2:=Qq w1 (.cells #[.int .u64 (wd Qj 0),.int .u64 (wd Qj 1),.int .u64 (wd Qj 2),.int .u64 (wd Qj 3),.bool true] 53) rfl;have hB2:Below w.heap.size w w1:=HB1.out.trans (hb1.mono HB1.out.size);have HBw:=hid hB2;have HB2:=hid (hB2.alloc hB2.size (.cells #[.int .u64 (wd Qj 0),.int .u64 (wd Qj 1),.int .u64 (wd Qj 2),.int .u64 (wd Qj 3),.bool true] 53));have hlo:w.heap.size+1<w1.heap.size:=Qz hRw;obtain⟨⟨m0,m1,m2,m3,m4,m5,m6,m7,m8,m9⟩,-⟩:=Yy hMw;have lm:=Qz hMw;have hRc:=Qh hRw;rw[<-hW2]at hR2 hO2 HB2;have HR2:=hid hR2;have HW2:=hid hW2;rw[<-hoB]at hO2 hlo;have HO2:=hid hO2;clear hR2 hO2 hb1 hn2 hB2 HM1 HR1 HAn hW2 HB1 hMw;obtain⟨⟨q0,q1,q2,q3,q4⟩,g0,g1,g2,g3,g4⟩:=hRc;have lr:=Qz hRw;have HRw:=hid hRw;have hne:w1.heap.size≠w.heap.size+1:=by omega
 clear HW2 HB2 HR2 HO2 hRw
 go_wp2_with fail
 have hP:=Yk (v0:=.int .u64 (wd Qj 0)) (v1:=.int .u64 (wd Qj 1)) (v2:=.int .u64 (wd Qj 2)) (v3:=.int .u64 (wd Qj 3)) (v4:=.bool true) HRw.out;have hPA:=(Below.heap_alloc _ (.cells #[.int .u64 (wd Qj 0),.int .u64 (wd Qj 1),.int .u64 (wd Qj 2),.int .u64 (wd Qj 3),.bool true] 53) _ (Qz hP)).trans hP;obtain⟨⟨r0,r1,r2,r3,r4⟩,_⟩:=Qh hPA;unfold st5 at r0 r1 r2 r3 r4;refine bodyPost_ret (v:=av Xx) (by simp[results,Tryz.results96,go_sem,r0,r1,r2,r3,r4,Xx]) rfl ?_;have hg:=HBw.out.grown (Xp w1 (w.heap.size+1) (.int .u64 (wd Qj 0)) (.int .u64 (wd Qj 1)) (.int .u64 (wd Qj 2)) (.int .u64 (wd Qj 3)) (.bool true)) HBw.out.size (fun g e=>by have:=Option.some.inj e;omega);exact⟨rfl,hg.alloc hg.size _⟩
theorem y6Y{A:ByteArray->Ot}{w:World}{P:Nat->Prop}{t:RT}{c:List Value}(h:Zv A w P t c):∃k1 T1 a1 b1 c1 d1 so1 n1 cap1 p1 po1 pn1 pc1 l1,c=r10 k1 T1 a1 b1 c1 d1 so1 n1 cap1 p1 po1 pn1 pc1 l1:=by
 obtain⟨k,T,a,b,c0,d,s,p⟩:=t;rw[Zv]at h;obtain⟨so,n,cap,po,pc,rfl,_⟩:=h;exact⟨_,_,_,_,_,_,_,_,_,_,_,_,_,_,rfl⟩
theorem z6H{A:ByteArray->Ot}{w:World}{P:Nat->Prop}{g:Nat}{cur:Array Value}{s:List RT}(hg:w.heap[g]? =some (.cells cur 137))(h:Ql A w P s cur.toList)(j:Nat)(hj:j<s.length):∃k1 T1 a1 b1 c1 d1 so1 n1 cap1 p1 po1 pn1 pc1 l1,Mc w g (j*10) k1 T1 a1 b1 c1 d1 so1 n1 cap1 p1 po1 pn1 pc1 l1/\Zv A w P s[j] (r10 k1 T1 a1 b1 c1 d1 so1 n1 cap1 p1 po1 pn1 pc1 l1):=by
 obtain⟨c,h1,h2⟩:=Ql.at s _ j hj h;obtain⟨k1,T1,a1,b1,c1,d1,so1,n1,cap1,p1,po1,pn1,pc1,l1,rfl⟩:=y6Y h1;have e:∀(i:Nat) (u:Value),(r10 k1 T1 a1 b1 c1 d1 so1 n1 cap1 p1 po1 pn1 pc1 l1)[i]? =some u->w.cell? ⟨g,j*10+i,none⟩=some u:=fun i u hu=>(Qf hg (j*10+i) u (by rw[<-Array.getElem?_toList];exact h2 i u hu)).1
 exact⟨k1,T1,a1,b1,c1,d1,so1,n1,cap1,p1,po1,pn1,pc1,l1,⟨e 0 _ rfl,e 1 _ rfl,e 2 _ rfl,e 3 _ rfl,e 4 _ rfl,e 5 _ rfl,e 6 _ rfl,e 7 _ rfl,e 8 _ rfl,e 9 _ rfl⟩,h1⟩
theorem Zv.below{A:ByteArray->Ot}{w w':World}{t:RT}{c:List Value}(h:Zv A w (fun _=>True) t c)(hb:Below w.heap.size w w'):Zv A w' (fun _=>True) t c:=Zv.kept (fun g cur _ hg=>⟨hb.block g (Qz hg),trivial⟩) t c h
theorem y6Z(A:ByteArray->Ot)(F:ByteArray->Ah)(m:Option Nat)(P:Nat->Prop)(u:RT)(k:Int)(T:ByteArray)(a b c d:Int)(so:Option Addr)(n cap:Nat)(p:Int)(po:Option Addr)(pn pc:Nat)(l:Int)(w:World)(hu:Zv A w P u (r10 k T a b c d so n cap p po pn pc l))(hb:(afT A F u).1<2^256)
  (HQ:Hid (∀W:World,Below w.heap.size w W->Calls prog 62 #[.map m,.agg (r10 k T a b c d so n cap p po pn pc l).toArray] W fun e w'=>e=.returned (av (afT A F u))/\Below W.heap.size W w')):
  Calls prog 96 #[.map m,.agg (r10 k T a b c d so n cap p po pn pc l).toArray] w fun e w'=>e=.returned (av (afN A F [u]))/\Below w.heap.size w w':=by
 rw[afN];have hk:rtK u=k/\rtT u=T:=by
  obtain⟨k',T',a',b',c',d',s',p'⟩:=u;rw[Zv]at hu;obtain⟨so',n',cap',po',pc',e,_⟩:=hu;simp only[List.cons.injEq,Value.int.injEq,Value.string.injEq,true_and]at e;exact⟨e.1.symm,e.2.1.symm⟩
 obtain⟨⟨Y,y⟩,hY⟩:∃Y,Y=afT A F u:=⟨_,rfl⟩;rw[<-hY]at HQ hb ⊢;unfold Dl;rw[hk.1,hk.2];by_cases h2:k=2
 ·subst h2
  by_cases hT:T.size=1
  ·rw[if_pos (by simp[hT])]
   exact y6R m Y y hb T a b c d so n cap p po pn pc l w hT HQ
  ·rw[if_neg (by simp[hT])]
   exact y6W m T a b c d so n cap p po pn pc l w hT
 by_cases h3:k=3
 ·subst h3
  rw[if_pos (by simp)];exact y6T m Y y hb T a b c d so n cap p po pn pc l w HQ
 by_cases h4:k=4
 ·subst h4
  rw[if_pos (by simp)];exact y6V m Y y hb T a b c d so n cap p po pn pc l w HQ
 rw[if_neg (by simp[h2,h3,h4])];exact y6X m k T a b c d so n cap p po pn pc l w h2 h3 h4
theorem z6I(A:ByteArray->Ot)(lN:List ByteArray)(B nn:Nat)(F:ByteArray->Ah)(hF:BdA F):∀(Q:Nat) (t:RT),SizeOf.sizeOf t<Q->∀(cs:List Value) (w:World),Zv A w (fun _=>True) t cs->Fit lN t->RtU t->Na w B nn F->Calls prog 62 #[.map (some B),.agg cs.toArray] w fun e w'=>e=.returned (av (afT A F t))/\Below w.heap.size w w'
 |0,t,h=>by omega
 |Q+1,.mk k T a b c d s p,h=>by
  intro cs w ht hf hu hM;have hlen:=hf.len;have hT:T.size<=9223372036854775807:=by have:=hf.z;rw[RtZ]at this;exact this.1
  have hok:=hf.ok;rw[okT,Bool.and_eq_true]at hok;rw[Zv]at ht;obtain⟨so,n,cap,po,pc,rfl,hso⟩:=ht;rw[RtU]at hu;have hB:=hM.lt;have hsub:∀j (hj:j<s.length),∃g,po=some ⟨g,0,none⟩/\g<w.heap.size/\∃k1 T1 a1 b1 c1 d1 so1 n1 cap1 p1 po1 pn1 pc1 l1,Mc w g (j*10) k1 T1 a1 b1 c1 d1 so1 n1 cap1 p1 po1 pn1 pc1 l1/\Zv A w (fun _=>True) s[j] (r10 k1 T1 a1 b1 c1 d1 so1 n1 cap1 p1 po1 pn1 pc1 l1)/\∀W:World,Below w.heap.size w W->Calls prog 62 #[.map (some B),.agg (r10 k1 T1 a1 b1 c1 d1 so1 n1 cap1 p1 po1 pn1 pc1 l1).toArray] W fun e w'=>e=.returned (av (afT A F s[j]))/\Below W.heap.size W w':=fun j hj=>by
   rcases hso with h0|⟨_,g,cur,e1,_,e2,e3,e4⟩
   ·have hs0:s=[]:=by simpa using h0
    subst hs0;simp at hj
   ·obtain⟨k1,T1,a1,b1,c1,d1,so1,n1,cap1,p1,po1,pn1,pc1,l1,h3,h4⟩:=z6H e2 e4 j hj
    refine⟨g,e1,Qz e2,k1,T1,a1,b1,c1,d1,so1,n1,cap1,p1,po1,pn1,pc1,l1,h3,h4,fun W hW=> ?_⟩;refine z6I A lN B nn F hF Q s[j] ?_ _ W (h4.below hW) (hf.sub j hj) (z0G hu.2.2.2.2 j hj) (hM.below hW hB);have h1:=List.sizeOf_lt_of_mem (List.getElem_mem hj);simp only[RT.mk.sizeOf_spec]at h;omega
  rw[afT];dsimp only[r10];have one:s.length=1->∃u g,s=[u]/\po=some ⟨g,0,none⟩/\g<w.heap.size/\∃k1 T1 a1 b1 c1 d1 so1 n1 cap1 p1 po1 pn1 pc1 l1,Mc w g 0 k1 T1 a1 b1 c1 d1 so1 n1 cap1 p1 po1 pn1 pc1 l1/\Zv A w (fun _=>True) u (r10 k1 T1 a1 b1 c1 d1 so1 n1 cap1 p1 po1 pn1 pc1 l1)/\∀W:World,Below w.heap.size w W->Calls prog 62 #[.map (some B),.agg (r10 k1 T1 a1 b1 c1 d1 so1 n1 cap1 p1 po1 pn1 pc1 l1).toArray] W fun e w'=>e=.returned (av (afT A F u))/\Below W.heap.size W w':=fun h1=>by
   obtain⟨u,rfl⟩:∃u,s=[u]:=by
    cases s with
    |nil=>simp at h1
    |cons u r=>cases r with
     |nil=>exact⟨u,rfl⟩
     |cons v r=>simp at h1
   obtain⟨g,e1,e2,k1,T1,a1,b1,c1,d1,so1,n1,cap1,p1,po1,pn1,pc1,l1,h3,h4,h5⟩:=hsub 0 (by simp);exact⟨u,g,rfl,e1,e2,k1,T1,a1,b1,c1,d1,so1,n1,cap1,p1,po1,pn1,pc1,l1,by simpa using h3,h4,h5⟩
  rcases Oz hok.1 with(rfl|rfl|rfl|rfl|rfl|rfl|rfl)|⟨hk,h1⟩
  ·rw[if_neg (by decide),if_pos (by decide)]
   exact y6z (some B) Xx T a b c d so n cap p po _ pc _ w (hid fun W _=>Fb W)
  ·rw[if_pos rfl]
   by_cases h0:T.size=0
   ·rw[if_pos h0]
    refine y6C (some B) Xx T a b c d so n cap p po _ pc _ w ?_ (hid fun W _=>Fb W);exact Ml (y3y h0)
   ·rw[if_neg h0]
    have h00:0<T.size:=by omega
    have e:T.data[0]? =some T[0]:=by
     rw[Array.getElem?_eq_getElem (show 0<T.data.size from h00)];rfl
    rw[e];exact y6D (some B) (2^(T[0]).toNat) (T[0]).toNat T a b c d so n cap p po _ pc _ w (z5m h0) h00 rfl (hid fun W _=>y6q _ (T[0]).toNat_lt W)
  ·rw[if_neg (by decide),if_neg (by decide),if_pos rfl]
   obtain⟨e0,e1,e2,e3⟩:=y6y ⟨hu.1,hu.2.1,hu.2.2.1,hu.2.2.2.1⟩;exact y6K (some B) T a b c d so n cap p po _ pc _ w (cl4 a b c d) e0.symm e1.symm e2.symm e3.symm
  ·rw[if_neg (by decide),if_neg (by decide),if_neg (by decide),if_pos rfl]
   exact y6E (some B) Qj T a b c d so n cap p po _ pc _ w (hid fun W _=>z6y W)
  ·rw[if_neg (by decide),if_neg (by decide),if_neg (by decide),if_neg (by decide),if_pos rfl]
   exact y6L B nn F T a b c d so n cap p po _ pc _ w hM hT
  ·rw[if_neg (by decide),if_neg (by decide),if_neg (by decide),if_neg (by decide),if_neg (by decide),if_pos rfl]
   refine y6F (some B) (afS A F true Xx s) T a b c d so n cap p po _ pc _ w (hid fun W hW=> ?_);refine y6P (some B) A F T a b c d so n cap p po _ pc _ s W (by rw[Zh];omega) (Zh s) rfl (hid fun j hj=> ?_);obtain⟨g,h1,h2,k1,T1,a1,b1,c1,d1,so1,n1,cap1,p1,po1,pn1,pc1,l1,h3,_,h4⟩:=hsub j hj;exact⟨g,h1,Nat.lt_of_lt_of_le h2 hW.size,k1,T1,a1,b1,c1,d1,so1,n1,cap1,p1,po1,pn1,pc1,l1,h3.below hW h2,fun W2 h5=>h4 W2 (hW.trans (h5.mono hW.size))⟩
  ·rw[if_neg (by decide),if_neg (by decide),if_neg (by decide),if_neg (by decide),if_neg (by decide),if_neg (by decide),if_pos rfl]
   refine y6G (some B) (afA A F (0,false) s) T a b c d so n cap p po _ pc _ w (hid fun W hW=> ?_);refine y6N (some B) A F po _ pc s W (by rw[Zh];omega) (Zh s) (hid fun j hj=> ?_);obtain⟨g,h1,h2,k1,T1,a1,b1,c1,d1,so1,n1,cap1,p1,po1,pn1,pc1,l1,h3,_,h4⟩:=hsub j hj;exact⟨g,h1,Nat.lt_of_lt_of_le h2 hW.size,k1,T1,a1,b1,c1,d1,so1,n1,cap1,p1,po1,pn1,pc1,l1,h3.below hW h2,fun W2 h5=>h4 W2 (hW.trans (h5.mono hW.size))⟩
  ·rw[Zh]at h1
   rcases hk with rfl|rfl|rfl|rfl|rfl
   ·rw[if_neg (by decide),if_pos (by decide)]
    exact y6A (some B) Xx T a b c d so n cap p po _ pc _ w (hid fun W _=>Fb W)
   ·rw[if_neg (by decide),if_pos (by decide)]
    exact y6B (some B) Xx T a b c d so n cap p po _ pc _ w (hid fun W _=>Fb W)
   ·obtain⟨u,g,rfl,rfl,h2,k1,T1,a1,b1,c1,d1,so1,n1,cap1,p1,po1,pn1,pc1,l1,h3,_,h4⟩:=one h1
    rw[if_neg (by decide),if_neg (by decide),if_neg (by decide),if_neg (by decide),if_neg (by decide),if_neg (by decide),if_neg (by decide),if_neg (by decide),afH];exact y6I (some B) (afT A F u) T a b c d so n cap p g 0 pc _ w k1 T1 a1 b1 c1 d1 so1 n1 cap1 p1 po1 pn1 pc1 l1 h2 h3 (hid h4)
   ·obtain⟨u,g,rfl,rfl,h2,k1,T1,a1,b1,c1,d1,so1,n1,cap1,p1,po1,pn1,pc1,l1,h3,_,h4⟩:=one h1
    rw[if_neg (by decide),if_neg (by decide),if_neg (by decide),if_neg (by decide),if_neg (by decide),if_neg (by decide),if_neg (by decide),if_neg (by decide),afH];exact y6J (some B) (afT A F u) T a b c d so n cap p g 0 pc _ w k1 T1 a1 b1 c1 d1 so1 n1 cap1 p1 po1 pn1 pc1 l1 h2 h3 (hid h4)
   ·obtain⟨u,g,rfl,rfl,h2,k1,T1,a1,b1,c1,d1,so1,n1,cap1,p1,po1,pn1,pc1,l1,h3,hq,h4⟩:=one h1
    rw[if_neg (by decide),if_neg (by decide),if_neg (by decide),if_neg (by decide),if_neg (by decide),if_neg (by decide),if_neg (by decide),if_pos rfl];have hbu:=Oh A hF u (by have:=hu.2.2.2.2;rw[Xq]at this;exact this.1);exact y6H (some B) (afN A F [u]) T a b c d so n cap p g 0 pc _ w k1 T1 a1 b1 c1 d1 so1 n1 cap1 p1 po1 pn1 pc1 l1 h2 h3 (hid fun W hW=>y6Z A F (some B) (fun _=>True) u k1 T1 a1 b1 c1 d1 so1 n1 cap1 p1 po1 pn1 pc1 l1 W (hq.below hW) hbu (hid fun W2 h5=>h4 W2 (hW.trans (h5.mono hW.size))))
theorem y7a(A:ByteArray->Ot)(lN:List ByteArray)(B nn:Nat)(F:ByteArray->Ah)(t:RT)(cs:List Value)(w:World)(hF:BdA F)(ht:Zv A w (fun _=>True) t cs)(hf:Fit lN t)(hu:RtU t)(hM:Na w B nn F):Calls prog 62 #[.map (some B),.agg cs.toArray] w fun e w'=>e=.returned (av (afT A F t))/\Below w.heap.size w w':=
 z6I A lN B nn F hF _ t (Nat.lt_succ_self _) cs w ht hf hu hM
section
attribute [local go_sem] Oper.semAt_some
structure By (A:ByteArray->Ot) (w:World) (B:Nat) (ts:List RT) where
 i:Nat
 t:RT
 k:Int
 T:ByteArray
 a:Int
 b:Int
 c:Int
 d:Int
 so:Option Addr
 n:Nat
 cap:Nat
 p:Int
 po:Option Addr
 pn:Nat
 pc:Nat
 l:Int
 e:ts[i]? =some t
 rt:Zv A w (fun g=>g<B) t (r10 k T a b c d so n cap p po pn pc l)
section
variable {A:ByteArray->Ot} {w:World} {B:Nat} {ts:List RT}
@[reducible] def By.v (x:By A w B ts):Value:=.agg #[.int .i64 x.k,.string x.T,.int .u64 x.a,.int .u64 x.b,.int .u64 x.c,.int .u64 x.d,.slice x.so x.n x.cap,.int .i64 x.p,.slice x.po x.pn x.pc,.int .i64 x.l]
@[reducible] def By.vs (x:By A w B ts):Array Value:=#[.int .i64 (x.i:Int),x.v]
end
structure Nh (A:ByteArray->Ot) (w:World) (B g n:Nat) (ts:List RT):Prop where
 len:n=ts.length
 le:n<=maxLen
 lt:g<B
 at':∀j (hj:j<ts.length),∃k1 T1 a1 b1 c1 d1 so1 n1 cap1 p1 po1 pn1 pc1 l1,Mc w g (j*10) k1 T1 a1 b1 c1 d1 so1 n1 cap1 p1 po1 pn1 pc1 l1/\Zv A w (fun g=>g<B) ts[j] (r10 k1 T1 a1 b1 c1 d1 so1 n1 cap1 p1 po1 pn1 pc1 l1)
structure Yc (A:ByteArray->Ot) (w:World) (B Bt:Nat) (ts:List RT) (l N:Nat) (J Jx:List (By A w B ts)->World->Prop):Prop where
 call:∀m pre (x:By A w B ts) W,J pre W->pre.length<N->YieldAt Fence.wide m prog l x.vs W fun e W'=>
  (e=.returned (.bool true)/\J (pre++[x]) W'/\Kb B Bt W W')∨(e=.returned (.bool false)/\Jx (pre++[x]) W')
section
variable {A:ByteArray->Ot} {w:World} {B Bt:Nat} {ts:List RT} {l:Nat} {J Jx:List (By A w B ts)->World->Prop}
theorem y7b(n cap:Nat)(hY:Yc A w B Bt ts l n J Jx)(g:Nat)(m:Nat)(W:World)(h:Nh A w B g n ts)(hb:Boxed w Bt 135 (.slice (some ⟨g,0,none⟩) n cap))(hW:Below w.heap.size w W)(hJ:J [] W):
  CallsIn Fence.wide m prog 90 #[.func (.yield l) #[] #[],.pointer (some ⟨Bt,0,none⟩)] W fun e W'=>(∃v,e=.returned v)/\((∃q:List (By A w B ts),q.map By.i=(List.range n).reverse/\J q W')∨∃q:List (By A w B ts),Jx q W'):=by
 have hdd:=Xc;have hk0:Kb B Bt w W:=Kb.below hW;have HK0:=hid hk0;have hn:n<=9223372036854775807:=by have:=h.le;unfold maxLen at this;omega
 have HR:=hid h.at';have hg:=h.lt;have HNl:Hid (n=ts.length):=h.len;have cb:W.cell? ⟨Bt,0,none⟩=some (.slice (some ⟨g,0,none⟩) n cap):=Boxed.cell (show W.heap[Bt]? =_ from hk0.2.2 _ hb);have HBx:=hid hb;have HY:=hid hY;have HJ:=hid hJ;clear hk0 h hW hY hJ hb;refine callsIn_of_wp func90 rfl trivial ?_ rfl;simp only[ntmps90,List.size_toArray,List.length_cons,List.length_nil,Nat.reduceAdd,Nat.reduceSub,Array.replicate_succ,Array.replicate_zero,List.push_toArray,List.append_toArray,List.nil_append,List.cons_append]
 gi_wp2
 clear cb
 gi_loopw [3] (fun i wr=>∃r:Nat,i=.int .i64 ((r:Int)-1)/\r<=n/\Hid (∃q:List (By A w B ts),q.map By.i=((List.range n).drop r).reverse/\J q wr)/\Hid (Kb B Bt w wr)) (fun i _=>(intOf i+1).toNat)
 case atStart=>exact⟨n,rfl,Nat.le_refl _,hid ⟨[],by simp,HJ.out⟩,HK0⟩
 case round=>
  obtain⟨r,rfl,hr,HJr,HKr⟩:=hrel;cases r with
  |zero=>
   have a0:decide ((0:Int)<=((0:Nat):Int)-1)=false:=by decide
   obtain⟨q,hq,hJq⟩:=HJr.out;clear HJr
   gi_wp2
   go_end0
   exact⟨⟨_,rfl⟩,.inl ⟨q,by simpa using hq,hJq⟩⟩
  |succ r=>
   have e:((r+1:Nat):Int)-1=(r:Int):=by omega
   rw[e];clear e;have a0:decide ((0:Int)<=(r:Int))=true:=by simp
   have hrn:(r:Int)<(n:Int):=by omega
   have hw:IntKind.i64.wrap ((r:Int)-1)=(r:Int)-1:=by rw[IntKind.wrap_i64];omega
   have hrs:r<ts.length:=by rw[<-HNl.out];omega
   obtain⟨k1,T1,a1,b1,c1,d1,so1,n1,cap1,p1,po1,pn1,pc1,l1,⟨z0,z1,z2,z3,z4,z5,z6,z7,z8,z9⟩,rt1⟩:=HR.out r hrs;have x0:=HKr.out.cell hg z0;have x1:=HKr.out.cell hg z1;have x2:=HKr.out.cell hg z2;have x3:=HKr.out.cell hg z3;have x4:=HKr.out.cell hg z4;have x5:=HKr.out.cell hg z5;have x6:=HKr.out.cell hg z6;have x7:=HKr.out.cell hg z7;have x8:=HKr.out.cell hg z8;have x9:=HKr.out.cell hg z9;have hgl:g<wr.heap.size:=World.block_lt_of_cell? wr _ x0;have cb:wr.cell? ⟨Bt,0,none⟩=some (.slice (some ⟨g,0,none⟩) n cap):=Boxed.cell (show wr.heap[Bt]? =_ from HKr.out.2.2 _ HBx.out);obtain⟨q,hq,hJq⟩:=HJr.out;have hql:q.length<n:=by
    have:=congrArg List.length hq;simp at this;omega
   obtain⟨fn,tmps,assign,Qc,hy,hR⟩:=HY.out.call (m-1) q ⟨r,ts[r],k1,T1,a1,b1,c1,d1,so1,n1,cap1,p1,po1,pn1,pc1,l1,List.getElem?_eq_getElem hrs,rt1⟩ wr hJq hql;have HRy:=hid hR;have HQ:Hid (q.map By.i=((List.range n).drop (r+1)).reverse):=hq;clear hR hq hJq hql HJr z0 z1 z2 z3 z4 z5 z6 z7 z8 z9;dsimp only[By.vs,By.v]at hy;have hdr:(List.range n).drop r=r::(List.range n).drop (r+1):=by
    rw[List.drop_eq_getElem_cons (by simp;omega)];simp
   have HD:=hid hdr;clear hdr
   gi_wp2
   refine⟨hdd _,HRy.out.mono ?_⟩;clear HRy hy x0 x1 x2 x3 x4 x5 x6 x7 x8 x9 cb;rintro e W4 (⟨rfl,hJ4,hk4⟩|⟨rfl,hx4⟩)
   ·gi_wp2
    go_roundw
    case rel=>exact⟨r,rfl,by omega,hid ⟨_,by rw[List.map_append,HQ.out,HD.out];simp,hJ4⟩,hid (HKr.out.trans hk4)⟩
    case measure=>simp[intOf]
   ·gi_wp2
    refine bodyPost_ret (results_none rfl _ _ _) rfl ?_;exact⟨⟨_,rfl⟩,.inr ⟨_,hx4⟩⟩
end
theorem y7c{A:ByteArray->Ot}{w:World}{B Bt:Nat}{ts:List RT}(n cap:Nat)(g:Nat)(m:Nat)(h:Nh A w B g n ts)(hb:Boxed w Bt 135 (.slice (some ⟨g,0,none⟩) n cap)):
  SeqStopsK Fence.wide m prog 90 #[.pointer (some ⟨Bt,0,none⟩)] (fun x:By A w B ts=>x.vs) (Kb B Bt) (fun ys=>ys.map By.i=(List.range n).reverse) (fun _=>True) n w:=by
 intro l J Jx W hW hJ hJx hY h0;have yl:Yc A w B Bt ts l n J Jx:=⟨fun m' pre x W1 h hl=>by
  refine YieldAt.mono (Ic rfl m' (hY pre x W1 h hl)) fun e' W' hh=> ?_
  rcases hh with⟨h1,h2,h3⟩|⟨h1,h2⟩
  ·exact .inl ⟨h1,h2,h3⟩
  ·exact .inr ⟨h1,h2⟩⟩
 refine(y7b n cap yl g m W h hb hW h0).mono fun e W' h=> ?_
 refine⟨h.1,?_⟩;rcases h.2 with h|⟨q,h⟩
 ·exact .inl h
 ·exact .inr ⟨q,trivial,h⟩
theorem y7d(m:Nat)(so:Option Addr)(n cap:Nat)(w:World):CallsIn Fence.wide m prog 61 #[.slice so n cap] w fun e w'=>e=.returned (.func (.func 90) #[] #[.pointer (some ⟨w.heap.size,0,none⟩)])/\w'=w.alloc (.cells #[.slice so n cap] 135):=by
 refine callsIn_of_wp func61 rfl trivial ?_ rfl;simp only[ntmps61,List.size_toArray,List.length_cons,List.length_nil,Nat.reduceAdd,Nat.reduceSub,Array.replicate_succ,Array.replicate_zero,List.push_toArray,List.append_toArray,List.nil_append,List.cons_append]
 gi_wp2
 go_ret;exact⟨rfl,rfl⟩
end
theorem y7e(n C D:Nat)(hC:C<2^256)(hD:D<2^256)(w:World):
  (Op.equalIn (n+2) 51 (.agg #[.int .u64 (wd C 0),.int .u64 (wd C 1),.int .u64 (wd C 2),.int .u64 (wd C 3)]) (.agg #[.int .u64 (wd D 0),.int .u64 (wd D 1),.int .u64 (wd D 2),.int .u64 (wd D 3)])).run prog w=.ok (decide (C=D)) w:=by
 rw[Sg];congr 1;by_cases h:C=D
 ·subst h;simp
 ·rw[decide_eq_false h]
  cases h0:((wd C 0:Nat):Int) == (wd D 0:Nat)<;>cases h1:((wd C 1:Nat):Int) == (wd D 1:Nat)<;>cases h2:((wd C 2:Nat):Int) == (wd D 2:Nat)<;>cases h3:((wd C 3:Nat):Int) == (wd D 3:Nat)<;>try rfl
  simp at h0 h1 h2 h3;exact absurd (Pj C D hC hD (by omega) (by omega) (by omega) (by omega)) h
theorem Tryz.structAh:Tryz.prog.underlying 53=some (.struct (Tryz.prog.fieldsOf 53)):=by kernel_rfl
theorem Tryz.plainAh:Tryz.prog.stoodInHeld 53=false:=by kernel_rfl
theorem Tryz.fieldsAh:(Tryz.prog.fieldsOf 53).toList.map (fun f=>(f.name,f.type,f.offset))=[("Class",51,0),("End",4,4)]:=by kernel_rfl
theorem y7f{l:List Field}{a b:String×TypeId×Nat}(h:l.map (fun f=>(f.name,f.type,f.offset))=[a,b]):∃f g,l=[f,g]/\(f.name,f.type,f.offset)=a/\(g.name,g.type,g.offset)=b:=by
 match l,h with
 |[f,g],h=>
  simp only[List.map_cons,List.map_nil,List.cons.injEq,and_true]at h;exact⟨f,g,rfl,h.1,h.2⟩
theorem y7g(a b:Ah)(ha:a.1<2^256)(hb:b.1<2^256)(w:World):(Op.equalIn 10000 53 (av a) (av b)).run prog w=.ok (decide (a=b)) w:=by
 obtain⟨C,x⟩:=a;obtain⟨D,y⟩:=b;obtain⟨f,g,hl,h1,h2⟩:=y7f Tryz.fieldsAh;unfold av;rw[run_equalIn_struct w 9999 _ _ _ Tryz.structAh Tryz.plainAh,hl];simp only[Prod.mk.injEq]at h1 h2;have q1:∀(x y z t u:Value) (w:World),(part 51 #[x,y,z,t,u] 0).run prog w=.ok (.agg #[x,y,z,t]) w:=fun _ _ _ _ _ _=>by kernel_rfl
 have q2:∀(x y z t u:Value) (w:World),(part 4 #[x,y,z,t,u] 4).run prog w=.ok u w:=fun _ _ _ _ _ _=>by kernel_rfl
 have e1:∀w:World,(Op.equalIn 9999 51 (.agg #[.int .u64 (wd C 0),.int .u64 (wd C 1),.int .u64 (wd C 2),.int .u64 (wd C 3)]) (.agg #[.int .u64 (wd D 0),.int .u64 (wd D 1),.int .u64 (wd D 2),.int .u64 (wd D 3)])).run prog w=.ok (decide (C=D)) w:=y7e 9997 C D ha hb;have e2:∀(w:World),(Op.equalIn 9999 4 (.bool x) (.bool y)).run prog w=.ok (x == y) w:=fun w=>by cases x<;>cases y<;>kernel_rfl
 have k1:("Class":String)≠"_":=by decide
 have k2:("End":String)≠"_":=by decide
 simp only[Op.eqFields,h1.1,h1.2.1,h1.2.2,h2.1,h2.2.1,h2.2.2,if_pos k1,if_pos k2,Sem.run_bind,q1,e1,Result.andThen_ok];by_cases g1:C=D
 ·subst g1
  by_cases g2:x=y
  ·subst g2
   simp[Result.andThen,q2,e2]
  ·have:(x == y)=false:=by simp[g2]
   simp[Result.andThen,q2,e2,this,g2]
 ·simp[g1]
section
section
variable {P:Program} {md:Region.Mode} {ops:Array Oper} {Q:Exit->Act->World->Prop} {S:World->Prop} {z:Nat}
theorem y7h{l n:Nat}{o:Oper}{a:Act}{w:World}{K:Act->World->Prop}(hd:∀c,o.op≠.defer c)(h:o.wp P a w K Q):o.wpIn (Fence.wide.inRound l) n P a w K Q:=by
 unfold Oper.wpIn;refine⟨fun _ _=>trivial,?_⟩;rw[Oper.semAt_eq _ _ _ hd];unfold Oper.wp at h;generalize(execOp a.eval o).run P w=r at h ⊢;cases r with
 |ok x w'=>
  cases x<;>simp only[Oper.upon,Oper.uponIn]at h ⊢
  case value=>exact h
  case skip=>exact h
  case defer=>exact h
  case enter f args=>exact⟨(fun e=>by cases e),(callsIn_wide.2 h).inRound l⟩
  case row=>exact⟨(fun e=>by cases e),fun c cs _=>let⟨v,w',r,s⟩:=h c cs;⟨v,w',r,stepsIn_wide.2 s⟩⟩
 |halt x w'=>cases x<;>simp only[Oper.upon,Oper.uponIn]at h ⊢ <;>exact h
def Oc(ops:Array Oper):Bool:=ops.toList.all fun o=>match o.op with
 | .defer _=>false
 |_=>true
theorem y7i(h:Oc ops=true){i:Nat}{o:Oper}(ho:ops[i]? =some o):∀c,o.op≠.defer c:=fun c e=>by
 unfold Oc at h;rw[List.all_eq_true]at h;have:=h o (by rw[Array.mem_toList_iff];exact Array.mem_of_getElem? ho);rw[e]at this;cases this
theorem Ol{l m:Nat}{R:Act->World->Prop}(hd:Oc ops=true):∀(n:Nat) (ls:Array Bool) (a:Act) (w:World),wpAny P md ops (fun e a' w'=>e=.normal/\R a' w') n ls a w->wpAnyIn (Fence.wide.inRound l) m P md ops (fun e a' w'=>e=.normal/\R a' w') n ls a w
 |0,_,_,_,h=>h
 |n+1,ls,a,w,h=>by
  refine⟨h.1,fun i hi=> ?_⟩;have h2:=h.2 i hi;unfold wpOp at h2;unfold wpOpIn;cases ho:ops[i]? with
  |none=>rw[ho]at h2;exact Ol hd n _ a w h2
  |some o=>
   rw[ho]at h2;simp only at h2 ⊢;by_cases hw:Region.wanted o (yielded ops a.tmps)=true
   ·rw[if_pos hw]at h2 ⊢
    rcases h2 with h3|⟨_,a',w',h4,_⟩
    ·exact Oper.wpIn_mono (fun a w k=>Ol hd n _ a w k) (y7h (y7i hd ho) h3)
    ·cases h4
   ·rw[if_neg hw]at h2 ⊢
    exact⟨fun _ _=>trivial,Ol hd n _ _ w h2⟩
theorem y7j{id l m:Nat}{a:Act}{w:World}(z:Nat)(S:World->Prop)(hm:P.follows .mixedOrders=true)(hd:Oc ops=true)(hS:S w.drew)
  (h:S w.drew->Yg P .any ops (fun e a' w'=>e=.normal/\Q .normal a' w') S z ops.size (Array.replicate ops.size false) a w.drew):(Code.region id ops true).wpIn (Fence.wide.inRound l) m P Q a w:=
 wpIn_mono (wpIn_region_any hm (Ol hd _ _ _ _ (z0t _ _ _ _ (h hS)))) (fun e a w q=>by obtain⟨rfl,q⟩:=q;exact q)
theorem y7k{i j:Nat}{o o':Oper}{n:Nat}{l:Array Bool}{a:Act}{w:World}(hr:Region.ready md ops l=[i,j])(ho:ops[i]? =some o)(ho':ops[j]? =some o')
  (h:∀K':Act->World->Prop,Shut (∀a w,S w->Yg P md ops Q S z n (l.setIfInBounds i true) a w->K' a w)->if Region.wanted o (yielded ops a.tmps)=true then Oper.wp P o a w K' Q else K' (a.put o.dst undef) w)
  (h':∀K':Act->World->Prop,Shut (∀a w,S w->Yg P md ops Q S z n (l.setIfInBounds j true) a w->K' a w)->if Region.wanted o' (yielded ops a.tmps)=true then Oper.wp P o' a w K' Q else K' (a.put o'.dst undef) w):Yg P md ops Q S z (n+1) l a w:=by
 refine⟨(fun h0=>by rw[hr]at h0;cases h0),fun k hk=> ?_⟩;rw[hr,List.mem_cons,List.mem_singleton]at hk;rcases hk with rfl|rfl
 ·exact wpOp_step ho fun K' hK=>h K' fun a w hS hW=>hK a w ⟨fun _=>hS,hW⟩
 ·exact wpOp_step ho' fun K' hK=>h' K' fun a w hS hW=>hK a w ⟨fun _=>hS,hW⟩
end
end
end Go.Proofs.YtgmcjddjdidpjaaGreatDoor
