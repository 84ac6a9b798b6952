/- Lemmas for the last text. Conditions: those that each names. -/
import Derived.Test.YtjodljnddflgfaaGreatDoorEO22
import Derived.Deep.RegionHeld3
import Derived.Test.YtjodljnddflgfaaGreatDoorER2ToO7
import Derived.Test.YtjodljnddflgfaaGreatDoorEO11ToO16
import Derived.Test.YtjodljnddflgfaaGreatDoorVFIToFBase
set_option linter.unusedVariables false
set_option maxRecDepth 100000
set_option maxHeartbeats 8000000
namespace Go.Proofs.YtjodljnddflgfaaGreatDoor
open Go.Proofs.Tryz
open Go.RowKit Go.Shelf
mutual
def RtB:RT->Prop
 | .mk k T a b c d s p=>T.size<=281474976710656/\Zw s*88<=140737488351232/\y3V s
def y3V:List RT->Prop
 |[]=>True
 |t::r=>RtB t/\y3V r
end
theorem y3V.at:∀{s:List RT},y3V s->∀(j:Nat) (h:j<s.length),RtB s[j]
 |[],_,j,h=>by simp at h
 |t::r,hv,0,_=>by rw[y3V]at hv;exact hv.1
 |t::r,hv,j+1,h=>by rw[y3V]at hv;exact hv.2.at j (by simpa using h)
theorem y4B:∀(N:Nat) (k:Int) (T:ByteArray) (a b c d:Int) (s:List RT) (p:Int) (so:Option Addr) (cap B:Nat) (w:World),SizeOf.sizeOf s<N->RtB (.mk k T a b c d s p)->(s.isEmpty=true∨(s.isEmpty=false/\∃g o,so=some ⟨g,o,none⟩/\g<B/\Zw s<=maxLen/\Qc w B g o s))->B<=w.heap.size->
  Calls prog 84 #[.agg #[.int .i64 k,.string T,.int .u64 a,.int .u64 b,.int .u64 c,.int .u64 d,.slice so (Zw s) cap,.int .i64 p]] w (CnA (.mk k T a b c d s p) w)
 |0,_,_,_,_,_,_,s,_,_,_,_,_,h,_,_,_=>by omega
 |N+1,k,T,a,b,c,d,s,p,so,cap,B,w,hN,hS,ht,hB=>by
  rw[RtB]at hS;refine y5u k T a b c d p so (Zw s) cap s w hS.1 (hid (Xc s)) hS.2.1 (hid fun j hj=> ?_);rcases ht with h1|⟨h1,g,o,rfl,hg,hm,hs⟩
  ·have hs0:s=[]:=by simpa using h1
   subst hs0;simp at hj
  ·obtain⟨k1,T1,a1,b1,c1,d1,so1,n1,cap1,p1,r1,r2⟩:=Ab hs j hj
   have hsj:=hS.2.2.at j hj;have hsz:=List.sizeOf_lt_of_mem (List.getElem_mem hj);refine⟨g,o,rfl,by omega,k1,T1,a1,b1,c1,d1,so1,n1,cap1,p1,r2,fun W hb=> ?_⟩;obtain⟨t,ht⟩:∃t,t=s[j]:=⟨_,rfl⟩;rw[<-ht]at r1 hsj hsz ⊢;obtain⟨k',T',a',b',c',d',s1,p'⟩:=t;rw[Qk]at r1;obtain⟨so',cap',e,hr⟩:=r1;simp only[List.cons.injEq,Value.int.injEq,Value.string.injEq,Value.slice.injEq,true_and,and_true]at e;obtain⟨rfl,rfl,rfl,rfl,rfl,rfl,⟨rfl,rfl,rfl⟩,rfl⟩:=e;simp only[RT.mk.sizeOf_spec]at hsz;refine y4B N _ _ _ _ _ _ s1 _ _ _ B W (by omega) hsj ?_ (Nat.le_trans hB hb.size);rcases hr with h2|⟨h2,g1,o1,h3,h4,h5,h6⟩
   ·exact .inl h2
   ·exact .inr ⟨h2,g1,o1,h3,h4,h5,h6.below h4 (hb.mono hB)⟩
theorem y5v{w W W':World}{y0 y1 y2 y3 y4 y5 y6 y7 y8 y9:Value}(h:Hid (Below w.heap.size w W)/\W.cell? ⟨w.heap.size,0,none⟩=some (y0)/\W.cell? ⟨w.heap.size,1,none⟩=some (y1)/\W.cell? ⟨w.heap.size,2,none⟩=some (y2)/\W.cell? ⟨w.heap.size,3,none⟩=some (y3)/\W.cell? ⟨w.heap.size,4,none⟩=some (y4)/\W.cell? ⟨w.heap.size,5,none⟩=some (y5)/\W.cell? ⟨w.heap.size,6,none⟩=some (y6)/\W.cell? ⟨w.heap.size,7,none⟩=some (y7)/\W.cell? ⟨w.heap.size,8,none⟩=some (y8)/\W.cell? ⟨w.heap.size,9,none⟩=some (y9))(hb:Below W.heap.size W W'):Hid (Below w.heap.size w W')/\W'.cell? ⟨w.heap.size,0,none⟩=some (y0)/\W'.cell? ⟨w.heap.size,1,none⟩=some (y1)/\W'.cell? ⟨w.heap.size,2,none⟩=some (y2)/\W'.cell? ⟨w.heap.size,3,none⟩=some (y3)/\W'.cell? ⟨w.heap.size,4,none⟩=some (y4)/\W'.cell? ⟨w.heap.size,5,none⟩=some (y5)/\W'.cell? ⟨w.heap.size,6,none⟩=some (y6)/\W'.cell? ⟨w.heap.size,7,none⟩=some (y7)/\W'.cell? ⟨w.heap.size,8,none⟩=some (y8)/\W'.cell? ⟨w.heap.size,9,none⟩=some (y9):=by
 obtain⟨z,z0,z1,z2,z3,z4,z5,z6,z7,z8,z9⟩:=h;have hl:w.heap.size<W.heap.size:=World.block_lt_of_cell? W ⟨w.heap.size,0,none⟩ z0;have e:∀j,W'.cell? ⟨w.heap.size,j,none⟩=W.cell? ⟨w.heap.size,j,none⟩:=fun j=>hb.cell (p:=⟨w.heap.size,j,none⟩) hl
 exact⟨hid (z.out.trans (hb.mono z.out.size)),(e _).trans z0,(e _).trans z1,(e _).trans z2,(e _).trans z3,(e _).trans z4,(e _).trans z5,(e _).trans z6,(e _).trans z7,(e _).trans z8,(e _).trans z9⟩
theorem y5w{w W W':World}{y0 y1 y2 y3 y4 y5 y6 y7 y8 y9:Value}(h:Hid (Below w.heap.size w W)/\W.cell? ⟨w.heap.size,0,none⟩=some (y0)/\W.cell? ⟨w.heap.size,1,none⟩=some (y1)/\W.cell? ⟨w.heap.size,2,none⟩=some (y2)/\W.cell? ⟨w.heap.size,3,none⟩=some (y3)/\W.cell? ⟨w.heap.size,4,none⟩=some (y4)/\W.cell? ⟨w.heap.size,5,none⟩=some (y5)/\W.cell? ⟨w.heap.size,6,none⟩=some (y6)/\W.cell? ⟨w.heap.size,7,none⟩=some (y7)/\W.cell? ⟨w.heap.size,8,none⟩=some (y8)/\W.cell? ⟨w.heap.size,9,none⟩=some (y9))(hb:W.grownBy W' (some (w.heap.size+1))):Hid (Below w.heap.size w W')/\W'.cell? ⟨w.heap.size,0,none⟩=some (y0)/\W'.cell? ⟨w.heap.size,1,none⟩=some (y1)/\W'.cell? ⟨w.heap.size,2,none⟩=some (y2)/\W'.cell? ⟨w.heap.size,3,none⟩=some (y3)/\W'.cell? ⟨w.heap.size,4,none⟩=some (y4)/\W'.cell? ⟨w.heap.size,5,none⟩=some (y5)/\W'.cell? ⟨w.heap.size,6,none⟩=some (y6)/\W'.cell? ⟨w.heap.size,7,none⟩=some (y7)/\W'.cell? ⟨w.heap.size,8,none⟩=some (y8)/\W'.cell? ⟨w.heap.size,9,none⟩=some (y9):=by
 obtain⟨z,z0,z1,z2,z3,z4,z5,z6,z7,z8,z9⟩:=h;have e:∀j,W'.cell? ⟨w.heap.size,j,none⟩=W.cell? ⟨w.heap.size,j,none⟩:=fun j=>World.cell?_of_block (hb.block w.heap.size (World.block_lt_of_cell? W ⟨w.heap.size,0,none⟩ z0) (fun e=>by have:=Option.some.inj e;omega))
 exact⟨hid (z.out.grown hb z.out.size (fun g e=>by have:=Option.some.inj e;omega)),(e _).trans z0,(e _).trans z1,(e _).trans z2,(e _).trans z3,(e _).trans z4,(e _).trans z5,(e _).trans z6,(e _).trans z7,(e _).trans z8,(e _).trans z9⟩
theorem y5x(W:World)(R:Nat)(v0 v1 v2 v3 v4 v5 v6 v7 v8 v9:Value):W.grownBy ((((((((((W.setCell ⟨R,0,none⟩ v0).setCell ⟨R,1,none⟩ v1).setCell ⟨R,2,none⟩ v2).setCell ⟨R,3,none⟩ v3).setCell ⟨R,4,none⟩ v4).setCell ⟨R,5,none⟩ v5).setCell ⟨R,6,none⟩ v6).setCell ⟨R,7,none⟩ v7).setCell ⟨R,8,none⟩ v8).setCell ⟨R,9,none⟩ v9) (some R):=(G.setR (G.setR (G.setR (G.setR (G.setR (G.setR (G.setR (G.setR (G.setR (G.setR (G.refl _ _)))))))))))
def CrA(x:Rr)(w:World)(e:Ending)(w':World):Prop:=∃k T a b c d so n cap p,e=.returned (.agg #[.string x.1,.int .i64 k,.string T,.int .u64 a,.int .u64 b,.int .u64 c,.int .u64 d,.slice so n cap,.int .i64 p,.int .i64 x.2.2])/\Hid (Xv w' (fun g=>w.heap.size<=g) x.2.1 (r8 k T a b c d so n cap p))/\Hid (Below w.heap.size w w')
theorem y5y(nm:ByteArray)(k:Int)(T:ByteArray)(a b c d:Int)(so:Option Addr)(n cap:Nat)(p q:Int)(t:RT)(w:World)(hS:nm.size<=281474976710656)
  (HC:Hid (∀W,Below w.heap.size w W->Calls prog 84 #[.agg #[.int .i64 k,.string T,.int .u64 a,.int .u64 b,.int .u64 c,.int .u64 d,.slice so n cap,.int .i64 p]] W (CnA t W))):
  Calls prog 48 #[.agg #[.string nm,.int .i64 k,.string T,.int .u64 a,.int .u64 b,.int .u64 c,.int .u64 d,.slice so n cap,.int .i64 p,.int .i64 q]] w (CrA (nm,t,q) w):=by
 obtain⟨W0,hW0⟩:∃W0,W0=(w.alloc (.cells #[.string nm,.int .i64 k,.string T,.int .u64 a,.int .u64 b,.int .u64 c,.int .u64 d,.slice so n cap,.int .i64 p,.int .i64 q] 57)).alloc (.cells #[.string ⟨#[]⟩,.int .i64 0,.string ⟨#[]⟩,.int .u64 0,.int .u64 0,.int .u64 0,.int .u64 0,.slice none 0 0,.int .i64 0,.int .i64 0] 57):=⟨_,rfl⟩;have HB0:Hid (Below w.heap.size w W0):=by rw[hW0];exact((Below.refl _ w).alloc L0q _).alloc (by simp) _
 have hT0:W0.heap[w.heap.size]? =some (.cells #[.string nm,.int .i64 k,.string T,.int .u64 a,.int .u64 b,.int .u64 c,.int .u64 d,.slice so n cap,.int .i64 p,.int .i64 q] 57):=by rw[hW0];exact(Below.heap_alloc _ _ _ (by simp)).trans (Qx w _ rfl)
 have HZ0:Hid (W0.heap[w.heap.size+1]? =some (.cells #[.string ⟨#[]⟩,.int .i64 0,.string ⟨#[]⟩,.int .u64 0,.int .u64 0,.int .u64 0,.int .u64 0,.slice none 0 0,.int .i64 0,.int .i64 0] 57)):=by rw[hW0];exact Qx _ _ (by simp)
 obtain⟨⟨t0,t1,t2,t3,t4,t5,t6,t7,t8,t9⟩,_⟩:=Fh hT0;have S2:(fun W:World=>Hid (Below w.heap.size w W)/\W.cell? ⟨w.heap.size,0,none⟩=some (.string nm)/\W.cell? ⟨w.heap.size,1,none⟩=some (.int .i64 k)/\W.cell? ⟨w.heap.size,2,none⟩=some (.string T)/\W.cell? ⟨w.heap.size,3,none⟩=some (.int .u64 a)/\W.cell? ⟨w.heap.size,4,none⟩=some (.int .u64 b)/\W.cell? ⟨w.heap.size,5,none⟩=some (.int .u64 c)/\W.cell? ⟨w.heap.size,6,none⟩=some (.int .u64 d)/\W.cell? ⟨w.heap.size,7,none⟩=some (.slice so n cap)/\W.cell? ⟨w.heap.size,8,none⟩=some (.int .i64 p)/\W.cell? ⟨w.heap.size,9,none⟩=some (.int .i64 q)) W0.drew:=⟨hid HB0.out.drew,t0,t1,t2,t3,t4,t5,t6,t7,t8,t9⟩;have lt0:=Qz hT0;have lz0:=Qz HZ0.out;have HCl:=hid (fun W:World=>z6k nm W hS);clear hS hT0;go_enter func48,ntmps48
 go_wp2_with fail
 rw[<-hW0];clear hW0
 go_region_held3 (fun W:World=>Hid (Below w.heap.size w W)/\W.cell? ⟨w.heap.size,0,none⟩=some (.string nm)/\W.cell? ⟨w.heap.size,1,none⟩=some (.int .i64 k)/\W.cell? ⟨w.heap.size,2,none⟩=some (.string T)/\W.cell? ⟨w.heap.size,3,none⟩=some (.int .u64 a)/\W.cell? ⟨w.heap.size,4,none⟩=some (.int .u64 b)/\W.cell? ⟨w.heap.size,5,none⟩=some (.int .u64 c)/\W.cell? ⟨w.heap.size,6,none⟩=some (.int .u64 d)/\W.cell? ⟨w.heap.size,7,none⟩=some (.slice so n cap)/\W.cell? ⟨w.heap.size,8,none⟩=some (.int .i64 p)/\W.cell? ⟨w.heap.size,9,none⟩=some (.int .i64 q)) (first|(with_reducible assumption)|(with_reducible exact y5v (by assumption) (by assumption))|(with_reducible exact y5w (by assumption) (y5x _ _ _ _ _ _ _ _ _ _ _ _))) (first
  |(go_at_call 83;refine(HCl.out _).mono ?_;rintro e w4 ⟨rfl,hb4⟩;have HZ4:=hid ((hb4.block (w.heap.size+1) lz0).trans HZ0.out))
  |(go_at_call 84;refine(HC.out _ ?hh).mono ?_;(case hh=>exact Hid.out (And.left (by assumption)));rintro e w5 ⟨k',T',a',b',c',d',so',n',cap',p',rfl,HQ5,HB5⟩;have hb5:=HB5.out;have HZ5:=hid ((hb5.block (w.heap.size+1) (Qz HZ4.out)).trans HZ4.out);obtain⟨⟨z0,z1,z2,z3,z4,z5,z6,z7,z8,z9⟩,f0,f1,f2,f3,f4,f5,f6,f7,f8,f9⟩:=Fh HZ5.out;have lz:=Qz HZ5.out))
 obtain⟨X1,hX1⟩:∃X1,X1=w5.setCell ⟨w.heap.size+1,0,none⟩ (.string nm):=⟨_,rfl⟩;have bX1:X1.heap[w.heap.size+1]? =some (.cells #[.string nm,.int .i64 0,.string ⟨#[]⟩,.int .u64 0,.int .u64 0,.int .u64 0,.int .u64 0,.slice none 0 0,.int .i64 0,.int .i64 0] 57):=by rw[hX1];exact Qy HZ5.out 0 _
 have gX1:w5.grownBy X1 (some (w.heap.size+1)):=by rw[hX1];exact G.setR (G.refl _ _)
 obtain⟨X2,hX2⟩:∃X2,X2=X1.setCell ⟨w.heap.size+1,1,none⟩ (.int .i64 k'):=⟨_,rfl⟩;have bX2:X2.heap[w.heap.size+1]? =some (.cells #[.string nm,.int .i64 k',.string ⟨#[]⟩,.int .u64 0,.int .u64 0,.int .u64 0,.int .u64 0,.slice none 0 0,.int .i64 0,.int .i64 0] 57):=by rw[hX2];exact Qy bX1 1 _
 have gX2:w5.grownBy X2 (some (w.heap.size+1)):=by rw[hX2];exact G.setR gX1
 obtain⟨X3,hX3⟩:∃X3,X3=X2.setCell ⟨w.heap.size+1,2,none⟩ (.string T'):=⟨_,rfl⟩;have bX3:X3.heap[w.heap.size+1]? =some (.cells #[.string nm,.int .i64 k',.string T',.int .u64 0,.int .u64 0,.int .u64 0,.int .u64 0,.slice none 0 0,.int .i64 0,.int .i64 0] 57):=by rw[hX3];exact Qy bX2 2 _
 have gX3:w5.grownBy X3 (some (w.heap.size+1)):=by rw[hX3];exact G.setR gX2
 obtain⟨X4,hX4⟩:∃X4,X4=X3.setCell ⟨w.heap.size+1,3,none⟩ (.int .u64 a'):=⟨_,rfl⟩;have bX4:X4.heap[w.heap.size+1]? =some (.cells #[.string nm,.int .i64 k',.string T',.int .u64 a',.int .u64 0,.int .u64 0,.int .u64 0,.slice none 0 0,.int .i64 0,.int .i64 0] 57):=by rw[hX4];exact Qy bX3 3 _
 have gX4:w5.grownBy X4 (some (w.heap.size+1)):=by rw[hX4];exact G.setR gX3
 obtain⟨X5,hX5⟩:∃X5,X5=X4.setCell ⟨w.heap.size+1,4,none⟩ (.int .u64 b'):=⟨_,rfl⟩;have bX5:X5.heap[w.heap.size+1]? =some (.cells #[.string nm,.int .i64 k',.string T',.int .u64 a',.int .u64 b',.int .u64 0,.int .u64 0,.slice none 0 0,.int .i64 0,.int .i64 0] 57):=by rw[hX5];exact Qy bX4 4 _
 have gX5:w5.grownBy X5 (some (w.heap.size+1)):=by rw[hX5];exact G.setR gX4
 obtain⟨X6,hX6⟩:∃X6,X6=X5.setCell ⟨w.heap.size+1,5,none⟩ (.int .u64 c'):=⟨_,rfl⟩;have bX6:X6.heap[w.heap.size+1]? =some (.cells #[.string nm,.int .i64 k',.string T',.int .u64 a',.int .u64 b',.int .u64 c',.int .u64 0,.slice none 0 0,.int .i64 0,.int .i64 0] 57):=by rw[hX6];exact Qy bX5 5 _
 have gX6:w5.grownBy X6 (some (w.heap.size+1)):=by rw[hX6];exact G.setR gX5
 obtain⟨X7,hX7⟩:∃X7,X7=X6.setCell ⟨w.heap.size+1,6,none⟩ (.int .u64 d'):=⟨_,rfl⟩;have bX7:X7.heap[w.heap.size+1]? =some (.cells #[.string nm,.int .i64 k',.string T',.int .u64 a',.int .u64 b',.int .u64 c',.int .u64 d',.slice none 0 0,.int .i64 0,.int .i64 0] 57):=by rw[hX7];exact Qy bX6 6 _
 have gX7:w5.grownBy X7 (some (w.heap.size+1)):=by rw[hX7];exact G.setR gX6
 obtain⟨X8,hX8⟩:∃X8,X8=X7.setCell ⟨w.heap.size+1,7,none⟩ (.slice so' n' cap'):=⟨_,rfl⟩;have bX8:X8.heap[w.heap.size+1]? =some (.cells #[.string nm,.int .i64 k',.string T',.int .u64 a',.int .u64 b',.int .u64 c',.int .u64 d',.slice so' n' cap',.int .i64 0,.int .i64 0] 57):=by rw[hX8];exact Qy bX7 7 _
 have gX8:w5.grownBy X8 (some (w.heap.size+1)):=by rw[hX8];exact G.setR gX7
 obtain⟨X9,hX9⟩:∃X9,X9=X8.setCell ⟨w.heap.size+1,8,none⟩ (.int .i64 p'):=⟨_,rfl⟩;have bX9:X9.heap[w.heap.size+1]? =some (.cells #[.string nm,.int .i64 k',.string T',.int .u64 a',.int .u64 b',.int .u64 c',.int .u64 d',.slice so' n' cap',.int .i64 p',.int .i64 0] 57):=by rw[hX9];exact Qy bX8 8 _
 have gX9:w5.grownBy X9 (some (w.heap.size+1)):=by rw[hX9];exact G.setR gX8
 obtain⟨W10,hW10⟩:∃W10,W10=X9.setCell ⟨w.heap.size+1,9,none⟩ (.int .i64 q):=⟨_,rfl⟩;have bW10:W10.heap[w.heap.size+1]? =some (.cells #[.string nm,.int .i64 k',.string T',.int .u64 a',.int .u64 b',.int .u64 c',.int .u64 d',.slice so' n' cap',.int .i64 p',.int .i64 q] 57):=by rw[hW10];exact Qy bX9 9 _
 have gW10:w5.grownBy W10 (some (w.heap.size+1)):=by rw[hW10];exact G.setR gX9
 rw[<-hX1,<-hX2,<-hX3,<-hX4,<-hX5,<-hX6,<-hX7,<-hX8,<-hX9,<-hW10];have h10:=bW10;have hg10:=gW10;clear hW10 hX9 hX8 hX7 hX6 hX5 hX4 hX3 hX2 hX1 bX1 bX2 bX3 bX4 bX5 bX6 bX7 bX8 bX9 bW10 gX1 gX2 gX3 gX4 gX5 gX6 gX7 gX8 gX9 gW10;have hB4:Below w.heap.size w w4:=HB0.out.drew.trans (hb4.mono HB0.out.drew.size);have hB5:Below w.heap.size w w5:=hB4.trans (hb5.mono hB4.size);have HF:=hid (show CrA (nm,t,q) w (.returned (.agg #[.string nm,.int .i64 k',.string T',.int .u64 a',.int .u64 b',.int .u64 c',.int .u64 d',.slice so' n' cap',.int .i64 p',.int .i64 q])) W10 from⟨k',T',a',b',c',d',so',n',cap',p',rfl,hid (Xv.kept (w':=W10) (Q:=fun g=>w.heap.size<=g) (fun g cur hp hq=>⟨hg10.block g (Qz hq) (fun e=>by have e2:g=w.heap.size+1:=Option.some.inj e;have h4:=Qz HZ4.out;have hp':w4.heap.size<=g:=hp;omega),Nat.le_trans hB4.size hp⟩) _ _ HQ5.out),hid (hB5.grown hg10 hB5.size (fun g e=>by have:=Option.some.inj e;omega))⟩);obtain⟨⟨e0,e1,e2,e3,e4,e5,e6,e7,e8,e9⟩,_⟩:=Fh h10;clear hg10 hB4 hB5 HQ5 HB5 hb5 hb4 HZ5 HZ4 h10 z0 z1 z2 z3 z4 z5 z6 z7 z8 z9 f0 f1 f2 f3 f4 f5 f6 f7 f8 f9 S2 t0 t1 t2 t3 t4 t5 t6 t7 t8 t9 HC HCl
 go_wp2_with fail
 refine bodyPost_ret (v:=.agg #[.string nm,.int .i64 k',.string T',.int .u64 a',.int .u64 b',.int .u64 c',.int .u64 d',.slice so' n' cap',.int .i64 p',.int .i64 q]) (by simp[results,Tryz.results48,go_sem,e0,e1,e2,e3,e4,e5,e6,e7,e8,e9]) rfl ?_;exact HF.out
section
attribute [local go_sem] Oper.semAt_some
section
variable {w:World} {B:Nat} {rs:List Rr}
end
section
variable {B Bt:Nat}
end
section
variable {w:World} {B Bt:Nat} {rs:List Rr} {l:Nat} {J Jx:List (Bx w B rs)->World->Prop}
end
end
open Go.Maps
attribute [local go_sem] Oper.semAt_some
theorem y5z(k:Nat)(hk:k<=1048576)(W:World):(Instr.makeSlice 22 (.int .i64 0) (.int .i64 k)).run prog W=.ok (.slice (some ⟨W.heap.size,0,none⟩) 0 k) (W.alloc (.cells (madeCells #[.string ⟨#[]⟩,.int .i64 0,.string ⟨#[]⟩,.int .u64 0,.int .u64 0,.int .u64 0,.int .u64 0,.slice none 0 0,.int .i64 0,.int .i64 0] (k*10)) 57)):=by
 obtain⟨iT,hiT,hzT0,hzT1,hzT2⟩:=info_parts Tryz.infoRl;rw[run_make W 22 57 iT _ Tryz.underlying22 hiT hzT0 .i64 .i64 0 k (by omega) (by omega) (by rw[hzT2];omega) (by omega),hzT1];simp[Value.cells]
theorem y5A(nm:ByteArray)(k:Int)(T:ByteArray)(a b c d:Int)(so:Option Addr)(n cap:Nat)(p q:Int)(t:RT)(B:Nat)(w:World)(hS:nm.size<=281474976710656)(hR:RtB t)(ht:Qk w B t (r8 k T a b c d so n cap p))(hB:B<=w.heap.size):
  Calls prog 48 #[.agg #[.string nm,.int .i64 k,.string T,.int .u64 a,.int .u64 b,.int .u64 c,.int .u64 d,.slice so n cap,.int .i64 p,.int .i64 q]] w (CrA (nm,t,q) w):=by
 refine y5y nm k T a b c d so n cap p q t w hS (hid fun W hW=> ?_);have ht2:=ht.below (hW.mono hB);obtain⟨k',T',a',b',c',d',s',p'⟩:=t;rw[Qk]at ht2;obtain⟨so',cap',e,hso⟩:=ht2;simp only[r8,List.cons.injEq,Value.int.injEq,Value.string.injEq,Value.slice.injEq,true_and,and_true]at e;obtain⟨rfl,rfl,rfl,rfl,rfl,rfl,⟨rfl,rfl,rfl⟩,rfl⟩:=e;exact y4B _ k T a b c d s' p so cap B W (Nat.lt_succ_self _) hR hso (Nat.le_trans hB hW.size)
def prn(rs:List Rr)(L:List Int):List Rr:=L.filterMap fun x=>rs[x.toNat]?
theorem y4a{rs:List Rr}:∀{L:List Int},(∀x∈L,∃m:Nat,m<rs.length/\x=(m:Int))->(prn rs L).length=L.length
 |[],_=>rfl
 |x::r,h=>by
  obtain⟨m,hm,rfl⟩:=h x (by simp);have:=y4a (L:=r) (fun y hy=>h y (by simp[hy]));unfold prn at this ⊢;simp[hm,this]
theorem y4g{rs:List Rr}:∀{L:List Int} (h:∀x∈L,∃m:Nat,m<rs.length/\x=(m:Int)) (j:Nat) (hj:j<L.length) (hj':j<(prn rs L).length),∃m:Nat,∃hm:m<rs.length,L[j]=(m:Int)/\(prn rs L)[j]=rs[m]
 |x::r,h,0,_,hj'=>by
  obtain⟨m,hm,rfl⟩:=h x (by simp);refine⟨m,hm,rfl,?_⟩;unfold prn;simp[hm]
 |x::r,h,j+1,hj,hj'=>by
  obtain⟨m,hm,rfl⟩:=h x (by simp);have e:prn rs ((m:Int)::r)=rs[m]::prn rs r:=by unfold prn;simp[hm]
  obtain⟨k,hk,h1,h2⟩:=y4g (L:=r) (fun y hy=>h y (by simp[hy])) j (by simpa using hj) (by rw[e]at hj';simpa using hj');refine⟨k,hk,by simpa using h1,?_⟩;simp only[e,List.getElem_cons_succ];exact h2
theorem y5B(so:Option Addr)(n cap:Nat)(X:Option (Int ⊕ (Int×Int)))(w:World)
  (HC:Hid (∀W:World,Below w.heap.size w W->Calls prog 47 #[.agg #[.slice so n cap],.int .i64 0] W fun e w'=>∃tt uu,e=.returned (.tuple #[.slice none 0 0,.iface tt uu])/\Zd X W.heap.size w' (.iface tt uu)/\Below W.heap.size W w')):
  Calls prog 21 #[.agg #[.slice so n cap]] w fun e w'=>∃v,e=.returned (.tuple #[.agg #[.slice none 0 0],v])/\Zd X w.heap.size w' v/\Below w.heap.size w w':=by
 obtain⟨W1,hW1⟩:∃W1,W1=(w.alloc (.cells #[.slice so n cap] 24)).alloc (.cells #[.slice none 0 0] 24):=⟨_,rfl⟩;have hB1:Below w.heap.size w W1:=by rw[hW1];exact((Below.refl _ w).alloc L0q _).alloc (by simp) _
 have HR1:Hid (W1.heap[w.heap.size+1]? =some (.cells #[.slice none 0 0] 24)):=by rw[hW1];exact Qx _ _ (by simp)
 have HS:=hid (HC.out W1 hB1);have HB1:=hid hB1;have hs1:=Qz HR1.out;have HW1:=hid hW1;clear hW1 hB1 HC;go_enter func21,ntmps21
 go_wp2_with fail
 rw[<-HW1.out];refine HS.out.mono ?_;rintro e w2 ⟨tt,uu,rfl,hv,hb2⟩;have hr2:=(hb2.block _ (Qz HR1.out)).trans HR1.out;obtain⟨u0,f0⟩:=Qw hr2;have lr:=Qz hr2;have HR2:=hid hr2;have HV:=hid hv;have HB2:=hid (HB1.out.trans (hb2.mono HB1.out.size));have HSz:=hid HB1.out.size;clear hv hb2 hr2 HS HW1 HR1 HB1
 go_wp2_with fail
 have r0:=(Qw (Qy HR2.out 0 (.slice none 0 0))).1;refine bodyPost_ret (v:=.tuple #[.agg #[.slice none 0 0],.iface tt uu]) (by simp[results,Tryz.results21,go_sem,r0]) rfl ?_;exact⟨_,rfl,(HV.out.kept (grownBy_setCell' _ _ _) hs1).lo HSz.out,HB2.out.setCell (p:=⟨w.heap.size+1,0,none⟩) (by show w.heap.size<=_+1;omega) _⟩
theorem y5C(so:Option Addr)(n cap:Nat)(rs:List Rr)(L:List Int)(w:World)(h:Qh w w.heap.size so n rs)(HL:Hid (∀x∈L,∃m:Nat,m<rs.length/\x=(m:Int)))(hLl:L.length<=1048576)(HZ:Hid (∀x∈rs,x.1.size<=281474976710656/\RtB x.2.1))
  (HC:Hid (∀W:World,Below w.heap.size w W->Calls prog 47 #[.agg #[.slice so n cap],.int .i64 0] W fun e w'=>∃v,e=.returned (.tuple #[v,.nilIface])/\w'.ownsRow W.heap.size 3 1 v L.length (L.map (Value.int .i64))/\Below W.heap.size W w')):
  Calls prog 21 #[.agg #[.slice so n cap]] w fun e w'=>∃so' cap',e=.returned (.tuple #[.agg #[.slice so' L.length cap'],.nilIface])/\Hid (Qh w' w'.heap.size so' L.length (prn rs L))/\Hid (Below w.heap.size w w'):=by
 obtain⟨iT,hiT,hzT0,hzT1,hzT2⟩:=info_parts Tryz.infoRl;obtain⟨W1,hW1⟩:∃W1,W1=(w.alloc (.cells #[.slice so n cap] 24)).alloc (.cells #[.slice none 0 0] 24):=⟨_,rfl⟩;have hB1:Below w.heap.size w W1:=by rw[hW1];exact((Below.refl _ w).alloc L0q _).alloc (by simp) _
 have HR1:Hid (W1.heap[w.heap.size+1]? =some (.cells #[.slice none 0 0] 24)):=by rw[hW1];exact Qx _ _ (by simp)
 have HG1:Hid (W1.heap[w.heap.size]? =some (.cells #[.slice so n cap] 24)):=by rw[hW1];exact(Below.heap_alloc _ _ _ (by simp)).trans (Qx w _ rfl)
 have HS:=hid (HC.out W1 hB1);have HB1:=hid hB1;have HW1:=hid hW1;obtain⟨k,hk⟩:∃k,k=L.length:=⟨_,rfl⟩;have HPl:Hid ((prn rs L).length=k):=(y4a HL.out).trans hk.symm;rw[<-hk]at HS hLl ⊢;have HK:Hid (k=L.length):=hk;have hmk:=y5z k hLl;have HG:=hid h;clear hW1 hB1 HC hk h;go_enter func21,ntmps21
 go_wp2_with fail
 rw[<-HW1.out];refine HS.out.mono ?_;rintro e w2 ⟨v,rfl,hrow,hb2⟩;obtain⟨sv,scv,rfl⟩:=Cd hrow;have HB2:=hid (HB1.out.trans (hb2.mono HB1.out.size));have HR2:=hid ((hb2.block _ (Qz HR1.out)).trans HR1.out);have HG2:=hid ((hb2.block _ (Qz HG1.out)).trans HG1.out);have HRow:=hid (y4x (u:=L) (by rw[<-HK.out];exact hrow) (by rw[<-HK.out];exact hLl));clear HS HW1 HR1 HG1 HB1 hb2 hrow;obtain⟨W3,hW3⟩:∃W3,W3=w2.alloc (.cells (madeCells #[.string ⟨#[]⟩,.int .i64 0,.string ⟨#[]⟩,.int .u64 0,.int .u64 0,.int .u64 0,.int .u64 0,.slice none 0 0,.int .i64 0,.int .i64 0] (k*10)) 57):=⟨_,rfl⟩;have HC0:Hid (PqR w2 0 (prn rs L) [] (.slice (some ⟨w2.heap.size,0,none⟩) 0 k) W3):=by
  rw[hW3];exact⟨B0q.alloc L0q _,World.ownsRow_made w2 _ k L0q (by unfold maxLen;omega) (size_madeCells _ _),by rw[List.take_zero,Zl];trivial⟩
 go_wp2_with fail
 rw[<-hW3];clear hW3 hmk
 go_loopw [6,23] (fun a i wr=>∃(j:Nat) (xs:List Value),i=.int .i64 j/\j<=k/\Hid (PqR w2 j (prn rs L) xs a wr)) (fun a i _=>k-(intOf i).toNat)
 case atStart=>exact⟨0,[],rfl,Nat.zero_le _,HC0⟩
 case round=>
  obtain⟨j,xs,rfl,hj,HP⟩:=hrel;clear HC0;have HBw:=hid (HB2.out.trans (HP.out.be.mono HB2.out.size));obtain⟨sa,sca,rfl⟩:=Cd HP.out.ow;by_cases hjn:j<k
  ·have hjI:(j:Int)<(k:Int):=by omega
   have a0:decide ((j:Int)<(k:Int))=true:=by simp;omega
   have hjL:j<L.length:=by rw[<-HK.out];exact hjn
   have hjp:j<(prn rs L).length:=by rw[HPl.out];exact hjn
   obtain⟨m,hm,eL,ep⟩:=y4g HL.out j hjL hjp;obtain⟨so0,cap0,e0,_,hc0⟩:=HRow.out;simp only[Value.slice.injEq]at e0;obtain⟨rfl,-,rfl⟩:=e0;obtain⟨gv,ov',rfl,hgv,cv⟩:=hc0 j hjL;rw[eL]at cv;have cv2:=(HP.out.be.cell (p:=⟨gv,ov'+j,none⟩) hgv).trans cv;have lgv:gv<wr.heap.size:=World.block_lt_of_cell? wr _ cv2;obtain⟨gg,_⟩:=Qw ((HP.out.be.block _ (Qz HG2.out)).trans HG2.out);have lgg:=Qz ((HP.out.be.block _ (Qz HG2.out)).trans HG2.out);obtain⟨g,o,rfl,hg,k1,T1,a1,b1,c1,d1,so1,n1,cap1,p1,rt,r0⟩:=(HG.out.below HBw.out).2.2 m hm;obtain⟨z0,z1,z2,z3,z4,z5,z6,z7,z8,z9⟩:=r0;have hgl:g<wr.heap.size:=World.block_lt_of_cell? wr _ z0;have hmn:m<n:=by rw[HG.out.1];exact hm
   have hmI:(m:Int)<(n:Int):=by omega
   have hn63:n<=9223372036854775807:=by have:=HG.out.2.1;unfold maxLen at this;omega
   obtain⟨N0,hN0⟩:∃N0,N0=rs[m].1:=⟨_,rfl⟩;obtain⟨q1,hq1⟩:∃q1,q1=rs[m].2.2:=⟨_,rfl⟩;obtain⟨t1,ht1⟩:∃t1,t1=rs[m].2.1:=⟨_,rfl⟩;have HXx:Hid ((N0,t1,q1)=(prn rs L)[j]):=by show _=_;rw[ep,hN0,hq1,ht1]
   have hzz:=HZ.out _ (List.getElem_mem hm);rw[<-ht1]at rt hzz;rw[<-hN0]at z0 hzz;rw[<-hq1]at z9;have HCr:=hid (y5A N0 k1 T1 a1 b1 c1 d1 so1 n1 cap1 p1 q1 t1 w.heap.size wr hzz.1 hzz.2 rt (by have:=HBw.out.size;omega));clear hN0 hq1 ht1 ep eL rt hzz cv;have HO:=hid HP.out.ow;have hbw2:=HP.out.be.size
   go_wp2_with(first
    |(go_at_call 48;refine HCr.out.mono ?_;clear HCr;rintro e w3 ⟨k3,T3,a3,b3,c3,d3,so3,n3,cap3,p3,rfl,HQ3,HB3⟩;have HO3:=hid (Jw HO.out HB3.out);have hs3:=HB3.out.size)
    |(at_builtin;refine wpList_append_own_at _ rfl (.tmp 27) (.tmp 34) 22 rfl w2.heap.size 57 iT (.agg #[.string ⟨#[]⟩,.int .i64 0,.string ⟨#[]⟩,.int .u64 0,.int .u64 0,.int .u64 0,.int .u64 0,.slice none 0 0,.int .i64 0,.int .i64 0]) 10 112 Tryz.underlying22 hiT hzT0 hzT1 hzT2 rfl (by decide) _ _ _ rfl (HO3.out.alloc _) ⟨w3.heap.size,0,none⟩ 1 1 [.string N0,.int .i64 k3,.string T3,.int .u64 a3,.int .u64 b3,.int .u64 c3,.int .u64 d3,.slice so3 n3 cap3,.int .i64 p3,.int .i64 q1] rfl rfl (z1q w3 (.string N0) (.int .i64 k3) (.string T3) (.int .u64 a3) (.int .u64 b3) (.int .u64 c3) (.int .u64 d3) (.slice so3 n3 cap3) (.int .i64 p3) (.int .i64 q1) 57) (y0W _ _ _ _ _ _ _ _ _ _ _ _) (by unfold maxLen;omega) (by omega) (by simp;omega) ?_;intro v6 w6 hown6 hgr6 hnil6 hat6;obtain⟨sa7,sc7,rfl⟩:=Cd hown6))
   have hst:=PqR.step HP.out hjp HXx.out HB3.out ⟨r8 k3 T3 a3 b3 c3 d3 so3 n3 cap3 p3,rfl,HQ3.out⟩ ((Below.refl _ w3).alloc L0q _) hown6 hgr6
   go_roundw
   case rel=>exact⟨j+1,_,by go_num,by omega,hid hst⟩
   case measure=>simp[intOf];omega
  ·have a0:decide ((j:Int)<(k:Int))=false:=by simp;omega
   obtain rfl:j=k:=by omega
   have hq:=HP.out.rq;rw[List.take_of_length_le (by rw[HPl.out];exact Nat.le_refl _)]at hq;obtain⟨so',cap',ea,hrg⟩:=Zl.is HP.out.ow HPl.out.symm hq;simp only[Value.slice.injEq]at ea;obtain⟨rfl,-,rfl⟩:=ea;have hR3:=(HP.out.be.block _ (Qz HR2.out)).trans HR2.out;obtain⟨u0,f0⟩:=Qw hR3;have lr:=Qz hR3;have HR3:=hid hR3;have hset:wr.grownBy (wr.setCell ⟨w.heap.size+1,0,none⟩ (.slice sa j sca)) (some (w.heap.size+1)):=grownBy_setCell' _ _ _;have HFin:Hid (Qh (wr.setCell ⟨w.heap.size+1,0,none⟩ (.slice sa j sca)) (wr.setCell ⟨w.heap.size+1,0,none⟩ (.slice sa j sca)).heap.size sa j (prn rs L)):=by
    have ho':=HP.out.ow.kept hset (.inr (fun e=>by have:=(HP.out.ow.lt _ e).1;have:=Qz HR2.out;omega));have hq':Zl (wr.setCell ⟨w.heap.size+1,0,none⟩ (.slice sa j sca)) (fun g=>w2.heap.size<=g) (prn rs L) xs:=Zl.kept (fun g cur hp _=>⟨Below.heap_setCell _ _ _ _ (fun e=>by have e2:g=w.heap.size+1:=e;have:=Qz HR2.out;omega),hp⟩) _ _ hq;obtain⟨so',cap',ea,hrg⟩:=Zl.is ho' HPl.out.symm hq';simp only[Value.slice.injEq]at ea;obtain⟨rfl,-,rfl⟩:=ea;exact hrg
   have HBf:Hid (Below w.heap.size w (wr.setCell ⟨w.heap.size+1,0,none⟩ (.slice sa j sca))):=HBw.out.setCell (p:=⟨w.heap.size+1,0,none⟩) (by show w.heap.size<=_+1;omega) _;clear hq hrg hset hR3
   go_wp2_with fail
   have r0:=(Qw (Qy HR3.out 0 (.slice sa j sca))).1;refine bodyPost_ret (v:=.tuple #[.agg #[.slice sa j sca],.nilIface]) (by simp[results,Tryz.results21,go_sem,r0]) rfl ?_;exact⟨sa,sca,rfl,HFin,HBf⟩
end Go.Proofs.YtjodljnddflgfaaGreatDoor
