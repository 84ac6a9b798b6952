/- Lemmas for the last text. Conditions: those that each names. -/
import Derived.Test.YtlogolpcipiceaaGreatDoorVC5
import Derived.Lib.ItoaLen
set_option linter.unusedVariables false
set_option maxRecDepth 100000
set_option maxHeartbeats 16000000
namespace Go.Proofs.YtlogolpcipiceaaGreatDoor
open Go.Proofs.Tryz
open Go.RowKit Go.Shelf Go.Maps
variable {W:World} {v0 v1:Value}
mutual
def ndT:RT->Nat
 | .mk _ _ _ _ _ _ s _=>1+ndL s
def ndL:List RT->Nat
 |[]=>0
 |t::r=>ndT t+ndL r
end
theorem z5f(o:Ox)(ops:List Ox):(plO o ops).1<(plO o ops).2.length/\(plO o ops).2.length<=ops.length+1/\∃l,(plO o ops).2=ops++l:=by
 unfold plO;split
 ·rename_i h
  have:=z2U _ _ h;rw[List.length_map]at this;exact⟨this,Nat.le_succ _,[],(List.append_nil _).symm⟩
 ·exact⟨by simp,by simp,[o],rfl⟩
mutual
theorem Wg(ix:ByteArray->Int):∀(t:RT) (ops:List Ox),(mkT ix t ops).1<(mkT ix t ops).2.length/\(mkT ix t ops).2.length<=ops.length+ndT t/\∃l,(mkT ix t ops).2=ops++l
 | .mk k T a b c d s p,ops=>by
   rw[mkT,ndT];split
   ·obtain⟨h1,h2,h3⟩:=z5f (5,{data:=#[]},(0,0,0,0),[ix T]) ops
    exact⟨h1,by omega,h3⟩
   ·obtain⟨h1,h2,l,h3⟩:=z5f (k,T,(a,b,c,d),(mkL ix s ops).1) (mkL ix s ops).2
    obtain⟨h4,_,l2,h5⟩:=Ac ix s ops;exact⟨h1,by omega,l2++l,by rw[h3,h5,List.append_assoc]⟩
theorem Ac(ix:ByteArray->Int):∀(s:List RT) (ops:List Ox),(mkL ix s ops).2.length<=ops.length+ndL s/\((mkL ix s ops).1.length=s.length/\∀x∈(mkL ix s ops).1,0<=x/\x<((mkL ix s ops).2.length:Int))/\∃l,(mkL ix s ops).2=ops++l
 |[],ops=>by
  rw[mkL,ndL];exact⟨Nat.le_refl _,⟨rfl,fun x hx=>by cases hx⟩,[],(List.append_nil _).symm⟩
 |t::r,ops=>by
  rw[mkL,ndL];dsimp only;obtain⟨h1,h2,l,h3⟩:=Wg ix t ops;obtain⟨h4,⟨h5,h6⟩,l2,h7⟩:=Ac ix r (mkT ix t ops).2;refine⟨by omega,⟨by rw[List.length_cons,List.length_cons,h5],fun x hx=> ?_⟩,l++l2,by rw[h7,h3,List.append_assoc]⟩;have h8:(mkT ix t ops).2.length<=(mkL ix r (mkT ix t ops).2).2.length:=by rw[h7,List.length_append];omega
  rcases List.mem_cons.1 hx with rfl|hx
  ·exact⟨by omega,by omega⟩
  ·exact h6 x hx
end
theorem z5g(ix:ByteArray->Int)(t:RT):∀(s:List RT) (ops:List Ox),mkL ix (s++[t]) ops=((mkL ix s ops).1++[((mkT ix t (mkL ix s ops).2).1:Int)],(mkT ix t (mkL ix s ops).2).2)
 |[],ops=>by rw[List.nil_append,mkL,mkL,mkL,List.nil_append]
 |x::r,ops=>by rw[List.cons_append,mkL,mkL,z5g ix t r,List.cons_append]
theorem z5h(a b:List RT):ndL (a++b)=ndL a+ndL b:=by
 induction a with
 |nil=>rw[List.nil_append,ndL,Nat.zero_add]
 |cons t r ih=>rw[List.cons_append,ndL,ndL,ih,Nat.add_assoc]
theorem y3K(s:List RT)(j:Nat)(hj:j<s.length):ndL (s.take j)+ndT s[j]<=ndL s:=by
 have h:ndL s=ndL (s.take (j+1))+ndL (s.drop (j+1)):=by rw[<-z5h,List.take_append_drop]
 rw[List.take_succ_eq_append_getElem hj,z5h,ndL,ndL]at h;omega
theorem z5i(n:Nat)(hn:n<=9223372036854775807):∀(s:List Int),(∀x∈s,0<=x/\x<(n:Int))->(sbT s).length<=22*s.length
 |[],_=>by rw[sbT];exact Nat.zero_le _
 |i::r,h=>by
  have h1:=h i List.mem_cons_self;have h2:=Lib.itoa_length_le i (by omega) (by omega);have h3:=z5i n hn r (fun x hx=>h x (List.mem_cons_of_mem _ hx));rw[sbT,List.length_append,List.length_cons,List.length_cons];omega
theorem y3L(ix:ByteArray->Int)(s:List RT)(ops:List Ox)(h1:s.length<=1048576)(h2:ops.length+ndL s<=1048576):SbZ (mkL ix s ops).1:=by
 obtain⟨h4,⟨h5,h6⟩,_⟩:=Ac ix s ops;have h7:=z5i 1048577 (by omega) (mkL ix s ops).1 (fun x hx=>by have:=h6 x hx;exact⟨this.1,by omega⟩);exact⟨fun i hi=>by have:=h6 i hi;omega,by omega⟩
theorem z5j{R k:Nat}{v2 v3 v4 v5 v6:Value}(h:k≠R):(((((((W.setCell ⟨R,0,none⟩ v0).setCell ⟨R,1,none⟩ v1).setCell ⟨R,2,none⟩ v2).setCell ⟨R,3,none⟩ v3).setCell ⟨R,4,none⟩ v4).setCell ⟨R,5,none⟩ v5).setCell ⟨R,6,none⟩ v6).heap[k]? =W.heap[k]? :=((Below.heap_setCell _ _ _ _ h).trans ((Below.heap_setCell _ _ _ _ h).trans ((Below.heap_setCell _ _ _ _ h).trans ((Below.heap_setCell _ _ _ _ h).trans ((Below.heap_setCell _ _ _ _ h).trans ((Below.heap_setCell _ _ _ _ h).trans (Below.heap_setCell _ _ _ _ h)))))))
theorem z5k{R:Nat}{v2 v3 v4 v5 v6:Value}:(((((((W.setCell ⟨R,0,none⟩ v0).setCell ⟨R,1,none⟩ v1).setCell ⟨R,2,none⟩ v2).setCell ⟨R,3,none⟩ v3).setCell ⟨R,4,none⟩ v4).setCell ⟨R,5,none⟩ v5).setCell ⟨R,6,none⟩ v6).heap.size=W.heap.size:=by
 rw[World.size_setCell,World.size_setCell,World.size_setCell,World.size_setCell,World.size_setCell,World.size_setCell,World.size_setCell]
theorem z5l(x:Int)(h: -1<=x/\x<=1048576):qW (5,{data:=#[]},(0,0,0,0),[x])/\SbZ [x]:=by
 have h2:=Lib.itoa_length_le x (by omega) (by omega);have h3:(sbT [x]).length=(Lib.itoa x).length+1:=by rw[sbT,sbT,List.length_append];rfl
 refine⟨⟨(show(Lit.int .i64 5).wf=true by decide),(show(0:Nat)<=maxLen by unfold maxLen;omega),(show(Lit.int .u64 0).wf=true by decide),(show(Lit.int .u64 0).wf=true by decide),(show(Lit.int .u64 0).wf=true by decide),(show(Lit.int .u64 0).wf=true by decide),?_⟩,fun i hi=> ?_,by omega⟩
 ·show(sbT [x]).length<=maxLen
  unfold maxLen;omega
 ·obtain rfl:=List.mem_singleton.1 hi
  omega
theorem Ik{W':World}{a0 a1:Addr}(h:W.cell? a0=some v0/\W.cell? a1=some v1)(hb:Below W.heap.size W W'):W'.cell? a0=some v0/\W'.cell? a1=some v1:=
 ⟨(hb.cell (p:=a0) (World.block_lt_of_cell? W _ h.1)).trans h.1,(hb.cell (p:=a1) (World.block_lt_of_cell? W _ h.2)).trans h.2⟩
theorem y3M(ix:ByteArray->Int)(T:ByteArray)(a b c d:Int)(so:Option Addr)(n cap:Nat)(p:Int)(s:List RT)(Q:Nat->Prop)(B mB mp:Nat)(gso:Option Addr)(gn gcap:Nat)(vn vr:Value)(ops:List Ox)(v:Value)(xs:List Value)(W:World)(hol:ops.length<=1048576)(hix: -1<=ix T/\ix T<=1048576)
  (HM:Hid (Mkr W Q B mB mp (.slice gso gn gcap) vn vr ops v xs))
  (HFi:Hid (∀W1:World,Below W.heap.size W W1->Calls prog 104 #[.agg #[.slice gso gn gcap],.string T] W1 fun e w'=>e=.returned (.int .i64 (ix T))/\Below W1.heap.size W1 w')):
  Calls prog 60 #[.pointer (some ⟨mB,0,none⟩),.agg #[.int .i64 5,.string T,.int .u64 a,.int .u64 b,.int .u64 c,.int .u64 d,.slice so n cap,.int .i64 p]] W (OnP ix (.mk 5 T a b c d s p) Q B mB mp (.slice gso gn gcap) vn vr ops v W):=by
 obtain⟨hB1,e0,e1⟩:=Nf W (.cells #[.int .i64 5,.string T,.int .u64 a,.int .u64 b,.int .u64 c,.int .u64 d,.slice so n cap,.int .i64 p] 71) (.cells #[.int .i64 0,.string ⟨#[]⟩,.int .u64 0,.int .u64 0,.int .u64 0,.int .u64 0,.slice none 0 0] 75);obtain⟨W1,hW1⟩:∃W1,W1=(W.alloc (.cells #[.int .i64 5,.string T,.int .u64 a,.int .u64 b,.int .u64 c,.int .u64 d,.slice so n cap,.int .i64 p] 71)).alloc (.cells #[.int .i64 0,.string ⟨#[]⟩,.int .u64 0,.int .u64 0,.int .u64 0,.int .u64 0,.slice none 0 0] 75):=⟨_,rfl⟩;rw[<-hW1]at hB1 e0 e1;obtain⟨W2,hW2⟩:∃W2,W2=W1.drew:=⟨_,rfl⟩;have HB1:=hid hB1;have HZ1:Hid (W2.heap[W.heap.size+1]? =some (.cells #[.int .i64 0,.string ⟨#[]⟩,.int .u64 0,.int .u64 0,.int .u64 0,.int .u64 0,.slice none 0 0] 75)):=hid (by rw[hW2];exact e1);have HB2:Hid (Below W.heap.size W W2):=hid (by rw[hW2];exact hB1.drew);have lr1:W.heap.size+1<W2.heap.size:=Qq HZ1.out;have HLr:Hid (∀w3:World,Below W2.heap.size W2 w3->W.heap.size+1<w3.heap.size):=hid fun w3 h3=>Nat.lt_of_lt_of_le lr1 h3.size
 have HFd:=hid (HFi.out W2 HB2.out);obtain⟨⟨m0,m1,m2,m3,m4,m5,m6,m7⟩,_⟩:=Qw e0;have l0:=Qq e0;have HS2:Hid ((fun X:World=>X.cell? ⟨mB,0,none⟩=some (.slice gso gn gcap)/\X.cell? ⟨W.heap.size,1,none⟩=some (.string T)) W1.drew):=hid ⟨(Um (HM.out.below hB1).hm).1.1,m1⟩;have HW1:=hid hW1;have HW2:=hid hW2;clear hB1 e0 e1 hW1 hW2;go_enter func60,ntmps60
 go_wp2_with fail
 rw[<-HW1.out];clear HW1
 go_wp2_with fail
 clear m0 m1 m2 m3 m4 m5 m6 m7 l0;refine Xd 9 (fun X:World=>X.cell? ⟨mB,0,none⟩=some (.slice gso gn gcap)/\X.cell? ⟨W.heap.size,1,none⟩=some (.string T)) (by kernel_rfl) HS2.out (fun hHeld=> ?_);rw[<-HW2.out]at hHeld ⊢
 (refine Qz (i:=0) (oi:=({dst:=some 11,op:=Op.move (Operand.tmp 0),type:=80,pos:="code.go:89",after:=#[],guard:=none}:Oper)) (v:= ?_) rfl (by kernel_rfl) (by kernel_rfl) (by kernel_rfl) (fun _ _ _ h=>h) (Or.inl ⟨by rfl,?_⟩) hHeld ?_;rotate_left;(intro w hSw;(try dsimp only at hSw);go_simp;(try with_reducible rfl));skip)
 (try simp only[Act.put,List.setIfInBounds_toArray,List.set_cons_zero,List.set_cons_succ])
 (refine Qz (i:=1) (oi:=({dst:=some 12,op:=Op.nilCheck (Operand.tmp 11),type:=0,pos:="code.go:89",after:=#[{on:=0,ground:=Ground.data}],guard:=none}:Oper)) (v:= ?_) rfl (by kernel_rfl) (by kernel_rfl) (by kernel_rfl) (fun _ _ _ h=>h) (Or.inl ⟨by rfl,?_⟩) hHeld ?_;rotate_left;(intro w hSw;(try dsimp only at hSw);go_simp;(try with_reducible rfl));skip)
 (try simp only[Act.put,List.setIfInBounds_toArray,List.set_cons_zero,List.set_cons_succ])
 (refine Qz (i:=2) (oi:=({dst:=some 13,op:=Op.fieldAddr 83 (Operand.tmp 12) 0,type:=0,pos:="code.go:89",after:=#[{on:=1,ground:=Ground.data}],guard:=none}:Oper)) (v:= ?_) rfl (by kernel_rfl) (by kernel_rfl) (by kernel_rfl) (fun _ _ _ h=>h) (Or.inl ⟨by rfl,?_⟩) hHeld ?_;rotate_left;(intro w hSw;(try dsimp only at hSw);go_simp;(try with_reducible rfl));skip)
 (try simp only[Act.put,List.setIfInBounds_toArray,List.set_cons_zero,List.set_cons_succ])
 (refine Qz (i:=3) (oi:=({dst:=some 14,op:=Op.load 24 (Operand.tmp 13),type:=24,pos:="code.go:89",after:=#[{on:=2,ground:=Ground.data}],guard:=none}:Oper)) (v:= ?_) rfl (by kernel_rfl) (by kernel_rfl) (by kernel_rfl) (fun _ _ _ h=>h) (Or.inl ⟨by rfl,?_⟩) hHeld ?_;rotate_left;(intro w hSw;(try dsimp only at hSw);go_simp;(try with_reducible rfl));skip)
 (try simp only[Act.put,List.setIfInBounds_toArray,List.set_cons_zero,List.set_cons_succ])
 (refine Qz (i:=4) (oi:=({dst:=some 15,op:=Op.fieldAddr 71 (Operand.tmp 3) 1,type:=0,pos:="code.go:89",after:=#[],guard:=none}:Oper)) (v:= ?_) rfl (by kernel_rfl) (by kernel_rfl) (by kernel_rfl) (fun _ _ _ h=>h) (Or.inl ⟨by rfl,?_⟩) hHeld ?_;rotate_left;(intro w hSw;(try dsimp only at hSw);go_simp;(try with_reducible rfl));skip)
 (try simp only[Act.put,List.setIfInBounds_toArray,List.set_cons_zero,List.set_cons_succ])
 (refine Qz (i:=5) (oi:=({dst:=some 16,op:=Op.load 9 (Operand.tmp 15),type:=9,pos:="code.go:89",after:=#[{on:=4,ground:=Ground.data}],guard:=none}:Oper)) (v:= ?_) rfl (by kernel_rfl) (by kernel_rfl) (by kernel_rfl) (fun _ _ _ h=>h) (Or.inl ⟨by rfl,?_⟩) hHeld ?_;rotate_left;(intro w hSw;(try dsimp only at hSw);go_simp;(try with_reducible rfl));skip)
 (try simp only[Act.put,List.setIfInBounds_toArray,List.set_cons_zero,List.set_cons_succ])
 (refine Zz (i:=6) (o:=({dst:=some 17,op:=Op.call {callee:=Callee.value (Operand.func 104),args:=#[Operand.tmp 14,Operand.tmp 16],argTypes:=#[24,9]},type:=3,pos:="code.go:89",after:=#[{on:=3,ground:=Ground.data},{on:=5,ground:=Ground.data}],guard:=none}:Oper)) (by kernel_rfl) rfl (fun K hK=> ?_);go_simp;refine HFd.out.mono ?_;rintro e w3 ⟨rfl,hb3⟩;have HB3:=hid hb3;clear hb3;go_simp;replace hHeld:=Ik hHeld HB3.out;refine hK.out _ _ hHeld ?_;clear hK K)
 (try simp only[Act.put,List.setIfInBounds_toArray,List.set_cons_zero,List.set_cons_succ])
 (refine Zz (i:=7) (o:=({dst:=some 18,op:=Op.buildSlice 29 1 #[(0,Operand.tmp 17)],type:=29,pos:="code.go:89",after:=#[{on:=6,ground:=Ground.data}],guard:=none}:Oper)) (by kernel_rfl) rfl (fun K hK=> ?_);go_simp;replace hHeld:=Ik hHeld ((Below.refl _ w3).alloc L0q (.cells #[.int .i64 (ix T)] 3));refine hK.out _ _ hHeld ?_;clear hK K)
 (try simp only[Act.put,List.setIfInBounds_toArray,List.set_cons_zero,List.set_cons_succ])
 (refine Zz (i:=8) (o:=({dst:=some 19,op:=Op.build 75 #[(0,Operand.const (Value.int IntKind.i64 5)),(3,Operand.tmp 18)],type:=75,pos:="code.go:89",after:=#[{on:=7,ground:=Ground.data}],guard:=none}:Oper)) (by kernel_rfl) rfl (fun K hK=> ?_);go_simp;refine hK.out _ _ hHeld ?_;clear hK K)
 (try simp only[Act.put,List.setIfInBounds_toArray,List.set_cons_zero,List.set_cons_succ])
 refine Gz (o:=({dst:=none,op:=Op.store 75 (Operand.tmp 4) (Operand.tmp 19),type:=0,pos:="code.go:89",after:=#[{on:=8,ground:=Ground.data},{on:=6,ground:=Ground.chain},{on:=0,ground:=Ground.phase},{on:=1,ground:=Ground.phase},{on:=2,ground:=Ground.phase},{on:=3,ground:=Ground.phase},{on:=4,ground:=Ground.phase},{on:=5,ground:=Ground.phase},{on:=6,ground:=Ground.phase},{on:=7,ground:=Ground.phase},{on:=8,ground:=Ground.phase}],guard:=none}:Oper)) (by kernel_rfl) (by kernel_rfl) rfl (fun K hK=> ?_);have HZ3:=hid (((Below.refl _ w3).alloc L0q (.cells #[.int .i64 (ix T)] 3)).block _ (HLr.out w3 HB3.out)|>.trans ((HB3.out.block _ lr1).trans HZ1.out));obtain⟨⟨z0,z1,z2,z3,z4,z5,z6⟩,⟨f0,f1,f2,f3,f4,f5,f6⟩⟩:=Yc HZ3.out;have lz:=Qq HZ3.out;clear hHeld
 go_simp
 refine hK.out _ _ ?_;clear hK K z0 z1 z2 z3 z4 z5 z6 f0 f1 f2 f3 f4 f5 f6 lz
 go_wp2_with fail
 have HZ4:=Wy (v0:=.int .i64 5) (v1:=.string ⟨#[]⟩) (v2:=.int .u64 0) (v3:=.int .u64 0) (v4:=.int .u64 0) (v5:=.int .u64 0) (v6:=.slice (some ⟨w3.heap.size,0,none⟩) 1 1) HZ3.out;obtain⟨⟨r0,r1,r2,r3,r4,r5,r6⟩,_⟩:=Yc HZ4;have hb3:Below W.heap.size W (w3.alloc (.cells #[.int .i64 (ix T)] 3)):=(HB2.out.trans (HB3.out.mono HB2.out.size)).alloc (Nat.le_trans HB2.out.size HB3.out.size) _;refine bodyPost_ret (v:=.agg #[.int .i64 5,.string ⟨#[]⟩,.int .u64 0,.int .u64 0,.int .u64 0,.int .u64 0,.slice (some ⟨w3.heap.size,0,none⟩) 1 1]) (by simp[results,Tryz.results60,go_sem,r0,r1,r2,r3,r4,r5,r6]) rfl ?_;have hl3:W.heap.size+1<w3.heap.size:=HLr.out w3 HB3.out;refine⟨(5,{data:=#[]},(0,0,0,0),[ix T]),[.int .i64 5,.string ⟨#[]⟩,.int .u64 0,.int .u64 0,.int .u64 0,.int .u64 0,.slice (some ⟨w3.heap.size,0,none⟩) 1 1],Q,v,xs,ops,rfl,⟨some ⟨w3.heap.size,0,none⟩,1,rfl,by show [ix T].length<=1048576;simp,?_⟩,by rw[mkT,if_pos rfl],⟨(z5l _ hix).1,(z5l _ hix).2,(show(0:Nat)<=1073741824 by omega),hol⟩,HM.out.below (Ij hb3 (by omega)),fun g hg=>.inl hg,Frm.of_below (Ij hb3 (by omega))⟩;intro j hj;obtain rfl:j=0:=by have:j<1:=hj;omega
 refine⟨w3.heap.size,0,rfl,⟨by omega,by rw[z5k,World.size_alloc];omega,fun hq=> ?_,fun e=> ?_⟩,?_⟩
 ·have:=(HM.out.hq _ hq).1
  omega
 ·have:=(HM.out.ho.lt _ e).2
  omega
 ·exact(World.cell?_of_block (a:=⟨w3.heap.size,0+0,none⟩) (z5j (R:=W.heap.size+1) (show w3.heap.size≠W.heap.size+1 by omega))).trans (Am w3 (.int .i64 (ix T)) 3 0 _ rfl)
end Go.Proofs.YtlogolpcipiceaaGreatDoor
