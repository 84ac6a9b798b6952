/- Lemmas for the last text. Conditions: those that each names. -/
import Derived.Test.YtlogolpcipiceaaGreatDoorVC1ToO4
import Derived.Test.YtlogolpcipiceaaGreatDoorVT21ToT22
import Derived.Deep.AppendLies
set_option linter.unusedVariables false
set_option maxRecDepth 100000
set_option maxHeartbeats 16000000
namespace Go.Proofs.YtlogolpcipiceaaGreatDoor
open Go.Proofs.Tryz
open Go.RowKit Go.Shelf Go.Maps
variable {v:Value} {W W':World} {B mB mp:Nat} {xs:List Value}
theorem y2M(s:List Int)(i:Int):sbT (s++[i])=sbT s++(Lib.itoa i++[32]):=by
 induction s with
 |nil=>rw[List.nil_append,sbT,sbT,sbT,List.nil_append]
 |cons a r ih=>rw[List.cons_append,sbT,sbT,ih,List.append_assoc,List.cons_append]
theorem Ax(w:World)(x:Value)(t:TypeId):∀j u,[x][j]? =some u->(w.alloc (.cells #[x] t)).cell? ((⟨w.heap.size,0,none⟩:Addr).add j)=some u:=World.news_of_block (Qx w (.cells #[x] t) rfl)
theorem Fz(w:World)(A B:Obj):Below w.heap.size w ((w.alloc A).alloc B)/\((w.alloc A).alloc B).heap[w.heap.size]? =some A/\((w.alloc A).alloc B).heap[w.heap.size+1]? =some B:=by
 have s1:(w.alloc A).heap.size=w.heap.size+1:=by simp
 have b1:Below w.heap.size w (w.alloc A):=(Below.refl _ w).alloc L0q _;have b2:Below (w.heap.size+1) (w.alloc A) ((w.alloc A).alloc B):=B0q.alloc (Nat.le_of_eq s1.symm) _;refine⟨b1.trans (b2.mono (by omega)),?_,?_⟩
 ·rw[b2.block _ (by omega)];exact Qx w _ rfl
 ·exact Qx (w.alloc A) _ s1.symm
theorem y2N(a b:List Int):sbT (a++b)=sbT a++sbT b:=by
 induction a with
 |nil=>rw[List.nil_append,sbT,List.nil_append]
 |cons x r ih=>rw[List.cons_append,sbT,sbT,ih,List.append_assoc,List.cons_append]
theorem z4y(s:List Int)(j:Nat):(sbT (s.take j)).length<=(sbT s).length:=by
 have h:=y2N (s.take j) (s.drop j);rw[List.take_append_drop]at h;rw[h,List.length_append];omega
theorem y2O(s:List Int)(j:Nat)(hj:j<s.length):sbT (s.take (j+1))=sbT (s.take j)++(Lib.itoa s[j]++[32]):=by
 rw[List.take_succ_eq_append_getElem hj,y2M]
theorem y2P{w:World}{base n:Nat}{l:List UInt8}(h:w.ownsRow base 5 1 v n (Lib.byteCells l)):(convert 48 9 v).run prog w=.ok (.string ⟨l.toArray⟩) w:=by
 have e:Lib.byteCells l=nv (l.map fun b=>b.toNat):=by unfold Lib.byteCells nv;rw[List.map_map];rfl
 rw[e]at h;rw[Ap h (fun x hx=>by obtain⟨b,_,rfl⟩:=List.mem_map.1 hx;exact b.toNat_lt)];have:nb (l.map fun b=>b.toNat)=⟨l.toArray⟩:=by unfold nb;rw[List.map_map];simp[Function.comp_def]
 rw[this]
theorem Xb{w:World}{g:Nat}{t:TypeId}{a0 a1 a2 a3 a4 a5 a6:Value}(h:w.heap[g]? =some (.cells #[a0,a1,a2,a3,a4,a5,a6] t)):(w.cell? ⟨g,0,none⟩=some a0/\w.cell? ⟨g,1,none⟩=some a1/\w.cell? ⟨g,2,none⟩=some a2/\w.cell? ⟨g,3,none⟩=some a3/\w.cell? ⟨g,4,none⟩=some a4/\w.cell? ⟨g,5,none⟩=some a5/\w.cell? ⟨g,6,none⟩=some a6)/\(w.frozen? ⟨g,0,none⟩=false/\w.frozen? ⟨g,1,none⟩=false/\w.frozen? ⟨g,2,none⟩=false/\w.frozen? ⟨g,3,none⟩=false/\w.frozen? ⟨g,4,none⟩=false/\w.frozen? ⟨g,5,none⟩=false/\w.frozen? ⟨g,6,none⟩=false):=by
 refine⟨⟨?_,?_,?_,?_,?_,?_,?_⟩,⟨?_,?_,?_,?_,?_,?_,?_⟩⟩<;>simp[World.cell?,World.frozen?,h]
theorem Tv{R:Nat}{t:TypeId}{a0 a1 a2 a3 a4 a5 a6 v0 v1 v2 v3 v4 v5 v6:Value}(h:W.heap[R]? =some (.cells #[a0,a1,a2,a3,a4,a5,a6] t)):(((((((W.setCell ⟨R,0,none⟩ v0).setCell ⟨R,1,none⟩ v1).setCell ⟨R,2,none⟩ v2).setCell ⟨R,3,none⟩ v3).setCell ⟨R,4,none⟩ v4).setCell ⟨R,5,none⟩ v5).setCell ⟨R,6,none⟩ v6).heap[R]? =some (.cells #[v0,v1,v2,v3,v4,v5,v6] t):=by
 have h0:(W.setCell ⟨R,0,none⟩ v0).heap[R]? =some (.cells #[v0,a1,a2,a3,a4,a5,a6] t):=Qb h 0 v0;have h1:((W.setCell ⟨R,0,none⟩ v0).setCell ⟨R,1,none⟩ v1).heap[R]? =some (.cells #[v0,v1,a2,a3,a4,a5,a6] t):=Qb h0 1 v1;have h2:(((W.setCell ⟨R,0,none⟩ v0).setCell ⟨R,1,none⟩ v1).setCell ⟨R,2,none⟩ v2).heap[R]? =some (.cells #[v0,v1,v2,a3,a4,a5,a6] t):=Qb h1 2 v2;have h3:((((W.setCell ⟨R,0,none⟩ v0).setCell ⟨R,1,none⟩ v1).setCell ⟨R,2,none⟩ v2).setCell ⟨R,3,none⟩ v3).heap[R]? =some (.cells #[v0,v1,v2,v3,a4,a5,a6] t):=Qb h2 3 v3;have h4:(((((W.setCell ⟨R,0,none⟩ v0).setCell ⟨R,1,none⟩ v1).setCell ⟨R,2,none⟩ v2).setCell ⟨R,3,none⟩ v3).setCell ⟨R,4,none⟩ v4).heap[R]? =some (.cells #[v0,v1,v2,v3,v4,a5,a6] t):=Qb h3 4 v4;have h5:((((((W.setCell ⟨R,0,none⟩ v0).setCell ⟨R,1,none⟩ v1).setCell ⟨R,2,none⟩ v2).setCell ⟨R,3,none⟩ v3).setCell ⟨R,4,none⟩ v4).setCell ⟨R,5,none⟩ v5).heap[R]? =some (.cells #[v0,v1,v2,v3,v4,v5,a6] t):=Qb h4 5 v5;have h6:(((((((W.setCell ⟨R,0,none⟩ v0).setCell ⟨R,1,none⟩ v1).setCell ⟨R,2,none⟩ v2).setCell ⟨R,3,none⟩ v3).setCell ⟨R,4,none⟩ v4).setCell ⟨R,5,none⟩ v5).setCell ⟨R,6,none⟩ v6).heap[R]? =some (.cells #[v0,v1,v2,v3,v4,v5,v6] t):=Qb h5 6 v6;exact h6
theorem Hk{A:World}{R:Nat}{v0 v1 v2 v3 v4 v5 v6:Value}(h:Below B A W)(hR:B<=R):Below B A (((((((W.setCell ⟨R,0,none⟩ v0).setCell ⟨R,1,none⟩ v1).setCell ⟨R,2,none⟩ v2).setCell ⟨R,3,none⟩ v3).setCell ⟨R,4,none⟩ v4).setCell ⟨R,5,none⟩ v5).setCell ⟨R,6,none⟩ v6):=
 (((((((h.setCell (p:=⟨R,0,none⟩) hR v0).setCell (p:=⟨R,1,none⟩) hR v1).setCell (p:=⟨R,2,none⟩) hR v2).setCell (p:=⟨R,3,none⟩) hR v3).setCell (p:=⟨R,4,none⟩) hR v4).setCell (p:=⟨R,5,none⟩) hR v5).setCell (p:=⟨R,6,none⟩) hR v6)
theorem y2Q(n:Nat)(x:Int):0<n+(Lib.itoa x).length:=by
 have:0<(Lib.itoa x).length:=by
  unfold Lib.itoa;split
  ·simp
  ·rw[Lib.decDigits];split<;>simp
 omega
def SbZ(s:List Int):Prop:=(∀i∈s,-9223372036854775808<=i/\i<=9223372036854775807)/\(sbT s).length<=1073741824
theorem y2R(k:Int)(T:ByteArray)(a b c d:Int)(s:List Int)(so:Option Addr)(n cap B:Nat)(w:World)(HN:Hid (n=s.length))(hn2:n<=1048576)(HR:Hid (Dj w B (.slice so n cap) s))(hB:B<=w.heap.size)(HZ:Hid (SbZ s))(HP:Hid (Yj w)):
  Calls prog 61 #[.agg #[.int .i64 k,.string T,.int .u64 a,.int .u64 b,.int .u64 c,.int .u64 d,.slice so n cap]] w fun e w'=>e=.returned (qV (k,T,(a,b,c,d),s))/\Below w.heap.size w w':=by
 obtain⟨i0,hi,hz0,hz1,hz2⟩:=info_parts Tryz.infoByte;obtain⟨hB1,e0,e1⟩:=Fz w (.cells #[.int .i64 k,.string T,.int .u64 a,.int .u64 b,.int .u64 c,.int .u64 d,.slice so n cap] 75) (.cells #[.int .i64 0,.string ⟨#[]⟩,.int .u64 0,.int .u64 0,.int .u64 0,.int .u64 0,.string ⟨#[]⟩] 129);obtain⟨W1,hW1⟩:∃W1,W1=(w.alloc (.cells #[.int .i64 k,.string T,.int .u64 a,.int .u64 b,.int .u64 c,.int .u64 d,.slice so n cap] 75)).alloc (.cells #[.int .i64 0,.string ⟨#[]⟩,.int .u64 0,.int .u64 0,.int .u64 0,.int .u64 0,.string ⟨#[]⟩] 129):=⟨_,rfl⟩;rw[<-hW1]at hB1 e0 e1;have HB1:=hid hB1;have E0:=hid e0;have E1:=hid e1;have HZ1:Hid (W1.heap.size=w.heap.size+1+1):=hid (by rw[hW1,World.size_alloc,World.size_alloc]);have HW1:=hid hW1;clear hB1 e0 e1 hW1;go_enter func61,ntmps61
 go_wp2_with fail
 rw[<-HW1.out];clear HW1
 go_loopw [3,9] (fun v i wr=>∃j:Nat,i=.int .i64 j/\j<=n/\Hid (wr.ownsRow (w.heap.size+2) 5 1 v (sbT (s.take j)).length (Lib.byteCells (sbT (s.take j))))/\Hid (Below (w.heap.size+2) W1 wr)) (fun _ i _=>n-(intOf i).toNat)
 case atStart=>exact⟨0,rfl,Nat.zero_le _,hid (by rw[List.take_zero];exact World.ownsRow_nil _ _ _ _),hid B0q⟩
 case round=>
  obtain⟨j,rfl,hj,HO,HB⟩:=hrel;have hs1:W1.heap.size=w.heap.size+2:=by
   have:=HZ1.out;omega
  have HBw:Hid (Below w.heap.size w wr):=hid (HB1.out.trans (HB.out.mono (by omega)));by_cases hjn:j<n
  ·have hjI:(j:Int)<(n:Int):=by omega
   have a0:decide ((j:Int)<(n:Int))=true:=by simp;omega
   have hjs:j<s.length:=by rw[<-HN.out];exact hjn
   obtain⟨g,o,rfl,hg,hc⟩:∃g o,so=some ⟨g,o,none⟩/\g<B/\w.cell? ⟨g,o+j,none⟩=some (.int .i64 s[j]):=by
    obtain⟨so',cap',e1,_,hrow⟩:=HR.out;obtain⟨g,o,e2,hg,hc⟩:=hrow j hjs;injection e1 with e1 _ _
    exact⟨g,o,e1.trans e2,hg,hc⟩
   have z0:=(HBw.out.cell (p:=⟨g,o+j,none⟩) (by show g<w.heap.size;omega)).trans hc;have zl:g<wr.heap.size:=World.block_lt_of_cell? wr _ z0;obtain⟨x,hx⟩:∃x,x=s[j]:=⟨_,rfl⟩;rw[<-hx]at z0;have hxz:=HZ.out.1 x (by rw[hx];exact List.getElem_mem hjs);have hlt:(sbT (s.take j)).length<=1073741824:=Nat.le_trans (z4y s j) HZ.out.2;have HA:=hid (z9n (w.heap.size+2) _ x hxz.1 hxz.2 u3 _ w wr HO.out (by omega) (by have:=HB.out.size;omega) HBw.out (by omega) HP.out);have HTk:=hid (y2O s j hjs);rw[<-hx]at HTk;have HLt:=hid (show(sbT (s.take (j+1))).length<=1073741824 from Nat.le_trans (z4y s (j+1)) HZ.out.2);have M0:(sbT (s.take j)).length+(Lib.itoa x).length+1<=1073741824:=by
    have h:=HLt.out;rw[HTk.out,List.length_append,List.length_append]at h;exact h
   have M1:(sbT (s.take j)).length+(Lib.itoa x).length+1<=maxLen:=by unfold maxLen;omega
   have M2:((sbT (s.take j)).length+(Lib.itoa x).length+1)*1<=140737488355328:=by omega
   have HM3:Hid (∀w2:World,Below (w.heap.size+2) W1 w2->w.heap.size+2<=(w2.alloc (.cells #[.int .u8 32] 5)).heap.size):=fun w2 h2=>by
    have h3:=h2.size;rw[World.size_alloc];omega
   have HM4:Hid (∀w2:World,Below (w.heap.size+2) W1 w2->w.heap.size+2<=w2.heap.size):=fun w2 h2=>by
    have h3:=h2.size;omega
   clear hc hx hxz HR HZ hlt M0
   go_wp2_with(first
    |(go_at_call 105;refine HA.out.mono ?_;rintro e w2 ⟨v2,rfl,hown2,hb2⟩;obtain⟨g2,cap2,rfl,_,_⟩:=hown2.form (y2Q _ _);have HB2:=hid (HB.out.trans hb2);have HO2:=hid hown2;clear hown2 hb2 HA HO)
    |(at_builtin;refine wpList_append_lies _ rfl (.tmp 16) (.tmp 17) 48 rfl (w.heap.size+2) 5 i0 (.int .u8 0) 1 1 Tryz.underlying48 hi hz0 hz1 hz2 rfl (by decide) (.slice (some ⟨g2,0,none⟩) ((sbT (s.take j)).length+(Lib.itoa x).length) cap2) ((sbT (s.take j)).length+(Lib.itoa x).length) (Lib.byteCells (sbT (s.take j))++Lib.byteCells (Lib.itoa x)) rfl (HO2.out.alloc _) ⟨w2.heap.size,0,none⟩ 1 1 [.int .u8 32] rfl rfl (Ax _ _ _) (by simp[Value.oneCell']) (by decide) M1 M2 (HM3.out w2 HB2.out) _ rfl ?_;intro g6 cap6 w6 hown6 hgr6 hat6 hlt6;have HO6:=hid hown6;have HB6:=hid ((HB2.out.alloc (HM4.out w2 HB2.out) _).grown hgr6 (HM3.out w2 HB2.out) (fun g e=>(HO2.out.lt g e).1));clear hown6 hgr6 hat6))
   refine⟨⟨j+1,by go_num,by omega,hid ?_,HB6⟩,by simp[intOf];omega⟩;have h6:=HO6.out;rw[HTk.out];simpa [Lib.byteCells,Nat.add_assoc]using h6
  ·have a0:decide ((j:Int)<(n:Int))=false:=by simp;omega
   obtain rfl:j=n:=by omega
   have HC:Hid ((convert 48 9 u3).run prog wr=.ok (.string ⟨(sbT s).toArray⟩) wr):=by
    have h:=y2P HO.out;rw[List.take_of_length_le (by have:=HN.out;omega)]at h;exact h
   have F0:=hid ((HB.out.block _ (by omega)).trans E0.out);have F1:=hid ((HB.out.block _ (by omega)).trans E1.out);obtain⟨⟨m0,m1,m2,m3,m4,m5,m6⟩,_⟩:=Xb F0.out;obtain⟨⟨k0,k1,k2,k3,k4,k5,k6⟩,⟨f0,f1,f2,f3,f4,f5,f6⟩⟩:=Xb F1.out;have l0:=Qz F0.out;have l1:=Qz F1.out;have hcv:=HC.out;clear HO HB HB1 E0 E1 HR HZ HP HN hj hjn hs1
   go_wp2_with fail
   obtain⟨⟨r0,r1,r2,r3,r4,r5,r6⟩,_⟩:=Xb (Tv (v0:=.int .i64 k) (v1:=.string T) (v2:=.int .u64 a) (v3:=.int .u64 b) (v4:=.int .u64 c) (v5:=.int .u64 d) (v6:=.string ⟨(sbT s).toArray⟩) F1.out);refine bodyPost_ret (v:=qV (k,T,(a,b,c,d),s)) (by simp[results,Tryz.results61,go_sem,r0,r1,r2,r3,r4,r5,r6,qV]) rfl ⟨rfl,Hk HBw.out (by omega)⟩
theorem Tryz.infoOp:(Tryz.prog.info? 75).map (fun i=>(i.zero,i.size,i.bytes))=some (some (.agg #[.int .i64 0,.string ⟨#[]⟩,.int .u64 0,.int .u64 0,.int .u64 0,.int .u64 0,.slice none 0 0]),7,80):=by kernel_rfl
def RwC(W:World)(P:Nat->Prop)(so:Option Addr)(s:List Int):Prop:=∀j (hj:j<s.length),∃g q,so=some ⟨g,q,none⟩/\P g/\W.cell? ⟨g,q+j,none⟩=some (.int .i64 s[j])
def OpC(W:World)(P:Nat->Prop)(o:Ox)(cs:List Value):Prop:=∃so cap,cs=[.int .i64 o.1,.string o.2.1,.int .u64 o.2.2.1.1,.int .u64 o.2.2.1.2.1,.int .u64 o.2.2.1.2.2.1,.int .u64 o.2.2.1.2.2.2,.slice so o.2.2.2.length cap]/\o.2.2.2.length<=1048576/\RwC W P so o.2.2.2
def Aj(W:World)(P:Nat->Prop)(ops:List Ox)(xs:List Value):Prop:=∀i (hi:i<ops.length),∃c,OpC W P ops[i] c/\∀q u,c[q]? =some u->xs[i*7+q]? =some u
structure Mkr (W:World) (Q:Nat->Prop) (B mB mp:Nat) (gv vn vr:Value) (ops:List Ox) (v:Value) (xs:List Value):Prop where
 hm:W.heap[mB]? =some (.cells #[gv,v,vn,vr,.map (some mp)] 83)
 ho:W.ownsRow B 75 7 v ops.length xs
 hops:Aj W Q ops xs
 hmap:Pk W mp (ops.map qB)
 hq:∀g,Q g->g<W.heap.size/\g≠mB/\g≠mp/\v.ownBlock≠some g
 hmB:mB<B
 hmp:mp<B
 hne:mB≠mp
structure Frm (mB mp:Nat) (W:World) (v:Value) (W':World) (v':Value):Prop where
 os:W'.os=W.os
 tape:W'.tape=W.tape
 output:W'.output=W.output
 size:W.heap.size<=W'.heap.size
 block:∀k,k<W.heap.size->k≠mB->k≠mp->v.ownBlock≠some k->W'.heap[k]? =W.heap[k]?
 row:∀g,v'.ownBlock=some g->v.ownBlock=some g∨W.heap.size<=g
theorem Frm.refl(mB mp:Nat)(W:World)(v:Value):Frm mB mp W v W v:=⟨rfl,rfl,rfl,Nat.le_refl _,fun _ _ _ _ _=>rfl,fun _ h=>.inl h⟩
theorem Frm.trans{mB mp:Nat}{W W1 W2:World}{v v1 v2:Value}(h:Frm mB mp W v W1 v1)(h2:Frm mB mp W1 v1 W2 v2):Frm mB mp W v W2 v2:=
 ⟨h2.os.trans h.os,h2.tape.trans h.tape,h2.output.trans h.output,Nat.le_trans h.size h2.size,fun k hk h3 h4 h5=>(h2.block k (Nat.lt_of_lt_of_le hk h.size) h3 h4 (fun e=>(h.row k e).elim h5 (fun h6=>by omega))).trans (h.block k hk h3 h4 h5),fun g hg=>by
   rcases h2.row g hg with h6|h6
   ·exact h.row g h6
   ·exact .inr (Nat.le_trans h.size h6)⟩
theorem Frm.of_below(h:Below W.heap.size W W'):Frm mB mp W v W' v:=⟨h.os,h.tape,h.output,h.size,fun k hk _ _ _=>h.block k hk,fun _ h=>.inl h⟩
theorem Frm.below{A:World}{v':Value}(h:Frm mB mp W v W' v')(hA:Below B A W)(hB:B<=W.heap.size)(h1:B<=mB)(h2:B<=mp)(h3:∀g,v.ownBlock=some g->B<=g):Below B A W':=
 hA.trans ⟨h.os,h.tape,h.output,h.size,fun k hk=>h.block k (by omega) (by omega) (by omega) (fun e=>by have:=h3 k e;omega)⟩
theorem RwC.keep{P P':Nat->Prop}{so:Option Addr}{s:List Int}(h:RwC W P so s)(hk:∀g,P g->P' g/\W'.heap[g]? =W.heap[g]?):RwC W' P' so s:=fun j hj=>by
 obtain⟨g,q,h1,h2,h3⟩:=h j hj;exact⟨g,q,h1,(hk g h2).1,(World.cell?_of_block (hk g h2).2).trans h3⟩
theorem OpC.keep{W W':World}{P P':Nat->Prop}{o:Ox}{cs:List Value}(h:OpC W P o cs)(hk:∀g,P g->P' g/\W'.heap[g]? =W.heap[g]?):OpC W' P' o cs:=by
 obtain⟨so,cap,h1,h2,h3⟩:=h;exact⟨so,cap,h1,h2,h3.keep hk⟩
theorem Aj.keep{W W':World}{P P':Nat->Prop}{ops:List Ox}{xs:List Value}(h:Aj W P ops xs)(hk:∀g,P g->P' g/\W'.heap[g]? =W.heap[g]?):Aj W' P' ops xs:=fun i hi=>by
 obtain⟨c,h1,h2⟩:=h i hi;exact⟨c,h1.keep hk,h2⟩
theorem Jz{e size n:Nat}(h:W.ownsRow B e size v n xs)(hk:∀g,v.ownBlock=some g->W'.heap[g]? =W.heap[g]?):W'.ownsRow B e size v n xs:=by
 obtain⟨h1,h2⟩:=h;refine⟨h1,?_⟩;rcases h2 with h2|⟨g,cap,cur,h3,h4,h5,h6⟩
 ·exact .inl h2
 ·exact .inr ⟨g,cap,cur,h3,h4,(hk g (by rw[h3];rfl)).trans h5,h6⟩
theorem Mkr.kept{Q:Nat->Prop}{gv vn vr:Value}{ops:List Ox}(h:Mkr W Q B mB mp gv vn vr ops v xs)(hs:W.heap.size<=W'.heap.size)(X:Nat->Prop)(hb:∀k,k<W.heap.size->¬X k->W'.heap[k]? =W.heap[k]?)(h1:¬X mB)(h2:¬X mp)(h3:∀g,v.ownBlock=some g->¬X g)(h4:∀g,Q g->¬X g):Mkr W' Q B mB mp gv vn vr ops v xs:=
 ⟨(hb _ (Qz h.hm) h1).trans h.hm,Jz h.ho fun g hg=>hb g (h.ho.lt g hg).2 (h3 g hg),h.hops.keep fun g hg=>⟨hg,hb g (h.hq g hg).1 (h4 g hg)⟩,h.hmap.same (hb _ h.hmap.lt h2),fun g hg=>⟨Nat.lt_of_lt_of_le (h.hq g hg).1 hs,(h.hq g hg).2⟩,h.hmB,h.hmp,h.hne⟩
theorem Mkr.below{Q:Nat->Prop}{gv vn vr:Value}{ops:List Ox}(h:Mkr W Q B mB mp gv vn vr ops v xs)(hb:Below W.heap.size W W'):Mkr W' Q B mB mp gv vn vr ops v xs:=
 h.kept hb.size (fun _=>False) (fun k hk _=>hb.block k hk) id id (fun _ _=>id) (fun _ _=>id)
def OnP(ix:ByteArray->Int)(t:RT)(Q:Nat->Prop)(B mB mp:Nat)(gv vn vr:Value)(ops:List Ox)(v:Value)(W:World)(e:Ending)(W':World):Prop:=
 ∃(o:Ox) (cs:List Value) (Q':Nat->Prop) (v':Value) (xs':List Value) (ops':List Ox),e=.returned (.agg cs.toArray)/\OpC W' (fun g=>W.heap.size<=g/\g<W'.heap.size/\¬Q' g/\v'.ownBlock≠some g) o cs/\mkT ix t ops=plO o ops'/\(qW o/\SbZ o.2.2.2/\o.2.1.size<=1073741824/\ops'.length<=1048576)/\Mkr W' Q' B mB mp gv vn vr ops' v' xs'/\(∀g,Q' g->Q g∨W.heap.size<=g)/\Frm mB mp W v W' v'
def PlP(ix:ByteArray->Int)(t:RT)(Q:Nat->Prop)(B mB mp:Nat)(gv vn vr:Value)(ops:List Ox)(v:Value)(W:World)(e:Ending)(W':World):Prop:=
 ∃(Q':Nat->Prop) (v':Value) (xs':List Value),e=.returned (.int .i64 ((mkT ix t ops).1:Nat))/\Mkr W' Q' B mB mp gv vn vr (mkT ix t ops).2 v' xs'/\(∀g,Q' g->Q g∨W.heap.size<=g)/\Frm mB mp W v W' v'
end Go.Proofs.YtlogolpcipiceaaGreatDoor
