/- Lemmas for the last text. Conditions: those that each names. -/
import Derived.Test.YtjodljnddflgfaaGreatDoorVO5ToO16
import Derived.Deep.RegionHeld3
import Derived.Test.YtjodljnddflgfaaGreatDoorVU3ToO4
import Derived.Test.YtjodljnddflgfaaGreatDoorVKPlainToKG2
import Derived.Deep.AppendLies
set_option linter.unusedVariables false
set_option maxRecDepth 100000
set_option maxHeartbeats 8000000
namespace Go.Proofs.YtjodljnddflgfaaGreatDoor
open Go.Proofs.Tryz
open Go.RowKit Go.Shelf
variable {W w:World} {R:Nat} {v0 v1 v2 v3 v4:Value}
def fdI(s:ByteArray)(l:List ByteArray):Int:=if inN s l then(ixN s l:Int)else-1
theorem z4b{s:ByteArray}:∀{l:List ByteArray} {j:Nat} (hj:j<l.length),(∀i (hi:i<l.length),i<j->l[i]≠s)->l[j]=s->inN s l=true/\ixN s l=j
 |[],j,hj,_,_=>by simp at hj
 |a::r,0,_,_,h=>by
  have h:a=s:=h;rw[inN,ixN,if_pos h,if_pos h];exact⟨rfl,rfl⟩
 |a::r,j+1,hj,hb,h=>by
  have h0:a≠s:=hb 0 (by simp) (by omega);obtain⟨i1,i2⟩:=z4b (l:=r) (j:=j) (by simpa using hj) (fun i hi hij=>hb (i+1) (by simpa using hi) (by omega)) h;rw[inN,ixN,if_neg h0,if_neg h0,i2];exact⟨i1,rfl⟩
theorem z4c{s:ByteArray}:∀{l:List ByteArray},(∀i (hi:i<l.length),l[i]≠s)->inN s l=false
 |[],_=>rfl
 |a::r,h=>by
  have h0:a≠s:=h 0 (by simp);rw[inN,if_neg h0];exact z4c fun i hi=>h (i+1) (by simpa using hi)
theorem y0G(a b:ByteArray):(a.toList == b.toList)=decide (a=b):=by
 by_cases h:a=b
 ·subst h;simp
 ·have:a.toList≠b.toList:=fun e=>h (by
   rw[Go.ByteArray.toList_eq,Go.ByteArray.toList_eq]at e;exact ByteArray.ext (Array.toList_inj.1 e))
  simp[h,this]
theorem y0H(N0 T1 s:ByteArray)(k1 a1 b1 c1 d1 p1 q1:Int)(so1:Option Addr)(n1 cap1 nB:Nat)(W:World)(hb:Boxed W nB 9 (.string s)):
  Calls prog 50 #[.agg #[.string N0,.int .i64 k1,.string T1,.int .u64 a1,.int .u64 b1,.int .u64 c1,.int .u64 d1,.slice so1 n1 cap1,.int .i64 p1,.int .i64 q1],.pointer (some ⟨nB,0,none⟩)] W fun e w'=>e=.returned (.bool (decide (N0=s)))/\Below W.heap.size W w':=by
 have cn:=hb.cell;have lb:=hb.lt;go_enter func50,ntmps50
 go_wp2_with fail
 go_ret;refine⟨?_,(Below.refl _ W).alloc L0q _⟩;show Ending.returned (.bool (N0.toList == s.toList))=_;rw[y0G]
theorem y0I(s:ByteArray)(so:Option Addr)(n cap:Nat)(rs:List Rr)(B nB:Nat)(W:World)(h:Qh W B so n rs)(hB:B<=W.heap.size)(hb:Boxed W nB 9 (.string s))(hnB:nB<W.heap.size):
  Calls prog 49 #[.slice so n cap,.func (.func 50) #[] #[.pointer (some ⟨nB,0,none⟩)]] W fun e w'=>e=.returned (.int .i64 (fdI s (nmL rs)))/\Below W.heap.size W w':=by
 have HR:=hid h;have HNl:Hid (n=rs.length):=h.1;have hn6:n<=9223372036854775807:=by have:=h.2.1;unfold maxLen at this;omega
 have HBx:=hid hb;have HBB:Hid (B<=W.heap.size):=hB;clear h hb hB;go_enter func49,ntmps49
 go_wp2_with fail
 go_loopw [8] (fun i wr=>∃j:Nat,i=.int .i64 j/\j<=n/\Hid (∀i (hi:i<rs.length),i<j->rs[i].1≠s)/\Hid (Below W.heap.size W wr)) (fun i _=>n-(intOf i).toNat)
 case atStart=>exact⟨0,rfl,Nat.zero_le _,fun i hi h0=>by omega,Below.refl _ _⟩
 case round=>
  obtain⟨j,rfl,hj,HA,HBj⟩:=hrel;have hnl:(nmL rs).length=rs.length:=List.length_map _;by_cases hjn:j<n
  ·have hjI:(j:Int)<(n:Int):=by omega
   have a0:decide ((j:Int)<(n:Int))=true:=by simp;omega
   have hjs:j<rs.length:=by rw[<-HNl.out];exact hjn
   obtain⟨g,o,rfl,hg,k1,T1,a1,b1,c1,d1,so1,n1,cap1,p1,hrt,r0⟩:=HR.out.2.2 j hjs;have hce:∀q,wr.cell? ⟨g,q,none⟩=W.cell? ⟨g,q,none⟩:=fun q=>HBj.out.cell (p:=⟨g,q,none⟩) (Nat.lt_of_lt_of_le hg HBB.out)
   simp only[<-hce]at r0;obtain⟨z0,z1,z2,z3,z4,z5,z6,z7,z8,z9⟩:=r0;obtain⟨N0,hN0⟩:∃N0,N0=rs[j].1:=⟨_,rfl⟩;obtain⟨q1,hq1⟩:∃q1,q1=rs[j].2.2:=⟨_,rfl⟩;rw[<-hN0]at z0;rw[<-hq1]at z9;have HN0:Hid (N0=rs[j].1):=hN0;have HF:=hid (y0H N0 T1 s k1 a1 b1 c1 d1 p1 q1 so1 n1 cap1 nB wr ((HBj.out.block nB hnB).trans HBx.out));clear hce hrt hN0 hq1;by_cases e:N0=s
   ·rw[decide_eq_true e]at HF
    have HE:Hid (N0=s):=e;clear e
    go_wp2_with(first
     |(go_at_call 50;refine HF.out.mono ?_;clear HF;rintro e w5 ⟨rfl,hb5⟩))
    go_ret;refine⟨?_,HBj.out.trans (hb5.mono HBj.out.size)⟩;obtain⟨i1,i2⟩:=z4b (s:=s) (l:=nmL rs) (j:=j) (by omega) (fun i hi hij=>by have:=HA.out i (by omega) hij;simpa [nmL]using this) (by have:=HE.out;rw[HN0.out]at this;simpa [nmL]using this);unfold fdI;rw[i1,i2];rfl
   ·rw[decide_eq_false e]at HF
    have HE:Hid (N0≠s):=e;clear e
    go_wp2_with(first
     |(go_at_call 50;refine HF.out.mono ?_;clear HF;rintro e w5 ⟨rfl,hb5⟩))
    refine⟨⟨j+1,by go_num,by omega,hid (fun i hi hij=> ?_),hid (HBj.out.trans (hb5.mono HBj.out.size))⟩,by simp[intOf];omega⟩;by_cases e:i=j
    ·subst e
     have:=HE.out;rw[HN0.out]at this;exact this
    ·exact HA.out i hi (by omega)
  ·have a0:decide ((j:Int)<(n:Int))=false:=by simp;omega
   go_wp2_with fail
   go_ret;refine⟨?_,HBj.out⟩;unfold fdI;rw[z4c (s:=s) (l:=nmL rs) fun i hi=>by have:=HA.out i (by omega) (by have:=HNl.out;omega);simpa [nmL]using this];rfl
theorem y0J(s:ByteArray)(so:Option Addr)(n cap:Nat)(rs:List Rr)(B:Nat)(W:World)(h:Qh W B so n rs)(hB:B<=W.heap.size):
  Calls prog 22 #[.agg #[.slice so n cap],.string s] W fun e w'=>e=.returned (.int .i64 (fdI s (nmL rs)))/\Below W.heap.size W w':=by
 have HI:=hid (fun(nB:Nat) (W':World) (hb:Below W.heap.size W W') (hx:Boxed W' nB 9 (.string s))=>y0I s so n cap rs B nB W' (h.below (hb.mono hB)) (Nat.le_trans hB hb.size) hx hx.lt);have HB2:Hid (∀o o':Obj,Below W.heap.size W ((W.alloc o).alloc o')):=fun o o'=>((Below.refl _ W).alloc L0q _).alloc (by simp) _
 have HX1:Hid (∀o:Obj,Boxed ((W.alloc o).alloc (.cells #[.string s] 9)) (W.heap.size+1) 9 (.string s)):=fun o=>by
  have:=Boxed.new (W.alloc o) 9 (.string s);simpa only[World.size_alloc]using this
 clear h hB;go_enter func22,ntmps22
 go_wp2_with fail
 refine(HI.out _ _ (HB2.out _ _) (HX1.out _)).mono ?_;rintro e w1 ⟨rfl,hb1⟩;have H1:=hid ((HB2.out _ _).trans (hb1.mono (HB2.out _ _).size));clear hb1 HI HX1 HB2
 go_wp2_with fail
 go_ret;exact⟨rfl,H1.out⟩
theorem z4d:∀{rs:List Rr} {l:List ByteArray},Vc l rs=none->∀j (hj:j<rs.length),inN rs[j].1 (l++nmL (rs.take j))=false
 |[],_,_,j,hj=>by simp at hj
 |x::r,l,h,0,_=>by
  rw[Vc]at h;cases hi:inN x.1 l with
  |true=>rw[hi]at h;cases h
  |false=>simpa [nmL]using hi
 |x::r,l,h,j+1,hj=>by
  rw[Vc]at h;cases hi:inN x.1 l with
  |true=>rw[hi]at h;cases h
  |false=>
   rw[hi]at h;have:=z4d (l:=l++[x.1]) (by simpa using h) j (by simpa using hj);simpa [nmL,List.append_assoc]using this
theorem y0K{rs:List Rr}(h:ckR rs=none)(j:Nat)(hj:j<rs.length):inN rs[j].1 (nmL (rs.take j))=false:=by
 have hd:Kj rs=none:=by
  unfold ckR at h;cases hd:Kj rs with
  |none=>rfl
  |some p=>rw[hd]at h;cases h
 have:=z4d hd j hj;rwa[List.nil_append]at this
theorem z4e(s:ByteArray):∀a b,inN s (a++b)=(inN s a||inN s b)
 |[],b=>by rw[List.nil_append,inN];rfl
 |x::r,b=>by rw[List.cons_append,inN,inN,z4e s r b];by_cases h:x=s<;>simp[h]
theorem z4f(s:ByteArray):∀a b,ixN s (a++b)=if inN s a then ixN s a else a.length+ixN s b
 |[],b=>by rw[List.nil_append,inN];simp
 |x::r,b=>by
  rw[List.cons_append,ixN,ixN,inN,z4f s r b];by_cases h:x=s
  ·simp[h]
  ·simp only[h,if_false]
   by_cases h2:inN s r=true
   ·simp[h2]
   ·simp[h2];omega
theorem z4g{rs:List Rr}(h:ckR rs=none)(j:Nat)(hj:j<rs.length):fdI rs[j].1 (nmL rs)=(j:Int):=by
 have h0:=y0K h j hj;have e:nmL rs=nmL (rs.take j)++(rs[j].1::nmL (rs.drop (j+1))):=by
  have e1:rs=rs.take j++(rs[j]::rs.drop (j+1)):=by rw[<-List.drop_eq_getElem_cons hj,List.take_append_drop]
  have e2:=congrArg nmL e1;rw[e2];unfold nmL;rw[List.map_append];rfl
 have hl:(nmL (rs.take j)).length=j:=by unfold nmL;rw[List.length_map,List.length_take];omega
 unfold fdI;rw[e,z4e,z4f,h0,inN,ixN,if_pos rfl,if_pos rfl,hl];simp
open Go.Maps
theorem y0L(lo hi:Nat)(w:World)(h1:lo<=hi)(h2:hi<256):
  Calls prog 103 #[.int .i64 lo,.int .i64 hi] w fun e w'=>e=.returned (.tuple #[cv (seg lo (hi+1)),.nilIface])/\Below w.heap.size w w':=by
 have a1:decide ((lo:Int)<0)=false:=by simp
 have a2:decide ((hi:Int)<(lo:Int))=false:=by simp;omega
 have a2':decide (hi<lo)=false:=by simp;omega
 have a3:decide (256<=(hi:Int))=false:=by simp;omega
 go_enter func103,ntmps103
 go_wp2_with fail
 refine(Mk lo hi _ h1 h2).mono ?_;rintro e w1 ⟨rfl,hb1⟩;have hk:Blk w1 w.heap.size 0:=(Blk.new0 w).below hb1 (by simp);obtain⟨c0,c1,c2,c3⟩:=hk.cells;obtain⟨f0,f1,f2,f3⟩:=hk.thaw;obtain⟨r0,r1,r2,r3⟩:=(hk.st4 (seg lo (hi+1))).cells;have HB:Hid (Below w.heap.size w (st4 w1 w.heap.size (seg lo (hi+1)))):=Below.st4 ((B0q.alloc L0q _).trans (hb1.mono (by simp))) L0q _;clear hb1 hk;unfold st4 at r0 r1 r2 r3;show _;rw[show spn lo (hi+1-lo)=seg lo (hi+1)from rfl];dsimp only[cv]
 go_wp2_with fail
 refine bodyPost_ret (v:=.tuple #[cv (seg lo (hi+1)),.nilIface]) (by simp[results,Tryz.results103,go_sem,r0,r1,r2,r3]) rfl ⟨rfl,HB.out⟩
theorem Qv{t:TypeId}(h:W.heap[R]? =some (.cells #[v0,v1,v2,v3,v4] t)):(W.cell? ⟨R,0,none⟩=some v0/\W.cell? ⟨R,1,none⟩=some v1/\W.cell? ⟨R,2,none⟩=some v2/\W.cell? ⟨R,3,none⟩=some v3/\W.cell? ⟨R,4,none⟩=some v4)/\W.frozen? ⟨R,0,none⟩=false/\W.frozen? ⟨R,1,none⟩=false/\W.frozen? ⟨R,2,none⟩=false/\W.frozen? ⟨R,3,none⟩=false/\W.frozen? ⟨R,4,none⟩=false:=by
 obtain⟨x0,y0⟩:=Zj h 0 v0 rfl;obtain⟨x1,y1⟩:=Zj h 1 v1 rfl;obtain⟨x2,y2⟩:=Zj h 2 v2 rfl;obtain⟨x3,y3⟩:=Zj h 3 v3 rfl;obtain⟨x4,y4⟩:=Zj h 4 v4 rfl;exact⟨⟨x0,x1,x2,x3,x4⟩,y0,y1,y2,y3,y4⟩
def st5(w:World)(g:Nat)(v0 v1 v2 v3 v4:Value):World:=((((w.setCell ⟨g,0,none⟩ v0).setCell ⟨g,1,none⟩ v1).setCell ⟨g,2,none⟩ v2).setCell ⟨g,3,none⟩ v3).setCell ⟨g,4,none⟩ v4
theorem Xg{a b c d e:Value}{t:TypeId}(h:W.heap[R]? =some (.cells #[a,b,c,d,e] t)):(st5 W R v0 v1 v2 v3 v4).heap[R]? =some (.cells #[v0,v1,v2,v3,v4] t):=Qy (Qy (Qy (Qy (Qy h 0 _) 1 _) 2 _) 3 _) 4 _
theorem Xx(W:World)(R:Nat)(v0 v1 v2 v3 v4:Value):W.grownBy (st5 W R v0 v1 v2 v3 v4) (some R):=G.setR (G.setR (G.setR (G.setR (G.setR (G.refl _ _)))))
theorem y0M:Zv 0=Qj:=Nat.sub_zero _
theorem z4h(w:World):Calls prog 65 #[] w fun e w'=>e=.returned (cv Qj)/\Below w.heap.size w w':=by
 have HN:Hid (∀W:World,Calls prog 91 #[.agg #[.int .u64 0,.int .u64 0,.int .u64 0,.int .u64 0]] W fun e w'=>e=.returned (cv Qj)/\Below W.heap.size W w'):=fun W=>by rw[<-Lv,<-y0M];exact Dj 0 (Nat.two_pow_pos _) W
 generalize Qj=C at HN ⊢;go_enter func65,ntmps65
 go_wp2_with fail
 refine(HN.out _).mono ?_;rintro e w1 ⟨rfl,hb1⟩;have hk:Blk w1 w.heap.size 0:=(Blk.new0 w).below hb1 (by simp);obtain⟨c0,c1,c2,c3⟩:=hk.cells;obtain⟨f0,f1,f2,f3⟩:=hk.thaw;obtain⟨r0,r1,r2,r3⟩:=(hk.st4 C).cells;have HB:Hid (Below w.heap.size w (st4 w1 w.heap.size C)):=Below.st4 ((B0q.alloc L0q _).trans (hb1.mono (by simp))) L0q _;clear hb1 hk HN;unfold st4 at r0 r1 r2 r3;dsimp only[cv]
 go_wp2_with fail
 refine bodyPost_ret (v:=cv C) (by simp[results,Tryz.results65,go_sem,r0,r1,r2,r3]) rfl ⟨rfl,HB.out⟩
theorem Gd(w:World):Calls prog 64 #[] w fun e w'=>e=.returned (av Xq)/\Below w.heap.size w w':=by
 have HN:Hid (∀W:World,Calls prog 65 #[] W fun e w'=>e=.returned (cv Qj)/\Below W.heap.size W w'):=z4h;unfold Xq;generalize Qj=C at HN ⊢;go_enter func64,ntmps64
 go_wp2_with fail
 refine(HN.out _).mono ?_;rintro e w1 ⟨rfl,hb1⟩;have hk:w1.heap[w.heap.size]? =some (.cells #[.int .u64 0,.int .u64 0,.int .u64 0,.int .u64 0,.bool false] 39):=(hb1.block _ (by simp)).trans (Qx w _ rfl);obtain⟨⟨c0,c1,c2,c3,c4⟩,f0,f1,f2,f3,f4⟩:=Qv hk;obtain⟨⟨r0,r1,r2,r3,r4⟩,_⟩:=Qv (Xg (v0:=.int .u64 (wd C 0)) (v1:=.int .u64 (wd C 1)) (v2:=.int .u64 (wd C 2)) (v3:=.int .u64 (wd C 3)) (v4:=.bool true) hk);have hb:Below w.heap.size w w1:=(B0q.alloc L0q _).trans (hb1.mono (by simp));have HB:Hid (Below w.heap.size w (st5 w1 w.heap.size (.int .u64 (wd C 0)) (.int .u64 (wd C 1)) (.int .u64 (wd C 2)) (.int .u64 (wd C 3)) (.bool true))):=hb.grown (Xx _ _ _ _ _ _ _) hb.size (fun g e=>by have:=Option.some.inj e;omega);have hl:=Qz hk;clear hb1 hk HN hb;unfold st5 at r0 r1 r2 r3 r4;dsimp only[cv]
 go_wp2_with fail
 refine bodyPost_ret (v:=av (C,true)) (by simp[results,Tryz.results64,go_sem,r0,r1,r2,r3,r4]) rfl ⟨rfl,HB.out⟩
theorem y0N(b:Nat):seg b (b+1)=2^b:=by
 unfold seg spn;rw[show b+1-b=1 by omega];simp
theorem y0O(b:Nat)(hb:b<256)(w:World):Calls prog 63 #[.int .u8 b] w fun e w'=>e=.returned (cv (2^b))/\Below w.heap.size w w':=by
 have HN:Hid (∀W:World,Calls prog 103 #[.int .i64 b,.int .i64 b] W fun e w'=>e=.returned (.tuple #[cv (2^b),.nilIface])/\Below W.heap.size W w'):=fun W=>by rw[<-y0N b];exact y0L b b W L0q hb
 generalize 2^b=C at HN ⊢;go_enter func63,ntmps63
 go_wp2_with fail
 refine(HN.out _).mono ?_;rintro e w1 ⟨rfl,hb1⟩;have hk:Blk w1 w.heap.size 0:=(Blk.new0 w).below hb1 (by simp);have hn:=Blk.new w1 C;have hk1:=hk.alloc (.cells #[.int .u64 (wd C 0),.int .u64 (wd C 1),.int .u64 (wd C 2),.int .u64 (wd C 3)] 27);obtain⟨n0,n1,n2,n3⟩:=hn.cells;obtain⟨c0,c1,c2,c3⟩:=hk1.cells;obtain⟨f0,f1,f2,f3⟩:=hk1.thaw;obtain⟨r0,r1,r2,r3⟩:=(hk1.st4 C).cells;have hl:=hk1.lt;have hl2:=hn.lt;have hb2:Below w.heap.size w w1:=(B0q.alloc L0q _).trans (hb1.mono (by simp));have HB:Hid (Below w.heap.size w (st4 (w1.alloc (.cells #[.int .u64 (wd C 0),.int .u64 (wd C 1),.int .u64 (wd C 2),.int .u64 (wd C 3)] 27)) w.heap.size C)):=Below.st4 (hb2.alloc hb2.size _) L0q _;clear hb1 hk hk1 hn HN hb2;unfold st4 at r0 r1 r2 r3;dsimp only[cv]
 go_wp2_with fail
 refine bodyPost_ret (v:=cv C) (by simp[results,Tryz.results63,go_sem,r0,r1,r2,r3]) rfl ⟨rfl,HB.out⟩
mutual
def Xv(w:World)(P:Nat->Prop):RT->List Value->Prop
 | .mk k T a b c d s p,cs=>∃so cap,cs=r8 k T a b c d so (Zw s) cap p/\(s.isEmpty=true∨(s.isEmpty=false/\∃g cur,so=some ⟨g,0,none⟩/\P g/\w.heap[g]? =some (.cells cur 30)/\Zw s<=maxLen/\Yd w P s cur.toList))
def Yd(w:World)(P:Nat->Prop):List RT->List Value->Prop
 |[],_=>True
 |t::r,vs=>∃c rest,vs=c++rest/\Xv w P t c/\Yd w P r rest
end
theorem Xv.len{P:Nat->Prop}{t:RT}{c:List Value}(h:Xv w P t c):c.length=8:=by
 obtain⟨k,T,a,b,c0,d,s,p⟩:=t;rw[Xv]at h;obtain⟨so,cap,rfl,_⟩:=h;rfl
mutual
theorem Xv.kept{w w':World}{P Q:Nat->Prop}(hk:∀g cur,P g->w.heap[g]? =some (.cells cur 30)->w'.heap[g]? =w.heap[g]? /\Q g):∀(t:RT) (c:List Value),Xv w P t c->Xv w' Q t c
 | .mk k T a b c d s p,cs,h=>by
   rw[Xv]at h ⊢;obtain⟨so,cap,h1,h2⟩:=h;refine⟨so,cap,h1,?_⟩;rcases h2 with h2|⟨h3,g,cur,h4,h5,h6,h7,h8⟩
   ·exact .inl h2
   ·have:=hk g cur h5 h6
    exact .inr ⟨h3,g,cur,h4,this.2,this.1.trans h6,h7,Yd.kept hk s cur.toList h8⟩
theorem Yd.kept{w w':World}{P Q:Nat->Prop}(hk:∀g cur,P g->w.heap[g]? =some (.cells cur 30)->w'.heap[g]? =w.heap[g]? /\Q g):∀(l:List RT) (vs:List Value),Yd w P l vs->Yd w' Q l vs
 |[],vs,h=>by rw[Yd];trivial
 |n::r,vs,h=>by
  rw[Yd]at h ⊢;obtain⟨c,rest,h1,h2,h3⟩:=h;exact⟨c,rest,h1,Xv.kept hk n c h2,Yd.kept hk r rest h3⟩
end
def CnA(t:RT)(w:World)(e:Ending)(w':World):Prop:=∃k T a b c d so n cap p,e=.returned (.agg #[.int .i64 k,.string T,.int .u64 a,.int .u64 b,.int .u64 c,.int .u64 d,.slice so n cap,.int .i64 p])/\Hid (Xv w' (fun g=>w.heap.size<=g) t (r8 k T a b c d so n cap p))/\Hid (Below w.heap.size w w')
theorem Hp{W':World}{h:Nat}{y0 y1 y2 y3 y4 y5 y6 y7:Value}(hs:W.cell? ⟨h,0,none⟩=some y0/\W.cell? ⟨h,1,none⟩=some y1/\W.cell? ⟨h,2,none⟩=some y2/\W.cell? ⟨h,3,none⟩=some y3/\W.cell? ⟨h,4,none⟩=some y4/\W.cell? ⟨h,5,none⟩=some y5/\W.cell? ⟨h,6,none⟩=some y6/\W.cell? ⟨h,7,none⟩=some y7)(hb:Below W.heap.size W W'):W'.cell? ⟨h,0,none⟩=some y0/\W'.cell? ⟨h,1,none⟩=some y1/\W'.cell? ⟨h,2,none⟩=some y2/\W'.cell? ⟨h,3,none⟩=some y3/\W'.cell? ⟨h,4,none⟩=some y4/\W'.cell? ⟨h,5,none⟩=some y5/\W'.cell? ⟨h,6,none⟩=some y6/\W'.cell? ⟨h,7,none⟩=some y7:=
 have k:∀{j:Nat} {v:Value},W.cell? ⟨h,j,none⟩=some v->W'.cell? ⟨h,j,none⟩=some v:=fun{j v} e=>(hb.cell (p:=⟨h,j,none⟩) (World.block_lt_of_cell? W _ e)).trans e
 ⟨k hs.1,k hs.2.1,k hs.2.2.1,k hs.2.2.2.1,k hs.2.2.2.2.1,k hs.2.2.2.2.2.1,k hs.2.2.2.2.2.2.1,k hs.2.2.2.2.2.2.2⟩
theorem y0P{o:Obj}{b:Nat}(h:b<=w.heap.size):b<=(w.alloc o).heap.size:=by rw[World.size_alloc];omega
def Xb(A:ByteArray->Ot):List RT->Nat
 |[]=>0
 |t::r=>if(ofT A t).2.1=true then 1 else Xb A r+1
def ldK(A:ByteArray->Ot)(k:Int)(s:List RT):Nat:=if k=6 then Xb A s else 0
@[reducible] def r10 (k:Int) (T:ByteArray) (a b c d:Int) (so:Option Addr) (n cap:Nat) (p:Int) (po:Option Addr) (pn pc:Nat) (l:Int):List Value:=[.int .i64 k,.string T,.int .u64 a,.int .u64 b,.int .u64 c,.int .u64 d,.slice so n cap,.int .i64 p,.slice po pn pc,.int .i64 l]
mutual
def Zk(A:ByteArray->Ot)(w:World)(P:Nat->Prop):RT->List Value->Prop
 | .mk k T a b c d s p,cs=>∃so n cap po pc,cs=r10 k T a b c d so n cap p po (Zw s) pc (ldK A k s:Nat)/\(s.isEmpty=true∨(s.isEmpty=false/\∃g cur,po=some ⟨g,0,none⟩/\P g/\w.heap[g]? =some (.cells cur 77)/\Zw s<=maxLen/\Zz A w P s cur.toList))
def Zz(A:ByteArray->Ot)(w:World)(P:Nat->Prop):List RT->List Value->Prop
 |[],_=>True
 |t::r,vs=>∃c rest,vs=c++rest/\Zk A w P t c/\Zz A w P r rest
end
theorem Zk.len{A:ByteArray->Ot}{P:Nat->Prop}{t:RT}{c:List Value}(h:Zk A w P t c):c.length=10:=by
 obtain⟨k,T,a,b,c0,d,s,p⟩:=t;rw[Zk]at h;obtain⟨so,n,cap,po,pc,rfl,_⟩:=h;rfl
mutual
theorem Zk.kept{A:ByteArray->Ot}{w w':World}{P Q:Nat->Prop}(hk:∀g cur,P g->w.heap[g]? =some (.cells cur 77)->w'.heap[g]? =w.heap[g]? /\Q g):∀(t:RT) (c:List Value),Zk A w P t c->Zk A w' Q t c
 | .mk k T a b c d s p,cs,h=>by
   rw[Zk]at h ⊢;obtain⟨so,n,cap,po,pc,h1,h2⟩:=h;refine⟨so,n,cap,po,pc,h1,?_⟩;rcases h2 with h2|⟨h3,g,cur,h4,h5,h6,h7,h8⟩
   ·exact .inl h2
   ·have:=hk g cur h5 h6
    exact .inr ⟨h3,g,cur,h4,this.2,this.1.trans h6,h7,Zz.kept hk s cur.toList h8⟩
theorem Zz.kept{A:ByteArray->Ot}{w w':World}{P Q:Nat->Prop}(hk:∀g cur,P g->w.heap[g]? =some (.cells cur 77)->w'.heap[g]? =w.heap[g]? /\Q g):∀(l:List RT) (vs:List Value),Zz A w P l vs->Zz A w' Q l vs
 |[],vs,h=>by rw[Zz];trivial
 |n::r,vs,h=>by
  rw[Zz]at h ⊢;obtain⟨c,rest,h1,h2,h3⟩:=h;exact⟨c,rest,h1,Zk.kept hk n c h2,Zz.kept hk r rest h3⟩
end
theorem Zz.append{A:ByteArray->Ot}{w:World}{P:Nat->Prop}:∀(l:List RT) (vs:List Value) (n:RT) (c:List Value),Zz A w P l vs->vs.length=l.length*10->Zk A w P n c->Zz A w P (l++[n]) (vs++c)
 |[],vs,n,c,_,hl,hn=>by
  have:vs=[]:=List.eq_nil_of_length_eq_zero (by simpa using hl);subst this;rw[List.nil_append,Zz];exact⟨c,[],by simp,hn,by rw[Zz];trivial⟩
 |m::r,vs,n,c,h,hl,hn=>by
  rw[Zz]at h;obtain⟨d,rest,rfl,h2,h3⟩:=h;have hd:=h2.len;rw[List.cons_append,Zz];refine⟨d,rest++c,by rw[List.append_assoc],h2,Zz.append r rest n c h3 ?_ hn⟩;simp at hl;omega
theorem Zz.more{A:ByteArray->Ot}{w:World}{P:Nat->Prop}:∀(l:List RT) (vs us:List Value),Zz A w P l vs->Zz A w P l (vs++us)
 |[],_,_,_=>by rw[Zz];trivial
 |n::r,vs,us,h=>by
  rw[Zz]at h ⊢;obtain⟨c,rest,rfl,h2,h3⟩:=h;exact⟨c,rest++us,by rw[List.append_assoc],h2,Zz.more r rest us h3⟩
theorem Zz.at{A:ByteArray->Ot}{w:World}{P:Nat->Prop}:∀(l:List RT) (vs:List Value) (j:Nat) (hj:j<l.length),Zz A w P l vs->∃c,Zk A w P l[j] c/\∀i u,c[i]? =some u->vs[j*10+i]? =some u
 |t::r,vs,0,hj,h=>by
  rw[Zz]at h;obtain⟨c,rest,rfl,h2,h3⟩:=h;refine⟨c,h2,fun i u hu=> ?_⟩;rw[Nat.zero_mul,Nat.zero_add];rw[List.getElem?_append_left (List.getElem?_eq_some_iff.1 hu).1];exact hu
 |t::r,vs,j+1,hj,h=>by
  rw[Zz]at h;obtain⟨c,rest,rfl,h2,h3⟩:=h;obtain⟨c1,h4,h5⟩:=Zz.at r rest j (by simpa using hj) h3;refine⟨c1,h4,fun i u hu=> ?_⟩;have hl:=h2.len;rw[List.getElem?_append_right (by omega),show(j+1)*10+i-c.length=j*10+i by omega];exact h5 i u hu
theorem Yg{g:Nat}{a0 a1 a2 a3 a4 a5 a6 a7 a8 a9:Value}{t:TypeId}(h:w.heap[g]? =some (.cells #[a0,a1,a2,a3,a4,a5,a6,a7,a8,a9] t)):(w.cell? ⟨g,0,none⟩=some a0/\w.cell? ⟨g,1,none⟩=some a1/\w.cell? ⟨g,2,none⟩=some a2/\w.cell? ⟨g,3,none⟩=some a3/\w.cell? ⟨g,4,none⟩=some a4/\w.cell? ⟨g,5,none⟩=some a5/\w.cell? ⟨g,6,none⟩=some a6/\w.cell? ⟨g,7,none⟩=some a7/\w.cell? ⟨g,8,none⟩=some a8/\w.cell? ⟨g,9,none⟩=some a9)/\w.frozen? ⟨g,0,none⟩=false/\w.frozen? ⟨g,1,none⟩=false/\w.frozen? ⟨g,2,none⟩=false/\w.frozen? ⟨g,3,none⟩=false/\w.frozen? ⟨g,4,none⟩=false/\w.frozen? ⟨g,5,none⟩=false/\w.frozen? ⟨g,6,none⟩=false/\w.frozen? ⟨g,7,none⟩=false/\w.frozen? ⟨g,8,none⟩=false/\w.frozen? ⟨g,9,none⟩=false:=by
 obtain⟨x0,y0⟩:=Zj h 0 a0 rfl;obtain⟨x1,y1⟩:=Zj h 1 a1 rfl;obtain⟨x2,y2⟩:=Zj h 2 a2 rfl;obtain⟨x3,y3⟩:=Zj h 3 a3 rfl;obtain⟨x4,y4⟩:=Zj h 4 a4 rfl;obtain⟨x5,y5⟩:=Zj h 5 a5 rfl;obtain⟨x6,y6⟩:=Zj h 6 a6 rfl;obtain⟨x7,y7⟩:=Zj h 7 a7 rfl;obtain⟨x8,y8⟩:=Zj h 8 a8 rfl;obtain⟨x9,y9⟩:=Zj h 9 a9 rfl;exact⟨⟨x0,x1,x2,x3,x4,x5,x6,x7,x8,x9⟩,y0,y1,y2,y3,y4,y5,y6,y7,y8,y9⟩
theorem z4i(w:World)(a0 a1 a2 a3 a4 a5 a6 a7 a8 a9:Value)(t:TypeId):∀j x,[a0,a1,a2,a3,a4,a5,a6,a7,a8,a9][j]? =some x->(w.alloc (.cells #[a0,a1,a2,a3,a4,a5,a6,a7,a8,a9] t)).cell? ((⟨w.heap.size,0,none⟩:Addr).add j)=some x:=by
 intro j x hj
 match j,hj with
 |0,hj=>simp at hj;subst hj;simp[Addr.add]
 |1,hj=>simp at hj;subst hj;simp[Addr.add]
 |2,hj=>simp at hj;subst hj;simp[Addr.add]
 |3,hj=>simp at hj;subst hj;simp[Addr.add]
 |4,hj=>simp at hj;subst hj;simp[Addr.add]
 |5,hj=>simp at hj;subst hj;simp[Addr.add]
 |6,hj=>simp at hj;subst hj;simp[Addr.add]
 |7,hj=>simp at hj;subst hj;simp[Addr.add]
 |8,hj=>simp at hj;subst hj;simp[Addr.add]
 |9,hj=>simp at hj;subst hj;simp[Addr.add]
theorem z4j(k:Int)(T:ByteArray)(a b c d:Int)(so:Option Addr)(n cap:Nat)(p:Int)(po:Option Addr)(pn pc:Nat)(l:Int):∀u∈[Value.int .i64 k,.string T,.int .u64 a,.int .u64 b,.int .u64 c,.int .u64 d,.slice so n cap,.int .i64 p,.slice po pn pc,.int .i64 l],u.oneCell'=true:=by
 intro u hu;simp at hu;rcases hu with rfl|rfl|rfl|rfl|rfl|rfl|rfl|rfl|rfl|rfl<;>rfl
def Hc(W:World)(R:Nat)(v0 v1 v2 v3 v4 v5 v6 v7 v8 v9:Value):World:=((((((((((W.setCell ⟨R,0,none⟩ v0).setCell ⟨R,1,none⟩ v1).setCell ⟨R,2,none⟩ v2).setCell ⟨R,3,none⟩ v3).setCell ⟨R,4,none⟩ v4).setCell ⟨R,5,none⟩ v5).setCell ⟨R,6,none⟩ v6).setCell ⟨R,7,none⟩ v7).setCell ⟨R,8,none⟩ v8).setCell ⟨R,9,none⟩ v9)
theorem z4k{a0 a1 a2 a3 a4 a5 a6 a7 a8 a9 v5 v6 v7 v8 v9:Value}{t:TypeId}(h:W.heap[R]? =some (.cells #[a0,a1,a2,a3,a4,a5,a6,a7,a8,a9] t)):(Hc W R v0 v1 v2 v3 v4 v5 v6 v7 v8 v9).heap[R]? =some (.cells #[v0,v1,v2,v3,v4,v5,v6,v7,v8,v9] t):=by
 have h0:((W.setCell ⟨R,0,none⟩ v0)).heap[R]? =some (.cells #[v0,a1,a2,a3,a4,a5,a6,a7,a8,a9] t):=Qy h 0 _;have h1:(((W.setCell ⟨R,0,none⟩ v0).setCell ⟨R,1,none⟩ v1)).heap[R]? =some (.cells #[v0,v1,a2,a3,a4,a5,a6,a7,a8,a9] t):=Qy h0 1 _;have h2:((((W.setCell ⟨R,0,none⟩ v0).setCell ⟨R,1,none⟩ v1).setCell ⟨R,2,none⟩ v2)).heap[R]? =some (.cells #[v0,v1,v2,a3,a4,a5,a6,a7,a8,a9] t):=Qy h1 2 _;have h3:(((((W.setCell ⟨R,0,none⟩ v0).setCell ⟨R,1,none⟩ v1).setCell ⟨R,2,none⟩ v2).setCell ⟨R,3,none⟩ v3)).heap[R]? =some (.cells #[v0,v1,v2,v3,a4,a5,a6,a7,a8,a9] t):=Qy h2 3 _;have h4:((((((W.setCell ⟨R,0,none⟩ v0).setCell ⟨R,1,none⟩ v1).setCell ⟨R,2,none⟩ v2).setCell ⟨R,3,none⟩ v3).setCell ⟨R,4,none⟩ v4)).heap[R]? =some (.cells #[v0,v1,v2,v3,v4,a5,a6,a7,a8,a9] t):=Qy h3 4 _;have h5:(((((((W.setCell ⟨R,0,none⟩ v0).setCell ⟨R,1,none⟩ v1).setCell ⟨R,2,none⟩ v2).setCell ⟨R,3,none⟩ v3).setCell ⟨R,4,none⟩ v4).setCell ⟨R,5,none⟩ v5)).heap[R]? =some (.cells #[v0,v1,v2,v3,v4,v5,a6,a7,a8,a9] t):=Qy h4 5 _;have h6:((((((((W.setCell ⟨R,0,none⟩ v0).setCell ⟨R,1,none⟩ v1).setCell ⟨R,2,none⟩ v2).setCell ⟨R,3,none⟩ v3).setCell ⟨R,4,none⟩ v4).setCell ⟨R,5,none⟩ v5).setCell ⟨R,6,none⟩ v6)).heap[R]? =some (.cells #[v0,v1,v2,v3,v4,v5,v6,a7,a8,a9] t):=Qy h5 6 _;have h7:(((((((((W.setCell ⟨R,0,none⟩ v0).setCell ⟨R,1,none⟩ v1).setCell ⟨R,2,none⟩ v2).setCell ⟨R,3,none⟩ v3).setCell ⟨R,4,none⟩ v4).setCell ⟨R,5,none⟩ v5).setCell ⟨R,6,none⟩ v6).setCell ⟨R,7,none⟩ v7)).heap[R]? =some (.cells #[v0,v1,v2,v3,v4,v5,v6,v7,a8,a9] t):=Qy h6 7 _;have h8:((((((((((W.setCell ⟨R,0,none⟩ v0).setCell ⟨R,1,none⟩ v1).setCell ⟨R,2,none⟩ v2).setCell ⟨R,3,none⟩ v3).setCell ⟨R,4,none⟩ v4).setCell ⟨R,5,none⟩ v5).setCell ⟨R,6,none⟩ v6).setCell ⟨R,7,none⟩ v7).setCell ⟨R,8,none⟩ v8)).heap[R]? =some (.cells #[v0,v1,v2,v3,v4,v5,v6,v7,v8,a9] t):=Qy h7 8 _;have h9:(((((((((((W.setCell ⟨R,0,none⟩ v0).setCell ⟨R,1,none⟩ v1).setCell ⟨R,2,none⟩ v2).setCell ⟨R,3,none⟩ v3).setCell ⟨R,4,none⟩ v4).setCell ⟨R,5,none⟩ v5).setCell ⟨R,6,none⟩ v6).setCell ⟨R,7,none⟩ v7).setCell ⟨R,8,none⟩ v8).setCell ⟨R,9,none⟩ v9)).heap[R]? =some (.cells #[v0,v1,v2,v3,v4,v5,v6,v7,v8,v9] t):=Qy h8 9 _;exact h9
theorem Hl(W:World)(R:Nat)(v0 v1 v2 v3 v4 v5 v6 v7 v8 v9:Value):W.grownBy (Hc W R v0 v1 v2 v3 v4 v5 v6 v7 v8 v9) (some R):=G.setR (G.setR (G.setR (G.setR (G.setR (G.setR (G.setR (G.setR (G.setR (G.setR (G.refl _ _))))))))))
theorem Tryz.infoMs:(Tryz.prog.info? 77).map (fun i=>(i.zero,i.size,i.bytes))=some (some (.agg #[.int .i64 0,.string ⟨#[]⟩,.int .u64 0,.int .u64 0,.int .u64 0,.int .u64 0,.slice none 0 0,.int .i64 0,.slice none 0 0,.int .i64 0]),10,120):=by kernel_rfl
theorem y0Q(a b c:Bool)(w:World):(Instr.field 71 (.agg #[.bool a,.bool b,.bool c]) 1).run prog w=.ok (.bool b) w:=by kernel_rfl
theorem y0R(A:ByteArray->Ot)(s:List RT)(j:Nat)(hj:j<s.length):Xb A (s.drop j)=if(ofT A s[j]).2.1=true then 1 else Xb A (s.drop (j+1))+1:=by
 rw[List.drop_eq_getElem_cons hj,Xb]
theorem y0S(A:ByteArray->Ot)(so0:Option Addr)(n0 cap0:Nat)(so:Option Addr)(n cap:Nat)(s:List RT)(w:World)(hn:n<=1048576)(HN:Hid (n=s.length))
  (HC:Hid (∀j (hj:j<s.length),∃g o,so=some ⟨g,o,none⟩/\g<w.heap.size/\∃k1 T1 a1 b1 c1 d1 so1 n1 cap1 p1,Rc w g (o+j*8) k1 T1 a1 b1 c1 d1 (.slice so1 n1 cap1) p1/\
    ∀W:World,Below w.heap.size w W->Calls prog 104 #[.agg #[.slice so0 n0 cap0],.agg #[.int .i64 k1,.string T1,.int .u64 a1,.int .u64 b1,.int .u64 c1,.int .u64 d1,.slice so1 n1 cap1,.int .i64 p1]] W fun e w'=>e=.returned (ov (ofT A s[j]))/\Below W.heap.size W w')):
  Calls prog 69 #[.agg #[.slice so0 n0 cap0],.slice so n cap] w fun e w'=>e=.returned (.int .i64 (Xb A s:Nat))/\Below w.heap.size w w':=by
 obtain⟨W1,hW1⟩:∃W1,W1=w.alloc (.cells #[.slice so0 n0 cap0] 24):=⟨_,rfl⟩;have HB1:Hid (Below w.heap.size w W1):=by rw[hW1];exact(Below.refl _ w).alloc L0q _
 have HG1:Hid (W1.heap[w.heap.size]? =some (.cells #[.slice so0 n0 cap0] 24)):=by rw[hW1];exact Qx w _ rfl
 have HF:=hid y0Q;have HW1:=hid hW1;clear hW1;go_enter func69,ntmps69
 go_wp2_with fail
 rw[<-HW1.out];clear HW1
 go_loopw [9] (fun i wr=>∃j:Nat,i=.int .i64 j/\j<=n/\Hid (Below w.heap.size w wr)/\Hid (wr.heap[w.heap.size]? =some (.cells #[.slice so0 n0 cap0] 24))/\Hid (Xb A s=j+Xb A (s.drop j))) (fun i _=>n-(intOf i).toNat)
 case atStart=>exact⟨0,rfl,Nat.zero_le _,HB1,HG1,hid (by simp)⟩
 case round=>
  obtain⟨j,rfl,hj,HBr,HGr,HL⟩:=hrel;by_cases hjn:j<n
  ·have hjI:(j:Int)<(n:Int):=by omega
   have a0:decide ((j:Int)<(n:Int))=true:=by simp;omega
   have hjs:j<s.length:=by rw[<-HN.out];exact hjn
   obtain⟨g,o,rfl,hg,k1,T1,a1,b1,c1,d1,so1,n1,cap1,p1,hrc,hcall⟩:=HC.out j hjs;obtain⟨z0,z1,z2,z3,z4,z5,z6,z7⟩:=hrc.below HBr.out hg;have hgl:g<wr.heap.size:=World.block_lt_of_cell? wr _ z0;obtain⟨⟨y1,y2,y3⟩,hy⟩:∃y,y=ofT A s[j]:=⟨_,rfl⟩;have hld:=y0R A s j hjs;have hbp:Below w.heap.size w (wr.alloc (.cells #[.int .i64 k1,.string T1,.int .u64 a1,.int .u64 b1,.int .u64 c1,.int .u64 d1,.slice so1 n1 cap1,.int .i64 p1] 30)):=HBr.out.alloc HBr.out.size _;have hbq:=(Below.refl _ wr).alloc L0q (.cells #[.int .i64 k1,.string T1,.int .u64 a1,.int .u64 b1,.int .u64 c1,.int .u64 d1,.slice so1 n1 cap1,.int .i64 p1] 30);have hGp:=(hbq.block _ (Qz HGr.out)).trans HGr.out;have gc:=(Qw hGp).1;have gl:=Qz HGr.out;have HGp:=hid hGp;have HBp:=hid hbp;have HS:=hid (hcall _ hbp);rw[<-hy]at HS hld;have HY:=hid hld;clear hcall hrc hy hbp hbq hGp hld HGr HBr;dsimp only[ov]at HS;have hf:=HF.out y1 y2 y3;cases y2 with
   |true=>
    go_wp2_with(first
     |(go_at_call 104;refine HS.out.mono ?_;rintro e w4 ⟨rfl,hb4⟩;have HB4:=hid (HBp.out.trans (hb4.mono HBp.out.size));clear hb4 HS HBp HGp))
    go_ret;refine⟨?_,HB4.out⟩;have h1:=HL.out;have h2:=HY.out;simp only[if_true]at h2;rw[h1,h2];exact congrArg (fun n=>Ending.returned (Value.int .i64 n)) (by first|rfl|(push_cast;omega))
   |false=>
    go_wp2_with(first
     |(go_at_call 104;refine HS.out.mono ?_;rintro e w4 ⟨rfl,hb4⟩;have HB4:=hid (HBp.out.trans (hb4.mono HBp.out.size));have HG4:=hid ((hb4.block _ (Qz HGp.out)).trans HGp.out);clear hb4 HS HBp HGp))
    refine⟨⟨j+1,by go_num,by omega,HB4,HG4,hid ?_⟩,by simp[intOf];omega⟩;have h1:=HL.out;have h2:=HY.out;simp only[Bool.false_eq_true,if_false]at h2;omega
  ·have a0:decide ((j:Int)<(n:Int))=false:=by simp;omega
   have hjn':s.drop j=[]:=List.drop_of_length_le (by rw[<-HN.out];omega);have h1:=HL.out;rw[hjn',Xb,Nat.add_zero]at h1;have h2:Xb A s=n:=by omega
   clear hjn' h1
   go_wp2_with fail
   go_ret;exact⟨by rw[h2];rfl,HBr.out⟩
end Go.Proofs.YtjodljnddflgfaaGreatDoor
