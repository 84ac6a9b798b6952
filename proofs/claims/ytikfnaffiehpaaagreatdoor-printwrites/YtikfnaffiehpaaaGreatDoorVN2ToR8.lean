/- Lemmas for the last text. Conditions: those that each names. -/
import Derived.Test.YtikfnaffiehpaaaGreatDoorVR5ToR7
set_option linter.unusedVariables false
set_option maxRecDepth 100000
set_option maxHeartbeats 8000000
namespace Go.Proofs.YtikfnaffiehpaaaGreatDoor
open Go.Proofs.Tryz
open Go.RowKit Go.Shelf
variable {w:World} {kb:Nat} {ks:List Int}
def Pg(base Pb:Nat)(X:ByteArray)(W:World):Prop:=
 base<=Pb/\Pb<W.heap.size/\∃(bv:Value) (Y:ByteArray),W.heap[Pb]? =some (.cells #[bv] 57)/\W.ownsRow base 5 1 bv Y.size (Lib.strCells Y)/\Y.size<=20000/\(X.size<=8192->Y=X)/\(8192<X.size->8192<Y.size)
theorem z3u{W:World}{base Pb n:Nat}{bv u:Value}{xs:List Value}(ho:W.ownsRow base 5 1 bv n xs)(hb:W.heap[Pb]? =some (.cells #[u] 57)):bv.ownBlock≠some Pb:=by
 obtain⟨_,⟨h1,_⟩|⟨g,cap,cur,rfl,_,hg,_⟩⟩:=ho
 ·subst h1;simp[Value.ownBlock]
 ·intro e
  simp[Value.ownBlock]at e;subst e;rw[hg]at hb;simp at hb
theorem Pg.below{base Pb:Nat}{X:ByteArray}{W W':World}(h:Pg base Pb X W)(hb:Below W.heap.size W W'):Pg base Pb X W':=by
 obtain⟨h1,h2,bv,Y,h3,h4,h5⟩:=h;exact⟨h1,Nat.lt_of_lt_of_le h2 hb.size,bv,Y,(hb.block _ h2).trans h3,Vz h4 hb,h5⟩
def Kq(w w':World):Prop:=w.heap.size<=w'.heap.size/\∀(i:Nat) (cur:Array Value) (t:TypeId),t≠5->t≠57->w.heap[i]? =some (.cells cur t)->w'.heap[i]? =w.heap[i]?
theorem Kq.refl(w:World):Kq w w:=⟨Nat.le_refl _,fun _ _ _ _ _ _=>rfl⟩
theorem Kq.trans{a b c:World}(h:Kq a b)(h2:Kq b c):Kq a c:=⟨Nat.le_trans h.1 h2.1,fun i cur t h5 hp hi=>(h2.2 i cur t h5 hp ((h.2 i cur t h5 hp hi).trans hi)).trans (h.2 i cur t h5 hp hi)⟩
theorem Kq.below{w':World}(h:Below w.heap.size w w'):Kq w w':=⟨h.size,fun i cur t _ _ hi=>h.block i (Array.getElem?_eq_some_iff.1 hi).1⟩
theorem Ow{g:Nat}{a:Value}{t:TypeId}(h:w.heap[g]? =some (.cells #[a] t)):w.cell? ⟨g,0,none⟩=some a/\w.frozen? ⟨g,0,none⟩=false:=by
 refine⟨?_,?_⟩<;>simp[World.cell?,World.frozen?,h]
theorem Jq(base Pb:Nat)(X:ByteArray)(w:World)(h:Pg base Pb X w):
  Calls prog 36 #[.pointer (some ⟨Pb,0,none⟩)] w fun e w'=>e=.returned (.bool (decide (8192<X.size)))/\w'=w:=by
 obtain⟨h1,h2,bv,Y,h3,h4,h5,h6,h7⟩:=h;obtain⟨c0,_⟩:=Ow h3;obtain⟨so,sc,rfl⟩:=Eh h4;have hd:decide ((8192:Int)<(Y.size:Int))=decide (8192<X.size):=by
  rcases Nat.lt_or_ge 8192 X.size with h8|h8
  ·have:=h7 h8
   rw[decide_eq_true h8,decide_eq_true (by omega)]
  ·have:=h6 h8
   subst this;rw[decide_eq_false (by omega),decide_eq_false (by omega)]
 obtain⟨d,hdd⟩:∃d,d=decide (8192<X.size):=⟨_,rfl⟩;rw[<-hdd]at hd ⊢;obtain⟨n,hn⟩:∃n,n=Y.size:=⟨_,rfl⟩;rw[<-hn]at hd c0;have hn2:n<=20000:=by omega
 clear h3 h4 h5 h6 h7 hdd hn;go_enter func36,ntmps36
 go_wp2
 go_ret;exact⟨rfl,rfl⟩
theorem Vb(base Pb:Nat)(X s:ByteArray)(w:World)(h:Pg base Pb X w)(hs:s.size<=4096):
  Calls prog 24 #[.pointer (some ⟨Pb,0,none⟩),.string s] w fun e w'=>e=.returned (.tuple #[])/\Hid (Pg base Pb (X++s) w')/\Hid (Below base w w')/\Hid (Kq w w'):=by
 obtain⟨i0,hi0,hz0,hz1,hz2⟩:=info_parts Tryz.infoByte;have HP:=hid h;obtain⟨h1,h2,bv,Y,h3,h4,h5,h6,h7⟩:=h;obtain⟨c0,c1⟩:=Ow h3;obtain⟨so,sc,rfl⟩:=Eh h4;have hxs:(X++s).size=X.size+s.size:=ByteArray.size_append;rcases Nat.lt_or_ge 8192 Y.size with h8|h8
 ·have hX:8192<X.size:=by
   rcases Nat.lt_or_ge 8192 X.size with h9|h9
   ·exact h9
   ·have:=h6 h9;subst this;omega
  have a0:decide ((Y.size:Int)<=8192)=false:=by simp;omega
  have HF:Hid (Pg base Pb (X++s) w):=⟨h1,h2,_,Y,h3,h4,h5,fun h=>by omega,fun _=>h8⟩;obtain⟨n,hn⟩:∃n,n=Y.size:=⟨_,rfl⟩;rw[<-hn]at a0 c0;clear h3 h4 h5 h6 h7 hn HP h8;go_enter func24,ntmps24
  go_wp2
  (try simp only[Exit.inBlock,Exit.then])
  first|refine bodyPost_end (results_none rfl _ _ _) rfl ?_ |refine bodyPost_ret (results_none rfl _ _ _) rfl ?_
  exact⟨rfl,HF,hid B0q,hid (Kq.refl _)⟩
 ·have a0:decide ((Y.size:Int)<=8192)=true:=by simp;omega
  have hXY:Y=X:=by
   rcases Nat.lt_or_ge 8192 X.size with h9|h9
   ·have:=h7 h9;omega
   ·exact h6 h9
  have HO:=hid h4;have HB:=hid h3;have HXY:=hid hXY;obtain⟨n,hn⟩:∃n,n=Y.size:=⟨_,rfl⟩;have HN:=hid hn;rw[<-hn]at a0 c0 HO HB;have hn2:n<=8192:=by omega
  have hw2:base<=w.heap.size:=by omega
  clear h3 h4 h5 h6 h7 hn HP h8 hXY;go_enter func24,ntmps24
  go_wp2_with(first|(at_builtin;refine Lib.wpList_append_own_string _ rfl (.tmp 14) (.tmp 15) 55 9 rfl base 5 i0 Tryz.underlying55 Tryz.underlying9 hi0 hz0 hz1 hz2 _ _ _ rfl HO.out s rfl (by unfold maxLen;omega) (by omega) hw2 ?_;intro v7 w7 hown7 hgr7' hnil7;have hgr7:w.grownBy w7 (Value.slice so n sc).ownBlock:=hgr7';clear hgr7' hnil7;obtain⟨sa7,sc7,rfl⟩:=Eh hown7;have hP7:w7.heap[Pb]? =some (.cells #[.slice so n sc] 57):=(hgr7.block _ h2 (fun e=>z3u HO.out HB.out e.symm)).trans HB.out;obtain⟨g2,g3⟩:=Ow hP7;have hs7:=hgr7.size))
  (try simp only[Exit.inBlock,Exit.then])
  first|refine bodyPost_end (results_none rfl _ _ _) rfl ?_ |refine bodyPost_ret (results_none rfl _ _ _) rfl ?_
  have hB7:Below base w w7:=(Below.refl base w).grown hgr7 hw2 (fun j ej=>(HO.out.lt j ej).1);have hset:w7.grownBy (w7.setCell ⟨Pb,0,none⟩ (.slice sa7 (n+s.size) sc7)) (some Pb):=⟨rfl,rfl,rfl,by simp,fun i hi hne=>Below.heap_setCell _ _ _ _ (fun e=>hne (by rw[e]))⟩;refine⟨rfl,hid ⟨h1,by simp;omega,.slice sa7 (n+s.size) sc7,Y++s,?_,?_,?_,?_,?_⟩,hid (hB7.setCell (p:=⟨Pb,0,none⟩) h1 _),hid ⟨by simp;omega,fun i cur t h5 hp hi=>(Below.heap_setCell _ _ _ _ (fun e=> ?_)).trans (hgr7.block i (Array.getElem?_eq_some_iff.1 hi).1 (fun e=> ?_))⟩⟩
  ·simp only[World.setCell,Array.getElem?_modify,if_true]
   rw[hP7];simp
  ·rw[z3q,show(Y++s).size=n+s.size by rw[ByteArray.size_append,HN.out]]
   exact hown7.kept hset (.inr (z3u (base:=base) (n:=n+s.size) hown7 hP7))
  ·rw[ByteArray.size_append,<-HN.out];omega
  ·intro _;rw[HXY.out]
  ·intro hh;rw[ByteArray.size_append,<-HN.out];rw[hxs]at hh;have:=congrArg ByteArray.size HXY.out;have:=HN.out;omega
  ·have e2:i=Pb:=e
   subst e2;rw[HB.out]at hi;cases hi;exact hp rfl
  ·obtain⟨_,⟨h1',_⟩|⟨g,cap,cur',e1,_,hg,_⟩⟩:=HO.out
   ·rw[h1']at e;simp[Value.ownBlock]at e
   ·rw[e1]at e
    simp[Value.ownBlock]at e;subst e;rw[hg]at hi;cases hi;exact h5 rfl
def PgC(F:Nat)(args:Array Value)(base Pb:Nat)(w0:World)(T:ByteArray):Prop:=
 ∀(X:ByteArray) (W:World),Pg base Pb X W->Below base w0 W->Calls prog F (#[.pointer (some ⟨Pb,0,none⟩)]++args) W fun e w'=>e=.returned (.tuple #[])/\Hid (Pg base Pb (X++T) w')/\Hid (Below base W w')/\Hid (Kq W w')
def Ks(w:World)(kb:Nat)(ks:List Int):Prop:=∃cur:Array Value,w.heap[kb]? =some (.cells cur 3)/\∀i (hi:i<ks.length),cur[i]? =some (.int .i64 ks[i])
theorem Ks.at(h:Ks w kb ks)(i:Nat)(hi:i<ks.length):w.cell? ⟨kb,i,none⟩=some (.int .i64 ks[i]):=by
 obtain⟨cur,h1,h2⟩:=h;simp[World.cell?,h1,h2 i hi]
theorem Ks.lt(h:Ks w kb ks):kb<w.heap.size:=by
 obtain⟨cur,h1,h2⟩:=h;exact Qz h1
theorem Ks.kq{w':World}(h:Ks w kb ks)(hk:Kq w w'):Ks w' kb ks:=by
 obtain⟨cur,h1,h2⟩:=h;exact⟨cur,(hk.2 kb cur 3 (by decide) (by decide) h1).trans h1,h2⟩
structure Mp (base Pb:Nat) (X:ByteArray) (w:World) (kb:Nat) (ks:List Int) (o:Obj) (W:World):Prop where
 pg:Pg base Pb X W
 be:Below base w W
 kq:Kq w W
 nb:W.heap[w.heap.size]? =some o
 kk:Ks W kb ks
theorem Mp.below{base Pb kb:Nat}{X:ByteArray}{w W W':World}{ks:List Int}{o:Obj}(h:Mp base Pb X w kb ks o W)(hb:Below W.heap.size W W')(hB:base<=W.heap.size):Mp base Pb X w kb ks o W':=
 ⟨h.pg.below hb,h.be.trans (hb.mono hB),h.kq.trans (Kq.below hb),(hb.block _ (Qz h.nb)).trans h.nb,h.kk.kq (Kq.below hb)⟩
theorem z8R(X Y:ByteArray):X++{data:=#[40]}++Y++{data:=#[41]}=X++cat (bO::([Y]++[bC])):=by
 rw[cat,List.singleton_append,cat,cat,cat];apply ByteArray.ext;apply Array.ext';simp[bO,bC]
theorem z3v(k:Int)(T:ByteArray)(a b c d p:Int)(so:Option Addr)(n cap:Nat)(ks:List Int)(kb kl:Nat)(base Pb:Nat)(w0:World)(Y X:ByteArray)(w:World)(h7:ks.length<=7)
  (HN:Hid (PgC 25 #[.agg #[.int .i64 k,.string T,.int .u64 a,.int .u64 b,.int .u64 c,.int .u64 d,.slice so n cap,.int .i64 p]] base Pb w0 Y))(hp:Pg base Pb X w)(hb0:Below base w0 w)(hks:Ks w kb ks)(hkl:kl=ks.length):
  Calls prog 40 #[.pointer (some ⟨Pb,0,none⟩),.agg #[.int .i64 k,.string T,.int .u64 a,.int .u64 b,.int .u64 c,.int .u64 d,.slice so n cap,.int .i64 p],.slice (some ⟨kb,0,none⟩) kl kl] w fun e w'=>e=.returned (.tuple #[])/\Hid (Pg base Pb (X++if ks.contains k then cat (bO::([Y]++[bC]))else Y) w')/\Hid (Below base w w')/\Hid (Kq w w'):=by
 obtain⟨Z,hZ⟩:∃Z,Z=(X++if ks.contains k then cat (bO::([Y]++[bC]))else Y):=⟨_,rfl⟩;rw[<-hZ];have HZ:=hid hZ;clear hZ;have hbs:base<=w.heap.size:=by have:=hp.1;have:=hp.2.1;omega
 have HM0:Hid (Mp base Pb X w kb ks (.cells #[.int .i64 k,.string T,.int .u64 a,.int .u64 b,.int .u64 c,.int .u64 d,.slice so n cap,.int .i64 p] 30) (w.alloc (.cells #[.int .i64 k,.string T,.int .u64 a,.int .u64 b,.int .u64 c,.int .u64 d,.slice so n cap,.int .i64 p] 30))):=by
  have hb:Below w.heap.size w (w.alloc (.cells #[.int .i64 k,.string T,.int .u64 a,.int .u64 b,.int .u64 c,.int .u64 d,.slice so n cap,.int .i64 p] 30)):=(Below.refl _ w).alloc L0q _;exact⟨hp.below hb,hb.mono hbs,Kq.below hb,Qq w _ rfl,hks.kq (Kq.below hb)⟩
 have HPut:=hid (fun(X s:ByteArray) (W:World) (h:Pg base Pb X W) (hs:s.size<=4096)=>Vb base Pb X s W h hs);have HB0:=hid hb0;have HKL:=hid hkl;have hk7:kl<=7:=by omega
 clear hp hks hb0 hkl;go_enter func40,ntmps40
 go_wp2_with fail
 go_loopw [6,7] (fun is i wr=>∃j:Nat,i=.int .i64 j/\j<=kl/\is=.bool ((ks.take j).contains k)/\Hid (Mp base Pb X w kb ks (.cells #[.int .i64 k,.string T,.int .u64 a,.int .u64 b,.int .u64 c,.int .u64 d,.slice so n cap,.int .i64 p] 30) wr)) (fun _ i _=>kl-(intOf i).toNat)
 case atStart=>exact⟨0,rfl,Nat.zero_le _,by simp,HM0⟩
 case round=>
  obtain⟨j,rfl,hj,rfl,HM⟩:=hrel;clear HM0;obtain⟨⟨m0,m1,m2,m3,m4,m5,m6,m7⟩,_⟩:=Qk HM.out.nb;have hn0:=Qz HM.out.nb;by_cases hjn:j<kl
  ·have hjI:(j:Int)<(kl:Int):=by omega
   have a0:decide ((j:Int)<(kl:Int))=true:=by simp;omega
   have hjs:j<ks.length:=by rw[<-HKL.out];exact hjn
   have z0:=HM.out.kk.at j hjs;have hkb:=HM.out.kk.lt;have htk:(ks.take (j+1)).contains k=((ks.take j).contains k||(k == ks[j])):=by
    rw[List.take_succ_eq_append_getElem hjs];simp only[List.contains_eq_any_beq,List.any_append,List.any_cons,List.any_nil,Bool.or_false]
   obtain⟨x,hx⟩:∃x,x=ks[j]:=⟨_,rfl⟩;rw[<-hx]at z0 htk;have HMd:=hid (HM.out.below (Below.refl _ wr).drew (by have:=HM.out.pg.1;have:=HM.out.pg.2.1;omega));have HTK:=hid htk;clear hx htk HM;obtain⟨is,his⟩:∃is,is=(ks.take j).contains k:=⟨_,rfl⟩;rw[<-his]at HTK ⊢;clear his;cases is
   ·obtain⟨e,he⟩:∃e,e=(k == x):=⟨_,rfl⟩
    have hke:(k == x)=e:=he.symm;rw[<-he]at HTK;clear he
    go_wp2_with fail
    go_region
    go_wp2_with fail
    go_roundw
    case rel=>exact⟨j+1,by go_num,by omega,by rw[HTK.out];simp,HMd⟩
    case measure=>simp[intOf];omega
   ·go_wp2_with fail
    go_region
    go_wp2_with fail
    go_roundw
    case rel=>exact⟨j+1,by go_num,by omega,by rw[HTK.out];simp,HMd⟩
    case measure=>simp[intOf];omega
  ·have a0:decide ((j:Int)<(kl:Int))=false:=by simp;omega
   have hte:ks.take j=ks:=List.take_of_length_le (by have:=HKL.out;omega);rw[hte];clear hte;obtain⟨cb,hcb⟩:∃cb,cb=ks.contains k:=⟨_,rfl⟩;rw[<-hcb]at HZ ⊢;clear hcb;cases cb
   ·have HZ2:Hid (Z=X++Y):=HZ.out
    go_wp2_with fail
    refine(HN.out X _ HM.out.pg (HB0.out.trans HM.out.be)).mono ?_;rintro e w4 ⟨rfl,HP4,HB4,HK4⟩;have HBf:=hid (HM.out.be.trans HB4.out);have HKf:=hid (HM.out.kq.trans HK4.out);clear HM HB4 HK4 m0 m1 m2 m3 m4 m5 m6 m7
    go_wp2_with fail
    (try simp only[Exit.inBlock,Exit.then])
    first|refine bodyPost_end (results_none rfl _ _ _) rfl ?_ |refine bodyPost_ret (results_none rfl _ _ _) rfl ?_
    exact⟨rfl,by rw[HZ2.out];exact HP4,HBf,HKf⟩
   ·have HZ2:Hid (Z=X++cat (bO::([Y]++[bC]))):=HZ.out
    go_wp2_with fail
    refine(HPut.out X {data:=#[40]} _ HM.out.pg (by decide)).mono ?_;rintro e w3 ⟨rfl,HP3,HB3,HK3⟩;have HN3:Hid (w3.heap[w.heap.size]? =some (.cells #[.int .i64 k,.string T,.int .u64 a,.int .u64 b,.int .u64 c,.int .u64 d,.slice so n cap,.int .i64 p] 30)):=(HK3.out.2 _ _ _ (by decide) (by decide) HM.out.nb).trans HM.out.nb;have HB3':=hid (HM.out.be.trans HB3.out);have HK3':=hid (HM.out.kq.trans HK3.out);clear HM HB3 HK3 m0 m1 m2 m3 m4 m5 m6 m7 hn0;obtain⟨⟨m0,m1,m2,m3,m4,m5,m6,m7⟩,_⟩:=Qk HN3.out;have hn0:=Qz HN3.out
    go_wp2_with fail
    refine(HN.out _ _ HP3.out (HB0.out.trans HB3'.out)).mono ?_;rintro e w4 ⟨rfl,HP4,HB4,HK4⟩;have HB4':=hid (HB3'.out.trans HB4.out);have HK4':=hid (HK3'.out.trans HK4.out);clear HB3' HK3' HB4 HK4 HP3 HN3 m0 m1 m2 m3 m4 m5 m6 m7 hn0
    go_wp2_with fail
    refine(HPut.out _ {data:=#[41]} _ HP4.out (by decide)).mono ?_;rintro e w5 ⟨rfl,HP5,HB5,HK5⟩;rw[z8R]at HP5;have HB5':=hid (HB4'.out.trans HB5.out);have HK5':=hid (HK4'.out.trans HK5.out);clear HB4' HK4' HB5 HK5 HP4
    go_wp2_with fail
    (try simp only[Exit.inBlock,Exit.then])
    first|refine bodyPost_end (results_none rfl _ _ _) rfl ?_ |refine bodyPost_ret (results_none rfl _ _ _) rfl ?_
    exact⟨rfl,by rw[HZ2.out];exact HP5,HB5',HK5'⟩
theorem z8S(S:ByteArray)(w:World)(h32:32<S.size)(hS:S.size<=9223372036854775807):
  Calls prog 31 #[.string S] w fun e w'=>e=.returned (.bool false)/\w'=w:=by
 have hne:S.toList.isEmpty=false:=by
  rw[Go.ByteArray.toList_eq];cases h:S.data.toList with
  |nil=>
   have h1:S.data.toList.length=0:=by rw[h];rfl
   have h2:S.data.size=S.size:=rfl;rw[Array.length_toList]at h1;omega
  |cons _ _=>rfl
 have a0:decide ((S.size:Int)<=32)=false:=by simp;omega
 go_enter func31,ntmps31
 go_wp2_with fail
 go_ret;exact⟨rfl,rfl⟩
theorem z3w(S:ByteArray)(w:World)(hS:S.size<=9223372036854775807):
  Calls prog 31 #[.string S] w fun e w'=>e=.returned (.bool (nmS S))/\w'=w:=by
 rcases Nat.lt_or_ge 32 S.size with h|h
 ·have e:nmS S=false:=by
   unfold nmS;split
   ·rfl
   ·rw[decide_eq_false (by omega)];rfl
  rw[e];exact z8S S w h hS
 ·exact z5H S w (by omega)
def zc(a b c d:Int):Bool:=a == 0&&(b == 0&&(c == 0&&d == 0))
def okN(k:Int)(T:ByteArray)(a b c d:Int)(n:Nat):Bool:=
 if k=1∨k=4 then T.toList.isEmpty&&(zc a b c d&&((n:Int) == 0))
 else if k=2 then decide ((T.size:Int)<=255)&&(zc a b c d&&((n:Int) == 0))
 else if k=3 then T.toList.isEmpty&&((n:Int) == 0)
 else if k=5 then nmS T&&(zc a b c d&&((n:Int) == 0))
 else if k=6∨k=7 then T.toList.isEmpty&&(zc a b c d&&decide (2<=(n:Int)))
 else if 8<=k/\k<=12 then T.toList.isEmpty&&(zc a b c d&&((n:Int) == 1))
 else false
theorem Jj(a b c d:Int)(w:World):(Op.equalIn 10000 27 (.agg #[.int .u64 a,.int .u64 b,.int .u64 c,.int .u64 d]) (.agg #[.int .u64 0,.int .u64 0,.int .u64 0,.int .u64 0])).run prog w=.ok (zc a b c d) w:=Ic 9998 w a b c d 0 0 0 0
theorem z8T(T:ByteArray)(a b c d p:Int)(so:Option Addr)(n cap:Nat)(w:World)(hT:T.size<=9223372036854775807):
  Calls prog 55 #[.agg #[.int .i64 1,.string T,.int .u64 a,.int .u64 b,.int .u64 c,.int .u64 d,.slice so n cap,.int .i64 p]] w fun e w'=>e=.returned (.bool (okN 1 T a b c d n))/\Below w.heap.size w w':=by
 have e3:=Jj a b c d;obtain⟨R,hR⟩:∃R,R=okN 1 T a b c d n:=⟨_,rfl⟩;rw[<-hR];go_enter func55,ntmps55
 go_wp2_with fail
 go_region
 go_wp2_with fail
 all_goals(go_ret;exact⟨by(try rw[hR]);unfold okN;simp_all<;>(intros;omega),(B0q.alloc L0q _).drew⟩)
theorem z8U(T:ByteArray)(a b c d p:Int)(so:Option Addr)(n cap:Nat)(w:World)(hT:T.size<=9223372036854775807):
  Calls prog 55 #[.agg #[.int .i64 2,.string T,.int .u64 a,.int .u64 b,.int .u64 c,.int .u64 d,.slice so n cap,.int .i64 p]] w fun e w'=>e=.returned (.bool (okN 2 T a b c d n))/\Below w.heap.size w w':=by
 have e3:=Jj a b c d;obtain⟨R,hR⟩:∃R,R=okN 2 T a b c d n:=⟨_,rfl⟩;rw[<-hR];go_enter func55,ntmps55
 go_wp2_with fail
 go_region
 go_wp2_with fail
 all_goals(go_ret;exact⟨by(try rw[hR]);unfold okN;simp_all<;>(intros;omega),(B0q.alloc L0q _).drew⟩)
theorem z8V(T:ByteArray)(a b c d p:Int)(so:Option Addr)(n cap:Nat)(w:World)(hT:T.size<=9223372036854775807):
  Calls prog 55 #[.agg #[.int .i64 3,.string T,.int .u64 a,.int .u64 b,.int .u64 c,.int .u64 d,.slice so n cap,.int .i64 p]] w fun e w'=>e=.returned (.bool (okN 3 T a b c d n))/\Below w.heap.size w w':=by
 have e3:=Jj a b c d;obtain⟨R,hR⟩:∃R,R=okN 3 T a b c d n:=⟨_,rfl⟩;rw[<-hR];go_enter func55,ntmps55
 go_wp2_with fail
 go_region
 go_wp2_with fail
 all_goals(go_ret;exact⟨by(try rw[hR]);unfold okN;simp_all<;>(intros;omega),(B0q.alloc L0q _).drew⟩)
theorem z8W(T:ByteArray)(a b c d p:Int)(so:Option Addr)(n cap:Nat)(w:World)(hT:T.size<=9223372036854775807):
  Calls prog 55 #[.agg #[.int .i64 4,.string T,.int .u64 a,.int .u64 b,.int .u64 c,.int .u64 d,.slice so n cap,.int .i64 p]] w fun e w'=>e=.returned (.bool (okN 4 T a b c d n))/\Below w.heap.size w w':=by
 have e3:=Jj a b c d;obtain⟨R,hR⟩:∃R,R=okN 4 T a b c d n:=⟨_,rfl⟩;rw[<-hR];go_enter func55,ntmps55
 go_wp2_with fail
 go_region
 go_wp2_with fail
 all_goals(go_ret;exact⟨by(try rw[hR]);unfold okN;simp_all<;>(intros;omega),(B0q.alloc L0q _).drew⟩)
theorem z8X(T:ByteArray)(a b c d p:Int)(so:Option Addr)(n cap:Nat)(w:World)(hT:T.size<=9223372036854775807):
  Calls prog 55 #[.agg #[.int .i64 5,.string T,.int .u64 a,.int .u64 b,.int .u64 c,.int .u64 d,.slice so n cap,.int .i64 p]] w fun e w'=>e=.returned (.bool (okN 5 T a b c d n))/\Below w.heap.size w w':=by
 have e3:=Jj a b c d;obtain⟨R,hR⟩:∃R,R=okN 5 T a b c d n:=⟨_,rfl⟩;rw[<-hR];go_enter func55,ntmps55
 go_wp2_with fail
 go_region
 go_wp2_with(go_at_call 31;refine(z3w T _ hT).mono ?_;rintro e wq ⟨rfl,rfl⟩)
 all_goals(go_ret;exact⟨by(try rw[hR]);unfold okN;simp_all<;>(intros;omega),(B0q.alloc L0q _).drew⟩)
theorem z8Y(T:ByteArray)(a b c d p:Int)(so:Option Addr)(n cap:Nat)(w:World)(hT:T.size<=9223372036854775807):
  Calls prog 55 #[.agg #[.int .i64 6,.string T,.int .u64 a,.int .u64 b,.int .u64 c,.int .u64 d,.slice so n cap,.int .i64 p]] w fun e w'=>e=.returned (.bool (okN 6 T a b c d n))/\Below w.heap.size w w':=by
 have e3:=Jj a b c d;obtain⟨R,hR⟩:∃R,R=okN 6 T a b c d n:=⟨_,rfl⟩;rw[<-hR];go_enter func55,ntmps55
 go_wp2_with fail
 go_region
 go_wp2_with fail
 all_goals(go_ret;exact⟨by(try rw[hR]);unfold okN;simp_all<;>(intros;omega),(B0q.alloc L0q _).drew⟩)
theorem z8Z(T:ByteArray)(a b c d p:Int)(so:Option Addr)(n cap:Nat)(w:World)(hT:T.size<=9223372036854775807):
  Calls prog 55 #[.agg #[.int .i64 7,.string T,.int .u64 a,.int .u64 b,.int .u64 c,.int .u64 d,.slice so n cap,.int .i64 p]] w fun e w'=>e=.returned (.bool (okN 7 T a b c d n))/\Below w.heap.size w w':=by
 have e3:=Jj a b c d;obtain⟨R,hR⟩:∃R,R=okN 7 T a b c d n:=⟨_,rfl⟩;rw[<-hR];go_enter func55,ntmps55
 go_wp2_with fail
 go_region
 go_wp2_with fail
 all_goals(go_ret;exact⟨by(try rw[hR]);unfold okN;simp_all<;>(intros;omega),(B0q.alloc L0q _).drew⟩)
theorem z9a(T:ByteArray)(a b c d p:Int)(so:Option Addr)(n cap:Nat)(w:World)(hT:T.size<=9223372036854775807):
  Calls prog 55 #[.agg #[.int .i64 8,.string T,.int .u64 a,.int .u64 b,.int .u64 c,.int .u64 d,.slice so n cap,.int .i64 p]] w fun e w'=>e=.returned (.bool (okN 8 T a b c d n))/\Below w.heap.size w w':=by
 have e3:=Jj a b c d;obtain⟨R,hR⟩:∃R,R=okN 8 T a b c d n:=⟨_,rfl⟩;rw[<-hR];go_enter func55,ntmps55
 go_wp2_with fail
 go_region
 go_wp2_with fail
 all_goals(go_ret;exact⟨by(try rw[hR]);unfold okN;simp_all<;>(intros;omega),(B0q.alloc L0q _).drew⟩)
theorem z9b(T:ByteArray)(a b c d p:Int)(so:Option Addr)(n cap:Nat)(w:World)(hT:T.size<=9223372036854775807):
  Calls prog 55 #[.agg #[.int .i64 9,.string T,.int .u64 a,.int .u64 b,.int .u64 c,.int .u64 d,.slice so n cap,.int .i64 p]] w fun e w'=>e=.returned (.bool (okN 9 T a b c d n))/\Below w.heap.size w w':=by
 have e3:=Jj a b c d;obtain⟨R,hR⟩:∃R,R=okN 9 T a b c d n:=⟨_,rfl⟩;rw[<-hR];go_enter func55,ntmps55
 go_wp2_with fail
 go_region
 go_wp2_with fail
 all_goals(go_ret;exact⟨by(try rw[hR]);unfold okN;simp_all<;>(intros;omega),(B0q.alloc L0q _).drew⟩)
theorem z9c(T:ByteArray)(a b c d p:Int)(so:Option Addr)(n cap:Nat)(w:World)(hT:T.size<=9223372036854775807):
  Calls prog 55 #[.agg #[.int .i64 10,.string T,.int .u64 a,.int .u64 b,.int .u64 c,.int .u64 d,.slice so n cap,.int .i64 p]] w fun e w'=>e=.returned (.bool (okN 10 T a b c d n))/\Below w.heap.size w w':=by
 have e3:=Jj a b c d;obtain⟨R,hR⟩:∃R,R=okN 10 T a b c d n:=⟨_,rfl⟩;rw[<-hR];go_enter func55,ntmps55
 go_wp2_with fail
 go_region
 go_wp2_with fail
 all_goals(go_ret;exact⟨by(try rw[hR]);unfold okN;simp_all<;>(intros;omega),(B0q.alloc L0q _).drew⟩)
theorem z9d(T:ByteArray)(a b c d p:Int)(so:Option Addr)(n cap:Nat)(w:World)(hT:T.size<=9223372036854775807):
  Calls prog 55 #[.agg #[.int .i64 11,.string T,.int .u64 a,.int .u64 b,.int .u64 c,.int .u64 d,.slice so n cap,.int .i64 p]] w fun e w'=>e=.returned (.bool (okN 11 T a b c d n))/\Below w.heap.size w w':=by
 have e3:=Jj a b c d;obtain⟨R,hR⟩:∃R,R=okN 11 T a b c d n:=⟨_,rfl⟩;rw[<-hR];go_enter func55,ntmps55
 go_wp2_with fail
 go_region
 go_wp2_with fail
 all_goals(go_ret;exact⟨by(try rw[hR]);unfold okN;simp_all<;>(intros;omega),(B0q.alloc L0q _).drew⟩)
theorem z9e(T:ByteArray)(a b c d p:Int)(so:Option Addr)(n cap:Nat)(w:World)(hT:T.size<=9223372036854775807):
  Calls prog 55 #[.agg #[.int .i64 12,.string T,.int .u64 a,.int .u64 b,.int .u64 c,.int .u64 d,.slice so n cap,.int .i64 p]] w fun e w'=>e=.returned (.bool (okN 12 T a b c d n))/\Below w.heap.size w w':=by
 have e3:=Jj a b c d;obtain⟨R,hR⟩:∃R,R=okN 12 T a b c d n:=⟨_,rfl⟩;rw[<-hR];go_enter func55,ntmps55
 go_wp2_with fail
 go_region
 go_wp2_with fail
 all_goals(go_ret;exact⟨by(try rw[hR]);unfold okN;simp_all<;>(intros;omega),(B0q.alloc L0q _).drew⟩)
theorem z9f(k:Int)(T:ByteArray)(a b c d p:Int)(so:Option Addr)(n cap:Nat)(w:World)(hk:k<1∨12<k)(hT:T.size<=9223372036854775807):
  Calls prog 55 #[.agg #[.int .i64 k,.string T,.int .u64 a,.int .u64 b,.int .u64 c,.int .u64 d,.slice so n cap,.int .i64 p]] w fun e w'=>e=.returned (.bool (okN k T a b c d n))/\Below w.heap.size w w':=by
 have e3:=Jj a b c d;obtain⟨R,hR⟩:∃R,R=okN k T a b c d n:=⟨_,rfl⟩;rw[<-hR];have q1:(k == 1)=false:=by simp;omega
 have q2:(k == 2)=false:=by simp;omega
 have q3:(k == 3)=false:=by simp;omega
 have q4:(k == 4)=false:=by simp;omega
 have q5:(k == 5)=false:=by simp;omega
 have q6:(k == 6)=false:=by simp;omega
 have q7:(k == 7)=false:=by simp;omega
 have q8:(k == 8)=false:=by simp;omega
 have q9:(k == 9)=false:=by simp;omega
 have q10:(k == 10)=false:=by simp;omega
 have q11:(k == 11)=false:=by simp;omega
 have q12:(k == 12)=false:=by simp;omega
 go_enter func55,ntmps55
 go_wp2_with fail
 go_region
 go_wp2_with fail
 all_goals(go_ret;exact⟨by rw[hR];unfold okN;rw[if_neg (by omega),if_neg (by omega),if_neg (by omega),if_neg (by omega),if_neg (by omega),if_neg (by omega)];rfl,(B0q.alloc L0q _).drew⟩)
theorem z3x(k:Int)(T:ByteArray)(a b c d p:Int)(so:Option Addr)(n cap:Nat)(w:World)(hT:T.size<=9223372036854775807):
  Calls prog 55 #[.agg #[.int .i64 k,.string T,.int .u64 a,.int .u64 b,.int .u64 c,.int .u64 d,.slice so n cap,.int .i64 p]] w fun e w'=>e=.returned (.bool (okN k T a b c d n))/\Below w.heap.size w w':=by
 by_cases hk:k<1∨12<k
 ·exact z9f k T a b c d p so n cap w hk hT
 have h:k=1∨k=2∨k=3∨k=4∨k=5∨k=6∨k=7∨k=8∨k=9∨k=10∨k=11∨k=12:=by omega
 rcases h with rfl|rfl|rfl|rfl|rfl|rfl|rfl|rfl|rfl|rfl|rfl|rfl
 ·exact z8T T a b c d p so n cap w hT
 ·exact z8U T a b c d p so n cap w hT
 ·exact z8V T a b c d p so n cap w hT
 ·exact z8W T a b c d p so n cap w hT
 ·exact z8X T a b c d p so n cap w hT
 ·exact z8Y T a b c d p so n cap w hT
 ·exact z8Z T a b c d p so n cap w hT
 ·exact z9a T a b c d p so n cap w hT
 ·exact z9b T a b c d p so n cap w hT
 ·exact z9c T a b c d p so n cap w hT
 ·exact z9d T a b c d p so n cap w hT
 ·exact z9e T a b c d p so n cap w hT
end Go.Proofs.YtikfnaffiehpaaaGreatDoor
