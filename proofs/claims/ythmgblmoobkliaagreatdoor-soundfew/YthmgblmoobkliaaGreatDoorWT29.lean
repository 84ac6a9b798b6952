/- Lemmas for the last text. Conditions: those that each names. -/
import Derived.Test.YthmgblmoobkliaaGreatDoorVT22ToEBase
set_option linter.unusedVariables false
set_option maxRecDepth 100000
set_option maxHeartbeats 8000000
namespace Go.Proofs.YthmgblmoobkliaaGreatDoor
open Go.Proofs.Tryz
open Go.RowKit Go.Shelf Go.Maps
variable {k:Int} {s:ByteArray}
theorem y4p(a:Int):bits BinOp.and IntKind.i64 a 1=0∨bits BinOp.and IntKind.i64 a 1=1:=by
 have h:(BitVec.ofInt 64 a&&&BitVec.ofInt 64 (1:Int)).toNat=(BitVec.ofInt 64 a).toNat%2:=by
  rw[BitVec.toNat_and,show(BitVec.ofInt 64 (1:Int)).toNat=1 from by decide];exact Nat.and_one_is_mod _
 show IntKind.i64.wrap (((BitVec.ofInt 64 a&&&BitVec.ofInt 64 (1:Int)).toNat:Nat):Int)=0∨IntKind.i64.wrap (((BitVec.ofInt 64 a&&&BitVec.ofInt 64 (1:Int)).toNat:Nat):Int)=1;rw[h];rcases Nat.mod_two_eq_zero_or_one (BitVec.ofInt 64 a).toNat with e|e
 ·rw[e];exact .inl rfl
 ·rw[e];exact .inr rfl
def fwG(k:Int)(s:ByteArray):List Rr:=[(bA,.mk k bE0 0 0 0 0 [.mk 2 s 0 0 0 0 [] 0] 3,0)]
theorem y4q(h:s.size<=9223372036854775807):RgZ (fwG k s):=fun x hx=>by
 obtain rfl:x=_:=List.mem_singleton.1 hx;have h0:bE0.size<=9223372036854775807:=by decide
 have h1:bA.size<=9223372036854775807:=by decide
 exact⟨h1,by rw[RtZ,Xl,Xl,RtZ,Xl];exact⟨h0,⟨h,trivial⟩,trivial⟩⟩
theorem z5U(hk:k=9∨k=10):okG (fwG k s)=decide (s.size<=255):=by
 have hn:nmS bA=true:=by decide+kernel
 have h1:okN 2 s 0 0 0 0 (Qd [])=decide (s.size<=255):=by
  unfold okN;rw[if_neg (by decide),if_pos rfl,Qd];have e:decide ((s.size:Int)<=255)=decide (s.size<=255):=by
   rw[Bool.eq_iff_iff,decide_eq_true_iff,decide_eq_true_iff];omega
  rw[e];cases decide (s.size<=255)<;>rfl
 have h2:okN k bE0 0 0 0 0 (Qd [RT.mk 2 s 0 0 0 0 [] 0])=true:=by
  rcases hk with rfl|rfl<;>(unfold okN;rw[Qd,Qd];decide+kernel)
 unfold fwG okG;simp only[List.length_cons,List.length_nil,List.all_cons,List.all_nil,okR,hn,okT,okL,h1,h2];cases decide (s.size<=255)<;>rfl
theorem y4r(k:Int)(s:ByteArray)(hk:k=9∨k=10):ckR (fwG k s)=none:=by
 refine Wy (by simp[nmL,fwG]) fun x hx y hy=> ?_
 obtain rfl:x=_:=List.mem_singleton.1 hx;rw[rfT,if_neg (by omega),rfL,rfT,if_neg (by decide)]at hy;simp[rfL]at hy
theorem y4s(hk:k=9∨k=10)(hs:s.size<=255):PrG (fwG k s):=by
 have hz:=z2M hs;have w0:((wd 0 0:Nat):Int)=0/\((wd 0 1:Nat):Int)=0/\((wd 0 2:Nat):Int)=0/\((wd 0 3:Nat):Int)=0:=by decide
 obtain⟨kd,hkd,hk2⟩:∃kd:Nat,(kd=9∨kd=10)/\k=(kd:Int):=by
  rcases hk with rfl|rfl
  ·exact⟨9,.inl rfl,rfl⟩
  ·exact⟨10,.inr rfl,rfl⟩
 have hwr:wr kd 2=false:=by rcases hkd with rfl|rfl<;>decide
 have hp:sz (pN qT cT (.mk kd bE0 0 [.mk 2 s 0 [] 0] 0))<=4200:=by
  have e1:pN qT cT (.mk 2 s 0 [] 0)=[qT s]:=by rw[pN];simp
  have e2:pS qT cT kd bE [.mk 2 s 0 [] 0]=[qT s]:=by
   rw[pS,pB,e1];show(if wr kd 2=true then _ else _)++_=_;rw[hwr];simp
  have e3:pN qT cT (.mk kd bE0 0 [.mk 2 s 0 [] 0] 0)=[qT s]++[bsg kd]:=by
   rw[pN,e2];rcases hkd with rfl|rfl<;>simp
  rw[e3,Xv,sz,sz,sz,sz];have h1:(bsg kd).size=1:=by rcases hkd with rfl|rfl<;>decide
  have h2:(qT s).size<=4096:=hz;omega
 have hd:dN (.mk kd bE0 0 [.mk 2 s 0 [] 0] 0)<=24:=by
  rw[dN,if_neg (by omega),dS,dS];show max (if wr kd 2=true then _ else _) 0<=24;rw[hwr,dN,dS];simp
 refine⟨by rw[z5U hk];simpa using hs,[(bA,.mk kd bE0 0 [.mk 2 s 0 [] 0] 0,0)],?_,fun x hx=> ?_,?_,?_⟩
 ·unfold fwG
  rw[TqR,TqR];refine⟨rfl,?_,trivial⟩;rw[Tq,TqL,TqL,Tq,TqL];exact⟨hk2,rfl,w0.1.symm,w0.2.1.symm,w0.2.2.1.symm,w0.2.2.2.symm,⟨rfl,rfl,w0.1.symm,w0.2.1.symm,w0.2.2.1.symm,w0.2.2.2.symm,trivial⟩,trivial⟩
 ·obtain rfl:x=_:=List.mem_singleton.1 hx
  refine⟨by show nmS bA=true;decide+kernel,?_,?_⟩
  ·rw[Vk,VkL,VkL,Vk,VkL]
   exact⟨.inr (.inr (.inr (.inr (.inr (.inr ⟨by omega,by omega,rfl,rfl,rfl⟩))))),⟨.inr (.inl ⟨rfl,rfl,rfl⟩),trivial⟩,trivial⟩
  ·rw[Wf,WfL,WfL,Wf,WfL]
   exact⟨fun h=>by omega,fun h=>by omega,by decide,⟨fun _=>hs,(fun h=>by cases h),by decide,trivial⟩,trivial⟩
 ·rw[pR,pR,sz,sz,Xv,sz,sz]
  have e1:bA.size=1:=rfl;have e2:bAr.size=4:=by decide
  have e3:bNl.size=1:=by decide
  simp only;omega
 ·rw[dR,dR]
  simp only;omega
theorem y4t(hk:k=9∨k=10)(K:ByteArray->Ot):fbT K (.mk k bE0 0 0 0 0 [.mk 2 s 0 0 0 0 [] 0] 3)=[]:=by
 have h5:k≠5:=by omega
 rw[fbT,if_neg h5,fbL,fbT,if_neg (by decide),fbL,fbL];simp
theorem y4u(hk:k=9∨k=10):soZ (fwG k s) none=if s.size=0 then some (.inr (40,3))else none:=by
 have hl:lfG (fwG k s)=none:=Wc fun i hi hb=>by
  obtain⟨x,hx,_⟩:=hb;have hi':=z5Q hx;rw[Ig hi']at hx;obtain⟨t,ht,_⟩:=Ap.1 hx;have h0:i=0:=by unfold fwG at hi';simp at hi';omega
  subst h0;have:t∈fbT (kG (fwG k s)) (.mk k bE0 0 0 0 0 [.mk 2 s 0 0 0 0 [] 0] 3):=ht;rw[y4t hk]at this;simp at this
 have ho:∀K:ByteArray->Ot,ofH K [RT.mk 2 s 0 0 0 0 [] 0]=if s.size=0 then(true,false,false)else(false,true,true):=fun K=>by
  rw[ofH,ofT];simp
 have h5:flG (kG (fwG k s)) (fwG k s)=if s.size=0 then some 3 else none:=by
  unfold fwG;rw[flG,flG];simp only;rw[flT,ho];by_cases h0:s.size=0
  ·rw[if_pos h0,if_pos h0,if_pos ⟨hk,rfl⟩]
  ·rw[if_neg h0,if_neg h0,if_neg (by simp),flL,flL,flT,if_neg (by omega),flL]
 unfold soZ flX;simp only;rw[h5];by_cases h0:s.size=0
 ·rw[if_pos h0,if_pos h0];rfl
 ·rw[if_neg h0,if_neg h0,hl];rfl
theorem y4v(so:Option Addr)(n cap:Nat)(rs:List Rr)(B:Nat)(w:World)(hz:RgZ rs)(h:Qv w B so n rs)(hB:B<=w.heap.size)(hk:okG rs=false):CkC so n cap rs (some (.inl 20)) w:=by
 have hR:∀W:World,Below w.heap.size w W->Calls prog 69 #[.agg #[.slice so n cap]] W fun e w'=>e=.returned (.iface 37 (.int .i64 20))/\Below W.heap.size W w':=fun W hW=>Aj so n cap (.string ⟨#[]⟩) _ W (hid fun W' hW'=>by
  have hb:Below w.heap.size w W':=hW.trans (hW'.mono hW.size);exact z3t so n cap rs B W' hz (h.below (hb.mono hB)) (Nat.le_trans hB hb.size) hk)
 refine fun W hW=>(callsIn_wide.1 (z3R so n cap 20 W (hid fun W' hW'=>hR W' (hW.trans (hW'.mono hW.size))) 0)).mono fun e w' he=> ?_
 exact⟨_,_,he.1,rfl,(fun h=>by cases h),fun _=>rfl,he.2⟩
theorem y4w(k:Int)(s:ByteArray)(W:World)(g1 g2:Nat)(h1:W.heap[g1]? =some (.cells #[.int .i64 2,.string s,.int .u64 0,.int .u64 0,.int .u64 0,.int .u64 0,.slice none 0 0,.int .i64 0] 54))(h2:W.heap[g2]? =some (.cells #[.string bA,.int .i64 k,.string bE0,.int .u64 0,.int .u64 0,.int .u64 0,.int .u64 0,.slice (some ⟨g1,0,none⟩) 1 1,.int .i64 3,.int .i64 0] 56)):Qv W W.heap.size (some ⟨g2,0,none⟩) 1 (fwG k s):=by
 refine⟨rfl,by unfold maxLen;omega,fun j hj=>⟨g2,0,rfl,Qq h2,?_⟩⟩;obtain rfl:j=0:=by unfold fwG at hj;simp at hj;omega
 have hl:Qj W W.heap.size (.mk 2 s 0 0 0 0 [] 0) (r8 2 s 0 0 0 0 none 0 0 0):=by rw[Qj];exact⟨none,0,rfl,.inl rfl⟩
 have hc:∀i u,(r8 2 s 0 0 0 0 none 0 0 0)[i]? =some u->W.cell? ⟨g1,0+i,none⟩=some u:=fun i u hu=>by
  rw[Nat.zero_add];exact(Zx h1 i u (by simpa [r8]using hu)).1
 refine⟨k,bE0,0,0,0,0,some ⟨g1,0,none⟩,1,1,3,?_,(Zx h2 _ _ rfl).1,(Zx h2 _ _ rfl).1,(Zx h2 _ _ rfl).1,(Zx h2 _ _ rfl).1,(Zx h2 _ _ rfl).1,(Zx h2 _ _ rfl).1,(Zx h2 _ _ rfl).1,(Zx h2 _ _ rfl).1,(Zx h2 _ _ rfl).1,(Zx h2 _ _ rfl).1⟩;show Qj W W.heap.size (.mk k bE0 0 0 0 0 [.mk 2 s 0 0 0 0 [] 0] 3) _;rw[Qj];refine⟨some ⟨g1,0,none⟩,1,rfl,.inr ⟨rfl,g1,0,rfl,Qq h1,by rw[Qd,Qd];unfold maxLen;omega,?_⟩⟩;rw[Qc,Qc];exact⟨⟨_,hl,hc⟩,trivial⟩
theorem y4x(k:Int)(s:ByteArray)(hk:k=9∨k=10)(hs:s.size<=9223372036854775807)(fp:Addr)(W:World)(g1 g2:Nat)(h1:W.heap[g1]? =some (.cells #[.int .i64 2,.string s,.int .u64 0,.int .u64 0,.int .u64 0,.int .u64 0,.slice none 0 0,.int .i64 0] 54))(h2:W.heap[g2]? =some (.cells #[.string bA,.int .i64 k,.string bE0,.int .u64 0,.int .u64 0,.int .u64 0,.int .u64 0,.slice (some ⟨g1,0,none⟩) 1 1,.int .i64 3,.int .i64 0] 56))(hT:TabIs W)(hF:W.cell? ⟨1,0,none⟩=some (.iface 281 (.pointer (some fp)))):
  Calls prog 11 #[.agg #[.slice (some ⟨g2,0,none⟩) 1 1]] W fun e w'=>∃v,e=.returned v/\Qm (if s.size<=255 then(if s.size=0 then some (.inr (40,3))else none)else some (.inl 20)) W.heap.size w' v/\Below W.heap.size W w':=by
 have hi:=y4w k s W g1 g2 h1 h2;have hz:RgZ (fwG k s):=y4q hs;by_cases h255:s.size<=255
 ·rw[if_pos h255]
  have hp:=y4s hk h255;have hck:=y4r k s hk;obtain⟨hX,hC⟩:=Wg _ 1 1 (fwG k s) _ W hz hi L0q hT hp hck;have:=Dm _ 1 1 (fwG k s) none _ fp W hX (fun _=>hp) hC hz hi L0q hT hF W B0q;rw[y4u hk]at this;exact this
 ·rw[if_neg h255]
  have hok:okG (fwG k s)=false:=by rw[z5U hk];simpa using h255
  have hC:=y4v (some ⟨g2,0,none⟩) 1 1 (fwG k s) W.heap.size W hz hi L0q hok;exact Dm _ 1 1 (fwG k s) (some (.inl 20)) _ fp W (.inr rfl) (fun h=>by cases h) hC hz hi L0q hT hF W B0q
theorem z5V(s:ByteArray)(a r k:Int)(hb:bits BinOp.and IntKind.i64 a 1=r)(hrk:(r=0/\k=9)∨(r=1/\k=10))(hs:s.size<=9223372036854775807)(fp:Addr)(w:World)(hE:Zj w)(hT:TabIs w)(hF:w.cell? ⟨1,0,none⟩=some (.iface 281 (.pointer (some fp)))):
  Calls prog 7 #[.string s,.int .i64 a] w fun e w'=>e=.returned (.bool true)/\Below w.heap.size w w':=by
 have hfl:1<w.heap.size:=World.block_lt_of_cell? w _ hF;have HS:=hid (Bz fp w hE hT hF);have HCk:=hid (fun(W:World) (hbw:Below w.heap.size w W) (g1 g2:Nat) h1 h2=>y4x k s (by omega) hs fp W g1 g2 h1 h2 (hT.below hbw hT.lt) ((hbw.cell (p:=⟨1,0,none⟩) hfl).trans hF));have HE:=hid hE;have e255:s.size<=255∨¬s.size<=255:=Decidable.em _;clear hE hT hF hfl;rcases hrk with⟨rfl,rfl⟩|⟨rfl,rfl⟩
 all_goals
  go_enter func7,ntmps7
  go_wp2_with fail
  refine HS.out.mono ?_;rintro e w1 ⟨rfl,HB1⟩;clear HS
  go_wp2_with fail
  refine(HCk.out _ ?hb (w1.heap.size+1) (w1.heap.size+1+1) ?h1 ?h2).mono ?_
  case hb=>exact HB1.out.trans (((((Below.refl _ w1).alloc L0q _).alloc (by simp) _).alloc (by simp<;>omega) _).alloc (by simp<;>omega) _|>.mono HB1.out.size)
  case h1=>exact(Below.heap_alloc _ _ _ (by simp<;>omega)).trans ((Below.heap_alloc _ _ _ (by simp)).trans (Qx _ _ (by simp)))
  case h2=>exact(Below.heap_alloc _ _ _ (by simp)).trans (Qx _ _ (by simp))
  clear HCk;rintro e w2 ⟨v2,rfl,hv2,hb2⟩;have HB2:Hid (Below w.heap.size w w2):=hid ((HB1.out.trans (((((Below.refl _ w1).alloc L0q _).alloc (by simp) _).alloc (by simp<;>omega) _).alloc (by simp<;>omega) _|>.mono HB1.out.size)).trans (hb2.mono (by have:=HB1.out.size;simp only[World.size_alloc];omega)));have HCo:=hid (If _ _ v2 w2 (HE.out.below HB2.out HE.out.lt) hv2);clear hb2;rcases e255 with h255|h255
  ·rw[if_pos h255]at hv2 HCo
   have n255:decide ((255:Int)<(s.size:Int))=false:=by simp;omega
   have m255:decide (255<s.size)=false:=by simp;omega
   have p255:¬255<s.size:=by omega
   by_cases h0:s.size=0
   ·rw[if_pos h0]at hv2 HCo
    obtain rfl:s={data:=#[]}:=y2f h0;obtain⟨g2,rfl,_,hg2⟩:=hv2;have HAt:=hid (fun(W:World) (hb:Below w2.heap.size w2 W)=>Ok g2 40 3 W (HE.out.below (HB2.out.trans (hb.mono HB2.out.size)) HE.out.lt) ((hb.block g2 (Qq hg2)).trans hg2));rw[show cdZ (some (.inr (40,3)))=40 from rfl]at HCo;clear hg2 h0 h255
    go_wp2_with fail
    refine HCo.out.mono ?_;clear HCo;rintro e w3 ⟨rfl,hb3⟩;have HB3:=hid (HB2.out.trans (hb3.mono HB2.out.size));have HAt3:=hid (HAt.out w3 hb3);clear HAt hb3
    go_wp2_with fail
    refine HAt3.out.mono ?_;clear HAt3;rintro e w4 ⟨rfl,hb4⟩;have HB4:=hid (HB3.out.trans (hb4.mono HB3.out.size));clear hb4
    go_wp2_with fail
    go_ret;exact⟨rfl,HB4.out⟩
   ·rw[if_neg h0]at hv2 HCo
    obtain rfl:v2=.nilIface:=hv2;have s1:s.toList.isEmpty=false:=z4H h0;have s2:(s.toList == [])=false:=by
     cases e:s.toList with
     |nil=>rw[e]at s1;cases s1
     |cons x r=>rfl
    have s3:¬s.toList=[]:=fun e=>by rw[e]at s1;cases s1
    clear HCo h0 h255
    go_wp2_with fail
    go_ret;exact⟨rfl,HB2.out⟩
  ·rw[if_neg h255]at hv2 HCo
   obtain rfl:v2=.iface 37 (.int .i64 20):=hv2;have n255:decide ((255:Int)<(s.size:Int))=true:=by simp;omega
   have m255:decide (255<s.size)=true:=by simp;omega
   have p255:255<s.size:=by omega
   rw[show cdZ (some (.inl 20))=20 from rfl]at HCo;clear h255
   go_wp2_with fail
   refine HCo.out.mono ?_;clear HCo;rintro e w3 ⟨rfl,hb3⟩;have HB3:=hid (HB2.out.trans (hb3.mono HB2.out.size));clear hb3
   go_wp2_with fail
   go_ret;exact⟨rfl,HB3.out⟩
theorem y4y(s:ByteArray)(a:Int)(hs:s.size<=9223372036854775807)(fp:Addr)(w:World)(hE:Zj w)(hT:TabIs w)(hF:w.cell? ⟨1,0,none⟩=some (.iface 281 (.pointer (some fp)))):
  Calls prog 7 #[.string s,.int .i64 a] w fun e w'=>e=.returned (.bool true)/\Below w.heap.size w w':=by
 rcases y4p a with h|h
 ·exact z5V s a 0 9 h (.inl ⟨rfl,rfl⟩) hs fp w hE hT hF
 ·exact z5V s a 1 10 h (.inr ⟨rfl,rfl⟩) hs fp w hE hT hF
end Go.Proofs.YthmgblmoobkliaaGreatDoor
