/- Lemmas for the last text. Conditions: those that each names. -/
import Derived.Test.YtikfnaffiehpaaaGreatDoorVXK2
import Derived.Test.YtikfnaffiehpaaaGreatDoorVQ3
import Derived.Test.YtikfnaffiehpaaaGreatDoorVS3ToXK1
set_option linter.unusedVariables false
set_option maxRecDepth 100000
set_option maxHeartbeats 4000000
namespace Go.Proofs.YtikfnaffiehpaaaGreatDoor
open Go.Proofs.Tryz
open Go.RowKit
variable {W w w':World} {base cap e g n size:Nat} {xs:List Value} {v:Value}
theorem z9F(n:Nat)(h:n<18446744073709551616):bits BinOp.and IntKind.u64 (n:Int) 1=((n%2:Nat):Int):=by
 have:=Go.bits_and_u64_nat n 1 h (by omega);rw[Nat.and_one_is_mod]at this;exact this
theorem z9G(C b:Nat)(hb:b<256):[Value.int IntKind.u64 (wd C 0:Nat),.int .u64 (wd C 1),.int .u64 (wd C 2),.int .u64 (wd C 3)][b/64]? =some (.int .u64 (wd C (b/64):Nat)):=by
 have:b/64=0∨b/64=1∨b/64=2∨b/64=3:=by omega
 rcases this with e|e|e|e<;>rw[e]<;>rfl
theorem z9H(C:Nat)(b:Nat)(w:World)(hx:b<256):
  Calls prog 87 #[cv C,.int .i64 b] w fun e w'=>e=.returned (.bool (C.testBit b))/\Below w.heap.size w w':=by
 have hc:=z9G C b hx;unfold cv;have hd:bits BinOp.and IntKind.u64 ((wd C (b/64):Int)/2^(b%64)) 1=((wd C (b/64)/2^(b%64)%2:Nat):Int):=by
  have:=z9F (wd C (b/64)/2^(b%64)) (Nat.lt_of_le_of_lt (Nat.div_le_self _ _) (Zm _ _));rw[<-this];congr 1
 have hT:((((wd C (b/64)/2^(b%64)%2:Nat):Int)) == 1)=C.testBit b:=by
  have e1:=Vj C (b/64) (b%64);rw[show 64*(b/64)+b%64=b by omega,Nat.testBit_eq_decide_div_mod_eq]at e1;simp only[show b%64<64 by omega,decide_true,Bool.true_and]at e1;rw[<-e1];rcases Nat.mod_two_eq_zero_or_one (wd C (b/64)/2^(b%64))with h|h<;>rw[h]<;>rfl
 go_enter func87,ntmps87
 go_wp2
 go_ret;exact⟨by rw[<-hT];rfl,B0q.alloc L0q _⟩
theorem Fl(C b:Nat)(v:Bool)(w:World)(h:C.testBit b=v)(hx:b<256):
 Calls prog 87 #[cv C,.int .i64 b] w fun e w'=>e=.returned (.bool v)/\Below w.heap.size w w':=h▸z9H C b w hx
theorem Nz(C:Nat)(b:Nat)(w:World)(hx:b<256):
  Calls prog 109 #[cv C,.int .i64 b] w fun e w'=>e=.returned (cv (C|||2^b))/\Below w.heap.size w w':=by
 unfold cv;have hd:b/64=0∨b/64=1∨b/64=2∨b/64=3:=by omega
 have hp:=z0E C b;have pw:∀k,b/64=k->bits BinOp.or IntKind.u64 (wd C k:Nat) (IntKind.u64.wrap (2^(b%64)))=(wd (C|||2^b) k:Nat):=by
  intro k hk;subst hk;have h:=z5k C b hx;have hpp:2^(b%64)<2^64:=Nat.pow_lt_pow_right (by decide) (by omega);have hw:IntKind.u64.wrap (2^(b%64))=2^(b%64):=by
   rw[IntKind.wrap_u64];have:((2:Int)^(b%64))=((2^(b%64):Nat):Int):=(Int.natCast_pow 2 (b%64)).symm;rw[this];exact Int.emod_eq_of_lt (Int.natCast_nonneg _) (Int.ofNat_lt.2 hpp)
  rw[hw];exact h
 have ne:∀k,k<4->b/64≠k->wd (C|||2^b) k=wd C k:=fun k hk h=>by rw[Ml C b k hx hk,if_neg h]
 clear hp;rcases hd with hd|hd|hd|hd
 ·have hdI:(b:Int)/64=0:=by omega
  have u:=pw 0 hd;have e1:=ne 1 (by omega) (by omega);have e2:=ne 2 (by omega) (by omega);have e3:=ne 3 (by omega) (by omega);clear pw ne;go_enter func109,ntmps109
  go_wp2
  go_region
  go_wp2
  refine bodyPost_ret (v:=.agg #[.int .u64 (wd (C|||2^b) 0:Nat),.int .u64 (wd (C|||2^b) 1:Nat),.int .u64 (wd (C|||2^b) 2:Nat),.int .u64 (wd (C|||2^b) 3:Nat)]) (by simp[results,Tryz.results109,go_sem,e1,e2,e3]) rfl ⟨rfl,?_⟩;exact((B0q.alloc L0q _).alloc (by simp) _).drew
 ·have hdI:(b:Int)/64=1:=by omega
  have u:=pw 1 hd;have e0:=ne 0 (by omega) (by omega);have e2:=ne 2 (by omega) (by omega);have e3:=ne 3 (by omega) (by omega);clear pw ne;go_enter func109,ntmps109
  go_wp2
  go_region
  go_wp2
  refine bodyPost_ret (v:=.agg #[.int .u64 (wd (C|||2^b) 0:Nat),.int .u64 (wd (C|||2^b) 1:Nat),.int .u64 (wd (C|||2^b) 2:Nat),.int .u64 (wd (C|||2^b) 3:Nat)]) (by simp[results,Tryz.results109,go_sem,e0,e2,e3]) rfl ⟨rfl,?_⟩;exact((B0q.alloc L0q _).alloc (by simp) _).drew
 ·have hdI:(b:Int)/64=2:=by omega
  have u:=pw 2 hd;have e0:=ne 0 (by omega) (by omega);have e1:=ne 1 (by omega) (by omega);have e3:=ne 3 (by omega) (by omega);clear pw ne;go_enter func109,ntmps109
  go_wp2
  go_region
  go_wp2
  refine bodyPost_ret (v:=.agg #[.int .u64 (wd (C|||2^b) 0:Nat),.int .u64 (wd (C|||2^b) 1:Nat),.int .u64 (wd (C|||2^b) 2:Nat),.int .u64 (wd (C|||2^b) 3:Nat)]) (by simp[results,Tryz.results109,go_sem,e0,e1,e3]) rfl ⟨rfl,?_⟩;exact((B0q.alloc L0q _).alloc (by simp) _).drew
 ·have hdI:(b:Int)/64=3:=by omega
  have u:=pw 3 hd;have e0:=ne 0 (by omega) (by omega);have e1:=ne 1 (by omega) (by omega);have e2:=ne 2 (by omega) (by omega);clear pw ne;go_enter func109,ntmps109
  go_wp2
  go_region
  go_wp2
  refine bodyPost_ret (v:=.agg #[.int .u64 (wd (C|||2^b) 0:Nat),.int .u64 (wd (C|||2^b) 1:Nat),.int .u64 (wd (C|||2^b) 2:Nat),.int .u64 (wd (C|||2^b) 3:Nat)]) (by simp[results,Tryz.results109,go_sem,e0,e1,e2]) rfl ⟨rfl,?_⟩;exact((B0q.alloc L0q _).alloc (by simp) _).drew
theorem z3M(q:Nat)(hq:q<16)(w:World):
  Calls prog 89 #[.int .i64 q] w fun e w'=>e=.returned (.string (nb [Qd q]))/\w'=w:=by
 have:q=0∨q=1∨q=2∨q=3∨q=4∨q=5∨q=6∨q=7∨q=8∨q=9∨q=10∨q=11∨q=12∨q=13∨q=14∨q=15:=by omega
 clear hq;rcases this with rfl|rfl|rfl|rfl|rfl|rfl|rfl|rfl|rfl|rfl|rfl|rfl|rfl|rfl|rfl|rfl
 all_goals
  go_enter func89,ntmps89
  go_wp2_with fail
  go_ret;exact⟨rfl,rfl⟩
theorem Nq(a b:List Nat):nb a++nb b=nb (a++b):=by
 apply ByteArray.ext;simp[nb,ByteArray.data_append]
theorem z3N(b:Nat)(hb:b<256)(w:World):
  Calls prog 61 #[.int .i64 b] w fun e w'=>e=.returned (.string (nb (sgn b)))/\Below w.heap.size w w':=by
 have HM:Hid (∀w:World,Calls prog 88 #[.int .i64 b] w fun e w'=>e=.returned (.bool (Qp b))/\w'=w):=fun w=>Xd b _ rfl w hb
 have hwb:IntKind.u8.wrap (b:Int)=(b:Int):=by rw[IntKind.wrap_u8];omega
 have cvn:=fun w=>z1j w b hb
 by_cases h10:b=10
 ·have HS:Hid (sgn b=[92,110]):=by rw[h10];rfl
  have t10:((b:Int) == 10)=true:=by simp;omega
  generalize Qp b=v at HM;clear h10;go_enter func61,ntmps61
  go_wp2_with fail
  refine(HM.out _).mono ?_;rintro e w1 ⟨rfl,rfl⟩
  go_wp2_with fail
  go_ret;rw[HS.out];exact⟨rfl,Below.refl _ _⟩
 have t10:((b:Int) == 10)=false:=by simp;omega
 by_cases h13:b=13
 ·have HS:Hid (sgn b=[92,114]):=by rw[h13];rfl
  have t13:((b:Int) == 13)=true:=by simp;omega
  generalize Qp b=v at HM;clear h10 h13;go_enter func61,ntmps61
  go_wp2_with fail
  refine(HM.out _).mono ?_;rintro e w1 ⟨rfl,rfl⟩
  go_wp2_with fail
  go_ret;rw[HS.out];exact⟨rfl,Below.refl _ _⟩
 have t13:((b:Int) == 13)=false:=by simp;omega
 by_cases h9:b=9
 ·have HS:Hid (sgn b=[92,116]):=by rw[h9];rfl
  have t9:((b:Int) == 9)=true:=by simp;omega
  generalize Qp b=v at HM;clear h10 h13 h9;go_enter func61,ntmps61
  go_wp2_with fail
  refine(HM.out _).mono ?_;rintro e w1 ⟨rfl,rfl⟩
  go_wp2_with fail
  go_ret;rw[HS.out];exact⟨rfl,Below.refl _ _⟩
 have t9:((b:Int) == 9)=false:=by simp;omega
 have H3:Hid (b≠10/\b≠13/\b≠9):=⟨h10,h13,h9⟩;clear h10 h13 h9;cases hm:Qp b
 ·rw[hm]at HM
  by_cases hp:32<=b/\b<=126
  ·have HS:Hid (sgn b=[b]):=by
    show sgn b=[b];rw[sgn,if_neg H3.out.1,if_neg H3.out.2.1,if_neg H3.out.2.2,hm,if_neg (by simp),if_pos hp]
   have d1:decide (32<=(b:Int))=true:=by simp;omega
   have d2:decide ((b:Int)<=126)=true:=by simp;omega
   clear hp hm;go_enter func61,ntmps61
   go_wp2_with fail
   refine(HM.out _).mono ?_;rintro e w1 ⟨rfl,rfl⟩
   go_wp2_with fail
   go_ret;rw[HS.out];exact⟨rfl,B0q.alloc L0q _⟩
  ·have HS:Hid (sgn b=[92,120]++[Qd (b/16)]++[Qd (b%16)]):=by
    show sgn b=[92,120,Qd (b/16),Qd (b%16)];rw[sgn,if_neg H3.out.1,if_neg H3.out.2.1,if_neg H3.out.2.2,hm,if_neg (by simp),if_neg hp]
   obtain⟨q,hq⟩:∃q,q=b/16:=⟨_,rfl⟩;obtain⟨r,hr⟩:∃r,r=b%16:=⟨_,rfl⟩;have HX1:Hid (∀w:World,Calls prog 89 #[.int .i64 q] w fun e w'=>e=.returned (.string (nb [Qd q]))/\w'=w):=fun w=>z3M q (by omega) w
   have HX2:Hid (∀w:World,Calls prog 89 #[.int .i64 r] w fun e w'=>e=.returned (.string (nb [Qd r]))/\w'=w):=fun w=>z3M r (by omega) w
   have e1:(b:Int)/16=(q:Int):=by omega
   have e2:(b:Int)%16=(r:Int):=by omega
   rw[<-hq,<-hr]at HS;have s1:(nb [Qd q]).size=1:=by rw[Yk];rfl
   have s2:(nb [Qd r]).size=1:=by rw[Yk];rfl
   have HN:Hid (({data:=#[92,120]}:ByteArray)++nb [Qd q]++nb [Qd r]=nb ([92,120]++[Qd q]++[Qd r])):=by
    show _=_;rw[<-Nq,<-Nq];rfl
   generalize nb [Qd q]=A at*;generalize nb [Qd r]=B at*;have d:decide (32<=(b:Int))=false∨(decide (32<=(b:Int))=true/\decide ((b:Int)<=126)=false):=by
    by_cases h:32<=b
    ·right;constructor<;>simp<;>omega
    ·left;simp;omega
   clear hp hm hq hr;rcases d with d1|⟨d1,d2⟩
   all_goals
    go_enter func61,ntmps61
    go_wp2_with fail
    refine(HM.out _).mono ?_;rintro e w1 ⟨rfl,rfl⟩
    go_wp2_with fail
    refine(HX1.out _).mono ?_;rintro e w1 ⟨rfl,rfl⟩
    go_wp2_with fail
    refine(HX2.out _).mono ?_;rintro e w1 ⟨rfl,rfl⟩
    go_wp2_with fail
    go_ret;rw[HS.out,<-HN.out];exact⟨rfl,Below.refl _ _⟩
 ·rw[hm]at HM
  have HS:Hid (sgn b=[92]++[b]):=by
   show sgn b=[92,b];rw[sgn,if_neg H3.out.1,if_neg H3.out.2.1,if_neg H3.out.2.2,hm,if_pos rfl]
  have HN:Hid (({data:=#[92]}:ByteArray)++nb [b]=nb ([92]++[b])):=by show _=_;rw[<-Nq];rfl
  have s1:(nb [b]).size=1:=by rw[Yk];rfl
  generalize nb [b]=A at*;clear hm;go_enter func61,ntmps61
  go_wp2_with fail
  refine(HM.out _).mono ?_;rintro e w1 ⟨rfl,rfl⟩
  go_wp2_with fail
  go_ret;rw[HS.out,<-HN.out];exact⟨rfl,B0q.alloc L0q _⟩
theorem z9I(h:w.ownsRow base e size (.slice (some ⟨g,0,none⟩) n cap) n xs)(j:Nat)(hj:j<n*size)(u:Value):(w.setCell ⟨g,j,none⟩ u).ownsRow base e size (.slice (some ⟨g,0,none⟩) n cap) n (xs.set j u):=by
 obtain⟨h1,h|⟨g',cap',cur,e1,h2,h3,h4,h5,h6,h7⟩⟩:=h
 ·exact absurd h.1 (by simp)
 ·simp only[Value.slice.injEq,Option.some.injEq,Addr.mk.injEq]at e1
  obtain⟨⟨rfl,_⟩,_,rfl⟩:=e1;refine⟨by simp[h1],.inr ⟨g,cap,cur.setIfInBounds j u,rfl,h2,?_,h4,h5,by simp[h6],?_⟩⟩
  ·simp only[World.setCell,Array.getElem?_modify,if_true,h3]
   simp
  ·rw[Array.toList_setIfInBounds,List.take_set,h7]
theorem z9J(h:w.ownsRow base e size (.slice (some ⟨g,0,none⟩) n cap) n xs)(j:Nat):w.frozen? ⟨g,j,none⟩=false:=by
 obtain⟨h1,h|⟨g',cap',cur,e1,h2,h3,h4,h5,h6,h7⟩⟩:=h
 ·exact absurd h.1 (by simp)
 ·simp only[Value.slice.injEq,Option.some.injEq,Addr.mk.injEq]at e1
  obtain⟨⟨rfl,_⟩,_,rfl⟩:=e1;simp[World.frozen?,h3]
theorem z9K(h:w.ownsRow base e size (.slice (some ⟨g,0,none⟩) n cap) n xs):base<=g/\g<w.heap.size/\cap<=maxLen/\n<=cap:=by
 obtain⟨h1,h|⟨g',cap',cur,e1,h2,h3,h4,h5,h6,h7⟩⟩:=h
 ·exact absurd h.1 (by simp)
 ·simp only[Value.slice.injEq,Option.some.injEq,Addr.mk.injEq]at e1
  obtain⟨⟨rfl,_⟩,_,rfl⟩:=e1;refine⟨h2,?_,h5,h4⟩;rcases Nat.lt_or_ge g w.heap.size with h9|h9
  ·exact h9
  ·rw[Array.getElem?_eq_none h9]at h3;cases h3
theorem z3O{b b':Nat}(h:w.ownsRow b e size v n xs)(hle:b'<=b):w.ownsRow b' e size v n xs:=by
 obtain⟨h1,h|⟨g,cap,cur,e1,h2,rest⟩⟩:=h
 ·exact⟨h1,.inl h⟩
 ·exact⟨h1,.inr ⟨g,cap,cur,e1,by omega,rest⟩⟩
theorem z9L(a:List (Nat×Nat))(p:Nat×Nat)(x:Nat):(pv (a++[p])).set (a.length*2+1) (.int .i64 x)=pv (a++[(p.1,x)]):=by
 rw[Am,Am];have:=Sl a;rw[List.set_append_right _ _ (by omega),this,show a.length*2+1-a.length*2=1 by omega];rfl
def RrK(w:World)(v:Value)(L:List (Nat×Nat))(C:Nat)(w':World):Prop:=
 Hid (Below w.heap.size w w')/\Hid (w'.ownsRow (w.heap.size+1) 114 2 v L.length (pv L))/\Hid (Blk w' w.heap.size C)
theorem RrK.keep{L:List (Nat×Nat)}{C:Nat}(h:RrK w v L C W)(hb:Below W.heap.size W w'):RrK w v L C w':=
 ⟨hid (h.1.out.trans (hb.mono h.1.out.size)),hid (Vz h.2.1.out hb),hid (h.2.2.out.below hb h.2.2.out.lt)⟩
theorem z9M(C:Nat)(w:World):
  Calls prog 60 #[cv C] w fun e w'=>∃v,e=.returned v/\Hid (w'.ownsRow w.heap.size 114 2 v (rs C 256).length (pv (rs C 256).reverse))/\Hid (Below w.heap.size w w'):=by
 obtain⟨iP,hiP,hzP0,hzP1,hzP2⟩:=info_parts Tryz.infoPair;unfold cv;go_enter func60,ntmps60
 go_wp2_with fail
 go_loopw [3,4] (fun v b wr=>∃k:Nat,b=.int .i64 k/\k<=256/\Hid (RrK w v (rs C k).reverse C wr)) (fun _ b _=>256-(intOf b).toNat)
 case atStart=>exact⟨0,rfl,by omega,hid ⟨hid (B0q.alloc L0q _),hid (World.ownsRow_nil _ _ _ _),hid (Blk.new w C)⟩⟩
 case round=>
  obtain⟨k,rfl,hk,HI⟩:=hrel;by_cases hk6:k<256
  ·have hkI:decide ((k:Int)<256)=true:=by simp;omega
   obtain⟨c0,c1,c2,c3⟩:=HI.out.2.2.out.cells;have hl:=HI.out.2.2.out.lt;cases hbit:C.testBit k with
   |false=>
    have HH:Hid (∀w:World,Calls prog 87 #[cv C,.int .i64 k] w fun e w'=>e=.returned (.bool false)/\Below w.heap.size w w'):=fun w=>Fl C k false w hbit hk6
    have HN:Hid ((rs C (k+1)).reverse=(rs C k).reverse):=by show _=_;rw[rs,hbit];simp
    clear hbit
    go_wp2_with fail
    refine(HH.out _).mono ?_;rintro e w1 ⟨rfl,hb1⟩;have HI1:=hid (HI.out.keep hb1);clear hb1 HI c0 c1 c2 c3 hl
    go_wp2_with fail
    go_roundw
    case rel=>exact⟨k+1,by go_num,by omega,by rw[HN.out];exact HI1⟩
    case measure=>simp[intOf];omega
   |true=>
    have HH:Hid (∀w:World,Calls prog 87 #[cv C,.int .i64 k] w fun e w'=>e=.returned (.bool true)/\Below w.heap.size w w'):=fun w=>Fl C k true w hbit hk6
    have hrl:=Fc C k;have hlen:=Mx C k;cases hr:rs C k with
    |nil=>
     have HN:Hid ((rs C (k+1)).reverse=[]++[(k,k)]):=by show _=_;rw[rs,hbit,hr];simp
     rw[hr]at HI;clear hbit hr hrl hlen;have hv0:u3=.slice none 0 0∨∃g cap,u3=.slice (some ⟨g,0,none⟩) 0 cap:=by
      rcases HI.out.2.1.out.2 with⟨h,_⟩|⟨g,cap,cur,h,_⟩
      ·exact .inl h
      ·exact .inr ⟨g,cap,h⟩
     go_wp2_with fail
     refine(HH.out _).mono ?_;rintro e w1 ⟨rfl,hb1⟩;have HI1:=hid (HI.out.keep hb1);clear hb1 HI c0 c1 c2 c3 hl;have hsz:w.heap.size<=w1.heap.size:=HI1.out.1.out.size;rcases hv0 with rfl|⟨g,cap,rfl⟩
     all_goals
      go_wp2_with(first
       |(at_builtin;refine wpList_append_own _ rfl (.tmp 37) (.tmp 41) 112 rfl (w.heap.size+1) 114 iP (.agg #[.int .i64 0,.int .i64 0]) 2 16 Tryz.underlying112 hiP hzP0 hzP1 hzP2 rfl (by decide) _ _ _ rfl (HI1.out.2.1.out.alloc _) ⟨w1.heap.size,0,none⟩ 1 1 [.int .i64 k,.int .i64 k] rfl rfl (Gy _ _ _ _) (Tj _ _) (by unfold maxLen;simp) (by simp) (by have:=HI1.out.2.2.out.lt;simp;omega) ?_;intro v2 w2 hown2 hgr2 hnil2))
      have HI2:Hid (RrK w v2 ([]++[(k,k)]) C w2):=⟨hid ((HI1.out.1.out.alloc hsz _).grown hgr2 (by simp;omega) (fun x e=>by have:=(HI1.out.2.1.out.lt x e).1;omega)),hid hown2,hid ((hgr2.block _ (by have:=HI1.out.2.2.out.lt;simp;omega) (HI1.out.2.2.out.ne_own HI1.out.2.1.out)).trans (HI1.out.2.2.out.alloc _))⟩;clear hown2 hgr2 hnil2 HI1
      go_roundw
      case rel=>exact⟨k+1,by go_num,by omega,by rw[HN.out];exact HI2⟩
      case measure=>simp[intOf];omega
    |cons p t=>
     rw[hr]at HI hrl hlen;obtain⟨hp1,hp2⟩:=hrl p (List.mem_cons_self ..);rw[List.reverse_cons]at HI;obtain⟨T,hTe⟩:∃T,T=t.reverse:=⟨_,rfl⟩;obtain⟨m,hm⟩:∃m,m=T.length:=⟨_,rfl⟩;obtain⟨lo,hlo⟩:∃lo,lo=p.1:=⟨_,rfl⟩;obtain⟨hi,hhi⟩:∃hi,hi=p.2:=⟨_,rfl⟩;have hpe:p=(lo,hi):=by rw[hlo,hhi]
     have hm6:m<=256:=by rw[hm,hTe];simp at hlen ⊢;omega
     rw[<-hTe,hpe]at HI;rw[<-hhi]at hp2;have HNa:Hid (hi+1=k->(rs C (k+1)).reverse=T++[(lo,k)]):=fun e=>by rw[rs,hbit,hr,hpe];simp[e,hTe]
     have HNb:Hid (hi+1≠k->(rs C (k+1)).reverse=(T++[(lo,hi)])++[(k,k)]):=fun e=>by rw[rs,hbit,hr,hpe];simp[e,hTe]
     have hLl:(T++[(lo,hi)]).length=m+1:=by rw[hm];simp
     have hown:=HI.out.2.1.out;rw[hLl]at hown;obtain⟨g,cap,rfl⟩:=Xl hown (by omega);have HMm:Hid (m=T.length):=hm;clear hbit hr hrl hlen hTe hm hlo hhi hpe hp1 hown
     go_wp2_with fail
     refine(HH.out _).mono ?_;rintro e w1 ⟨rfl,hb1⟩;have HI1:=hid (HI.out.keep hb1);clear hb1 HI c0 c1 c2 c3 hl;have hsz:w.heap.size<=w1.heap.size:=HI1.out.1.out.size;have HOw:Hid (w1.ownsRow (w.heap.size+1) 114 2 (.slice (some ⟨g,0,none⟩) (m+1) cap) (m+1) (pv (T++[(lo,hi)]))):=by
      have:=HI1.out.2.1.out;rw[hLl]at this;exact this
     have e1:=HOw.out.cellAt (m*2+1) (by omega);have hat:=(Tw T (lo,hi) []).2;rw[<-HMm.out]at hat;rw[hat]at e1;have ef:=z9J HOw.out (m*2+1);obtain⟨ol1,ol2,ol3,ol4⟩:=z9K HOw.out;unfold maxLen at ol3;have hcap:(m:Int)+1<=(cap:Int):=by omega
     clear hat hLl;by_cases hj:hi+1=k
     ·have dj:((hi:Int) == (k:Int)-1)=true:=by rw[beq_iff_eq];omega
      have HN:=hid (HNa.out hj);have HI2:Hid (RrK w (.slice (some ⟨g,0,none⟩) (m+1) cap) (T++[(lo,k)]) C (w1.setCell ⟨g,m*2+1,none⟩ (.int .i64 k))):=by
       refine⟨hid (HI1.out.1.out.setCell (p:=⟨g,m*2+1,none⟩) (by simp only;omega) _),hid ?_,hid ?_⟩
       ·have h:=z9I HOw.out (m*2+1) (by omega) (.int .i64 k)
        rw[HMm.out,z9L T (lo,hi) k,<-HMm.out]at h;rw[show(T++[(lo,k)]).length=m+1 by rw[HMm.out];simp];exact h
       ·show Blk _ _ _
        unfold Blk;rw[Below.heap_setCell _ _ _ _ (show w.heap.size≠(⟨g,m*2+1,none⟩:Addr).block by simp only;omega)];exact HI1.out.2.2.out
      clear hj HNa HNb
      go_wp2_with fail
      go_roundw
      case rel=>exact⟨k+1,by go_num,by omega,by rw[HN.out];exact HI2⟩
      case measure=>simp[intOf];omega
     ·have dj:((hi:Int) == (k:Int)-1)=false:=by rw[beq_eq_false_iff_ne];omega
      have HN:=hid (HNb.out hj);clear hj HNa HNb
      go_wp2_with(first
       |(at_builtin;refine wpList_append_own _ rfl (.tmp 37) (.tmp 41) 112 rfl (w.heap.size+1) 114 iP (.agg #[.int .i64 0,.int .i64 0]) 2 16 Tryz.underlying112 hiP hzP0 hzP1 hzP2 rfl (by decide) _ _ _ rfl (HOw.out.alloc _) ⟨w1.heap.size,0,none⟩ 1 1 [.int .i64 k,.int .i64 k] rfl rfl (Gy _ _ _ _) (Tj _ _) (by unfold maxLen;omega) (by omega) (by have:=HI1.out.2.2.out.lt;simp;omega) ?_;intro v2 w2 hown2 hgr2 hnil2))
      have HI2:Hid (RrK w v2 ((T++[(lo,hi)])++[(k,k)]) C w2):=⟨hid ((HI1.out.1.out.alloc hsz _).grown hgr2 (by simp;omega) (fun x e=>by have:=(HI1.out.2.1.out.lt x e).1;omega)),hid (by rw[Am,show((T++[(lo,hi)])++[(k,k)]).length=m+1+1 by rw[HMm.out];simp];exact hown2),hid ((hgr2.block _ (by have:=HI1.out.2.2.out.lt;simp;omega) (HI1.out.2.2.out.ne_own HI1.out.2.1.out)).trans (HI1.out.2.2.out.alloc _))⟩;clear hown2 hgr2 hnil2 HI1
      go_roundw
      case rel=>exact⟨k+1,by go_num,by omega,by rw[HN.out];exact HI2⟩
      case measure=>simp[intOf];omega
  ·have hkI:decide ((k:Int)<256)=false:=by simp;omega
   obtain rfl:k=256:=by omega
   go_wp2_with fail
   go_ret;refine⟨_,rfl,?_,HI.out.1⟩;have h:=HI.out.2.1.out;rw[List.length_reverse]at h;exact z3O h (by omega)
def RtK(w:World)(v:Value)(L:List (Nat×Nat))(w':World):Prop:=Hid (Below w.heap.size w w')/\Hid (w'.ownsRow w.heap.size 114 2 v L.length (pv L))
theorem RtK.keep{L:List (Nat×Nat)}(h:RtK w v L W)(hb:Below W.heap.size W w'):RtK w v L w':=⟨hid (h.1.out.trans (hb.mono h.1.out.size)),hid (Vz h.2.out hb)⟩
theorem RtK.keepD{L:List (Nat×Nat)}{q:Nat}(h:RtK w v L W)(hb:Below (W.drewN q).heap.size (W.drewN q) w'):RtK w v L w':=(h.keep (below_drewN B0q q)).keep hb
theorem RtK.drewN{w W:World}{v:Value}{L:List (Nat×Nat)}(h:RtK w v L W)(q:Nat):RtK w v L (W.drewN q):=h.keep (below_drewN B0q q)
theorem z9N(C:Nat)(w:World):
  Calls prog 38 #[cv C] w fun e w'=>e=.returned (.string (nb (txt C)))/\Below w.heap.size w w':=by
 unfold cv;go_enter func38,ntmps38
 go_wp2_with fail
 refine(z9M C _).mono ?_;rintro e w2 ⟨rv,rfl,HO2,hb2⟩;obtain⟨L,hL⟩:∃L,L=(rs C 256).reverse:=⟨_,rfl⟩;have hLl:L.length=(rs C 256).length:=by rw[hL];simp
 have hL6:L.length<=256:=by rw[hLl];exact Mx C 256
 have HQ2:Hid (∀p∈L,p.1<=p.2/\p.2<256):=by rw[hL];exact fun p hp=>Fc C 256 p (List.mem_reverse.1 hp)
 have HF:Hid (txt C=([91]++Zq L)++[93]):=by rw[hL];rfl
 have HX0:Hid (RtK w rv L w2):=⟨hid ((B0q.alloc L0q _).trans (hb2.out.mono (by simp))),hid (z3O (by rw[hLl,hL];exact HO2.out) (by simp))⟩;clear HO2 hb2 hL hLl;rcases HX0.out.2.out.2 with⟨rfl,hn0⟩|⟨g0,cap,cur,rfl,hg0,hh0,hn1,hn2,hn3,hn4⟩
 ·have hL0:L=[]:=List.eq_nil_of_length_eq_zero hn0
  have HFin:Hid (txt C=[91,93]):=by have:=HF.out;rw[hL0]at this;exact this
  clear hL0 hn0
  go_wp2_with fail
  refine wp_loop_rounds 1 ?_;rw[rounds_succ]
  go_wp2_with fail
  go_ret;rw[HFin.out];exact⟨rfl,HX0.out.1.out⟩
 ·clear hg0 hh0 hn3 hn4 cur
  unfold maxLen at hn2
  go_wp2_with fail
  go_loopw [3,5] (fun s i wr=>∃(A B:List (Nat×Nat)) (S:ByteArray),s=.string S/\i=.int .i64 ((A.length:Nat):Int)/\Hid (L=A++B)/\Hid (S=nb ([91]++Zq A))/\A.length<=L.length/\Hid (RtK w (.slice (some ⟨g0,0,none⟩) L.length cap) L wr)) (fun _ i _=>L.length-(intOf i).toNat)
  case atStart=>exact⟨[],L,_,rfl,rfl,hid rfl,hid rfl,by simp,HX0⟩
  case round=>
   obtain⟨A,B,S,rfl,rfl,HAB,HS,hAl,HX⟩:=hrel;have hS3:S.size<=2305:=by rw[HS.out,Yk];have:=Lw A;simp;omega
   cases B with
   |nil=>
    have hk:((A.length:Nat):Int)=(L.length:Int):=by have:=congrArg List.length HAB.out;simp at this;omega
    have HFin:Hid (nb (txt C)=S++{data:=#[93]}):=by
     have h1:=HF.out;rw[HAB.out,List.append_nil]at h1;show _=_;rw[h1,<-Nq,HS.out];rfl
    go_wp2_with fail
    go_ret;rw[HFin.out];exact⟨rfl,HX.out.1.out⟩
   |cons p B'=>
    have HAB2:Hid (L=(A++[p])++B'):=by show L=_;rw[HAB.out];simp
    obtain⟨p1,p2⟩:=HQ2.out p (by rw[HAB.out];simp);have hat:=Tw A p B';rw[<-HAB.out]at hat;have hkl:A.length<L.length:=by rw[HAB.out];simp
    have hkI:((A.length:Nat):Int)<(L.length:Int):=by omega
    obtain⟨lo,hlo⟩:∃lo,lo=p.1:=⟨_,rfl⟩;obtain⟨hi,hhi⟩:∃hi,hi=p.2:=⟨_,rfl⟩;rw[<-hlo,<-hhi]at hat;rw[<-hlo,<-hhi]at p1;rw[<-hhi]at p2;have HE:Hid (∀v:World,RtK w (.slice (some ⟨g0,0,none⟩) L.length cap) L v->v.cell? ⟨g0,A.length*2,none⟩=some (.int .i64 lo)/\v.cell? ⟨g0,A.length*2+1,none⟩=some (.int .i64 hi)):=fun v hv=>by
     have e0:=hv.2.out.cellAt (A.length*2) (by omega);have e1:=hv.2.out.cellAt (A.length*2+1) (by omega);rw[hat.1]at e0;rw[hat.2]at e1;exact⟨e0,e1⟩
    have HS1:Hid (∀w:World,Calls prog 61 #[.int .i64 lo] w fun e w'=>e=.returned (.string (nb (sgn lo)))/\Below w.heap.size w w'):=fun w=>z3N lo (by omega) w
    have HS2:Hid (∀w:World,Calls prog 61 #[.int .i64 hi] w fun e w'=>e=.returned (.string (nb (sgn hi)))/\Below w.heap.size w w'):=fun w=>z3N hi p2 w
    have HN:Hid (nb ([91]++Zq (A++[p]))=S++nb (Yb p)):=by show _=_;rw[Eq,HS.out,Nq,List.append_assoc]
    have HM:Hid (nb (Yb p)=if lo+1<hi then(nb (sgn lo)++{data:=#[45]})++nb (sgn hi)else if lo<hi then nb (sgn lo)++nb (sgn hi)else nb (sgn lo)):=by
     show _=_;rw[Yb,<-hlo,<-hhi];by_cases h1:lo+1<hi
     ·rw[if_pos (by omega),if_pos (by omega),if_pos h1,show({data:=#[45]}:ByteArray)=nb [45]from rfl,Nq,Nq,List.append_assoc]
     ·by_cases h2:lo<hi
      ·rw[if_neg (by omega),if_pos (by omega),if_neg h1,if_pos h2,Nq];simp
      ·rw[if_neg (by omega),if_neg (by omega),if_neg h1,if_neg h2];simp
    have hz1:(nb (sgn lo)).size<=4:=by rw[Yk];exact(Mj lo).2
    have hz2:(nb (sgn hi)).size<=4:=by rw[Yk];exact(Mj hi).2
    obtain⟨X,hX⟩:∃X,X=nb (sgn lo):=⟨_,rfl⟩;obtain⟨Y,hY⟩:∃Y,Y=nb (sgn hi):=⟨_,rfl⟩;rw[<-hX]at HS1 HM hz1;rw[<-hY]at HS2 HM hz2;have e0:=(HE.out _ HX.out).1;have hA1:((A.length+1:Nat):Int)=(A.length:Int)+1:=by omega
    have HA1:Hid (((A++[p]).length:Nat)=A.length+1):=by show _=_;simp
    clear hat HAB hlo hhi hX hY HS hA1 HF
    go_wp2_with fail
    refine(HS1.out _).mono ?_;rintro e w3 ⟨rfl,hb3⟩;have HX3:=hid (HX.out.keep hb3);obtain⟨f0,f1⟩:=HE.out _ HX3.out;clear hb3 e0 HX;by_cases h1:lo+1<hi
    ·have d1:decide ((lo:Int)+1<(hi:Int))=true:=by simp;omega
     have d2:decide ((lo:Int)<(hi:Int))=true:=by simp;omega
     have d2':lo<hi:=by omega
     have HR:Hid (nb ([91]++Zq (A++[p]))=S++X++{data:=#[45]}++Y):=by show _=_;rw[HN.out,HM.out,if_pos h1];apply ByteArray.ext;simp[ByteArray.data_append]
     clear h1 HN HM
     go_wp2_with fail
     go_quiet (fail)
     go_wp2_with fail
     go_quiet (fail)
     go_wp2_with fail
     refine(HS2.out _).mono ?_;rintro e w4 ⟨rfl,hb4⟩;have HX4:=hid (HX3.out.keepD hb4);clear hb4 HX3 f0 f1
     go_wp2_with fail
     go_roundw
     case rel=>exact⟨A++[p],B',_,rfl,by rw[HA1.out];go_num,HAB2,hid HR.out.symm,by rw[HA1.out];omega,HX4⟩
     case measure=>simp[intOf];omega
    ·by_cases h2:lo<hi
     ·have d1:decide ((lo:Int)+1<(hi:Int))=false:=by simp;omega
      have d2:decide ((lo:Int)<(hi:Int))=true:=by simp;omega
      have HR:Hid (nb ([91]++Zq (A++[p]))=S++X++Y):=by show _=_;rw[HN.out,HM.out,if_neg h1,if_pos h2];apply ByteArray.ext;simp[ByteArray.data_append]
      clear h1 HN HM
      go_wp2_with fail
      go_quiet (fail)
      go_wp2_with fail
      go_quiet (fail)
      go_wp2_with fail
      refine(HS2.out _).mono ?_;rintro e w4 ⟨rfl,hb4⟩;have HX4:=hid (HX3.out.keepD hb4);clear hb4 HX3 f0 f1
      go_wp2_with fail
      go_roundw
      case rel=>exact⟨A++[p],B',_,rfl,by rw[HA1.out];go_num,HAB2,hid HR.out.symm,by rw[HA1.out];omega,HX4⟩
      case measure=>simp[intOf];omega
     ·have d1:decide ((lo:Int)+1<(hi:Int))=false:=by simp;omega
      have d2:decide ((lo:Int)<(hi:Int))=false:=by simp;omega
      have HR:Hid (nb ([91]++Zq (A++[p]))=S++X):=by show _=_;rw[HN.out,HM.out,if_neg h1,if_neg h2]
      clear h1 HN HM
      go_wp2_with fail
      go_quiet (fail)
      go_wp2_with fail
      go_quiet (fail)
      go_wp2_with fail
      clear f0 f1
      go_roundw
      case rel=>exact⟨A++[p],B',_,rfl,by rw[HA1.out];go_num,HAB2,hid HR.out.symm,by rw[HA1.out];omega,hid (by first|exact HX3.out.drewN _|exact(HX3.out.drewN _).drewN _)⟩
      case measure=>simp[intOf];omega
end Go.Proofs.YtikfnaffiehpaaaGreatDoor
