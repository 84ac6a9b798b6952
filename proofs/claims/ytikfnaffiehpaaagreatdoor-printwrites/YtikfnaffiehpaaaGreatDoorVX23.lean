/- Lemmas for the last text. Conditions: those that each names. -/
import Derived.Test.YtikfnaffiehpaaaGreatDoorVX22
set_option linter.unusedVariables false
set_option maxRecDepth 100000
set_option maxHeartbeats 8000000
namespace Go.Proofs.YtikfnaffiehpaaaGreatDoor
open Go.Proofs.Tryz
open Go.RowKit
variable {S:ByteArray} {k:Nat}
theorem y1p(x:Nat)(w:World)(b0:((47:Int) == (x:Int))=true):
  Calls prog 90 #[.int .u8 x] w fun e w'=>e=.returned (.bool true)/\w'=w:=by
 have g0:(({data:=#[47,38,33,63,42,43,40,41,46]}:ByteArray)[0]'(by decide)).toNat=47:=rfl;go_enter func90,ntmps90
 go_wp2_with fail
 refine wp_loop_rounds 1 ?_;rw[rounds_succ]
 go_wp2_with fail
 go_ret;exact⟨rfl,rfl⟩
theorem y1q(x:Nat)(w:World)(b0:((47:Int) == (x:Int))=false)(b1:((38:Int) == (x:Int))=true):
  Calls prog 90 #[.int .u8 x] w fun e w'=>e=.returned (.bool true)/\w'=w:=by
 have g0:(({data:=#[47,38,33,63,42,43,40,41,46]}:ByteArray)[0]'(by decide)).toNat=47:=rfl;have g1:(({data:=#[47,38,33,63,42,43,40,41,46]}:ByteArray)[1]'(by decide)).toNat=38:=rfl;go_enter func90,ntmps90
 go_wp2_with fail
 refine wp_loop_rounds 2 ?_;rw[rounds_succ]
 go_wp2_with fail
 rw[rounds_succ]
 go_wp2_with fail
 go_ret;exact⟨rfl,rfl⟩
theorem y1r(x:Nat)(w:World)(b0:((47:Int) == (x:Int))=false)(b1:((38:Int) == (x:Int))=false)(b2:((33:Int) == (x:Int))=true):
  Calls prog 90 #[.int .u8 x] w fun e w'=>e=.returned (.bool true)/\w'=w:=by
 have g0:(({data:=#[47,38,33,63,42,43,40,41,46]}:ByteArray)[0]'(by decide)).toNat=47:=rfl;have g1:(({data:=#[47,38,33,63,42,43,40,41,46]}:ByteArray)[1]'(by decide)).toNat=38:=rfl;have g2:(({data:=#[47,38,33,63,42,43,40,41,46]}:ByteArray)[2]'(by decide)).toNat=33:=rfl;go_enter func90,ntmps90
 go_wp2_with fail
 refine wp_loop_rounds 3 ?_;rw[rounds_succ]
 go_wp2_with fail
 rw[rounds_succ]
 go_wp2_with fail
 rw[rounds_succ]
 go_wp2_with fail
 go_ret;exact⟨rfl,rfl⟩
theorem y1s(x:Nat)(w:World)(b0:((47:Int) == (x:Int))=false)(b1:((38:Int) == (x:Int))=false)(b2:((33:Int) == (x:Int))=false)(b3:((63:Int) == (x:Int))=true):
  Calls prog 90 #[.int .u8 x] w fun e w'=>e=.returned (.bool true)/\w'=w:=by
 have g0:(({data:=#[47,38,33,63,42,43,40,41,46]}:ByteArray)[0]'(by decide)).toNat=47:=rfl;have g1:(({data:=#[47,38,33,63,42,43,40,41,46]}:ByteArray)[1]'(by decide)).toNat=38:=rfl;have g2:(({data:=#[47,38,33,63,42,43,40,41,46]}:ByteArray)[2]'(by decide)).toNat=33:=rfl;have g3:(({data:=#[47,38,33,63,42,43,40,41,46]}:ByteArray)[3]'(by decide)).toNat=63:=rfl;go_enter func90,ntmps90
 go_wp2_with fail
 refine wp_loop_rounds 4 ?_;rw[rounds_succ]
 go_wp2_with fail
 rw[rounds_succ]
 go_wp2_with fail
 rw[rounds_succ]
 go_wp2_with fail
 rw[rounds_succ]
 go_wp2_with fail
 go_ret;exact⟨rfl,rfl⟩
theorem y1t(x:Nat)(w:World)(b0:((47:Int) == (x:Int))=false)(b1:((38:Int) == (x:Int))=false)(b2:((33:Int) == (x:Int))=false)(b3:((63:Int) == (x:Int))=false)(b4:((42:Int) == (x:Int))=true):
  Calls prog 90 #[.int .u8 x] w fun e w'=>e=.returned (.bool true)/\w'=w:=by
 have g0:(({data:=#[47,38,33,63,42,43,40,41,46]}:ByteArray)[0]'(by decide)).toNat=47:=rfl;have g1:(({data:=#[47,38,33,63,42,43,40,41,46]}:ByteArray)[1]'(by decide)).toNat=38:=rfl;have g2:(({data:=#[47,38,33,63,42,43,40,41,46]}:ByteArray)[2]'(by decide)).toNat=33:=rfl;have g3:(({data:=#[47,38,33,63,42,43,40,41,46]}:ByteArray)[3]'(by decide)).toNat=63:=rfl;have g4:(({data:=#[47,38,33,63,42,43,40,41,46]}:ByteArray)[4]'(by decide)).toNat=42:=rfl;go_enter func90,ntmps90
 go_wp2_with fail
 refine wp_loop_rounds 5 ?_;rw[rounds_succ]
 go_wp2_with fail
 rw[rounds_succ]
 go_wp2_with fail
 rw[rounds_succ]
 go_wp2_with fail
 rw[rounds_succ]
 go_wp2_with fail
 rw[rounds_succ]
 go_wp2_with fail
 go_ret;exact⟨rfl,rfl⟩
theorem y1u(x:Nat)(w:World)(b0:((47:Int) == (x:Int))=false)(b1:((38:Int) == (x:Int))=false)(b2:((33:Int) == (x:Int))=false)(b3:((63:Int) == (x:Int))=false)(b4:((42:Int) == (x:Int))=false)(b5:((43:Int) == (x:Int))=true):
  Calls prog 90 #[.int .u8 x] w fun e w'=>e=.returned (.bool true)/\w'=w:=by
 have g0:(({data:=#[47,38,33,63,42,43,40,41,46]}:ByteArray)[0]'(by decide)).toNat=47:=rfl;have g1:(({data:=#[47,38,33,63,42,43,40,41,46]}:ByteArray)[1]'(by decide)).toNat=38:=rfl;have g2:(({data:=#[47,38,33,63,42,43,40,41,46]}:ByteArray)[2]'(by decide)).toNat=33:=rfl;have g3:(({data:=#[47,38,33,63,42,43,40,41,46]}:ByteArray)[3]'(by decide)).toNat=63:=rfl;have g4:(({data:=#[47,38,33,63,42,43,40,41,46]}:ByteArray)[4]'(by decide)).toNat=42:=rfl;have g5:(({data:=#[47,38,33,63,42,43,40,41,46]}:ByteArray)[5]'(by decide)).toNat=43:=rfl;go_enter func90,ntmps90
 go_wp2_with fail
 refine wp_loop_rounds 6 ?_;rw[rounds_succ]
 go_wp2_with fail
 rw[rounds_succ]
 go_wp2_with fail
 rw[rounds_succ]
 go_wp2_with fail
 rw[rounds_succ]
 go_wp2_with fail
 rw[rounds_succ]
 go_wp2_with fail
 rw[rounds_succ]
 go_wp2_with fail
 go_ret;exact⟨rfl,rfl⟩
theorem y1v(x:Nat)(w:World)(b0:((47:Int) == (x:Int))=false)(b1:((38:Int) == (x:Int))=false)(b2:((33:Int) == (x:Int))=false)(b3:((63:Int) == (x:Int))=false)(b4:((42:Int) == (x:Int))=false)(b5:((43:Int) == (x:Int))=false)(b6:((40:Int) == (x:Int))=true):
  Calls prog 90 #[.int .u8 x] w fun e w'=>e=.returned (.bool true)/\w'=w:=by
 have g0:(({data:=#[47,38,33,63,42,43,40,41,46]}:ByteArray)[0]'(by decide)).toNat=47:=rfl;have g1:(({data:=#[47,38,33,63,42,43,40,41,46]}:ByteArray)[1]'(by decide)).toNat=38:=rfl;have g2:(({data:=#[47,38,33,63,42,43,40,41,46]}:ByteArray)[2]'(by decide)).toNat=33:=rfl;have g3:(({data:=#[47,38,33,63,42,43,40,41,46]}:ByteArray)[3]'(by decide)).toNat=63:=rfl;have g4:(({data:=#[47,38,33,63,42,43,40,41,46]}:ByteArray)[4]'(by decide)).toNat=42:=rfl;have g5:(({data:=#[47,38,33,63,42,43,40,41,46]}:ByteArray)[5]'(by decide)).toNat=43:=rfl;have g6:(({data:=#[47,38,33,63,42,43,40,41,46]}:ByteArray)[6]'(by decide)).toNat=40:=rfl;go_enter func90,ntmps90
 go_wp2_with fail
 refine wp_loop_rounds 7 ?_;rw[rounds_succ]
 go_wp2_with fail
 rw[rounds_succ]
 go_wp2_with fail
 rw[rounds_succ]
 go_wp2_with fail
 rw[rounds_succ]
 go_wp2_with fail
 rw[rounds_succ]
 go_wp2_with fail
 rw[rounds_succ]
 go_wp2_with fail
 rw[rounds_succ]
 go_wp2_with fail
 go_ret;exact⟨rfl,rfl⟩
theorem y1w(x:Nat)(w:World)(b0:((47:Int) == (x:Int))=false)(b1:((38:Int) == (x:Int))=false)(b2:((33:Int) == (x:Int))=false)(b3:((63:Int) == (x:Int))=false)(b4:((42:Int) == (x:Int))=false)(b5:((43:Int) == (x:Int))=false)(b6:((40:Int) == (x:Int))=false)(b7:((41:Int) == (x:Int))=true):
  Calls prog 90 #[.int .u8 x] w fun e w'=>e=.returned (.bool true)/\w'=w:=by
 have g0:(({data:=#[47,38,33,63,42,43,40,41,46]}:ByteArray)[0]'(by decide)).toNat=47:=rfl;have g1:(({data:=#[47,38,33,63,42,43,40,41,46]}:ByteArray)[1]'(by decide)).toNat=38:=rfl;have g2:(({data:=#[47,38,33,63,42,43,40,41,46]}:ByteArray)[2]'(by decide)).toNat=33:=rfl;have g3:(({data:=#[47,38,33,63,42,43,40,41,46]}:ByteArray)[3]'(by decide)).toNat=63:=rfl;have g4:(({data:=#[47,38,33,63,42,43,40,41,46]}:ByteArray)[4]'(by decide)).toNat=42:=rfl;have g5:(({data:=#[47,38,33,63,42,43,40,41,46]}:ByteArray)[5]'(by decide)).toNat=43:=rfl;have g6:(({data:=#[47,38,33,63,42,43,40,41,46]}:ByteArray)[6]'(by decide)).toNat=40:=rfl;have g7:(({data:=#[47,38,33,63,42,43,40,41,46]}:ByteArray)[7]'(by decide)).toNat=41:=rfl;go_enter func90,ntmps90
 go_wp2_with fail
 refine wp_loop_rounds 8 ?_;rw[rounds_succ]
 go_wp2_with fail
 rw[rounds_succ]
 go_wp2_with fail
 rw[rounds_succ]
 go_wp2_with fail
 rw[rounds_succ]
 go_wp2_with fail
 rw[rounds_succ]
 go_wp2_with fail
 rw[rounds_succ]
 go_wp2_with fail
 rw[rounds_succ]
 go_wp2_with fail
 rw[rounds_succ]
 go_wp2_with fail
 go_ret;exact⟨rfl,rfl⟩
theorem y1x(x:Nat)(w:World)(b0:((47:Int) == (x:Int))=false)(b1:((38:Int) == (x:Int))=false)(b2:((33:Int) == (x:Int))=false)(b3:((63:Int) == (x:Int))=false)(b4:((42:Int) == (x:Int))=false)(b5:((43:Int) == (x:Int))=false)(b6:((40:Int) == (x:Int))=false)(b7:((41:Int) == (x:Int))=false)(b8:((46:Int) == (x:Int))=true):
  Calls prog 90 #[.int .u8 x] w fun e w'=>e=.returned (.bool true)/\w'=w:=by
 have g0:(({data:=#[47,38,33,63,42,43,40,41,46]}:ByteArray)[0]'(by decide)).toNat=47:=rfl;have g1:(({data:=#[47,38,33,63,42,43,40,41,46]}:ByteArray)[1]'(by decide)).toNat=38:=rfl;have g2:(({data:=#[47,38,33,63,42,43,40,41,46]}:ByteArray)[2]'(by decide)).toNat=33:=rfl;have g3:(({data:=#[47,38,33,63,42,43,40,41,46]}:ByteArray)[3]'(by decide)).toNat=63:=rfl;have g4:(({data:=#[47,38,33,63,42,43,40,41,46]}:ByteArray)[4]'(by decide)).toNat=42:=rfl;have g5:(({data:=#[47,38,33,63,42,43,40,41,46]}:ByteArray)[5]'(by decide)).toNat=43:=rfl;have g6:(({data:=#[47,38,33,63,42,43,40,41,46]}:ByteArray)[6]'(by decide)).toNat=40:=rfl;have g7:(({data:=#[47,38,33,63,42,43,40,41,46]}:ByteArray)[7]'(by decide)).toNat=41:=rfl;have g8:(({data:=#[47,38,33,63,42,43,40,41,46]}:ByteArray)[8]'(by decide)).toNat=46:=rfl;go_enter func90,ntmps90
 go_wp2_with fail
 refine wp_loop_rounds 9 ?_;rw[rounds_succ]
 go_wp2_with fail
 rw[rounds_succ]
 go_wp2_with fail
 rw[rounds_succ]
 go_wp2_with fail
 rw[rounds_succ]
 go_wp2_with fail
 rw[rounds_succ]
 go_wp2_with fail
 rw[rounds_succ]
 go_wp2_with fail
 rw[rounds_succ]
 go_wp2_with fail
 rw[rounds_succ]
 go_wp2_with fail
 rw[rounds_succ]
 go_wp2_with fail
 go_ret;exact⟨rfl,rfl⟩
theorem y1y(x:Nat)(w:World)(b0:((47:Int) == (x:Int))=false)(b1:((38:Int) == (x:Int))=false)(b2:((33:Int) == (x:Int))=false)(b3:((63:Int) == (x:Int))=false)(b4:((42:Int) == (x:Int))=false)(b5:((43:Int) == (x:Int))=false)(b6:((40:Int) == (x:Int))=false)(b7:((41:Int) == (x:Int))=false)(b8:((46:Int) == (x:Int))=false):
  Calls prog 90 #[.int .u8 x] w fun e w'=>e=.returned (.bool false)/\w'=w:=by
 have g0:(({data:=#[47,38,33,63,42,43,40,41,46]}:ByteArray)[0]'(by decide)).toNat=47:=rfl;have g1:(({data:=#[47,38,33,63,42,43,40,41,46]}:ByteArray)[1]'(by decide)).toNat=38:=rfl;have g2:(({data:=#[47,38,33,63,42,43,40,41,46]}:ByteArray)[2]'(by decide)).toNat=33:=rfl;have g3:(({data:=#[47,38,33,63,42,43,40,41,46]}:ByteArray)[3]'(by decide)).toNat=63:=rfl;have g4:(({data:=#[47,38,33,63,42,43,40,41,46]}:ByteArray)[4]'(by decide)).toNat=42:=rfl;have g5:(({data:=#[47,38,33,63,42,43,40,41,46]}:ByteArray)[5]'(by decide)).toNat=43:=rfl;have g6:(({data:=#[47,38,33,63,42,43,40,41,46]}:ByteArray)[6]'(by decide)).toNat=40:=rfl;have g7:(({data:=#[47,38,33,63,42,43,40,41,46]}:ByteArray)[7]'(by decide)).toNat=41:=rfl;have g8:(({data:=#[47,38,33,63,42,43,40,41,46]}:ByteArray)[8]'(by decide)).toNat=46:=rfl;go_enter func90,ntmps90
 go_wp2_with fail
 refine wp_loop_rounds 10 ?_;rw[rounds_succ]
 go_wp2_with fail
 rw[rounds_succ]
 go_wp2_with fail
 rw[rounds_succ]
 go_wp2_with fail
 rw[rounds_succ]
 go_wp2_with fail
 rw[rounds_succ]
 go_wp2_with fail
 rw[rounds_succ]
 go_wp2_with fail
 rw[rounds_succ]
 go_wp2_with fail
 rw[rounds_succ]
 go_wp2_with fail
 rw[rounds_succ]
 go_wp2_with fail
 rw[rounds_succ]
 go_wp2_with fail
 go_ret;exact⟨rfl,rfl⟩
theorem Fq(x:Nat)(w:World):Calls prog 90 #[.int .u8 x] w fun e w'=>e=.returned (.bool (mkB x))/\w'=w:=by
 by_cases h0:x=47
 ·have hm:mkB x=true:=by rw[h0];rfl
  rw[hm];exact y1p x w (by simp;omega)
 by_cases h1:x=38
 ·have hm:mkB x=true:=by rw[h1];rfl
  rw[hm];exact y1q x w (by simp;omega) (by simp;omega)
 by_cases h2:x=33
 ·have hm:mkB x=true:=by rw[h2];rfl
  rw[hm];exact y1r x w (by simp;omega) (by simp;omega) (by simp;omega)
 by_cases h3:x=63
 ·have hm:mkB x=true:=by rw[h3];rfl
  rw[hm];exact y1s x w (by simp;omega) (by simp;omega) (by simp;omega) (by simp;omega)
 by_cases h4:x=42
 ·have hm:mkB x=true:=by rw[h4];rfl
  rw[hm];exact y1t x w (by simp;omega) (by simp;omega) (by simp;omega) (by simp;omega) (by simp;omega)
 by_cases h5:x=43
 ·have hm:mkB x=true:=by rw[h5];rfl
  rw[hm];exact y1u x w (by simp;omega) (by simp;omega) (by simp;omega) (by simp;omega) (by simp;omega) (by simp;omega)
 by_cases h6:x=40
 ·have hm:mkB x=true:=by rw[h6];rfl
  rw[hm];exact y1v x w (by simp;omega) (by simp;omega) (by simp;omega) (by simp;omega) (by simp;omega) (by simp;omega) (by simp;omega)
 by_cases h7:x=41
 ·have hm:mkB x=true:=by rw[h7];rfl
  rw[hm];exact y1w x w (by simp;omega) (by simp;omega) (by simp;omega) (by simp;omega) (by simp;omega) (by simp;omega) (by simp;omega) (by simp;omega)
 by_cases h8:x=46
 ·have hm:mkB x=true:=by rw[h8];rfl
  rw[hm];exact y1x x w (by simp;omega) (by simp;omega) (by simp;omega) (by simp;omega) (by simp;omega) (by simp;omega) (by simp;omega) (by simp;omega) (by simp;omega)
 have hm:mkB x=false:=by unfold mkB;simp;omega
 rw[hm];exact y1y x w (by simp;omega) (by simp;omega) (by simp;omega) (by simp;omega) (by simp;omega) (by simp;omega) (by simp;omega) (by simp;omega) (by simp;omega)
def r3s(r:Ls):Value:=
 match r with
 | .inr (l,n)=>.tuple #[.string (nb l),.int .i64 n,.int .i64 0]
 | .inl c=>.tuple #[.string ⟨#[]⟩,.int .i64 (c.2:Int),.int .i64 (c.1:Int)]
theorem y1z{c:Nat×Nat}(h:lsg S k=.inl c):c.1=3∨c.1=4:=by
 have hd:∀i c,digs S i=.inl c->c.1=3∨c.1=4:=fun i c h=>by
  unfold digs at h;split at h
  ·simp only[Sum.inl.injEq]at h;rw[<-h];unfold flt;split<;>simp
  ·split at h
   ·simp only[Sum.inl.injEq]at h;rw[<-h];unfold flt;split<;>simp
   ·cases h
 have hf:∀i,(flt S i).1=3∨(flt S i).1=4:=fun i=>by unfold flt;split<;>simp
 unfold lsg at h;split at h
 ·simp only[Sum.inl.injEq]at h;rw[<-h];exact hf _
 ·split at h
  ·simp only[Sum.inl.injEq]at h;rw[<-h];exact hf _
  ·split at h
   ·unfold Yx at h
    split at h
    ·simp only[Sum.inl.injEq]at h;rw[<-h];exact hf _
    ·split at h
     ·cases h
     ·split at h
      ·exact hd _ _ h
      ·simp only[Sum.inl.injEq]at h;rw[<-h];exact hf _
   ·cases h
theorem z4g(S:ByteArray)(q p:Nat)(w:World)(h0:bt S p=some q)(hS:S.size<=9007199254740992):
  Calls prog 91 #[.string S,.int .i64 p] w fun e w'=>e=.returned (r3s (ll S q p (p+1) []))/\Below w.heap.size w w':=by
 obtain⟨i0,hi0,hz0,hz1,hz2⟩:=info_parts Tryz.infoByte;have hql:=(Qx h0).2;obtain⟨hp0,hq0⟩:=Qj h0;have hpI:(p:Int)<(S.size:Int):=by omega
 obtain⟨R,hR⟩:∃R,R=ll S q p (p+1) []:=⟨_,rfl⟩;rw[<-hR];have HR:Hid (ll S q p (p+1) []=R):=hR.symm;clear hR h0;go_enter func91,ntmps91
 go_wp2_with fail
 go_loopw [8,9] (fun v a wr=>∃(k:Nat) (acc:List Nat),a=.int .i64 k/\k<=S.size/\acc.length<=255/\Hid (∀x∈acc,x<256)/\Hid (ll S q p k acc=R)/\Hid (Lq w v acc wr)) (fun _ a _=>S.size-(intOf a).toNat)
 case atStart=>exact⟨p+1,[],by go_num,by omega,by simp,hid (fun x hx=>by simp at hx),HR,hid ⟨hid B0q,hid (World.ownsRow_nil _ _ _ _)⟩⟩
 case round=>
  obtain⟨k,acc,rfl,hks,hal,HX,HM,HL⟩:=hrel;clear hq0;cases hb:bt S k with
  |none=>
   have hge:=Qm hb;have a0:decide ((k:Int)<(S.size:Int))=false:=by simp;omega
   have a1:decide ((S.size:Int)<=(k:Int))=true:=by simp;omega
   have hm:lsg S k=.inl (flt S k):=by unfold lsg;rw[hb]
   have HRe:Hid (R=.inl (3,S.size)):=by show _=_;rw[<-HM.out,Rw (by rw[hb];simp) hm,Gc hge]
   have HB0:Hid (Below w.heap.size w wr):=HL.out.1;clear hb hm HM HL HX
   go_wp2_with fail
   go_ret3
   rw[HRe.out];exact⟨rfl,HB0.out⟩
  |some x=>
   obtain⟨hkk,hxk⟩:=Qj hb;have hkI:(k:Int)<(S.size:Int):=by omega
   have hx6:=(Qx hb).2;have a0:decide ((k:Int)<(S.size:Int))=true:=by simp;omega
   have a1:decide ((S.size:Int)<=(k:Int))=false:=by simp;omega
   by_cases hxq:x=q
   ·have n0:((x:Int) != (q:Int))=false:=by simp;omega
    have HRe:Hid (R=.inr (acc,k+1)):=by show _=_;rw[<-HM.out,Hl (by rw[hb,hxq])]
    have HN:Hid (((k+1:Nat):Int)=(k:Int)+1):=by show _=_;omega
    have cva:=Bl HL.out.2.out HX.out;obtain⟨TT,hTT⟩:∃TT,TT=nb acc:=⟨_,rfl⟩;rw[<-hTT]at cva;have HB0:Hid (Below w.heap.size w wr):=HL.out.1;have HTT:Hid (TT=nb acc):=hTT;clear hb hxq HM HL hTT
    go_wp2_with fail
    go_ret3
    rw[HRe.out];unfold r3s;simp only;rw[HN.out,<-HTT.out];exact⟨rfl,HB0.out⟩
   ·have n0:((x:Int) != (q:Int))=true:=by rw[bne_iff_ne];omega
    have hend:¬bt S k=some q:=by rw[hb];simp;exact hxq
    have HSg:Hid (∀w:World,Calls prog 107 #[.string S,.int .i64 k] w fun e w'=>e=.returned (r3u (lsg S k))/\w'=w):=fun w=>y1o S k x w hb hS
    cases hm:lsg S k with
    |inl c=>
     have HRe:Hid (R=.inl c):=by show _=_;rw[<-HM.out,Rw hend hm]
     have hc0:(((c.1:Nat):Int) != 0)=true:=by have:=y1z hm;rw[bne_iff_ne];omega
     rw[hm]at HSg;have HB0:Hid (Below w.heap.size w wr):=HL.out.1;clear hb hxq HM HL hm hend HX
     go_wp2_with fail
     refine(HSg.out _).mono ?_;rintro e w1 ⟨rfl,hw1⟩;rw[hw1];clear hw1;unfold r3u
     go_wp2_with fail
     go_ret3
     rw[HRe.out];exact⟨rfl,HB0.out⟩
    |inr r=>
     obtain⟨b,n⟩:=r;have hok:=Ny hm;have hsl:∃a c,u8=.slice a acc.length c:=by
      obtain⟨_,⟨h1,h2⟩|⟨g,cap,cur,e,_⟩⟩:=HL.out.2.out
      ·exact⟨none,0,by rw[h1,h2]⟩
      ·exact⟨_,cap,e⟩
     obtain⟨av,cv,rfl⟩:=hsl;by_cases hl5:acc.length=255
     ·have HRe:Hid (R=.inl (2,p)):=by show _=_;rw[<-HM.out,Ry hend hm hl5]
      rw[hm]at HSg;rw[hl5]at HL ⊢;have HB0:Hid (Below w.heap.size w wr):=HL.out.1;clear hb hxq HM HL hm hend HX hl5
      go_wp2_with fail
      refine(HSg.out _).mono ?_;rintro e w1 ⟨rfl,hw1⟩;rw[hw1];clear hw1;unfold r3u
      go_wp2_with fail
      go_ret3
      rw[HRe.out];exact⟨rfl,HB0.out⟩
     ·have HM2:Hid (ll S q p n (acc++[b])=R):=by show _=_;rw[<-HM.out,Iz hend hm hl5]
      have HX2:Hid (∀y∈acc++[b],y<256):=fun y hy=>by
       rcases List.mem_append.1 hy with h|h
       ·exact HX.out y h
       ·simp at h;omega
      have d5:((acc.length:Int) == 255)=false:=by rw[beq_eq_false_iff_ne];omega
      have hkn:k<n:=hok.2.1;have hns:n<=S.size:=hok.2.2;have hal2:acc.length<=254:=by omega
      have hsz:w.heap.size<=wr.heap.size:=HL.out.1.out.size;rw[hm]at HSg;clear hb hxq HM hm hend HX hl5 hok
      go_wp2_with fail
      refine(HSg.out _).mono ?_;rintro e w1 ⟨rfl,hw1⟩;rw[hw1];clear hw1;unfold r3u
      go_wp2_with(first|(at_builtin;refine wpList_append_own _ rfl (.tmp 44) (.tmp 46) 55 rfl w.heap.size 5 i0 (.int .u8 0) 1 1 Tryz.underlying55 hi0 hz0 hz1 hz2 rfl (by decide) _ _ _ rfl (HL.out.2.out.alloc _) ⟨wr.heap.size,0,none⟩ 1 1 [.int .u8 b] rfl rfl (Yc _ _ _) (Xj [(b:Int)]) (by unfold maxLen;omega) (by omega) (by simp;omega) ?_;intro v2 w2 hown2 hgr2 hnil2))
      have HL2:Hid (Lq w v2 (acc++[b]) w2):=by
       refine⟨hid ((HL.out.1.out.alloc hsz _).grown hgr2 (by simp;omega) (fun y e=>(HL.out.2.out.lt y e).1)),hid ?_⟩;rw[Gw,List.length_append];exact hown2
      clear hown2 hgr2 hnil2 HL
      go_roundw
      case rel=>exact⟨n,acc++[b],rfl,hns,by simp;omega,HX2,HM2,HL2⟩
      case measure=>simp[intOf];omega
theorem y1A(h:bt S k=none):le S k=k:=by
 have:=Qm h;unfold le;rw[show S.size-k=0 by omega,lnd]
theorem y1B{x:Nat}(h:bt S k=some x):le S k=if x=10 then k else le S (k+1):=by
 rw[z1d (Qx h).1,h];simp
theorem y1C(S:ByteArray)(p:Nat)(w:World)(hp:p<=S.size)(hS:S.size<=9007199254740992):
  Calls prog 62 #[.string S,.int .i64 p] w fun e w'=>e=.returned (.int .i64 (sb S p:Int))/\w'=w:=by
 obtain⟨R,hR⟩:∃R,R=sb S p:=⟨_,rfl⟩;rw[<-hR];have HR:Hid (sb S p=R):=hR.symm;clear hR;go_enter func62,ntmps62
 go_wp2_with fail
 go_loopw [1] (fun a wr=>∃k:Nat,a=.int .i64 k/\k<=S.size/\Hid (sb S k=R)/\wr=w) (fun a _=>S.size-(intOf a).toNat)
 case atStart=>exact⟨p,rfl,hp,HR,rfl⟩
 case round=>
  obtain⟨k,rfl,hk,HK,rfl⟩:=hrel;clear HR;cases hb:bt S k with
  |none=>
   have hge:=Qm hb;have a0:decide ((k:Int)<(S.size:Int))=false:=by simp;omega
   have HF:Hid (R=k):=by show _=_;rw[<-HK.out,Aj hb]
   clear hb
   go_wp2_with fail
   go_ret;rw[HF.out];exact⟨rfl,rfl⟩
  |some x=>
   obtain⟨hkk,hxk⟩:=Qj hb;have hkI:(k:Int)<(S.size:Int):=by omega
   have hx6:=(Qx hb).2;have a0:decide ((k:Int)<(S.size:Int))=true:=by simp;omega
   have hse:=Nb hb;by_cases h35:x=35
   ·have t35:((x:Int) == 35)=true:=by simp;omega
    have HF:Hid (sb S (le S k)=R):=by
     show _=_;rw[<-HK.out,hse,h35];rfl
    have hgt:=Cx hb (by omega);have hle:=(Cz (S:=S) (k:=k) hk).2;obtain⟨E,hE⟩:∃E,E=le S k:=⟨_,rfl⟩;rw[<-hE]at HF hgt hle;have HE:Hid (le S k=E):=hE.symm;clear hb hse h35 hE
    go_wp2_with fail
    go_loopw [1] (fun a wr2=>∃j:Nat,a=.int .i64 j/\k<=j/\j<=S.size/\Hid (le S j=E)/\wr2=wr) (fun a _=>S.size-(intOf a).toNat)
    case atStart=>exact⟨k,rfl,Nat.le_refl _,hk,HE,rfl⟩
    case round=>
     obtain⟨j,rfl,hkj,hj,HJ,rfl⟩:=hrel;cases hbj:bt S j with
     |none=>
      have hge:=Qm hbj;have a0j:decide ((j:Int)<(S.size:Int))=false:=by simp;omega
      have HjE:Hid (j=E):=by show _=_;rw[<-HJ.out,y1A hbj]
      have hkj2:k<j:=by rw[HjE.out];exact hgt
      clear hbj
      go_wp2_with fail
      go_roundw
      case rel=>exact⟨j,rfl,hj,hid (by rw[HjE.out];exact HF.out),by first|rfl|trivial⟩
      case measure=>simp[intOf];omega
     |some y=>
      obtain⟨hjk,hyj⟩:=Qj hbj;have hjI:(j:Int)<(S.size:Int):=by omega
      have a0j:decide ((j:Int)<(S.size:Int))=true:=by simp;omega
      have hje:=y1B hbj;by_cases h10:y=10
      ·have t10:((y:Int) != 10)=false:=by simp;omega
       have HjE:Hid (j=E):=by show _=_;rw[<-HJ.out,hje,if_pos h10]
       have hkj2:k<j:=by rw[HjE.out];exact hgt
       clear hbj hje h10
       go_wp2_with fail
       go_roundw
       case rel=>exact⟨j,rfl,hj,hid (by rw[HjE.out];exact HF.out),by first|rfl|trivial⟩
       case measure=>simp[intOf];omega
      ·have t10:((y:Int) != 10)=true:=by rw[bne_iff_ne];omega
       have HJ2:Hid (le S (j+1)=E):=by show _=_;rw[<-HJ.out,hje,if_neg h10]
       have HN:Hid (((j+1:Nat):Int)=(j:Int)+1):=by show _=_;omega
       clear hbj hje h10
       go_wp2_with fail
       go_roundw
       case rel=>exact⟨j+1,by rw[HN.out],by omega,by omega,HJ2,by first|rfl|trivial⟩
       case measure=>simp[intOf];omega
   ·have t35:((x:Int) == 35)=false:=by simp;omega
    by_cases hbl:blB x=true
    ·have HF:Hid (sb S (k+1)=R):=by show _=_;rw[<-HK.out,hse,hbl];rfl
     have HN:Hid (((k+1:Nat):Int)=(k:Int)+1):=by show _=_;omega
     have hc:x=9∨x=10∨x=13∨x=32:=by unfold blB at hbl;simpa using hbl
     clear hb hse hbl;rcases hc with h|h|h|h
     ·have t9:((x:Int) == 9)=true:=by simp;omega
      clear h
      go_wp2_with fail
      go_roundw
      case rel=>exact⟨k+1,by rw[HN.out],by omega,HF,by first|rfl|trivial⟩
      case measure=>simp[intOf];omega
     ·have t9:((x:Int) == 9)=false:=by simp;omega
      have t10:((x:Int) == 10)=true:=by simp;omega
      clear h
      go_wp2_with fail
      go_roundw
      case rel=>exact⟨k+1,by rw[HN.out],by omega,HF,by first|rfl|trivial⟩
      case measure=>simp[intOf];omega
     ·have t9:((x:Int) == 9)=false:=by simp;omega
      have t10:((x:Int) == 10)=false:=by simp;omega
      have t13:((x:Int) == 13)=true:=by simp;omega
      clear h
      go_wp2_with fail
      go_roundw
      case rel=>exact⟨k+1,by rw[HN.out],by omega,HF,by first|rfl|trivial⟩
      case measure=>simp[intOf];omega
     ·have t9:((x:Int) == 9)=false:=by simp;omega
      have t10:((x:Int) == 10)=false:=by simp;omega
      have t13:((x:Int) == 13)=false:=by simp;omega
      have t32:((x:Int) == 32)=true:=by simp;omega
      clear h
      go_wp2_with fail
      go_roundw
      case rel=>exact⟨k+1,by rw[HN.out],by omega,HF,by first|rfl|trivial⟩
      case measure=>simp[intOf];omega
    ·have HF:Hid (R=k):=by show _=_;rw[<-HK.out,hse,if_neg hbl,if_neg h35]
     have hc:x≠9/\x≠10/\x≠13/\x≠32:=by unfold blB at hbl;simpa using hbl
     have t9:((x:Int) == 9)=false:=by simp;omega
     have t10:((x:Int) == 10)=false:=by simp;omega
     have t13:((x:Int) == 13)=false:=by simp;omega
     have t32:((x:Int) == 32)=false:=by simp;omega
     clear hb hse hbl hc h35
     go_wp2_with fail
     go_ret;rw[HF.out];exact⟨rfl,rfl⟩
end Go.Proofs.YtikfnaffiehpaaaGreatDoor
