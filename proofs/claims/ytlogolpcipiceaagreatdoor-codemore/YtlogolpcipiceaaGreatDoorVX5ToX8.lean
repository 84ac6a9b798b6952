/- Lemmas for the last text. Conditions: those that each names. -/
import Derived.Test.YtlogolpcipiceaaGreatDoorVX2ToX4
import Derived.Shelf.Lay
import Derived.Shelf.Strconv.Clone
import Derived.Shelf.Strings.Prefix
set_option linter.unusedVariables false
set_option maxRecDepth 100000
set_option maxHeartbeats 4000000
namespace Go.Proofs.YtlogolpcipiceaaGreatDoor
open Go.Proofs.Tryz
open Go.RowKit
variable {S:ByteArray} {k x:Nat}
def Dz(S:ByteArray):Nat->Nat->Nat
 |0,k=>k
 |f+1,k=>match bt S k with
  |some x=>if Zq x||Jv x then Dz S f (k+1)else k
  |none=>k
def ne(S:ByteArray)(k:Nat):Nat:=Dz S (S.size-k) k
theorem z0B(h:bt S k=none):ne S k=k:=by
 have:=Zl h;unfold ne;rw[show S.size-k=0 by omega,Dz]
theorem Dx(h:bt S k=some x):ne S k=if Zq x||Jv x then ne S (k+1)else k:=by
 have:=(Qv h).1;unfold ne;rw[show S.size-k=(S.size-(k+1))+1 by omega,Dz,h]
theorem Lf(S:ByteArray):∀f k:Nat,k<=Dz S f k/\(f=S.size-k->k<=S.size->Dz S f k<=S.size)
 |0,k=>⟨Nat.le_refl _,fun _ h=>h⟩
 |f+1,k=>by
  rw[Dz];cases hb:bt S k with
  |none=>exact⟨Nat.le_refl _,fun _ h=>h⟩
  |some x=>
   have:=(Qv hb).1;have ih:=Lf S f (k+1);simp only;split
   ·exact⟨by omega,fun h1 h2=>ih.2 (by omega) (by omega)⟩
   ·exact⟨Nat.le_refl _,fun _ h=>h⟩
theorem Cq(h:k<=S.size):k<=ne S k/\ne S k<=S.size:=⟨(Lf S _ k).1,(Lf S _ k).2 rfl h⟩
theorem z0C(S:ByteArray)(p:Nat)(w:World)(hp:p<=S.size)(hS:S.size<=9007199254740992):
  Calls prog 159 #[.string S,.int .i64 p] w fun e w'=>e=.returned (.int .i64 (ne S p:Int))/\w'=w:=by
 obtain⟨R,hR⟩:∃R,R=ne S p:=⟨_,rfl⟩;rw[<-hR];have HR:Hid (ne S p=R):=hR.symm;clear hR;go_enter func159,ntmps159
 go_wp2_with fail
 go_loopw [1] (fun a wr=>∃k:Nat,a=.int .i64 k/\k<=S.size/\Hid (ne S k=R)/\wr=w) (fun a _=>S.size-(intOf a).toNat)
 case atStart=>exact⟨p,rfl,hp,HR,rfl⟩
 case round=>
  obtain⟨k,rfl,hks,HM,rfl⟩:=hrel;cases hb:bt S k with
  |none=>
   have hge:=Zl hb;have a0:decide ((k:Int)<(S.size:Int))=false:=by simp;omega
   have HK:Hid (R=k):=by show _=_;rw[<-HM.out,z0B hb]
   clear hb
   go_wp2_with fail
   go_ret;rw[HK.out];exact⟨rfl,rfl⟩
  |some x=>
   have hxl:=(Qv hb).2;obtain⟨hk,hxx⟩:=Zy hb;have hkI:(k:Int)<(S.size:Int):=by omega
   have a0:decide ((k:Int)<(S.size:Int))=true:=by simp;omega
   cases hl:Zq x with
   |true=>
    have HM2:Hid (ne S (k+1)=R):=by show _=_;rw[<-HM.out,Dx hb,hl];simp
    have HL:Hid (∀w:World,Calls prog 124 #[.int .u8 x] w fun e w'=>e=.returned (.bool true)/\w'=w):=fun w=>Jw x true hl w hxl
    clear hb hl HM
    go_wp2_with fail
    refine(HL.out _).mono ?_;rintro e w1 ⟨rfl,rfl⟩
    go_wp2_with fail
    go_roundw
    case rel=>exact⟨k+1,by go_num,by omega,HM2,trivial⟩
    case measure=>simp[intOf];omega
   |false=>
    have HL:Hid (∀w:World,Calls prog 124 #[.int .u8 x] w fun e w'=>e=.returned (.bool false)/\w'=w):=fun w=>Jw x false hl w hxl
    cases hd:Jv x with
    |true=>
     have HM2:Hid (ne S (k+1)=R):=by show _=_;rw[<-HM.out,Dx hb,hl,hd];simp
     have HD:Hid (∀w:World,Calls prog 187 #[.int .u8 x] w fun e w'=>e=.returned (.bool true)/\w'=w):=fun w=>z0s x true hd w hxl
     clear hb hl hd HM
     go_wp2_with fail
     refine(HL.out _).mono ?_;rintro e w1 ⟨rfl,rfl⟩
     go_wp2_with fail
     refine(HD.out _).mono ?_;rintro e w2 ⟨rfl,rfl⟩
     go_wp2_with fail
     go_roundw
     case rel=>exact⟨k+1,by go_num,by omega,HM2,trivial⟩
     case measure=>simp[intOf];omega
    |false=>
     have HK:Hid (R=k):=by show _=_;rw[<-HM.out,Dx hb,hl,hd];simp
     have HD:Hid (∀w:World,Calls prog 187 #[.int .u8 x] w fun e w'=>e=.returned (.bool false)/\w'=w):=fun w=>z0s x false hd w hxl
     clear hb hl hd HM
     go_wp2_with fail
     refine(HL.out _).mono ?_;rintro e w1 ⟨rfl,rfl⟩
     go_wp2_with fail
     refine(HD.out _).mono ?_;rintro e w2 ⟨rfl,rfl⟩
     go_wp2_with fail
     go_ret;rw[HK.out];exact⟨rfl,rfl⟩
def nmS(S:ByteArray):Bool:=match bt S 0 with
 |none=>false
 |some x=>decide (S.size<=32)&&Zq x&&decide (ne S 0=S.size)
theorem z6q(S:ByteArray)(w:World)(hS:S.size<=9007199254740992):
  Calls prog 284 #[.string S] w fun e w'=>e=.returned (.bool (nmS S))/\w'=w:=by
 have HE:Hid (∀w:World,Calls prog 159 #[.string S,.int .i64 0] w fun e w'=>e=.returned (.int .i64 (ne S 0:Int))/\w'=w):=fun w=>z0C S 0 w (Nat.zero_le _) hS
 obtain⟨R,hR⟩:∃R,R=nmS S:=⟨_,rfl⟩;rw[<-hR];cases hb:bt S 0 with
 |none=>
  have h0:S.size=0:=by have:=Zl hb;omega
  have hS0:S={data:=#[]}:=by
   apply ByteArray.ext;apply Array.eq_empty_of_size_eq_zero;exact h0
  have HR:Hid (R=false):=by show _=_;rw[hR];unfold nmS;rw[hb]
  clear hb hR h0 HE;subst hS0;go_enter func284,ntmps284
  go_wp2_with fail
  go_ret;rw[HR.out];exact⟨rfl,rfl⟩
 |some x=>
  have hxl:=(Qv hb).2;obtain⟨hk,hxx⟩:=Zy hb;have hkI:(0:Int)<(S.size:Int):=by omega
  have hne:S.toList.isEmpty=false:=by
   rw[Go.ByteArray.toList_eq];cases h:S.data.toList with
   |nil=>
    have h1:S.data.toList.length=0:=by rw[h];rfl
    have h2:S.data.size=S.size:=rfl;rw[Array.length_toList]at h1;omega
   |cons _ _=>rfl
  have hR2:R=(decide (S.size<=32)&&Zq x&&decide (ne S 0=S.size)):=by rw[hR];unfold nmS;rw[hb]
  clear hR hb;by_cases h32:S.size<=32
  ·have a0:decide ((S.size:Int)<=32)=true:=by simp;omega
   rw[decide_eq_true h32]at hR2;cases hl:Zq x with
   |false=>
    have HL:Hid (∀w:World,Calls prog 124 #[.int .u8 x] w fun e w'=>e=.returned (.bool false)/\w'=w):=fun w=>Jw x false hl w hxl
    have HR:Hid (R=false):=by show _=_;rw[hR2,hl];simp
    clear hl hR2 HE;go_enter func284,ntmps284
    go_wp2_with fail
    refine(HL.out _).mono ?_;rintro e w1 ⟨rfl,rfl⟩
    go_wp2_with fail
    go_ret;rw[HR.out];exact⟨rfl,rfl⟩
   |true=>
    have HL:Hid (∀w:World,Calls prog 124 #[.int .u8 x] w fun e w'=>e=.returned (.bool true)/\w'=w):=fun w=>Jw x true hl w hxl
    obtain⟨N,hN⟩:∃N,N=ne S 0:=⟨_,rfl⟩;rw[<-hN]at HE hR2;obtain⟨v,hv⟩:∃v,v=((N:Int) == (S.size:Int)):=⟨_,rfl⟩;have HR:Hid (R=v):=by
     show _=_;rw[hR2,hl,hv];by_cases h:N=S.size
     ·rw[h];simp
     ·have h2:¬(N:Int)=(S.size:Int):=by omega
      simp[h,h2]
    clear hl hR2 hN;go_enter func284,ntmps284
    go_wp2_with fail
    refine(HL.out _).mono ?_;rintro e w1 ⟨rfl,rfl⟩
    go_wp2_with fail
    refine(HE.out _).mono ?_;rintro e w2 ⟨rfl,rfl⟩
    go_wp2_with fail
    go_ret;rw[HR.out,hv];exact⟨by first|rfl|simp,rfl⟩
  ·have a0:decide ((S.size:Int)<=32)=false:=by simp;omega
   have HR:Hid (R=false):=by show _=_;rw[hR2,decide_eq_false h32];simp
   clear hR2 HE;go_enter func284,ntmps284
   go_wp2_with fail
   go_ret;rw[HR.out];exact⟨rfl,rfl⟩
def lnd(S:ByteArray):Nat->Nat->Nat
 |0,k=>k
 |f+1,k=>if bt S k=some 10 then k else lnd S f (k+1)
def le(S:ByteArray)(k:Nat):Nat:=lnd S (S.size-k) k
theorem z6r(h:k<S.size):le S k=if bt S k=some 10 then k else le S (k+1):=by
 unfold le;rw[show S.size-k=(S.size-(k+1))+1 by omega,lnd]
theorem z0D(S:ByteArray):∀f k:Nat,f=S.size-k->k<=S.size->k<=lnd S f k/\lnd S f k<=S.size
 |0,k,_,h=>⟨Nat.le_refl _,h⟩
 |f+1,k,hf,h=>by
  rw[lnd];have ih:=z0D S f (k+1) (by omega) (by omega);split
  ·exact⟨Nat.le_refl _,h⟩
  ·omega
theorem Cx(h:k<=S.size):k<=le S k/\le S k<=S.size:=z0D S _ k rfl h
theorem Cj(h:bt S k=some x)(hx:x≠10):k<le S k:=by
 have hk:=(Qv h).1;rw[z6r hk,if_neg (by rw[h];simp;exact hx)];have:=(Cx (S:=S) (k:=k+1) (by omega)).1;omega
theorem Lg(h:bt S k=some x):∃b:UInt8,S.data.toList.drop k=b::S.data.toList.drop (k+1)/\b.toNat=x:=by
 obtain⟨hk,hx⟩:=Zy h;have hk2:k<S.data.toList.length:=by rw[Array.length_toList];exact hk
 exact⟨_,List.drop_eq_getElem_cons hk2,by rw[<-hx];rfl⟩
theorem z0E(S:ByteArray):∀f k:Nat,f=S.size-k->k<=S.size->
  (Lib.indexByte (S.data.toList.drop k) 10= -1/\lnd S f k=S.size)∨(0<=Lib.indexByte (S.data.toList.drop k) 10/\(lnd S f k:Int)=(k:Int)+Lib.indexByte (S.data.toList.drop k) 10)
 |0,k,hf,h=>by
  left;have:k=S.size:=by omega
  rw[List.drop_eq_nil_of_le (by rw[Array.length_toList];exact Nat.le_of_eq this.symm)];exact⟨rfl,by rw[lnd];exact this⟩
 |f+1,k,hf,h=>by
  cases hb:bt S k with
  |none=>have:=Zl hb;omega
  |some x=>
   obtain⟨b,hd,hbx⟩:=Lg hb;rw[lnd,hb,hd,Lib.indexByte];by_cases hx:x=10
   ·have:(b == 10)=true:=by rw[beq_iff_eq];apply UInt8.toNat.inj;rw[hbx,hx];rfl
    rw[this,hx];right;simp
   ·have h1:(b == 10)=false:=by rw[beq_eq_false_iff_ne];intro e;apply hx;rw[<-hbx,e];rfl
    have h2:¬(some x=some 10):=by simp;exact hx
    rw[h1,if_neg h2];rcases z0E S f (k+1) (by omega) (by omega)with⟨h3,h4⟩|⟨h3,h4⟩
    ·left;rw[h3];exact⟨rfl,h4⟩
    ·right
     have h5:(Lib.indexByte (S.data.toList.drop (k+1)) 10 == -1)=false:=by rw[beq_eq_false_iff_ne];omega
     rw[h5];simp only[Bool.false_eq_true,if_false];omega
theorem z0F(S:ByteArray)(p:Nat)(hp:p<=S.size):(S.extract p S.size).data.toList=S.data.toList.drop p:=by
 simp only[ByteArray.data_extract,Array.toList_extract];rw[List.extract_eq_take_drop,List.take_of_length_le];rw[List.length_drop,Array.length_toList];exact Nat.le_refl _
theorem z6s(S:ByteArray)(p:Nat)(w:World)(hp:p<S.size)(hS:S.size<=9007199254740992):
  Calls prog 123 #[.string S,.int .i64 p] w fun e w'=>e=.returned (.int .i64 (le S p:Int))/\w'=w:=by
 have hpI:(p:Int)<(S.size:Int):=by omega
 have hpI2:(p:Int)<=(S.size:Int):=by omega
 have hle:=(Cx (S:=S) (k:=p) (by omega)).2;have hcas:=z0E S (S.size-p) p rfl (by omega);have HI:Hid (∀w:World,Calls prog 129 #[.string (S.extract p S.size),.int .u8 10] w fun e w'=>e=.returned (.int .i64 (Lib.indexByte (S.data.toList.drop p) 10))/\w'=w):=fun w=>by
  have h:=Bm (S.extract p S.size) 10 w;rw[z0F S p (by omega)]at h;exact h
 obtain⟨i,hi⟩:∃i,i=Lib.indexByte (S.data.toList.drop p) 10:=⟨_,rfl⟩;rw[<-hi]at HI hcas;obtain⟨L,hL⟩:∃L,L=le S p:=⟨_,rfl⟩;rw[<-hL]at hle ⊢;have hcas2:(i= -1/\L=S.size)∨(0<=i/\(L:Int)=(p:Int)+i):=by rw[hL];exact hcas
 clear hcas hi hL;rcases hcas2 with⟨rfl,hL⟩|⟨h0,hL⟩
 ·have HL:Hid (L=S.size):=hL
  clear hL;go_enter func123,ntmps123
  go_wp2_with fail
  refine(HI.out _).mono ?_;rintro e w1 ⟨rfl,rfl⟩
  go_wp2_with fail
  go_ret;rw[HL.out];exact⟨rfl,rfl⟩
 ·have HL:Hid ((L:Int)=(p:Int)+i):=hL
  have a0:decide (0<=i)=true:=by simp;omega
  have b1:(p:Int)+i<9223372036854775808:=by omega
  clear hL;go_enter func123,ntmps123
  go_wp2_with fail
  refine(HI.out _).mono ?_;rintro e w1 ⟨rfl,rfl⟩
  go_wp2_with fail
  go_ret;rw[HL.out];exact⟨by first|rfl|go_num,rfl⟩
def blB(x:Nat):Bool:=x == 9||(x == 10||(x == 13||x == 32))
def sbl(S:ByteArray):Nat->Nat->Nat
 |0,k=>k
 |f+1,k=>match bt S k with
  |none=>k
  |some x=>if blB x then sbl S f (k+1)else if x=35 then sbl S f (le S k)else k
def sb(S:ByteArray)(k:Nat):Nat:=sbl S (S.size-k) k
theorem Lb(S:ByteArray):∀f g k:Nat,S.size-k<=f->S.size-k<=g->sbl S f k=sbl S g k
 |0,0,_,_,_=>rfl
 |0,g+1,k,hf,_=>by rw[sbl,sbl,Ux (by omega)]
 |f+1,0,k,_,hg=>by rw[sbl,sbl,Ux (by omega)]
 |f+1,g+1,k,hf,hg=>by
  rw[sbl,sbl];cases hb:bt S k with
  |none=>rfl
  |some x=>
   have hk:=(Qv hb).1;simp only;split
   ·exact Lb S f g (k+1) (by omega) (by omega)
   ·split
    ·rename_i h
     have:=Cj hb (by omega);exact Lb S f g (le S k) (by omega) (by omega)
    ·rfl
theorem Lh(h:bt S k=none):sb S k=k:=by
 have:=Zl h;unfold sb;rw[show S.size-k=0 by omega,sbl]
theorem Ck(h:bt S k=some x):sb S k=if blB x then sb S (k+1)else if x=35 then sb S (le S k)else k:=by
 have hk:=(Qv h).1;unfold sb;rw[show S.size-k=(S.size-(k+1))+1 by omega,sbl,h];simp only;split
 ·rfl
 ·split
  ·have:=Cj h (by omega)
   exact Lb S _ _ (le S k) (by omega) (by omega)
  ·rfl
theorem Ld(S:ByteArray):∀f k:Nat,S.size-k<=f->k<=S.size->k<=sb S k/\sb S k<=S.size
 |0,k,hf,h=>by rw[Lh (Ux (by omega))];omega
 |f+1,k,hf,h=>by
  cases hb:bt S k with
  |none=>rw[Lh hb];omega
  |some x=>
   have hk:=(Qv hb).1;rw[Ck hb];split
   ·have:=Ld S f (k+1) (by omega) (by omega);omega
   ·split
    ·have h1:=Cj hb (by omega)
     have h2:=(Cx (S:=S) (k:=k) h).2;have:=Ld S f (le S k) (by omega) h2;omega
    ·omega
theorem z6t(S:ByteArray)(p:Nat)(w:World)(hp:p<=S.size)(hS:S.size<=9007199254740992):
  Calls prog 95 #[.string S,.int .i64 p] w fun e w'=>e=.returned (.int .i64 (sb S p:Int))/\w'=w:=by
 obtain⟨R,hR⟩:∃R,R=sb S p:=⟨_,rfl⟩;rw[<-hR];have HR:Hid (sb S p=R):=hR.symm;clear hR;go_enter func95,ntmps95
 go_wp2_with fail
 go_loopw [1] (fun a wr=>∃k:Nat,a=.int .i64 k/\k<=S.size/\Hid (sb S k=R)/\wr=w) (fun a _=>S.size-(intOf a).toNat)
 case atStart=>exact⟨p,rfl,hp,HR,rfl⟩
 case round=>
  obtain⟨k,rfl,hks,HM,rfl⟩:=hrel;cases hb:bt S k with
  |none=>
   have hge:=Zl hb;have a0:decide ((k:Int)<(S.size:Int))=false:=by simp;omega
   have HK:Hid (R=k):=by show _=_;rw[<-HM.out,Lh hb]
   clear hb
   go_wp2_with fail
   go_ret;rw[HK.out];exact⟨rfl,rfl⟩
  |some x=>
   have hxl:=(Qv hb).2;obtain⟨hk,hxx⟩:=Zy hb;have hkI:(k:Int)<(S.size:Int):=by omega
   have a0:decide ((k:Int)<(S.size:Int))=true:=by simp;omega
   have hc:(x=9∨x=10∨x=13∨x=32)∨x=35∨(x≠9/\x≠10/\x≠13/\x≠32/\x≠35):=by omega
   rcases hc with h|h|⟨h1,h2,h3,h4,h5⟩
   ·have HM2:Hid (sb S (k+1)=R):=by
     show _=_;rw[<-HM.out,Ck hb,if_pos (by unfold blB;rcases h with h|h|h|h<;>rw[h]<;>rfl)]
    clear hb HM;rcases h with h|h|h|h
    all_goals
     subst h
     go_wp2_with fail
     go_roundw
     case rel=>exact⟨k+1,by go_num,by omega,HM2,trivial⟩
     case measure=>simp[intOf];omega
   ·have HM2:Hid (sb S (le S k)=R):=by
     show _=_;rw[<-HM.out,Ck hb,if_neg (by rw[h];decide),if_pos h]
    have HL:Hid (∀w:World,Calls prog 123 #[.string S,.int .i64 k] w fun e w'=>e=.returned (.int .i64 (le S k:Int))/\w'=w):=fun w=>z6s S k w hk hS
    have hl1:k<le S k:=Cj hb (by omega);have hl2:le S k<=S.size:=(Cx (S:=S) (k:=k) hks).2;obtain⟨L,hL⟩:∃L,L=le S k:=⟨_,rfl⟩;rw[<-hL]at HM2 HL hl1 hl2;clear hb HM hL;subst h
    go_wp2_with fail
    refine(HL.out _).mono ?_;rintro e w1 ⟨rfl,rfl⟩
    go_wp2_with fail
    go_roundw
    case rel=>exact⟨L,rfl,hl2,HM2,trivial⟩
    case measure=>simp[intOf];omega
   ·have HK:Hid (R=k):=by
     show _=_;rw[<-HM.out,Ck hb,if_neg (by unfold blB;simp;omega),if_neg h5]
    have b1:((x:Int) == 9)=false:=by simp;omega
    have b2:((x:Int) == 10)=false:=by simp;omega
    have b3:((x:Int) == 13)=false:=by simp;omega
    have b4:((x:Int) == 32)=false:=by simp;omega
    have b5:((x:Int) == 35)=false:=by simp;omega
    clear hb HM h1 h2 h3 h4 h5
    go_wp2_with fail
    (try simp only[Exit.inBlock,Exit.then])
    go_ret;rw[HK.out];exact⟨rfl,rfl⟩
end Go.Proofs.YtlogolpcipiceaaGreatDoor
namespace Go.Proofs
open Go.Shelf
shelf_lay LaysM.n316 Nm 316 at Tryz as Tryz.laysM316
shelf_lay Lays.n206 Nm 206 at Tryz as Tryz.lays206
end Go.Proofs
namespace Go.Proofs.YtlogolpcipiceaaGreatDoor
open Go.Proofs.Tryz
open Go.RowKit
theorem z6u(T:ByteArray)(w:World)(hS:T.size<=281474976710656):
 Calls prog 59 #[.string T] w fun e w'=>e=.returned (.string T)/\Below w.heap.size w w':=Any.stringslite_Clone Tryz.laysM316 T w hS
theorem z6v(s p:ByteArray)(w:World):
 Calls prog 162 #[.string s,.string p] w fun e w'=>e=.returned (.bool (Lib.hasPrefix s.data.toList p.data.toList))/\w'=w:=Any.stringslite_HasPrefix Tryz.lays206 s p w
theorem Lm(T:ByteArray)(w:World)(hS:T.size<=281474976710656):
  Calls prog 32 #[.string T] w fun e w'=>e=.returned (.string T)/\Below w.heap.size w w':=by
 go_enter func32,ntmps32
 go_wp2_with fail
 refine(z6u T _ hS).mono ?_;rintro e w1 ⟨rfl,hb⟩;have HB:Hid (Below w.heap.size w w1):=hb;clear hb
 go_wp2_with fail
 go_ret;exact⟨rfl,HB.out⟩
theorem z6w(s p:ByteArray)(w:World):
  Calls prog 128 #[.string s,.string p] w fun e w'=>e=.returned (.bool (Lib.hasPrefix s.data.toList p.data.toList))/\w'=w:=by
 go_enter func128,ntmps128
 go_wp2_with fail
 refine(z6v s p _).mono ?_;rintro e w1 ⟨rfl,rfl⟩
 go_wp2_with fail
 go_ret;exact⟨rfl,rfl⟩
def Gw(S:ByteArray)(p:Nat)(w:World)(e:Ending)(w':World):Prop:=
 if 32<ne S p-p then Gm (2,p) w e w' else
  e=.returned (.tuple #[.agg #[.int .i64 1,.string (S.extract p (ne S p)),.int .u64 0,.int .u64 0,.int .u64 0,.int .u64 0,.int .i64 p],.int .i64 (ne S p:Int),.nilIface])/\Below w.heap.size w w'
theorem Lp(w:World):∃W,W=w.alloc (.cells #[.int .i64 0,.string ⟨#[]⟩,.int .u64 0,.int .u64 0,.int .u64 0,.int .u64 0,.int .i64 0] 183):=⟨_,rfl⟩
theorem z6x(S:ByteArray)(p:Nat)(w:World)(hp:p<=S.size)(hS:S.size<=9007199254740992):
  Calls prog 125 #[.string S,.int .i64 p] w fun e w'=>Gw S p w e w':=by
 unfold Gw;have hle:=Cq hp;have HE:Hid (∀w:World,Calls prog 159 #[.string S,.int .i64 p] w fun e w'=>e=.returned (.int .i64 (ne S p:Int))/\w'=w):=fun w=>z0C S p w hp hS
 obtain⟨N,hN⟩:∃N,N=ne S p:=⟨_,rfl⟩;rw[<-hN]at HE hle ⊢;clear hN;obtain⟨hpN,hNS⟩:=hle;have HT0:Hid (Tk (w.alloc (.cells #[.int .i64 0,.string ⟨#[]⟩,.int .u64 0,.int .u64 0,.int .u64 0,.int .u64 0,.int .i64 0] 183)) w.heap.size 0 {data:=#[]} 0 0 0 0 0):=Tk.new w 0 {data:=#[]} 0 0 0 0 0;by_cases hl:32<N-p
 ·simp only[if_pos hl]
  have a0:decide ((32:Int)<(N:Int)-(p:Int))=true:=by simp;omega
  obtain⟨W,hW⟩:=Lp w;have HB1:Hid (Below w.heap.size w W):=by show Below _ _ _;rw[hW];exact B0q.alloc L0q _
  rw[<-hW]at HT0;go_enter func125,ntmps125
  go_wp2_with fail
  rw[<-hW];clear hW;refine(HE.out _).mono ?_;rintro e w1 ⟨rfl,rfl⟩;have HT2:Hid (Tk (w1.alloc (.cells #[.int .i64 2,.int .i64 p] 98)) w.heap.size 0 {data:=#[]} 0 0 0 0 0):=HT0.out.alloc _;obtain⟨c0,c1,c2,c3,c4,c5,c6⟩:=HT2.out.cells;obtain⟨f0,f1,f2,f3,f4,f5,f6⟩:=HT2.out.thaw
  go_wp2_with fail
  obtain⟨r0,r1,r2,r3,r4,r5,r6⟩:=(HT2.out.st7 0 {data:=#[]} 0 0 0 0 0).cells;unfold st7 at r0 r1 r2 r3 r4 r5 r6
  (try simp only[Exit.inBlock,Exit.then])
  refine bodyPost_ret (v:=.tuple #[.agg #[.int .i64 0,.string ⟨#[]⟩,.int .u64 0,.int .u64 0,.int .u64 0,.int .u64 0,.int .i64 0],.int .i64 0,.iface 95 (.pointer (some ⟨w1.heap.size,0,none⟩))]) (by simp[results,Tryz.results125,go_sem,r0,r1,r2,r3,r4,r5,r6]) rfl ?_;exact⟨w1.heap.size,rfl,Kx (HB1.out.alloc HB1.out.size _) (Flt.new w1 (2,p)) HB1.out.size (Nat.ne_of_gt HT0.out.lt)⟩
 ·simp only[if_neg hl]
  have a0:decide ((32:Int)<(N:Int)-(p:Int))=false:=by simp;omega
  have b1:(p:Int)<=(N:Int):=by omega
  have b2:(N:Int)<=(S.size:Int):=by omega
  obtain⟨T,hT⟩:∃T,T=S.extract p N:=⟨_,rfl⟩;have hTs:T.size<=281474976710656:=by rw[hT,ByteArray.size_extract];omega
  have HC:Hid (∀w:World,Calls prog 32 #[.string T] w fun e w'=>e=.returned (.string T)/\Below w.heap.size w w'):=fun w=>Lm T w hTs
  rw[hT]at HC;obtain⟨W,hW⟩:=Lp w;have HB1:Hid (Below w.heap.size w W):=by show Below _ _ _;rw[hW];exact B0q.alloc L0q _
  rw[<-hW]at HT0;rw[<-hT];rw[<-hT]at HC;have HTT:Hid (T=S.extract p N):=hT;clear hT hTs;go_enter func125,ntmps125
  go_wp2_with fail
  rw[<-hW];clear hW;refine(HE.out _).mono ?_;rintro e w1 ⟨rfl,rfl⟩
  go_wp2_with fail
  rw[<-HTT.out];refine(HC.out _).mono ?_;rintro e w2 ⟨rfl,hb2⟩;have HB2:Hid (Below w.heap.size w w2):=HB1.out.trans (hb2.mono HB1.out.size);have HT2:Hid (Tk w2 w.heap.size 0 {data:=#[]} 0 0 0 0 0):=HT0.out.below hb2 HT0.out.lt;clear hb2;obtain⟨c0,c1,c2,c3,c4,c5,c6⟩:=HT2.out.cells;obtain⟨f0,f1,f2,f3,f4,f5,f6⟩:=HT2.out.thaw
  go_wp2_with fail
  obtain⟨r0,r1,r2,r3,r4,r5,r6⟩:=(HT2.out.st7 1 T 0 0 0 0 (p:Int)).cells;unfold st7 at r0 r1 r2 r3 r4 r5 r6
  (try simp only[Exit.inBlock,Exit.then])
  refine bodyPost_ret (v:=.tuple #[.agg #[.int .i64 1,.string T,.int .u64 0,.int .u64 0,.int .u64 0,.int .u64 0,.int .i64 p],.int .i64 N,.nilIface]) (by simp[results,Tryz.results125,go_sem,r0,r1,r2,r3,r4,r5,r6]) rfl ?_;exact⟨rfl,Below.st7 HB2.out L0q _ _ _ _ _ _ _⟩
def CE(w:World)(g f p:Nat)(c:Nat×Nat):Prop:=w.heap[g]? =some (.cells #[.iface 95 (.pointer (some ⟨f,0,none⟩)),.int .i64 p] 240)/\Flt w f c
theorem CE.lt{w:World}{g f p:Nat}{c:Nat×Nat}(h:CE w g f p c):g<w.heap.size:=by
 rcases Nat.lt_or_ge g w.heap.size with h2|h2
 ·exact h2
 ·have:=h.1;rw[Array.getElem?_eq_none h2]at this;cases this
theorem CE.new{w:World}{f p:Nat}{c:Nat×Nat}(h:Flt w f c):CE (w.alloc (.cells #[.iface 95 (.pointer (some ⟨f,0,none⟩)),.int .i64 p] 240)) w.heap.size f p c:=
 ⟨heap_alloc_new w _,h.alloc _⟩
theorem CE.st7{w:World}{g f p a:Nat}{c:Nat×Nat}(h:CE w g f p c)(hg:g≠a)(hf:f≠a)(kd:Int)(T:ByteArray)(c0 c1 c2 c3 q:Int):CE (Proofs.YtlogolpcipiceaaGreatDoor.st7 w a kd T c0 c1 c2 c3 q) g f p c:=by
 refine⟨?_,h.2.st7 hf _ _ _ _ _ _ _⟩;rw[Below.heap_setCell _ _ _ _ hg,Below.heap_setCell _ _ _ _ hg,Below.heap_setCell _ _ _ _ hg,Below.heap_setCell _ _ _ _ hg,Below.heap_setCell _ _ _ _ hg,Below.heap_setCell _ _ _ _ hg,Below.heap_setCell _ _ _ _ hg];exact h.1
def Kj(p:Nat)(c:Nat×Nat)(w:World)(e:Ending)(w':World):Prop:=∃g f,e=.returned (.tuple #[.agg #[.int .i64 0,.string ⟨#[]⟩,.int .u64 0,.int .u64 0,.int .u64 0,.int .u64 0,.int .i64 0],.int .i64 0,.iface 237 (.pointer (some ⟨g,0,none⟩))])/\Hid (w.heap.size<=g/\w.heap.size<=f/\CE w' g f p c/\Below w.heap.size w w')
def Jf(r:Rs)(p:Nat)(w:World)(e:Ending)(w':World):Prop:=
 match r with
 | .inr (C,n)=>e=.returned (.tuple #[.agg #[.int .i64 4,.string ⟨#[]⟩,.int .u64 (wd C 0),.int .u64 (wd C 1),.int .u64 (wd C 2),.int .u64 (wd C 3),.int .i64 p],.int .i64 ((p+n:Nat):Int),.nilIface])/\Below w.heap.size w w'
 | .inl c=>Kj p c w e w'
theorem z6y(S:ByteArray)(p:Nat)(w:World)(hp:p<=S.size)(hS:S.size<=9007199254740992):
  Calls prog 127 #[.string S,.int .i64 p] w fun e w'=>Jf (Yz (S.extract p S.size)) p w e w':=by
 have hpI:(p:Int)<=(S.size:Int):=by omega
 obtain⟨T,hT⟩:∃T,T=S.extract p S.size:=⟨_,rfl⟩;have hTs:T.size<=S.size-p:=by rw[hT,ByteArray.size_extract];omega
 have HC:Hid (∀w:World,Calls prog 161 #[.string T] w fun e w'=>Ans (Yz T) w e w'):=fun w=>z6c T w (by omega)
 rw[<-hT];have HTT:Hid (T=S.extract p S.size):=hT;clear hT;obtain⟨W,hW⟩:=Lp w;have HB1:Hid (Below w.heap.size w W):=by show Below _ _ _;rw[hW];exact B0q.alloc L0q _
 have HT0:Hid (Tk W w.heap.size 0 {data:=#[]} 0 0 0 0 0):=by show Tk _ _ _ _ _ _ _ _ _;rw[hW];exact Tk.new w 0 {data:=#[]} 0 0 0 0 0
 cases hm:Yz T with
 |inl c=>
  rw[hm]at HC;clear hm;go_enter func127,ntmps127
  go_wp2_with fail
  rw[<-hW,<-HTT.out];clear hW;refine(HC.out _).mono ?_;rintro e w1 ⟨f,rfl,HP⟩;have HB2:Hid (Below w.heap.size w w1):=HB1.out.trans (HP.out.2.2.mono HB1.out.size);have HT1:Hid (Tk w1 w.heap.size 0 {data:=#[]} 0 0 0 0 0):=HT0.out.below HP.out.2.2 HT0.out.lt;have HF:Hid (Up w w1 f c):=⟨Nat.le_trans HB1.out.size HP.out.1,fun e=>by have h1:=HT0.out.lt;have h2:=HP.out.1;omega,HP.out.2.1⟩;clear HP;unfold flv;rw[z0b];have HT2:Hid (Tk ((w1.alloc (.cells #[.int .u64 0,.int .u64 0,.int .u64 0,.int .u64 0] 68)).alloc (.cells #[.iface 95 (.pointer (some ⟨f,0,none⟩)),.int .i64 p] 240)) w.heap.size 0 {data:=#[]} 0 0 0 0 0):=(HT1.out.alloc _).alloc _;obtain⟨c0,c1,c2,c3,c4,c5,c6⟩:=HT2.out.cells;obtain⟨f0,f1,f2,f3,f4,f5,f6⟩:=HT2.out.thaw
  go_wp2_with fail
  obtain⟨r0,r1,r2,r3,r4,r5,r6⟩:=(HT2.out.st7 0 {data:=#[]} 0 0 0 0 0).cells;unfold st7 at r0 r1 r2 r3 r4 r5 r6
  (try simp only[Exit.inBlock,Exit.then])
  refine bodyPost_ret (v:=.tuple #[.agg #[.int .i64 0,.string ⟨#[]⟩,.int .u64 0,.int .u64 0,.int .u64 0,.int .u64 0,.int .i64 0],.int .i64 0,.iface 237 (.pointer (some ⟨w1.heap.size+1,0,none⟩))]) (by simp[results,Tryz.results127,go_sem,r0,r1,r2,r3,r4,r5,r6]) rfl ?_;have hsz:(w1.alloc (.cells #[.int .u64 0,.int .u64 0,.int .u64 0,.int .u64 0] 68)).heap.size=w1.heap.size+1:=by simp
  have hB3:=HB2.out.alloc HB2.out.size (.cells #[.int .u64 0,.int .u64 0,.int .u64 0,.int .u64 0] 68);have hlt:=HT1.out.lt;have hce:=CE.new (p:=p) (HF.out.2.2.alloc (.cells #[.int .u64 0,.int .u64 0,.int .u64 0,.int .u64 0] 68));rw[hsz]at hce;exact⟨w1.heap.size+1,f,rfl,by have:=HB2.out.size;omega,HF.out.1,hce.st7 (by omega) HF.out.2.1 _ _ _ _ _ _ _,Below.st7 (hB3.alloc hB3.size _) L0q _ _ _ _ _ _ _⟩
 |inr r=>
  obtain⟨C,n⟩:=r;have hok:=z0r hm;rw[hm]at HC;have hn:n<=T.size:=hok.2.2;have b1:(p:Int)+(n:Int)<9223372036854775808:=by omega
  obtain⟨x0,h0⟩:∃x,x=((wd C 0:Nat):Int):=⟨_,rfl⟩;obtain⟨x1,h1⟩:∃x,x=((wd C 1:Nat):Int):=⟨_,rfl⟩;obtain⟨x2,h2⟩:∃x,x=((wd C 2:Nat):Int):=⟨_,rfl⟩;obtain⟨x3,h3⟩:∃x,x=((wd C 3:Nat):Int):=⟨_,rfl⟩;have HC2:Hid (∀w:World,Calls prog 161 #[.string T] w fun e w'=>e=.returned (.tuple #[.agg #[.int .u64 x0,.int .u64 x1,.int .u64 x2,.int .u64 x3],.int .i64 n,.nilIface])/\Below w.heap.size w w'):=by
   rw[h0,h1,h2,h3];exact HC
  have HX:Hid (Jf (.inr (C,n)) p w=fun e w'=>e=.returned (.tuple #[.agg #[.int .i64 4,.string ⟨#[]⟩,.int .u64 x0,.int .u64 x1,.int .u64 x2,.int .u64 x3,.int .i64 p],.int .i64 ((p:Int)+(n:Int)),.nilIface])/\Below w.heap.size w w'):=by
   show _=_;rw[h0,h1,h2,h3];unfold Jf;simp only[Int.natCast_add]
  obtain⟨QQ,hQQ⟩:∃QQ,QQ=Jf (.inr (C,n)) p w:=⟨_,rfl⟩;rw[<-hQQ]at HX;show Calls _ _ _ _ fun e w'=>Jf (.inr (C,n)) p w e w'
  rw[<-hQQ];clear HC h0 h1 h2 h3 hQQ;clear hm hok;go_enter func127,ntmps127
  go_wp2_with fail
  rw[<-hW,<-HTT.out];clear hW;refine(HC2.out _).mono ?_;rintro e w1 ⟨rfl,hb⟩;have HB2:Hid (Below w.heap.size w w1):=HB1.out.trans (hb.mono HB1.out.size);have HT1:Hid (Tk w1 w.heap.size 0 {data:=#[]} 0 0 0 0 0):=HT0.out.below hb HT0.out.lt;clear hb;have HT2:Hid (Tk (w1.alloc (.cells #[.int .u64 x0,.int .u64 x1,.int .u64 x2,.int .u64 x3] 68)) w.heap.size 0 {data:=#[]} 0 0 0 0 0):=HT1.out.alloc _;obtain⟨c0,c1,c2,c3,c4,c5,c6⟩:=HT2.out.cells;obtain⟨f0,f1,f2,f3,f4,f5,f6⟩:=HT2.out.thaw
  go_wp2_with fail
  obtain⟨r0,r1,r2,r3,r4,r5,r6⟩:=(HT2.out.st7 4 {data:=#[]} x0 x1 x2 x3 (p:Int)).cells;unfold st7 at r0 r1 r2 r3 r4 r5 r6
  (try simp only[Exit.inBlock,Exit.then])
  refine bodyPost_ret (v:=.tuple #[.agg #[.int .i64 4,.string ⟨#[]⟩,.int .u64 x0,.int .u64 x1,.int .u64 x2,.int .u64 x3,.int .i64 p],.int .i64 ((p:Int)+(n:Int)),.nilIface]) (by simp[results,Tryz.results127,go_sem,r0,r1,r2,r3,r4,r5,r6]) rfl ?_;rw[HX.out];exact⟨rfl,Below.st7 (HB2.out.alloc HB2.out.size _) L0q _ _ _ _ _ _ _⟩
end Go.Proofs.YtlogolpcipiceaaGreatDoor
