/- Lemmas for the last text. Conditions: those that each names. -/
import Derived.Test.YtlogolpcipiceaaGreatDoorVX2ToX4
import Derived.Shelf.Lay
import Derived.Shelf.Strconv.Clone
import Derived.Shelf.Strings.Prefix
set_option linter.unusedVariables false
set_option maxRecDepth 100000
set_option maxHeartbeats 4000000
namespace Go.Proofs.YtlogolpcipiceaaGreatDoor
open Go.Proofs.Tryz
open Go.RowKit
variable {S:ByteArray} {k x:Nat}
def Ff(S:ByteArray):Nat->Nat->Nat
 |0,k=>k
 |f+1,k=>match bt S k with
  |some x=>if Zq x||Jj x then Ff S f (k+1)else k
  |none=>k
def ne(S:ByteArray)(k:Nat):Nat:=Ff S (S.size-k) k
theorem z0a(h:bt S k=none):ne S k=k:=by
 have:=Xv h;unfold ne;rw[show S.size-k=0 by omega,Ff]
theorem Fg(h:bt S k=some x):ne S k=if Zq x||Jj x then ne S (k+1)else k:=by
 have:=(Qh h).1;unfold ne;rw[show S.size-k=(S.size-(k+1))+1 by omega,Ff,h]
theorem Ij(S:ByteArray):∀f k:Nat,k<=Ff S f k/\(f=S.size-k->k<=S.size->Ff S f k<=S.size)
 |0,k=>⟨Nat.le_refl _,fun _ h=>h⟩
 |f+1,k=>by
  rw[Ff];cases hb:bt S k with
  |none=>exact⟨Nat.le_refl _,fun _ h=>h⟩
  |some x=>
   have:=(Qh hb).1;have ih:=Ij S f (k+1);simp only;split
   ·exact⟨by omega,fun h1 h2=>ih.2 (by omega) (by omega)⟩
   ·exact⟨Nat.le_refl _,fun _ h=>h⟩
theorem Al(h:k<=S.size):k<=ne S k/\ne S k<=S.size:=⟨(Ij S _ k).1,(Ij S _ k).2 rfl h⟩
theorem z0b(S:ByteArray)(p:Nat)(w:World)(hp:p<=S.size)(hS:S.size<=9007199254740992):
  Calls prog 159 #[.string S,.int .i64 p] w fun e w'=>e=.returned (.int .i64 (ne S p:Int))/\w'=w:=by
 obtain⟨R,hR⟩:∃R,R=ne S p:=⟨_,rfl⟩;rw[<-hR];have HR:Hid (ne S p=R):=hR.symm;clear hR;go_enter func159,ntmps159
 go_wp2_with fail
 go_loopw [1] (fun a wr=>∃k:Nat,a=.int .i64 k/\k<=S.size/\Hid (ne S k=R)/\wr=w) (fun a _=>S.size-(intOf a).toNat)
 case atStart=>exact⟨p,rfl,hp,HR,rfl⟩
 case round=>
  obtain⟨k,rfl,hks,HM,rfl⟩:=hrel;cases hb:bt S k with
  |none=>
   have hge:=Xv hb;have a0:decide ((k:Int)<(S.size:Int))=false:=by simp;omega
   have HK:Hid (R=k):=by show _=_;rw[<-HM.out,z0a hb]
   clear hb
   go_wp2_with fail
   go_ret;rw[HK.out];exact⟨rfl,rfl⟩
  |some x=>
   have hxl:=(Qh hb).2;obtain⟨hk,hxx⟩:=Xk hb;have hkI:(k:Int)<(S.size:Int):=by omega
   have a0:decide ((k:Int)<(S.size:Int))=true:=by simp;omega
   cases hl:Zq x with
   |true=>
    have HM2:Hid (ne S (k+1)=R):=by show _=_;rw[<-HM.out,Fg hb,hl];simp
    have HL:Hid (∀w:World,Calls prog 124 #[.int .u8 x] w fun e w'=>e=.returned (.bool true)/\w'=w):=fun w=>Gw x true hl w hxl
    clear hb hl HM
    go_wp2_with fail
    refine(HL.out _).mono ?_;rintro e w1 ⟨rfl,rfl⟩
    go_wp2_with fail
    go_roundw
    case rel=>exact⟨k+1,by go_num,by omega,HM2,trivial⟩
    case measure=>simp[intOf];omega
   |false=>
    have HL:Hid (∀w:World,Calls prog 124 #[.int .u8 x] w fun e w'=>e=.returned (.bool false)/\w'=w):=fun w=>Gw x false hl w hxl
    cases hd:Jj x with
    |true=>
     have HM2:Hid (ne S (k+1)=R):=by show _=_;rw[<-HM.out,Fg hb,hl,hd];simp
     have HD:Hid (∀w:World,Calls prog 187 #[.int .u8 x] w fun e w'=>e=.returned (.bool true)/\w'=w):=fun w=>Wg x true hd w hxl
     clear hb hl hd HM
     go_wp2_with fail
     refine(HL.out _).mono ?_;rintro e w1 ⟨rfl,rfl⟩
     go_wp2_with fail
     refine(HD.out _).mono ?_;rintro e w2 ⟨rfl,rfl⟩
     go_wp2_with fail
     go_roundw
     case rel=>exact⟨k+1,by go_num,by omega,HM2,trivial⟩
     case measure=>simp[intOf];omega
    |false=>
     have HK:Hid (R=k):=by show _=_;rw[<-HM.out,Fg hb,hl,hd];simp
     have HD:Hid (∀w:World,Calls prog 187 #[.int .u8 x] w fun e w'=>e=.returned (.bool false)/\w'=w):=fun w=>Wg x false hd w hxl
     clear hb hl hd HM
     go_wp2_with fail
     refine(HL.out _).mono ?_;rintro e w1 ⟨rfl,rfl⟩
     go_wp2_with fail
     refine(HD.out _).mono ?_;rintro e w2 ⟨rfl,rfl⟩
     go_wp2_with fail
     go_ret;rw[HK.out];exact⟨rfl,rfl⟩
def nmS(S:ByteArray):Bool:=match bt S 0 with
 |none=>false
 |some x=>decide (S.size<=32)&&Zq x&&decide (ne S 0=S.size)
theorem z5P(S:ByteArray)(w:World)(hS:S.size<=9007199254740992):
  Calls prog 284 #[.string S] w fun e w'=>e=.returned (.bool (nmS S))/\w'=w:=by
 have HE:Hid (∀w:World,Calls prog 159 #[.string S,.int .i64 0] w fun e w'=>e=.returned (.int .i64 (ne S 0:Int))/\w'=w):=fun w=>z0b S 0 w (Nat.zero_le _) hS
 obtain⟨R,hR⟩:∃R,R=nmS S:=⟨_,rfl⟩;rw[<-hR];cases hb:bt S 0 with
 |none=>
  have h0:S.size=0:=by have:=Xv hb;omega
  have hS0:S={data:=#[]}:=by
   apply ByteArray.ext;apply Array.eq_empty_of_size_eq_zero;exact h0
  have HR:Hid (R=false):=by show _=_;rw[hR];unfold nmS;rw[hb]
  clear hb hR h0 HE;subst hS0;go_enter func284,ntmps284
  go_wp2_with fail
  go_ret;rw[HR.out];exact⟨rfl,rfl⟩
 |some x=>
  have hxl:=(Qh hb).2;obtain⟨hk,hxx⟩:=Xk hb;have hkI:(0:Int)<(S.size:Int):=by omega
  have hne:S.toList.isEmpty=false:=by
   rw[Go.ByteArray.toList_eq];cases h:S.data.toList with
   |nil=>
    have h1:S.data.toList.length=0:=by rw[h];rfl
    have h2:S.data.size=S.size:=rfl;rw[Array.length_toList]at h1;omega
   |cons _ _=>rfl
  have hR2:R=(decide (S.size<=32)&&Zq x&&decide (ne S 0=S.size)):=by rw[hR];unfold nmS;rw[hb]
  clear hR hb;by_cases h32:S.size<=32
  ·have a0:decide ((S.size:Int)<=32)=true:=by simp;omega
   rw[decide_eq_true h32]at hR2;cases hl:Zq x with
   |false=>
    have HL:Hid (∀w:World,Calls prog 124 #[.int .u8 x] w fun e w'=>e=.returned (.bool false)/\w'=w):=fun w=>Gw x false hl w hxl
    have HR:Hid (R=false):=by show _=_;rw[hR2,hl];simp
    clear hl hR2 HE;go_enter func284,ntmps284
    go_wp2_with fail
    refine(HL.out _).mono ?_;rintro e w1 ⟨rfl,rfl⟩
    go_wp2_with fail
    go_ret;rw[HR.out];exact⟨rfl,rfl⟩
   |true=>
    have HL:Hid (∀w:World,Calls prog 124 #[.int .u8 x] w fun e w'=>e=.returned (.bool true)/\w'=w):=fun w=>Gw x true hl w hxl
    obtain⟨N,hN⟩:∃N,N=ne S 0:=⟨_,rfl⟩;rw[<-hN]at HE hR2;obtain⟨v,hv⟩:∃v,v=((N:Int) == (S.size:Int)):=⟨_,rfl⟩;have HR:Hid (R=v):=by
     show _=_;rw[hR2,hl,hv];by_cases h:N=S.size
     ·rw[h];simp
     ·have h2:¬(N:Int)=(S.size:Int):=by omega
      simp[h,h2]
    clear hl hR2 hN;go_enter func284,ntmps284
    go_wp2_with fail
    refine(HL.out _).mono ?_;rintro e w1 ⟨rfl,rfl⟩
    go_wp2_with fail
    refine(HE.out _).mono ?_;rintro e w2 ⟨rfl,rfl⟩
    go_wp2_with fail
    go_ret;rw[HR.out,hv];exact⟨by first|rfl|simp,rfl⟩
  ·have a0:decide ((S.size:Int)<=32)=false:=by simp;omega
   have HR:Hid (R=false):=by show _=_;rw[hR2,decide_eq_false h32];simp
   clear hR2 HE;go_enter func284,ntmps284
   go_wp2_with fail
   go_ret;rw[HR.out];exact⟨rfl,rfl⟩
def lnd(S:ByteArray):Nat->Nat->Nat
 |0,k=>k
 |f+1,k=>if bt S k=some 10 then k else lnd S f (k+1)
def le(S:ByteArray)(k:Nat):Nat:=lnd S (S.size-k) k
theorem z5Q(h:k<S.size):le S k=if bt S k=some 10 then k else le S (k+1):=by
 unfold le;rw[show S.size-k=(S.size-(k+1))+1 by omega,lnd]
theorem z0c(S:ByteArray):∀f k:Nat,f=S.size-k->k<=S.size->k<=lnd S f k/\lnd S f k<=S.size
 |0,k,_,h=>⟨Nat.le_refl _,h⟩
 |f+1,k,hf,h=>by
  rw[lnd];have ih:=z0c S f (k+1) (by omega) (by omega);split
  ·exact⟨Nat.le_refl _,h⟩
  ·omega
theorem Bz(h:k<=S.size):k<=le S k/\le S k<=S.size:=z0c S _ k rfl h
theorem Bq(h:bt S k=some x)(hx:x≠10):k<le S k:=by
 have hk:=(Qh h).1;rw[z5Q hk,if_neg (by rw[h];simp;exact hx)];have:=(Bz (S:=S) (k:=k+1) (by omega)).1;omega
theorem Ik(h:bt S k=some x):∃b:UInt8,S.data.toList.drop k=b::S.data.toList.drop (k+1)/\b.toNat=x:=by
 obtain⟨hk,hx⟩:=Xk h;have hk2:k<S.data.toList.length:=by rw[Array.length_toList];exact hk
 exact⟨_,List.drop_eq_getElem_cons hk2,by rw[<-hx];rfl⟩
theorem z0d(S:ByteArray):∀f k:Nat,f=S.size-k->k<=S.size->
  (Lib.indexByte (S.data.toList.drop k) 10= -1/\lnd S f k=S.size)∨(0<=Lib.indexByte (S.data.toList.drop k) 10/\(lnd S f k:Int)=(k:Int)+Lib.indexByte (S.data.toList.drop k) 10)
 |0,k,hf,h=>by
  left;have:k=S.size:=by omega
  rw[List.drop_eq_nil_of_le (by rw[Array.length_toList];exact Nat.le_of_eq this.symm)];exact⟨rfl,by rw[lnd];exact this⟩
 |f+1,k,hf,h=>by
  cases hb:bt S k with
  |none=>have:=Xv hb;omega
  |some x=>
   obtain⟨b,hd,hbx⟩:=Ik hb;rw[lnd,hb,hd,Lib.indexByte];by_cases hx:x=10
   ·have:(b == 10)=true:=by rw[beq_iff_eq];apply UInt8.toNat.inj;rw[hbx,hx];rfl
    rw[this,hx];right;simp
   ·have h1:(b == 10)=false:=by rw[beq_eq_false_iff_ne];intro e;apply hx;rw[<-hbx,e];rfl
    have h2:¬(some x=some 10):=by simp;exact hx
    rw[h1,if_neg h2];rcases z0d S f (k+1) (by omega) (by omega)with⟨h3,h4⟩|⟨h3,h4⟩
    ·left;rw[h3];exact⟨rfl,h4⟩
    ·right
     have h5:(Lib.indexByte (S.data.toList.drop (k+1)) 10 == -1)=false:=by rw[beq_eq_false_iff_ne];omega
     rw[h5];simp only[Bool.false_eq_true,if_false];omega
theorem z0e(S:ByteArray)(p:Nat)(hp:p<=S.size):(S.extract p S.size).data.toList=S.data.toList.drop p:=by
 simp only[ByteArray.data_extract,Array.toList_extract];rw[List.extract_eq_take_drop,List.take_of_length_le];rw[List.length_drop,Array.length_toList];exact Nat.le_refl _
theorem z5R(S:ByteArray)(p:Nat)(w:World)(hp:p<S.size)(hS:S.size<=9007199254740992):
  Calls prog 123 #[.string S,.int .i64 p] w fun e w'=>e=.returned (.int .i64 (le S p:Int))/\w'=w:=by
 have hpI:(p:Int)<(S.size:Int):=by omega
 have hpI2:(p:Int)<=(S.size:Int):=by omega
 have hle:=(Bz (S:=S) (k:=p) (by omega)).2;have hcas:=z0d S (S.size-p) p rfl (by omega);have HI:Hid (∀w:World,Calls prog 129 #[.string (S.extract p S.size),.int .u8 10] w fun e w'=>e=.returned (.int .i64 (Lib.indexByte (S.data.toList.drop p) 10))/\w'=w):=fun w=>by
  have h:=Hc (S.extract p S.size) 10 w;rw[z0e S p (by omega)]at h;exact h
 obtain⟨i,hi⟩:∃i,i=Lib.indexByte (S.data.toList.drop p) 10:=⟨_,rfl⟩;rw[<-hi]at HI hcas;obtain⟨L,hL⟩:∃L,L=le S p:=⟨_,rfl⟩;rw[<-hL]at hle ⊢;have hcas2:(i= -1/\L=S.size)∨(0<=i/\(L:Int)=(p:Int)+i):=by rw[hL];exact hcas
 clear hcas hi hL;rcases hcas2 with⟨rfl,hL⟩|⟨h0,hL⟩
 ·have HL:Hid (L=S.size):=hL
  clear hL;go_enter func123,ntmps123
  go_wp2_with fail
  refine(HI.out _).mono ?_;rintro e w1 ⟨rfl,rfl⟩
  go_wp2_with fail
  go_ret;rw[HL.out];exact⟨rfl,rfl⟩
 ·have HL:Hid ((L:Int)=(p:Int)+i):=hL
  have a0:decide (0<=i)=true:=by simp;omega
  have b1:(p:Int)+i<9223372036854775808:=by omega
  clear hL;go_enter func123,ntmps123
  go_wp2_with fail
  refine(HI.out _).mono ?_;rintro e w1 ⟨rfl,rfl⟩
  go_wp2_with fail
  go_ret;rw[HL.out];exact⟨by first|rfl|go_num,rfl⟩
def blB(x:Nat):Bool:=x == 9||(x == 10||(x == 13||x == 32))
def sbl(S:ByteArray):Nat->Nat->Nat
 |0,k=>k
 |f+1,k=>match bt S k with
  |none=>k
  |some x=>if blB x then sbl S f (k+1)else if x=35 then sbl S f (le S k)else k
def sb(S:ByteArray)(k:Nat):Nat:=sbl S (S.size-k) k
theorem Iv(S:ByteArray):∀f g k:Nat,S.size-k<=f->S.size-k<=g->sbl S f k=sbl S g k
 |0,0,_,_,_=>rfl
 |0,g+1,k,hf,_=>by rw[sbl,sbl,Uz (by omega)]
 |f+1,0,k,_,hg=>by rw[sbl,sbl,Uz (by omega)]
 |f+1,g+1,k,hf,hg=>by
  rw[sbl,sbl];cases hb:bt S k with
  |none=>rfl
  |some x=>
   have hk:=(Qh hb).1;simp only;split
   ·exact Iv S f g (k+1) (by omega) (by omega)
   ·split
    ·rename_i h
     have:=Bq hb (by omega);exact Iv S f g (le S k) (by omega) (by omega)
    ·rfl
theorem Iw(h:bt S k=none):sb S k=k:=by
 have:=Xv h;unfold sb;rw[show S.size-k=0 by omega,sbl]
theorem Bj(h:bt S k=some x):sb S k=if blB x then sb S (k+1)else if x=35 then sb S (le S k)else k:=by
 have hk:=(Qh h).1;unfold sb;rw[show S.size-k=(S.size-(k+1))+1 by omega,sbl,h];simp only;split
 ·rfl
 ·split
  ·have:=Bq h (by omega)
   exact Iv S _ _ (le S k) (by omega) (by omega)
  ·rfl
theorem Iy(S:ByteArray):∀f k:Nat,S.size-k<=f->k<=S.size->k<=sb S k/\sb S k<=S.size
 |0,k,hf,h=>by rw[Iw (Uz (by omega))];omega
 |f+1,k,hf,h=>by
  cases hb:bt S k with
  |none=>rw[Iw hb];omega
  |some x=>
   have hk:=(Qh hb).1;rw[Bj hb];split
   ·have:=Iy S f (k+1) (by omega) (by omega);omega
   ·split
    ·have h1:=Bq hb (by omega)
     have h2:=(Bz (S:=S) (k:=k) h).2;have:=Iy S f (le S k) (by omega) h2;omega
    ·omega
theorem z5S(S:ByteArray)(p:Nat)(w:World)(hp:p<=S.size)(hS:S.size<=9007199254740992):
  Calls prog 95 #[.string S,.int .i64 p] w fun e w'=>e=.returned (.int .i64 (sb S p:Int))/\w'=w:=by
 obtain⟨R,hR⟩:∃R,R=sb S p:=⟨_,rfl⟩;rw[<-hR];have HR:Hid (sb S p=R):=hR.symm;clear hR;go_enter func95,ntmps95
 go_wp2_with fail
 go_loopw [1] (fun a wr=>∃k:Nat,a=.int .i64 k/\k<=S.size/\Hid (sb S k=R)/\wr=w) (fun a _=>S.size-(intOf a).toNat)
 case atStart=>exact⟨p,rfl,hp,HR,rfl⟩
 case round=>
  obtain⟨k,rfl,hks,HM,rfl⟩:=hrel;cases hb:bt S k with
  |none=>
   have hge:=Xv hb;have a0:decide ((k:Int)<(S.size:Int))=false:=by simp;omega
   have HK:Hid (R=k):=by show _=_;rw[<-HM.out,Iw hb]
   clear hb
   go_wp2_with fail
   go_ret;rw[HK.out];exact⟨rfl,rfl⟩
  |some x=>
   have hxl:=(Qh hb).2;obtain⟨hk,hxx⟩:=Xk hb;have hkI:(k:Int)<(S.size:Int):=by omega
   have a0:decide ((k:Int)<(S.size:Int))=true:=by simp;omega
   have hc:(x=9∨x=10∨x=13∨x=32)∨x=35∨(x≠9/\x≠10/\x≠13/\x≠32/\x≠35):=by omega
   rcases hc with h|h|⟨h1,h2,h3,h4,h5⟩
   ·have HM2:Hid (sb S (k+1)=R):=by
     show _=_;rw[<-HM.out,Bj hb,if_pos (by unfold blB;rcases h with h|h|h|h<;>rw[h]<;>rfl)]
    clear hb HM;rcases h with h|h|h|h
    all_goals
     subst h
     go_wp2_with fail
     go_roundw
     case rel=>exact⟨k+1,by go_num,by omega,HM2,trivial⟩
     case measure=>simp[intOf];omega
   ·have HM2:Hid (sb S (le S k)=R):=by
     show _=_;rw[<-HM.out,Bj hb,if_neg (by rw[h];decide),if_pos h]
    have HL:Hid (∀w:World,Calls prog 123 #[.string S,.int .i64 k] w fun e w'=>e=.returned (.int .i64 (le S k:Int))/\w'=w):=fun w=>z5R S k w hk hS
    have hl1:k<le S k:=Bq hb (by omega);have hl2:le S k<=S.size:=(Bz (S:=S) (k:=k) hks).2;obtain⟨L,hL⟩:∃L,L=le S k:=⟨_,rfl⟩;rw[<-hL]at HM2 HL hl1 hl2;clear hb HM hL;subst h
    go_wp2_with fail
    refine(HL.out _).mono ?_;rintro e w1 ⟨rfl,rfl⟩
    go_wp2_with fail
    go_roundw
    case rel=>exact⟨L,rfl,hl2,HM2,trivial⟩
    case measure=>simp[intOf];omega
   ·have HK:Hid (R=k):=by
     show _=_;rw[<-HM.out,Bj hb,if_neg (by unfold blB;simp;omega),if_neg h5]
    have b1:((x:Int) == 9)=false:=by simp;omega
    have b2:((x:Int) == 10)=false:=by simp;omega
    have b3:((x:Int) == 13)=false:=by simp;omega
    have b4:((x:Int) == 32)=false:=by simp;omega
    have b5:((x:Int) == 35)=false:=by simp;omega
    clear hb HM h1 h2 h3 h4 h5
    go_wp2_with fail
    (try simp only[Exit.inBlock,Exit.then])
    go_ret;rw[HK.out];exact⟨rfl,rfl⟩
end Go.Proofs.YtlogolpcipiceaaGreatDoor
namespace Go.Proofs
open Go.Shelf
shelf_lay LaysM.n316 Nm 316 at Tryz as Tryz.laysM316
shelf_lay Lays.n206 Nm 206 at Tryz as Tryz.lays206
end Go.Proofs
namespace Go.Proofs.YtlogolpcipiceaaGreatDoor
open Go.Proofs.Tryz
open Go.RowKit
variable {W w:World}
theorem z5T(T:ByteArray)(w:World)(hS:T.size<=281474976710656):
 Calls prog 59 #[.string T] w fun e w'=>e=.returned (.string T)/\Below w.heap.size w w':=Any.stringslite_Clone Tryz.laysM316 T w hS
theorem z5U(s p:ByteArray)(w:World):
 Calls prog 162 #[.string s,.string p] w fun e w'=>e=.returned (.bool (Lib.hasPrefix s.data.toList p.data.toList))/\w'=w:=Any.stringslite_HasPrefix Tryz.lays206 s p w
theorem If(T:ByteArray)(w:World)(hS:T.size<=281474976710656):
  Calls prog 32 #[.string T] w fun e w'=>e=.returned (.string T)/\Below w.heap.size w w':=by
 go_enter func32,ntmps32
 go_wp2_with fail
 refine(z5T T _ hS).mono ?_;rintro e w1 ⟨rfl,hb⟩;have HB:Hid (Below w.heap.size w w1):=hb;clear hb
 go_wp2_with fail
 go_ret;exact⟨rfl,HB.out⟩
theorem z5V(s p:ByteArray)(w:World):
  Calls prog 128 #[.string s,.string p] w fun e w'=>e=.returned (.bool (Lib.hasPrefix s.data.toList p.data.toList))/\w'=w:=by
 go_enter func128,ntmps128
 go_wp2_with fail
 refine(z5U s p _).mono ?_;rintro e w1 ⟨rfl,rfl⟩
 go_wp2_with fail
 go_ret;exact⟨rfl,rfl⟩
def Jm(S:ByteArray)(p:Nat)(w:World)(e:Ending)(w':World):Prop:=
 if 32<ne S p-p then Dg (2,p) w e w' else
  e=.returned (.tuple #[.agg #[.int .i64 1,.string (S.extract p (ne S p)),.int .u64 0,.int .u64 0,.int .u64 0,.int .u64 0,.int .i64 p],.int .i64 (ne S p:Int),.nilIface])/\Below w.heap.size w w'
theorem Bk(w:World):∃W,W=w.alloc (.cells #[.int .i64 0,.string ⟨#[]⟩,.int .u64 0,.int .u64 0,.int .u64 0,.int .u64 0,.int .i64 0] 183):=⟨_,rfl⟩
theorem z5W(S:ByteArray)(p:Nat)(w:World)(hp:p<=S.size)(hS:S.size<=9007199254740992):
  Calls prog 125 #[.string S,.int .i64 p] w fun e w'=>Jm S p w e w':=by
 unfold Jm;have hle:=Al hp;have HE:Hid (∀w:World,Calls prog 159 #[.string S,.int .i64 p] w fun e w'=>e=.returned (.int .i64 (ne S p:Int))/\w'=w):=fun w=>z0b S p w hp hS
 obtain⟨N,hN⟩:∃N,N=ne S p:=⟨_,rfl⟩;rw[<-hN]at HE hle ⊢;clear hN;obtain⟨hpN,hNS⟩:=hle;have HT0:Hid (Tk (w.alloc (.cells #[.int .i64 0,.string ⟨#[]⟩,.int .u64 0,.int .u64 0,.int .u64 0,.int .u64 0,.int .i64 0] 183)) w.heap.size 0 {data:=#[]} 0 0 0 0 0):=Tk.new w 0 {data:=#[]} 0 0 0 0 0;by_cases hl:32<N-p
 ·simp only[if_pos hl]
  have a0:decide ((32:Int)<(N:Int)-(p:Int))=true:=by simp;omega
  obtain⟨W,hW⟩:=Bk w;have HB1:Hid (Below w.heap.size w W):=by show Below _ _ _;rw[hW];exact B0q.alloc L0q _
  rw[<-hW]at HT0;go_enter func125,ntmps125
  go_wp2_with fail
  rw[<-hW];clear hW;refine(HE.out _).mono ?_;rintro e w1 ⟨rfl,rfl⟩;have HT2:Hid (Tk (w1.alloc (.cells #[.int .i64 2,.int .i64 p] 98)) w.heap.size 0 {data:=#[]} 0 0 0 0 0):=HT0.out.alloc _;obtain⟨c0,c1,c2,c3,c4,c5,c6⟩:=HT2.out.cells;obtain⟨f0,f1,f2,f3,f4,f5,f6⟩:=HT2.out.thaw
  go_wp2_with fail
  obtain⟨r0,r1,r2,r3,r4,r5,r6⟩:=(HT2.out.st7 0 {data:=#[]} 0 0 0 0 0).cells;unfold st7 at r0 r1 r2 r3 r4 r5 r6
  (try simp only[Exit.inBlock,Exit.then])
  refine bodyPost_ret (v:=.tuple #[.agg #[.int .i64 0,.string ⟨#[]⟩,.int .u64 0,.int .u64 0,.int .u64 0,.int .u64 0,.int .i64 0],.int .i64 0,.iface 95 (.pointer (some ⟨w1.heap.size,0,none⟩))]) (by simp[results,Tryz.results125,go_sem,r0,r1,r2,r3,r4,r5,r6]) rfl ?_;exact⟨w1.heap.size,rfl,Nv (HB1.out.alloc HB1.out.size _) (Flt.new w1 (2,p)) HB1.out.size (Nat.ne_of_gt HT0.out.lt)⟩
 ·simp only[if_neg hl]
  have a0:decide ((32:Int)<(N:Int)-(p:Int))=false:=by simp;omega
  have b1:(p:Int)<=(N:Int):=by omega
  have b2:(N:Int)<=(S.size:Int):=by omega
  obtain⟨T,hT⟩:∃T,T=S.extract p N:=⟨_,rfl⟩;have hTs:T.size<=281474976710656:=by rw[hT,ByteArray.size_extract];omega
  have HC:Hid (∀w:World,Calls prog 32 #[.string T] w fun e w'=>e=.returned (.string T)/\Below w.heap.size w w'):=fun w=>If T w hTs
  rw[hT]at HC;obtain⟨W,hW⟩:=Bk w;have HB1:Hid (Below w.heap.size w W):=by show Below _ _ _;rw[hW];exact B0q.alloc L0q _
  rw[<-hW]at HT0;rw[<-hT];rw[<-hT]at HC;have HTT:Hid (T=S.extract p N):=hT;clear hT hTs;go_enter func125,ntmps125
  go_wp2_with fail
  rw[<-hW];clear hW;refine(HE.out _).mono ?_;rintro e w1 ⟨rfl,rfl⟩
  go_wp2_with fail
  rw[<-HTT.out];refine(HC.out _).mono ?_;rintro e w2 ⟨rfl,hb2⟩;have HB2:Hid (Below w.heap.size w w2):=HB1.out.trans (hb2.mono HB1.out.size);have HT2:Hid (Tk w2 w.heap.size 0 {data:=#[]} 0 0 0 0 0):=HT0.out.below hb2 HT0.out.lt;clear hb2;obtain⟨c0,c1,c2,c3,c4,c5,c6⟩:=HT2.out.cells;obtain⟨f0,f1,f2,f3,f4,f5,f6⟩:=HT2.out.thaw
  go_wp2_with fail
  obtain⟨r0,r1,r2,r3,r4,r5,r6⟩:=(HT2.out.st7 1 T 0 0 0 0 (p:Int)).cells;unfold st7 at r0 r1 r2 r3 r4 r5 r6
  (try simp only[Exit.inBlock,Exit.then])
  refine bodyPost_ret (v:=.tuple #[.agg #[.int .i64 1,.string T,.int .u64 0,.int .u64 0,.int .u64 0,.int .u64 0,.int .i64 p],.int .i64 N,.nilIface]) (by simp[results,Tryz.results125,go_sem,r0,r1,r2,r3,r4,r5,r6]) rfl ?_;exact⟨rfl,Below.st7 HB2.out L0q _ _ _ _ _ _ _⟩
def CE(w:World)(g f p:Nat)(c:Nat×Nat):Prop:=w.heap[g]? =some (.cells #[.iface 95 (.pointer (some ⟨f,0,none⟩)),.int .i64 p] 240)/\Flt w f c
theorem CE.lt{g f p:Nat}{c:Nat×Nat}(h:CE w g f p c):g<w.heap.size:=by
 rcases Nat.lt_or_ge g w.heap.size with h2|h2
 ·exact h2
 ·have:=h.1;rw[Array.getElem?_eq_none h2]at this;cases this
@[reducible] def tk7 (kd:Int) (T:ByteArray) (c0 c1 c2 c3 q n:Int) (ev:Value):Value:=.tuple #[.agg #[.int .i64 kd,.string T,.int .u64 c0,.int .u64 c1,.int .u64 c2,.int .u64 c3,.int .i64 q],.int .i64 n,ev]
def Ig(A:World->Ending->World->Prop)(W:World)(e:Ending)(w1:World):Prop:=
 ∃(kd:Int) (T:ByteArray) (c0 c1 c2 c3 q n:Int) (ev:Value),e=.returned (tk7 kd T c0 c1 c2 c3 q n ev)/\Hid (Below W.heap.size W w1)/\
  Hid (∀w:World,W=w.alloc (.cells #[.int .i64 0,.string ⟨#[]⟩,.int .u64 0,.int .u64 0,.int .u64 0,.int .u64 0,.int .i64 0] 183)->A w e (st7 w1 w.heap.size kd T c0 c1 c2 c3 q))
theorem Ib{w1:World}{o:Obj}(hW:W=w.alloc o)(h:Below W.heap.size W w1):Below w.heap.size w w1:=by
 have hb:Below w.heap.size w W:=by rw[hW];exact B0q.alloc L0q _
 exact hb.trans (h.mono hb.size)
theorem z5X{o:Obj}(hW:W=w.alloc o):W.heap.size=w.heap.size+1:=by rw[hW];simp
theorem Dg.goes{c:Nat×Nat}{w1:World}{e:Ending}(h:Dg c W e w1):Ig (Dg c) W e w1:=by
 obtain⟨f,rfl,HP⟩:=h;refine⟨_,_,_,_,_,_,_,_,_,rfl,hid HP.out.2.2,hid fun w hW=>⟨f,rfl,?_⟩⟩;have hs:=z5X hW;have h1:=HP.out.1;exact Nv (Ib hW HP.out.2.2) HP.out.2.1 (by omega) (by omega)
theorem Jm.goes{S:ByteArray}{p:Nat}{W w1:World}{e:Ending}(h:Jm S p W e w1):Ig (Jm S p) W e w1:=by
 unfold Jm at*;by_cases hl:32<ne S p-p
 ·simp only[if_pos hl]at*;exact h.goes
 ·simp only[if_neg hl]at*
  obtain⟨rfl,hb⟩:=h;exact⟨_,_,_,_,_,_,_,_,_,rfl,hid hb,hid fun w hW=>⟨rfl,Below.st7 (Ib hW hb) L0q _ _ _ _ _ _ _⟩⟩
theorem Fy.goes{r:Ls}{p:Nat}{W w1:World}{e:Ending}(h:Fy r p W e w1):Ig (Fy r p) W e w1:=by
 cases r with
 |inl c=>exact Dg.goes h
 |inr l=>
  obtain⟨rfl,hb⟩:=h;exact⟨_,_,_,_,_,_,_,_,_,rfl,hid hb,hid fun w hW=>⟨rfl,Below.st7 (Ib hW hb) L0q _ _ _ _ _ _ _⟩⟩
theorem z5Y(S:ByteArray)(p x:Nat)(w:World)(hb:bt S p=some x)(hl:Zq x=true)(hS:S.size<=9007199254740992):
  Calls prog 96 #[.string S,.int .i64 p] w fun e w'=>Jm S p w e w':=by
 have hxl:=(Qh hb).2;obtain⟨hp,hxx⟩:=Xk hb;have hpI:(p:Int)<(S.size:Int):=by omega
 have hpI2:(p:Int)<=(S.size:Int):=by omega
 have HLt:Hid (∀w:World,Calls prog 124 #[.int .u8 x] w fun e w'=>e=.returned (.bool true)/\w'=w):=fun w=>Gw x true hl w hxl
 obtain⟨W,hW⟩:=Bk w;have HW:Hid (W=w.alloc (.cells #[.int .i64 0,.string ⟨#[]⟩,.int .u64 0,.int .u64 0,.int .u64 0,.int .u64 0,.int .i64 0] 183)):=hW;have HB1:Hid (Below w.heap.size w W):=by show Below _ _ _;rw[hW];exact B0q.alloc L0q _
 have HT0:Hid (Tk W w.heap.size 0 {data:=#[]} 0 0 0 0 0):=by show Tk _ _ _ _ _ _ _ _ _;rw[hW];exact Tk.new w 0 {data:=#[]} 0 0 0 0 0
 have HC:Hid (∀w:World,Calls prog 125 #[.string S,.int .i64 p] w fun e w'=>Jm S p w e w'):=fun w=>z5W S p w (by omega) hS
 clear hb hl;go_enter func96,ntmps96
 go_wp2_with fail
 rw[<-hW];clear hW;refine(HLt.out _).mono ?_;rintro e w0 ⟨rfl,rfl⟩
 go_wp2_with fail
 refine(HC.out _).mono ?_;intro e w1 h;obtain⟨kd,T,c0',c1',c2',c3',q',n',ev,rfl,HB2,HP⟩:=h.goes;clear h;have HT2:Hid (Tk w1 w.heap.size 0 {data:=#[]} 0 0 0 0 0):=HT0.out.below HB2.out HT0.out.lt;obtain⟨c0,c1,c2,c3,c4,c5,c6⟩:=HT2.out.cells;obtain⟨f0,f1,f2,f3,f4,f5,f6⟩:=HT2.out.thaw
 go_wp2_with fail
 obtain⟨r0,r1,r2,r3,r4,r5,r6⟩:=(HT2.out.st7 kd T c0' c1' c2' c3' q').cells;unfold st7 at r0 r1 r2 r3 r4 r5 r6
 (try simp only[Exit.inBlock,Exit.then])
 refine bodyPost_ret (v:=tk7 kd T c0' c1' c2' c3' q' n' ev) (by simp[results,Tryz.results96,go_sem,r0,r1,r2,r3,r4,r5,r6]) rfl ?_;exact HP.out w HW.out
theorem z5Z(S:ByteArray)(p x:Nat)(w:World)(hb:bt S p=some x)(hq:x=39∨x=34)(hS:S.size<=9007199254740992):
  Calls prog 96 #[.string S,.int .i64 p] w fun e w'=>Fy (ll S x p (p+1) []) p w e w':=by
 have hxl:=(Qh hb).2;obtain⟨hp,hxx⟩:=Xk hb;have hpI:(p:Int)<(S.size:Int):=by omega
 have hpI2:(p:Int)<=(S.size:Int):=by omega
 have hl:Zq x=false:=by rcases hq with rfl|rfl<;>rfl
 have HLt:Hid (∀w:World,Calls prog 124 #[.int .u8 x] w fun e w'=>e=.returned (.bool false)/\w'=w):=fun w=>Gw x false hl w hxl
 obtain⟨W,hW⟩:=Bk w;have HW:Hid (W=w.alloc (.cells #[.int .i64 0,.string ⟨#[]⟩,.int .u64 0,.int .u64 0,.int .u64 0,.int .u64 0,.int .i64 0] 183)):=hW;have HB1:Hid (Below w.heap.size w W):=by show Below _ _ _;rw[hW];exact B0q.alloc L0q _
 have HT0:Hid (Tk W w.heap.size 0 {data:=#[]} 0 0 0 0 0):=by show Tk _ _ _ _ _ _ _ _ _;rw[hW];exact Tk.new w 0 {data:=#[]} 0 0 0 0 0
 have HC:Hid (∀w:World,Calls prog 126 #[.string S,.int .i64 p] w fun e w'=>Fy (ll S x p (p+1) []) p w e w'):=fun w=>z5O S x p w hb hS
 obtain⟨r,hr⟩:∃r,r=ll S x p (p+1) []:=⟨_,rfl⟩;rw[<-hr]at HC ⊢;clear hb hr hl;rcases hq with rfl|rfl
 ·go_enter func96,ntmps96
  go_wp2_with fail
  rw[<-hW];clear hW;refine(HLt.out _).mono ?_;rintro e w0 ⟨rfl,rfl⟩
  go_wp2_with fail
  refine(HC.out _).mono ?_;intro e w1 h;obtain⟨kd,T,c0',c1',c2',c3',q',n',ev,rfl,HB2,HP⟩:=h.goes;clear h;have HT2:Hid (Tk w1 w.heap.size 0 {data:=#[]} 0 0 0 0 0):=HT0.out.below HB2.out HT0.out.lt;obtain⟨c0,c1,c2,c3,c4,c5,c6⟩:=HT2.out.cells;obtain⟨f0,f1,f2,f3,f4,f5,f6⟩:=HT2.out.thaw
  go_wp2_with fail
  obtain⟨r0,r1,r2,r3,r4,r5,r6⟩:=(HT2.out.st7 kd T c0' c1' c2' c3' q').cells;unfold st7 at r0 r1 r2 r3 r4 r5 r6
  (try simp only[Exit.inBlock,Exit.then])
  refine bodyPost_ret (v:=tk7 kd T c0' c1' c2' c3' q' n' ev) (by simp[results,Tryz.results96,go_sem,r0,r1,r2,r3,r4,r5,r6]) rfl ?_;exact HP.out w HW.out
 ·go_enter func96,ntmps96
  go_wp2_with fail
  rw[<-hW];clear hW;refine(HLt.out _).mono ?_;rintro e w0 ⟨rfl,rfl⟩
  go_wp2_with fail
  refine(HC.out _).mono ?_;intro e w1 h;obtain⟨kd,T,c0',c1',c2',c3',q',n',ev,rfl,HB2,HP⟩:=h.goes;clear h;have HT2:Hid (Tk w1 w.heap.size 0 {data:=#[]} 0 0 0 0 0):=HT0.out.below HB2.out HT0.out.lt;obtain⟨c0,c1,c2,c3,c4,c5,c6⟩:=HT2.out.cells;obtain⟨f0,f1,f2,f3,f4,f5,f6⟩:=HT2.out.thaw
  go_wp2_with fail
  obtain⟨r0,r1,r2,r3,r4,r5,r6⟩:=(HT2.out.st7 kd T c0' c1' c2' c3' q').cells;unfold st7 at r0 r1 r2 r3 r4 r5 r6
  (try simp only[Exit.inBlock,Exit.then])
  refine bodyPost_ret (v:=tk7 kd T c0' c1' c2' c3' q' n' ev) (by simp[results,Tryz.results96,go_sem,r0,r1,r2,r3,r4,r5,r6]) rfl ?_;exact HP.out w HW.out
end Go.Proofs.YtlogolpcipiceaaGreatDoor
