/- Lemmas for the last text. Conditions: those that each names. -/
import Derived.Test.YtgnkkgcgbeianaaGreatDoorVX2ToX4
import Derived.Shelf.Lay
import Derived.Shelf.Strconv.Clone
import Derived.Shelf.Strings.Prefix
set_option linter.unusedVariables false
set_option maxRecDepth 100000
set_option maxHeartbeats 4000000
namespace Go.Proofs.YtgnkkgcgbeianaaGreatDoor
open Go.Proofs.Tryz
open Go.RowKit
variable {S:ByteArray} {k x:Nat}
def Db(S:ByteArray):Nat->Nat->Nat
 |0,k=>k
 |f+1,k=>match bt S k with
  |some x=>if Zw x||Gq x then Db S f (k+1)else k
  |none=>k
def ne(S:ByteArray)(k:Nat):Nat:=Db S (S.size-k) k
theorem z1A(h:bt S k=none):ne S k=k:=by
 have:=Xw h;unfold ne;rw[show S.size-k=0 by omega,Db]
theorem Dh(h:bt S k=some x):ne S k=if Zw x||Gq x then ne S (k+1)else k:=by
 have:=(Qp h).1;unfold ne;rw[show S.size-k=(S.size-(k+1))+1 by omega,Db,h]
theorem Px(S:ByteArray):∀f k:Nat,k<=Db S f k/\(f=S.size-k->k<=S.size->Db S f k<=S.size)
 |0,k=>⟨Nat.le_refl _,fun _ h=>h⟩
 |f+1,k=>by
  rw[Db];cases hb:bt S k with
  |none=>exact⟨Nat.le_refl _,fun _ h=>h⟩
  |some x=>
   have:=(Qp hb).1;have o:=Px S f (k+1);simp only;split
   ·exact⟨by omega,fun r t=>o.2 (by omega) (by omega)⟩
   ·exact⟨Nat.le_refl _,fun _ h=>h⟩
theorem Ch(h:k<=S.size):k<=ne S k/\ne S k<=S.size:=⟨(Px S _ k).1,(Px S _ k).2 rfl h⟩
theorem z1B(S:ByteArray)(p:Nat)(w:World)(G:p<=S.size)(Y:S.size<=9007199254740992):
  Calls prog 138 #[.string S,.int .i64 p] w fun e w'=>e=.returned (.int .i64 (ne S p:Int))/\w'=w:=by
 obtain⟨R,t⟩:∃R,R=ne S p:=⟨_,rfl⟩;rw[<-t];have I:Hid (ne S p=R):=t.symm;clear t;go_enter func138,ntmps138
 go_wp2_with fail
 go_loopw [1] (fun a wr=>∃k:Nat,a=.int .i64 k/\k<=S.size/\Hid (ne S k=R)/\wr=w) (fun a _=>S.size-(intOf a).toNat)
 case atStart=>exact⟨p,rfl,G,I,rfl⟩
 case round=>
  obtain⟨k,rfl,Z,h,rfl⟩:=hrel;cases hb:bt S k with
  |none=>
   have aa:=Xw hb;have U:decide ((k:Int)<(S.size:Int))=false:=by simp;omega
   have y:Hid (R=k):=by show _=_;rw[<-h.out,z1A hb]
   clear hb
   go_wp2_with fail
   go_ret;rw[y.out];exact⟨rfl,rfl⟩
  |some x=>
   have o:=(Qp hb).2;obtain⟨hk,ab⟩:=Xv hb;have ac:(k:Int)<(S.size:Int):=by omega
   have U:decide ((k:Int)<(S.size:Int))=true:=by simp;omega
   cases hl:Zw x with
   |true=>
    have A:Hid (ne S (k+1)=R):=by show _=_;rw[<-h.out,Dh hb,hl];simp
    have r:Hid (∀w:World,Calls prog 90 #[.int .u8 x] w fun e w'=>e=.returned (.bool true)/\w'=w):=fun w=>Fk x true hl w o
    clear hb hl h
    go_wp2_with fail
    refine(r.out _).mono ?_;rintro e E ⟨rfl,rfl⟩
    go_wp2_with fail
    go_roundw
    case rel=>exact⟨k+1,by go_num,by omega,A,trivial⟩
    case measure=>simp[intOf];omega
   |false=>
    have r:Hid (∀w:World,Calls prog 90 #[.int .u8 x] w fun e w'=>e=.returned (.bool false)/\w'=w):=fun w=>Fk x false hl w o
    cases hd:Gq x with
    |true=>
     have A:Hid (ne S (k+1)=R):=by show _=_;rw[<-h.out,Dh hb,hl,hd];simp
     have D:Hid (∀w:World,Calls prog 171 #[.int .u8 x] w fun e w'=>e=.returned (.bool true)/\w'=w):=fun w=>z1t x true hd w o
     clear hb hl hd h
     go_wp2_with fail
     refine(r.out _).mono ?_;rintro e E ⟨rfl,rfl⟩
     go_wp2_with fail
     refine(D.out _).mono ?_;rintro e V ⟨rfl,rfl⟩
     go_wp2_with fail
     go_roundw
     case rel=>exact⟨k+1,by go_num,by omega,A,trivial⟩
     case measure=>simp[intOf];omega
    |false=>
     have y:Hid (R=k):=by show _=_;rw[<-h.out,Dh hb,hl,hd];simp
     have D:Hid (∀w:World,Calls prog 171 #[.int .u8 x] w fun e w'=>e=.returned (.bool false)/\w'=w):=fun w=>z1t x false hd w o
     clear hb hl hd h
     go_wp2_with fail
     refine(r.out _).mono ?_;rintro e E ⟨rfl,rfl⟩
     go_wp2_with fail
     refine(D.out _).mono ?_;rintro e V ⟨rfl,rfl⟩
     go_wp2_with fail
     go_ret;rw[y.out];exact⟨rfl,rfl⟩
def nmS(S:ByteArray):Bool:=match bt S 0 with
 |none=>false
 |some x=>decide (S.size<=32)&&Zw x&&decide (ne S 0=S.size)
theorem z8S(S:ByteArray)(w:World)(V:S.size<=9007199254740992):
  Calls prog 281 #[.string S] w fun e w'=>e=.returned (.bool (nmS S))/\w'=w:=by
 have t:Hid (∀w:World,Calls prog 138 #[.string S,.int .i64 0] w fun e w'=>e=.returned (.int .i64 (ne S 0:Int))/\w'=w):=fun w=>z1B S 0 w (Nat.zero_le _) V
 obtain⟨R,y⟩:∃R,R=nmS S:=⟨_,rfl⟩;rw[<-y];cases hb:bt S 0 with
 |none=>
  have D:S.size=0:=by have:=Xw hb;omega
  have Y:S={data:=#[]}:=by
   apply ByteArray.ext;apply Array.eq_empty_of_size_eq_zero;exact D
  have r:Hid (R=false):=by show _=_;rw[y];unfold nmS;rw[hb]
  clear hb y D t;subst Y;go_enter func281,ntmps281
  go_wp2_with fail
  go_ret;rw[r.out];exact⟨rfl,rfl⟩
 |some x=>
  have E:=(Qp hb).2;obtain⟨hk,aa⟩:=Xv hb;have ab:(0:Int)<(S.size:Int):=by omega
  have ac:S.toList.isEmpty=false:=by
   rw[Go.ByteArray.toList_eq];cases h:S.data.toList with
   |nil=>
    have Z:S.data.toList.length=0:=by rw[h];rfl
    have G:S.data.size=S.size:=rfl;rw[Array.length_toList]at Z;omega
   |cons _ _=>rfl
  have o:R=(decide (S.size<=32)&&Zw x&&decide (ne S 0=S.size)):=by rw[y];unfold nmS;rw[hb]
  clear y hb;by_cases h32:S.size<=32
  ·have a0:decide ((S.size:Int)<=32)=true:=by simp;omega
   rw[decide_eq_true h32]at o;cases hl:Zw x with
   |false=>
    have A:Hid (∀w:World,Calls prog 90 #[.int .u8 x] w fun e w'=>e=.returned (.bool false)/\w'=w):=fun w=>Fk x false hl w E
    have r:Hid (R=false):=by show _=_;rw[o,hl];simp
    clear hl o t;go_enter func281,ntmps281
    go_wp2_with fail
    refine(A.out _).mono ?_;rintro e w1 ⟨rfl,rfl⟩
    go_wp2_with fail
    go_ret;rw[r.out];exact⟨rfl,rfl⟩
   |true=>
    have A:Hid (∀w:World,Calls prog 90 #[.int .u8 x] w fun e w'=>e=.returned (.bool true)/\w'=w):=fun w=>Fk x true hl w E
    obtain⟨N,I⟩:∃N,N=ne S 0:=⟨_,rfl⟩;rw[<-I]at t o;obtain⟨v,U⟩:∃v,v=((N:Int) == (S.size:Int)):=⟨_,rfl⟩;have r:Hid (R=v):=by
     show _=_;rw[o,hl,U];by_cases h:N=S.size
     ·rw[h];simp
     ·have G:¬(N:Int)=(S.size:Int):=by omega
      simp[h,G]
    clear hl o I;go_enter func281,ntmps281
    go_wp2_with fail
    refine(A.out _).mono ?_;rintro e w1 ⟨rfl,rfl⟩
    go_wp2_with fail
    refine(t.out _).mono ?_;rintro e w2 ⟨rfl,rfl⟩
    go_wp2_with fail
    go_ret;rw[r.out,U];exact⟨by first|rfl|simp,rfl⟩
  ·have a0:decide ((S.size:Int)<=32)=false:=by simp;omega
   have r:Hid (R=false):=by show _=_;rw[o,decide_eq_false h32];simp
   clear o t;go_enter func281,ntmps281
   go_wp2_with fail
   go_ret;rw[r.out];exact⟨rfl,rfl⟩
def lnd(S:ByteArray):Nat->Nat->Nat
 |0,k=>k
 |f+1,k=>if bt S k=some 10 then k else lnd S f (k+1)
def le(S:ByteArray)(k:Nat):Nat:=lnd S (S.size-k) k
theorem z8T(h:k<S.size):le S k=if bt S k=some 10 then k else le S (k+1):=by
 unfold le;rw[show S.size-k=(S.size-(k+1))+1 by omega,lnd]
theorem z1C(S:ByteArray):∀f k:Nat,f=S.size-k->k<=S.size->k<=lnd S f k/\lnd S f k<=S.size
 |0,k,_,h=>⟨Nat.le_refl _,h⟩
 |f+1,k,hf,h=>by
  rw[lnd];have o:=z1C S f (k+1) (by omega) (by omega);split
  ·exact⟨Nat.le_refl _,h⟩
  ·omega
theorem Cd(h:k<=S.size):k<=le S k/\le S k<=S.size:=z1C S _ k rfl h
theorem Cm(h:bt S k=some x)(hx:x≠10):k<le S k:=by
 have o:=(Qp h).1;rw[z8T o,if_neg (by rw[h];simp;exact hx)];have:=(Cd (S:=S) (k:=k+1) (by omega)).1;omega
theorem Pv(h:bt S k=some x):∃b:UInt8,S.data.toList.drop k=b::S.data.toList.drop (k+1)/\b.toNat=x:=by
 obtain⟨o,hx⟩:=Xv h;have r:k<S.data.toList.length:=by rw[Array.length_toList];exact o
 exact⟨_,List.drop_eq_getElem_cons r,by rw[<-hx];rfl⟩
theorem z1D(S:ByteArray):∀f k:Nat,f=S.size-k->k<=S.size->
  (Lib.indexByte (S.data.toList.drop k) 10= -1/\lnd S f k=S.size)∨(0<=Lib.indexByte (S.data.toList.drop k) 10/\(lnd S f k:Int)=(k:Int)+Lib.indexByte (S.data.toList.drop k) 10)
 |0,k,hf,h=>by
  left;have:k=S.size:=by omega
  rw[List.drop_eq_nil_of_le (by rw[Array.length_toList];exact Nat.le_of_eq this.symm)];exact⟨rfl,by rw[lnd];exact this⟩
 |f+1,k,hf,h=>by
  cases hb:bt S k with
  |none=>have:=Xw hb;omega
  |some x=>
   obtain⟨b,hd,o⟩:=Pv hb;rw[lnd,hb,hd,Lib.indexByte];by_cases hx:x=10
   ·have:(b == 10)=true:=by rw[beq_iff_eq];apply UInt8.toNat.inj;rw[o,hx];rfl
    rw[this,hx];right;simp
   ·have y:(b == 10)=false:=by rw[beq_eq_false_iff_ne];intro e;apply hx;rw[<-o,e];rfl
    have A:¬(some x=some 10):=by simp;exact hx
    rw[y,if_neg A];rcases z1D S f (k+1) (by omega) (by omega)with⟨r,t⟩|⟨r,t⟩
    ·left;rw[r];exact⟨rfl,t⟩
    ·right
     have D:(Lib.indexByte (S.data.toList.drop (k+1)) 10 == -1)=false:=by rw[beq_eq_false_iff_ne];omega
     rw[D];simp only[Bool.false_eq_true,if_false];omega
theorem z1E(S:ByteArray)(p:Nat)(h:p<=S.size):(S.extract p S.size).data.toList=S.data.toList.drop p:=by
 simp only[ByteArray.data_extract,Array.toList_extract];rw[List.extract_eq_take_drop,List.take_of_length_le];rw[List.length_drop,Array.length_toList];exact Nat.le_refl _
theorem z8U(S:ByteArray)(p:Nat)(w:World)(I:p<S.size)(U:S.size<=9007199254740992):
  Calls prog 89 #[.string S,.int .i64 p] w fun e w'=>e=.returned (.int .i64 (le S p:Int))/\w'=w:=by
 have V:(p:Int)<(S.size:Int):=by omega
 have Y:(p:Int)<=(S.size:Int):=by omega
 have D:=(Cd (S:=S) (k:=p) (by omega)).2;have r:=z1D S (S.size-p) p rfl (by omega);have t:Hid (∀w:World,Calls prog 95 #[.string (S.extract p S.size),.int .u8 10] w fun e w'=>e=.returned (.int .i64 (Lib.indexByte (S.data.toList.drop p) 10))/\w'=w):=fun w=>by
  have h:=Oh (S.extract p S.size) 10 w;rw[z1E S p (by omega)]at h;exact h
 obtain⟨i,A⟩:∃i,i=Lib.indexByte (S.data.toList.drop p) 10:=⟨_,rfl⟩;rw[<-A]at t r;obtain⟨L,o⟩:∃L,L=le S p:=⟨_,rfl⟩;rw[<-o]at D ⊢;have E:(i= -1/\L=S.size)∨(0<=i/\(L:Int)=(p:Int)+i):=by rw[o];exact r
 clear r A o;rcases E with⟨rfl,o⟩|⟨Z,o⟩
 ·have y:Hid (L=S.size):=o
  clear o;go_enter func89,ntmps89
  go_wp2_with fail
  refine(t.out _).mono ?_;rintro e G ⟨rfl,rfl⟩
  go_wp2_with fail
  go_ret;rw[y.out];exact⟨rfl,rfl⟩
 ·have y:Hid ((L:Int)=(p:Int)+i):=o
  have a0:decide (0<=i)=true:=by simp;omega
  have b1:(p:Int)+i<9223372036854775808:=by omega
  clear o;go_enter func89,ntmps89
  go_wp2_with fail
  refine(t.out _).mono ?_;rintro e G ⟨rfl,rfl⟩
  go_wp2_with fail
  go_ret;rw[y.out];exact⟨by first|rfl|go_num,rfl⟩
def blB(x:Nat):Bool:=x == 9||(x == 10||(x == 13||x == 32))
def sbl(S:ByteArray):Nat->Nat->Nat
 |0,k=>k
 |f+1,k=>match bt S k with
  |none=>k
  |some x=>if blB x then sbl S f (k+1)else if x=35 then sbl S f (le S k)else k
def sb(S:ByteArray)(k:Nat):Nat:=sbl S (S.size-k) k
theorem Pw(S:ByteArray):∀f g k:Nat,S.size-k<=f->S.size-k<=g->sbl S f k=sbl S g k
 |0,0,_,_,_=>rfl
 |0,g+1,k,hf,_=>by rw[sbl,sbl,Uf (by omega)]
 |f+1,0,k,_,hg=>by rw[sbl,sbl,Uf (by omega)]
 |f+1,g+1,k,hf,hg=>by
  rw[sbl,sbl];cases hb:bt S k with
  |none=>rfl
  |some x=>
   have o:=(Qp hb).1;simp only;split
   ·exact Pw S f g (k+1) (by omega) (by omega)
   ·split
    ·rename_i h
     have:=Cm hb (by omega);exact Pw S f g (le S k) (by omega) (by omega)
    ·rfl
theorem Py(h:bt S k=none):sb S k=k:=by
 have:=Xw h;unfold sb;rw[show S.size-k=0 by omega,sbl]
theorem Cp(h:bt S k=some x):sb S k=if blB x then sb S (k+1)else if x=35 then sb S (le S k)else k:=by
 have o:=(Qp h).1;unfold sb;rw[show S.size-k=(S.size-(k+1))+1 by omega,sbl,h];simp only;split
 ·rfl
 ·split
  ·have:=Cm h (by omega)
   exact Pw S _ _ (le S k) (by omega) (by omega)
  ·rfl
theorem Pf(S:ByteArray):∀f k:Nat,S.size-k<=f->k<=S.size->k<=sb S k/\sb S k<=S.size
 |0,k,hf,h=>by rw[Py (Uf (by omega))];omega
 |f+1,k,hf,h=>by
  cases hb:bt S k with
  |none=>rw[Py hb];omega
  |some x=>
   have r:=(Qp hb).1;rw[Cp hb];split
   ·have:=Pf S f (k+1) (by omega) (by omega);omega
   ·split
    ·have t:=Cm hb (by omega)
     have o:=(Cd (S:=S) (k:=k) h).2;have:=Pf S f (le S k) (by omega) o;omega
    ·omega
theorem z8V(S:ByteArray)(p:Nat)(w:World)(I:p<=S.size)(U:S.size<=9007199254740992):
  Calls prog 56 #[.string S,.int .i64 p] w fun e w'=>e=.returned (.int .i64 (sb S p:Int))/\w'=w:=by
 obtain⟨R,t⟩:∃R,R=sb S p:=⟨_,rfl⟩;rw[<-t];have V:Hid (sb S p=R):=t.symm;clear t;go_enter func56,ntmps56
 go_wp2_with fail
 go_loopw [1] (fun a wr=>∃k:Nat,a=.int .i64 k/\k<=S.size/\Hid (sb S k=R)/\wr=w) (fun a _=>S.size-(intOf a).toNat)
 case atStart=>exact⟨p,rfl,I,V,rfl⟩
 case round=>
  obtain⟨k,rfl,Y,o,rfl⟩:=hrel;cases hb:bt S k with
  |none=>
   have ab:=Xw hb;have Z:decide ((k:Int)<(S.size:Int))=false:=by simp;omega
   have y:Hid (R=k):=by show _=_;rw[<-o.out,Py hb]
   clear hb
   go_wp2_with fail
   go_ret;rw[y.out];exact⟨rfl,rfl⟩
  |some x=>
   have ac:=(Qp hb).2;obtain⟨hk,ad⟩:=Xv hb;have ae:(k:Int)<(S.size:Int):=by omega
   have Z:decide ((k:Int)<(S.size:Int))=true:=by simp;omega
   have hc:(x=9∨x=10∨x=13∨x=32)∨x=35∨(x≠9/\x≠10/\x≠13/\x≠32/\x≠35):=by omega
   rcases hc with h|h|⟨h1,h2,h3,h4,A⟩
   ·have r:Hid (sb S (k+1)=R):=by
     show _=_;rw[<-o.out,Cp hb,if_pos (by unfold blB;rcases h with h|h|h|h<;>rw[h]<;>rfl)]
    clear hb o;rcases h with h|h|h|h
    all_goals
     subst h
     go_wp2_with fail
     go_roundw
     case rel=>exact⟨k+1,by go_num,by omega,r,trivial⟩
     case measure=>simp[intOf];omega
   ·have r:Hid (sb S (le S k)=R):=by
     show _=_;rw[<-o.out,Cp hb,if_neg (by rw[h];decide),if_pos h]
    have D:Hid (∀w:World,Calls prog 89 #[.string S,.int .i64 k] w fun e w'=>e=.returned (.int .i64 (le S k:Int))/\w'=w):=fun w=>z8U S k w hk U
    have aa:k<le S k:=Cm hb (by omega);have E:le S k<=S.size:=(Cd (S:=S) (k:=k) Y).2;obtain⟨L,G⟩:∃L,L=le S k:=⟨_,rfl⟩;rw[<-G]at r D aa E;clear hb o G;subst h
    go_wp2_with fail
    refine(D.out _).mono ?_;rintro e w1 ⟨rfl,rfl⟩
    go_wp2_with fail
    go_roundw
    case rel=>exact⟨L,rfl,E,r,trivial⟩
    case measure=>simp[intOf];omega
   ·have y:Hid (R=k):=by
     show _=_;rw[<-o.out,Cp hb,if_neg (by unfold blB;simp;omega),if_neg A]
    have b1:((x:Int) == 9)=false:=by simp;omega
    have b2:((x:Int) == 10)=false:=by simp;omega
    have b3:((x:Int) == 13)=false:=by simp;omega
    have b4:((x:Int) == 32)=false:=by simp;omega
    have b5:((x:Int) == 35)=false:=by simp;omega
    clear hb o h1 h2 h3 h4 A
    go_wp2_with fail
    (try simp only[Exit.inBlock,Exit.then])
    go_ret;rw[y.out];exact⟨rfl,rfl⟩
end Go.Proofs.YtgnkkgcgbeianaaGreatDoor
namespace Go.Proofs
open Go.Shelf
shelf_lay LaysM.n316 Nm 316 at Tryz as Tryz.laysM316
shelf_lay Lays.n206 Nm 206 at Tryz as Tryz.lays206
end Go.Proofs
namespace Go.Proofs.YtgnkkgcgbeianaaGreatDoor
open Go.Proofs.Tryz
open Go.RowKit
variable {W:World}
theorem z8W(T:ByteArray)(w:World)(h:T.size<=281474976710656):
 Calls prog 51 #[.string T] w fun e w'=>e=.returned (.string T)/\Below w.heap.size w w':=Any.stringslite_Clone Tryz.laysM316 T w h
theorem z8X(s p:ByteArray)(w:World):
 Calls prog 141 #[.string s,.string p] w fun e w'=>e=.returned (.bool (Lib.hasPrefix s.data.toList p.data.toList))/\w'=w:=Any.stringslite_HasPrefix Tryz.lays206 s p w
theorem Kh(T:ByteArray)(w:World)(o:T.size<=281474976710656):
  Calls prog 29 #[.string T] w fun e w'=>e=.returned (.string T)/\Below w.heap.size w w':=by
 go_enter func29,ntmps29
 go_wp2_with fail
 refine(z8W T _ o).mono ?_;rintro e r ⟨rfl,h⟩;have t:Hid (Below w.heap.size w r):=h;clear h
 go_wp2_with fail
 go_ret;exact⟨rfl,t.out⟩
theorem z1F(s p:ByteArray)(w:World):
  Calls prog 94 #[.string s,.string p] w fun e w'=>e=.returned (.bool (Lib.hasPrefix s.data.toList p.data.toList))/\w'=w:=by
 go_enter func94,ntmps94
 go_wp2_with fail
 refine(z8X s p _).mono ?_;rintro e h ⟨rfl,rfl⟩
 go_wp2_with fail
 go_ret;exact⟨rfl,rfl⟩
def Gg(S:ByteArray)(p:Nat)(w:World)(e:Ending)(w':World):Prop:=
 if 32<ne S p-p then Kg (2,p) w e w' else
  e=.returned (.tuple #[.agg #[.int .i64 1,.string (S.extract p (ne S p)),.int .u64 0,.int .u64 0,.int .u64 0,.int .u64 0,.int .i64 p],.int .i64 (ne S p:Int),.nilIface])/\Below w.heap.size w w'
theorem Cc(w:World):∃W,W=w.alloc (.cells #[.int .i64 0,.string ⟨#[]⟩,.int .u64 0,.int .u64 0,.int .u64 0,.int .u64 0,.int .i64 0] 139):=⟨_,rfl⟩
theorem z8Y(S:ByteArray)(p:Nat)(w:World)(hp:p<=S.size)(hS:S.size<=9007199254740992):
  Calls prog 91 #[.string S,.int .i64 p] w fun e w'=>Gg S p w e w':=by
 unfold Gg;have ab:=Ch hp;have Z:Hid (∀w:World,Calls prog 138 #[.string S,.int .i64 p] w fun e w'=>e=.returned (.int .i64 (ne S p:Int))/\w'=w):=fun w=>z1B S p w hp hS
 obtain⟨N,hN⟩:∃N,N=ne S p:=⟨_,rfl⟩;rw[<-hN]at Z ab ⊢;clear hN;obtain⟨af,ag⟩:=ab;have r:Hid (Tk (w.alloc (.cells #[.int .i64 0,.string ⟨#[]⟩,.int .u64 0,.int .u64 0,.int .u64 0,.int .u64 0,.int .i64 0] 139)) w.heap.size 0 {data:=#[]} 0 0 0 0 0):=Tk.new w 0 {data:=#[]} 0 0 0 0 0;by_cases hl:32<N-p
 ·simp only[if_pos hl]
  have a0:decide ((32:Int)<(N:Int)-(p:Int))=true:=by simp;omega
  obtain⟨W,h⟩:=Cc w;have t:Hid (Below w.heap.size w W):=by show Below _ _ _;rw[h];exact B0q.alloc L0q _
  rw[<-h]at r;go_enter func91,ntmps91
  go_wp2_with fail
  rw[<-h];clear h;refine(Z.out _).mono ?_;rintro e A ⟨rfl,rfl⟩;have o:Hid (Tk (A.alloc (.cells #[.int .i64 2,.int .i64 p] 136)) w.heap.size 0 {data:=#[]} 0 0 0 0 0):=r.out.alloc _;obtain⟨c0,c1,c2,c3,c4,c5,c6⟩:=o.out.cells;obtain⟨f0,f1,f2,f3,f4,f5,f6⟩:=o.out.thaw
  go_wp2_with fail
  obtain⟨D,E,G,I,U,V,Y⟩:=(o.out.st7 0 {data:=#[]} 0 0 0 0 0).cells;unfold st7 at D E G I U V Y
  (try simp only[Exit.inBlock,Exit.then])
  refine bodyPost_ret (v:=.tuple #[.agg #[.int .i64 0,.string ⟨#[]⟩,.int .u64 0,.int .u64 0,.int .u64 0,.int .u64 0,.int .i64 0],.int .i64 0,.iface 134 (.pointer (some ⟨A.heap.size,0,none⟩))]) (by simp[results,Tryz.results91,go_sem,D,E,G,I,U,V,Y]) rfl ?_;exact⟨A.heap.size,rfl,Mj (t.out.alloc t.out.size _) (Flt.new A (2,p)) t.out.size (Nat.ne_of_gt r.out.lt)⟩
 ·simp only[if_neg hl]
  have a0:decide ((32:Int)<(N:Int)-(p:Int))=false:=by simp;omega
  have b1:(p:Int)<=(N:Int):=by omega
  have b2:(N:Int)<=(S.size:Int):=by omega
  obtain⟨T,y⟩:∃T,T=S.extract p N:=⟨_,rfl⟩;have ac:T.size<=281474976710656:=by rw[y,ByteArray.size_extract];omega
  have HC:Hid (∀w:World,Calls prog 29 #[.string T] w fun e w'=>e=.returned (.string T)/\Below w.heap.size w w'):=fun w=>Kh T w ac
  rw[y]at HC;obtain⟨W,h⟩:=Cc w;have t:Hid (Below w.heap.size w W):=by show Below _ _ _;rw[h];exact B0q.alloc L0q _
  rw[<-h]at r;rw[<-y];rw[<-y]at HC;have ad:Hid (T=S.extract p N):=y;clear y ac;go_enter func91,ntmps91
  go_wp2_with fail
  rw[<-h];clear h;refine(Z.out _).mono ?_;rintro e A ⟨rfl,rfl⟩
  go_wp2_with fail
  rw[<-ad.out];refine(HC.out _).mono ?_;rintro e w2 ⟨rfl,aa⟩;have ae:Hid (Below w.heap.size w w2):=t.out.trans (aa.mono t.out.size);have o:Hid (Tk w2 w.heap.size 0 {data:=#[]} 0 0 0 0 0):=r.out.below aa r.out.lt;clear aa;obtain⟨c0,c1,c2,c3,c4,c5,c6⟩:=o.out.cells;obtain⟨f0,f1,f2,f3,f4,f5,f6⟩:=o.out.thaw
  go_wp2_with fail
  obtain⟨D,E,G,I,U,V,Y⟩:=(o.out.st7 1 T 0 0 0 0 (p:Int)).cells;unfold st7 at D E G I U V Y
  (try simp only[Exit.inBlock,Exit.then])
  refine bodyPost_ret (v:=.tuple #[.agg #[.int .i64 1,.string T,.int .u64 0,.int .u64 0,.int .u64 0,.int .u64 0,.int .i64 p],.int .i64 N,.nilIface]) (by simp[results,Tryz.results91,go_sem,D,E,G,I,U,V,Y]) rfl ?_;exact⟨rfl,Below.st7 ae.out L0q _ _ _ _ _ _ _⟩
@[reducible] def tk7 (kd:Int) (T:ByteArray) (c0 c1 c2 c3 q n:Int) (ev:Value):Value:=.tuple #[.agg #[.int .i64 kd,.string T,.int .u64 c0,.int .u64 c1,.int .u64 c2,.int .u64 c3,.int .i64 q],.int .i64 n,ev]
def Pg(A:World->Ending->World->Prop)(W:World)(e:Ending)(w1:World):Prop:=
 ∃(kd:Int) (T:ByteArray) (c0 c1 c2 c3 q n:Int) (ev:Value),e=.returned (tk7 kd T c0 c1 c2 c3 q n ev)/\Hid (Below W.heap.size W w1)/\
  Hid (∀w:World,W=w.alloc (.cells #[.int .i64 0,.string ⟨#[]⟩,.int .u64 0,.int .u64 0,.int .u64 0,.int .u64 0,.int .i64 0] 139)->A w e (st7 w1 w.heap.size kd T c0 c1 c2 c3 q))
theorem Pb{w r:World}{o:Obj}(y:W=w.alloc o)(h:Below W.heap.size W r):Below w.heap.size w r:=by
 have t:Below w.heap.size w W:=by rw[y];exact B0q.alloc L0q _
 exact t.trans (h.mono t.size)
theorem z8Z{w:World}{o:Obj}(h:W=w.alloc o):W.heap.size=w.heap.size+1:=by rw[h];simp
theorem Kg.goes{c:Nat×Nat}{r:World}{e:Ending}(h:Kg c W e r):Pg (Kg c) W e r:=by
 obtain⟨f,rfl,o⟩:=h;refine⟨_,_,_,_,_,_,_,_,_,rfl,hid o.out.2.2,hid fun w t=>⟨f,rfl,?_⟩⟩;have y:=z8Z t;have A:=o.out.1;exact Mj (Pb t o.out.2.2) o.out.2.1 (by omega) (by omega)
theorem Gg.goes{S:ByteArray}{p:Nat}{W o:World}{e:Ending}(h:Gg S p W e o):Pg (Gg S p) W e o:=by
 unfold Gg at*;by_cases hl:32<ne S p-p
 ·simp only[if_pos hl]at*;exact h.goes
 ·simp only[if_neg hl]at*
  obtain⟨rfl,r⟩:=h;exact⟨_,_,_,_,_,_,_,_,_,rfl,hid r,hid fun w t=>⟨rfl,Below.st7 (Pb t r) L0q _ _ _ _ _ _ _⟩⟩
theorem Dg.goes{r:Ls}{p:Nat}{W o:World}{e:Ending}(h:Dg r p W e o):Pg (Dg r p) W e o:=by
 cases r with
 |inl c=>exact Kg.goes h
 |inr l=>
  obtain⟨rfl,t⟩:=h;exact⟨_,_,_,_,_,_,_,_,_,rfl,hid t,hid fun w y=>⟨rfl,Below.st7 (Pb y t) L0q _ _ _ _ _ _ _⟩⟩
theorem z9a(S:ByteArray)(p x:Nat)(w:World)(r:bt S p=some x)(hl:Zw x=true)(hS:S.size<=9007199254740992):
  Calls prog 57 #[.string S,.int .i64 p] w fun e w'=>Gg S p w e w':=by
 have aa:=(Qp r).2;obtain⟨hp,ad⟩:=Xv r;have ae:(p:Int)<(S.size:Int):=by omega
 have af:(p:Int)<=(S.size:Int):=by omega
 have ab:Hid (∀w:World,Calls prog 90 #[.int .u8 x] w fun e w'=>e=.returned (.bool true)/\w'=w):=fun w=>Fk x true hl w aa
 obtain⟨W,o⟩:=Cc w;have HW:Hid (W=w.alloc (.cells #[.int .i64 0,.string ⟨#[]⟩,.int .u64 0,.int .u64 0,.int .u64 0,.int .u64 0,.int .i64 0] 139)):=o;have ag:Hid (Below w.heap.size w W):=by show Below _ _ _;rw[o];exact B0q.alloc L0q _
 have y:Hid (Tk W w.heap.size 0 {data:=#[]} 0 0 0 0 0):=by show Tk _ _ _ _ _ _ _ _ _;rw[o];exact Tk.new w 0 {data:=#[]} 0 0 0 0 0
 have HC:Hid (∀w:World,Calls prog 91 #[.string S,.int .i64 p] w fun e w'=>Gg S p w e w'):=fun w=>z8Y S p w (by omega) hS
 clear r hl;go_enter func57,ntmps57
 go_wp2_with fail
 rw[<-o];clear o;refine(ab.out _).mono ?_;rintro e w0 ⟨rfl,rfl⟩
 go_wp2_with fail
 refine(HC.out _).mono ?_;intro e w1 h;obtain⟨kd,T,A,D,E,G,I,n',ev,rfl,ac,HP⟩:=h.goes;clear h;have t:Hid (Tk w1 w.heap.size 0 {data:=#[]} 0 0 0 0 0):=y.out.below ac.out y.out.lt;obtain⟨c0,c1,c2,c3,c4,c5,c6⟩:=t.out.cells;obtain⟨f0,f1,f2,f3,f4,f5,f6⟩:=t.out.thaw
 go_wp2_with fail
 obtain⟨U,V,Y,Z,r4,r5,r6⟩:=(t.out.st7 kd T A D E G I).cells;unfold st7 at U V Y Z r4 r5 r6
 (try simp only[Exit.inBlock,Exit.then])
 refine bodyPost_ret (v:=tk7 kd T A D E G I n' ev) (by simp[results,Tryz.results57,go_sem,U,V,Y,Z,r4,r5,r6]) rfl ?_;exact HP.out w HW.out
theorem z9b(S:ByteArray)(p x:Nat)(w:World)(hb:bt S p=some x)(hq:x=39∨x=34)(hS:S.size<=9007199254740992):
  Calls prog 57 #[.string S,.int .i64 p] w fun e w'=>Dg (ll S x p (p+1) []) p w e w':=by
 have ad:=(Qp hb).2;obtain⟨hp,ae⟩:=Xv hb;have af:(p:Int)<(S.size:Int):=by omega
 have ag:(p:Int)<=(S.size:Int):=by omega
 have hl:Zw x=false:=by rcases hq with rfl|rfl<;>rfl
 have ac:Hid (∀w:World,Calls prog 90 #[.int .u8 x] w fun e w'=>e=.returned (.bool false)/\w'=w):=fun w=>Fk x false hl w ad
 obtain⟨W,o⟩:=Cc w;have HW:Hid (W=w.alloc (.cells #[.int .i64 0,.string ⟨#[]⟩,.int .u64 0,.int .u64 0,.int .u64 0,.int .u64 0,.int .i64 0] 139)):=o;have ah:Hid (Below w.heap.size w W):=by show Below _ _ _;rw[o];exact B0q.alloc L0q _
 have aa:Hid (Tk W w.heap.size 0 {data:=#[]} 0 0 0 0 0):=by show Tk _ _ _ _ _ _ _ _ _;rw[o];exact Tk.new w 0 {data:=#[]} 0 0 0 0 0
 have HC:Hid (∀w:World,Calls prog 92 #[.string S,.int .i64 p] w fun e w'=>Dg (ll S x p (p+1) []) p w e w'):=fun w=>z8R S x p w hb hS
 obtain⟨r,hr⟩:∃r,r=ll S x p (p+1) []:=⟨_,rfl⟩;rw[<-hr]at HC ⊢;clear hb hr hl;rcases hq with rfl|rfl
 ·go_enter func57,ntmps57
  go_wp2_with fail
  rw[<-o];clear o;refine(ac.out _).mono ?_;rintro e w0 ⟨rfl,rfl⟩
  go_wp2_with fail
  refine(HC.out _).mono ?_;intro e w1 h;obtain⟨kd,T,y,A,D,E,G,n',ev,rfl,ab,HP⟩:=h.goes;clear h;have t:Hid (Tk w1 w.heap.size 0 {data:=#[]} 0 0 0 0 0):=aa.out.below ab.out aa.out.lt;obtain⟨c0,c1,c2,c3,c4,c5,c6⟩:=t.out.cells;obtain⟨f0,f1,f2,f3,f4,f5,f6⟩:=t.out.thaw
  go_wp2_with fail
  obtain⟨I,U,V,Y,Z,r5,r6⟩:=(t.out.st7 kd T y A D E G).cells;unfold st7 at I U V Y Z r5 r6
  (try simp only[Exit.inBlock,Exit.then])
  refine bodyPost_ret (v:=tk7 kd T y A D E G n' ev) (by simp[results,Tryz.results57,go_sem,I,U,V,Y,Z,r5,r6]) rfl ?_;exact HP.out w HW.out
 ·go_enter func57,ntmps57
  go_wp2_with fail
  rw[<-o];clear o;refine(ac.out _).mono ?_;rintro e w0 ⟨rfl,rfl⟩
  go_wp2_with fail
  refine(HC.out _).mono ?_;intro e w1 h;obtain⟨kd,T,y,A,D,E,G,n',ev,rfl,ab,HP⟩:=h.goes;clear h;have t:Hid (Tk w1 w.heap.size 0 {data:=#[]} 0 0 0 0 0):=aa.out.below ab.out aa.out.lt;obtain⟨c0,c1,c2,c3,c4,c5,c6⟩:=t.out.cells;obtain⟨f0,f1,f2,f3,f4,f5,f6⟩:=t.out.thaw
  go_wp2_with fail
  obtain⟨I,U,V,Y,Z,r5,r6⟩:=(t.out.st7 kd T y A D E G).cells;unfold st7 at I U V Y Z r5 r6
  (try simp only[Exit.inBlock,Exit.then])
  refine bodyPost_ret (v:=tk7 kd T y A D E G n' ev) (by simp[results,Tryz.results57,go_sem,I,U,V,Y,Z,r5,r6]) rfl ?_;exact HP.out w HW.out
end Go.Proofs.YtgnkkgcgbeianaaGreatDoor
