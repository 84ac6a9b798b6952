/- Lemmas for the last text. Conditions: those that each names. -/
import Derived.Test.YtgnkkgcgbeianaaGreatDoorVZZToX2
import Derived.Deep.RegionHeld3
import Derived.Shelf.Lay
import Derived.Shelf.Strconv.Clone
import Derived.Shelf.Strings.Prefix
import Derived.LaidEql
import Derived.Stop.Asserts
import Derived.RowKitTokens
set_option linter.unusedVariables false
set_option maxRecDepth 100000
set_option maxHeartbeats 4000000
namespace Go.Proofs.YtgnkkgcgbeianaaGreatDoor
open Go.Proofs.Tryz
open Go.RowKit
variable {base g k n p q x:Nat} {w w':World} {v:Value} {acc l:List Nat} {c0 c1 c2 c3 kd:Int}
def nv(l:List Nat):List Value:=l.map fun(x:Nat)=>Value.int .u8 x
theorem Fg(a b:List Nat):nv (a++b)=nv a++nv b:=List.map_append
theorem z0x(a:List Nat):(nv a).length=a.length:=List.length_map ..
theorem Tryz.infoByte:(Tryz.prog.info? 5).map (fun i=>(i.zero,i.size,i.bytes))=some (some (.int .u8 0),1,1):=by kernel_rfl
theorem Vj(w:World)(u:Value)(t:TypeId):∀j x,[u][j]? =some x->(w.alloc (.cells #[u] t)).cell? ((⟨w.heap.size,0,none⟩:Addr).add j)=some x:=by
 intro j x h
 match j,h with
 |0,h=>simp at h;subst h;simp[Addr.add]
theorem Fb(w:World)(u v:Value)(t:TypeId):∀j x,[u,v][j]? =some x->(w.alloc (.cells #[u,v] t)).cell? ((⟨w.heap.size,0,none⟩:Addr).add j)=some x:=by
 intro j x h
 match j,h with
 |0,h=>simp at h;subst h;simp[Addr.add]
 |1,h=>simp at h;subst h;simp[Addr.add]
theorem z0y(w:World)(a b c d:Value)(t:TypeId):∀j x,[a,b,c,d][j]? =some x->(w.alloc (.cells #[a,b,c,d] t)).cell? ((⟨w.heap.size,0,none⟩:Addr).add j)=some x:=by
 intro j x h
 match j,h with
 |0,h=>simp at h;subst h;simp[Addr.add]
 |1,h=>simp at h;subst h;simp[Addr.add]
 |2,h=>simp at h;subst h;simp[Addr.add]
 |3,h=>simp at h;subst h;simp[Addr.add]
theorem Xw(l:List Int):∀u∈l.map (fun x=>Value.int .u8 x),u.oneCell'=true:=by
 intro u h;obtain⟨x,_,rfl⟩:=List.mem_map.1 h;rfl
theorem Bp(q:Nat)(h:q<16)(w:World):(Instr.index 9 (zT {data:=#[48,49,50,51,52,53,54,55,56,57,97,98,99,100,101,102]}) (.int .u8 q)).run prog w=.ok (.int .u8 ((Xl q:Nat):Int)) w:=by
 have:q=0∨q=1∨q=2∨q=3∨q=4∨q=5∨q=6∨q=7∨q=8∨q=9∨q=10∨q=11∨q=12∨q=13∨q=14∨q=15:=by omega
 rcases this with rfl|rfl|rfl|rfl|rfl|rfl|rfl|rfl|rfl|rfl|rfl|rfl|rfl|rfl|rfl|rfl<;>(show(Instr.index 9 _ _).run prog w=_;kernel_rfl)
def nb(l:List Nat):zA:=⟨(l.map UInt8.ofNat).toArray⟩
theorem Qx(w:World)(o:Obj)(h:n=w.heap.size):(w.alloc o).heap[n]? =some o:=by
 subst h;show(w.heap.push o)[w.heap.size]? =_;simp
theorem Uh(l:List Nat):(nb l).size=l.length:=by simp[nb,ByteArray.size]
theorem Jv{e size:Nat}{xs:List Value}(h:w.ownsRow base e size v n xs)(r:0<n):∃g o,v=zS g n o:=by
 obtain⟨_,h|⟨g,o,t,e,_⟩⟩:=h
 ·omega
 ·exact⟨g,o,e⟩
theorem Bc{o:Nat}(h:w.ownsRow base 5 1 (zS g n o) n (nv l))(hl:∀x∈l,x<256):
  (convert 185 9 (zS g n o)).run prog w=.ok (zT (nb l)) w:=by
 have t:l.length=n:=by have:=h.1;rw[z0x]at this;omega
 have:=run_convert_bytes_back w 185 9 5 ⟨g,0,none⟩ o (l.map UInt8.ofNat) Tryz.underlying185 Tryz.underlying5 Tryz.underlying9 (fun j r=>by
  rw[Addr.add_lit,Nat.zero_add];simp at r;rw[h.cellAt j (by omega)];have hx:=hl _ (List.getElem_mem r);simp[nv,r];omega)
 rw[List.length_map,t]at this;exact this
theorem Xh{e size:Nat}{xs:List Value}(h:w.ownsRow base e size v n xs)(o:zB w w'):w'.ownsRow base e size v n xs:=
 h.kept (row:=none) ⟨o.os,o.tape,o.output,o.size,fun j r _=>o.block j r⟩ (by cases hq:v.ownBlock<;>simp)
theorem Tryz.convNil(w:World):(convert 185 9 (.slice none 0 0)).run prog w=.ok (zT (nb [])) w:=by kernel_rfl
theorem Bl(h:w.ownsRow base 5 1 v n (nv l))(hl:∀x∈l,x<256):(convert 185 9 v).run prog w=.ok (zT (nb l)) w:=by
 have o:=h;obtain⟨r,⟨rfl,rfl⟩|⟨g,t,y,rfl,_⟩⟩:=h
 ·have:l=[]:=List.eq_nil_of_length_eq_zero (by rw[z0x]at r;omega)
  subst this;exact Tryz.convNil w
 ·exact Bc o hl
def Tk(w:World)(g:Nat)(kd:Int)(T:zA)(c0 c1 c2 c3:Int)(p:Int):Prop:=w.heap[g]? =some (.cells #[zI kd,zT T,zU c0,zU c1,zU c2,zU c3,zI p] 139)
@[reducible] def st7 (w:World) (g:Nat) (kd:Int) (T:zA) (c0 c1 c2 c3:Int) (p:Int):World:=((((((w.setCell ⟨g,0,none⟩ (zI kd)).setCell ⟨g,1,none⟩ (zT T)).setCell ⟨g,2,none⟩ (zU c0)).setCell ⟨g,3,none⟩ (zU c1)).setCell ⟨g,4,none⟩ (zU c2)).setCell ⟨g,5,none⟩ (zU c3)).setCell ⟨g,6,none⟩ (zI p)
theorem Tk.cells{T:ByteArray}{p:Int}(h:Tk w g kd T c0 c1 c2 c3 p):w.cell? ⟨g,0,none⟩=some (.int .i64 kd)/\w.cell? ⟨g,1,none⟩=some (.string T)/\w.cell? ⟨g,2,none⟩=some (.int .u64 c0)/\w.cell? ⟨g,3,none⟩=some (.int .u64 c1)/\w.cell? ⟨g,4,none⟩=some (.int .u64 c2)/\w.cell? ⟨g,5,none⟩=some (.int .u64 c3)/\w.cell? ⟨g,6,none⟩=some (.int .i64 p):=by
 unfold Tk at h;simp[World.cell?,h]
theorem Tk.thaw{T:zA}{p:Int}(h:Tk w g kd T c0 c1 c2 c3 p):w.frozen? ⟨g,0,none⟩=false/\w.frozen? ⟨g,1,none⟩=false/\w.frozen? ⟨g,2,none⟩=false/\w.frozen? ⟨g,3,none⟩=false/\w.frozen? ⟨g,4,none⟩=false/\w.frozen? ⟨g,5,none⟩=false/\w.frozen? ⟨g,6,none⟩=false:=by
 unfold Tk at h;simp[World.frozen?,h]
theorem Tk.lt{T:zA}{p:Int}(h:Tk w g kd T c0 c1 c2 c3 p):g<w.heap.size:=by
 unfold Tk at h;rcases Nat.lt_or_ge g w.heap.size with o|o
 ·exact o
 ·rw[Array.getElem?_eq_none o]at h;cases h
theorem Tk.below{B:Nat}{T:zA}{p:Int}(h:Tk w g kd T c0 c1 c2 c3 p)(o:Below B w w')(r:g<B):Tk w' g kd T c0 c1 c2 c3 p:=(o.block g r).trans h
theorem Tk.alloc{w:World}{g:Nat}{kd:Int}{T:zA}{c0 c1 c2 c3 p:Int}(h:Tk w g kd T c0 c1 c2 c3 p)(o:Obj):Tk (w.alloc o) g kd T c0 c1 c2 c3 p:=(Below.heap_alloc w o g h.lt).trans h
theorem Tk.new(w:World)(kd:Int)(T:zA)(c0 c1 c2 c3 p:Int):Tk (w.alloc (.cells #[zI kd,zT T,zU c0,zU c1,zU c2,zU c3,zI p] 139)) w.heap.size kd T c0 c1 c2 c3 p:=by
 show(w.heap.push _)[w.heap.size]? =_;simp
theorem Tk.st7{w:World}{g:Nat}{kd:Int}{T:zA}{c0 c1 c2 c3 p:Int}(h:Tk w g kd T c0 c1 c2 c3 p)(o:Int)(r:zA)(t y A D E:Int):Tk (Proofs.YtgnkkgcgbeianaaGreatDoor.st7 w g o r t y A D E) g o r t y A D E:=by
 unfold Tk at*;simp only[World.setCell,Array.getElem?_modify,if_true,Option.map_map];rw[h];simp
theorem Below.st7{B:Nat}{a w:World}(h:Below B a w){g:Nat}(o:B<=g)(kd:Int)(T:zA)(c0 c1 c2 c3 p:Int):Below B a (Proofs.YtgnkkgcgbeianaaGreatDoor.st7 w g kd T c0 c1 c2 c3 p):=
 (((((((h.setCell (p:=⟨g,0,none⟩) o _).setCell (p:=⟨g,1,none⟩) o _).setCell (p:=⟨g,2,none⟩) o _).setCell (p:=⟨g,3,none⟩) o _).setCell (p:=⟨g,4,none⟩) o _).setCell (p:=⟨g,5,none⟩) o _).setCell (p:=⟨g,6,none⟩) o _)
abbrev Ls:=(Nat×Nat) ⊕ (List Nat×Nat)
def Vv(S:zA)(q p:Nat):Nat->Nat->List Nat->Ls
 |0,k,_=>.inl (flt S k)
 |f+1,k,acc=>
  if bt S k=some q then .inr (acc,k+1)else
  match lsg S k with
  | .inl e=>.inl e
  | .inr (b,n)=>if acc.length=255 then .inl (2,p)else Vv S q p f n (acc++[b])
def ll(S:zA)(q p k:Nat)(acc:List Nat):Ls:=Vv S q p (S.size+1-k) k acc
theorem Lb(S:zA)(q p:Nat):∀(f g k:Nat) (acc:List Nat),S.size+1-k<=f->S.size+1-k<=g->Vv S q p f k acc=Vv S q p g k acc
 |0,0,_,_,_,_=>rfl
 |0,g+1,k,acc,hf,_=>by
  have h:=Jl (S:=S) (k:=k) (by omega);have o:lsg S k=.inl (flt S k):=by unfold lsg;rw[h]
  rw[Vv,Vv,h,o];simp
 |f+1,0,k,acc,_,hg=>by
  have h:=Jl (S:=S) (k:=k) (by omega);have o:lsg S k=.inl (flt S k):=by unfold lsg;rw[h]
  rw[Vv,Vv,h,o];simp
 |f+1,g+1,k,acc,hf,hg=>by
  rw[Vv,Vv];split
  ·rfl
  ·cases o:lsg S k with
   |inl e=>rfl
   |inr r=>
    obtain⟨b,n⟩:=r;have:=Bm o;simp only;split
    ·rfl
    ·exact Lb S q p f g n _ (by omega) (by omega)
theorem Cz(S:zA)(q p k:Nat)(acc:List Nat):ll S q p k acc=(if bt S k=some q then .inr (acc,k+1)else
  match lsg S k with
  | .inl e=>.inl e
  | .inr (b,n)=>if acc.length=255 then .inl (2,p)else ll S q p n (acc++[b])):=by
 unfold ll;rw[Lb S q p (S.size+1-k) (S.size+1-k+1) k acc (by omega) (by omega),Vv];split
 ·rfl
 ·cases hm:lsg S k with
  |inl e=>rfl
  |inr r=>
   obtain⟨b,n⟩:=r;have:=Bm hm;simp only;split
   ·rfl
   ·exact Lb S q p _ _ n _ (by omega) (by omega)
theorem z6W{S:zA}(h:bt S k=some q):ll S q p k acc=.inr (acc,k+1):=by rw[Cz,if_pos h]
theorem z6X{S:zA}{e:Nat×Nat}(h:¬bt S k=some q)(o:lsg S k=.inl e):ll S q p k acc=.inl e:=by rw[Cz,if_neg h,o]
theorem z6Y{S:zA}{b:Nat}(h:¬bt S k=some q)(o:lsg S k=.inr (b,n))(hl:acc.length=255):ll S q p k acc=.inl (2,p):=by rw[Cz,if_neg h,o];simp[hl]
theorem z6Z{S:zA}{b:Nat}(h:¬bt S k=some q)(o:lsg S k=.inr (b,n))(hl:acc.length≠255):ll S q p k acc=ll S q p n (acc++[b]):=by rw[Cz,if_neg h,o];simp[hl]
def Lr(w:World)(v:Value)(l:List Nat)(w':World):Prop:=
 Hid (zB w w')/\Hid (w'.ownsRow (w.heap.size+1) 5 1 v l.length (nv l))/\Hid (Tk w' w.heap.size 0 {data:=#[]} 0 0 0 0 0)
theorem Lr.keep{W:World}(h:Lr w v l W)(o:zB W w'):Lr w v l w':=
 ⟨hid (h.1.out.trans (o.mono h.1.out.size)),hid (Xh h.2.1.out o),hid (h.2.2.out.below o h.2.2.out.lt)⟩
def Fh(S:zA):Nat->Nat->Nat
 |0,k=>k
 |f+1,k=>match bt S k with
  |some x=>if Zp x||Nk x then Fh S f (k+1)else k
  |none=>k
def ne(S:zA)(k:Nat):Nat:=Fh S (S.size-k) k
theorem z7a{S:zA}(h:bt S k=none):ne S k=k:=by
 have:=Yy h;unfold ne;rw[show S.size-k=0 by omega,Fh]
theorem Cq{S:zA}(h:bt S k=some x):ne S k=if Zp x||Nk x then ne S (k+1)else k:=by
 have:=(Zj h).1;unfold ne;rw[show S.size-k=(S.size-(k+1))+1 by omega,Fh,h]
theorem Lh(S:zA):∀f k:Nat,k<=Fh S f k/\(f=S.size-k->k<=S.size->Fh S f k<=S.size)
 |0,k=>⟨Nat.le_refl _,fun _ h=>h⟩
 |f+1,k=>by
  rw[Fh];cases hb:bt S k with
  |none=>exact⟨Nat.le_refl _,fun _ h=>h⟩
  |some x=>
   have:=(Zj hb).1;have o:=Lh S f (k+1);simp only;split
   ·exact⟨by omega,fun r t=>o.2 (by omega) (by omega)⟩
   ·exact⟨Nat.le_refl _,fun _ h=>h⟩
theorem z0z{S:zA}(h:k<=S.size):k<=ne S k/\ne S k<=S.size:=⟨(Lh S _ k).1,(Lh S _ k).2 rfl h⟩
theorem z0A(S:zA)(p:Nat)(w:World)(G:p<=S.size)(Y:S.size<=9007199254740992):
  Calls prog 138 #[zT S,zI (p:Int)] w fun e w'=>e=.returned (zI (ne S p:Int))/\w'=w:=by
 obtain⟨R,t⟩:∃R,R=ne S p:=⟨_,rfl⟩;rw[<-t];have I:Hid (ne S p=R):=t.symm;clear t;go_enter func138,ntmps138
 go_wp2_with fail
 go_loopw [1] (fun a wr=>∃k:Nat,a=zI (k:Int)/\k<=S.size/\Hid (ne S k=R)/\wr=w) (fun a _=>S.size-(intOf a).toNat)
 case atStart=>exact⟨p,rfl,G,I,rfl⟩
 case round=>
  obtain⟨k,rfl,Z,h,rfl⟩:=hrel;cases hb:bt S k with
  |none=>
   have aa:=Yy hb;have U:decide ((k:Int)<(S.size:Int))=false:=by simp;omega
   have y:Hid (R=k):=by show _=_;rw[<-h.out,z7a hb]
   clear hb
   go_wp2_with fail
   go_ret;rw[y.out];exact⟨rfl,rfl⟩
  |some x=>
   have o:=(Zj hb).2;obtain⟨hk,ab⟩:=Yz hb;have ac:(k:Int)<(S.size:Int):=by omega
   have U:decide ((k:Int)<(S.size:Int))=true:=by simp;omega
   cases hl:Zp x with
   |true=>
    have A:Hid (ne S (k+1)=R):=by show _=_;rw[<-h.out,Cq hb,hl];simp
    have r:Hid (∀w:World,Calls prog 90 #[.int .u8 x] w fun e w'=>e=.returned (.bool true)/\w'=w):=fun w=>Ff x true hl w o
    clear hb hl h
    go_wp2_with fail
    refine(r.out _).mono ?_;rintro e E ⟨rfl,rfl⟩
    go_wp2_with fail
    go_roundw
    case rel=>exact⟨k+1,by go_num,by omega,A,trivial⟩
    case measure=>simp[intOf];omega
   |false=>
    have r:Hid (∀w:World,Calls prog 90 #[.int .u8 x] w fun e w'=>e=.returned (.bool false)/\w'=w):=fun w=>Ff x false hl w o
    cases hd:Nk x with
    |true=>
     have A:Hid (ne S (k+1)=R):=by show _=_;rw[<-h.out,Cq hb,hl,hd];simp
     have D:Hid (∀w:World,Calls prog 171 #[.int .u8 x] w fun e w'=>e=.returned (.bool true)/\w'=w):=fun w=>z0v x true hd w o
     clear hb hl hd h
     go_wp2_with fail
     refine(r.out _).mono ?_;rintro e E ⟨rfl,rfl⟩
     go_wp2_with fail
     refine(D.out _).mono ?_;rintro e V ⟨rfl,rfl⟩
     go_wp2_with fail
     go_roundw
     case rel=>exact⟨k+1,by go_num,by omega,A,trivial⟩
     case measure=>simp[intOf];omega
    |false=>
     have y:Hid (R=k):=by show _=_;rw[<-h.out,Cq hb,hl,hd];simp
     have D:Hid (∀w:World,Calls prog 171 #[.int .u8 x] w fun e w'=>e=.returned (.bool false)/\w'=w):=fun w=>z0v x false hd w o
     clear hb hl hd h
     go_wp2_with fail
     refine(r.out _).mono ?_;rintro e E ⟨rfl,rfl⟩
     go_wp2_with fail
     refine(D.out _).mono ?_;rintro e V ⟨rfl,rfl⟩
     go_wp2_with fail
     go_ret;rw[y.out];exact⟨rfl,rfl⟩
def nmS(S:zA):Bool:=match bt S 0 with
 |none=>false
 |some x=>decide (S.size<=32)&&Zp x&&decide (ne S 0=S.size)
theorem z7b(S:zA)(w:World)(V:S.size<=9007199254740992):
  Calls prog 281 #[zT S] w fun e w'=>e=.returned (.bool (nmS S))/\w'=w:=by
 have t:Hid (∀w:World,Calls prog 138 #[zT S,zI 0] w fun e w'=>e=.returned (zI (ne S 0:Int))/\w'=w):=fun w=>z0A S 0 w (Nat.zero_le _) V
 obtain⟨R,y⟩:∃R,R=nmS S:=⟨_,rfl⟩;rw[<-y];cases hb:bt S 0 with
 |none=>
  have D:S.size=0:=by have:=Yy hb;omega
  have Y:S={data:=#[]}:=by
   apply ByteArray.ext;apply Array.eq_empty_of_size_eq_zero;exact D
  have r:Hid (R=false):=by show _=_;rw[y];unfold nmS;rw[hb]
  clear hb y D t;subst Y;go_enter func281,ntmps281
  go_wp2_with fail
  go_ret;rw[r.out];exact⟨rfl,rfl⟩
 |some x=>
  have E:=(Zj hb).2;obtain⟨hk,aa⟩:=Yz hb;have ab:(0:Int)<(S.size:Int):=by omega
  have ac:S.toList.isEmpty=false:=by
   rw[Go.ByteArray.toList_eq];cases h:S.data.toList with
   |nil=>
    have Z:S.data.toList.length=0:=by rw[h];rfl
    have G:S.data.size=S.size:=rfl;rw[Array.length_toList]at Z;omega
   |cons _ _=>rfl
  have o:R=(decide (S.size<=32)&&Zp x&&decide (ne S 0=S.size)):=by rw[y];unfold nmS;rw[hb]
  clear y hb;by_cases h32:S.size<=32
  ·have a0:decide ((S.size:Int)<=32)=true:=by simp;omega
   rw[decide_eq_true h32]at o;cases hl:Zp x with
   |false=>
    have A:Hid (∀w:World,Calls prog 90 #[.int .u8 x] w fun e w'=>e=.returned (.bool false)/\w'=w):=fun w=>Ff x false hl w E
    have r:Hid (R=false):=by show _=_;rw[o,hl];simp
    clear hl o t;go_enter func281,ntmps281
    go_wp2_with fail
    refine(A.out _).mono ?_;rintro e w1 ⟨rfl,rfl⟩
    go_wp2_with fail
    go_ret;rw[r.out];exact⟨rfl,rfl⟩
   |true=>
    have A:Hid (∀w:World,Calls prog 90 #[.int .u8 x] w fun e w'=>e=.returned (.bool true)/\w'=w):=fun w=>Ff x true hl w E
    obtain⟨N,I⟩:∃N,N=ne S 0:=⟨_,rfl⟩;rw[<-I]at t o;obtain⟨v,U⟩:∃v,v=((N:Int) == (S.size:Int)):=⟨_,rfl⟩;have r:Hid (R=v):=by
     show _=_;rw[o,hl,U];by_cases h:N=S.size
     ·rw[h];simp
     ·have G:¬(N:Int)=(S.size:Int):=by omega
      simp[h,G]
    clear hl o I;go_enter func281,ntmps281
    go_wp2_with fail
    refine(A.out _).mono ?_;rintro e w1 ⟨rfl,rfl⟩
    go_wp2_with fail
    refine(t.out _).mono ?_;rintro e w2 ⟨rfl,rfl⟩
    go_wp2_with fail
    go_ret;rw[r.out,U];exact⟨by first|rfl|simp,rfl⟩
  ·have a0:decide ((S.size:Int)<=32)=false:=by simp;omega
   have r:Hid (R=false):=by show _=_;rw[o,decide_eq_false h32];simp
   clear o t;go_enter func281,ntmps281
   go_wp2_with fail
   go_ret;rw[r.out];exact⟨rfl,rfl⟩
def lnd(S:zA):Nat->Nat->Nat
 |0,k=>k
 |f+1,k=>if bt S k=some 10 then k else lnd S f (k+1)
def le(S:zA)(k:Nat):Nat:=lnd S (S.size-k) k
theorem z7c{S:zA}(h:k<S.size):le S k=if bt S k=some 10 then k else le S (k+1):=by
 unfold le;rw[show S.size-k=(S.size-(k+1))+1 by omega,lnd]
theorem z0B(S:zA):∀f k:Nat,f=S.size-k->k<=S.size->k<=lnd S f k/\lnd S f k<=S.size
 |0,k,_,h=>⟨Nat.le_refl _,h⟩
 |f+1,k,hf,h=>by
  rw[lnd];have o:=z0B S f (k+1) (by omega) (by omega);split
  ·exact⟨Nat.le_refl _,h⟩
  ·omega
theorem z0C{S:zA}(h:k<=S.size):k<=le S k/\le S k<=S.size:=z0B S _ k rfl h
theorem Ld{S:zA}(h:bt S k=some x)(hx:x≠10):k<le S k:=by
 have o:=(Zj h).1;rw[z7c o,if_neg (by rw[h];simp;exact hx)];have:=(z0C (S:=S) (k:=k+1) (by omega)).1;omega
theorem z0D{S:zA}(h:bt S k=some x):∃b:UInt8,S.data.toList.drop k=b::S.data.toList.drop (k+1)/\b.toNat=x:=by
 obtain⟨o,hx⟩:=Yz h;have r:k<S.data.toList.length:=by rw[Array.length_toList];exact o
 exact⟨_,List.drop_eq_getElem_cons r,by rw[<-hx];rfl⟩
theorem z7d(S:zA)(p:Nat)(h:p<=S.size):(S.extract p S.size).data.toList=S.data.toList.drop p:=by
 simp only[ByteArray.data_extract,Array.toList_extract];rw[List.extract_eq_take_drop,List.take_of_length_le];rw[List.length_drop,Array.length_toList];exact Nat.le_refl _
def blB(x:Nat):Bool:=x == 9||(x == 10||(x == 13||x == 32))
def sbl(S:zA):Nat->Nat->Nat
 |0,k=>k
 |f+1,k=>match bt S k with
  |none=>k
  |some x=>if blB x then sbl S f (k+1)else if x=35 then sbl S f (le S k)else k
def sb(S:zA)(k:Nat):Nat:=sbl S (S.size-k) k
theorem Lm(S:zA):∀f g k:Nat,S.size-k<=f->S.size-k<=g->sbl S f k=sbl S g k
 |0,0,_,_,_=>rfl
 |0,g+1,k,hf,_=>by rw[sbl,sbl,Jl (by omega)]
 |f+1,0,k,_,hg=>by rw[sbl,sbl,Jl (by omega)]
 |f+1,g+1,k,hf,hg=>by
  rw[sbl,sbl];cases hb:bt S k with
  |none=>rfl
  |some x=>
   have o:=(Zj hb).1;simp only;split
   ·exact Lm S f g (k+1) (by omega) (by omega)
   ·split
    ·rename_i h
     have:=Ld hb (by omega);exact Lm S f g (le S k) (by omega) (by omega)
    ·rfl
theorem Lp{S:zA}(h:bt S k=none):sb S k=k:=by
 have:=Yy h;unfold sb;rw[show S.size-k=0 by omega,sbl]
theorem Lc{S:zA}(h:bt S k=some x):sb S k=if blB x then sb S (k+1)else if x=35 then sb S (le S k)else k:=by
 have o:=(Zj h).1;unfold sb;rw[show S.size-k=(S.size-(k+1))+1 by omega,sbl,h];simp only;split
 ·rfl
 ·split
  ·have:=Ld h (by omega)
   exact Lm S _ _ (le S k) (by omega) (by omega)
  ·rfl
theorem Ll(S:zA):∀f k:Nat,S.size-k<=f->k<=S.size->k<=sb S k/\sb S k<=S.size
 |0,k,hf,h=>by rw[Lp (Jl (by omega))];omega
 |f+1,k,hf,h=>by
  cases hb:bt S k with
  |none=>rw[Lp hb];omega
  |some x=>
   have r:=(Zj hb).1;rw[Lc hb];split
   ·have:=Ll S f (k+1) (by omega) (by omega);omega
   ·split
    ·have t:=Ld hb (by omega)
     have o:=(z0C (S:=S) (k:=k) h).2;have:=Ll S f (le S k) (by omega) o;omega
    ·omega
end Go.Proofs.YtgnkkgcgbeianaaGreatDoor
namespace Go.Proofs
open Go.Shelf
shelf_lay LaysM.n316 Nm 316 at Tryz as Tryz.laysM316
shelf_lay Lays.n206 Nm 206 at Tryz as Tryz.lays206
end Go.Proofs
namespace Go.Proofs.YtgnkkgcgbeianaaGreatDoor
open Go.Proofs.Tryz
open Go.RowKit
variable {k n p x:Nat} {w:World}
theorem z7e(T:zA)(w:World)(h:T.size<=281474976710656):
 Calls prog 51 #[zT T] w fun e w'=>e=.returned (zT T)/\zB w w':=Any.stringslite_Clone Tryz.laysM316 T w h
theorem z7f(s p:zA)(w:World):
 Calls prog 141 #[zT s,zT p] w fun e w'=>e=.returned (.bool (Lib.hasPrefix s.data.toList p.data.toList))/\w'=w:=Any.stringslite_HasPrefix Tryz.lays206 s p w
theorem Dh(T:zA)(w:World)(o:T.size<=281474976710656):
  Calls prog 29 #[zT T] w fun e w'=>e=.returned (zT T)/\zB w w':=by
 go_enter func29,ntmps29
 go_wp2_with fail
 refine(z7e T _ o).mono ?_;rintro e r ⟨rfl,h⟩;have t:Hid (zB w r):=h;clear h
 go_wp2_with fail
 go_ret;exact⟨rfl,t.out⟩
theorem Oz(s p:zA)(w:World):
  Calls prog 94 #[zT s,zT p] w fun e w'=>e=.returned (.bool (Lib.hasPrefix s.data.toList p.data.toList))/\w'=w:=by
 go_enter func94,ntmps94
 go_wp2_with fail
 refine(z7f s p _).mono ?_;rintro e h ⟨rfl,rfl⟩
 go_wp2_with fail
 go_ret;exact⟨rfl,rfl⟩
@[reducible] def tk7 (kd:Int) (T:zA) (c0 c1 c2 c3 q n:Int) (ev:Value):Value:=.tuple #[.agg #[zI kd,zT T,zU c0,zU c1,zU c2,zU c3,zI q],zI n,ev]
def arB(S:zA)(p:Nat):Bool:=bt S p == some 60&&bt S (p+1) == some 45
theorem z0E{b:UInt8}(r:b.toNat=x)(t:k<256):(UInt8.ofNat k == b)=(x == k):=by
 by_cases h:x=k
 ·have o:UInt8.ofNat k=b:=by apply UInt8.toNat.inj;rw[r,h,UInt8.toNat_ofNat'];omega
  rw[o,h];simp
 ·have o:UInt8.ofNat k≠b:=fun e=>h (by rw[<-r,<-e,UInt8.toNat_ofNat'];omega)
  rw[beq_eq_false_iff_ne.2 o,beq_eq_false_iff_ne.2 h]
theorem z7g{S:zA}(h:bt S p=some x):Lib.hasPrefix (S.data.toList.drop p) [60,45]=arB S p:=by
 obtain⟨b,o,r⟩:=z0D h;unfold Lib.hasPrefix arB;rw[o,h,List.isPrefixOf];have t:((60:UInt8) == b)=(x == 60):=z0E r (by decide);rw[t];congr 1;cases hb:bt S (p+1)with
 |none=>
  have:=Yy hb;rw[List.drop_eq_nil_of_le (by rw[Array.length_toList];exact this)];rfl
 |some y=>
  obtain⟨A,D,E⟩:=z0D hb;rw[D,List.isPrefixOf];have G:((45:UInt8) == A)=(y == 45):=z0E E (by decide);rw[G,List.isPrefixOf];simp
theorem z0F{S:zA}(h:bt S p=some x)(w:World):Calls prog 94 #[zT (S.extract p S.size),zT {data:=#[60,45]}] w fun e w'=>e=.returned (.bool (arB S p))/\w'=w:=by
 have o:=Oz (S.extract p S.size) {data:=#[60,45]} w;rw[z7d S p (by have:=(Zj h).1;omega),show({data:=#[60,45]}:zA).data.toList=[60,45]from rfl,z7g h]at o;exact o
theorem z7h(w:World)(b:Nat)(h:b<256):(convert 185 9 (zS w.heap.size 1 1)).run prog (w.alloc (.cells #[.int .u8 b] 5))=.ok (zT (nb [b])) (w.alloc (.cells #[.int .u8 b] 5)):=
 Bc (base:=w.heap.size) (l:=[b]) ⟨rfl,.inr ⟨w.heap.size,1,#[.int .u8 b],rfl,Nat.le_refl _,Qx _ _ rfl,Nat.le_refl _,by unfold maxLen;omega,rfl,rfl⟩⟩ (fun x hx=>by simp at hx;omega)
theorem z7i(S:zA)(p x:Nat)(w:World)(o:bt S p=some x)(ha:arB S p=true)(hx:x=60)(hS:S.size<=9007199254740992):
  Calls prog 57 #[zT S,zI (p:Int)] w fun e w'=>(fun w e w'=>e=.returned (tk7 2 {data:=#[]} 0 0 0 0 (p:Int) ((p:Int)+2) .nilIface)/\zB w w') w e w':=by
 have U:=(Zj o).2;obtain⟨hp,aa⟩:=Yz o;have ab:(p:Int)<(S.size:Int):=by omega
 have ac:(p:Int)<=(S.size:Int):=by omega
 have V:Hid (∀w:World,Calls prog 90 #[.int .u8 x] w fun e w'=>e=.returned (.bool false)/\w'=w):=fun w=>Ff x false (by rw[hx];rfl) w U
 obtain⟨W,h⟩:∃W,W=w.alloc (.cells #[zI 0,zT {data:=#[]},zU 0,zU 0,zU 0,zU 0,zI 0] 139):=⟨_,rfl⟩;have HW:Hid (W=w.alloc (.cells #[zI 0,zT {data:=#[]},zU 0,zU 0,zU 0,zU 0,zI 0] 139)):=h;have Y:Hid (zB w W):=by show Below _ _ _;rw[h];exact B0q.alloc L0q _
 have r:Hid (Tk W w.heap.size 0 {data:=#[]} 0 0 0 0 0):=by show Tk _ _ _ _ _ _ _ _ _;rw[h];exact Tk.new w 0 {data:=#[]} 0 0 0 0 0
 have Z:Hid (∀w:World,Calls prog 94 #[zT (S.extract p S.size),zT {data:=#[60,45]}] w fun e w'=>e=.returned (.bool true)/\w'=w):=fun w=>ha▸z0F o w
 clear o ha;subst hx;go_enter func57,ntmps57
 go_wp2_with fail
 rw[<-h];clear h;refine(V.out _).mono ?_;rintro e w0 ⟨rfl,rfl⟩
 go_wp2_with fail
 refine(Z.out _).mono ?_;rintro e w1 ⟨rfl,rfl⟩;obtain⟨c0,c1,c2,c3,c4,c5,c6⟩:=r.out.cells;obtain⟨f0,f1,f2,f3,f4,f5,f6⟩:=r.out.thaw
 go_wp2_with fail
 obtain⟨t,y,A,D,E,G,I⟩:=(r.out.st7 2 {data:=#[]} 0 0 0 0 (p:Int)).cells;unfold st7 at t y A D E G I
 (try simp only[Exit.inBlock,Exit.then])
 refine bodyPost_ret (v:=tk7 2 {data:=#[]} 0 0 0 0 (p:Int) ((p:Int)+2) .nilIface) (by simp[results,Tryz.results57,go_sem,t,y,A,D,E,G,I]) rfl ?_;exact⟨rfl,Below.st7 Y.out L0q _ _ _ _ _ _ _⟩
theorem z7j(S:zA)(p x:Nat)(w:World)(o:bt S p=some x)(hl:Zp x=false)(hq:x≠39/\x≠34/\x≠91)(ha:arB S p=false)(D:mkB x=true)(hS:S.size<=9007199254740992):
  Calls prog 57 #[zT S,zI (p:Int)] w fun e w'=>(fun w e w'=>e=.returned (tk7 5 (nb [x]) 0 0 0 0 (p:Int) ((p:Int)+1) .nilIface)/\zB w w') w e w':=by
 have t:=(Zj o).2;obtain⟨hp,ae⟩:=Yz o;have af:(p:Int)<(S.size:Int):=by omega
 have ag:(p:Int)<=(S.size:Int):=by omega
 have aa:Hid (∀w:World,Calls prog 90 #[.int .u8 x] w fun e w'=>e=.returned (.bool false)/\w'=w):=fun w=>Ff x false hl w t
 obtain⟨W,h⟩:∃W,W=w.alloc (.cells #[zI 0,zT {data:=#[]},zU 0,zU 0,zU 0,zU 0,zI 0] 139):=⟨_,rfl⟩;have HW:Hid (W=w.alloc (.cells #[zI 0,zT {data:=#[]},zU 0,zU 0,zU 0,zU 0,zI 0] 139)):=h;have E:Hid (zB w W):=by show Below _ _ _;rw[h];exact B0q.alloc L0q _
 have ab:Hid (Tk W w.heap.size 0 {data:=#[]} 0 0 0 0 0):=by show Tk _ _ _ _ _ _ _ _ _;rw[h];exact Tk.new w 0 {data:=#[]} 0 0 0 0 0
 have HA:Hid (∀w:World,Calls prog 94 #[zT (S.extract p S.size),zT {data:=#[60,45]}] w fun e w'=>e=.returned (.bool false)/\w'=w):=fun w=>ha▸z0F o w
 have b1:((x:Int) == 39)=false:=by simp;omega
 have b2:((x:Int) == 34)=false:=by simp;omega
 have b3:((x:Int) == 91)=false:=by simp;omega
 obtain⟨i,y⟩:∃i:Int,i=Lib.indexByte [47,38,33,63,42,43,40,41,46] x.toUInt8:=⟨_,rfl⟩;have HI:Hid (∀w:World,Calls prog 95 #[zT {data:=#[47,38,33,63,42,43,40,41,46]},.int .u8 x] w fun e w'=>e=.returned (zI i)/\w'=w):=fun w=>by rw[y];exact z6S {data:=#[47,38,33,63,42,43,40,41,46]} x w
 have ac:decide (0<=i)=true:=by rw[y,z6T x t,D]
 have ah:0<=i:=by simpa using ac
 have ad:=fun w=>z7h w x t
 obtain⟨r,G⟩:∃r,r=nb [x]:=⟨_,rfl⟩;rw[<-G]at ad ⊢;clear o hl hq ha D y G;go_enter func57,ntmps57
 go_wp2_with fail
 rw[<-h];clear h;refine(aa.out _).mono ?_;rintro e w0 ⟨rfl,rfl⟩
 go_wp2_with fail
 refine(HA.out _).mono ?_;rintro e w1 ⟨rfl,rfl⟩
 go_wp2_with fail
 refine(HI.out _).mono ?_;rintro e w2 ⟨rfl,rfl⟩;have A:Hid (Tk (w2.alloc (.cells #[.int .u8 x] 5)) w.heap.size 0 {data:=#[]} 0 0 0 0 0):=ab.out.alloc _;obtain⟨c0,c1,c2,c3,c4,c5,c6⟩:=A.out.cells;obtain⟨f0,f1,f2,f3,f4,f5,f6⟩:=A.out.thaw
 go_wp2_with fail
 obtain⟨I,U,V,Y,Z,r5,r6⟩:=(A.out.st7 5 r 0 0 0 0 (p:Int)).cells;unfold st7 at I U V Y Z r5 r6
 (try simp only[Exit.inBlock,Exit.then])
 refine bodyPost_ret (v:=tk7 5 r 0 0 0 0 (p:Int) ((p:Int)+1) .nilIface) (by simp[results,Tryz.results57,go_sem,I,U,V,Y,Z,r5,r6]) rfl ?_;exact⟨rfl,Below.st7 (E.out.alloc E.out.size _) L0q _ _ _ _ _ _ _⟩
open Go.Extern.Stop Go.Stop Go.Extern
def Ud(w:World):Prop:=w.cell? ⟨0,0,none⟩=some (.iface 168 (.agg #[zP (6) (30)]))
theorem Ud.lt(h:Ud w):0<w.heap.size:=by
 unfold Ud at h;rcases Nat.lt_or_ge 0 w.heap.size with o|o
 ·exact o
 ·simp[World.cell?,Array.getElem?_eq_none o]at h
theorem Ud.below{w':World}{B:Nat}(h:Ud w)(o:Below B w w')(r:0<B):Ud w':=(o.cell (p:=⟨0,0,none⟩) r).trans h
theorem z7k{o:World}{b:Nat}(h:o.heap[b]? =w.heap[b]?):o.cell? ⟨b,k,none⟩=w.cell? ⟨b,k,none⟩:=by simp[World.cell?,h]
abbrev Tok:=Nat×ByteArray×Nat×Nat
@[reducible] def tkv (t:Tok):Value:=.agg #[zI (t.1:Int),zT t.2.1,zU (wd t.2.2.1 0:Nat),zU (wd t.2.2.1 1:Nat),zU (wd t.2.2.1 2:Nat),zU (wd t.2.2.1 3:Nat),zI (t.2.2.2:Int)]
def Um(S:zA)(p x:Nat):(Bool×(Nat×Nat)) ⊕ (Tok×Nat):=
 if Zp x then(if 32<ne S p-p then .inl (false,(2,p))else .inr ((1,S.extract p (ne S p),0,p),ne S p))
 else if x=39∨x=34 then(match ll S x p (p+1) []with
  | .inl c=>.inl (false,c)
  | .inr (l,n)=>.inr ((3,nb l,0,p),n))
 else if x=91 then(match Ly (S.extract p S.size)with
  | .inl c=>.inl (true,c)
  | .inr (C,n)=>.inr ((4,{data:=#[]},C,p),p+n))
 else if arB S p then .inr ((2,{data:=#[]},0,p),p+2)
 else if mkB x then .inr ((5,nb [x],0,p),p+1)
 else .inl (false,(4,p))
theorem z0G(S:zA)(q p:Nat):∀(f k:Nat) (acc l:List Nat) (n:Nat),Vv S q p f k acc=.inr (l,n)->(∀x∈acc,x<256)->acc.length<=255->k<n/\n<=S.size/\(∀x∈l,x<256)/\l.length<=255/\l.length+k<=acc.length+n
 |0,k,acc,l,n,h,_,_=>by rw[Vv]at h;cases h
 |f+1,k,acc,l,n,h,ha,hl=>by
  rw[Vv]at h;split at h
  ·rename_i o
   simp only[Sum.inr.injEq,Prod.mk.injEq]at h;have:=(Zj o).1;obtain⟨rfl,rfl⟩:=h;exact⟨by omega,by omega,ha,hl,by omega⟩
  ·split at h
   ·cases h
   ·rename_i b m r
    have t:=Bm r;split at h
    ·cases h
    ·have:=z0G S q p f m (acc++[b]) l n h (fun x hx=>by
      rcases List.mem_append.1 hx with h|h
      ·exact ha x h
      ·simp at h;omega) (by simp;omega)
     simp at this;exact⟨by omega,this.2.1,this.2.2.1,this.2.2.2.1,by omega⟩
theorem z7l{S:zA}{q:Nat}{l:List Nat}(h:ll S q p k []=.inr (l,n)):k<n/\n<=S.size/\(∀x∈l,x<256)/\l.length<=255/\l.length+k<=n:=by
 have:=z0G S q p _ k [] l n h (fun x hx=>by simp at hx) (by simp);simpa using this
theorem z7m(S:zA)(p:Nat)(h:p<=S.size):(S.extract p S.size).size=S.size-p:=by simp[ByteArray.size_extract]
theorem z7n{S:zA}(h:arB S p=true):p+1<S.size:=by
 unfold arB at h;simp at h;exact(Zj h.2).1
theorem Nv{S:zA}{t:Tok}(r:bt S p=some x)(h:Um S p x=.inr (t,n)):
  p<n/\n<=S.size/\t.2.2.1<2^256/\t.2.2.2=p/\1<=t.1/\t.1<=5/\t.2.1.size<=S.size:=by
 have D:=(Zj r).1;unfold Um at h;split at h
 ·rename_i hl
  split at h
  ·cases h
  ·simp only[Sum.inr.injEq,Prod.mk.injEq]at h
   obtain⟨rfl,rfl⟩:=h;have y:ne S p=ne S (p+1):=by rw[Cq r,hl];simp
   have A:=z0z (S:=S) (k:=p+1) (by omega);refine⟨by omega,by omega,show(0:Nat)<2^256 by decide,rfl,show 1<=(1:Nat) by decide,show(1:Nat)<=5 by decide,?_⟩;show(S.extract p (ne S p)).size<=_;simp[ByteArray.size_extract];omega
 ·split at h
  ·split at h
   ·cases h
   ·rename_i l m o
    simp only[Sum.inr.injEq,Prod.mk.injEq]at h;obtain⟨rfl,rfl⟩:=h;have:=z7l o;refine⟨by omega,by omega,show(0:Nat)<2^256 by decide,rfl,show 1<=(3:Nat) by decide,show(3:Nat)<=5 by decide,?_⟩;show(nb l).size<=_;rw[Uh];omega
  ·split at h
   ·split at h
    ·cases h
    ·rename_i C m o
     simp only[Sum.inr.injEq,Prod.mk.injEq]at h;obtain⟨rfl,rfl⟩:=h;have y:=z6R o;have A:=z7m S p (by omega);refine⟨by omega,by omega,y.1,rfl,show 1<=(4:Nat) by decide,show(4:Nat)<=5 by decide,Nat.zero_le _⟩
   ·split at h
    ·rename_i ha
     simp only[Sum.inr.injEq,Prod.mk.injEq]at h;obtain⟨rfl,rfl⟩:=h;have:p+1<S.size:=z7n ha;exact⟨by omega,by omega,show(0:Nat)<2^256 by decide,rfl,show 1<=(2:Nat) by decide,show(2:Nat)<=5 by decide,Nat.zero_le _⟩
    ·split at h
     ·simp only[Sum.inr.injEq,Prod.mk.injEq]at h
      obtain⟨rfl,rfl⟩:=h;exact⟨by omega,by omega,show(0:Nat)<2^256 by decide,rfl,show 1<=(5:Nat) by decide,show(5:Nat)<=5 by decide,by show(nb [x]).size<=_;rw[Uh];simp;omega⟩
     ·cases h
def wrg(p:Nat)(b:Bool×(Nat×Nat)):Nat×Nat:=if b.1 then(b.2.1,p+b.2.2)else b.2
abbrev Tr:=(Nat×Nat) ⊕ List Tok
def tkl(S:zA):Nat->Nat->List Tok->Tr
 |0,_,acc=>.inr acc
 |f+1,k,acc=>match bt S k with
  |none=>.inr acc
  |some x=>match Um S k x with
   | .inl b=>.inl (wrg k b)
   | .inr (t,n)=>tkl S f (sb S n) (acc++[t])
def tks(S:zA)(k:Nat)(acc:List Tok):Tr:=tkl S (S.size-k) k acc
theorem Nw{S:zA}(h:n<=S.size):n<=sb S n/\sb S n<=S.size:=Ll S _ n L0q h
theorem z0H(S:zA):∀(f g k:Nat) (acc:List Tok),S.size-k<=f->S.size-k<=g->tkl S f k acc=tkl S g k acc
 |0,0,_,_,_,_=>rfl
 |0,g+1,k,acc,hf,_=>by rw[tkl,tkl,Jl (by omega)]
 |f+1,0,k,acc,_,hg=>by rw[tkl,tkl,Jl (by omega)]
 |f+1,g+1,k,acc,hf,hg=>by
  rw[tkl,tkl];cases hb:bt S k with
  |none=>rfl
  |some x=>
   have o:=(Zj hb).1;simp only;cases ht:Um S k x with
   |inl b=>rfl
   |inr r=>
    obtain⟨t,n⟩:=r;have h:=Nv hb ht;have y:=Nw (S:=S) (n:=n) h.2.1;exact z0H S f g (sb S n) _ (by omega) (by omega)
theorem z7o{S:zA}{acc:List Tok}(h:S.size<=k):tks S k acc=.inr acc:=by
 unfold tks;rw[show S.size-k=0 by omega,tkl]
theorem z7p{S:zA}{acc:List Tok}{b:Bool×(Nat×Nat)}(h:bt S k=some x)(o:Um S k x=.inl b):tks S k acc=.inl (wrg k b):=by
 have r:=(Zj h).1;unfold tks;rw[show S.size-k=(S.size-k-1)+1 by omega,tkl,h];simp only[o]
theorem z7q{S:zA}{acc:List Tok}{t:Tok}(h:bt S k=some x)(o:Um S k x=.inr (t,n)):tks S k acc=tks S (sb S n) (acc++[t]):=by
 have y:=(Zj h).1;have r:=Nv h o;have A:=Nw (S:=S) (n:=n) r.2.1;unfold tks;rw[show S.size-k=(S.size-k-1)+1 by omega,tkl,h];simp only[o];exact z0H S _ _ _ _ (by omega) (by omega)
def tkE(S:zA)(r:Tr):Tr:=match r with
 | .inl c=>.inl c
 | .inr l=>.inr (l++[(6,{data:=#[]},0,S.size)])
def tkS(S:zA):Tr:=tkE S (tks S (sb S 0) [])
def tvs:List Tok->List Value
 |[]=>[]
 |t::r=>zI (t.1:Int)::zT t.2.1::zU (wd t.2.2.1 0:Nat)::zU (wd t.2.2.1 1:Nat)::zU (wd t.2.2.1 2:Nat)::zU (wd t.2.2.1 3:Nat)::zI (t.2.2.2:Int)::tvs r
theorem Ny:∀(a b:List Tok),tvs (a++b)=tvs a++tvs b
 |[],b=>rfl
 |p::t,b=>by simp only[List.cons_append,tvs,Ny t b]
theorem z0I:∀(a:List Tok),(tvs a).length=a.length*7
 |[]=>rfl
 |p::t=>by simp only[tvs,List.length_cons,z0I t];omega
def z7r(r:Tr)(w:World)(e:Ending)(w':World):Prop:=
 match r with
 | .inr l=>∃v,e=.returned (.tuple #[v,.nilIface])/\Hid (w'.ownsRow w.heap.size 139 7 v l.length (tvs l))/\Hid (zB w w')
 | .inl c=>∃q,e=.returned (.tuple #[.slice none 0 0,flv q])/\Hid (w.heap.size<=q/\Flt w' q c/\zB w w')
theorem Tryz.infoTok:(Tryz.prog.info? 139).map (fun i=>(i.zero,i.size,i.bytes))=some (some (.agg #[zI 0,zT {data:=#[]},zU 0,zU 0,zU 0,zU 0,zI 0]),7,64):=by kernel_rfl
theorem z0J(w:World)(a b c d e f g:Value)(t:TypeId):∀j x,[a,b,c,d,e,f,g][j]? =some x->(w.alloc (.cells #[a,b,c,d,e,f,g] t)).cell? ((⟨w.heap.size,0,none⟩:Addr).add j)=some x:=by
 intro j x h
 match j,h with
 |0,h=>simp at h;subst h;simp[Addr.add]
 |1,h=>simp at h;subst h;simp[Addr.add]
 |2,h=>simp at h;subst h;simp[Addr.add]
 |3,h=>simp at h;subst h;simp[Addr.add]
 |4,h=>simp at h;subst h;simp[Addr.add]
 |5,h=>simp at h;subst h;simp[Addr.add]
 |6,h=>simp at h;subst h;simp[Addr.add]
theorem z0K(a:Int)(T:zA)(c0 c1 c2 c3 p:Int):∀u∈[Value.int .i64 a,zT T,zU c0,zU c1,zU c2,zU c3,zI p],u.oneCell'=true:=by
 intro u h;simp at h;rcases h with rfl|rfl|rfl|rfl|rfl|rfl|rfl<;>rfl
def Lt(w:World)(v:Value)(l:List Tok)(w':World):Prop:=
 Hid (zB w w')/\Hid (w'.ownsRow w.heap.size 139 7 v l.length (tvs l))
theorem Lt.keep{W w':World}{v:Value}{l:List Tok}(h:Lt w v l W)(o:zB W w'):Lt w v l w':=
 ⟨hid (h.1.out.trans (o.mono h.1.out.size)),hid (Xh h.2.out o)⟩
end Go.Proofs.YtgnkkgcgbeianaaGreatDoor
