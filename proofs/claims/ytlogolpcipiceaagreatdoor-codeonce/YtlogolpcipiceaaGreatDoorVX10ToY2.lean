/- Lemmas for the last text. Conditions: those that each names. -/
import Derived.Test.YtlogolpcipiceaaGreatDoorVX5ToX9
import Derived.Test.YtlogolpcipiceaaGreatDoorVKPlainToX1
import Derived.LaidEql
import Derived.Stop.Asserts
import Derived.RowKitTokens
import Derived.BigQuiet
set_option linter.unusedVariables false
set_option maxRecDepth 100000
set_option maxHeartbeats 4000000
namespace Go.Proofs.YtlogolpcipiceaaGreatDoor
open Go.Proofs.Tryz
open Go.RowKit
variable {R b base k n p ru x:Nat} {S:ByteArray} {w w':World} {v:Value} {P:Nat->Prop} {c:List Value}
def arB(S:ByteArray)(p:Nat):Bool:=bt S p == some 60&&bt S (p+1) == some 45
theorem z0f{b:UInt8}(hb:b.toNat=x)(hk:k<256):(UInt8.ofNat k == b)=(x == k):=by
 by_cases h:x=k
 ·have h2:UInt8.ofNat k=b:=by apply UInt8.toNat.inj;rw[hb,h,UInt8.toNat_ofNat'];omega
  rw[h2,h];simp
 ·have h2:UInt8.ofNat k≠b:=fun e=>h (by rw[<-hb,<-e,UInt8.toNat_ofNat'];omega)
  rw[beq_eq_false_iff_ne.2 h2,beq_eq_false_iff_ne.2 h]
theorem z6a(h:bt S p=some x):Lib.hasPrefix (S.data.toList.drop p) [60,45]=arB S p:=by
 obtain⟨b,hd,hbx⟩:=Ik h;unfold Lib.hasPrefix arB;rw[hd,h,List.isPrefixOf];have e1:((60:UInt8) == b)=(x == 60):=z0f hbx (by decide);rw[e1];congr 1;cases hb:bt S (p+1)with
 |none=>
  have:=Xv hb;rw[List.drop_eq_nil_of_le (by rw[Array.length_toList];exact this)];rfl
 |some y=>
  obtain⟨b2,hd2,hb2⟩:=Ik hb;rw[hd2,List.isPrefixOf];have e2:((45:UInt8) == b2)=(y == 45):=z0f hb2 (by decide);rw[e2,List.isPrefixOf];simp
theorem z0g(h:bt S p=some x)(w:World):Calls prog 128 #[.string (S.extract p S.size),.string {data:=#[60,45]}] w fun e w'=>e=.returned (.bool (arB S p))/\w'=w:=by
 have h2:=z5V (S.extract p S.size) {data:=#[60,45]} w;rw[z0e S p (by have:=(Qh h).1;omega),show({data:=#[60,45]}:ByteArray).data.toList=[60,45]from rfl,z6a h]at h2;exact h2
theorem z6b(w:World)(b:Nat)(hb:b<256):(convert 48 9 (.slice (some ⟨w.heap.size,0,none⟩) 1 1)).run prog (w.alloc (.cells #[.int .u8 b] 5))=.ok (.string (nb [b])) (w.alloc (.cells #[.int .u8 b] 5)):=
 Am (base:=w.heap.size) (l:=[b]) ⟨rfl,.inr ⟨w.heap.size,1,#[.int .u8 b],rfl,Nat.le_refl _,Qx _ _ rfl,Nat.le_refl _,by unfold maxLen;omega,rfl,rfl⟩⟩ (fun x hx=>by simp at hx;omega)
theorem z6c(S:ByteArray)(p x:Nat)(w:World)(hb:bt S p=some x)(ha:arB S p=true)(hx:x=60)(hS:S.size<=9007199254740992):
  Calls prog 96 #[.string S,.int .i64 p] w fun e w'=>(fun w e w'=>e=.returned (tk7 2 {data:=#[]} 0 0 0 0 (p:Int) ((p:Int)+2) .nilIface)/\Below w.heap.size w w') w e w':=by
 have hxl:=(Qh hb).2;obtain⟨hp,hxx⟩:=Xk hb;have hpI:(p:Int)<(S.size:Int):=by omega
 have hpI2:(p:Int)<=(S.size:Int):=by omega
 have HLt:Hid (∀w:World,Calls prog 124 #[.int .u8 x] w fun e w'=>e=.returned (.bool false)/\w'=w):=fun w=>Gw x false (by rw[hx];rfl) w hxl
 obtain⟨W,hW⟩:∃W,W=w.alloc (.cells #[.int .i64 0,.string ⟨#[]⟩,.int .u64 0,.int .u64 0,.int .u64 0,.int .u64 0,.int .i64 0] 183):=⟨_,rfl⟩;have HW:Hid (W=w.alloc (.cells #[.int .i64 0,.string ⟨#[]⟩,.int .u64 0,.int .u64 0,.int .u64 0,.int .u64 0,.int .i64 0] 183)):=hW;have HB1:Hid (Below w.heap.size w W):=by show Below _ _ _;rw[hW];exact B0q.alloc L0q _
 have HT0:Hid (Tk W w.heap.size 0 {data:=#[]} 0 0 0 0 0):=by show Tk _ _ _ _ _ _ _ _ _;rw[hW];exact Tk.new w 0 {data:=#[]} 0 0 0 0 0
 have HA:Hid (∀w:World,Calls prog 128 #[.string (S.extract p S.size),.string {data:=#[60,45]}] w fun e w'=>e=.returned (.bool true)/\w'=w):=fun w=>ha▸z0g hb w
 clear hb ha;subst hx;go_enter func96,ntmps96
 go_wp2_with fail
 rw[<-hW];clear hW;refine(HLt.out _).mono ?_;rintro e w0 ⟨rfl,rfl⟩
 go_wp2_with fail
 refine(HA.out _).mono ?_;rintro e w1 ⟨rfl,rfl⟩;obtain⟨c0,c1,c2,c3,c4,c5,c6⟩:=HT0.out.cells;obtain⟨f0,f1,f2,f3,f4,f5,f6⟩:=HT0.out.thaw
 go_wp2_with fail
 obtain⟨r0,r1,r2,r3,r4,r5,r6⟩:=(HT0.out.st7 2 {data:=#[]} 0 0 0 0 (p:Int)).cells;unfold st7 at r0 r1 r2 r3 r4 r5 r6
 (try simp only[Exit.inBlock,Exit.then])
 refine bodyPost_ret (v:=tk7 2 {data:=#[]} 0 0 0 0 (p:Int) ((p:Int)+2) .nilIface) (by simp[results,Tryz.results96,go_sem,r0,r1,r2,r3,r4,r5,r6]) rfl ?_;exact⟨rfl,Below.st7 HB1.out L0q _ _ _ _ _ _ _⟩
theorem z6d(S:ByteArray)(p x:Nat)(w:World)(hb:bt S p=some x)(hl:Zq x=false)(hq:x≠39/\x≠34/\x≠91)(ha:arB S p=false)(hm:mkB x=true)(hS:S.size<=9007199254740992):
  Calls prog 96 #[.string S,.int .i64 p] w fun e w'=>(fun w e w'=>e=.returned (tk7 5 (nb [x]) 0 0 0 0 (p:Int) ((p:Int)+1) .nilIface)/\Below w.heap.size w w') w e w':=by
 have hxl:=(Qh hb).2;obtain⟨hp,hxx⟩:=Xk hb;have hpI:(p:Int)<(S.size:Int):=by omega
 have hpI2:(p:Int)<=(S.size:Int):=by omega
 have HLt:Hid (∀w:World,Calls prog 124 #[.int .u8 x] w fun e w'=>e=.returned (.bool false)/\w'=w):=fun w=>Gw x false hl w hxl
 obtain⟨W,hW⟩:∃W,W=w.alloc (.cells #[.int .i64 0,.string ⟨#[]⟩,.int .u64 0,.int .u64 0,.int .u64 0,.int .u64 0,.int .i64 0] 183):=⟨_,rfl⟩;have HW:Hid (W=w.alloc (.cells #[.int .i64 0,.string ⟨#[]⟩,.int .u64 0,.int .u64 0,.int .u64 0,.int .u64 0,.int .i64 0] 183)):=hW;have HB1:Hid (Below w.heap.size w W):=by show Below _ _ _;rw[hW];exact B0q.alloc L0q _
 have HT0:Hid (Tk W w.heap.size 0 {data:=#[]} 0 0 0 0 0):=by show Tk _ _ _ _ _ _ _ _ _;rw[hW];exact Tk.new w 0 {data:=#[]} 0 0 0 0 0
 have HA:Hid (∀w:World,Calls prog 128 #[.string (S.extract p S.size),.string {data:=#[60,45]}] w fun e w'=>e=.returned (.bool false)/\w'=w):=fun w=>ha▸z0g hb w
 have b1:((x:Int) == 39)=false:=by simp;omega
 have b2:((x:Int) == 34)=false:=by simp;omega
 have b3:((x:Int) == 91)=false:=by simp;omega
 obtain⟨i,hi⟩:∃i:Int,i=Lib.indexByte [47,38,33,63,42,43,40,41,46] x.toUInt8:=⟨_,rfl⟩;have HI:Hid (∀w:World,Calls prog 129 #[.string {data:=#[47,38,33,63,42,43,40,41,46]},.int .u8 x] w fun e w'=>e=.returned (.int .i64 i)/\w'=w):=fun w=>by rw[hi];exact Hc {data:=#[47,38,33,63,42,43,40,41,46]} x w
 have hi0:decide (0<=i)=true:=by rw[hi,z5E x hxl,hm]
 have hi1:0<=i:=by simpa using hi0
 have cvn:=fun w=>z6b w x hxl
 obtain⟨TT,hTT⟩:∃TT,TT=nb [x]:=⟨_,rfl⟩;rw[<-hTT]at cvn ⊢;clear hb hl hq ha hm hi hTT;go_enter func96,ntmps96
 go_wp2_with fail
 rw[<-hW];clear hW;refine(HLt.out _).mono ?_;rintro e w0 ⟨rfl,rfl⟩
 go_wp2_with fail
 refine(HA.out _).mono ?_;rintro e w1 ⟨rfl,rfl⟩
 go_wp2_with fail
 refine(HI.out _).mono ?_;rintro e w2 ⟨rfl,rfl⟩;have HT2:Hid (Tk (w2.alloc (.cells #[.int .u8 x] 5)) w.heap.size 0 {data:=#[]} 0 0 0 0 0):=HT0.out.alloc _;obtain⟨c0,c1,c2,c3,c4,c5,c6⟩:=HT2.out.cells;obtain⟨f0,f1,f2,f3,f4,f5,f6⟩:=HT2.out.thaw
 go_wp2_with fail
 obtain⟨r0,r1,r2,r3,r4,r5,r6⟩:=(HT2.out.st7 5 TT 0 0 0 0 (p:Int)).cells;unfold st7 at r0 r1 r2 r3 r4 r5 r6
 (try simp only[Exit.inBlock,Exit.then])
 refine bodyPost_ret (v:=tk7 5 TT 0 0 0 0 (p:Int) ((p:Int)+1) .nilIface) (by simp[results,Tryz.results96,go_sem,r0,r1,r2,r3,r4,r5,r6]) rfl ?_;exact⟨rfl,Below.st7 (HB1.out.alloc HB1.out.size _) L0q _ _ _ _ _ _ _⟩
open Go.Extern.Stop Go.Stop Go.Extern
def Yw(w:World):Prop:=w.cell? ⟨0,0,none⟩=some (.iface 206 (.agg #[.pointer (some ⟨6,33,none⟩)]))
theorem Yw.lt(h:Yw w):0<w.heap.size:=by
 unfold Yw at h;rcases Nat.lt_or_ge 0 w.heap.size with h1|h1
 ·exact h1
 ·simp[World.cell?,Array.getElem?_eq_none h1]at h
theorem Yw.below{B:Nat}(h:Yw w)(hb:Below B w w')(hB:0<B):Yw w':=(hb.cell (p:=⟨0,0,none⟩) hB).trans h
theorem Yw.alloc{w:World}(h:Yw w)(o:Obj):Yw (w.alloc o):=by
 unfold Yw;rw[World.cell?_alloc_lt _ _ ⟨0,0,none⟩ h.lt];exact h
abbrev Tok:=Nat×ByteArray×Nat×Nat
@[reducible] def tkv (t:Tok):Value:=.agg #[.int .i64 (t.1:Int),.string t.2.1,.int .u64 (wd t.2.2.1 0:Nat),.int .u64 (wd t.2.2.1 1:Nat),.int .u64 (wd t.2.2.1 2:Nat),.int .u64 (wd t.2.2.1 3:Nat),.int .i64 (t.2.2.2:Int)]
def Yz(S:ByteArray)(p x:Nat):(Bool×(Nat×Nat)) ⊕ (Tok×Nat):=
 if Zq x then(if 32<ne S p-p then .inl (false,(2,p))else .inr ((1,S.extract p (ne S p),0,p),ne S p))
 else if x=39∨x=34 then(match ll S x p (p+1) []with
  | .inl c=>.inl (false,c)
  | .inr (l,n)=>.inr ((3,nb l,0,p),n))
 else if x=91 then(match Gk (S.extract p S.size)with
  | .inl c=>.inl (true,c)
  | .inr (C,n)=>.inr ((4,{data:=#[]},C,p),p+n))
 else if arB S p then .inr ((2,{data:=#[]},0,p),p+2)
 else if mkB x then .inr ((5,nb [x],0,p),p+1)
 else .inl (false,(4,p))
theorem Bw(S:ByteArray)(q p:Nat):∀(f k:Nat) (acc l:List Nat) (n:Nat),llit S q p f k acc=.inr (l,n)->(∀x∈acc,x<256)->acc.length<=255->k<n/\n<=S.size/\(∀x∈l,x<256)/\l.length<=255/\l.length+k<=acc.length+n
 |0,k,acc,l,n,h,_,_=>by rw[llit]at h;cases h
 |f+1,k,acc,l,n,h,ha,hl=>by
  rw[llit]at h;split at h
  ·rename_i hb
   simp only[Sum.inr.injEq,Prod.mk.injEq]at h;have:=(Qh hb).1;obtain⟨rfl,rfl⟩:=h;exact⟨by omega,by omega,ha,hl,by omega⟩
  ·split at h
   ·cases h
   ·rename_i b m hm
    have hok:=Df hm;split at h
    ·cases h
    ·have:=Bw S q p f m (acc++[b]) l n h (fun x hx=>by
      rcases List.mem_append.1 hx with h|h
      ·exact ha x h
      ·simp at h;omega) (by simp;omega)
     simp at this;exact⟨by omega,this.2.1,this.2.2.1,this.2.2.2.1,by omega⟩
theorem z0h{q:Nat}{l:List Nat}(h:ll S q p k []=.inr (l,n)):k<n/\n<=S.size/\(∀x∈l,x<256)/\l.length<=255/\l.length+k<=n:=by
 have:=Bw S q p _ k [] l n h (fun x hx=>by simp at hx) (by simp);simpa using this
theorem z6e(S:ByteArray)(p:Nat)(hp:p<=S.size):(S.extract p S.size).size=S.size-p:=by simp[ByteArray.size_extract]
theorem z6f(h:arB S p=true):p+1<S.size:=by
 unfold arB at h;simp at h;exact(Qh h.2).1
theorem Db{t:Tok}(hb:bt S p=some x)(h:Yz S p x=.inr (t,n)):
  p<n/\n<=S.size/\t.2.2.1<2^256/\t.2.2.2=p/\1<=t.1/\t.1<=5/\t.2.1.size<=S.size:=by
 have hp:=(Qh hb).1;unfold Yz at h;split at h
 ·rename_i hl
  split at h
  ·cases h
  ·simp only[Sum.inr.injEq,Prod.mk.injEq]at h
   obtain⟨rfl,rfl⟩:=h;have h1:ne S p=ne S (p+1):=by rw[Fg hb,hl];simp
   have h2:=Al (S:=S) (k:=p+1) (by omega);refine⟨by omega,by omega,show(0:Nat)<2^256 by decide,rfl,show 1<=(1:Nat) by decide,show(1:Nat)<=5 by decide,?_⟩;show(S.extract p (ne S p)).size<=_;simp[ByteArray.size_extract];omega
 ·split at h
  ·split at h
   ·cases h
   ·rename_i l m hm
    simp only[Sum.inr.injEq,Prod.mk.injEq]at h;obtain⟨rfl,rfl⟩:=h;have:=z0h hm;refine⟨by omega,by omega,show(0:Nat)<2^256 by decide,rfl,show 1<=(3:Nat) by decide,show(3:Nat)<=5 by decide,?_⟩;show(nb l).size<=_;rw[Yc];omega
  ·split at h
   ·split at h
    ·cases h
    ·rename_i C m hm
     simp only[Sum.inr.injEq,Prod.mk.injEq]at h;obtain⟨rfl,rfl⟩:=h;have h1:=z5z hm;have h2:=z6e S p (by omega);refine⟨by omega,by omega,h1.1,rfl,show 1<=(4:Nat) by decide,show(4:Nat)<=5 by decide,Nat.zero_le _⟩
   ·split at h
    ·rename_i ha
     simp only[Sum.inr.injEq,Prod.mk.injEq]at h;obtain⟨rfl,rfl⟩:=h;have:p+1<S.size:=z6f ha;exact⟨by omega,by omega,show(0:Nat)<2^256 by decide,rfl,show 1<=(2:Nat) by decide,show(2:Nat)<=5 by decide,Nat.zero_le _⟩
    ·split at h
     ·simp only[Sum.inr.injEq,Prod.mk.injEq]at h
      obtain⟨rfl,rfl⟩:=h;exact⟨by omega,by omega,show(0:Nat)<2^256 by decide,rfl,show 1<=(5:Nat) by decide,show(5:Nat)<=5 by decide,by show(nb [x]).size<=_;rw[Yc];simp;omega⟩
     ·cases h
def wrg(p:Nat)(b:Bool×(Nat×Nat)):Nat×Nat:=if b.1 then(b.2.1,p+b.2.2)else b.2
abbrev Tr:=(Nat×Nat) ⊕ List Tok
def tkl(S:ByteArray):Nat->Nat->List Tok->Tr
 |0,_,acc=>.inr acc
 |f+1,k,acc=>match bt S k with
  |none=>.inr acc
  |some x=>match Yz S k x with
   | .inl b=>.inl (wrg k b)
   | .inr (t,n)=>tkl S f (sb S n) (acc++[t])
def tks(S:ByteArray)(k:Nat)(acc:List Tok):Tr:=tkl S (S.size-k) k acc
theorem Nw(h:n<=S.size):n<=sb S n/\sb S n<=S.size:=Iy S _ n L0q h
theorem z0i(S:ByteArray):∀(f g k:Nat) (acc:List Tok),S.size-k<=f->S.size-k<=g->tkl S f k acc=tkl S g k acc
 |0,0,_,_,_,_=>rfl
 |0,g+1,k,acc,hf,_=>by rw[tkl,tkl,Uz (by omega)]
 |f+1,0,k,acc,_,hg=>by rw[tkl,tkl,Uz (by omega)]
 |f+1,g+1,k,acc,hf,hg=>by
  rw[tkl,tkl];cases hb:bt S k with
  |none=>rfl
  |some x=>
   have hk:=(Qh hb).1;simp only;cases ht:Yz S k x with
   |inl b=>rfl
   |inr r=>
    obtain⟨t,n⟩:=r;have h1:=Db hb ht;have h2:=Nw (S:=S) (n:=n) h1.2.1;exact z0i S f g (sb S n) _ (by omega) (by omega)
theorem z6g{acc:List Tok}(h:S.size<=k):tks S k acc=.inr acc:=by
 unfold tks;rw[show S.size-k=0 by omega,tkl]
theorem z6h{acc:List Tok}{b:Bool×(Nat×Nat)}(hb:bt S k=some x)(ht:Yz S k x=.inl b):tks S k acc=.inl (wrg k b):=by
 have hk:=(Qh hb).1;unfold tks;rw[show S.size-k=(S.size-k-1)+1 by omega,tkl,hb];simp only[ht]
theorem z6i{acc:List Tok}{t:Tok}(hb:bt S k=some x)(ht:Yz S k x=.inr (t,n)):tks S k acc=tks S (sb S n) (acc++[t]):=by
 have hk:=(Qh hb).1;have h1:=Db hb ht;have h2:=Nw (S:=S) (n:=n) h1.2.1;unfold tks;rw[show S.size-k=(S.size-k-1)+1 by omega,tkl,hb];simp only[ht];exact z0i S _ _ _ _ (by omega) (by omega)
def tkE(S:ByteArray)(r:Tr):Tr:=match r with
 | .inl c=>.inl c
 | .inr l=>.inr (l++[(6,{data:=#[]},0,S.size)])
def tkS(S:ByteArray):Tr:=tkE S (tks S (sb S 0) [])
def tvs:List Tok->List Value
 |[]=>[]
 |t::r=>.int .i64 (t.1:Int):: .string t.2.1:: .int .u64 (wd t.2.2.1 0:Nat):: .int .u64 (wd t.2.2.1 1:Nat):: .int .u64 (wd t.2.2.1 2:Nat):: .int .u64 (wd t.2.2.1 3:Nat):: .int .i64 (t.2.2.2:Int)::tvs r
theorem Ny:∀(a b:List Tok),tvs (a++b)=tvs a++tvs b
 |[],b=>rfl
 |p::t,b=>by simp only[List.cons_append,tvs,Ny t b]
theorem z0j:∀(a:List Tok),(tvs a).length=a.length*7
 |[]=>rfl
 |p::t=>by simp only[tvs,List.length_cons,z0j t];omega
def z6j(r:Tr)(w:World)(e:Ending)(w':World):Prop:=
 match r with
 | .inr l=>∃v,e=.returned (.tuple #[v,.nilIface])/\Hid (w'.ownsRow w.heap.size 183 7 v l.length (tvs l))/\Hid (Below w.heap.size w w')
 | .inl c=>∃q,e=.returned (.tuple #[.slice none 0 0,flv q])/\Hid (w.heap.size<=q/\Flt w' q c/\Below w.heap.size w w')
theorem Tryz.infoTok:(Tryz.prog.info? 183).map (fun i=>(i.zero,i.size,i.bytes))=some (some (.agg #[.int .i64 0,.string ⟨#[]⟩,.int .u64 0,.int .u64 0,.int .u64 0,.int .u64 0,.int .i64 0]),7,64):=by kernel_rfl
theorem z0k(w:World)(a b c d e f g:Value)(t:TypeId):∀j x,[a,b,c,d,e,f,g][j]? =some x->(w.alloc (.cells #[a,b,c,d,e,f,g] t)).cell? ((⟨w.heap.size,0,none⟩:Addr).add j)=some x:=by
 intro j x hj
 match j,hj with
 |0,hj=>simp at hj;subst hj;simp[Addr.add]
 |1,hj=>simp at hj;subst hj;simp[Addr.add]
 |2,hj=>simp at hj;subst hj;simp[Addr.add]
 |3,hj=>simp at hj;subst hj;simp[Addr.add]
 |4,hj=>simp at hj;subst hj;simp[Addr.add]
 |5,hj=>simp at hj;subst hj;simp[Addr.add]
 |6,hj=>simp at hj;subst hj;simp[Addr.add]
theorem z0l(a:Int)(T:ByteArray)(c0 c1 c2 c3 p:Int):∀u∈[Value.int .i64 a,.string T,.int .u64 c0,.int .u64 c1,.int .u64 c2,.int .u64 c3,.int .i64 p],u.oneCell'=true:=by
 intro u hu;simp at hu;rcases hu with rfl|rfl|rfl|rfl|rfl|rfl|rfl<;>rfl
def Lt(w:World)(v:Value)(l:List Tok)(w':World):Prop:=
 Hid (Below w.heap.size w w')/\Hid (w'.ownsRow w.heap.size 183 7 v l.length (tvs l))
theorem Lt.keep{W:World}{l:List Tok}(h:Lt w v l W)(hb:Below W.heap.size W w'):Lt w v l w':=
 ⟨hid (h.1.out.trans (hb.mono h.1.out.size)),hid (Ux h.2.out hb)⟩
theorem CE.alloc{w:World}{g f p:Nat}{c:Nat×Nat}(h:CE w g f p c)(o:Obj):CE (w.alloc o) g f p c:=⟨(Below.heap_alloc w o g h.lt).trans h.1,(Below.heap_alloc w o f h.2.lt).trans h.2⟩
theorem z0m{e size:Nat}{xs:List Value}(h:w.ownsRow base e size v n xs):∃a c,v=.slice a n c:=by
 obtain⟨_,⟨h1,h2⟩|⟨g,cap,cur,e,_⟩⟩:=h
 ·exact⟨none,0,by rw[h1,h2]⟩
 ·exact⟨_,cap,e⟩
theorem z6k(a:List Tok)(t:Tok)(b:List Tok):∀j x,(tvs [t])[j]? =some x->(tvs (a++t::b))[a.length*7+j]? =some x:=by
 intro j x hj;rw[show a++t::b=a++([t]++b) by simp,Ny,Ny];have:=z0j a;rw[List.getElem?_append_right (by omega),this,Nat.add_sub_cancel_left];have hjl:j<(tvs [t]).length:=by
  rcases Nat.lt_or_ge j (tvs [t]).length with h1|h1
  ·exact h1
  ·rw[List.getElem?_eq_none h1]at hj;cases hj
 rw[List.getElem?_append_left hjl];exact hj
theorem z6l(L:List Tok)(k:Nat)(hk:k<L.length):∀j x,(tvs [L[k]])[j]? =some x->(tvs L)[k*7+j]? =some x:=by
 have h:=z6k (L.take k) L[k] (L.drop (k+1));have hl:(L.take k).length=k:=by simp;omega
 have he:L.take k++L[k]::L.drop (k+1)=L:=by rw[List.getElem_cons_drop,List.take_append_drop]
 rw[he,hl]at h;exact h
def Cs(w:World)(g o:Nat)(t:Tok):Prop:=w.cell? ⟨g,o,none⟩=some (.int .i64 (t.1:Int))/\w.cell? ⟨g,o+1,none⟩=some (.string t.2.1)/\w.cell? ⟨g,o+2,none⟩=some (.int .u64 (wd t.2.2.1 0:Nat))/\w.cell? ⟨g,o+3,none⟩=some (.int .u64 (wd t.2.2.1 1:Nat))/\w.cell? ⟨g,o+4,none⟩=some (.int .u64 (wd t.2.2.1 2:Nat))/\w.cell? ⟨g,o+5,none⟩=some (.int .u64 (wd t.2.2.1 3:Nat))/\w.cell? ⟨g,o+6,none⟩=some (.int .i64 (t.2.2.2:Int))
theorem z0n{g cap:Nat}{L:List Tok}(h:w.ownsRow base 183 7 (.slice (some ⟨g,0,none⟩) n cap) n (tvs L))(k:Nat)(hk:k<L.length)(hn:n=L.length):Cs w g (k*7) L[k]:=by
 have ha:=z6l L k hk;refine⟨?_,?_,?_,?_,?_,?_,?_⟩
 ·rw[h.cellAt _ (by omega)];exact ha 0 _ rfl
 ·rw[h.cellAt _ (by omega)];exact ha 1 _ rfl
 ·rw[h.cellAt _ (by omega)];exact ha 2 _ rfl
 ·rw[h.cellAt _ (by omega)];exact ha 3 _ rfl
 ·rw[h.cellAt _ (by omega)];exact ha 4 _ rfl
 ·rw[h.cellAt _ (by omega)];exact ha 5 _ rfl
 ·rw[h.cellAt _ (by omega)];exact ha 6 _ rfl
theorem z0o{e size g cap:Nat}{xs:List Value}(h:w.ownsRow base e size (.slice (some ⟨g,0,none⟩) n cap) n xs):cap<=9223372036854775807:=by
 obtain⟨_,⟨h1,_⟩|⟨g',cap',cur,e,_,_,_,hc,_⟩⟩:=h
 ·cases h1
 ·cases e
  unfold maxLen at hc;omega
def Rd(w:World)(R b:Nat)(v:Value)(L:List Tok)(k ru ne:Nat):Prop:=
 w.heap[R]? =some (.cells #[v,.int .i64 k,.int .i64 ru,.int .i64 ne] 188)/\w.ownsRow b 183 7 v L.length (tvs L)
theorem Rd.lt{L:List Tok}{ne:Nat}(h:Rd w R b v L k ru ne):R<w.heap.size:=by
 rcases Nat.lt_or_ge R w.heap.size with h1|h1
 ·exact h1
 ·have:=h.1;rw[Array.getElem?_eq_none h1]at this;cases this
theorem Rd.below{L:List Tok}{ne:Nat}(h:Rd w R b v L k ru ne)(hb:Below w.heap.size w w'):Rd w' R b v L k ru ne:=
 ⟨(hb.block R h.lt).trans h.1,Ux h.2 hb⟩
theorem Rd.cells{L:List Tok}{ne:Nat}(h:Rd w R b v L k ru ne):
  w.cell? ⟨R,0,none⟩=some v/\w.cell? ⟨R,1,none⟩=some (.int .i64 k)/\w.cell? ⟨R,2,none⟩=some (.int .i64 ru)/\w.cell? ⟨R,3,none⟩=some (.int .i64 ne)/\
  w.frozen? ⟨R,0,none⟩=false/\w.frozen? ⟨R,1,none⟩=false/\w.frozen? ⟨R,2,none⟩=false/\w.frozen? ⟨R,3,none⟩=false:=by
 have h1:=h.1;refine⟨?_,?_,?_,?_,?_,?_,?_,?_⟩<;>simp[World.cell?,World.frozen?,h1]
theorem Rd.apart{L:List Tok}{ne:Nat}(h:Rd w R b v L k ru ne):v.ownBlock≠some R:=by
 obtain⟨h1,_,⟨h2,_⟩|⟨g,cap,cur,rfl,_,hh,_⟩⟩:=h
 ·rw[h2];simp[Value.ownBlock]
 ·intro e
  simp[Value.ownBlock]at e;subst e;rw[h1]at hh;simp at hh
theorem Rd.next{L:List Tok}{ne:Nat}(h:Rd w R b v L k ru ne)(k':Nat):Rd (w.setCell ⟨R,1,none⟩ (.int .i64 k')) R b v L k' ru ne:=by
 refine⟨?_,h.2.kept (row:=some R) ⟨rfl,rfl,rfl,by simp,fun i hi hne=>Below.heap_setCell _ _ _ _ (fun e=>hne (by rw[e]))⟩ (.inr h.apart)⟩;simp only[World.setCell,Array.getElem?_modify,if_true];rw[h.1];simp
theorem Rd.rules{L:List Tok}{ne:Nat}(h:Rd w R b v L k ru ne)(ru':Nat):Rd (w.setCell ⟨R,2,none⟩ (.int .i64 ru')) R b v L k ru' ne:=by
 refine⟨?_,h.2.kept (row:=some R) ⟨rfl,rfl,rfl,by simp,fun i hi hne=>Below.heap_setCell _ _ _ _ (fun e=>hne (by rw[e]))⟩ (.inr h.apart)⟩;simp only[World.setCell,Array.getElem?_modify,if_true];rw[h.1];simp
theorem Rd.nest{L:List Tok}{ne:Nat}(h:Rd w R b v L k ru ne)(ne':Nat):Rd (w.setCell ⟨R,3,none⟩ (.int .i64 ne')) R b v L k ru ne':=by
 refine⟨?_,h.2.kept (row:=some R) ⟨rfl,rfl,rfl,by simp,fun i hi hne=>Below.heap_setCell _ _ _ _ (fun e=>hne (by rw[e]))⟩ (.inr h.apart)⟩;simp only[World.setCell,Array.getElem?_modify,if_true];rw[h.1];simp
theorem Tryz.fld0(a b c d e f g:Value)(w:World):(Instr.field 183 (.agg #[a,b,c,d,e,f,g]) 0).run prog w=.ok a w:=by kernel_rfl
theorem Tryz.fld1(a b c d e f g:Value)(w:World):(Instr.field 183 (.agg #[a,b,c,d,e,f,g]) 1).run prog w=.ok b w:=by kernel_rfl
theorem Tryz.fld3(a b c d e f g:Value)(w:World):(Instr.field 183 (.agg #[a,b,c,d,e,f,g]) 3).run prog w=.ok g w:=by kernel_rfl
theorem Jp(R b:Nat)(v:Value)(L:List Tok)(k ru ne:Nat)(w:World)(h:Rd w R b v L k ru ne)(hk:k<L.length)(hl:L.length<=10000):
  Calls prog 132 #[.pointer (some ⟨R,0,none⟩)] w fun e w'=>e=.returned (tkv L[k])/\Below w.heap.size w w':=by
 obtain⟨g,cap,rfl⟩:=Jk h.2 (by omega);have hcap:=z0o h.2;have z:=z0n h.2 k hk rfl;obtain⟨t,ht⟩:∃t,t=L[k]:=⟨_,rfl⟩;rw[<-ht]at z ⊢;obtain⟨n,hn⟩:∃n,n=L.length:=⟨_,rfl⟩;rw[<-hn]at h hk hl;have hg:g<w.heap.size:=(h.2.lt g rfl).2;obtain⟨r0,r1,r2,r3,q0,q1,q2,q3⟩:=h.cells;have hR:=h.lt;clear h ht;obtain⟨kd,T,C,p⟩:=t;obtain⟨p0,p1,p2,p3,p4,p5,p6⟩:=z;have hkI:(k:Int)<(n:Int):=by omega
 clear hn;go_enter func132,ntmps132
 go_wp2
 go_region
 go_wp2
 (try simp only[Exit.inBlock,Exit.then])
 refine bodyPost_ret (v:=tkv (kd,T,C,p)) (by simp[results,Tryz.results132,go_sem]) rfl ?_;exact⟨rfl,by first|exact(B0q.alloc L0q _).drew|exact B0q.drew.alloc L0q _|exact(B0q.alloc L0q _)⟩
def sgT(t:Tok):ByteArray:=if t.1=5 then t.2.1 else{data:=#[]}
theorem Ih(R b:Nat)(v:Value)(L:List Tok)(k ru ne:Nat)(w:World)(h:Rd w R b v L k ru ne)(hk:k<L.length)(hl:L.length<=10000):
  Calls prog 197 #[.pointer (some ⟨R,0,none⟩)] w fun e w'=>e=.returned (.string (sgT L[k]))/\Below w.heap.size w w':=by
 have fd0:=Tryz.fld0;have fd1:=Tryz.fld1;have fd3:=Tryz.fld3;have HT:Hid (∀w:World,Rd w R b v L k ru ne->Calls prog 132 #[.pointer (some ⟨R,0,none⟩)] w fun e w'=>e=.returned (tkv L[k])/\Below w.heap.size w w'):=fun w h=>Jp R b v L k ru ne w h hk hl
 have HR:Hid (Rd w R b v L k ru ne):=h;obtain⟨t,ht⟩:∃t,t=L[k]:=⟨_,rfl⟩;rw[<-ht]at HT ⊢;clear ht h;obtain⟨kd,T,C,p⟩:=t;unfold sgT;simp only;by_cases h5:kd=5
 ·have t5:((kd:Int) != 5)=false:=by simp;omega
  rw[if_pos h5];clear h5;go_enter func197,ntmps197
  go_wp2_with fail
  refine(HT.out w HR.out).mono ?_;rintro e w1 ⟨rfl,hb1⟩;have HB1:Hid (Below w.heap.size w w1):=hb1;have HR1:Hid (Rd w1 R b v L k ru ne):=HR.out.below hb1;clear hb1;dsimp only[tkv]
  go_wp2_with fail
  refine(HT.out w1 HR1.out).mono ?_;rintro e w2 ⟨rfl,hb2⟩;have HB2:Hid (Below w.heap.size w w2):=HB1.out.trans (hb2.mono HB1.out.size);clear hb2;dsimp only[tkv]
  go_wp2_with fail
  go_ret;exact⟨rfl,HB2.out⟩
 ·have t5:((kd:Int) != 5)=true:=by rw[bne_iff_ne];omega
  rw[if_neg h5];clear h5;go_enter func197,ntmps197
  go_wp2_with fail
  refine(HT.out w HR.out).mono ?_;rintro e w1 ⟨rfl,hb1⟩;have HB1:Hid (Below w.heap.size w w1):=hb1;clear hb1;dsimp only[tkv]
  go_wp2_with fail
  go_ret;exact⟨rfl,HB1.out⟩
theorem z0p(R b:Nat)(v:Value)(L:List Tok)(k ru ne c:Nat)(w:World)(h:Rd w R b v L k ru ne)(hk:k<L.length)(hl:L.length<=10000):
  Calls prog 165 #[.pointer (some ⟨R,0,none⟩),.int .i64 c] w fun e w'=>∃f,e=.returned (.pointer (some ⟨f,0,none⟩))/\Hid (w.heap.size<=f/\Flt w' f (c,(L[k]).2.2.2)/\Below w.heap.size w w'):=by
 have fd0:=Tryz.fld0;have fd1:=Tryz.fld1;have fd3:=Tryz.fld3;have HT:=hid (Jp R b v L k ru ne w h hk hl);obtain⟨t,ht⟩:∃t,t=L[k]:=⟨_,rfl⟩;rw[<-ht]at HT ⊢;clear ht h;obtain⟨kd,T,C,p⟩:=t;go_enter func165,ntmps165
 go_wp2_with fail
 refine HT.out.mono ?_;rintro e w1 ⟨rfl,hb1⟩;have HB1:Hid (Below w.heap.size w w1):=hb1;clear hb1;dsimp only[tkv]
 go_wp2_with fail
 go_ret;exact⟨w1.heap.size,rfl,HB1.out.size,Flt.new w1 (c,p),HB1.out.alloc HB1.out.size _⟩
def wrC(t:Tok):Nat:=if t.1=6 then 3 else 4
theorem z0q(R b:Nat)(v:Value)(L:List Tok)(k ru ne:Nat)(w:World)(h:Rd w R b v L k ru ne)(hk:k<L.length)(hl:L.length<=10000):
  Calls prog 164 #[.pointer (some ⟨R,0,none⟩)] w fun e w'=>∃f,e=.returned (.pointer (some ⟨f,0,none⟩))/\Hid (w.heap.size<=f/\Flt w' f (wrC L[k],(L[k]).2.2.2)/\Below w.heap.size w w'):=by
 have fd0:=Tryz.fld0;have fd1:=Tryz.fld1;have fd3:=Tryz.fld3;have HT:=hid (Jp R b v L k ru ne w h hk hl);have HF:Hid (∀(c:Nat) (w:World),Rd w R b v L k ru ne->Calls prog 165 #[.pointer (some ⟨R,0,none⟩),.int .i64 c] w fun e w'=>∃f,e=.returned (.pointer (some ⟨f,0,none⟩))/\Hid (w.heap.size<=f/\Flt w' f (c,(L[k]).2.2.2)/\Below w.heap.size w w')):=fun c w h=>z0p R b v L k ru ne c w h hk hl
 have HR:Hid (Rd w R b v L k ru ne):=h;obtain⟨t,ht⟩:∃t,t=L[k]:=⟨_,rfl⟩;rw[<-ht]at HT HF ⊢;clear ht h;obtain⟨kd,T,C,p⟩:=t;unfold wrC;simp only at HF ⊢;by_cases h6:kd=6
 ·have t6:((kd:Int) == 6)=true:=by simp;omega
  rw[if_pos h6];clear h6;go_enter func164,ntmps164
  go_wp2_with fail
  refine HT.out.mono ?_;rintro e w1 ⟨rfl,hb1⟩;have HB1:Hid (Below w.heap.size w w1):=hb1;have HR1:Hid (Rd w1 R b v L k ru ne):=HR.out.below hb1;clear hb1;dsimp only[tkv]
  go_wp2_with fail
  refine(HF.out 3 w1 HR1.out).mono ?_;rintro e w2 ⟨f,rfl,HP⟩;have HP2:Hid (w.heap.size<=f/\Flt w2 f (3,p)/\Below w.heap.size w w2):=⟨Nat.le_trans HB1.out.size HP.out.1,HP.out.2.1,HB1.out.trans (HP.out.2.2.mono HB1.out.size)⟩;clear HP
  go_wp2_with fail
  go_ret;exact⟨f,rfl,HP2⟩
 ·have t6:((kd:Int) == 6)=false:=by simp;omega
  rw[if_neg h6];clear h6;go_enter func164,ntmps164
  go_wp2_with fail
  refine HT.out.mono ?_;rintro e w1 ⟨rfl,hb1⟩;have HB1:Hid (Below w.heap.size w w1):=hb1;have HR1:Hid (Rd w1 R b v L k ru ne):=HR.out.below hb1;clear hb1;dsimp only[tkv]
  go_wp2_with fail
  refine(HF.out 4 w1 HR1.out).mono ?_;rintro e w2 ⟨f,rfl,HP⟩;have HP2:Hid (w.heap.size<=f/\Flt w2 f (4,p)/\Below w.heap.size w w2):=⟨Nat.le_trans HB1.out.size HP.out.1,HP.out.2.1,HB1.out.trans (HP.out.2.2.mono HB1.out.size)⟩;clear HP
  go_wp2_with fail
  go_ret;exact⟨f,rfl,HP2⟩
inductive Nd where
 |mk (kd:Nat) (T:ByteArray) (C:Nat) (subs:List Nd) (p:Nat)
@[reducible] def n8 (kd:Nat) (T:ByteArray) (C:Nat) (sv:Value) (p:Nat):List Value:=
  [.int .i64 kd,.string T,.int .u64 (wd C 0),.int .u64 (wd C 1),.int .u64 (wd C 2),.int .u64 (wd C 3),sv,.int .i64 p]
mutual
def Qy(w:World)(P:Nat->Prop):Nd->List Value->Prop
 | .mk kd T C subs p,cs=>∃sv,cs=n8 kd T C sv p/\((subs.isEmpty=true/\sv=.slice none 0 0)∨
    (subs.isEmpty=false/\∃g cap cur,sv=.slice (some ⟨g,0,none⟩) (Jv subs) cap/\P g/\w.heap[g]? =some (.cells cur 71)/\cap<=maxLen/\Qm w P subs cur.toList))
def Qm(w:World)(P:Nat->Prop):List Nd->List Value->Prop
 |[],_=>True
 |n::r,vs=>∃c rest,vs=c++rest/\Qy w P n c/\Qm w P r rest
def Jv:List Nd->Nat
 |[]=>0
 |_::r=>Jv r+1
end
theorem Dh:∀l:List Nd,Jv l=l.length
 |[]=>rfl
 |_::r=>by rw[Jv,Dh r];rfl
theorem Qy.len{n:Nd}(h:Qy w P n c):c.length=8:=by
 cases n with
 |mk kd T C subs p=>
  rw[Qy]at h;obtain⟨sv,rfl,_⟩:=h;rfl
mutual
theorem Qy.kept{w w':World}{P Q:Nat->Prop}(hk:∀g cur,P g->w.heap[g]? =some (.cells cur 71)->w'.heap[g]? =w.heap[g]? /\Q g):∀(n:Nd) (c:List Value),Qy w P n c->Qy w' Q n c
 | .mk kd T C subs p,cs,h=>by
   rw[Qy]at h ⊢;obtain⟨sv,h1,h2⟩:=h;refine⟨sv,h1,?_⟩;rcases h2 with h2|⟨h3,g,cap,cur,h4,h5,h6,h7,h8⟩
   ·exact .inl h2
   ·have:=hk g cur h5 h6
    exact .inr ⟨h3,g,cap,cur,h4,this.2,this.1.trans h6,h7,Qm.kept hk subs cur.toList h8⟩
theorem Qm.kept{w w':World}{P Q:Nat->Prop}(hk:∀g cur,P g->w.heap[g]? =some (.cells cur 71)->w'.heap[g]? =w.heap[g]? /\Q g):∀(l:List Nd) (vs:List Value),Qm w P l vs->Qm w' Q l vs
 |[],vs,h=>by rw[Qm];trivial
 |n::r,vs,h=>by
  rw[Qm]at h ⊢;obtain⟨c,rest,h1,h2,h3⟩:=h;exact⟨c,rest,h1,Qy.kept hk n c h2,Qm.kept hk r rest h3⟩
end
theorem Qm.append{w:World}{P:Nat->Prop}:∀(l:List Nd) (vs:List Value) (n:Nd) (c:List Value),Qm w P l vs->vs.length=l.length*8->Qy w P n c->Qm w P (l++[n]) (vs++c)
 |[],vs,n,c,_,hl,hn=>by
  have:vs=[]:=List.eq_nil_of_length_eq_zero (by simpa using hl);subst this;rw[List.nil_append,Qm];exact⟨c,[],by simp,hn,by rw[Qm];trivial⟩
 |m::r,vs,n,c,h,hl,hn=>by
  rw[Qm]at h;obtain⟨d,rest,rfl,h2,h3⟩:=h;have hd:=h2.len;rw[List.cons_append,Qm];refine⟨d,rest++c,by rw[List.append_assoc],h2,Qm.append r rest n c h3 ?_ hn⟩;simp at hl;omega
theorem Qm.more{w:World}{P:Nat->Prop}:∀(l:List Nd) (vs us:List Value),Qm w P l vs->Qm w P l (vs++us)
 |[],vs,us,_=>by rw[Qm];trivial
 |m::r,vs,us,h=>by
  rw[Qm]at h ⊢;obtain⟨d,rest,rfl,h2,h3⟩:=h;exact⟨d,rest++us,by rw[List.append_assoc],h2,Qm.more r rest us h3⟩
theorem Qy.below{n:Nd}(h:Qy w P n c)(hb:Below w.heap.size w w'):Qy w' P n c:=
 Qy.kept (fun g cur hp hg=>⟨hb.block g (by
  rcases Nat.lt_or_ge g w.heap.size with h1|h1
  ·exact h1
  ·rw[Array.getElem?_eq_none h1]at hg;cases hg),hp⟩) n c h
theorem Qy.grown{cur0:Array Value}{n:Nd}(h:Qy w P n c)(hg:w.grownBy w' (some R))(hR:w.heap[R]? =some (.cells cur0 188)):Qy w' P n c:=
 Qy.kept (fun g cur hp hq=>⟨hg.block g (by
  rcases Nat.lt_or_ge g w.heap.size with h1|h1
  ·exact h1
  ·rw[Array.getElem?_eq_none h1]at hq;cases hq) (fun e=>by
   have e2:g=R:=Option.some.inj e;rw[e2,hR]at hq;simp at hq),hp⟩) n c h
end Go.Proofs.YtlogolpcipiceaaGreatDoor
