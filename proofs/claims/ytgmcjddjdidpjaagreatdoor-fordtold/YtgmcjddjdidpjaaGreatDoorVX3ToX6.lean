/- Lemmas for the last text. Conditions: those that each names. -/
import Derived.Test.YtgmcjddjdidpjaaGreatDoorVKG5ToX2
import Derived.Deep.RegionHeld3
set_option linter.unusedVariables false
set_option maxRecDepth 100000
set_option maxHeartbeats 8000000
namespace Go.Proofs.YtgmcjddjdidpjaaGreatDoor
open Go.Proofs.Tryz
open Go.RowKit
variable {base g k n p q x:Nat} {w w':World} {v:Value} {acc l:List Nat} {c0 c1 c2 c3 kd:Int} {S T:ByteArray}
def nv(l:List Nat):List Value:=l.map fun(x:Nat)=>Value.int .u8 x
theorem Kh(a b:List Nat):nv (a++b)=nv a++nv b:=List.map_append
theorem z1j(a:List Nat):(nv a).length=a.length:=List.length_map ..
theorem Tryz.infoByte:(Tryz.prog.info? 5).map (fun i=>(i.zero,i.size,i.bytes))=some (some (.int .u8 0),1,1):=by kernel_rfl
theorem Ug(w:World)(u:Value)(t:TypeId):∀j x,[u][j]? =some x->(w.alloc (.cells #[u] t)).cell? ((⟨w.heap.size,0,none⟩:Addr).add j)=some x:=by
 intro j x hj
 match j,hj with
 |0,hj=>simp at hj;subst hj;simp[Addr.add]
theorem Kd(w:World)(u v:Value)(t:TypeId):∀j x,[u,v][j]? =some x->(w.alloc (.cells #[u,v] t)).cell? ((⟨w.heap.size,0,none⟩:Addr).add j)=some x:=by
 intro j x hj
 match j,hj with
 |0,hj=>simp at hj;subst hj;simp[Addr.add]
 |1,hj=>simp at hj;subst hj;simp[Addr.add]
theorem z1k(w:World)(a b c d:Value)(t:TypeId):∀j x,[a,b,c,d][j]? =some x->(w.alloc (.cells #[a,b,c,d] t)).cell? ((⟨w.heap.size,0,none⟩:Addr).add j)=some x:=by
 intro j x hj
 match j,hj with
 |0,hj=>simp at hj;subst hj;simp[Addr.add]
 |1,hj=>simp at hj;subst hj;simp[Addr.add]
 |2,hj=>simp at hj;subst hj;simp[Addr.add]
 |3,hj=>simp at hj;subst hj;simp[Addr.add]
theorem Yx(l:List Int):∀u∈l.map (fun x=>Value.int .u8 x),u.oneCell'=true:=by
 intro u hu;obtain⟨x,_,rfl⟩:=List.mem_map.1 hu;rfl
theorem Hj(q:Nat)(hq:q<16)(w:World):(Instr.index 9 (.string {data:=#[48,49,50,51,52,53,54,55,56,57,97,98,99,100,101,102]}) (.int .u8 q)).run prog w=.ok (.int .u8 ((Xf q:Nat):Int)) w:=by
 have:q=0∨q=1∨q=2∨q=3∨q=4∨q=5∨q=6∨q=7∨q=8∨q=9∨q=10∨q=11∨q=12∨q=13∨q=14∨q=15:=by omega
 rcases this with rfl|rfl|rfl|rfl|rfl|rfl|rfl|rfl|rfl|rfl|rfl|rfl|rfl|rfl|rfl|rfl<;>(show(Instr.index 9 _ _).run prog w=_;kernel_rfl)
def nb(l:List Nat):ByteArray:=⟨(l.map UInt8.ofNat).toArray⟩
theorem Qq(w:World)(o:Obj)(hn:n=w.heap.size):(w.alloc o).heap[n]? =some o:=by
 subst hn;show(w.heap.push o)[w.heap.size]? =_;simp
theorem Vp(l:List Nat):(nb l).size=l.length:=by simp[nb,ByteArray.size]
theorem Fz{e size:Nat}{xs:List Value}(h:w.ownsRow base e size v n xs)(hn:0<n):∃g cap,v=.slice (some ⟨g,0,none⟩) n cap:=by
 obtain⟨_,h|⟨g,cap,cur,e,_⟩⟩:=h
 ·omega
 ·exact⟨g,cap,e⟩
theorem Hk{cap:Nat}(h:w.ownsRow base 5 1 (.slice (some ⟨g,0,none⟩) n cap) n (nv l))(hl:∀x∈l,x<256):
  (convert 194 9 (.slice (some ⟨g,0,none⟩) n cap)).run prog w=.ok (.string (nb l)) w:=by
 have hn:l.length=n:=by have:=h.1;rw[z1j]at this;omega
 have:=run_convert_bytes_back w 194 9 5 ⟨g,0,none⟩ cap (l.map UInt8.ofNat) Tryz.underlying194 Tryz.underlying5 Tryz.underlying9 (fun j hj=>by
  rw[Addr.add_lit,Nat.zero_add];simp at hj;rw[h.cellAt j (by omega)];have hx:=hl _ (List.getElem_mem hj);simp[nv,hj];omega)
 rw[List.length_map,hn]at this;exact this
theorem Ym{e size:Nat}{xs:List Value}(h:w.ownsRow base e size v n xs)(hb:Below w.heap.size w w'):w'.ownsRow base e size v n xs:=
 h.kept (row:=none) ⟨hb.os,hb.tape,hb.output,hb.size,fun j hj _=>hb.block j hj⟩ (by cases hq:v.ownBlock<;>simp)
theorem Tryz.convNil(w:World):(convert 194 9 (.slice none 0 0)).run prog w=.ok (.string (nb [])) w:=by kernel_rfl
theorem Ry(h:w.ownsRow base 5 1 v n (nv l))(hl:∀x∈l,x<256):(convert 194 9 v).run prog w=.ok (.string (nb l)) w:=by
 have h0:=h;obtain⟨h1,⟨rfl,rfl⟩|⟨g,cap,cur,rfl,_⟩⟩:=h
 ·have:l=[]:=List.eq_nil_of_length_eq_zero (by rw[z1j]at h1;omega)
  subst this;exact Tryz.convNil w
 ·exact Hk h0 hl
def Tk(w:World)(g:Nat)(kd:Int)(T:ByteArray)(c0 c1 c2 c3:Int)(p:Int):Prop:=w.heap[g]? =some (.cells #[.int .i64 kd,.string T,.int .u64 c0,.int .u64 c1,.int .u64 c2,.int .u64 c3,.int .i64 p] 145)
@[reducible] def st7 (w:World) (g:Nat) (kd:Int) (T:ByteArray) (c0 c1 c2 c3:Int) (p:Int):World:=((((((w.setCell ⟨g,0,none⟩ (.int .i64 kd)).setCell ⟨g,1,none⟩ (.string T)).setCell ⟨g,2,none⟩ (.int .u64 c0)).setCell ⟨g,3,none⟩ (.int .u64 c1)).setCell ⟨g,4,none⟩ (.int .u64 c2)).setCell ⟨g,5,none⟩ (.int .u64 c3)).setCell ⟨g,6,none⟩ (.int .i64 p)
theorem Tk.cells{p:Int}(h:Tk w g kd T c0 c1 c2 c3 p):w.cell? ⟨g,0,none⟩=some (.int .i64 kd)/\w.cell? ⟨g,1,none⟩=some (.string T)/\w.cell? ⟨g,2,none⟩=some (.int .u64 c0)/\w.cell? ⟨g,3,none⟩=some (.int .u64 c1)/\w.cell? ⟨g,4,none⟩=some (.int .u64 c2)/\w.cell? ⟨g,5,none⟩=some (.int .u64 c3)/\w.cell? ⟨g,6,none⟩=some (.int .i64 p):=by
 unfold Tk at h;simp[World.cell?,h]
theorem Tk.thaw{p:Int}(h:Tk w g kd T c0 c1 c2 c3 p):w.frozen? ⟨g,0,none⟩=false/\w.frozen? ⟨g,1,none⟩=false/\w.frozen? ⟨g,2,none⟩=false/\w.frozen? ⟨g,3,none⟩=false/\w.frozen? ⟨g,4,none⟩=false/\w.frozen? ⟨g,5,none⟩=false/\w.frozen? ⟨g,6,none⟩=false:=by
 unfold Tk at h;simp[World.frozen?,h]
theorem Tk.lt{p:Int}(h:Tk w g kd T c0 c1 c2 c3 p):g<w.heap.size:=by
 unfold Tk at h;rcases Nat.lt_or_ge g w.heap.size with h2|h2
 ·exact h2
 ·rw[Array.getElem?_eq_none h2]at h;cases h
theorem Tk.below{B:Nat}{p:Int}(h:Tk w g kd T c0 c1 c2 c3 p)(hb:Below B w w')(hg:g<B):Tk w' g kd T c0 c1 c2 c3 p:=(hb.block g hg).trans h
theorem Tk.alloc{w:World}{g:Nat}{kd:Int}{T:ByteArray}{c0 c1 c2 c3 p:Int}(h:Tk w g kd T c0 c1 c2 c3 p)(o:Obj):Tk (w.alloc o) g kd T c0 c1 c2 c3 p:=(Below.heap_alloc w o g h.lt).trans h
theorem Tk.new(w:World)(kd:Int)(T:ByteArray)(c0 c1 c2 c3 p:Int):Tk (w.alloc (.cells #[.int .i64 kd,.string T,.int .u64 c0,.int .u64 c1,.int .u64 c2,.int .u64 c3,.int .i64 p] 145)) w.heap.size kd T c0 c1 c2 c3 p:=by
 show(w.heap.push _)[w.heap.size]? =_;simp
theorem Tk.st7{w:World}{g:Nat}{kd:Int}{T:ByteArray}{c0 c1 c2 c3 p:Int}(h:Tk w g kd T c0 c1 c2 c3 p)(kd':Int)(T':ByteArray)(d0 d1 d2 d3 p':Int):Tk (Proofs.YtgmcjddjdidpjaaGreatDoor.st7 w g kd' T' d0 d1 d2 d3 p') g kd' T' d0 d1 d2 d3 p':=by
 unfold Tk at*;simp only[World.setCell,Array.getElem?_modify,if_true,Option.map_map];rw[h];simp
theorem Below.st7{B:Nat}{a w:World}(h:Below B a w){g:Nat}(hg:B<=g)(kd:Int)(T:ByteArray)(c0 c1 c2 c3 p:Int):Below B a (Proofs.YtgmcjddjdidpjaaGreatDoor.st7 w g kd T c0 c1 c2 c3 p):=
 (((((((h.setCell (p:=⟨g,0,none⟩) hg _).setCell (p:=⟨g,1,none⟩) hg _).setCell (p:=⟨g,2,none⟩) hg _).setCell (p:=⟨g,3,none⟩) hg _).setCell (p:=⟨g,4,none⟩) hg _).setCell (p:=⟨g,5,none⟩) hg _).setCell (p:=⟨g,6,none⟩) hg _)
theorem Flt.st7{w:World}{q g:Nat}{c:Nat×Nat}(h:Flt w q c)(hne:q≠g)(kd:Int)(T:ByteArray)(c0 c1 c2 c3 p:Int):Flt (Proofs.YtgmcjddjdidpjaaGreatDoor.st7 w g kd T c0 c1 c2 c3 p) q c:=by
 unfold Flt at*;rw[Below.heap_setCell _ _ _ _ hne,Below.heap_setCell _ _ _ _ hne,Below.heap_setCell _ _ _ _ hne,Below.heap_setCell _ _ _ _ hne,Below.heap_setCell _ _ _ _ hne,Below.heap_setCell _ _ _ _ hne,Below.heap_setCell _ _ _ _ hne];exact h
abbrev Ls:=(Nat×Nat) ⊕ (List Nat×Nat)
def llit(S:ByteArray)(q p:Nat):Nat->Nat->List Nat->Ls
 |0,k,_=>.inl (flt S k)
 |f+1,k,acc=>
  if bt S k=some q then .inr (acc,k+1)else
  match lsg S k with
  | .inl e=>.inl e
  | .inr (b,n)=>if acc.length=255 then .inl (2,p)else llit S q p f n (acc++[b])
def ll(S:ByteArray)(q p k:Nat)(acc:List Nat):Ls:=llit S q p (S.size+1-k) k acc
theorem Rf(S:ByteArray)(q p:Nat):∀(f g k:Nat) (acc:List Nat),S.size+1-k<=f->S.size+1-k<=g->llit S q p f k acc=llit S q p g k acc
 |0,0,_,_,_,_=>rfl
 |0,g+1,k,acc,hf,_=>by
  have hb:=Jj (S:=S) (k:=k) (by omega);have hm:lsg S k=.inl (flt S k):=by unfold lsg;rw[hb]
  rw[llit,llit,hb,hm];simp
 |f+1,0,k,acc,_,hg=>by
  have hb:=Jj (S:=S) (k:=k) (by omega);have hm:lsg S k=.inl (flt S k):=by unfold lsg;rw[hb]
  rw[llit,llit,hb,hm];simp
 |f+1,g+1,k,acc,hf,hg=>by
  rw[llit,llit];split
  ·rfl
  ·cases hm:lsg S k with
   |inl e=>rfl
   |inr r=>
    obtain⟨b,n⟩:=r;have:=Mz hm;simp only;split
    ·rfl
    ·exact Rf S q p f g n _ (by omega) (by omega)
theorem Hv(S:ByteArray)(q p k:Nat)(acc:List Nat):ll S q p k acc=(if bt S k=some q then .inr (acc,k+1)else
  match lsg S k with
  | .inl e=>.inl e
  | .inr (b,n)=>if acc.length=255 then .inl (2,p)else ll S q p n (acc++[b])):=by
 unfold ll;rw[Rf S q p (S.size+1-k) (S.size+1-k+1) k acc (by omega) (by omega),llit];split
 ·rfl
 ·cases hm:lsg S k with
  |inl e=>rfl
  |inr r=>
   obtain⟨b,n⟩:=r;have:=Mz hm;simp only;split
   ·rfl
   ·exact Rf S q p _ _ n _ (by omega) (by omega)
theorem Rb(h:bt S k=some q):ll S q p k acc=.inr (acc,k+1):=by rw[Hv,if_pos h]
theorem z7s{e:Nat×Nat}(h:¬bt S k=some q)(hm:lsg S k=.inl e):ll S q p k acc=.inl e:=by rw[Hv,if_neg h,hm]
theorem z1l{b:Nat}(h:¬bt S k=some q)(hm:lsg S k=.inr (b,n))(hl:acc.length=255):ll S q p k acc=.inl (2,p):=by rw[Hv,if_neg h,hm];simp[hl]
theorem Rh{b:Nat}(h:¬bt S k=some q)(hm:lsg S k=.inr (b,n))(hl:acc.length≠255):ll S q p k acc=ll S q p n (acc++[b]):=by rw[Hv,if_neg h,hm];simp[hl]
def Mx(c:Nat×Nat)(w:World)(e:Ending)(w':World):Prop:=Bad (.agg #[.int .i64 0,.string ⟨#[]⟩,.int .u64 0,.int .u64 0,.int .u64 0,.int .u64 0,.int .i64 0]) c w e w'
def Km(r:Ls)(p:Nat)(w:World)(e:Ending)(w':World):Prop:=
 match r with
 | .inr (l,n)=>e=.returned (.tuple #[.agg #[.int .i64 3,.string (nb l),.int .u64 0,.int .u64 0,.int .u64 0,.int .u64 0,.int .i64 p],.int .i64 n,.nilIface])/\Below w.heap.size w w'
 | .inl c=>Mx c w e w'
def Lr(w:World)(v:Value)(l:List Nat)(w':World):Prop:=
 Hid (Below w.heap.size w w')/\Hid (w'.ownsRow (w.heap.size+1) 5 1 v l.length (nv l))/\Hid (Tk w' w.heap.size 0 {data:=#[]} 0 0 0 0 0)
theorem Lr.keep{W:World}(h:Lr w v l W)(hb:Below W.heap.size W w'):Lr w v l w':=
 ⟨hid (h.1.out.trans (hb.mono h.1.out.size)),hid (Ym h.2.1.out hb),hid (h.2.2.out.below hb h.2.2.out.lt)⟩
theorem Bz{w1:World}{c:Nat×Nat}(hB:Below w.heap.size w w1)(hF:Flt w1 p c)(hp:w.heap.size<=p)(hne:p≠w.heap.size):Hid (w.heap.size<=p/\Flt (st7 w1 w.heap.size 0 {data:=#[]} 0 0 0 0 0) p c/\Below w.heap.size w (st7 w1 w.heap.size 0 {data:=#[]} 0 0 0 0 0)):=
 ⟨hp,hF.st7 hne _ _ _ _ _ _ _,Below.st7 hB L0q _ _ _ _ _ _ _⟩
theorem z7t(S:ByteArray)(q p:Nat)(w:World)(h0:bt S p=some q)(hS:S.size<=9007199254740992):
  Calls prog 100 #[.string S,.int .i64 p] w fun e w'=>Km (ll S q p (p+1) []) p w e w':=by
 obtain⟨i0,hi0,hz0,hz1,hz2⟩:=info_parts Tryz.infoByte;have hql:=(Qb h0).2;obtain⟨hp0,hq0⟩:=Zd h0;have hpI:(p:Int)<(S.size:Int):=by omega
 obtain⟨R,hR⟩:∃R,R=ll S q p (p+1) []:=⟨_,rfl⟩;rw[<-hR];have HR:Hid (ll S q p (p+1) []=R):=hR.symm;clear hR h0;go_enter func100,ntmps100
 go_wp2_with fail
 go_loopw [8,9] (fun v a wr=>∃(k:Nat) (acc:List Nat),a=.int .i64 k/\k<=S.size/\acc.length<=255/\Hid (∀x∈acc,x<256)/\Hid (ll S q p k acc=R)/\Hid (Lr w v acc wr)) (fun _ a _=>S.size-(intOf a).toNat)
 case atStart=>exact⟨p+1,[],by go_num,by omega,by simp,hid (fun x hx=>by simp at hx),HR,hid ⟨hid (B0q.alloc L0q _),hid (World.ownsRow_nil _ _ _ _),hid (Tk.new w 0 {data:=#[]} 0 0 0 0 0)⟩⟩
 case round=>
  obtain⟨k,acc,rfl,hks,hal,HX,HM,HL⟩:=hrel;clear hq0;by_cases hend:bt S k=some q
  ·obtain⟨hkk,hxk⟩:=Zd hend
   have hkI:(k:Int)<(S.size:Int):=by omega
   have a0:decide ((S.size:Int)<=(k:Int))=false:=by simp;omega
   have HRe:Hid (R=.inr (acc,k+1)):=by show _=_;rw[<-HM.out,Rb hend]
   have HN:Hid (((k+1:Nat):Int)=(k:Int)+1):=by show _=_;omega
   have cva:=Ry HL.out.2.1.out HX.out;obtain⟨c0,c1,c2,c3,c4,c5,c6⟩:=HL.out.2.2.out.cells;obtain⟨f0,f1,f2,f3,f4,f5,f6⟩:=HL.out.2.2.out.thaw;obtain⟨TT,hTT⟩:∃TT,TT=nb acc:=⟨_,rfl⟩;rw[<-hTT]at cva;have HT0:Hid (Tk wr w.heap.size 0 {data:=#[]} 0 0 0 0 0):=HL.out.2.2;have HB0:Hid (Below w.heap.size w wr):=HL.out.1;have HTT:Hid (TT=nb acc):=hTT;clear hend HM HL hTT
   go_wp2_with fail
   obtain⟨r0,r1,r2,r3,r4,r5,r6⟩:=(HT0.out.st7 3 TT 0 0 0 0 (p:Int)).cells;unfold st7 at r0 r1 r2 r3 r4 r5 r6;refine bodyPost_ret (v:=.tuple #[.agg #[.int .i64 3,.string TT,.int .u64 0,.int .u64 0,.int .u64 0,.int .u64 0,.int .i64 p],.int .i64 ((k:Int)+1),.nilIface]) (by simp[results,Tryz.results100,go_sem,r0,r1,r2,r3,r4,r5,r6]) rfl ?_;rw[HRe.out];show _=_/\_;rw[HN.out,<-HTT.out];exact⟨rfl,Below.st7 HB0.out L0q _ _ _ _ _ _ _⟩
  ·have hcond:decide ((S.size:Int)<=(k:Int))=true/\S.size<=k∨(∃x:Nat,k<S.size/\At S k x/\x≠q/\x<256):=by
    cases hb:bt S k with
    |none=>exact .inl ⟨by have:=Xj hb;simp;omega,Xj hb⟩
    |some x=>exact .inr ⟨x,(Qb hb).1,Zd hb,fun e=>hend (by rw[hb,e]),(Qb hb).2⟩
   cases hm:lsg S k with
   |inl c=>
    have HRe:Hid (R=.inl c):=by show _=_;rw[<-HM.out,z7s hend hm]
    have HSg:Hid (∀w:World,Calls prog 148 #[.string S,.int .i64 k] w fun e w'=>Bad (.int .u8 0) c w e w'):=fun w=>z7r S k c w hm hS (by omega)
    clear hend HM hm HX;rcases hcond with⟨a0,a0'⟩|⟨x,hkk,⟨_,hxk⟩,hxq,hx6⟩
    ·go_wp2_with fail
     refine(HSg.out _).mono ?_;rintro e w1 ⟨f,rfl,HP⟩;have HB1:Hid (Below w.heap.size w w1):=HL.out.1.out.trans (HP.out.2.2.mono HL.out.1.out.size);have HT1:Hid (Tk w1 w.heap.size 0 {data:=#[]} 0 0 0 0 0):=HL.out.2.2.out.below HP.out.2.2 HL.out.2.2.out.lt;have HF1:Hid (Up w w1 f c):=⟨Nat.le_trans HL.out.1.out.size HP.out.1,fun e=>by have h1:=HL.out.2.2.out.lt;have h2:=HP.out.1;omega,HP.out.2.1⟩;clear HP HL;obtain⟨c0,c1,c2,c3,c4,c5,c6⟩:=HT1.out.cells;obtain⟨f0,f1,f2,f3,f4,f5,f6⟩:=HT1.out.thaw;have HT7:Hid (Tk (st7 w1 w.heap.size 0 {data:=#[]} 0 0 0 0 0) w.heap.size 0 {data:=#[]} 0 0 0 0 0):=HT1.out.st7 0 {data:=#[]} 0 0 0 0 0;unfold flv
     go_wp2_with fail
     obtain⟨r0,r1,r2,r3,r4,r5,r6⟩:=HT7.out.cells;unfold st7 at r0 r1 r2 r3 r4 r5 r6
     (try simp only[Exit.inBlock,Exit.then])
     refine bodyPost_ret (v:=.tuple #[.agg #[.int .i64 0,.string ⟨#[]⟩,.int .u64 0,.int .u64 0,.int .u64 0,.int .u64 0,.int .i64 0],.int .i64 0,.iface 81 (.pointer (some ⟨f,0,none⟩))]) (by simp[results,Tryz.results100,go_sem,r0,r1,r2,r3,r4,r5,r6]) rfl ?_;rw[HRe.out];exact⟨f,rfl,Bz HB1.out HF1.out.2.2 HF1.out.1 HF1.out.2.1⟩
    ·have hkI:(k:Int)<(S.size:Int):=by omega
     have a0:decide ((S.size:Int)<=(k:Int))=false:=by simp;omega
     have n0:((x:Int) != (q:Int))=true:=by rw[bne_iff_ne];omega
     clear hxq
     go_wp2_with fail
     refine(HSg.out _).mono ?_;rintro e w1 ⟨f,rfl,HP⟩;have HB1:Hid (Below w.heap.size w w1):=HL.out.1.out.trans (HP.out.2.2.mono HL.out.1.out.size);have HT1:Hid (Tk w1 w.heap.size 0 {data:=#[]} 0 0 0 0 0):=HL.out.2.2.out.below HP.out.2.2 HL.out.2.2.out.lt;have HF1:Hid (Up w w1 f c):=⟨Nat.le_trans HL.out.1.out.size HP.out.1,fun e=>by have h1:=HL.out.2.2.out.lt;have h2:=HP.out.1;omega,HP.out.2.1⟩;clear HP HL;obtain⟨c0,c1,c2,c3,c4,c5,c6⟩:=HT1.out.cells;obtain⟨f0,f1,f2,f3,f4,f5,f6⟩:=HT1.out.thaw;have HT7:Hid (Tk (st7 w1 w.heap.size 0 {data:=#[]} 0 0 0 0 0) w.heap.size 0 {data:=#[]} 0 0 0 0 0):=HT1.out.st7 0 {data:=#[]} 0 0 0 0 0;unfold flv
     go_wp2_with fail
     obtain⟨r0,r1,r2,r3,r4,r5,r6⟩:=HT7.out.cells;unfold st7 at r0 r1 r2 r3 r4 r5 r6
     (try simp only[Exit.inBlock,Exit.then])
     refine bodyPost_ret (v:=.tuple #[.agg #[.int .i64 0,.string ⟨#[]⟩,.int .u64 0,.int .u64 0,.int .u64 0,.int .u64 0,.int .i64 0],.int .i64 0,.iface 81 (.pointer (some ⟨f,0,none⟩))]) (by simp[results,Tryz.results100,go_sem,r0,r1,r2,r3,r4,r5,r6]) rfl ?_;rw[HRe.out];exact⟨f,rfl,Bz HB1.out HF1.out.2.2 HF1.out.1 HF1.out.2.1⟩
   |inr r=>
    obtain⟨b,n⟩:=r;have hok:=Mz hm;rcases hcond with⟨a0,a0'⟩|⟨x,hkk,⟨_,hxk⟩,hxq,hx6⟩
    ·omega
    ·have hkI:(k:Int)<(S.size:Int):=by omega
     have a0:decide ((S.size:Int)<=(k:Int))=false:=by simp;omega
     have n0:((x:Int) != (q:Int))=true:=by rw[bne_iff_ne];omega
     have HSg:Hid (∀w:World,Calls prog 148 #[.string S,.int .i64 k] w fun e w'=>e=.returned (.tuple #[.int .u8 b,.int .i64 n,.nilIface])/\Below w.heap.size w w'):=fun w=>z7q S k b n w hm hS
     have hsl:∃a c,u8=.slice a acc.length c:=by
      obtain⟨_,⟨h1,h2⟩|⟨g,cap,cur,e,_⟩⟩:=HL.out.2.1.out
      ·exact⟨none,0,by rw[h1,h2]⟩
      ·exact⟨_,cap,e⟩
     obtain⟨av,cv,rfl⟩:=hsl;by_cases hl5:acc.length=255
     ·have HRe:Hid (R=.inl (2,p)):=by show _=_;rw[<-HM.out,z1l hend hm hl5]
      rw[hl5]at HL ⊢;clear hend HM hm HX hxq hok hl5
      go_wp2_with fail
      refine(HSg.out _).mono ?_;rintro e w1 ⟨rfl,hb1⟩;have HB1:Hid (Below w.heap.size w w1):=HL.out.1.out.trans (hb1.mono HL.out.1.out.size);have HT1:Hid (Tk w1 w.heap.size 0 {data:=#[]} 0 0 0 0 0):=HL.out.2.2.out.below hb1 HL.out.2.2.out.lt;clear hb1 HL;have HT2:Hid (Tk (w1.alloc (.cells #[.int .i64 2,.int .i64 p] 84)) w.heap.size 0 {data:=#[]} 0 0 0 0 0):=HT1.out.alloc _;obtain⟨c0,c1,c2,c3,c4,c5,c6⟩:=HT2.out.cells;obtain⟨f0,f1,f2,f3,f4,f5,f6⟩:=HT2.out.thaw
      go_wp2_with fail
      obtain⟨r0,r1,r2,r3,r4,r5,r6⟩:=(HT2.out.st7 0 {data:=#[]} 0 0 0 0 0).cells;unfold st7 at r0 r1 r2 r3 r4 r5 r6
      (try simp only[Exit.inBlock,Exit.then])
      refine bodyPost_ret (v:=.tuple #[.agg #[.int .i64 0,.string ⟨#[]⟩,.int .u64 0,.int .u64 0,.int .u64 0,.int .u64 0,.int .i64 0],.int .i64 0,.iface 81 (.pointer (some ⟨w1.heap.size,0,none⟩))]) (by simp[results,Tryz.results100,go_sem,r0,r1,r2,r3,r4,r5,r6]) rfl ?_;rw[HRe.out];exact⟨w1.heap.size,rfl,Bz (HB1.out.alloc HB1.out.size _) (Flt.new w1 (2,p)) HB1.out.size (Nat.ne_of_gt HT1.out.lt)⟩
     ·have HM2:Hid (ll S q p n (acc++[b])=R):=by show _=_;rw[<-HM.out,Rh hend hm hl5]
      have HX2:Hid (∀y∈acc++[b],y<256):=fun y hy=>by
       rcases List.mem_append.1 hy with h|h
       ·exact HX.out y h
       ·simp at h;omega
      have d5:((acc.length:Int) == 255)=false:=by rw[beq_eq_false_iff_ne];omega
      have hb6:b<256:=hok.1;have hkn:k<n:=hok.2.1;have hns:n<=S.size:=hok.2.2;have hal2:acc.length<=254:=by omega
      clear hend HM hm HX hxq hok hl5
      go_wp2_with fail
      refine(HSg.out _).mono ?_;rintro e w1 ⟨rfl,hb1⟩;have HL1:=hid (HL.out.keep hb1);have hsz:w.heap.size<=w1.heap.size:=HL1.out.1.out.size;have hlt1:w.heap.size<w1.heap.size:=HL1.out.2.2.out.lt;clear hb1 HL
      go_wp2_with(first|(at_builtin;refine wpList_append_own _ rfl (.tmp 48) (.tmp 50) 194 rfl (w.heap.size+1) 5 i0 (.int .u8 0) 1 1 Tryz.underlying194 hi0 hz0 hz1 hz2 rfl (by decide) _ _ _ rfl (HL1.out.2.1.out.alloc _) ⟨w1.heap.size,0,none⟩ 1 1 [.int .u8 b] rfl rfl (Ug _ _ _) (Yx [(b:Int)]) (by unfold maxLen;omega) (by omega) (by simp;omega) ?_;intro v2 w2 hown2 hgr2 hnil2))
      have HL2:Hid (Lr w v2 (acc++[b]) w2):=by
       refine⟨hid ((HL1.out.1.out.alloc hsz _).grown hgr2 (by simp;omega) (fun y e=>by have:=(HL1.out.2.1.out.lt y e).1;omega)),hid ?_,hid ?_⟩
       ·rw[Kh,List.length_append];exact hown2
       ·refine(hgr2.block _ (by simp;omega) ?_).trans (HL1.out.2.2.out.alloc _)
        intro e;have:=(HL1.out.2.1.out.lt _ e.symm).1;omega
      clear hown2 hgr2 hnil2 HL1
      go_roundw
      case rel=>exact⟨n,acc++[b],rfl,hns,by simp;omega,HX2,HM2,HL2⟩
      case measure=>simp[intOf];omega
def Kp(S:ByteArray):Nat->Nat->Nat
 |0,k=>k
 |f+1,k=>match bt S k with
  |some x=>if Zf x||Gl x then Kp S f (k+1)else k
  |none=>k
def ne(S:ByteArray)(k:Nat):Nat:=Kp S (S.size-k) k
theorem z1m(h:bt S k=none):ne S k=k:=by
 have:=Xj h;unfold ne;rw[show S.size-k=0 by omega,Kp]
theorem Kc(h:bt S k=some x):ne S k=if Zf x||Gl x then ne S (k+1)else k:=by
 have:=(Qb h).1;unfold ne;rw[show S.size-k=(S.size-(k+1))+1 by omega,Kp,h]
theorem Rm(S:ByteArray):∀f k:Nat,k<=Kp S f k/\(f=S.size-k->k<=S.size->Kp S f k<=S.size)
 |0,k=>⟨Nat.le_refl _,fun _ h=>h⟩
 |f+1,k=>by
  rw[Kp];cases hb:bt S k with
  |none=>exact⟨Nat.le_refl _,fun _ h=>h⟩
  |some x=>
   have:=(Qb hb).1;have ih:=Rm S f (k+1);simp only;split
   ·exact⟨by omega,fun h1 h2=>ih.2 (by omega) (by omega)⟩
   ·exact⟨Nat.le_refl _,fun _ h=>h⟩
theorem Hw(h:k<=S.size):k<=ne S k/\ne S k<=S.size:=⟨(Rm S _ k).1,(Rm S _ k).2 rfl h⟩
theorem z1n(S:ByteArray)(p:Nat)(w:World)(hp:p<=S.size)(hS:S.size<=9007199254740992):
  Calls prog 146 #[.string S,.int .i64 p] w fun e w'=>e=.returned (.int .i64 (ne S p:Int))/\w'=w:=by
 obtain⟨R,hR⟩:∃R,R=ne S p:=⟨_,rfl⟩;rw[<-hR];have HR:Hid (ne S p=R):=hR.symm;clear hR;go_enter func146,ntmps146
 go_wp2_with fail
 go_loopw [1] (fun a wr=>∃k:Nat,a=.int .i64 k/\k<=S.size/\Hid (ne S k=R)/\wr=w) (fun a _=>S.size-(intOf a).toNat)
 case atStart=>exact⟨p,rfl,hp,HR,rfl⟩
 case round=>
  obtain⟨k,rfl,hks,HM,rfl⟩:=hrel;cases hb:bt S k with
  |none=>
   have hge:=Xj hb;have a0:decide ((k:Int)<(S.size:Int))=false:=by simp;omega
   have HK:Hid (R=k):=by show _=_;rw[<-HM.out,z1m hb]
   clear hb
   go_wp2_with fail
   go_ret;rw[HK.out];exact⟨rfl,rfl⟩
  |some x=>
   have hxl:=(Qb hb).2;obtain⟨hk,hxx⟩:=Zd hb;have hkI:(k:Int)<(S.size:Int):=by omega
   have a0:decide ((k:Int)<(S.size:Int))=true:=by simp;omega
   cases hl:Zf x with
   |true=>
    have HM2:Hid (ne S (k+1)=R):=by show _=_;rw[<-HM.out,Kc hb,hl];simp
    have HL:Hid (∀w:World,Calls prog 98 #[.int .u8 x] w fun e w'=>e=.returned (.bool true)/\w'=w):=fun w=>Fp x true hl w hxl
    clear hb hl HM
    go_wp2_with fail
    refine(HL.out _).mono ?_;rintro e w1 ⟨rfl,rfl⟩
    go_wp2_with fail
    go_roundw
    case rel=>exact⟨k+1,by go_num,by omega,HM2,trivial⟩
    case measure=>simp[intOf];omega
   |false=>
    have HL:Hid (∀w:World,Calls prog 98 #[.int .u8 x] w fun e w'=>e=.returned (.bool false)/\w'=w):=fun w=>Fp x false hl w hxl
    cases hd:Gl x with
    |true=>
     have HM2:Hid (ne S (k+1)=R):=by show _=_;rw[<-HM.out,Kc hb,hl,hd];simp
     have HD:Hid (∀w:World,Calls prog 185 #[.int .u8 x] w fun e w'=>e=.returned (.bool true)/\w'=w):=fun w=>z1f x true hd w hxl
     clear hb hl hd HM
     go_wp2_with fail
     refine(HL.out _).mono ?_;rintro e w1 ⟨rfl,rfl⟩
     go_wp2_with fail
     refine(HD.out _).mono ?_;rintro e w2 ⟨rfl,rfl⟩
     go_wp2_with fail
     go_roundw
     case rel=>exact⟨k+1,by go_num,by omega,HM2,trivial⟩
     case measure=>simp[intOf];omega
    |false=>
     have HK:Hid (R=k):=by show _=_;rw[<-HM.out,Kc hb,hl,hd];simp
     have HD:Hid (∀w:World,Calls prog 185 #[.int .u8 x] w fun e w'=>e=.returned (.bool false)/\w'=w):=fun w=>z1f x false hd w hxl
     clear hb hl hd HM
     go_wp2_with fail
     refine(HL.out _).mono ?_;rintro e w1 ⟨rfl,rfl⟩
     go_wp2_with fail
     refine(HD.out _).mono ?_;rintro e w2 ⟨rfl,rfl⟩
     go_wp2_with fail
     go_ret;rw[HK.out];exact⟨rfl,rfl⟩
def nmS(S:ByteArray):Bool:=match bt S 0 with
 |none=>false
 |some x=>decide (S.size<=32)&&Zf x&&decide (ne S 0=S.size)
theorem z7u(S:ByteArray)(w:World)(hS:S.size<=9007199254740992):
  Calls prog 219 #[.string S] w fun e w'=>e=.returned (.bool (nmS S))/\w'=w:=by
 have HE:Hid (∀w:World,Calls prog 146 #[.string S,.int .i64 0] w fun e w'=>e=.returned (.int .i64 (ne S 0:Int))/\w'=w):=fun w=>z1n S 0 w (Nat.zero_le _) hS
 obtain⟨R,hR⟩:∃R,R=nmS S:=⟨_,rfl⟩;rw[<-hR];cases hb:bt S 0 with
 |none=>
  have h0:S.size=0:=by have:=Xj hb;omega
  have hS0:S={data:=#[]}:=by
   apply ByteArray.ext;apply Array.eq_empty_of_size_eq_zero;exact h0
  have HR:Hid (R=false):=by show _=_;rw[hR];unfold nmS;rw[hb]
  clear hb hR h0 HE;subst hS0;go_enter func219,ntmps219
  go_wp2_with fail
  go_ret;rw[HR.out];exact⟨rfl,rfl⟩
 |some x=>
  have hxl:=(Qb hb).2;obtain⟨hk,hxx⟩:=Zd hb;have hkI:(0:Int)<(S.size:Int):=by omega
  have hne:S.toList.isEmpty=false:=by
   rw[Go.ByteArray.toList_eq];cases h:S.data.toList with
   |nil=>
    have h1:S.data.toList.length=0:=by rw[h];rfl
    have h2:S.data.size=S.size:=rfl;rw[Array.length_toList]at h1;omega
   |cons _ _=>rfl
  have hR2:R=(decide (S.size<=32)&&Zf x&&decide (ne S 0=S.size)):=by rw[hR];unfold nmS;rw[hb]
  clear hR hb;by_cases h32:S.size<=32
  ·have a0:decide ((S.size:Int)<=32)=true:=by simp;omega
   rw[decide_eq_true h32]at hR2;cases hl:Zf x with
   |false=>
    have HL:Hid (∀w:World,Calls prog 98 #[.int .u8 x] w fun e w'=>e=.returned (.bool false)/\w'=w):=fun w=>Fp x false hl w hxl
    have HR:Hid (R=false):=by show _=_;rw[hR2,hl];simp
    clear hl hR2 HE;go_enter func219,ntmps219
    go_wp2_with fail
    refine(HL.out _).mono ?_;rintro e w1 ⟨rfl,rfl⟩
    go_wp2_with fail
    go_ret;rw[HR.out];exact⟨rfl,rfl⟩
   |true=>
    have HL:Hid (∀w:World,Calls prog 98 #[.int .u8 x] w fun e w'=>e=.returned (.bool true)/\w'=w):=fun w=>Fp x true hl w hxl
    obtain⟨N,hN⟩:∃N,N=ne S 0:=⟨_,rfl⟩;rw[<-hN]at HE hR2;obtain⟨v,hv⟩:∃v,v=((N:Int) == (S.size:Int)):=⟨_,rfl⟩;have HR:Hid (R=v):=by
     show _=_;rw[hR2,hl,hv];by_cases h:N=S.size
     ·rw[h];simp
     ·have h2:¬(N:Int)=(S.size:Int):=by omega
      simp[h,h2]
    clear hl hR2 hN;go_enter func219,ntmps219
    go_wp2_with fail
    refine(HL.out _).mono ?_;rintro e w1 ⟨rfl,rfl⟩
    go_wp2_with fail
    refine(HE.out _).mono ?_;rintro e w2 ⟨rfl,rfl⟩
    go_wp2_with fail
    go_ret;rw[HR.out,hv];exact⟨by first|rfl|simp,rfl⟩
  ·have a0:decide ((S.size:Int)<=32)=false:=by simp;omega
   have HR:Hid (R=false):=by show _=_;rw[hR2,decide_eq_false h32];simp
   clear hR2 HE;go_enter func219,ntmps219
   go_wp2_with fail
   go_ret;rw[HR.out];exact⟨rfl,rfl⟩
def lnd(S:ByteArray):Nat->Nat->Nat
 |0,k=>k
 |f+1,k=>if bt S k=some 10 then k else lnd S f (k+1)
def le(S:ByteArray)(k:Nat):Nat:=lnd S (S.size-k) k
theorem z7v(h:k<S.size):le S k=if bt S k=some 10 then k else le S (k+1):=by
 unfold le;rw[show S.size-k=(S.size-(k+1))+1 by omega,lnd]
theorem z1o(S:ByteArray):∀f k:Nat,f=S.size-k->k<=S.size->k<=lnd S f k/\lnd S f k<=S.size
 |0,k,_,h=>⟨Nat.le_refl _,h⟩
 |f+1,k,hf,h=>by
  rw[lnd];have ih:=z1o S f (k+1) (by omega) (by omega);split
  ·exact⟨Nat.le_refl _,h⟩
  ·omega
theorem Hy(h:k<=S.size):k<=le S k/\le S k<=S.size:=z1o S _ k rfl h
theorem Hf(h:bt S k=some x)(hx:x≠10):k<le S k:=by
 have hk:=(Qb h).1;rw[z7v hk,if_neg (by rw[h];simp;exact hx)];have:=(Hy (S:=S) (k:=k+1) (by omega)).1;omega
theorem Rp(h:bt S k=some x):∃b:UInt8,S.data.toList.drop k=b::S.data.toList.drop (k+1)/\b.toNat=x:=by
 obtain⟨hk,hx⟩:=Zd h;have hk2:k<S.data.toList.length:=by rw[Array.length_toList];exact hk
 exact⟨_,List.drop_eq_getElem_cons hk2,by rw[<-hx];rfl⟩
theorem z1p(S:ByteArray):∀f k:Nat,f=S.size-k->k<=S.size->
  (Lib.indexByte (S.data.toList.drop k) 10= -1/\lnd S f k=S.size)∨(0<=Lib.indexByte (S.data.toList.drop k) 10/\(lnd S f k:Int)=(k:Int)+Lib.indexByte (S.data.toList.drop k) 10)
 |0,k,hf,h=>by
  left;have:k=S.size:=by omega
  rw[List.drop_eq_nil_of_le (by rw[Array.length_toList];exact Nat.le_of_eq this.symm)];exact⟨rfl,by rw[lnd];exact this⟩
 |f+1,k,hf,h=>by
  cases hb:bt S k with
  |none=>have:=Xj hb;omega
  |some x=>
   obtain⟨b,hd,hbx⟩:=Rp hb;rw[lnd,hb,hd,Lib.indexByte];by_cases hx:x=10
   ·have:(b == 10)=true:=by rw[beq_iff_eq];apply UInt8.toNat.inj;rw[hbx,hx];rfl
    rw[this,hx];right;simp
   ·have h1:(b == 10)=false:=by rw[beq_eq_false_iff_ne];intro e;apply hx;rw[<-hbx,e];rfl
    have h2:¬(some x=some 10):=by simp;exact hx
    rw[h1,if_neg h2];rcases z1p S f (k+1) (by omega) (by omega)with⟨h3,h4⟩|⟨h3,h4⟩
    ·left;rw[h3];exact⟨rfl,h4⟩
    ·right
     have h5:(Lib.indexByte (S.data.toList.drop (k+1)) 10 == -1)=false:=by rw[beq_eq_false_iff_ne];omega
     rw[h5];simp only[Bool.false_eq_true,if_false];omega
theorem z1q(S:ByteArray)(p:Nat)(hp:p<=S.size):(S.extract p S.size).data.toList=S.data.toList.drop p:=by
 simp only[ByteArray.data_extract,Array.toList_extract];rw[List.extract_eq_take_drop,List.take_of_length_le];rw[List.length_drop,Array.length_toList];exact Nat.le_refl _
theorem z7w(S:ByteArray)(p:Nat)(w:World)(hp:p<S.size)(hS:S.size<=9007199254740992):
  Calls prog 97 #[.string S,.int .i64 p] w fun e w'=>e=.returned (.int .i64 (le S p:Int))/\w'=w:=by
 have hpI:(p:Int)<(S.size:Int):=by omega
 have hpI2:(p:Int)<=(S.size:Int):=by omega
 have hle:=(Hy (S:=S) (k:=p) (by omega)).2;have hcas:=z1p S (S.size-p) p rfl (by omega);have HI:Hid (∀w:World,Calls prog 103 #[.string (S.extract p S.size),.int .u8 10] w fun e w'=>e=.returned (.int .i64 (Lib.indexByte (S.data.toList.drop p) 10))/\w'=w):=fun w=>by
  have h:=Rj (S.extract p S.size) 10 w;rw[z1q S p (by omega)]at h;exact h
 obtain⟨i,hi⟩:∃i,i=Lib.indexByte (S.data.toList.drop p) 10:=⟨_,rfl⟩;rw[<-hi]at HI hcas;obtain⟨L,hL⟩:∃L,L=le S p:=⟨_,rfl⟩;rw[<-hL]at hle ⊢;have hcas2:(i= -1/\L=S.size)∨(0<=i/\(L:Int)=(p:Int)+i):=by rw[hL];exact hcas
 clear hcas hi hL;rcases hcas2 with⟨rfl,hL⟩|⟨h0,hL⟩
 ·have HL:Hid (L=S.size):=hL
  clear hL;go_enter func97,ntmps97
  go_wp2_with fail
  refine(HI.out _).mono ?_;rintro e w1 ⟨rfl,rfl⟩
  go_wp2_with fail
  go_ret;rw[HL.out];exact⟨rfl,rfl⟩
 ·have HL:Hid ((L:Int)=(p:Int)+i):=hL
  have a0:decide (0<=i)=true:=by simp;omega
  have b1:(p:Int)+i<9223372036854775808:=by omega
  clear hL;go_enter func97,ntmps97
  go_wp2_with fail
  refine(HI.out _).mono ?_;rintro e w1 ⟨rfl,rfl⟩
  go_wp2_with fail
  go_ret;rw[HL.out];exact⟨by first|rfl|go_num,rfl⟩
def blB(x:Nat):Bool:=x == 9||(x == 10||(x == 13||x == 32))
def sbl(S:ByteArray):Nat->Nat->Nat
 |0,k=>k
 |f+1,k=>match bt S k with
  |none=>k
  |some x=>if blB x then sbl S f (k+1)else if x=35 then sbl S f (le S k)else k
def sb(S:ByteArray)(k:Nat):Nat:=sbl S (S.size-k) k
theorem Sz(S:ByteArray):∀f g k:Nat,S.size-k<=f->S.size-k<=g->sbl S f k=sbl S g k
 |0,0,_,_,_=>rfl
 |0,g+1,k,hf,_=>by rw[sbl,sbl,Jj (by omega)]
 |f+1,0,k,_,hg=>by rw[sbl,sbl,Jj (by omega)]
 |f+1,g+1,k,hf,hg=>by
  rw[sbl,sbl];cases hb:bt S k with
  |none=>rfl
  |some x=>
   have hk:=(Qb hb).1;simp only;split
   ·exact Sz S f g (k+1) (by omega) (by omega)
   ·split
    ·rename_i h
     have:=Hf hb (by omega);exact Sz S f g (le S k) (by omega) (by omega)
    ·rfl
theorem Sq(h:bt S k=none):sb S k=k:=by
 have:=Xj h;unfold sb;rw[show S.size-k=0 by omega,sbl]
theorem Hg(h:bt S k=some x):sb S k=if blB x then sb S (k+1)else if x=35 then sb S (le S k)else k:=by
 have hk:=(Qb h).1;unfold sb;rw[show S.size-k=(S.size-(k+1))+1 by omega,sbl,h];simp only;split
 ·rfl
 ·split
  ·have:=Hf h (by omega)
   exact Sz S _ _ (le S k) (by omega) (by omega)
  ·rfl
theorem Sx(S:ByteArray):∀f k:Nat,S.size-k<=f->k<=S.size->k<=sb S k/\sb S k<=S.size
 |0,k,hf,h=>by rw[Sq (Jj (by omega))];omega
 |f+1,k,hf,h=>by
  cases hb:bt S k with
  |none=>rw[Sq hb];omega
  |some x=>
   have hk:=(Qb hb).1;rw[Hg hb];split
   ·have:=Sx S f (k+1) (by omega) (by omega);omega
   ·split
    ·have h1:=Hf hb (by omega)
     have h2:=(Hy (S:=S) (k:=k) h).2;have:=Sx S f (le S k) (by omega) h2;omega
    ·omega
theorem z7x(S:ByteArray)(p:Nat)(w:World)(hp:p<=S.size)(hS:S.size<=9007199254740992):
  Calls prog 63 #[.string S,.int .i64 p] w fun e w'=>e=.returned (.int .i64 (sb S p:Int))/\w'=w:=by
 obtain⟨R,hR⟩:∃R,R=sb S p:=⟨_,rfl⟩;rw[<-hR];have HR:Hid (sb S p=R):=hR.symm;clear hR;go_enter func63,ntmps63
 go_wp2_with fail
 go_loopw [1] (fun a wr=>∃k:Nat,a=.int .i64 k/\k<=S.size/\Hid (sb S k=R)/\wr=w) (fun a _=>S.size-(intOf a).toNat)
 case atStart=>exact⟨p,rfl,hp,HR,rfl⟩
 case round=>
  obtain⟨k,rfl,hks,HM,rfl⟩:=hrel;cases hb:bt S k with
  |none=>
   have hge:=Xj hb;have a0:decide ((k:Int)<(S.size:Int))=false:=by simp;omega
   have HK:Hid (R=k):=by show _=_;rw[<-HM.out,Sq hb]
   clear hb
   go_wp2_with fail
   go_ret;rw[HK.out];exact⟨rfl,rfl⟩
  |some x=>
   have hxl:=(Qb hb).2;obtain⟨hk,hxx⟩:=Zd hb;have hkI:(k:Int)<(S.size:Int):=by omega
   have a0:decide ((k:Int)<(S.size:Int))=true:=by simp;omega
   have hc:(x=9∨x=10∨x=13∨x=32)∨x=35∨(x≠9/\x≠10/\x≠13/\x≠32/\x≠35):=by omega
   rcases hc with h|h|⟨h1,h2,h3,h4,h5⟩
   ·have HM2:Hid (sb S (k+1)=R):=by
     show _=_;rw[<-HM.out,Hg hb,if_pos (by unfold blB;rcases h with h|h|h|h<;>rw[h]<;>rfl)]
    clear hb HM;rcases h with h|h|h|h
    all_goals
     subst h
     go_wp2_with fail
     go_roundw
     case rel=>exact⟨k+1,by go_num,by omega,HM2,trivial⟩
     case measure=>simp[intOf];omega
   ·have HM2:Hid (sb S (le S k)=R):=by
     show _=_;rw[<-HM.out,Hg hb,if_neg (by rw[h];decide),if_pos h]
    have HL:Hid (∀w:World,Calls prog 97 #[.string S,.int .i64 k] w fun e w'=>e=.returned (.int .i64 (le S k:Int))/\w'=w):=fun w=>z7w S k w hk hS
    have hl1:k<le S k:=Hf hb (by omega);have hl2:le S k<=S.size:=(Hy (S:=S) (k:=k) hks).2;obtain⟨L,hL⟩:∃L,L=le S k:=⟨_,rfl⟩;rw[<-hL]at HM2 HL hl1 hl2;clear hb HM hL;subst h
    go_wp2_with fail
    refine(HL.out _).mono ?_;rintro e w1 ⟨rfl,rfl⟩
    go_wp2_with fail
    go_roundw
    case rel=>exact⟨L,rfl,hl2,HM2,trivial⟩
    case measure=>simp[intOf];omega
   ·have HK:Hid (R=k):=by
     show _=_;rw[<-HM.out,Hg hb,if_neg (by unfold blB;simp;omega),if_neg h5]
    have b1:((x:Int) == 9)=false:=by simp;omega
    have b2:((x:Int) == 10)=false:=by simp;omega
    have b3:((x:Int) == 13)=false:=by simp;omega
    have b4:((x:Int) == 32)=false:=by simp;omega
    have b5:((x:Int) == 35)=false:=by simp;omega
    clear hb HM h1 h2 h3 h4 h5
    go_wp2_with fail
    (try simp only[Exit.inBlock,Exit.then])
    go_ret;rw[HK.out];exact⟨rfl,rfl⟩
end Go.Proofs.YtgmcjddjdidpjaaGreatDoor
