/- Lemmas for the last text. Conditions: those that each names. -/
import Derived.Test.YtmelafeingcgnaaGreatDoorVPHToQD
import Derived.Test.YtmelafeingcgnaaGreatDoorVC10aToPF
import Derived.Test.YtmelafeingcgnaaGreatDoorVU3ToU8
import Derived.RegionIn
import Derived.RangeFuncCalls
import Derived.Test.YtmelafeingcgnaaGreatDoorVO19ToU2
import Derived.Deep.AppendLies
import Derived.Deep.RegionLaw
set_option linter.unusedVariables false
set_option maxRecDepth 100000
set_option maxHeartbeats 16000000
namespace Go.Proofs.YtmelafeingcgnaaGreatDoor
open Go.Proofs.Tryz
section
open Go.RowKit Go.Shelf Go.Maps
def Pt2(rs:List Rr)(t:RT):Prop:=Ptt rs t/\szT t<=8192
theorem z5V{t:RT}:∀{s:List RT},t∈s->szT t<=szL s
 |a::r,h=>by
  rw[szL];rcases List.mem_cons.1 h with rfl|h
  ·omega
  ·have:=z5V h;omega
theorem y5b{rs:List Rr}:∀k T a b c d s p,Pt2 rs (.mk k T a b c d s p)->∀t∈s,Pt2 rs t:=fun k T a b c d s p h t o=>by
 refine⟨Aw k T a b c d s p h.1 t o,?_⟩;have r:k≠5:=fun e=>by
  subst e;rw[ok5 h.1.1]at o;cases o
 have y:=h.2;rw[szT,if_neg r]at y;have:=z5V o;omega
theorem z5W{x:Rr}:∀{rs:List Rr},x∈rs->szT x.2.1<=szG rs
 |a::r,h=>by
  rw[szG];rcases List.mem_cons.1 h with rfl|h
  ·omega
  ·have:=z5W h;omega
theorem Snd.src2{rs:List Rr}(h:Snd rs)(y:PrG rs):Src (Pt2 rs) (fun T=>fdI T (nmL rs)) (pgG rs).2/\∀j (E:j<rs.length),∃n,(pgG rs).1[j]? =some n/\Dn (fun T=>fdI T (nmL rs)) (pgG rs).2 rs[j].2.1 n:=
 Ww y5b (fun t r=>r.1.2.2.2) (fun T a b c d s p r=>z5m h.len T a b c d s p r.1) rs [] (fun x hx=>⟨h.pt hx,Nat.le_trans (z5W hx) (z5Q y)⟩) (by have:=h.nd;simpa using this) ⟨(fun o A=>by cases A),fun k D=>by simp at D⟩
theorem y5c(ops:List Ox)(k:Nat):∃m,zsF [] ops=zsF [] (ops.take k)++m:=by
 have h:∀(b:List Ox) (z:List Int),∃m,zsF z b=z++m:=by
  intro b
  induction b with
  |nil=>intro z;exact⟨[],by rw[zsF,List.append_nil]⟩
  |cons o r ih=>
   intro z;obtain⟨m,y⟩:=ih (z++[szO z o]);exact⟨szO z o::m,by rw[zsF,y,List.append_assoc];rfl⟩
 have e:zsF [] ops=zsF (zsF [] (ops.take k)) (ops.drop k):=by rw[<-Wl,List.take_append_drop]
 rw[e];exact h _ _
theorem z0b(ops:List Ox)(k i:Nat)(o:i<k)(r:k<=ops.length):(zsF [] (ops.take k)).getD i 0=(zsF [] ops).getD i 0:=by
 obtain⟨m,h⟩:=y5c ops k;rw[h,List.getD_eq_getElem?_getD,List.getD_eq_getElem?_getD,List.getElem?_append_left (by rw[Ih,List.length_take];simp;omega)]
theorem z5X(ops:List Ox)(k:Nat)(h:k<ops.length):(zsF [] ops).getD k 0=szO (zsF [] (ops.take k)) ops[k]:=by
 rw[<-z0b ops (k+1) k (by omega) (by omega),z5T ops k h,List.getD_eq_getElem?_getD];have hl:(zsF [] (ops.take k)).length=k:=by rw[Ih,List.length_take];simp;omega
 rw[List.getElem?_append_right (by omega),hl,Nat.sub_self];rfl
theorem z0c{z o:List Int}:∀{s:List Int},(∀x∈s,z.getD x.toNat 0=o.getD x.toNat 0)->ttl z s=ttl o s
 |[],_=>rfl
 |x::r,h=>by rw[ttl,ttl,h x (by simp),z0c fun y A=>h y (by simp[A])]
section
variable {ix:ByteArray->Int} {m:Int} {ops:List Ox}
theorem z0d(G:Onc m ops):∀(Q:Nat) (t:RT) (k:Int),SizeOf.sizeOf t<Q->Dn ix ops t k->(zsF [] ops).getD k.toNat 0=(szT t:Int)
 |0,t,k,h,_=>by omega
 |Q+1,.mk kd T a b c d s p,k,h,hd=>by
  rw[Dn]at hd;rcases hd.2 with⟨rfl,D⟩|⟨E,l,D,U⟩
  ·obtain⟨o,y⟩:=List.getElem?_eq_some_iff.1 D
   rw[z5X ops _ o,y];unfold szO;rw[szT];rfl
  ·obtain⟨o,y⟩:=List.getElem?_eq_some_iff.1 D
   rw[z5X ops _ o,y];unfold szO;rw[szT,if_neg E,if_neg E];show 1+(T.size:Int)+ttl (zsF [] (ops.take k.toNat)) l=_;have A:=G.2 k.toNat o;rw[y]at A;have A:∀x∈l,0<=x/\x<(k.toNat:Int):=fun x hx=>by
    have:=A x hx;rw[if_neg E]at this;exact this
   have V:ttl (zsF [] (ops.take k.toNat)) l=ttl (zsF [] ops) l:=z0c fun x hx=>z0b ops k.toNat x.toNat (by have:=A x hx;omega) (by omega)
   have Y:∀(s:List RT) (l:List Int),SizeOf.sizeOf s<Q->DnL ix ops s l->ttl (zsF [] ops) l=(szL s:Int):=by
    intro s
    induction s with
    |nil=>intro l _ hl;rw[DnL]at hl;rw[hl,ttl,szL];rfl
    |cons t r ih=>
     intro l Z hl;rw[DnL]at hl;obtain⟨n,l',rfl,h3,h4⟩:=hl;simp at Z;rw[ttl,szL,z0d G Q t n (by omega) h3,ih l' (by omega) h4];omega
   rw[V,Y s l (by simp at h;omega) U];omega
theorem z5Y(h:Onc m ops):∀(s:List RT) (l:List Int),DnL ix ops s l->ttl (zsF [] ops) l=(szL s:Int)
 |[],l,hl=>by rw[DnL]at hl;rw[hl,ttl,szL];rfl
 |t::r,l,hl=>by
  rw[DnL]at hl;obtain⟨n,l',rfl,o,y⟩:=hl;rw[ttl,szL,z0d h _ t n (Nat.lt_succ_self _) o,z5Y h r l' y];omega
end
theorem z5Z{ix:zA->Int}{m:Int}{ops:List Ox}(o:Onc m ops):∀(rs:List Rr) (ro:List Int),ro.length=rs.length->(∀j (y:j<rs.length),∃n,ro[j]? =some n/\Dn ix ops rs[j].2.1 n)->ttl (zsF [] ops) ro=(szG rs:Int)
 |[],ro,hl,_=>by
  have:ro=[]:=List.length_eq_zero_iff.1 hl;rw[this,ttl,szG];rfl
 |x::r,[],hl,_=>by simp at hl
 |x::r,n::ro,hl,h=>by
  obtain⟨A,D,E⟩:=h 0 (by simp);have e:A=n:=by simpa using D.symm
  subst e;rw[ttl,szG,z0d o _ _ _ (Nat.lt_succ_self _) E,z5Z o r ro (by simpa using hl) (fun j y=>by
   obtain⟨n,G,U⟩:=h (j+1) (by simp;omega);exact⟨n,by simpa using G,by simpa using U⟩)]
  show((szT x.2.1:Nat):Int)+_=_;omega
theorem Snd.unf{rs:List Rr}(h:Snd rs)(hp:PrG rs):Unf (pgG rs).2 (nmL rs) (pgG rs).1:=by
 have Z:=y4v h.ck;obtain⟨hs,hr⟩:=h.src2 hp;have ab:(pgG rs).1.length=rs.length:=(Vv (fun T=>fdI T (nmL rs)) rs []).2.1.1;refine⟨fun i E G=> ?_,fun i E G=> ?_,fun i E=> ?_,fun x hx=> ?_,?_,fun x hx=> ?_⟩
 ·obtain⟨t,U,A⟩:=hs.2 i E
  obtain⟨kd,N,a,b,c,d,s,p⟩:=t;rw[Dn,Int.toNat_natCast]at A;rcases A.2 with⟨rfl,o⟩|⟨Y,l,o,D⟩
  ·obtain⟨_,r⟩:=List.getElem?_eq_some_iff.1 o
   refine⟨fdI N (nmL rs),by rw[r],?_⟩;have aa:=U.1.2.2.1 (N,p) (by rw[rfT,if_pos rfl];exact List.mem_singleton.2 rfl);have:=Gh N (nmL rs) aa;unfold fdI;rw[if_pos aa];omega
  ·obtain⟨_,r⟩:=List.getElem?_eq_some_iff.1 o
   rw[r]at G;exact absurd G Y
 ·have V:=Z.2 i E
  have V:∀x∈(pgG rs).2[i].2.2.2,0<=x/\x<(i:Int):=fun x hx=>by
   have:=V x hx;rw[if_neg G]at this;exact this
  refine⟨V,?_⟩;obtain⟨t,U,A⟩:=hs.2 i E;obtain⟨kd,N,a,b,c,d,s,p⟩:=t;rw[Dn,Int.toNat_natCast]at A;rcases A.2 with⟨rfl,o⟩|⟨Y,l,o,D⟩
  ·obtain⟨_,r⟩:=List.getElem?_eq_some_iff.1 o
   rw[r]at G;exact absurd rfl G
  ·obtain⟨_,r⟩:=List.getElem?_eq_some_iff.1 o
   rw[r]at V ⊢;have e1:ttl (zsF [] ((pgG rs).2.take i)) l=ttl (zsF [] (pgG rs).2) l:=z0c fun x hx=>z0b _ i x.toNat (by have:=V x hx;omega) (by omega)
   show ttl (zsF [] ((pgG rs).2.take i)) l<=8192;rw[e1,z5Y Z s l D];have:=U.2;rw[szT,if_neg Y]at this;omega
 ·obtain⟨t,U,A⟩:=hs.2 i E
  obtain⟨kd,N,a,b,c,d,s,p⟩:=t;rw[Dn,Int.toNat_natCast]at A;rcases A.2 with⟨rfl,o⟩|⟨Y,l,o,D⟩
  ·obtain⟨_,r⟩:=List.getElem?_eq_some_iff.1 o
   rw[r];exact Nat.zero_le _
  ·obtain⟨_,r⟩:=List.getElem?_eq_some_iff.1 o
   rw[r];have:=U.1.2.2.2;rw[TrK]at this;exact this.1.2.1
 ·exact(Vv (fun T=>fdI T (nmL rs)) rs []).2.1.2 x hx
 ·rw[z5Z Z rs _ ab hr]
  have:=z5Q hp;omega
 ·obtain⟨y,hy,rfl⟩:=List.mem_map.1 hx
  have o:=h.ok;unfold okG at o;simp only[Bool.and_eq_true,List.all_eq_true]at o;have D:=o.2.2 y hy;unfold okR at D;simp only[Bool.and_eq_true]at D;exact z3H D.1
end
open Go.RowKit Go.Shelf Go.Maps
def RsC(W:World)(so:Option Addr)(s:List ByteArray):Prop:=∀j (hj:j<s.length),∃g,so=some ⟨g,0,none⟩/\g<W.heap.size/\W.cell? ⟨g,j,none⟩=some (zT s[j])
theorem RsC.below{W W':World}{o:Option Addr}{s:List ByteArray}(h:RsC W o s)(r:zB W W'):RsC W' o s:=fun j A=>by
 obtain⟨g,e,y,D⟩:=h j A;exact⟨g,e,Nat.lt_of_lt_of_le y r.size,(r.cell (p:=⟨g,j,none⟩) y).trans D⟩
theorem RwC.under{W W':World}{o:Option Addr}{s:List Int}(h:RwC W (· <W.heap.size) o s)(r:zB W W'):RwC W' (· <W'.heap.size) o s:=h.keep fun b y=>⟨Nat.lt_of_lt_of_le y r.size,r.block b y⟩
theorem y5d(D E:Option Addr)(n aa ab:Nat)(s:List ByteArray)(G:n=s.length)(hl:n<=1048576)(w:World)(h:RsC w D s)(U:RsC w E s):
  Calls prog 106 #[.slice D n aa,.slice E n ab] w fun e w'=>e=.returned (.bool true)/\zB w w':=by
 have HN:Hid (n=s.length):=G;have HR:=hid h;have HZ:=hid U;clear G h U;go_enter func106,ntmps106
 go_wp2_with fail
 go_loopw [13] (fun i wr=>∃j:Nat,i=zI (j:Int)/\j<=n/\Hid (zB w wr)) (fun i _=>n-(intOf i).toNat)
 case atStart=>exact⟨0,rfl,Nat.zero_le _,hid B0q⟩
 case round=>
  obtain⟨j,rfl,hj,r⟩:=hrel;by_cases hjn:j<n
  rotate_left
  ·have a0:decide ((j:Int)<(n:Int))=false:=by simp;omega
   have a1:decide (j<n)=false:=by simp;omega
   go_wp2_with fail
   (try simp only[Exit.inBlock,Exit.then])
   go_ret;exact⟨rfl,r.out⟩
  have V:j<s.length:=by rw[<-HN.out];exact hjn
  obtain⟨g,rfl,hg,y⟩:=(HR.out.below r.out) j V;obtain⟨Y,rfl,ad,A⟩:=(HZ.out.below r.out) j V;obtain⟨x,hx⟩:∃x,x=s[j]:=⟨_,rfl⟩;rw[<-hx]at y A;have Z:Hid (zC wr.drew g j (zT x)/\zC wr.drew Y j (zT x)):=⟨y,A⟩;have ac:=hid r.out.drew;have a0:decide ((j:Int)<(n:Int))=true:=by simp;omega
  have a1:decide (j<n)=true:=by simp;omega
  have ae:(j:Int)<(n:Int):=by omega
  have af:IntKind.i64.wrap ((j:Int)+1)=(j:Int)+1:=by rw[IntKind.wrap_i64];omega
  clear hx y A
  go_wp2_with fail
  refine Qc 99 (fun W:World=>zC W g j (zT x)/\zC W Y j (zT x)) (by kernel_rfl) Z.out (fun o=> ?_);refine Qz 0 o ?_;refine Qz 1 o ?_;refine Qz 2 o ?_;refine Qz 3 o ?_;refine Qz 4 o ?_;refine Qz 5 o ?_;refine Qz 6 o ?_;refine Qz 7 o ?_;refine Qz 8 o ?_;refine⟨by kernel_rfl,?_⟩;clear o Z
  go_wp2_with fail
  go_roundw
  case rel=>exact⟨j+1,by simp,by omega,ac⟩
  case measure=>simp[intOf];omega
theorem z6a(G U:Option Addr)(n ac ad:Nat)(s:List Int)(V:n=s.length)(hl:n<=1048576)(w:World)(h:RwC w (· <w.heap.size) G s)(Y:RwC w (· <w.heap.size) U s):
  Calls prog 107 #[.slice G n ac,.slice U n ad] w fun e w'=>e=.returned (.bool true)/\zB w w':=by
 have HN:Hid (n=s.length):=V;have HR:=hid h;have HZ:=hid Y;clear V h Y;go_enter func107,ntmps107
 go_wp2_with fail
 go_loopw [13] (fun i wr=>∃j:Nat,i=zI (j:Int)/\j<=n/\Hid (zB w wr)) (fun i _=>n-(intOf i).toNat)
 case atStart=>exact⟨0,rfl,Nat.zero_le _,hid B0q⟩
 case round=>
  obtain⟨j,rfl,hj,y⟩:=hrel;by_cases hjn:j<n
  rotate_left
  ·have a0:decide ((j:Int)<(n:Int))=false:=by simp;omega
   have a1:decide (j<n)=false:=by simp;omega
   go_wp2_with fail
   (try simp only[Exit.inBlock,Exit.then])
   go_ret;exact⟨rfl,y.out⟩
  have Z:j<s.length:=by rw[<-HN.out];exact hjn
  obtain⟨g,o,rfl,hg,A⟩:=(HR.out.under y.out) j Z;obtain⟨D,o2,rfl,aa,E⟩:=(HZ.out.under y.out) j Z;have hg:g<wr.heap.size:=hg;have aa:D<wr.heap.size:=aa;obtain⟨x,hx⟩:∃x,x=s[j]:=⟨_,rfl⟩;rw[<-hx]at A E;have ab:Hid (zC wr.drew g (o+j) (zI x)/\zC wr.drew D (o2+j) (zI x)):=⟨A,E⟩;have ae:=hid y.out.drew;have a0:decide ((j:Int)<(n:Int))=true:=by simp;omega
  have a1:decide (j<n)=true:=by simp;omega
  have af:(j:Int)<(n:Int):=by omega
  have ag:IntKind.i64.wrap ((j:Int)+1)=(j:Int)+1:=by rw[IntKind.wrap_i64];omega
  clear hx A E
  go_wp2_with fail
  refine Qc 99 (fun W:World=>zC W g (o+j) (zI x)/\zC W D (o2+j) (zI x)) (by kernel_rfl) ab.out (fun r=> ?_);refine Qz 0 r ?_;refine Qz 1 r ?_;refine Qz 2 r ?_;refine Qz 3 r ?_;refine Qz 4 r ?_;refine Qz 5 r ?_;refine Qz 6 r ?_;refine Qz 7 r ?_;refine Qz 8 r ?_;refine⟨by kernel_rfl,?_⟩;clear r ab
  go_wp2_with fail
  go_roundw
  case rel=>exact⟨j+1,by simp,by omega,ae⟩
  case measure=>simp[intOf];omega
theorem y5e(k:Int)(T:zA)(a b c d:Int)(s:List Int)(o:Option Addr)(n A:Nat)(r:Option Addr)(D:Nat)(w:World)(Z:n=s.length)(hl:n<=1048576)(h:RwC w (· <w.heap.size) o s)(h2:RwC w (· <w.heap.size) r s):
  Calls prog 109 #[.agg #[zI k,zT T,zU a,zU b,zU c,zU d,.slice o n A],.agg #[zI k,zT T,zU a,zU b,zU c,zU d,.slice r n D]] w fun e w'=>e=.returned (.bool true)/\zB w w':=by
 obtain⟨y,E,G⟩:=Dj w (.cells #[zI k,zT T,zU a,zU b,zU c,zU d,.slice o n A] 65) (.cells #[zI k,zT T,zU a,zU b,zU c,zU d,.slice r n D] 65);obtain⟨U,V⟩:∃U,U=(w.alloc (.cells #[zI k,zT T,zU a,zU b,zU c,zU d,.slice o n A] 65)).alloc (.cells #[zI k,zT T,zU a,zU b,zU c,zU d,.slice r n D] 65):=⟨_,rfl⟩;rw[<-V]at y E G;have HC:=hid (z6a o r n A D s Z hl U (h.under y) (h2.under y));have Y:=hid y;have aa:=hid V;obtain⟨⟨m0,m1,m2,m3,m4,m5,m6⟩,_⟩:=Yk E;obtain⟨⟨r0,r1,r2,r3,r4,r5,r6⟩,_⟩:=Yk G;have l0:=Qq E;have l1:=Qq G;have e3:∀w:World,(Op.equalIn 10000 63 (.agg #[zU a,zU b,zU c,zU d]) (.agg #[zU a,zU b,zU c,zU d])).run prog w=.ok true w:=fun w=>by
  have:=Ym 9998 w a b c d a b c d;rw[this];simp
 clear y E G V h h2 Z;go_enter func109,ntmps109
 go_wp2_with fail
 rw[<-aa.out];clear aa;refine HC.out.mono ?_;rintro e w2 ⟨rfl,ab⟩;have ac:=hid (Y.out.trans (ab.mono Y.out.size));clear ab HC Y
 go_wp2_with fail
 go_ret;exact⟨rfl,ac.out⟩
def RoC(W:World)(so:Option Addr)(ops:List Ox):Prop:=∀i (hi:i<ops.length),∃g,so=some ⟨g,0,none⟩/\g<W.heap.size/\OpM W g (i*7) ops[i]
theorem RoC.below{W W':World}{o:Option Addr}{ops:List Ox}(h:RoC W o ops)(r:zB W W'):RoC W' o ops:=fun i A=>by
 obtain⟨g,e,y,D⟩:=h i A;exact⟨g,e,Nat.lt_of_lt_of_le y r.size,D.below y r⟩
theorem y5f(Z aa:Option Addr)(n ag ah:Nat)(ops:List Ox)(hn:n=ops.length)(hl:n<=200)(w:World)(h:RoC w Z ops)(r:RoC w aa ops):
  Calls prog 108 #[.slice Z n ag,.slice aa n ah,.func (.func 109) #[] #[]] w fun e w'=>e=.returned (.bool true)/\zB w w':=by
 have HN:Hid (n=ops.length):=hn;have HR:=hid h;have HZ:=hid r;clear hn h r;go_enter func108,ntmps108
 go_wp2_with fail
 go_loopw [17] (fun i wr=>∃j:Nat,i=zI (j:Int)/\j<=n/\Hid (zB w wr)) (fun i _=>n-(intOf i).toNat)
 case atStart=>exact⟨0,rfl,Nat.zero_le _,hid B0q⟩
 case round=>
  obtain⟨j,rfl,hj,y⟩:=hrel;by_cases hjn:j<n
  rotate_left
  ·have a0:decide ((j:Int)<(n:Int))=false:=by simp;omega
   have a1:decide (j<n)=false:=by simp;omega
   go_wp2_with fail
   (try simp only[Exit.inBlock,Exit.then])
   go_ret;exact⟨rfl,y.out⟩
  have ab:j<ops.length:=by rw[<-HN.out];exact hjn
  obtain⟨g,rfl,hg,ac,c1,⟨x0,x1,x2,x3,x4,x5,U⟩,A,D⟩:=(HR.out.below y.out) j ab;obtain⟨g2,rfl,aj,ad,c3,⟨y0,y1,y2,y3,y4,y5,V⟩,_,E⟩:=(HZ.out.below y.out) j ab;obtain⟨o,ho⟩:∃o,o=ops[j]:=⟨_,rfl⟩;rw[<-ho]at x0 x1 x2 x3 x4 x5 U y0 y1 y2 y3 y4 y5 V A D E;obtain⟨k,T,⟨a,b,c,d⟩,s⟩:=o;dsimp only at x0 x1 x2 x3 x4 x5 U y0 y1 y2 y3 y4 y5 V A D E;have Y:=hid (fun(W:World) (hb:zB wr W)=>y5e k T a b c d s ac s.length c1 ad c3 W rfl A (D.under hb) (E.under hb));obtain⟨G,ae⟩:∃G,G=s.length:=⟨_,rfl⟩;rw[<-ae]at U V Y;have a0:decide ((j:Int)<(n:Int))=true:=by simp;omega
  have a1:decide (j<n)=true:=by simp;omega
  have ak:(j:Int)<(n:Int):=by omega
  have al:g2<wr.heap.size+1:=by omega
  have am:IntKind.i64.wrap ((j:Int)+1)=(j:Int)+1:=by rw[IntKind.wrap_i64];omega
  clear ho ae A D E
  go_wp2_with fail
  refine(Y.out _ (((Below.refl _ wr).alloc L0q _).alloc (by simp) _)).mono ?_;rintro e w2 ⟨rfl,af⟩;have ai:Hid (zB w w2):=by
   have h1:=(y.out.alloc y.out.size (.cells #[zI k,zT T,zU a,zU b,zU c,zU d,.slice ac G c1] 65));have r:=h1.alloc h1.size (.cells #[zI k,zT T,zU a,zU b,zU c,zU d,.slice ad G c3] 65);exact r.trans (af.mono r.size)
  clear af Y
  go_wp2_with fail
  go_roundw
  case rel=>exact⟨j+1,by simp,by omega,ai⟩
  case measure=>simp[intOf];omega
theorem y5g(ops:List Ox)(ns:List ByteArray)(ro:List Int)(oso nso rso y D E:Option Addr)(ol oc nl nc rl rc V Z Y:Nat)(w:World)(ab:ol=ops.length)(ac:nl=ns.length)(ad:rl=ro.length)(h:PgM ops ns ro oso nso rso w)(h2:PgM ops ns ro y D E w):
  Calls prog 67 #[.agg #[.slice oso ol oc,.slice nso nl nc,.slice rso rl rc],.agg #[.slice y ol V,.slice D nl Z,.slice E rl Y]] w fun e w'=>e=.returned (.bool true)/\zB w w':=by
 obtain⟨W,hW⟩:∃W,W=(w.alloc (.cells #[.slice oso ol oc,.slice nso nl nc,.slice rso rl rc] 26)).alloc (.cells #[.slice y ol V,.slice D nl Z,.slice E rl Y] 26):=⟨_,rfl⟩;have A:zB w W:=by rw[hW];exact((Below.refl _ w).alloc L0q _).alloc (by simp) _
 have G:W.heap[w.heap.size]? =some (.cells #[.slice oso ol oc,.slice nso nl nc,.slice rso rl rc] 26):=by rw[hW];exact(Below.heap_alloc _ _ _ (by simp)).trans (Qx w _ rfl)
 have U:W.heap[w.heap.size+1]? =some (.cells #[.slice y ol V,.slice D nl Z,.slice E rl Y] 26):=by rw[hW];exact Qx _ _ (by simp)
 have ai:ol<=200:=by rw[ab];exact h.l2
 have ak:nl<=64:=by rw[ac];exact h.l6
 have al:rl<=64:=by rw[ad,h.lr];exact h.l6
 have H1:=hid (fun(W':World) (r:zB W W')=>y5d nso D nl nc Z ns ac (by omega) W' ((show RsC W nso ns from(h.below A).n).below r) ((show RsC W D ns from(h2.below A).n).below r));have H2:=hid (fun(W':World) (r:zB W W')=>z6a rso E rl rc Y ro ad (by omega) W' ((h.below A).roots.under r) ((h2.below A).roots.under r));have H3:=hid (fun(W':World) (r:zB W W')=>y5f oso y ol oc V ops ab ai W' ((show RoC W oso ops from(h.below A).o).below r) ((show RoC W y ops from(h2.below A).o).below r));have HB:=hid A;have E0:=hid G;have E1:=hid U;have HW:=hid hW;obtain⟨p,hp⟩:∃p,p=w.heap.size:=⟨_,rfl⟩;have Hp:=hid hp;rw[<-hp]at G U;have g0:zC W p 0 (.slice oso ol oc):=(Qj G 0 _ rfl).1;have g1:zC W p 1 (.slice nso nl nc):=(Qj G 1 _ rfl).1;have g2:zC W p 2 (.slice rso rl rc):=(Qj G 2 _ rfl).1;have k0:zC W (p+1) 0 (.slice y ol V):=(Qj U 0 _ rfl).1;have k1:zC W (p+1) 1 (.slice D nl Z):=(Qj U 1 _ rfl).1;have k2:zC W (p+1) 2 (.slice E rl Y):=(Qj U 2 _ rfl).1;have l0:=Qq G;have l1:=Qq U;have HK:=hid (fun(W':World) (r:zB W W')=>show(zC W' p 0 (.slice oso ol oc)/\zC W' p 2 (.slice rso rl rc)/\zC W' (p+1) 0 (.slice y ol V)/\zC W' (p+1) 2 (.slice E rl Y)/\p<W'.heap.size/\p+1<W'.heap.size)from⟨(r.cell (p:=⟨p,0,none⟩) l0).trans g0,(r.cell (p:=⟨p,2,none⟩) l0).trans g2,(r.cell (p:=⟨p+1,0,none⟩) l1).trans k0,(r.cell (p:=⟨p+1,2,none⟩) l1).trans k2,Nat.lt_of_lt_of_le l0 r.size,Nat.lt_of_lt_of_le l1 r.size⟩);clear h h2 ab ac ad A hW hp G U;go_enter func67,ntmps67
 go_wp2_with fail
 rw[<-HW.out,<-Hp.out];refine(H1.out W B0q).mono ?_;rintro e w1 ⟨rfl,ae⟩;have af:=hid ae;obtain⟨q0,q2,r0,r2,m0,m1⟩:=HK.out w1 ae;clear ae H1 g0 g1 g2 k0 k1 k2 l0 l1 HW
 go_wp2_with fail
 refine(H2.out w1 af.out).mono ?_;rintro e w2 ⟨rfl,ag⟩;have aa:=hid (af.out.trans (ag.mono af.out.size));obtain⟨s0,s2,t0,t2,n0,n1⟩:=HK.out w2 aa.out;clear ag H2 q0 q2 r0 r2 m0 m1
 go_wp2_with fail
 refine(H3.out w2 aa.out).mono ?_;rintro e w3 ⟨rfl,ah⟩;have aj:=hid (HB.out.trans ((aa.out.trans (ah.mono aa.out.size)).mono HB.out.size));clear ah H3 s0 s2 t0 t2 n0 n1
 go_wp2_with fail
 go_ret;exact⟨rfl,aj.out⟩
section
section
variable {P:Program} {md:Region.Mode} {ops:Array Oper} {Q:Exit->Act->World->Prop} {S:World->Prop} {z:Nat}
theorem y5h{i j:Nat}{o y:Oper}{n:Nat}{l:Array Bool}{a:Act}{w:World}(G:Region.ready md ops l=[i,j])(Y:ops[i]? =some o)(Z:ops[j]? =some y)
  (h:∀r:Act->World->Prop,Shut (∀a w,S w->Xd P md ops Q S z n (l.setIfInBounds i true) a w->r a w)->if Region.wanted o (yielded ops a.tmps)=true then Oper.wp P o a w r Q else r (a.put o.dst undef) w)
  (h':∀r:Act->World->Prop,Shut (∀a w,S w->Xd P md ops Q S z n (l.setIfInBounds j true) a w->r a w)->if Region.wanted y (yielded ops a.tmps)=true then Oper.wp P y a w r Q else r (a.put y.dst undef) w):Xd P md ops Q S z (n+1) l a w:=by
 refine⟨(fun U=>by rw[G]at U;cases U),fun k V=> ?_⟩;rw[G,List.mem_cons,List.mem_singleton]at V;rcases V with rfl|rfl
 ·exact wpOp_step Y fun r A=>h r fun a w D E=>A a w ⟨fun _=>D,E⟩
 ·exact wpOp_step Z fun r A=>h' r fun a w D E=>A a w ⟨fun _=>D,E⟩
end
end
@[reducible] def zNd:Obj:=.cells #[zI 0,zT {data:=#[]},zU 0,zU 0,zU 0,zU 0,.slice none 0 0,zI 0] 119
def Vw(W:World)(b:Nat)(k:Int)(T:zA)(a1 a2 a3 a4:Int)(v:Value)(p:Int):World:=(((((((W.setCell ⟨b,0,none⟩ (zI k)).setCell ⟨b,1,none⟩ (zT T)).setCell ⟨b,2,none⟩ (zU a1)).setCell ⟨b,3,none⟩ (zU a2)).setCell ⟨b,4,none⟩ (zU a3)).setCell ⟨b,5,none⟩ (zU a4)).setCell ⟨b,6,none⟩ v).setCell ⟨b,7,none⟩ (zI p)
theorem z0e{W:World}{b:Nat}{k:Int}{T:zA}{a1 a2 a3 a4:Int}{v:Value}{p:Int}{x0 x1 x2 x3 A y r o:Value}(h:zH W b (.cells #[x0,x1,x2,x3,A,y,r,o] 119)):(Vw W b k T a1 a2 a3 a4 v p).heap[b]? =some (.cells #[zI k,zT T,zU a1,zU a2,zU a3,zU a4,v,zI p] 119):=by
 unfold Vw;have D:(W.setCell ⟨b,0,none⟩ (zI k)).heap[b]? =some (.cells #[zI k,x1,x2,x3,A,y,r,o] 119):=Qk h 0 _;have E:((W.setCell ⟨b,0,none⟩ (zI k)).setCell ⟨b,1,none⟩ (zT T)).heap[b]? =some (.cells #[zI k,zT T,x2,x3,A,y,r,o] 119):=Qk D 1 _;have G:(((W.setCell ⟨b,0,none⟩ (zI k)).setCell ⟨b,1,none⟩ (zT T)).setCell ⟨b,2,none⟩ (zU a1)).heap[b]? =some (.cells #[zI k,zT T,zU a1,x3,A,y,r,o] 119):=Qk E 2 _;have U:((((W.setCell ⟨b,0,none⟩ (zI k)).setCell ⟨b,1,none⟩ (zT T)).setCell ⟨b,2,none⟩ (zU a1)).setCell ⟨b,3,none⟩ (zU a2)).heap[b]? =some (.cells #[zI k,zT T,zU a1,zU a2,A,y,r,o] 119):=Qk G 3 _;have V:(((((W.setCell ⟨b,0,none⟩ (zI k)).setCell ⟨b,1,none⟩ (zT T)).setCell ⟨b,2,none⟩ (zU a1)).setCell ⟨b,3,none⟩ (zU a2)).setCell ⟨b,4,none⟩ (zU a3)).heap[b]? =some (.cells #[zI k,zT T,zU a1,zU a2,zU a3,y,r,o] 119):=Qk U 4 _;have Y:((((((W.setCell ⟨b,0,none⟩ (zI k)).setCell ⟨b,1,none⟩ (zT T)).setCell ⟨b,2,none⟩ (zU a1)).setCell ⟨b,3,none⟩ (zU a2)).setCell ⟨b,4,none⟩ (zU a3)).setCell ⟨b,5,none⟩ (zU a4)).heap[b]? =some (.cells #[zI k,zT T,zU a1,zU a2,zU a3,zU a4,r,o] 119):=Qk V 5 _;have Z:(((((((W.setCell ⟨b,0,none⟩ (zI k)).setCell ⟨b,1,none⟩ (zT T)).setCell ⟨b,2,none⟩ (zU a1)).setCell ⟨b,3,none⟩ (zU a2)).setCell ⟨b,4,none⟩ (zU a3)).setCell ⟨b,5,none⟩ (zU a4)).setCell ⟨b,6,none⟩ (v)).heap[b]? =some (.cells #[zI k,zT T,zU a1,zU a2,zU a3,zU a4,v,o] 119):=Qk Y 6 _;have h7:((((((((W.setCell ⟨b,0,none⟩ (zI k)).setCell ⟨b,1,none⟩ (zT T)).setCell ⟨b,2,none⟩ (zU a1)).setCell ⟨b,3,none⟩ (zU a2)).setCell ⟨b,4,none⟩ (zU a3)).setCell ⟨b,5,none⟩ (zU a4)).setCell ⟨b,6,none⟩ (v)).setCell ⟨b,7,none⟩ (zI p)).heap[b]? =some (.cells #[zI k,zT T,zU a1,zU a2,zU a3,zU a4,v,zI p] 119):=Qk Z 7 _;exact h7
theorem z0f{w W:World}{b n:Nat}{k:Int}{T:zA}{a1 a2 a3 a4:Int}{v:Value}{p:Int}(h:Below n w W)(o:n<=b):Below n w (Vw W b k T a1 a2 a3 a4 v p):=by
 unfold Vw;exact(((((((h.setCell (p:=⟨b,0,none⟩) o _).setCell (p:=⟨b,1,none⟩) o _).setCell (p:=⟨b,2,none⟩) o _).setCell (p:=⟨b,3,none⟩) o _).setCell (p:=⟨b,4,none⟩) o _).setCell (p:=⟨b,5,none⟩) o _).setCell (p:=⟨b,6,none⟩) o _).setCell (p:=⟨b,7,none⟩) o _
theorem z6b(W:World)(b:Nat)(k:Int)(T:zA)(a1 a2 a3 a4:Int)(v:Value)(p:Int):W.grownBy (Vw W b k T a1 a2 a3 a4 v p) (some b):=by
 unfold Vw;exact G.setR (G.setR (G.setR (G.setR (G.setR (G.setR (G.setR (G.setR (G.refl _ _))))))))
theorem y5i{w W W':World}{A D E G U V Y Z p:Nat}{a b c d:Value}{o:Obj}(h:Hid (Below w.heap.size w W)/\Hid (W.heap[p]? =some o)/\W.cell? ⟨A,U,none⟩=some a/\W.cell? ⟨D,V,none⟩=some b/\W.cell? ⟨E,Y,none⟩=some c/\W.cell? ⟨G,Z,none⟩=some d)(r:Below W.heap.size W W'):Hid (Below w.heap.size w W')/\Hid (W'.heap[p]? =some o)/\W'.cell? ⟨A,U,none⟩=some a/\W'.cell? ⟨D,V,none⟩=some b/\W'.cell? ⟨E,Y,none⟩=some c/\W'.cell? ⟨G,Z,none⟩=some d:=by
 have k:∀{p:Addr} {u:Value},W.cell? p=some u->W'.cell? p=some u:=fun{p u} hp=>(r.cell (p:=p) (World.block_lt_of_cell? W _ hp)).trans hp
 exact⟨hid (h.1.out.trans (r.mono h.1.out.size)),hid ((r.block _ (by rcases Nat.lt_or_ge p W.heap.size with y|y;exact y;(have:=h.2.1.out;rw[Array.getElem?_eq_none y]at this;cases this))).trans h.2.1.out),k h.2.2.1,k h.2.2.2.1,k h.2.2.2.2.1,k h.2.2.2.2.2⟩
theorem y5j(ops:List Ox)(ns:List ByteArray)(ro:List Int)(oso nso rso:Option Addr)(ol oc nl nc rl rc:Nat)(w:World)(ae:ol=ops.length)(af:nl=ns.length)(h:PgM ops ns ro oso nso rso w)(k:Nat)(hk:k<ops.length)(M:zA)(x y z v:Int)(r:Nat)(ho:ops[k]=(5,M,(x,y,z,v),[(r:Int)]))(hr:r<ns.length)(hN:ns[r].size<=32):
  Calls prog 105 #[.agg #[.slice oso ol oc,.slice nso nl nc,.slice rso rl rc],zI (k:Int)] w (CnA (.mk 5 ns[r] 0 0 0 0 [] 0) w):=by
 obtain⟨g,rfl,hg,so,V,⟨c0,c1,c2,c3,c4,c5,c6⟩,ab,Y⟩:=h.o k hk;rw[ho]at c0 c1 c2 c3 c4 c5 c6 ab Y;dsimp only[List.length_cons,List.length_nil]at c0 c1 c2 c3 c4 c5 c6 ab Y;obtain⟨D,E,rfl,ac,Z⟩:=Y 0 (by simp);have ac:D<w.heap.size:=ac;have Z:zC w D E (zI (r:Int)):=Z;obtain⟨gn,rfl,al,ad⟩:=h.n r hr;obtain⟨N,ag⟩:∃N,N=ns[r]:=⟨_,rfl⟩;rw[<-ag]at ad hN ⊢;have av:k<ol:=by rw[ae];exact hk
 have aw:r<nl:=by rw[af];exact hr
 have ax:(k:Int)<(ol:Int):=by omega
 have ay:(r:Int)<(nl:Int):=by omega
 have am:g<w.heap.size+1:=by omega
 have ao:g<w.heap.size+1+1:=by omega
 obtain⟨W,G⟩:∃W,W=((w.alloc (.cells #[zS g ol oc,zS gn nl nc,.slice rso rl rc] 26)).alloc zNd).alloc (.cells #[zI 5,zT M,zU x,zU y,zU z,zU v,.slice (some ⟨D,E,none⟩) 1 V] 65):=⟨_,rfl⟩;have hB:zB w W:=by rw[G];exact(((Below.refl _ w).alloc L0q _).alloc (by simp) _).alloc (by simp;omega) _
 have e0:W.heap[w.heap.size]? =some (.cells #[zS g ol oc,zS gn nl nc,.slice rso rl rc] 26):=by rw[G];exact(Below.heap_alloc _ _ _ (by simp;omega)).trans ((Below.heap_alloc _ _ _ (by simp)).trans (Qx w _ rfl))
 have e1:W.heap[w.heap.size+1]? =some zNd:=by rw[G];exact(Below.heap_alloc _ _ _ (by simp)).trans (Qx _ _ (by simp))
 have e2:W.heap[w.heap.size+1+1]? =some (.cells #[zI 5,zT M,zU x,zU y,zU z,zU v,.slice (some ⟨D,E,none⟩) 1 V] 65):=by rw[G];exact Qx _ _ (by simp)
 obtain⟨p,hp⟩:∃p,p=w.heap.size:=⟨_,rfl⟩;have ah:Hid (Hid (zB w W.drew)/\Hid (W.drew.heap[p+1]? =some zNd)/\zC W.drew p 1 (zS gn nl nc)/\zC W.drew (p+1+1) 6 (.slice (some ⟨D,E,none⟩) 1 V)/\zC W.drew D E (zI (r:Int))/\zC W.drew gn r (zT N)):=by
  rw[hp];exact⟨hid hB.drew,hid e1,(Qj e0 1 _ rfl).1,(Qj e2 6 _ rfl).1,(hB.cell (p:=⟨D,E,none⟩) ac).trans Z,(hB.cell (p:=⟨gn,r,none⟩) al).trans ad⟩
 have ap:=hid (fun w':World=>Dd N w' (by omega));have HW:=hid G;have Hp:=hid hp;clear ho Y ab ae af hk hr ag h G hp e0 e1 e2 hB hN;go_enter func105,ntmps105
 go_wp2_with fail
 rw[<-HW.out,<-Hp.out];clear c0 c1 c2 c3 c4 c5 c6 ad Z hg am ao;refine Qc 10 (fun X:World=>Hid (zB w X)/\Hid (X.heap[p+1]? =some zNd)/\zC X p 1 (zS gn nl nc)/\zC X (p+1+1) 6 (.slice (some ⟨D,E,none⟩) 1 V)/\zC X D E (zI (r:Int))/\zC X gn r (zT N)) (by kernel_rfl) ah.out (fun A=> ?_);refine Qz 0 A ?_;refine Qz 1 A ?_;refine Qz 2 A ?_;refine Qz 3 A ?_;refine Qz 4 A ?_;refine Qz 5 A ?_;refine Qz 6 A ?_;refine Qz 7 A ?_
 (refine Qv 8 (fun K U=> ?_);go_simp;refine(ap.out _).mono ?_;rintro e w4 ⟨rfl,ai⟩;go_simp;replace A:=y5i A ai;clear ai;refine U.out _ _ A ?_;clear U K)
 (try simp only[Act.put,zY])
 refine Qz 9 A ?_;refine Yj (fun K U=> ?_);obtain⟨⟨y0,y1,y2,y3,y4,y5,y6,y7⟩,yf⟩:=Qf A.2.1.out;have l1:=Qq A.2.1.out;have aj:=A.1;have ak:=A.2.1;obtain⟨W8,aa⟩:∃W8,W8=Vw w4 (p+1) 5 N 0 0 0 0 (.slice none 0 0) 0:=⟨_,rfl⟩;have aq:Hid (W8.heap[p+1]? =some (.cells #[zI 5,zT N,zU 0,zU 0,zU 0,zU 0,.slice none 0 0,zI 0] 119)):=by rw[aa];exact z0e ak.out
 have ar:Hid (zB w W8):=by rw[aa];exact z0f aj.out (by have:=Hp.out;omega)
 have au:=hid aa;clear aa
 go_simp
 refine U.out _ _ ?_;clear U K A ah ak aj;rw[<-Vw,<-au.out]
 go_wp2_with fail
 obtain⟨⟨z0,z1,z2,z3,z4,z5,z6,z7⟩,_⟩:=Qf aq.out;refine bodyPost_ret (v:=.agg #[zI 5,zT N,zU 0,zU 0,zU 0,zU 0,.slice none 0 0,zI 0]) (by simp[results,Tryz.results105,go_sem,z0,z1,z2,z3,z4,z5,z6,z7]) rfl ?_;refine⟨5,N,0,0,0,0,none,0,0,0,rfl,hid ?_,ar⟩;rw[Zw];exact⟨none,0,rfl,.inl rfl⟩
end Go.Proofs.YtmelafeingcgnaaGreatDoor
