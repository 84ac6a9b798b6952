/- Lemmas for the last text. Conditions: those that each names. -/
import Derived.Test.YtgnkkgcgbeianaaGreatDoorVPEToQD
import Derived.Test.YtgnkkgcgbeianaaGreatDoorVC9ToHA
import Derived.Test.YtgnkkgcgbeianaaGreatDoorVU3ToU8
import Derived.RegionIn
import Derived.RangeFuncCalls
import Derived.Test.YtgnkkgcgbeianaaGreatDoorVO22ToU2
import Derived.Deep.AppendLies
import Derived.Deep.RegionLaw
set_option linter.unusedVariables false
set_option maxRecDepth 100000
set_option maxHeartbeats 16000000
namespace Go.Proofs.YtgnkkgcgbeianaaGreatDoor
open Go.Proofs.Tryz
section
open Go.RowKit Go.Shelf Go.Maps
def Pt2(rs:List Rr)(t:RT):Prop:=Ptt rs t/\szT t<=8192
theorem z5T{t:RT}:∀{s:List RT},t∈s->szT t<=szL s
 |a::r,h=>by
  rw[szL];rcases List.mem_cons.1 h with rfl|h
  ·omega
  ·have:=z5T h;omega
theorem y4P{rs:List Rr}:∀k T a b c d s p,Pt2 rs (.mk k T a b c d s p)->∀t∈s,Pt2 rs t:=fun k T a b c d s p h t o=>by
 refine⟨Id k T a b c d s p h.1 t o,?_⟩;have r:k≠5:=fun e=>by
  subst e;rw[ok5 h.1.1]at o;cases o
 have y:=h.2;rw[szT,if_neg r]at y;have:=z5T o;omega
theorem z5U{x:Rr}:∀{rs:List Rr},x∈rs->szT x.2.1<=szG rs
 |a::r,h=>by
  rw[szG];rcases List.mem_cons.1 h with rfl|h
  ·omega
  ·have:=z5U h;omega
theorem Snd.src2{rs:List Rr}(h:Snd rs)(y:PrG rs):Src (Pt2 rs) (fun T=>fdI T (nmL rs)) (pgG rs).2/\∀j (E:j<rs.length),∃n,(pgG rs).1[j]? =some n/\Dn (fun T=>fdI T (nmL rs)) (pgG rs).2 rs[j].2.1 n:=
 Wb y4P (fun t r=>r.1.2.2.2) (fun T a b c d s p r=>z5k h.len T a b c d s p r.1) rs [] (fun x hx=>⟨h.pt hx,Nat.le_trans (z5U hx) (z5O y)⟩) (by have:=h.nd;simpa using this) ⟨(fun o A=>by cases A),fun k D=>by simp at D⟩
theorem y4Q(ops:List Ox)(k:Nat):∃m,zsF [] ops=zsF [] (ops.take k)++m:=by
 have h:∀(b:List Ox) (z:List Int),∃m,zsF z b=z++m:=by
  intro b
  induction b with
  |nil=>intro z;exact⟨[],by rw[zsF,List.append_nil]⟩
  |cons o r ih=>
   intro z;obtain⟨m,t⟩:=ih (z++[szO z o]);exact⟨szO z o::m,by rw[zsF,t,List.append_assoc];rfl⟩
 have e:zsF [] ops=zsF (zsF [] (ops.take k)) (ops.drop k):=by rw[<-z0b,List.take_append_drop]
 rw[e];exact h _ _
theorem z0d(ops:List Ox)(k i:Nat)(o:i<k)(r:k<=ops.length):(zsF [] (ops.take k)).getD i 0=(zsF [] ops).getD i 0:=by
 obtain⟨m,h⟩:=y4Q ops k;rw[h,List.getD_eq_getElem?_getD,List.getD_eq_getElem?_getD,List.getElem?_append_left (by rw[Ip,List.length_take];simp;omega)]
theorem z5V(ops:List Ox)(k:Nat)(h:k<ops.length):(zsF [] ops).getD k 0=szO (zsF [] (ops.take k)) ops[k]:=by
 rw[<-z0d ops (k+1) k (by omega) (by omega),z5R ops k h,List.getD_eq_getElem?_getD];have hl:(zsF [] (ops.take k)).length=k:=by rw[Ip,List.length_take];simp;omega
 rw[List.getElem?_append_right (by omega),hl,Nat.sub_self];rfl
theorem z0e{z o:List Int}:∀{s:List Int},(∀x∈s,z.getD x.toNat 0=o.getD x.toNat 0)->ttl z s=ttl o s
 |[],_=>rfl
 |x::r,h=>by rw[ttl,ttl,h x (by simp),z0e fun y t=>h y (by simp[t])]
section
variable {ix:ByteArray->Int} {m:Int} {ops:List Ox}
theorem z0f(G:Onc m ops):∀(Q:Nat) (t:RT) (k:Int),SizeOf.sizeOf t<Q->Dn ix ops t k->(zsF [] ops).getD k.toNat 0=(szT t:Int)
 |0,t,k,h,_=>by omega
 |Q+1,.mk kd T a b c d s p,k,h,hd=>by
  rw[Dn]at hd;rcases hd.2 with⟨rfl,D⟩|⟨E,l,D,I⟩
  ·obtain⟨o,y⟩:=List.getElem?_eq_some_iff.1 D
   rw[z5V ops _ o,y];unfold szO;rw[szT];rfl
  ·obtain⟨o,y⟩:=List.getElem?_eq_some_iff.1 D
   rw[z5V ops _ o,y];unfold szO;rw[szT,if_neg E,if_neg E];show 1+(T.size:Int)+ttl (zsF [] (ops.take k.toNat)) l=_;have A:=G.2 k.toNat o;rw[y]at A;have A:∀x∈l,0<=x/\x<(k.toNat:Int):=fun x hx=>by
    have:=A x hx;rw[if_neg E]at this;exact this
   have U:ttl (zsF [] (ops.take k.toNat)) l=ttl (zsF [] ops) l:=z0e fun x hx=>z0d ops k.toNat x.toNat (by have:=A x hx;omega) (by omega)
   have V:∀(s:List RT) (l:List Int),SizeOf.sizeOf s<Q->DnL ix ops s l->ttl (zsF [] ops) l=(szL s:Int):=by
    intro s
    induction s with
    |nil=>intro l _ hl;rw[DnL]at hl;rw[hl,ttl,szL];rfl
    |cons t r ih=>
     intro l Y hl;rw[DnL]at hl;obtain⟨n,l',rfl,Z,h4⟩:=hl;simp at Y;rw[ttl,szL,z0f G Q t n (by omega) Z,ih l' (by omega) h4];omega
   rw[U,V s l (by simp at h;omega) I];omega
theorem z5W(h:Onc m ops):∀(s:List RT) (l:List Int),DnL ix ops s l->ttl (zsF [] ops) l=(szL s:Int)
 |[],l,hl=>by rw[DnL]at hl;rw[hl,ttl,szL];rfl
 |t::r,l,hl=>by
  rw[DnL]at hl;obtain⟨n,l',rfl,o,y⟩:=hl;rw[ttl,szL,z0f h _ t n (Nat.lt_succ_self _) o,z5W h r l' y];omega
end
theorem z5X{ix:zA->Int}{m:Int}{ops:List Ox}(o:Onc m ops):∀(rs:List Rr) (ro:List Int),ro.length=rs.length->(∀j (t:j<rs.length),∃n,ro[j]? =some n/\Dn ix ops rs[j].2.1 n)->ttl (zsF [] ops) ro=(szG rs:Int)
 |[],ro,hl,_=>by
  have:ro=[]:=List.length_eq_zero_iff.1 hl;rw[this,ttl,szG];rfl
 |x::r,[],hl,_=>by simp at hl
 |x::r,n::ro,hl,h=>by
  obtain⟨y,A,D⟩:=h 0 (by simp);have e:y=n:=by simpa using A.symm
  subst e;rw[ttl,szG,z0f o _ _ _ (Nat.lt_succ_self _) D,z5X o r ro (by simpa using hl) (fun j t=>by
   obtain⟨n,E,G⟩:=h (j+1) (by simp;omega);exact⟨n,by simpa using E,by simpa using G⟩)]
  show((szT x.2.1:Nat):Int)+_=_;omega
theorem Snd.unf{rs:List Rr}(h:Snd rs)(hp:PrG rs):Unf (pgG rs).2 (nmL rs) (pgG rs).1:=by
 have Y:=y3W h.ck;obtain⟨Z,hr⟩:=h.src2 hp;have ab:(pgG rs).1.length=rs.length:=(Vp (fun T=>fdI T (nmL rs)) rs []).2.1.1;refine⟨fun i E G=> ?_,fun i E G=> ?_,fun i E=> ?_,fun x hx=> ?_,?_,fun x hx=> ?_⟩
 ·obtain⟨t,I,A⟩:=Z.2 i E
  obtain⟨kd,N,a,b,c,d,s,p⟩:=t;rw[Dn,Int.toNat_natCast]at A;rcases A.2 with⟨rfl,o⟩|⟨V,l,o,D⟩
  ·obtain⟨_,r⟩:=List.getElem?_eq_some_iff.1 o
   refine⟨fdI N (nmL rs),by rw[r],?_⟩;have aa:=I.1.2.2.1 (N,p) (by rw[rfT,if_pos rfl];exact List.mem_singleton.2 rfl);have:=Gk N (nmL rs) aa;unfold fdI;rw[if_pos aa];omega
  ·obtain⟨_,r⟩:=List.getElem?_eq_some_iff.1 o
   rw[r]at G;exact absurd G V
 ·have U:=Y.2 i E
  have U:∀x∈(pgG rs).2[i].2.2.2,0<=x/\x<(i:Int):=fun x hx=>by
   have:=U x hx;rw[if_neg G]at this;exact this
  refine⟨U,?_⟩;obtain⟨t,I,A⟩:=Z.2 i E;obtain⟨kd,N,a,b,c,d,s,p⟩:=t;rw[Dn,Int.toNat_natCast]at A;rcases A.2 with⟨rfl,o⟩|⟨V,l,o,D⟩
  ·obtain⟨_,r⟩:=List.getElem?_eq_some_iff.1 o
   rw[r]at G;exact absurd rfl G
  ·obtain⟨_,r⟩:=List.getElem?_eq_some_iff.1 o
   rw[r]at U ⊢;have e1:ttl (zsF [] ((pgG rs).2.take i)) l=ttl (zsF [] (pgG rs).2) l:=z0e fun x hx=>z0d _ i x.toNat (by have:=U x hx;omega) (by omega)
   show ttl (zsF [] ((pgG rs).2.take i)) l<=8192;rw[e1,z5W Y s l D];have:=I.2;rw[szT,if_neg V]at this;omega
 ·obtain⟨t,I,A⟩:=Z.2 i E
  obtain⟨kd,N,a,b,c,d,s,p⟩:=t;rw[Dn,Int.toNat_natCast]at A;rcases A.2 with⟨rfl,o⟩|⟨V,l,o,D⟩
  ·obtain⟨_,r⟩:=List.getElem?_eq_some_iff.1 o
   rw[r];exact Nat.zero_le _
  ·obtain⟨_,r⟩:=List.getElem?_eq_some_iff.1 o
   rw[r];have:=I.1.2.2.2;rw[TrK]at this;exact this.1.2.1
 ·exact(Vp (fun T=>fdI T (nmL rs)) rs []).2.1.2 x hx
 ·rw[z5X Y rs _ ab hr]
  have:=z5O hp;omega
 ·obtain⟨y,hy,rfl⟩:=List.mem_map.1 hx
  have o:=h.ok;unfold okG at o;simp only[Bool.and_eq_true,List.all_eq_true]at o;have D:=o.2.2 y hy;unfold okR at D;simp only[Bool.and_eq_true]at D;exact z3D D.1
end
open Go.RowKit Go.Shelf Go.Maps
def RsC(W:World)(so:Option Addr)(s:List ByteArray):Prop:=∀j (hj:j<s.length),∃g,so=some ⟨g,0,none⟩/\g<W.heap.size/\W.cell? ⟨g,j,none⟩=some (zT s[j])
theorem RsC.below{W W':World}{o:Option Addr}{s:List ByteArray}(h:RsC W o s)(r:zB W W'):RsC W' o s:=fun j y=>by
 obtain⟨g,e,t,A⟩:=h j y;exact⟨g,e,Nat.lt_of_lt_of_le t r.size,(r.cell (p:=⟨g,j,none⟩) t).trans A⟩
theorem RwC.under{W W':World}{o:Option Addr}{s:List Int}(h:RwC W (· <W.heap.size) o s)(r:zB W W'):RwC W' (· <W'.heap.size) o s:=h.keep fun b t=>⟨Nat.lt_of_lt_of_le t r.size,r.block b t⟩
theorem y4R(A D:Option Addr)(n Y Z:Nat)(s:List ByteArray)(E:n=s.length)(hl:n<=1048576)(w:World)(h:RsC w A s)(G:RsC w D s):
  Calls prog 66 #[.slice A n Y,.slice D n Z] w fun e w'=>e=.returned (.bool true)/\zB w w':=by
 have HN:Hid (n=s.length):=E;have HR:=hid h;have HZ:=hid G;clear E h G;go_enter func66,ntmps66
 go_wp2_with fail
 go_loopw [13] (fun i wr=>∃j:Nat,i=zI (j:Int)/\j<=n/\Hid (zB w wr)) (fun i _=>n-(intOf i).toNat)
 case atStart=>exact⟨0,rfl,Nat.zero_le _,hid B0q⟩
 case round=>
  obtain⟨j,rfl,hj,r⟩:=hrel;by_cases hjn:j<n
  rotate_left
  ·have a0:decide ((j:Int)<(n:Int))=false:=by simp;omega
   have a1:decide (j<n)=false:=by simp;omega
   go_wp2_with fail
   (try simp only[Exit.inBlock,Exit.then])
   go_ret;exact⟨rfl,r.out⟩
  have I:j<s.length:=by rw[<-HN.out];exact hjn
  obtain⟨g,rfl,hg,t⟩:=(HR.out.below r.out) j I;obtain⟨U,rfl,ab,y⟩:=(HZ.out.below r.out) j I;obtain⟨x,hx⟩:∃x,x=s[j]:=⟨_,rfl⟩;rw[<-hx]at t y;have V:Hid (zC wr.drew g j (zT x)/\zC wr.drew U j (zT x)):=⟨t,y⟩;have aa:=hid r.out.drew;have a0:decide ((j:Int)<(n:Int))=true:=by simp;omega
  have a1:decide (j<n)=true:=by simp;omega
  have ac:(j:Int)<(n:Int):=by omega
  have ad:IntKind.i64.wrap ((j:Int)+1)=(j:Int)+1:=by rw[IntKind.wrap_i64];omega
  clear hx t y
  go_wp2_with fail
  refine Qc 99 (fun W:World=>zC W g j (zT x)/\zC W U j (zT x)) (by kernel_rfl) V.out (fun o=> ?_);refine Qz 0 o ?_;refine Qz 1 o ?_;refine Qz 2 o ?_;refine Qz 3 o ?_;refine Qz 4 o ?_;refine Qz 5 o ?_;refine Qz 6 o ?_;refine Qz 7 o ?_;refine Qz 8 o ?_;refine⟨by kernel_rfl,?_⟩;clear o V
  go_wp2_with fail
  go_roundw
  case rel=>exact⟨j+1,by simp,by omega,aa⟩
  case measure=>simp[intOf];omega
theorem z5Y(E G:Option Addr)(n ac ad:Nat)(s:List Int)(I:n=s.length)(hl:n<=1048576)(w:World)(h:RwC w (· <w.heap.size) E s)(U:RwC w (· <w.heap.size) G s):
  Calls prog 67 #[.slice E n ac,.slice G n ad] w fun e w'=>e=.returned (.bool true)/\zB w w':=by
 have HN:Hid (n=s.length):=I;have HR:=hid h;have HZ:=hid U;clear I h U;go_enter func67,ntmps67
 go_wp2_with fail
 go_loopw [13] (fun i wr=>∃j:Nat,i=zI (j:Int)/\j<=n/\Hid (zB w wr)) (fun i _=>n-(intOf i).toNat)
 case atStart=>exact⟨0,rfl,Nat.zero_le _,hid B0q⟩
 case round=>
  obtain⟨j,rfl,hj,t⟩:=hrel;by_cases hjn:j<n
  rotate_left
  ·have a0:decide ((j:Int)<(n:Int))=false:=by simp;omega
   have a1:decide (j<n)=false:=by simp;omega
   go_wp2_with fail
   (try simp only[Exit.inBlock,Exit.then])
   go_ret;exact⟨rfl,t.out⟩
  have V:j<s.length:=by rw[<-HN.out];exact hjn
  obtain⟨g,o,rfl,Y,y⟩:=(HR.out.under t.out) j V;obtain⟨A,Z,rfl,aa,D⟩:=(HZ.out.under t.out) j V;have Y:g<wr.heap.size:=Y;have aa:A<wr.heap.size:=aa;obtain⟨x,hx⟩:∃x,x=s[j]:=⟨_,rfl⟩;rw[<-hx]at y D;have ab:Hid (zC wr.drew g (o+j) (zI x)/\zC wr.drew A (Z+j) (zI x)):=⟨y,D⟩;have ae:=hid t.out.drew;have a0:decide ((j:Int)<(n:Int))=true:=by simp;omega
  have a1:decide (j<n)=true:=by simp;omega
  have af:(j:Int)<(n:Int):=by omega
  have ag:IntKind.i64.wrap ((j:Int)+1)=(j:Int)+1:=by rw[IntKind.wrap_i64];omega
  clear hx y D
  go_wp2_with fail
  refine Qc 99 (fun W:World=>zC W g (o+j) (zI x)/\zC W A (Z+j) (zI x)) (by kernel_rfl) ab.out (fun r=> ?_);refine Qz 0 r ?_;refine Qz 1 r ?_;refine Qz 2 r ?_;refine Qz 3 r ?_;refine Qz 4 r ?_;refine Qz 5 r ?_;refine Qz 6 r ?_;refine Qz 7 r ?_;refine Qz 8 r ?_;refine⟨by kernel_rfl,?_⟩;clear r ab
  go_wp2_with fail
  go_roundw
  case rel=>exact⟨j+1,by simp,by omega,ae⟩
  case measure=>simp[intOf];omega
theorem y4S(k:Int)(T:zA)(a b c d:Int)(s:List Int)(o:Option Addr)(n y:Nat)(r:Option Addr)(A:Nat)(w:World)(V:n=s.length)(hl:n<=1048576)(h:RwC w (· <w.heap.size) o s)(Y:RwC w (· <w.heap.size) r s):
  Calls prog 69 #[.agg #[zI k,zT T,zU a,zU b,zU c,zU d,.slice o n y],.agg #[zI k,zT T,zU a,zU b,zU c,zU d,.slice r n A]] w fun e w'=>e=.returned (.bool true)/\zB w w':=by
 obtain⟨t,D,E⟩:=Dw w (.cells #[zI k,zT T,zU a,zU b,zU c,zU d,.slice o n y] 56) (.cells #[zI k,zT T,zU a,zU b,zU c,zU d,.slice r n A] 56);obtain⟨G,I⟩:∃G,G=(w.alloc (.cells #[zI k,zT T,zU a,zU b,zU c,zU d,.slice o n y] 56)).alloc (.cells #[zI k,zT T,zU a,zU b,zU c,zU d,.slice r n A] 56):=⟨_,rfl⟩;rw[<-I]at t D E;have Z:=hid (z5Y o r n y A s V hl G (h.under t) (Y.under t));have U:=hid t;have aa:=hid I;obtain⟨⟨m0,m1,m2,m3,m4,m5,m6⟩,_⟩:=Yk D;obtain⟨⟨r0,r1,r2,r3,r4,r5,r6⟩,_⟩:=Yk E;have l0:=Qq D;have l1:=Qq E;have e3:∀w:World,(Op.equalIn 10000 54 (.agg #[zU a,zU b,zU c,zU d]) (.agg #[zU a,zU b,zU c,zU d])).run prog w=.ok true w:=fun w=>by
  have:=Yg 9998 w a b c d a b c d;rw[this];simp
 clear t D E I h Y V;go_enter func69,ntmps69
 go_wp2_with fail
 rw[<-aa.out];clear aa;refine Z.out.mono ?_;rintro e w2 ⟨rfl,ab⟩;have ac:=hid (U.out.trans (ab.mono U.out.size));clear ab Z U
 go_wp2_with fail
 go_ret;exact⟨rfl,ac.out⟩
def RoC(W:World)(so:Option Addr)(ops:List Ox):Prop:=∀i (hi:i<ops.length),∃g,so=some ⟨g,0,none⟩/\g<W.heap.size/\OpM W g (i*7) ops[i]
theorem RoC.below{W W':World}{o:Option Addr}{ops:List Ox}(h:RoC W o ops)(r:zB W W'):RoC W' o ops:=fun i y=>by
 obtain⟨g,e,t,A⟩:=h i y;exact⟨g,e,Nat.lt_of_lt_of_le t r.size,A.below t r⟩
theorem y4T(V Y:Option Addr)(n af ag:Nat)(ops:List Ox)(Z:n=ops.length)(hl:n<=200)(w:World)(h:RoC w V ops)(r:RoC w Y ops):
  Calls prog 68 #[.slice V n af,.slice Y n ag,.func (.func 69) #[] #[]] w fun e w'=>e=.returned (.bool true)/\zB w w':=by
 have HN:Hid (n=ops.length):=Z;have HR:=hid h;have HZ:=hid r;clear Z h r;go_enter func68,ntmps68
 go_wp2_with fail
 go_loopw [17] (fun i wr=>∃j:Nat,i=zI (j:Int)/\j<=n/\Hid (zB w wr)) (fun i _=>n-(intOf i).toNat)
 case atStart=>exact⟨0,rfl,Nat.zero_le _,hid B0q⟩
 case round=>
  obtain⟨j,rfl,hj,t⟩:=hrel;by_cases hjn:j<n
  rotate_left
  ·have a0:decide ((j:Int)<(n:Int))=false:=by simp;omega
   have a1:decide (j<n)=false:=by simp;omega
   go_wp2_with fail
   (try simp only[Exit.inBlock,Exit.then])
   go_ret;exact⟨rfl,t.out⟩
  have aa:j<ops.length:=by rw[<-HN.out];exact hjn
  obtain⟨g,rfl,hg,ab,c1,⟨x0,x1,x2,x3,x4,x5,G⟩,y,A⟩:=(HR.out.below t.out) j aa;obtain⟨g2,rfl,ai,ac,c3,⟨y0,y1,y2,y3,y4,y5,I⟩,_,D⟩:=(HZ.out.below t.out) j aa;obtain⟨o,ho⟩:∃o,o=ops[j]:=⟨_,rfl⟩;rw[<-ho]at x0 x1 x2 x3 x4 x5 G y0 y1 y2 y3 y4 y5 I y A D;obtain⟨k,T,⟨a,b,c,d⟩,s⟩:=o;dsimp only at x0 x1 x2 x3 x4 x5 G y0 y1 y2 y3 y4 y5 I y A D;have U:=hid (fun(W:World) (hb:zB wr W)=>y4S k T a b c d s ab s.length c1 ac c3 W rfl y (A.under hb) (D.under hb));obtain⟨E,ad⟩:∃E,E=s.length:=⟨_,rfl⟩;rw[<-ad]at G I U;have a0:decide ((j:Int)<(n:Int))=true:=by simp;omega
  have a1:decide (j<n)=true:=by simp;omega
  have aj:(j:Int)<(n:Int):=by omega
  have ak:g2<wr.heap.size+1:=by omega
  have al:IntKind.i64.wrap ((j:Int)+1)=(j:Int)+1:=by rw[IntKind.wrap_i64];omega
  clear ho ad y A D
  go_wp2_with fail
  refine(U.out _ (((Below.refl _ wr).alloc L0q _).alloc (by simp) _)).mono ?_;rintro e w2 ⟨rfl,ae⟩;have ah:Hid (zB w w2):=by
   have h1:=(t.out.alloc t.out.size (.cells #[zI k,zT T,zU a,zU b,zU c,zU d,.slice ab E c1] 56));have r:=h1.alloc h1.size (.cells #[zI k,zT T,zU a,zU b,zU c,zU d,.slice ac E c3] 56);exact r.trans (ae.mono r.size)
  clear ae U
  go_wp2_with fail
  go_roundw
  case rel=>exact⟨j+1,by simp,by omega,ah⟩
  case measure=>simp[intOf];omega
theorem y4U(ops:List Ox)(ns:List ByteArray)(ro:List Int)(oso nso rso D G I:Option Addr)(t oc A nc y rc Y aa Z:Nat)(w:World)(ac:t=ops.length)(ad:A=ns.length)(ae:y=ro.length)(h:PgM ops ns ro oso nso rso w)(h2:PgM ops ns ro D G I w):
  Calls prog 39 #[.agg #[.slice oso t oc,.slice nso A nc,.slice rso y rc],.agg #[.slice D t Y,.slice G A aa,.slice I y Z]] w fun e w'=>e=.returned (.bool true)/\zB w w':=by
 obtain⟨W,hW⟩:∃W,W=(w.alloc (.cells #[.slice oso t oc,.slice nso A nc,.slice rso y rc] 26)).alloc (.cells #[.slice D t Y,.slice G A aa,.slice I y Z] 26):=⟨_,rfl⟩;have E:zB w W:=by rw[hW];exact((Below.refl _ w).alloc L0q _).alloc (by simp) _
 have U:W.heap[w.heap.size]? =some (.cells #[.slice oso t oc,.slice nso A nc,.slice rso y rc] 26):=by rw[hW];exact(Below.heap_alloc _ _ _ (by simp)).trans (Qx w _ rfl)
 have V:W.heap[w.heap.size+1]? =some (.cells #[.slice D t Y,.slice G A aa,.slice I y Z] 26):=by rw[hW];exact Qx _ _ (by simp)
 have aj:t<=200:=by rw[ac];exact h.l2
 have al:A<=64:=by rw[ad];exact h.l6
 have am:y<=64:=by rw[ae,h.lr];exact h.l6
 have H1:=hid (fun(W':World) (r:zB W W')=>y4R nso G A nc aa ns ad (by omega) W' ((show RsC W nso ns from(h.below E).n).below r) ((show RsC W G ns from(h2.below E).n).below r));have H2:=hid (fun(W':World) (r:zB W W')=>z5Y rso I y rc Z ro ae (by omega) W' ((h.below E).roots.under r) ((h2.below E).roots.under r));have H3:=hid (fun(W':World) (r:zB W W')=>y4T oso D t oc Y ops ac aj W' ((show RoC W oso ops from(h.below E).o).below r) ((show RoC W D ops from(h2.below E).o).below r));have HB:=hid E;have E0:=hid U;have E1:=hid V;have HW:=hid hW;obtain⟨p,hp⟩:∃p,p=w.heap.size:=⟨_,rfl⟩;have Hp:=hid hp;rw[<-hp]at U V;have g0:zC W p 0 (.slice oso t oc):=(Qj U 0 _ rfl).1;have g1:zC W p 1 (.slice nso A nc):=(Qj U 1 _ rfl).1;have g2:zC W p 2 (.slice rso y rc):=(Qj U 2 _ rfl).1;have k0:zC W (p+1) 0 (.slice D t Y):=(Qj V 0 _ rfl).1;have k1:zC W (p+1) 1 (.slice G A aa):=(Qj V 1 _ rfl).1;have k2:zC W (p+1) 2 (.slice I y Z):=(Qj V 2 _ rfl).1;have l0:=Qq U;have l1:=Qq V;have HK:=hid (fun(W':World) (r:zB W W')=>show(zC W' p 0 (.slice oso t oc)/\zC W' p 2 (.slice rso y rc)/\zC W' (p+1) 0 (.slice D t Y)/\zC W' (p+1) 2 (.slice I y Z)/\p<W'.heap.size/\p+1<W'.heap.size)from⟨(r.cell (p:=⟨p,0,none⟩) l0).trans g0,(r.cell (p:=⟨p,2,none⟩) l0).trans g2,(r.cell (p:=⟨p+1,0,none⟩) l1).trans k0,(r.cell (p:=⟨p+1,2,none⟩) l1).trans k2,Nat.lt_of_lt_of_le l0 r.size,Nat.lt_of_lt_of_le l1 r.size⟩);clear h h2 ac ad ae E hW hp U V;go_enter func39,ntmps39
 go_wp2_with fail
 rw[<-HW.out,<-Hp.out];refine(H1.out W B0q).mono ?_;rintro e w1 ⟨rfl,af⟩;have ag:=hid af;obtain⟨q0,q2,r0,r2,m0,m1⟩:=HK.out w1 af;clear af H1 g0 g1 g2 k0 k1 k2 l0 l1 HW
 go_wp2_with fail
 refine(H2.out w1 ag.out).mono ?_;rintro e w2 ⟨rfl,ah⟩;have ab:=hid (ag.out.trans (ah.mono ag.out.size));obtain⟨s0,s2,t0,t2,n0,n1⟩:=HK.out w2 ab.out;clear ah H2 q0 q2 r0 r2 m0 m1
 go_wp2_with fail
 refine(H3.out w2 ab.out).mono ?_;rintro e w3 ⟨rfl,ai⟩;have ak:=hid (HB.out.trans ((ab.out.trans (ai.mono ab.out.size)).mono HB.out.size));clear ai H3 s0 s2 t0 t2 n0 n1
 go_wp2_with fail
 go_ret;exact⟨rfl,ak.out⟩
section
section
variable {P:Program} {md:Region.Mode} {ops:Array Oper} {Q:Exit->Act->World->Prop} {S:World->Prop} {z:Nat}
theorem y4V{i j:Nat}{o t:Oper}{n:Nat}{l:Array Bool}{a:Act}{w:World}(E:Region.ready md ops l=[i,j])(U:ops[i]? =some o)(V:ops[j]? =some t)
  (h:∀r:Act->World->Prop,Shut (∀a w,S w->Xb P md ops Q S z n (l.setIfInBounds i true) a w->r a w)->if Region.wanted o (yielded ops a.tmps)=true then Oper.wp P o a w r Q else r (a.put o.dst undef) w)
  (Y:∀r:Act->World->Prop,Shut (∀a w,S w->Xb P md ops Q S z n (l.setIfInBounds j true) a w->r a w)->if Region.wanted t (yielded ops a.tmps)=true then Oper.wp P t a w r Q else r (a.put t.dst undef) w):Xb P md ops Q S z (n+1) l a w:=by
 refine⟨(fun G=>by rw[E]at G;cases G),fun k I=> ?_⟩;rw[E,List.mem_cons,List.mem_singleton]at I;rcases I with rfl|rfl
 ·exact wpOp_step U fun r y=>h r fun a w A D=>y a w ⟨fun _=>A,D⟩
 ·exact wpOp_step V fun r y=>Y r fun a w A D=>y a w ⟨fun _=>A,D⟩
end
end
@[reducible] def zNd:Obj:=.cells #[.int .i64 0,.string ⟨#[]⟩,.int .u64 0,.int .u64 0,.int .u64 0,.int .u64 0,.slice none 0 0,.int .i64 0] 81
def Vz(W:World)(b:Nat)(k:Int)(T:ByteArray)(a1 a2 a3 a4:Int)(v:Value)(p:Int):World:=(((((((W.setCell ⟨b,0,none⟩ (.int .i64 k)).setCell ⟨b,1,none⟩ (.string T)).setCell ⟨b,2,none⟩ (.int .u64 a1)).setCell ⟨b,3,none⟩ (.int .u64 a2)).setCell ⟨b,4,none⟩ (.int .u64 a3)).setCell ⟨b,5,none⟩ (.int .u64 a4)).setCell ⟨b,6,none⟩ v).setCell ⟨b,7,none⟩ (.int .i64 p)
theorem z0g{W:World}{b:Nat}{k:Int}{T:ByteArray}{a1 a2 a3 a4:Int}{v:Value}{p:Int}{x0 x1 x2 x3 y t r o:Value}(h:W.heap[b]? =some (.cells #[x0,x1,x2,x3,y,t,r,o] 81)):(Vz W b k T a1 a2 a3 a4 v p).heap[b]? =some (.cells #[.int .i64 k,.string T,.int .u64 a1,.int .u64 a2,.int .u64 a3,.int .u64 a4,v,.int .i64 p] 81):=by
 unfold Vz;have A:(W.setCell ⟨b,0,none⟩ (.int .i64 k)).heap[b]? =some (.cells #[.int .i64 k,x1,x2,x3,y,t,r,o] 81):=Qw h 0 _;have D:((W.setCell ⟨b,0,none⟩ (.int .i64 k)).setCell ⟨b,1,none⟩ (.string T)).heap[b]? =some (.cells #[.int .i64 k,.string T,x2,x3,y,t,r,o] 81):=Qw A 1 _;have E:(((W.setCell ⟨b,0,none⟩ (.int .i64 k)).setCell ⟨b,1,none⟩ (.string T)).setCell ⟨b,2,none⟩ (.int .u64 a1)).heap[b]? =some (.cells #[.int .i64 k,.string T,.int .u64 a1,x3,y,t,r,o] 81):=Qw D 2 _;have G:((((W.setCell ⟨b,0,none⟩ (.int .i64 k)).setCell ⟨b,1,none⟩ (.string T)).setCell ⟨b,2,none⟩ (.int .u64 a1)).setCell ⟨b,3,none⟩ (.int .u64 a2)).heap[b]? =some (.cells #[.int .i64 k,.string T,.int .u64 a1,.int .u64 a2,y,t,r,o] 81):=Qw E 3 _;have I:(((((W.setCell ⟨b,0,none⟩ (.int .i64 k)).setCell ⟨b,1,none⟩ (.string T)).setCell ⟨b,2,none⟩ (.int .u64 a1)).setCell ⟨b,3,none⟩ (.int .u64 a2)).setCell ⟨b,4,none⟩ (.int .u64 a3)).heap[b]? =some (.cells #[.int .i64 k,.string T,.int .u64 a1,.int .u64 a2,.int .u64 a3,t,r,o] 81):=Qw G 4 _;have U:((((((W.setCell ⟨b,0,none⟩ (.int .i64 k)).setCell ⟨b,1,none⟩ (.string T)).setCell ⟨b,2,none⟩ (.int .u64 a1)).setCell ⟨b,3,none⟩ (.int .u64 a2)).setCell ⟨b,4,none⟩ (.int .u64 a3)).setCell ⟨b,5,none⟩ (.int .u64 a4)).heap[b]? =some (.cells #[.int .i64 k,.string T,.int .u64 a1,.int .u64 a2,.int .u64 a3,.int .u64 a4,r,o] 81):=Qw I 5 _;have V:(((((((W.setCell ⟨b,0,none⟩ (.int .i64 k)).setCell ⟨b,1,none⟩ (.string T)).setCell ⟨b,2,none⟩ (.int .u64 a1)).setCell ⟨b,3,none⟩ (.int .u64 a2)).setCell ⟨b,4,none⟩ (.int .u64 a3)).setCell ⟨b,5,none⟩ (.int .u64 a4)).setCell ⟨b,6,none⟩ (v)).heap[b]? =some (.cells #[.int .i64 k,.string T,.int .u64 a1,.int .u64 a2,.int .u64 a3,.int .u64 a4,v,o] 81):=Qw U 6 _;have Y:((((((((W.setCell ⟨b,0,none⟩ (.int .i64 k)).setCell ⟨b,1,none⟩ (.string T)).setCell ⟨b,2,none⟩ (.int .u64 a1)).setCell ⟨b,3,none⟩ (.int .u64 a2)).setCell ⟨b,4,none⟩ (.int .u64 a3)).setCell ⟨b,5,none⟩ (.int .u64 a4)).setCell ⟨b,6,none⟩ (v)).setCell ⟨b,7,none⟩ (.int .i64 p)).heap[b]? =some (.cells #[.int .i64 k,.string T,.int .u64 a1,.int .u64 a2,.int .u64 a3,.int .u64 a4,v,.int .i64 p] 81):=Qw V 7 _;exact Y
theorem z0h{w W:World}{b n:Nat}{k:Int}{T:ByteArray}{a1 a2 a3 a4:Int}{v:Value}{p:Int}(h:Below n w W)(o:n<=b):Below n w (Vz W b k T a1 a2 a3 a4 v p):=by
 unfold Vz;exact(((((((h.setCell (p:=⟨b,0,none⟩) o _).setCell (p:=⟨b,1,none⟩) o _).setCell (p:=⟨b,2,none⟩) o _).setCell (p:=⟨b,3,none⟩) o _).setCell (p:=⟨b,4,none⟩) o _).setCell (p:=⟨b,5,none⟩) o _).setCell (p:=⟨b,6,none⟩) o _).setCell (p:=⟨b,7,none⟩) o _
theorem z5Z(W:World)(b:Nat)(k:Int)(T:ByteArray)(a1 a2 a3 a4:Int)(v:Value)(p:Int):W.grownBy (Vz W b k T a1 a2 a3 a4 v p) (some b):=by
 unfold Vz;exact G.setR (G.setR (G.setR (G.setR (G.setR (G.setR (G.setR (G.setR (G.refl _ _))))))))
theorem y4W{w W W':World}{y A D E G I U V p:Nat}{a b c d:Value}{o:Obj}(h:Hid (Below w.heap.size w W)/\Hid (W.heap[p]? =some o)/\W.cell? ⟨y,G,none⟩=some a/\W.cell? ⟨A,I,none⟩=some b/\W.cell? ⟨D,U,none⟩=some c/\W.cell? ⟨E,V,none⟩=some d)(r:Below W.heap.size W W'):Hid (Below w.heap.size w W')/\Hid (W'.heap[p]? =some o)/\W'.cell? ⟨y,G,none⟩=some a/\W'.cell? ⟨A,I,none⟩=some b/\W'.cell? ⟨D,U,none⟩=some c/\W'.cell? ⟨E,V,none⟩=some d:=by
 have k:∀{p:Addr} {u:Value},W.cell? p=some u->W'.cell? p=some u:=fun{p u} Y=>(r.cell (p:=p) (World.block_lt_of_cell? W _ Y)).trans Y
 exact⟨hid (h.1.out.trans (r.mono h.1.out.size)),hid ((r.block _ (by rcases Nat.lt_or_ge p W.heap.size with t|t;exact t;(have:=h.2.1.out;rw[Array.getElem?_eq_none t]at this;cases this))).trans h.2.1.out),k h.2.2.1,k h.2.2.2.1,k h.2.2.2.2.1,k h.2.2.2.2.2⟩
theorem y4X(ops:List Ox)(ns:List ByteArray)(ro:List Int)(oso nso rso:Option Addr)(G oc D nc rl rc:Nat)(w:World)(ae:G=ops.length)(af:D=ns.length)(h:PgM ops ns ro oso nso rso w)(k:Nat)(hk:k<ops.length)(M:ByteArray)(x y z v:Int)(r:Nat)(ho:ops[k]=(5,M,(x,y,z,v),[(r:Int)]))(hr:r<ns.length)(hN:ns[r].size<=32):
  Calls prog 65 #[.agg #[.slice oso G oc,.slice nso D nc,.slice rso rl rc],.int .i64 k] w (CnA (.mk 5 ns[r] 0 0 0 0 [] 0) w):=by
 obtain⟨g,rfl,hg,so,V,⟨c0,c1,c2,c3,c4,c5,c6⟩,ab,Y⟩:=h.o k hk;rw[ho]at c0 c1 c2 c3 c4 c5 c6 ab Y;dsimp only[List.length_cons,List.length_nil]at c0 c1 c2 c3 c4 c5 c6 ab Y;obtain⟨A,E,rfl,ac,Z⟩:=Y 0 (by simp);have ac:A<w.heap.size:=ac;have Z:w.cell? ⟨A,E,none⟩=some (.int .i64 r):=Z;obtain⟨gn,rfl,al,ad⟩:=h.n r hr;obtain⟨N,ag⟩:∃N,N=ns[r]:=⟨_,rfl⟩;rw[<-ag]at ad hN ⊢;have av:k<G:=by rw[ae];exact hk
 have aw:r<D:=by rw[af];exact hr
 have ax:(k:Int)<(G:Int):=by omega
 have ay:(r:Int)<(D:Int):=by omega
 have am:g<w.heap.size+1:=by omega
 have ao:g<w.heap.size+1+1:=by omega
 obtain⟨W,I⟩:∃W,W=((w.alloc (.cells #[.slice (some ⟨g,0,none⟩) G oc,.slice (some ⟨gn,0,none⟩) D nc,.slice rso rl rc] 26)).alloc zNd).alloc (.cells #[.int .i64 5,.string M,.int .u64 x,.int .u64 y,.int .u64 z,.int .u64 v,.slice (some ⟨A,E,none⟩) 1 V] 56):=⟨_,rfl⟩;have hB:Below w.heap.size w W:=by rw[I];exact(((Below.refl _ w).alloc L0q _).alloc (by simp) _).alloc (by simp;omega) _
 have e0:W.heap[w.heap.size]? =some (.cells #[.slice (some ⟨g,0,none⟩) G oc,.slice (some ⟨gn,0,none⟩) D nc,.slice rso rl rc] 26):=by rw[I];exact(Below.heap_alloc _ _ _ (by simp;omega)).trans ((Below.heap_alloc _ _ _ (by simp)).trans (Qx w _ rfl))
 have e1:W.heap[w.heap.size+1]? =some zNd:=by rw[I];exact(Below.heap_alloc _ _ _ (by simp)).trans (Qx _ _ (by simp))
 have e2:W.heap[w.heap.size+1+1]? =some (.cells #[.int .i64 5,.string M,.int .u64 x,.int .u64 y,.int .u64 z,.int .u64 v,.slice (some ⟨A,E,none⟩) 1 V] 56):=by rw[I];exact Qx _ _ (by simp)
 obtain⟨p,hp⟩:∃p,p=w.heap.size:=⟨_,rfl⟩;have ah:Hid (Hid (Below w.heap.size w W.drew)/\Hid (W.drew.heap[p+1]? =some zNd)/\W.drew.cell? ⟨p,1,none⟩=some (.slice (some ⟨gn,0,none⟩) D nc)/\W.drew.cell? ⟨p+1+1,6,none⟩=some (.slice (some ⟨A,E,none⟩) 1 V)/\W.drew.cell? ⟨A,E,none⟩=some (.int .i64 r)/\W.drew.cell? ⟨gn,r,none⟩=some (.string N)):=by
  rw[hp];exact⟨hid hB.drew,hid e1,(Qj e0 1 _ rfl).1,(Qj e2 6 _ rfl).1,(hB.cell (p:=⟨A,E,none⟩) ac).trans Z,(hB.cell (p:=⟨gn,r,none⟩) al).trans ad⟩
 have ap:=hid (fun w':World=>Dh N w' (by omega));have HW:=hid I;have Hp:=hid hp;clear ho Y ab ae af hk hr ag h I hp e0 e1 e2 hB hN;go_enter func65,ntmps65
 go_wp2_with fail
 rw[<-HW.out,<-Hp.out];clear c0 c1 c2 c3 c4 c5 c6 ad Z hg am ao;refine Qc 10 (fun X:World=>Hid (Below w.heap.size w X)/\Hid (X.heap[p+1]? =some zNd)/\X.cell? ⟨p,1,none⟩=some (.slice (some ⟨gn,0,none⟩) D nc)/\X.cell? ⟨p+1+1,6,none⟩=some (.slice (some ⟨A,E,none⟩) 1 V)/\X.cell? ⟨A,E,none⟩=some (.int .i64 r)/\X.cell? ⟨gn,r,none⟩=some (.string N)) (by kernel_rfl) ah.out (fun t=> ?_);refine Qz 0 t ?_;refine Qz 1 t ?_;refine Qz 2 t ?_;refine Qz 3 t ?_;refine Qz 4 t ?_;refine Qz 5 t ?_;refine Qz 6 t ?_;refine Qz 7 t ?_
 (refine Qf 8 (fun K U=> ?_);go_simp;refine(ap.out _).mono ?_;rintro e w4 ⟨rfl,ai⟩;go_simp;replace t:=y4W t ai;clear ai;refine U.out _ _ t ?_;clear U K)
 (try simp only[Act.put,List.setIfInBounds_toArray,List.set_cons_zero,List.set_cons_succ])
 refine Qz 9 t ?_;refine Yj (fun K U=> ?_);obtain⟨⟨y0,y1,y2,y3,y4,y5,y6,y7⟩,yf⟩:=Qg t.2.1.out;have l1:=Qq t.2.1.out;have aj:=t.1;have ak:=t.2.1;obtain⟨W8,aa⟩:∃W8,W8=Vz w4 (p+1) 5 N 0 0 0 0 (.slice none 0 0) 0:=⟨_,rfl⟩;have aq:Hid (W8.heap[p+1]? =some (.cells #[.int .i64 5,.string N,.int .u64 0,.int .u64 0,.int .u64 0,.int .u64 0,.slice none 0 0,.int .i64 0] 81)):=by rw[aa];exact z0g ak.out
 have ar:Hid (Below w.heap.size w W8):=by rw[aa];exact z0h aj.out (by have:=Hp.out;omega)
 have au:=hid aa;clear aa
 go_simp
 refine U.out _ _ ?_;clear U K t ah ak aj;rw[<-Vz,<-au.out]
 go_wp2_with fail
 obtain⟨⟨z0,z1,z2,z3,z4,z5,z6,z7⟩,_⟩:=Qg aq.out;refine bodyPost_ret (v:=.agg #[.int .i64 5,.string N,.int .u64 0,.int .u64 0,.int .u64 0,.int .u64 0,.slice none 0 0,.int .i64 0]) (by simp[results,Tryz.results65,go_sem,z0,z1,z2,z3,z4,z5,z6,z7]) rfl ?_;refine⟨5,N,0,0,0,0,none,0,0,0,rfl,hid ?_,ar⟩;rw[Zv];exact⟨none,0,rfl,.inl rfl⟩
end Go.Proofs.YtgnkkgcgbeianaaGreatDoor
