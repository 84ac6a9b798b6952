/- Lemmas for the last text. Conditions: those that each names. -/
import Derived.Test.YtlogolpcipiceaaGreatDoorVU9ToU11
import Derived.Test.YtlogolpcipiceaaGreatDoorVO18ToU1
import Derived.Test.YtlogolpcipiceaaGreatDoorVW4ToS9
set_option linter.unusedVariables false
set_option maxRecDepth 100000
set_option maxHeartbeats 8000000
namespace Go.Proofs.YtlogolpcipiceaaGreatDoor
open Go.Proofs.Tryz
open Go.RowKit Go.Shelf Go.Maps
variable {W w:World}
mutual
def hrT(l:List ByteArray):RT->Bool
 | .mk k T _ _ _ _ s _=>if k=5 then inN T l else hrL l s
def hrL(l:List ByteArray):List RT->Bool
 |[]=>true
 |t::r=>hrT l t&&hrL l r
end
theorem z3A{l:List ByteArray}:∀{s:List RT} (j:Nat) (hj:j<s.length),hrT l s[j]=false->hrL l s=false
 |[],j,hj,_=>by simp at hj
 |t::r,0,_,h=>by rw[hrL,show hrT l t=false from h];rfl
 |t::r,j+1,hj,h=>by rw[hrL,z3A j (by simpa using hj) h,Bool.and_false]
theorem z3B{l:List ByteArray}:∀{s:List RT},(∀(j:Nat) (hj:j<s.length),hrT l s[j]=true)->hrL l s=true
 |[],_=>by rw[hrL]
 |t::r,h=>by rw[hrL,show hrT l t=true from h 0 (by simp),z3B (s:=r) (fun j hj=>h (j+1) (by simpa using hj))];rfl
theorem y0V(l:List ByteArray)(so0:Option Addr)(n0 cap0:Nat)(T:ByteArray)(a b c d p:Int)(so:Option Addr)(n cap:Nat)(w:World)
  (HF:Hid (∀W:World,Below w.heap.size w W->Calls prog 104 #[.agg #[.slice so0 n0 cap0],.string T] W fun e w'=>e=.returned (.int .i64 (fdI T l))/\Below W.heap.size W w')):
  Calls prog 203 #[.agg #[.slice so0 n0 cap0],.agg (r8 5 T a b c d so n cap p).toArray] w fun e w'=>e=.returned (.bool (inN T l))/\Below w.heap.size w w':=by
 have HB:Hid (∀o1 o2:Obj,Below w.heap.size w ((w.alloc o1).alloc o2)):=fun o1 o2=>((Below.refl _ w).alloc L0q o1).alloc (by simp) o2
 obtain⟨v,hv⟩:∃v,v=fdI T l:=⟨_,rfl⟩;have hi:decide (0<=v)=inN T l:=by
  rw[hv];unfold fdI;cases inN T l
  ·simp
  ·simp
 rw[<-hv]at HF;obtain⟨q,hq⟩:∃q,q=inN T l:=⟨_,rfl⟩;rw[<-hq]at hi ⊢;clear hv hq;dsimp only[r8];go_enter func203,ntmps203
 go_wp2_with(first|(go_at_call 104;refine(HF.out _ (HB.out _ _)).mono ?_;rintro e wz ⟨rfl,hbz⟩))
 go_ret;exact⟨rfl,(HB.out _ _).trans (hbz.mono (HB.out _ _).size)⟩
theorem y0W(l:List ByteArray)(so0:Option Addr)(n0 cap0:Nat)(k:Int)(hk:k≠5)(T:ByteArray)(a b c d p:Int)(so:Option Addr)(n cap:Nat)(s:List RT)(w:World)(hn:n<=9223372036854775807)(HN:Hid (n=s.length))
  (HC:Hid (∀j (hj:j<s.length),∃g o,so=some ⟨g,o,none⟩/\g<w.heap.size/\∃k1 T1 a1 b1 c1 d1 so1 n1 cap1 p1,Rc w g (o+j*8) k1 T1 a1 b1 c1 d1 (.slice so1 n1 cap1) p1/\
    ∀W:World,Below w.heap.size w W->Calls prog 203 #[.agg #[.slice so0 n0 cap0],.agg (r8 k1 T1 a1 b1 c1 d1 so1 n1 cap1 p1).toArray] W fun e w'=>e=.returned (.bool (hrT l s[j]))/\Below W.heap.size W w')):
  Calls prog 203 #[.agg #[.slice so0 n0 cap0],.agg (r8 k T a b c d so n cap p).toArray] w fun e w'=>e=.returned (.bool (hrL l s))/\Below w.heap.size w w':=by
 have hk2:(k == 5)=false:=by simp[hk]
 have hk3:decide (k=5)=false:=by simp[hk]
 obtain⟨R,hR⟩:∃R,R=hrL l s:=⟨_,rfl⟩;have HR:=hid hR;rw[<-hR];clear hR;obtain⟨W1,hW1⟩:∃W1,W1=(w.alloc (.cells #[.slice so0 n0 cap0] 24)).alloc (.cells #[.int .i64 k,.string T,.int .u64 a,.int .u64 b,.int .u64 c,.int .u64 d,.slice so n cap,.int .i64 p] 71):=⟨_,rfl⟩;have HB1:Hid (Below w.heap.size w W1):=by rw[hW1];exact((Below.refl _ w).alloc L0q _).alloc (by simp) _
 have HW1:=hid hW1;have HG1:Hid (W1.heap[w.heap.size]? =some (.cells #[.slice so0 n0 cap0] 24)):=by rw[hW1];exact(Below.heap_alloc _ _ _ (by simp)).trans (Qx w _ rfl)
 clear hW1;dsimp only[r8];go_enter func203,ntmps203
 go_wp2_with fail
 rw[<-HW1.out];clear HW1
 go_loopw [18] (fun i wr=>∃j:Nat,i=.int .i64 j/\j<=n/\Hid (Below w.heap.size w wr)/\Hid (wr.heap[w.heap.size]? =some (.cells #[.slice so0 n0 cap0] 24))/\Hid (∀i (hi:i<s.length),i<j->hrT l s[i]=true)) (fun i _=>n-(intOf i).toNat)
 case atStart=>exact⟨0,rfl,Nat.zero_le _,HB1,HG1,fun i _ h=>absurd h (by omega)⟩
 case round=>
  obtain⟨j,rfl,hj,HB,HG,HO⟩:=hrel;by_cases hjn:j<n
  ·have hjI:(j:Int)<(n:Int):=by omega
   have a0:decide ((j:Int)<(n:Int))=true:=by simp;omega
   have hjs:j<s.length:=by rw[<-HN.out];exact hjn
   obtain⟨g,o,rfl,hg,k1,T1,a1,b1,c1,d1,so1,n1,cap1,p1,hrc,hcall⟩:=HC.out j hjs;obtain⟨z0,z1,z2,z3,z4,z5,z6,z7⟩:=hrc.below HB.out hg;have hgl:g<wr.heap.size:=World.block_lt_of_cell? wr _ z0;obtain⟨q,hq⟩:∃q,q=hrT l s[j]:=⟨_,rfl⟩;have hbp:Below w.heap.size w (wr.alloc (.cells #[.int .i64 k1,.string T1,.int .u64 a1,.int .u64 b1,.int .u64 c1,.int .u64 d1,.slice so1 n1 cap1,.int .i64 p1] 71)):=HB.out.alloc HB.out.size _;have hbq:=(Below.refl _ wr).alloc L0q (.cells #[.int .i64 k1,.string T1,.int .u64 a1,.int .u64 b1,.int .u64 c1,.int .u64 d1,.slice so1 n1 cap1,.int .i64 p1] 71);have HGp:=hid ((hbq.block _ (Qz HG.out)).trans HG.out);obtain⟨g0,_⟩:=Qk HGp.out;have lg:=Qz HGp.out;have HBp:=hid hbp;have HS:=hid (hcall _ hbp);rw[<-hq]at HS;have HQ:=hid hq;clear hcall hrc hq hbp hbq;dsimp only[r8]at HS;cases q with
   |false=>
    go_wp2_with(first
     |(go_at_call 203;refine HS.out.mono ?_;rintro e wz ⟨rfl,hbz⟩))
    go_ret;refine⟨?_,HBp.out.trans (hbz.mono HBp.out.size)⟩;rw[HR.out,z3A j hjs HQ.out.symm];rfl
   |true=>
    go_wp2_with(first
     |(go_at_call 203;refine HS.out.mono ?_;rintro e wz ⟨rfl,hbz⟩))
    refine⟨⟨j+1,by go_num,by omega,hid (HBp.out.trans (hbz.mono HBp.out.size)),hid ((hbz.block _ lg).trans HGp.out),fun i hi hij=> ?_⟩,by simp[intOf];omega⟩;rcases Nat.lt_or_ge i j with h1|h1
    ·exact HO.out i hi h1
    ·obtain rfl:i=j:=by omega
     exact HQ.out.symm
  ·have a0:decide ((j:Int)<(n:Int))=false:=by simp;omega
   clear HC
   go_wp2_with fail
   go_ret;refine⟨?_,HB.out⟩;rw[HR.out,z3B fun i hi=>HO.out i hi (by have:=HN.out;omega)];rfl
theorem z3C(l:List ByteArray)(rs:List Rr)(hl:l=nmL rs)(so0:Option Addr)(n0 cap0:Nat)(B0:Nat):∀(N:Nat) (t:RT) (cs:List Value) (B:Nat) (w:World),SizeOf.sizeOf t<N->Qj w B t cs->B<=w.heap.size->Qv w B0 so0 n0 rs->B0<=w.heap.size->
  Calls prog 203 #[.agg #[.slice so0 n0 cap0],.agg cs.toArray] w fun e w'=>e=.returned (.bool (hrT l t))/\Below w.heap.size w w'
 |0,t,_,_,_,h,_,_,_,_=>by omega
 |N+1,.mk k T a b c d s p,cs,B,w,hN,ht,hB,hr,hB0=>by
  rw[Qj]at ht;obtain⟨so,cap,rfl,hso⟩:=ht;rw[hrT];by_cases hk:k=5
  ·subst hk
   rw[if_pos rfl];refine y0V l so0 n0 cap0 T a b c d p so _ cap w fun W hW=> ?_
   rw[hl];exact Sw T so0 n0 cap0 rs B0 W (hr.below (hW.mono hB0)) (Nat.le_trans hB0 hW.size)
  ·rw[if_neg hk]
   refine y0W l so0 n0 cap0 k hk T a b c d p so _ cap s w (Eh hso) (Xd s) fun j hj=> ?_
   obtain⟨g,o,h1,h2,k1,T1,a1,b1,c1,d1,so1,n1,cap1,p1,h3,h4⟩:=Ml hB hso j hj;refine⟨g,o,h1,h2,k1,T1,a1,b1,c1,d1,so1,n1,cap1,p1,h3,fun W hW=> ?_⟩;have hsz:=List.sizeOf_lt_of_mem (List.getElem_mem hj);simp only[RT.mk.sizeOf_spec]at hN;exact z3C l rs hl so0 n0 cap0 B0 N s[j] _ B W (by omega) (h4.below (hW.mono hB)) (Nat.le_trans hB hW.size) (hr.below (hW.mono hB0)) (Nat.le_trans hB0 hW.size)
mutual
theorem Qj.mono{w:World}{B B':Nat}(hB:B<=B'):∀(t:RT) (cs:List Value),Qj w B t cs->Qj w B' t cs
 | .mk k T a b c d s p,cs,ht=>by
   rw[Qj]at ht ⊢;obtain⟨so,cap,rfl,ht⟩:=ht;refine⟨so,cap,rfl,?_⟩;rcases ht with h1|⟨h1,g,o,h2,h3,h4,h5⟩
   ·exact .inl h1
   ·exact .inr ⟨h1,g,o,h2,by omega,h4,Ql.mono hB s g o h5⟩
theorem Ql.mono{w:World}{B B':Nat}(hB:B<=B'):∀(s:List RT) (g o:Nat),Ql w B g o s->Ql w B' g o s
 |[],g,o,_=>by rw[Ql];trivial
 |t::r,g,o,ht=>by
  rw[Ql]at ht ⊢;obtain⟨⟨cs,h1,h2⟩,h3⟩:=ht;exact⟨⟨cs,Qj.mono hB t cs h1,h2⟩,Ql.mono hB r g _ h3⟩
end
@[reducible] def bA:ByteArray:={data:=#[97]}
theorem z3D:∀x,x<1->nmS bA=true:=by decide+kernel
@[reducible] def wX (w:World) (k:Int) (T:ByteArray) (a b c d:Int) (so:Option Addr) (n cap:Nat) (p:Int):World:=(w.alloc (.cells #[.int .i64 k,.string T,.int .u64 a,.int .u64 b,.int .u64 c,.int .u64 d,.slice so n cap,.int .i64 p] 71)).alloc (.cells #[.string {data:=#[97]},.int .i64 k,.string T,.int .u64 a,.int .u64 b,.int .u64 c,.int .u64 d,.slice so n cap,.int .i64 p,.int .i64 0] 73)
theorem Ed(w:World)(k:Int)(T:ByteArray)(a b c d:Int)(so:Option Addr)(n cap:Nat)(p:Int):Below w.heap.size w (wX w k T a b c d so n cap p):=(B0q.alloc L0q _).alloc (by simp) _
theorem y0X{k:Int}{T:ByteArray}{a b c d:Int}{so:Option Addr}{n cap:Nat}{p:Int}{t:RT}(ht:Qj w w.heap.size t (r8 k T a b c d so n cap p)):Qv (wX w k T a b c d so n cap p) (wX w k T a b c d so n cap p).heap.size (some ⟨w.heap.size+1,0,none⟩) 1 [(bA,t,0)]:=by
 have hb:=Ed w k T a b c d so n cap p;refine⟨rfl,by unfold maxLen;omega,fun j hj=>⟨w.heap.size+1,0,rfl,by simp,?_⟩⟩;obtain rfl:j=0:=by simpa using hj
 obtain⟨⟨c0,c1,c2,c3,c4,c5,c6,c7,c8,c9⟩,_⟩:=Gg (w:=wX w k T a b c d so n cap p) (g:=w.heap.size+1) (Qx _ _ (by simp));exact⟨k,T,a,b,c,d,so,n,cap,p,(ht.below hb).mono hb.size _ _,c0,c1,c2,c3,c4,c5,c6,c7,c8,c9⟩
theorem y0Y{t:RT}(hz:RtZ t):RgZ [(bA,t,0)]:=fun x hx=>by
 obtain rfl:x=(bA,t,0):=by simpa using hx
 exact⟨by show 1<=_;omega,hz⟩
theorem y0Z(t:RT):okG [(bA,t,0)]=okT t:=by
 unfold okG;rw[List.all_cons,List.all_nil,Bool.and_true];show(true&&(true&&(nmS bA&&okT t)))=okT t;rw[z3D 0 (by decide)];rfl
theorem z3E(k:Int)(T:ByteArray)(a b c d p:Int)(so:Option Addr)(n cap:Nat)(w:World)(c0:Int)
  (HP:Hid (Calls prog 239 #[.agg #[.slice (some ⟨w.heap.size+1,0,none⟩) 1 1]] (wX w k T a b c d so n cap p) fun e w'=>e=.returned (.tuple #[.string ⟨#[]⟩,.iface 36 (.int .i64 c0)])/\Below (wX w k T a b c d so n cap p).heap.size (wX w k T a b c d so n cap p) w')):
  Calls prog 202 #[.agg (r8 k T a b c d so n cap p).toArray] w fun e w'=>e=.returned (.string ⟨#[]⟩)/\Below w.heap.size w w':=by
 have HB:=hid (Ed w k T a b c d so n cap p);dsimp only[r8];go_enter func202,ntmps202
 go_wp2_with fail
 refine HP.out.mono ?_;rintro e w1 ⟨rfl,hb1⟩;have HB1:Hid (Below w.heap.size w w1):=HB.out.trans (hb1.mono HB.out.size);clear HP hb1 HB
 go_wp2_with fail
 go_ret;exact⟨rfl,HB1.out⟩
theorem y1a(k:Int)(T:ByteArray)(a b c d p:Int)(so:Option Addr)(n cap:Nat)(w:World)(X L:ByteArray)(hL:L.size=X.size+6)(hX:X.size<=8192)(HX:Hid (L.extract 5 (X.size+5)=X))
  (HP:Hid (Calls prog 239 #[.agg #[.slice (some ⟨w.heap.size+1,0,none⟩) 1 1]] (wX w k T a b c d so n cap p) fun e w'=>e=.returned (.tuple #[.string L,.nilIface])/\Below (wX w k T a b c d so n cap p).heap.size (wX w k T a b c d so n cap p) w')):
  Calls prog 202 #[.agg (r8 k T a b c d so n cap p).toArray] w fun e w'=>e=.returned (.string X)/\Below w.heap.size w w':=by
 have HB:=hid (Ed w k T a b c d so n cap p);dsimp only[r8];go_enter func202,ntmps202
 go_wp2_with fail
 refine HP.out.mono ?_;rintro e w1 ⟨rfl,hb1⟩;have HB1:Hid (Below w.heap.size w w1):=HB.out.trans (hb1.mono HB.out.size);have hsl:(Instr.slice 9 (.string L) (some (.int .i64 5)) (some (.int .i64 ((X.size:Int)+6-1))) none).run prog w1=.ok (.string X) w1:=by
  rw[run_slice_string w1 9 L .i64 .i64 5 ((X.size:Int)+6-1) Tryz.underlying9 (by omega) (by omega) (by rw[hL];omega)];rw[show((X.size:Int)+6-1).toNat=X.size+5 by omega];exact congrArg (fun q=>Result.ok (Value.string q) w1) HX.out
 clear HP hb1 HB
 go_wp2_with fail
 go_ret;exact⟨rfl,HB1.out⟩
def exS(nd:Nd):ByteArray:=if 8192<sz (pR qT cT [(bA,nd,0)])∨24<dR [(bA,nd,0)]then{data:=#[]}else cat (pN qT cT nd)
theorem y1b(nd:Nd):cat (pR qT cT [(bA,nd,0)])={data:=([97,32,60,45,32]++((cat (pN qT cT nd)).data.toList++[10])).toArray}:=by
 rw[pR,pR,cat,cat,z1v,cat,cat];apply ByteArray.ext;apply Array.ext';simp[bA,bAr,bNl]
theorem y1c(nd:Nd):(cat (pR qT cT [(bA,nd,0)])).size=(cat (pN qT cT nd)).size+6/\(cat (pR qT cT [(bA,nd,0)])).extract 5 ((cat (pN qT cT nd)).size+5)=cat (pN qT cT nd):=by
 obtain⟨X,hX⟩:∃X,X=cat (pN qT cT nd):=⟨_,rfl⟩;rw[y1b,<-hX];have hl:X.data.toList.length=X.size:=by rw[Array.length_toList];rfl
 refine⟨?_,?_⟩
 ·show([97,32,60,45,32]++(X.data.toList++[10])).toArray.size=_
  simp
 ·rw[ByteArray.extract_mk]
  apply ByteArray.ext;apply Array.ext';show List.take (X.size+5-5) (List.drop 5 ([97,32,60,45,32]++(X.data.toList++[10])))=X.data.toList;rw[show X.size+5-5=X.data.toList.length by omega];simp
theorem y1d(k:Int)(T:ByteArray)(a b c d p:Int)(so:Option Addr)(n cap:Nat)(t:RT)(nd:Nd)(w:World)(hT:TabIs w)(ht:Qj w w.heap.size t (r8 k T a b c d so n cap p))(hz:RtZ t)(hq:Tq t nd)(hv:Vk nd)(hw:Wf Nmq nd):
  Calls prog 202 #[.agg (r8 k T a b c d so n cap p).toArray] w fun e w'=>e=.returned (.string (exS nd))/\Below w.heap.size w w':=by
 have hb:=Ed w k T a b c d so n cap p;have hqr:TqR [(bA,t,0)] [(bA,nd,0)]:=by rw[TqR];exact⟨rfl,hq,by rw[TqR];trivial⟩
 have hx:∀x∈[((bA,nd,0):Rl)],Ruk Nmq x:=fun x hx=>by
  obtain rfl:x=(bA,nd,0):=by simpa using hx
  exact⟨z3D 0 (by decide),hv,hw⟩
 have HP:=Eq (some ⟨w.heap.size+1,0,none⟩) 1 1 [(bA,t,0)] [(bA,nd,0)] _ (wX w k T a b c d so n cap p) (y0Y hz) (y0X ht) L0q (by rw[y0Z];exact(Ry t nd hq hv hw).1) hqr hx (hT.below hb hT.lt);unfold exS;rcases Nat.lt_or_ge 8192 (sz (pR qT cT [(bA,nd,0)]))with hlong|hshort
 ·rw[Pg hlong]at HP
  rw[if_pos (.inl hlong)];exact z3E k T a b c d p so n cap w 2 HP
 rcases Nat.lt_or_ge 24 (dR [(bA,nd,0)])with hdeep|hflat
 ·rw[Pb hshort hdeep]at HP
  rw[if_pos (.inr hdeep)];exact z3E k T a b c d p so n cap w 20 HP
 rw[Mk hshort hflat]at HP;rw[if_neg (by omega)];have hc:=y1c nd;have hs:(cat (pR qT cT [(bA,nd,0)])).size<=8192:=by rw[Ob];exact hshort
 exact y1a k T a b c d p so n cap w _ _ hc.1 (by omega) hc.2 HP
theorem Em{W':World}{y y0 y1 y2 y3 y4 y5 y6 y7:Value}(h:Hid (Below w.heap.size w W)/\Hid (∃v0 v1 v2:Value,W.heap[w.heap.size+1+1]? =some (.cells #[v0,v1,v2] 199))/\W.cell? ⟨w.heap.size,0,none⟩=some y/\W.cell? ⟨w.heap.size+1,0,none⟩=some y0/\W.cell? ⟨w.heap.size+1,1,none⟩=some y1/\W.cell? ⟨w.heap.size+1,2,none⟩=some y2/\W.cell? ⟨w.heap.size+1,3,none⟩=some y3/\W.cell? ⟨w.heap.size+1,4,none⟩=some y4/\W.cell? ⟨w.heap.size+1,5,none⟩=some y5/\W.cell? ⟨w.heap.size+1,6,none⟩=some y6/\W.cell? ⟨w.heap.size+1,7,none⟩=some y7)(hb:Below W.heap.size W W'):Hid (Below w.heap.size w W')/\Hid (∃v0 v1 v2:Value,W'.heap[w.heap.size+1+1]? =some (.cells #[v0,v1,v2] 199))/\W'.cell? ⟨w.heap.size,0,none⟩=some y/\W'.cell? ⟨w.heap.size+1,0,none⟩=some y0/\W'.cell? ⟨w.heap.size+1,1,none⟩=some y1/\W'.cell? ⟨w.heap.size+1,2,none⟩=some y2/\W'.cell? ⟨w.heap.size+1,3,none⟩=some y3/\W'.cell? ⟨w.heap.size+1,4,none⟩=some y4/\W'.cell? ⟨w.heap.size+1,5,none⟩=some y5/\W'.cell? ⟨w.heap.size+1,6,none⟩=some y6/\W'.cell? ⟨w.heap.size+1,7,none⟩=some y7:=by
 obtain⟨h1,h2,z,z0,z1,z2,z3,z4,z5,z6,z7⟩:=h;have e:∀{a:Addr} {u:Value},W.cell? a=some u->W'.cell? a=some u:=fun{a u} h=>(hb.cell (p:=a) (World.block_lt_of_cell? W _ h)).trans h
 obtain⟨r0,r1,r2,hr⟩:=h2.out;exact⟨hid (h1.out.trans (hb.mono h1.out.size)),hid ⟨r0,r1,r2,(hb.block _ (Qz hr)).trans hr⟩,e z,e z0,e z1,e z2,e z3,e z4,e z5,e z6,e z7⟩
theorem y1e{y y0 y1 y2 y3 y4 y5 y6 y7 x1 x2 x3:Value}(h:Hid (Below w.heap.size w W)/\Hid (∃v0 v1 v2:Value,W.heap[w.heap.size+1+1]? =some (.cells #[v0,v1,v2] 199))/\W.cell? ⟨w.heap.size,0,none⟩=some y/\W.cell? ⟨w.heap.size+1,0,none⟩=some y0/\W.cell? ⟨w.heap.size+1,1,none⟩=some y1/\W.cell? ⟨w.heap.size+1,2,none⟩=some y2/\W.cell? ⟨w.heap.size+1,3,none⟩=some y3/\W.cell? ⟨w.heap.size+1,4,none⟩=some y4/\W.cell? ⟨w.heap.size+1,5,none⟩=some y5/\W.cell? ⟨w.heap.size+1,6,none⟩=some y6/\W.cell? ⟨w.heap.size+1,7,none⟩=some y7)(W':World)(e:W'=((W.setCell ⟨w.heap.size+1+1,0,none⟩ x1).setCell ⟨w.heap.size+1+1,1,none⟩ x2).setCell ⟨w.heap.size+1+1,2,none⟩ x3):Hid (Below w.heap.size w W')/\Hid (∃v0 v1 v2:Value,W'.heap[w.heap.size+1+1]? =some (.cells #[v0,v1,v2] 199))/\W'.cell? ⟨w.heap.size,0,none⟩=some y/\W'.cell? ⟨w.heap.size+1,0,none⟩=some y0/\W'.cell? ⟨w.heap.size+1,1,none⟩=some y1/\W'.cell? ⟨w.heap.size+1,2,none⟩=some y2/\W'.cell? ⟨w.heap.size+1,3,none⟩=some y3/\W'.cell? ⟨w.heap.size+1,4,none⟩=some y4/\W'.cell? ⟨w.heap.size+1,5,none⟩=some y5/\W'.cell? ⟨w.heap.size+1,6,none⟩=some y6/\W'.cell? ⟨w.heap.size+1,7,none⟩=some y7:=by
 obtain⟨h1,h2,z,z0,z1,z2,z3,z4,z5,z6,z7⟩:=h;have hs:W.grownBy W' (some (w.heap.size+1+1)):=by rw[e];exact Xj _ _ _ _ _
 have k:∀{a:Addr} {u:Value},a.block≠w.heap.size+1+1->W.cell? a=some u->W'.cell? a=some u:=fun{a u} hne h=>(World.cell?_of_block (hs.block a.block (World.block_lt_of_cell? W _ h) (fun e=>hne (Option.some.inj e)))).trans h
 obtain⟨r0,r1,r2,hr⟩:=h2.out;have hl:∀j,(⟨w.heap.size,j,none⟩:Addr).block≠w.heap.size+1+1:=fun j=>by show w.heap.size≠_;omega
 have hl2:∀j,(⟨w.heap.size+1,j,none⟩:Addr).block≠w.heap.size+1+1:=fun j=>by show w.heap.size+1≠_;omega
 exact⟨hid (h1.out.grown hs h1.out.size (fun g e=>by have:=Option.some.inj e;omega)),hid ⟨x1,x2,x3,by rw[e];exact Vy hr⟩,k (hl _) z,k (hl2 _) z0,k (hl2 _) z1,k (hl2 _) z2,k (hl2 _) z3,k (hl2 _) z4,k (hl2 _) z5,k (hl2 _) z6,k (hl2 _) z7⟩
theorem y1f{W':World}{p:Prop}(h:Hid (Below w.heap.size w W)/\Hid (∃v0 v1 v2:Value,W.heap[w.heap.size+1+1]? =some (.cells #[v0,v1,v2] 199))/\p)(hb:Below W.heap.size W W'):Hid (Below w.heap.size w W')/\Hid (∃v0 v1 v2:Value,W'.heap[w.heap.size+1+1]? =some (.cells #[v0,v1,v2] 199)):=by
 obtain⟨r0,r1,r2,hr⟩:=h.2.1.out;exact⟨hid (h.1.out.trans (hb.mono h.1.out.size)),hid ⟨r0,r1,r2,(hb.block _ (Qz hr)).trans hr⟩⟩
theorem Zv.kept{X:Option (Int ⊕ (Int×Int))}{S R:Nat}{w':World}{v:Value}(h:Zv X S w v)(hg:w.grownBy w' (some R))(hR:R<S):Zv X S w' v:=by
 unfold Zv at h ⊢
 match X,h with
 |none,h=>exact h
 |some (.inl c),h=>exact h
 |some (.inr q),h=>
  obtain⟨g,h1,h2,h3⟩:=h;exact⟨g,h1,h2,(hg.block g (Qz h3) (fun e=>by have:=Option.some.inj e;omega)).trans h3⟩
theorem y1g(so:Option Addr)(n cap:Nat)(rs:List Rr)(k:Int)(T:ByteArray)(a b c d:Int)(so1:Option Addr)(n1 cap1:Nat)(p:Int)(t:RT)(w:World)(V:ByteArray)(hV:V.toList.isEmpty=false)
  (HC:Hid (∀W:World,Below w.heap.size w W->Calls prog 167 #[.agg #[.slice so n cap]] W fun e w'=>e=.returned .nilIface/\Below W.heap.size W w'))
  (HE:Hid (∀W:World,Below w.heap.size w W->Calls prog 202 #[.agg #[.int .i64 k,.string T,.int .u64 a,.int .u64 b,.int .u64 c,.int .u64 d,.slice so1 n1 cap1,.int .i64 p]] W fun e w'=>e=.returned (.string V)/\Below W.heap.size W w'))
  (HH:Hid (∀W:World,Below w.heap.size w W->Calls prog 203 #[.agg #[.slice so n cap],.agg #[.int .i64 k,.string T,.int .u64 a,.int .u64 b,.int .u64 c,.int .u64 d,.slice so1 n1 cap1,.int .i64 p]] W fun e w'=>e=.returned (.bool true)/\Below W.heap.size W w'))
  (HL:Hid (∀W:World,Below w.heap.size w W->Calls prog 168 #[.agg #[.slice so n cap]] W (LsP rs W)))
  (HU:Hid (∀(W:World) (M nn m:Nat),Below w.heap.size w W->Nm W M nn (itr rs m)->Calls prog 201 #[.map (some M),.agg #[.int .i64 k,.string T,.int .u64 a,.int .u64 b,.int .u64 c,.int .u64 d,.slice so1 n1 cap1,.int .i64 p]] W fun e w'=>e=.returned (ov (ofT (itr rs m) t))/\Hid (Below W.heap.size W w'))):
  Calls prog 170 #[.agg #[.slice so n cap],.agg #[.int .i64 k,.string T,.int .u64 a,.int .u64 b,.int .u64 c,.int .u64 d,.slice so1 n1 cap1,.int .i64 p]] w fun e w'=>∃m,Yk (itr rs m) rs/\e=.returned (.tuple #[ov (ofT (itr rs m) t),.nilIface])/\Below w.heap.size w w':=by
 obtain⟨W1,hW1⟩:∃W1,W1=((w.alloc (.cells #[.slice so n cap] 24)).alloc (.cells #[.int .i64 k,.string T,.int .u64 a,.int .u64 b,.int .u64 c,.int .u64 d,.slice so1 n1 cap1,.int .i64 p] 71)).alloc (.cells #[.bool false,.bool false,.bool false] 199):=⟨_,rfl⟩;have hB1:Below w.heap.size w W1:=by rw[hW1];exact(((Below.refl _ w).alloc L0q _).alloc (by simp) _).alloc (by simp;omega) _
 have hR1:W1.heap[w.heap.size+1+1]? =some (.cells #[.bool false,.bool false,.bool false] 199):=by rw[hW1];exact Qx _ _ (by simp)
 have hG1:W1.heap[w.heap.size]? =some (.cells #[.slice so n cap] 24):=by rw[hW1];exact(Below.heap_alloc _ _ _ (by simp;omega)).trans ((Below.heap_alloc _ _ _ (by simp)).trans (Qx w _ rfl))
 have hN1:W1.heap[w.heap.size+1]? =some (.cells #[.int .i64 k,.string T,.int .u64 a,.int .u64 b,.int .u64 c,.int .u64 d,.slice so1 n1 cap1,.int .i64 p] 71):=by rw[hW1];exact(Below.heap_alloc _ _ _ (by simp)).trans (Qx _ _ (by simp))
 have HS:=hid (HC.out W1 hB1);have HB1:=hid hB1;have HW1:=hid hW1;have HR1:=hid hR1;have HG1:=hid hG1;have HN1:=hid hN1;clear hW1 hB1 HC hR1 hG1 hN1;go_enter func170,ntmps170
 go_wp2_with fail
 rw[<-HW1.out];refine HS.out.mono ?_;rintro e w2 ⟨rfl,hb2⟩;have HB2:=hid (HB1.out.trans (hb2.mono HB1.out.size));have HR2:=hid ((hb2.block _ (Qz HR1.out)).trans HR1.out);have HG2:=hid ((hb2.block _ (Qz HG1.out)).trans HG1.out);have HN2:=hid ((hb2.block _ (Qz HN1.out)).trans HN1.out);obtain⟨g0,_⟩:=Qk HG2.out;obtain⟨⟨n0,nn1,n2,n3,n4,n5,n6,n7⟩,_⟩:=Qw HN2.out;have lg:=Qz HG2.out;have ln:=Qz HN2.out;have S2:Hid ((fun W:World=>Hid (Below w.heap.size w W)/\Hid (∃v0 v1 v2:Value,W.heap[w.heap.size+1+1]? =some (.cells #[v0,v1,v2] 199))/\W.cell? ⟨w.heap.size,0,none⟩=some (.slice so n cap)/\W.cell? ⟨w.heap.size+1,0,none⟩=some (.int .i64 k)/\W.cell? ⟨w.heap.size+1,1,none⟩=some (.string T)/\W.cell? ⟨w.heap.size+1,2,none⟩=some (.int .u64 a)/\W.cell? ⟨w.heap.size+1,3,none⟩=some (.int .u64 b)/\W.cell? ⟨w.heap.size+1,4,none⟩=some (.int .u64 c)/\W.cell? ⟨w.heap.size+1,5,none⟩=some (.int .u64 d)/\W.cell? ⟨w.heap.size+1,6,none⟩=some (.slice so1 n1 cap1)/\W.cell? ⟨w.heap.size+1,7,none⟩=some (.int .i64 p)) w2):=⟨HB2,hid ⟨_,_,_,HR2.out⟩,g0,n0,nn1,n2,n3,n4,n5,n6,n7⟩;clear hb2 HS HW1 HR1 HB1 HG1 HN1
 go_wp2_with(first
  |(go_at_call 202;refine(HE.out _ HB2.out).mono ?_;rintro e w3 ⟨rfl,hb3⟩;have HB3:=hid (HB2.out.trans (hb3.mono HB2.out.size));have HR3:=hid ((hb3.block _ (Qz HR2.out)).trans HR2.out);have S3:=hid (Em S2.out hb3);obtain⟨-,-,g3,m0,m1,m2,m3,m4,m5,m6,m7⟩:=S3.out)
  |(go_at_call 203;refine(HH.out _ HB3.out).mono ?_;rintro e w4 ⟨rfl,hb4⟩;have HB4:=hid (HB3.out.trans (hb4.mono HB3.out.size));have hr4:=(hb4.block _ (Qz HR3.out)).trans HR3.out;obtain⟨⟨u0,u1,u2⟩,f0,f1,f2⟩:=Zz hr4;have lr:=Qz hr4;have HR4:=hid hr4;clear hr4))
 have S4:=Em (Em S3.out hb4) (show Below w4.heap.size w4 w4.drew from B0q.drew);clear HE HH HB2 HR2 HG2 HN2 S2 S3 g0 n0 nn1 n2 n3 n4 n5 n6 n7 g3 m0 m1 m2 m3 m4 m5 m6 m7 hb3 hb4 HB3 HR3 HB4 HR4 u0 u1 u2 f0 f1 f2 lr lg ln
 go_region_held3 (fun W:World=>Hid (Below w.heap.size w W)/\Hid (∃v0 v1 v2:Value,W.heap[w.heap.size+1+1]? =some (.cells #[v0,v1,v2] 199))/\W.cell? ⟨w.heap.size,0,none⟩=some (.slice so n cap)/\W.cell? ⟨w.heap.size+1,0,none⟩=some (.int .i64 k)/\W.cell? ⟨w.heap.size+1,1,none⟩=some (.string T)/\W.cell? ⟨w.heap.size+1,2,none⟩=some (.int .u64 a)/\W.cell? ⟨w.heap.size+1,3,none⟩=some (.int .u64 b)/\W.cell? ⟨w.heap.size+1,4,none⟩=some (.int .u64 c)/\W.cell? ⟨w.heap.size+1,5,none⟩=some (.int .u64 d)/\W.cell? ⟨w.heap.size+1,6,none⟩=some (.slice so1 n1 cap1)/\W.cell? ⟨w.heap.size+1,7,none⟩=some (.int .i64 p)) (first|(with_reducible assumption)|(with_reducible exact Em (by assumption) (by assumption))|(with_reducible exact y1e (by assumption) _ rfl)) (first
  |(go_at_call 168;refine(HL.out _ (Gc (by assumption))).mono ?_;rintro e w5 ⟨M,nn,m,rfl,hM,hNm,hFx,hb5⟩;have HB5:=hid (Below.trans (Gc (by assumption)) (hb5.mono (Below.size (Gc (by assumption)))));obtain⟨⟨y1,y2,y3⟩,hy⟩:∃y,y=ofT (itr rs m) t:=⟨_,rfl⟩;have HS5:=hid (HU.out w5 M nn m HB5.out hNm);rw[<-hy]at HS5;dsimp only[ov]at HS5;have HFx:=hid hFx;have HY:=hid hy;clear hNm hFx hy)
  |(go_at_call 201;refine HS5.out.mono ?_;rintro e w6 ⟨rfl,HB6⟩;have hb6:=HB6.out;obtain⟨HB7,HR7⟩:=y1f (by assumption) hb6;obtain⟨q0,q1,q2,hq⟩:=HR7.out;obtain⟨⟨u0,u1,u2⟩,f0,f1,f2⟩:=Zz hq;have lr:=Qz hq;have HQ7:=hid hq;clear hq))
 obtain⟨⟨r0,r1,r2⟩,_⟩:=Zz (Vy (v0:=.bool y1) (v1:=.bool y2) (v2:=.bool y3) HQ7.out)
 go_wp2_with fail
 refine bodyPost_ret (v:=.tuple #[.agg #[.bool y1,.bool y2,.bool y3],.nilIface]) (by simp[results,Tryz.results170,go_sem,r0,r1,r2]) rfl ?_;exact⟨m,HFx.out,by rw[<-HY.out],HB7.out.grown (Xj _ _ _ _ _) HB7.out.size (fun g e=>by have:=Option.some.inj e;omega)⟩
end Go.Proofs.YtlogolpcipiceaaGreatDoor
