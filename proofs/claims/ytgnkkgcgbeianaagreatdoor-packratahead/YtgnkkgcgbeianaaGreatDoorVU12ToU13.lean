/- Lemmas for the last text. Conditions: those that each names. -/
import Derived.Test.YtgnkkgcgbeianaaGreatDoorVU9ToU11
import Derived.Test.YtgnkkgcgbeianaaGreatDoorVO12ToO20
import Derived.Test.YtgnkkgcgbeianaaGreatDoorVW4ToS9
set_option linter.unusedVariables false
set_option maxRecDepth 100000
set_option maxHeartbeats 8000000
namespace Go.Proofs.YtgnkkgcgbeianaaGreatDoor
open Go.Proofs.Tryz
open Go.RowKit Go.Shelf Go.Maps
variable {W w:World}
mutual
def hrT(l:List ByteArray):RT->Bool
 | .mk k T _ _ _ _ s _=>if k=5 then inN T l else hrL l s
def hrL(l:List ByteArray):List RT->Bool
 |[]=>true
 |t::r=>hrT l t&&hrL l r
end
theorem z5f{l:List ByteArray}:∀{s:List RT} (j:Nat) (o:j<s.length),hrT l s[j]=false->hrL l s=false
 |[],j,o,_=>by simp at o
 |t::r,0,_,h=>by rw[hrL,show hrT l t=false from h];rfl
 |t::r,j+1,o,h=>by rw[hrL,z5f j (by simpa using o) h,Bool.and_false]
theorem z5g{l:List ByteArray}:∀{s:List RT},(∀(j:Nat) (o:j<s.length),hrT l s[j]=true)->hrL l s=true
 |[],_=>by rw[hrL]
 |t::r,h=>by rw[hrL,show hrT l t=true from h 0 (by simp),z5g (s:=r) (fun j o=>h (j+1) (by simpa using o))];rfl
theorem y3V(l:List ByteArray)(y:Option Addr)(A D:Nat)(T:ByteArray)(a b c d p:Int)(I:Option Addr)(n U:Nat)(w:World)
  (E:Hid (∀W:World,Below w.heap.size w W->Calls prog 85 #[.agg #[.slice y A D],.string T] W fun e w'=>e=.returned (.int .i64 (fdI T l))/\Below W.heap.size W w')):
  Calls prog 193 #[.agg #[.slice y A D],.agg (r8 5 T a b c d I n U p).toArray] w fun e w'=>e=.returned (.bool (inN T l))/\Below w.heap.size w w':=by
 have h:Hid (∀o r:Obj,Below w.heap.size w ((w.alloc o).alloc r)):=fun o r=>((Below.refl _ w).alloc L0q o).alloc (by simp) r
 obtain⟨v,t⟩:∃v,v=fdI T l:=⟨_,rfl⟩;have V:decide (0<=v)=inN T l:=by
  rw[t];unfold fdI;cases inN T l
  ·simp
  ·simp
 rw[<-t]at E;obtain⟨q,G⟩:∃q,q=inN T l:=⟨_,rfl⟩;rw[<-G]at V ⊢;clear t G;dsimp only[r8];go_enter func193,ntmps193
 go_wp2_with(first|(go_at_call 85;refine(E.out _ (h.out _ _)).mono ?_;rintro e Z ⟨rfl,Y⟩))
 go_ret;exact⟨rfl,(h.out _ _).trans (Y.mono (h.out _ _).size)⟩
theorem y3W(l:List ByteArray)(r:Option Addr)(t y:Nat)(k:Int)(hk:k≠5)(T:ByteArray)(a b c d p:Int)(so:Option Addr)(n ae:Nat)(s:List RT)(w:World)(hn:n<=9223372036854775807)(HN:Hid (n=s.length))
  (HC:Hid (∀j (hj:j<s.length),∃g o,so=some ⟨g,o,none⟩/\g<w.heap.size/\∃A D a1 E c1 G I U V p1,Rc w g (o+j*8) A D a1 E c1 G (.slice I U V) p1/\
    ∀W:World,Below w.heap.size w W->Calls prog 193 #[.agg #[.slice r t y],.agg (r8 A D a1 E c1 G I U V p1).toArray] W fun e w'=>e=.returned (.bool (hrT l s[j]))/\Below W.heap.size W w')):
  Calls prog 193 #[.agg #[.slice r t y],.agg (r8 k T a b c d so n ae p).toArray] w fun e w'=>e=.returned (.bool (hrL l s))/\Below w.heap.size w w':=by
 have am:(k == 5)=false:=by simp[hk]
 have ao:decide (k=5)=false:=by simp[hk]
 obtain⟨R,hR⟩:∃R,R=hrL l s:=⟨_,rfl⟩;have HR:=hid hR;rw[<-hR];clear hR;obtain⟨Y,Z⟩:∃Y,Y=(w.alloc (.cells #[.slice r t y] 43)).alloc (.cells #[.int .i64 k,.string T,.int .u64 a,.int .u64 b,.int .u64 c,.int .u64 d,.slice so n ae,.int .i64 p] 81):=⟨_,rfl⟩;have ak:Hid (Below w.heap.size w Y):=by rw[Z];exact((Below.refl _ w).alloc L0q _).alloc (by simp) _
 have af:=hid Z;have al:Hid (Y.heap[w.heap.size]? =some (.cells #[.slice r t y] 43)):=by rw[Z];exact(Below.heap_alloc _ _ _ (by simp)).trans (Qx w _ rfl)
 clear Z;dsimp only[r8];go_enter func193,ntmps193
 go_wp2_with fail
 rw[<-af.out];clear af
 go_loopw [18] (fun i wr=>∃j:Nat,i=.int .i64 j/\j<=n/\Hid (Below w.heap.size w wr)/\Hid (wr.heap[w.heap.size]? =some (.cells #[.slice r t y] 43))/\Hid (∀i (hi:i<s.length),i<j->hrT l s[i]=true)) (fun i _=>n-(intOf i).toNat)
 case atStart=>exact⟨0,rfl,Nat.zero_le _,ak,al,fun i _ h=>absurd h (by omega)⟩
 case round=>
  obtain⟨j,rfl,hj,HB,HG,HO⟩:=hrel;by_cases hjn:j<n
  ·have ap:(j:Int)<(n:Int):=by omega
   have a0:decide ((j:Int)<(n:Int))=true:=by simp;omega
   have ag:j<s.length:=by rw[<-HN.out];exact hjn
   obtain⟨g,o,rfl,hg,A,D,a1,E,c1,G,I,U,V,p1,ah,ai⟩:=HC.out j ag;obtain⟨z0,z1,z2,z3,z4,z5,z6,z7⟩:=ah.below HB.out hg;have aq:g<wr.heap.size:=World.block_lt_of_cell? wr _ z0;obtain⟨q,hq⟩:∃q,q=hrT l s[j]:=⟨_,rfl⟩;have ac:Below w.heap.size w (wr.alloc (.cells #[.int .i64 A,.string D,.int .u64 a1,.int .u64 E,.int .u64 c1,.int .u64 G,.slice I U V,.int .i64 p1] 81)):=HB.out.alloc HB.out.size _;have aj:=(Below.refl _ wr).alloc L0q (.cells #[.int .i64 A,.string D,.int .u64 a1,.int .u64 E,.int .u64 c1,.int .u64 G,.slice I U V,.int .i64 p1] 81);have ad:=hid ((aj.block _ (Qq HG.out)).trans HG.out);obtain⟨g0,_⟩:=Qw ad.out;have lg:=Qq ad.out;have aa:=hid ac;have HS:=hid (ai _ ac);rw[<-hq]at HS;have HQ:=hid hq;clear ai ah hq ac aj;dsimp only[r8]at HS;cases q with
   |false=>
    go_wp2_with(first
     |(go_at_call 193;refine HS.out.mono ?_;rintro e wz ⟨rfl,ab⟩))
    go_ret;refine⟨?_,aa.out.trans (ab.mono aa.out.size)⟩;rw[HR.out,z5f j ag HQ.out.symm];rfl
   |true=>
    go_wp2_with(first
     |(go_at_call 193;refine HS.out.mono ?_;rintro e wz ⟨rfl,ab⟩))
    refine⟨⟨j+1,by go_num,by omega,hid (aa.out.trans (ab.mono aa.out.size)),hid ((ab.block _ lg).trans ad.out),fun i hi ar=> ?_⟩,by simp[intOf];omega⟩;rcases Nat.lt_or_ge i j with h1|h1
    ·exact HO.out i hi h1
    ·obtain rfl:i=j:=by omega
     exact HQ.out.symm
  ·have a0:decide ((j:Int)<(n:Int))=false:=by simp;omega
   clear HC
   go_wp2_with fail
   go_ret;refine⟨?_,HB.out⟩;rw[HR.out,z5g fun i hi=>HO.out i hi (by have:=HN.out;omega)];rfl
theorem z5h(l:List ByteArray)(rs:List Rr)(hl:l=nmL rs)(y:Option Addr)(A D:Nat)(E:Nat):∀(N:Nat) (t:RT) (G:List Value) (B:Nat) (w:World),SizeOf.sizeOf t<N->Qv w B t G->B<=w.heap.size->Qf w E y A rs->E<=w.heap.size->
  Calls prog 193 #[.agg #[.slice y A D],.agg G.toArray] w fun e w'=>e=.returned (.bool (hrT l t))/\Below w.heap.size w w'
 |0,t,_,_,_,h,_,_,_,_=>by omega
 |N+1,.mk k T a b c d s p,G,B,w,hN,ht,hB,hr,hB0=>by
  rw[Qv]at ht;obtain⟨I,U,rfl,V⟩:=ht;rw[hrT];by_cases hk:k=5
  ·subst hk
   rw[if_pos rfl];refine y3V l y A D T a b c d p I _ U w fun W r=> ?_
   rw[hl];exact z0g T y A D rs E W (hr.below (r.mono hB0)) (Nat.le_trans hB0 r.size)
  ·rw[if_neg hk]
   refine y3W l y A D k hk T a b c d p I _ U s w (Ix V) (Xc s) fun j Y=> ?_
   obtain⟨g,o,Z,h2,k1,T1,a1,b1,c1,d1,aa,n1,ab,p1,h3,h4⟩:=Ac hB V j Y;refine⟨g,o,Z,h2,k1,T1,a1,b1,c1,d1,aa,n1,ab,p1,h3,fun W r=> ?_⟩;have ac:=List.sizeOf_lt_of_mem (List.getElem_mem Y);simp only[RT.mk.sizeOf_spec]at hN;exact z5h l rs hl y A D E N s[j] _ B W (by omega) (h4.below (r.mono hB)) (Nat.le_trans hB r.size) (hr.below (r.mono hB0)) (Nat.le_trans hB0 r.size)
mutual
theorem Qv.mono{w:World}{B B':Nat}(A:B<=B'):∀(t:RT) (r:List Value),Qv w B t r->Qv w B' t r
 | .mk k T a b c d s p,r,h=>by
   rw[Qv]at h ⊢;obtain⟨D,E,rfl,h⟩:=h;refine⟨D,E,rfl,?_⟩;rcases h with y|⟨y,g,o,G,V,I,U⟩
   ·exact .inl y
   ·exact .inr ⟨y,g,o,G,by omega,I,Zx.mono A s g o U⟩
theorem Zx.mono{w:World}{B B':Nat}(h:B<=B'):∀(s:List RT) (g o:Nat),Zx w B g o s->Zx w B' g o s
 |[],g,o,_=>by rw[Zx];trivial
 |t::r,g,o,ht=>by
  rw[Zx]at ht ⊢;obtain⟨⟨y,A,D⟩,E⟩:=ht;exact⟨⟨y,Qv.mono h t y A,D⟩,Zx.mono h r g _ E⟩
end
@[reducible] def bA:ByteArray:={data:=#[97]}
theorem z5i:∀x,x<1->nmS bA=true:=by decide+kernel
@[reducible] def wX (w:World) (k:Int) (T:ByteArray) (a b c d:Int) (so:Option Addr) (n cap:Nat) (p:Int):World:=(w.alloc (.cells #[.int .i64 k,.string T,.int .u64 a,.int .u64 b,.int .u64 c,.int .u64 d,.slice so n cap,.int .i64 p] 81)).alloc (.cells #[.string {data:=#[97]},.int .i64 k,.string T,.int .u64 a,.int .u64 b,.int .u64 c,.int .u64 d,.slice so n cap,.int .i64 p,.int .i64 0] 83)
theorem Ij(w:World)(k:Int)(T:ByteArray)(a b c d:Int)(h:Option Addr)(n o:Nat)(p:Int):Below w.heap.size w (wX w k T a b c d h n o p):=(B0q.alloc L0q _).alloc (by simp) _
theorem y3X{k:Int}{T:ByteArray}{a b c d:Int}{h:Option Addr}{n o:Nat}{p:Int}{t:RT}(y:Qv w w.heap.size t (r8 k T a b c d h n o p)):Qf (wX w k T a b c d h n o p) (wX w k T a b c d h n o p).heap.size (some ⟨w.heap.size+1,0,none⟩) 1 [(bA,t,0)]:=by
 have r:=Ij w k T a b c d h n o p;refine⟨rfl,by unfold maxLen;omega,fun j A=>⟨w.heap.size+1,0,rfl,by simp,?_⟩⟩;obtain rfl:j=0:=by simpa using A
 obtain⟨⟨c0,c1,c2,c3,D,E,G,I,U,V⟩,_⟩:=Ff (w:=wX w k T a b c d h n o p) (g:=w.heap.size+1) (Qx _ _ (by simp));exact⟨k,T,a,b,c,d,h,n,o,p,(y.below r).mono r.size _ _,c0,c1,c2,c3,D,E,G,I,U,V⟩
theorem y3Y{t:RT}(h:RtZ t):RgZ [(bA,t,0)]:=fun x hx=>by
 obtain rfl:x=(bA,t,0):=by simpa using hx
 exact⟨by show 1<=_;omega,h⟩
theorem y3Z(t:RT):okG [(bA,t,0)]=okT t:=by
 unfold okG;rw[List.all_cons,List.all_nil,Bool.and_true];show(true&&(true&&(nmS bA&&okT t)))=okT t;rw[z5i 0 (by decide)];rfl
theorem z5j(k:Int)(T:ByteArray)(a b c d p:Int)(h:Option Addr)(n o:Nat)(w:World)(c0:Int)
  (t:Hid (Calls prog 231 #[.agg #[.slice (some ⟨w.heap.size+1,0,none⟩) 1 1]] (wX w k T a b c d h n o p) fun e w'=>e=.returned (.tuple #[.string ⟨#[]⟩,.iface 36 (.int .i64 c0)])/\Below (wX w k T a b c d h n o p).heap.size (wX w k T a b c d h n o p) w')):
  Calls prog 192 #[.agg (r8 k T a b c d h n o p).toArray] w fun e w'=>e=.returned (.string ⟨#[]⟩)/\Below w.heap.size w w':=by
 have r:=hid (Ij w k T a b c d h n o p);dsimp only[r8];go_enter func192,ntmps192
 go_wp2_with fail
 refine t.out.mono ?_;rintro e A ⟨rfl,y⟩;have D:Hid (Below w.heap.size w A):=r.out.trans (y.mono r.out.size);clear t y r
 go_wp2_with fail
 go_ret;exact⟨rfl,D.out⟩
theorem y4a(k:Int)(T:ByteArray)(a b c d p:Int)(h:Option Addr)(n o:Nat)(w:World)(X L:ByteArray)(D:L.size=X.size+6)(I:X.size<=8192)(E:Hid (L.extract 5 (X.size+5)=X))
  (y:Hid (Calls prog 231 #[.agg #[.slice (some ⟨w.heap.size+1,0,none⟩) 1 1]] (wX w k T a b c d h n o p) fun e w'=>e=.returned (.tuple #[.string L,.nilIface])/\Below (wX w k T a b c d h n o p).heap.size (wX w k T a b c d h n o p) w')):
  Calls prog 192 #[.agg (r8 k T a b c d h n o p).toArray] w fun e w'=>e=.returned (.string X)/\Below w.heap.size w w':=by
 have t:=hid (Ij w k T a b c d h n o p);dsimp only[r8];go_enter func192,ntmps192
 go_wp2_with fail
 refine y.out.mono ?_;rintro e r ⟨rfl,A⟩;have G:Hid (Below w.heap.size w r):=t.out.trans (A.mono t.out.size);have U:(Instr.slice 9 (.string L) (some (.int .i64 5)) (some (.int .i64 ((X.size:Int)+6-1))) none).run prog r=.ok (.string X) r:=by
  rw[run_slice_string r 9 L .i64 .i64 5 ((X.size:Int)+6-1) Tryz.underlying9 (by omega) (by omega) (by rw[D];omega)];rw[show((X.size:Int)+6-1).toNat=X.size+5 by omega];exact congrArg (fun q=>Result.ok (Value.string q) r) E.out
 clear y A t
 go_wp2_with fail
 go_ret;exact⟨rfl,G.out⟩
def exS(nd:Nd):ByteArray:=if 8192<sz (pR qT cT [(bA,nd,0)])∨24<dR [(bA,nd,0)]then{data:=#[]}else cat (pN qT cT nd)
theorem y4b(h:Nd):cat (pR qT cT [(bA,h,0)])={data:=([97,32,60,45,32]++((cat (pN qT cT h)).data.toList++[10])).toArray}:=by
 rw[pR,pR,cat,cat,z2T,cat,cat];apply ByteArray.ext;apply Array.ext';simp[bA,bAr,bNl]
theorem y4c(h:Nd):(cat (pR qT cT [(bA,h,0)])).size=(cat (pN qT cT h)).size+6/\(cat (pR qT cT [(bA,h,0)])).extract 5 ((cat (pN qT cT h)).size+5)=cat (pN qT cT h):=by
 obtain⟨X,o⟩:∃X,X=cat (pN qT cT h):=⟨_,rfl⟩;rw[y4b,<-o];have hl:X.data.toList.length=X.size:=by rw[Array.length_toList];rfl
 refine⟨?_,?_⟩
 ·show([97,32,60,45,32]++(X.data.toList++[10])).toArray.size=_
  simp
 ·rw[ByteArray.extract_mk]
  apply ByteArray.ext;apply Array.ext';show List.take (X.size+5-5) (List.drop 5 ([97,32,60,45,32]++(X.data.toList++[10])))=X.data.toList;rw[show X.size+5-5=X.data.toList.length by omega];simp
theorem y4d(k:Int)(T:ByteArray)(a b c d p:Int)(o:Option Addr)(n r:Nat)(t:RT)(h:Nd)(w:World)(D:TabIs w)(Z:Qv w w.heap.size t (r8 k T a b c d o n r p))(hz:RtZ t)(E:Tq t h)(G:Vk h)(I:Wf Nmq h):
  Calls prog 192 #[.agg (r8 k T a b c d o n r p).toArray] w fun e w'=>e=.returned (.string (exS h))/\Below w.heap.size w w':=by
 have hb:=Ij w k T a b c d o n r p;have aa:TqR [(bA,t,0)] [(bA,h,0)]:=by rw[TqR];exact⟨rfl,E,by rw[TqR];trivial⟩
 have hx:∀x∈[((bA,h,0):Rl)],Ruk Nmq x:=fun x hx=>by
  obtain rfl:x=(bA,h,0):=by simpa using hx
  exact⟨z5i 0 (by decide),G,I⟩
 have y:=Hh (some ⟨w.heap.size+1,0,none⟩) 1 1 [(bA,t,0)] [(bA,h,0)] _ (wX w k T a b c d o n r p) (y3Y hz) (y3X Z) L0q (by rw[y3Z];exact(Wg t h E G I).1) aa hx (D.below hb D.lt);unfold exS;rcases Nat.lt_or_ge 8192 (sz (pR qT cT [(bA,h,0)]))with U|A
 ·rw[Tl U]at y
  rw[if_pos (.inl U)];exact z5j k T a b c d p o n r w 2 y
 rcases Nat.lt_or_ge 24 (dR [(bA,h,0)])with V|ab
 ·rw[Wz A V]at y
  rw[if_pos (.inr V)];exact z5j k T a b c d p o n r w 20 y
 rw[Aq A ab]at y;rw[if_neg (by omega)];have Y:=y4c h;have hs:(cat (pR qT cT [(bA,h,0)])).size<=8192:=by rw[Tz];exact A
 exact y4a k T a b c d p o n r w _ _ Y.1 (by omega) Y.2 y
theorem Ik{W':World}{y y0 y1 y2 y3 r t A D:Value}(h:Hid (Below w.heap.size w W)/\Hid (∃v0 v1 v2:Value,W.heap[w.heap.size+1+1]? =some (.cells #[v0,v1,v2] 210))/\W.cell? ⟨w.heap.size,0,none⟩=some y/\W.cell? ⟨w.heap.size+1,0,none⟩=some y0/\W.cell? ⟨w.heap.size+1,1,none⟩=some y1/\W.cell? ⟨w.heap.size+1,2,none⟩=some y2/\W.cell? ⟨w.heap.size+1,3,none⟩=some y3/\W.cell? ⟨w.heap.size+1,4,none⟩=some r/\W.cell? ⟨w.heap.size+1,5,none⟩=some t/\W.cell? ⟨w.heap.size+1,6,none⟩=some A/\W.cell? ⟨w.heap.size+1,7,none⟩=some D)(o:Below W.heap.size W W'):Hid (Below w.heap.size w W')/\Hid (∃v0 v1 v2:Value,W'.heap[w.heap.size+1+1]? =some (.cells #[v0,v1,v2] 210))/\W'.cell? ⟨w.heap.size,0,none⟩=some y/\W'.cell? ⟨w.heap.size+1,0,none⟩=some y0/\W'.cell? ⟨w.heap.size+1,1,none⟩=some y1/\W'.cell? ⟨w.heap.size+1,2,none⟩=some y2/\W'.cell? ⟨w.heap.size+1,3,none⟩=some y3/\W'.cell? ⟨w.heap.size+1,4,none⟩=some r/\W'.cell? ⟨w.heap.size+1,5,none⟩=some t/\W'.cell? ⟨w.heap.size+1,6,none⟩=some A/\W'.cell? ⟨w.heap.size+1,7,none⟩=some D:=by
 obtain⟨E,I,z,U,V,Y,Z,z4,z5,z6,z7⟩:=h;have e:∀{a:Addr} {u:Value},W.cell? a=some u->W'.cell? a=some u:=fun{a u} h=>(o.cell (p:=a) (World.block_lt_of_cell? W _ h)).trans h
 obtain⟨r0,r1,r2,G⟩:=I.out;exact⟨hid (E.out.trans (o.mono E.out.size)),hid ⟨r0,r1,r2,(o.block _ (Qq G)).trans G⟩,e z,e U,e V,e Y,e Z,e z4,e z5,e z6,e z7⟩
theorem y4e{y y0 y1 y2 y3 r t A D x1 x2 x3:Value}(h:Hid (Below w.heap.size w W)/\Hid (∃v0 v1 v2:Value,W.heap[w.heap.size+1+1]? =some (.cells #[v0,v1,v2] 210))/\W.cell? ⟨w.heap.size,0,none⟩=some y/\W.cell? ⟨w.heap.size+1,0,none⟩=some y0/\W.cell? ⟨w.heap.size+1,1,none⟩=some y1/\W.cell? ⟨w.heap.size+1,2,none⟩=some y2/\W.cell? ⟨w.heap.size+1,3,none⟩=some y3/\W.cell? ⟨w.heap.size+1,4,none⟩=some r/\W.cell? ⟨w.heap.size+1,5,none⟩=some t/\W.cell? ⟨w.heap.size+1,6,none⟩=some A/\W.cell? ⟨w.heap.size+1,7,none⟩=some D)(W':World)(e:W'=((W.setCell ⟨w.heap.size+1+1,0,none⟩ x1).setCell ⟨w.heap.size+1+1,1,none⟩ x2).setCell ⟨w.heap.size+1+1,2,none⟩ x3):Hid (Below w.heap.size w W')/\Hid (∃v0 v1 v2:Value,W'.heap[w.heap.size+1+1]? =some (.cells #[v0,v1,v2] 210))/\W'.cell? ⟨w.heap.size,0,none⟩=some y/\W'.cell? ⟨w.heap.size+1,0,none⟩=some y0/\W'.cell? ⟨w.heap.size+1,1,none⟩=some y1/\W'.cell? ⟨w.heap.size+1,2,none⟩=some y2/\W'.cell? ⟨w.heap.size+1,3,none⟩=some y3/\W'.cell? ⟨w.heap.size+1,4,none⟩=some r/\W'.cell? ⟨w.heap.size+1,5,none⟩=some t/\W'.cell? ⟨w.heap.size+1,6,none⟩=some A/\W'.cell? ⟨w.heap.size+1,7,none⟩=some D:=by
 obtain⟨E,I,z,U,V,Y,Z,z4,z5,z6,z7⟩:=h;have G:W.grownBy W' (some (w.heap.size+1+1)):=by rw[e];exact Xg _ _ _ _ _
 have k:∀{a:Addr} {u:Value},a.block≠w.heap.size+1+1->W.cell? a=some u->W'.cell? a=some u:=fun{a u} aa h=>(World.cell?_of_block (G.block a.block (World.block_lt_of_cell? W _ h) (fun e=>aa (Option.some.inj e)))).trans h
 obtain⟨r0,r1,r2,hr⟩:=I.out;have hl:∀j,(⟨w.heap.size,j,none⟩:Addr).block≠w.heap.size+1+1:=fun j=>by show w.heap.size≠_;omega
 have o:∀j,(⟨w.heap.size+1,j,none⟩:Addr).block≠w.heap.size+1+1:=fun j=>by show w.heap.size+1≠_;omega
 exact⟨hid (E.out.grown G E.out.size (fun g e=>by have:=Option.some.inj e;omega)),hid ⟨x1,x2,x3,by rw[e];exact Vd hr⟩,k (hl _) z,k (o _) U,k (o _) V,k (o _) Y,k (o _) Z,k (o _) z4,k (o _) z5,k (o _) z6,k (o _) z7⟩
theorem y4f{W':World}{p:Prop}(h:Hid (Below w.heap.size w W)/\Hid (∃v0 v1 v2:Value,W.heap[w.heap.size+1+1]? =some (.cells #[v0,v1,v2] 210))/\p)(o:Below W.heap.size W W'):Hid (Below w.heap.size w W')/\Hid (∃v0 v1 v2:Value,W'.heap[w.heap.size+1+1]? =some (.cells #[v0,v1,v2] 210)):=by
 obtain⟨t,y,A,r⟩:=h.2.1.out;exact⟨hid (h.1.out.trans (o.mono h.1.out.size)),hid ⟨t,y,A,(o.block _ (Qq r)).trans r⟩⟩
theorem Zm.kept{X:Option (Int ⊕ (Int×Int))}{S R:Nat}{w':World}{v:Value}(h:Zm X S w v)(r:w.grownBy w' (some R))(A:R<S):Zm X S w' v:=by
 unfold Zm at h ⊢
 match X,h with
 |none,h=>exact h
 |some (.inl c),h=>exact h
 |some (.inr q),h=>
  obtain⟨g,t,y,o⟩:=h;exact⟨g,t,y,(r.block g (Qq o) (fun e=>by have:=Option.some.inj e;omega)).trans o⟩
theorem y4g(h:Option Addr)(n o:Nat)(rs:List Rr)(k:Int)(T:ByteArray)(a b c d:Int)(r:Option Addr)(A D:Nat)(p:Int)(t:RT)(w:World)(V:ByteArray)(hV:V.toList.isEmpty=false)
  (HC:Hid (∀W:World,Below w.heap.size w W->Calls prog 152 #[.agg #[.slice h n o]] W fun e w'=>e=.returned .nilIface/\Below W.heap.size W w'))
  (HE:Hid (∀W:World,Below w.heap.size w W->Calls prog 192 #[.agg #[.int .i64 k,.string T,.int .u64 a,.int .u64 b,.int .u64 c,.int .u64 d,.slice r A D,.int .i64 p]] W fun e w'=>e=.returned (.string V)/\Below W.heap.size W w'))
  (HH:Hid (∀W:World,Below w.heap.size w W->Calls prog 193 #[.agg #[.slice h n o],.agg #[.int .i64 k,.string T,.int .u64 a,.int .u64 b,.int .u64 c,.int .u64 d,.slice r A D,.int .i64 p]] W fun e w'=>e=.returned (.bool true)/\Below W.heap.size W w'))
  (HL:Hid (∀W:World,Below w.heap.size w W->Calls prog 153 #[.agg #[.slice h n o]] W (LsP rs W)))
  (HU:Hid (∀(W:World) (M nn m:Nat),Below w.heap.size w W->Nm W M nn (itr rs m)->Calls prog 191 #[.map (some M),.agg #[.int .i64 k,.string T,.int .u64 a,.int .u64 b,.int .u64 c,.int .u64 d,.slice r A D,.int .i64 p]] W fun e w'=>e=.returned (ov (ofT (itr rs m) t))/\Hid (Below W.heap.size W w'))):
  Calls prog 155 #[.agg #[.slice h n o],.agg #[.int .i64 k,.string T,.int .u64 a,.int .u64 b,.int .u64 c,.int .u64 d,.slice r A D,.int .i64 p]] w fun e w'=>∃m,Xy (itr rs m) rs/\e=.returned (.tuple #[ov (ofT (itr rs m) t),.nilIface])/\Below w.heap.size w w':=by
 obtain⟨E,G⟩:∃E,E=((w.alloc (.cells #[.slice h n o] 43)).alloc (.cells #[.int .i64 k,.string T,.int .u64 a,.int .u64 b,.int .u64 c,.int .u64 d,.slice r A D,.int .i64 p] 81)).alloc (.cells #[.bool false,.bool false,.bool false] 210):=⟨_,rfl⟩;have ad:Below w.heap.size w E:=by rw[G];exact(((Below.refl _ w).alloc L0q _).alloc (by simp) _).alloc (by simp;omega) _
 have am:E.heap[w.heap.size+1+1]? =some (.cells #[.bool false,.bool false,.bool false] 210):=by rw[G];exact Qx _ _ (by simp)
 have ao:E.heap[w.heap.size]? =some (.cells #[.slice h n o] 43):=by rw[G];exact(Below.heap_alloc _ _ _ (by simp;omega)).trans ((Below.heap_alloc _ _ _ (by simp)).trans (Qx w _ rfl))
 have ap:E.heap[w.heap.size+1]? =some (.cells #[.int .i64 k,.string T,.int .u64 a,.int .u64 b,.int .u64 c,.int .u64 d,.slice r A D,.int .i64 p] 81):=by rw[G];exact(Below.heap_alloc _ _ _ (by simp)).trans (Qx _ _ (by simp))
 have HS:=hid (HC.out E ad);have ae:=hid ad;have aq:=hid G;have af:=hid am;have ag:=hid ao;have ah:=hid ap;clear G ad HC am ao ap;go_enter func155,ntmps155
 go_wp2_with fail
 rw[<-aq.out];refine HS.out.mono ?_;rintro e w2 ⟨rfl,I⟩;have U:=hid (ae.out.trans (I.mono ae.out.size));have Y:=hid ((I.block _ (Qq af.out)).trans af.out);have ai:=hid ((I.block _ (Qq ag.out)).trans ag.out);have aj:=hid ((I.block _ (Qq ah.out)).trans ah.out);obtain⟨g0,_⟩:=Qw ai.out;obtain⟨⟨n0,ar,n2,n3,n4,n5,n6,n7⟩,_⟩:=Qy aj.out;have lg:=Qq ai.out;have ln:=Qq aj.out;have S2:Hid ((fun W:World=>Hid (Below w.heap.size w W)/\Hid (∃v0 v1 v2:Value,W.heap[w.heap.size+1+1]? =some (.cells #[v0,v1,v2] 210))/\W.cell? ⟨w.heap.size,0,none⟩=some (.slice h n o)/\W.cell? ⟨w.heap.size+1,0,none⟩=some (.int .i64 k)/\W.cell? ⟨w.heap.size+1,1,none⟩=some (.string T)/\W.cell? ⟨w.heap.size+1,2,none⟩=some (.int .u64 a)/\W.cell? ⟨w.heap.size+1,3,none⟩=some (.int .u64 b)/\W.cell? ⟨w.heap.size+1,4,none⟩=some (.int .u64 c)/\W.cell? ⟨w.heap.size+1,5,none⟩=some (.int .u64 d)/\W.cell? ⟨w.heap.size+1,6,none⟩=some (.slice r A D)/\W.cell? ⟨w.heap.size+1,7,none⟩=some (.int .i64 p)) w2):=⟨U,hid ⟨_,_,_,Y.out⟩,g0,n0,ar,n2,n3,n4,n5,n6,n7⟩;clear I HS aq af ae ag ah
 go_wp2_with(first
  |(go_at_call 192;refine(HE.out _ U.out).mono ?_;rintro e w3 ⟨rfl,Z⟩;have aa:=hid (U.out.trans (Z.mono U.out.size));have ak:=hid ((Z.block _ (Qq Y.out)).trans Y.out);have S3:=hid (Ik S2.out Z);obtain⟨-,-,g3,m0,m1,m2,m3,m4,m5,m6,m7⟩:=S3.out)
  |(go_at_call 193;refine(HH.out _ aa.out).mono ?_;rintro e w4 ⟨rfl,ab⟩;have ax:=hid (aa.out.trans (ab.mono aa.out.size));have ac:=(ab.block _ (Qq ak.out)).trans ak.out;obtain⟨⟨u0,u1,u2⟩,f0,f1,f2⟩:=Zz ac;have lr:=Qq ac;have ay:=hid ac;clear ac))
 have S4:=Ik (Ik S3.out ab) (show Below w4.heap.size w4 w4.drew from B0q.drew);clear HE HH U Y ai aj S2 S3 g0 n0 ar n2 n3 n4 n5 n6 n7 g3 m0 m1 m2 m3 m4 m5 m6 m7 Z ab aa ak ax ay u0 u1 u2 f0 f1 f2 lr lg ln
 go_region_held3 (fun W:World=>Hid (Below w.heap.size w W)/\Hid (∃v0 v1 v2:Value,W.heap[w.heap.size+1+1]? =some (.cells #[v0,v1,v2] 210))/\W.cell? ⟨w.heap.size,0,none⟩=some (.slice h n o)/\W.cell? ⟨w.heap.size+1,0,none⟩=some (.int .i64 k)/\W.cell? ⟨w.heap.size+1,1,none⟩=some (.string T)/\W.cell? ⟨w.heap.size+1,2,none⟩=some (.int .u64 a)/\W.cell? ⟨w.heap.size+1,3,none⟩=some (.int .u64 b)/\W.cell? ⟨w.heap.size+1,4,none⟩=some (.int .u64 c)/\W.cell? ⟨w.heap.size+1,5,none⟩=some (.int .u64 d)/\W.cell? ⟨w.heap.size+1,6,none⟩=some (.slice r A D)/\W.cell? ⟨w.heap.size+1,7,none⟩=some (.int .i64 p)) (first|(with_reducible assumption)|(with_reducible exact Ik (by assumption) (by assumption))|(with_reducible exact y4e (by assumption) _ rfl)) (first
  |(go_at_call 153;refine(HL.out _ (Fc (by assumption))).mono ?_;rintro e w5 ⟨M,nn,m,rfl,hM,au,av,az⟩;have aA:=hid (Below.trans (Fc (by assumption)) (az.mono (Below.size (Fc (by assumption)))));obtain⟨⟨y1,y2,y3⟩,hy⟩:∃y,y=ofT (itr rs m) t:=⟨_,rfl⟩;have al:=hid (HU.out w5 M nn m aA.out au);rw[<-hy]at al;dsimp only[ov]at al;have aB:=hid av;have HY:=hid hy;clear au av hy)
  |(go_at_call 191;refine al.out.mono ?_;rintro e w6 ⟨rfl,aC⟩;have aD:=aC.out;obtain⟨aw,aE⟩:=y4f (by assumption) aD;obtain⟨q0,q1,q2,hq⟩:=aE.out;obtain⟨⟨u0,u1,u2⟩,f0,f1,f2⟩:=Zz hq;have lr:=Qq hq;have aF:=hid hq;clear hq))
 obtain⟨⟨r0,r1,r2⟩,_⟩:=Zz (Vd (v0:=.bool y1) (v1:=.bool y2) (v2:=.bool y3) aF.out)
 go_wp2_with fail
 refine bodyPost_ret (v:=.tuple #[.agg #[.bool y1,.bool y2,.bool y3],.nilIface]) (by simp[results,Tryz.results155,go_sem,r0,r1,r2]) rfl ?_;exact⟨m,aB.out,by rw[<-HY.out],aw.out.grown (Xg _ _ _ _ _) aw.out.size (fun g e=>by have:=Option.some.inj e;omega)⟩
end Go.Proofs.YtgnkkgcgbeianaaGreatDoor
