/- Lemmas for the last text. Conditions: those that each names. -/
import Derived.Test.YtgmcjddjdidpjaaGreatDoorVO18ToU2
import Derived.Test.YtgmcjddjdidpjaaGreatDoorVHBToO4
import Derived.Test.YtgmcjddjdidpjaaGreatDoorVRLToGI
set_option linter.unusedVariables false
set_option maxRecDepth 100000
set_option maxHeartbeats 16000000
namespace Go.Proofs.YtgmcjddjdidpjaaGreatDoor
open Go.Proofs.Tryz
open Go.RowKit Go.Shelf
variable {W:World} {B n:Nat} {x1 x2 x3 y1 y2 y3:Bool}
theorem y2I(m:Option Nat)(T:ByteArray)(a b c d:Int)(so:Option Addr)(n cap:Nat)(p:Int)(w:World):Calls prog 58 #[.map m,.agg #[.int .i64 1,.string T,.int .u64 a,.int .u64 b,.int .u64 c,.int .u64 d,.slice so n cap,.int .i64 p]] w fun e w'=>e=.returned (ov (true,false,false))/\Hid (Below w.heap.size w w'):=by
 have HB:Hid (∀o1 o2:Obj,Below w.heap.size w ((w.alloc o1).alloc o2)):=fun o1 o2=>((Below.refl _ w).alloc L0q o1).alloc (by simp) o2
 go_enter func58,ntmps58
 go_wp2_with fail
 refine bodyPost_ret (v:=.agg #[.bool true,.bool false,.bool false]) (by simp[results,Tryz.results58,go_sem]) rfl ?_;exact⟨rfl,hid (HB.out _ _)⟩
theorem y2J(m:Option Nat)(T:ByteArray)(a b c d:Int)(so:Option Addr)(n cap:Nat)(p:Int)(w:World):Calls prog 58 #[.map m,.agg #[.int .i64 4,.string T,.int .u64 a,.int .u64 b,.int .u64 c,.int .u64 d,.slice so n cap,.int .i64 p]] w fun e w'=>e=.returned (ov (false,true,true))/\Hid (Below w.heap.size w w'):=by
 have HB:Hid (∀o1 o2:Obj,Below w.heap.size w ((w.alloc o1).alloc o2)):=fun o1 o2=>((Below.refl _ w).alloc L0q o1).alloc (by simp) o2
 go_enter func58,ntmps58
 go_wp2_with fail
 refine bodyPost_ret (v:=.agg #[.bool false,.bool true,.bool true]) (by simp[results,Tryz.results58,go_sem]) rfl ?_;exact⟨rfl,hid (HB.out _ _)⟩
theorem y2K(m:Option Nat)(T:ByteArray)(a b c d:Int)(so:Option Addr)(n cap:Nat)(p:Int)(w:World)(hT:T={data:=#[]}):Calls prog 58 #[.map m,.agg #[.int .i64 2,.string T,.int .u64 a,.int .u64 b,.int .u64 c,.int .u64 d,.slice so n cap,.int .i64 p]] w fun e w'=>e=.returned (ov (true,false,false))/\Hid (Below w.heap.size w w'):=by
 subst hT;have HB:Hid (∀o1 o2:Obj,Below w.heap.size w ((w.alloc o1).alloc o2)):=fun o1 o2=>((Below.refl _ w).alloc L0q o1).alloc (by simp) o2
 go_enter func58,ntmps58
 go_wp2_with fail
 refine bodyPost_ret (v:=.agg #[.bool true,.bool false,.bool false]) (by simp[results,Tryz.results58,go_sem]) rfl ?_;exact⟨rfl,hid (HB.out _ _)⟩
theorem y2L(m:Option Nat)(T:ByteArray)(a b c d:Int)(so:Option Addr)(n cap:Nat)(p:Int)(w:World)(hT:T.toList.isEmpty=false):Calls prog 58 #[.map m,.agg #[.int .i64 2,.string T,.int .u64 a,.int .u64 b,.int .u64 c,.int .u64 d,.slice so n cap,.int .i64 p]] w fun e w'=>e=.returned (ov (false,true,true))/\Hid (Below w.heap.size w w'):=by
 have HB:Hid (∀o1 o2:Obj,Below w.heap.size w ((w.alloc o1).alloc o2)):=fun o1 o2=>((Below.refl _ w).alloc L0q o1).alloc (by simp) o2
 go_enter func58,ntmps58
 go_wp2_with fail
 refine bodyPost_ret (v:=.agg #[.bool false,.bool true,.bool true]) (by simp[results,Tryz.results58,go_sem]) rfl ?_;exact⟨rfl,hid (HB.out _ _)⟩
open Go.Maps
def dO(x:Ot):DataW Unit:=.agg [.lit (.bool x.1),.lit (.bool x.2.1),.lit (.bool x.2.2)]
def oEl(v:Value):Option (DataW Unit×List MemPlace):=match v with
 | .agg cs=>match cs.toList with
   |[.bool a,.bool b,.bool c]=>some (dO (a,b,c),[])
   |_=>none
 |_=>none
theorem y2M{x y:Ot}(h:dO x=dO y):x=y:=by
 obtain⟨a,b,c⟩:=x;obtain⟨d,e,f⟩:=y;simp only[dO,DataW.agg.injEq,List.cons.injEq,DataW.lit.injEq,Lit.bool.injEq,and_true]at h;obtain⟨rfl,rfl,rfl⟩:=h;rfl
theorem z4V(x:Ot):oEl (ov x)=some (dO x,[]):=rfl
theorem y2N{v:Value}{x:Ot}{ps:List MemPlace}(h:oEl v=some (dO x,ps)):v=ov x:=by
 unfold oEl at h;split at h
 ·rename_i cs
  split at h
  ·rename_i a b c hc
   have e:=y2M (Prod.mk.inj (Option.some.inj h)).1;subst e;obtain⟨l⟩:=cs;simp only at hc;subst hc;rfl
  ·cases h
 ·cases h
theorem y2O(w:World):(zeroValue 47).run prog w=.ok (ov (false,false,false)) w:=by kernel_rfl
theorem z4W:Tryz.prog.underlying 86=some (.map 9 47):=by kernel_rfl
def Nm(W:World)(B:Nat)(n:Nat)(K:ByteArray->Ot):Prop:=∃D:DataW Unit,W.ownsMap prog 9 oEl B n D/\∀s,D.atKey (kls s) (dO (false,false,false))=dO (K s)
theorem Nm.made(w:World):Nm (w.alloc (.map #[] 0)) w.heap.size 0 z0O:=⟨.map [],World.ownsMap_made w _ _ _,fun s=>rfl⟩
theorem Nm.kept{W W':World}{B n:Nat}{K:ByteArray->Ot}{row:Option Nat}(h:Nm W B n K)(hg:W.grownBy W' row)(hne:some B≠row):Nm W' B n K:=by
 obtain⟨D,h1,h2⟩:=h;exact⟨D,h1.kept hg hne,h2⟩
theorem Nm.below{W':World}{base:Nat}{K:ByteArray->Ot}(h:Nm W B n K)(hb:Below base W W')(hB:B<base):Nm W' B n K:=by
 obtain⟨D,⟨es,ck,h1,h2,h3,h4⟩,h5⟩:=h;exact⟨D,⟨es,ck,(hb.block B hB).trans h1,h2,h3,h4⟩,h5⟩
theorem Nm.look{K:ByteArray->Ot}(h:Nm W B n K){s:ByteArray}(hs:s.size<=maxLen):(Instr.lookup 86 (.map (some B)) (.string s) false).run prog W=.ok (ov (K s)) W:=by
 obtain⟨D,h1,h2⟩:=h;obtain⟨v,ps,h3,h4⟩:=h1.lookup Gp z4W (y2O W) (z4V (false,false,false)) (Gc hs);rw[h2 s]at h4;rw[h3,y2N h4]
theorem Nm.put{K:ByteArray->Ot}(h:Nm W B n K){s:ByteArray}(hs:s.size<=maxLen)(x:Ot)(hn:n<maxLen):∃W',(Instr.mapUpdate 86 (.map (some B)) (.string s) (ov x)).run prog W=.ok () W'/\Nm W' B (n+1) (Gh K s x)/\W.grownBy W' (some B):=by
 obtain⟨D,h1,h2⟩:=h;obtain⟨W',h3,h4,h5⟩:=h1.update Gp z4W hn (Gc hs) (z4V x);refine⟨W',h3,⟨_,h4,fun t=> ?_⟩,h5⟩;unfold Gh;by_cases e:t=s
 ·subst e
  rw[if_pos rfl,Maps.atKey_put_same h1.isMap (Lg _)]
 ·rw[if_neg e,Maps.atKey_put_other (fun h=>e (z0p h)),h2 t]
theorem Nm.lt{W:World}{B n:Nat}{K:ByteArray->Ot}(h:Nm W B n K):B<W.heap.size:=by
 obtain⟨D,h1,_⟩:=h;exact h1.lt
theorem z4X(K:ByteArray->Ot)(t:RT):∀(l:List RT) (x:Ot),ofS K x (l++[t])=Gg (ofS K x l) (ofT K t)
 |[],x=>by rw[List.nil_append,ofS,ofS,ofS]
 |a::r,x=>by rw[List.cons_append,ofS,ofS,z4X K t r]
theorem z4Y(K:ByteArray->Ot)(t:RT):∀(l:List RT) (x:Ot),ofA K x (l++[t])=Jl (ofA K x l) (ofT K t)
 |[],x=>by rw[List.nil_append,ofA,ofA,ofA]
 |a::r,x=>by rw[List.cons_append,ofA,ofA,z4Y K t r]
theorem y2P(K:ByteArray->Ot)(x:Ot)(s:List RT)(j:Nat)(hj:j<s.length):ofS K x (s.take (j+1))=Gg (ofS K x (s.take j)) (ofT K s[j]):=by
 rw[show s.take (j+1)=s.take j++[s[j]] by simp,z4X]
theorem y2Q(K:ByteArray->Ot)(x:Ot)(s:List RT)(j:Nat)(hj:j<s.length):ofA K x (s.take (j+1))=Jl (ofA K x (s.take j)) (ofT K s[j]):=by
 rw[show s.take (j+1)=s.take j++[s[j]] by simp,z4Y]
theorem Uy{R:Nat}{a b c v0 v1 v2:Value}{t:TypeId}(h:W.heap[R]? =some (.cells #[a,b,c] t)):(((W.setCell ⟨R,0,none⟩ v0).setCell ⟨R,1,none⟩ v1).setCell ⟨R,2,none⟩ v2).heap[R]? =some (.cells #[v0,v1,v2] t):=Qy (Qy (Qy h 0 _) 1 _) 2 _
theorem z4Z{w w4 W':World}(h:Hid (Below w.heap.size w W)/\Hid (W.heap[w.heap.size]? =some (.cells #[.bool false,.bool false,.bool false] 47))/\Hid (W.heap[w.heap.size+1]? =some (.cells #[.bool x1,.bool x2,.bool x3] 47))/\W.cell? ⟨w.heap.size+1,0,none⟩=some (.bool x1)/\W.cell? ⟨w.heap.size+1,1,none⟩=some (.bool x2)/\W.cell? ⟨w.heap.size+1,2,none⟩=some (.bool x3)/\W.cell? ⟨w4.heap.size,0,none⟩=some (.bool y1)/\W.cell? ⟨w4.heap.size,1,none⟩=some (.bool y2)/\W.cell? ⟨w4.heap.size,2,none⟩=some (.bool y3))(hb:Below W.heap.size W W'):Hid (Below w.heap.size w W')/\Hid (W'.heap[w.heap.size]? =some (.cells #[.bool false,.bool false,.bool false] 47))/\Hid (W'.heap[w.heap.size+1]? =some (.cells #[.bool x1,.bool x2,.bool x3] 47))/\W'.cell? ⟨w.heap.size+1,0,none⟩=some (.bool x1)/\W'.cell? ⟨w.heap.size+1,1,none⟩=some (.bool x2)/\W'.cell? ⟨w.heap.size+1,2,none⟩=some (.bool x3)/\W'.cell? ⟨w4.heap.size,0,none⟩=some (.bool y1)/\W'.cell? ⟨w4.heap.size,1,none⟩=some (.bool y2)/\W'.cell? ⟨w4.heap.size,2,none⟩=some (.bool y3):=by
 obtain⟨h1,h2,h3,z0,z1,z2,z3,z4,z5⟩:=h;have e:∀(a:Addr) (u:Value),W.cell? a=some u->W'.cell? a=some u:=fun a u h=>(hb.cell (p:=a) (World.block_lt_of_cell? W _ h)).trans h
 exact⟨hid (h1.out.trans (hb.mono h1.out.size)),hid ((hb.block _ (Qz h2.out)).trans h2.out),hid ((hb.block _ (Qz h3.out)).trans h3.out),e _ _ z0,e _ _ z1,e _ _ z2,e _ _ z3,e _ _ z4,e _ _ z5⟩
theorem y2R(W:World)(a b c:Addr)(x y z:Value):(((W.setCell a x).setCell b y).setCell c z).drew=((W.drew.setCell a x).setCell b y).setCell c z:=rfl
theorem y2S{q:Bool}(h:q=suc (y1,y2,y3)):Gg (x1,x2,x3) (y1,y2,y3)=(x1&&y1,x2&&q||x1&&y2,x3||(x1||x2)&&y3):=by rw[h];rfl
theorem y2T(B nn:Nat)(K:ByteArray->Ot)(T:ByteArray)(a b c d:Int)(so:Option Addr)(n cap:Nat)(p:Int)(w:World)(hM:Nm w B nn K)(hT:T.size<=maxLen):Calls prog 58 #[.map (some B),.agg #[.int .i64 5,.string T,.int .u64 a,.int .u64 b,.int .u64 c,.int .u64 d,.slice so n cap,.int .i64 p]] w fun e w'=>e=.returned (ov (K T))/\Hid (Below w.heap.size w w'):=by
 have HB:Hid (∀o1 o2:Obj,Below w.heap.size w ((w.alloc o1).alloc o2)):=fun o1 o2=>((Below.refl _ w).alloc L0q o1).alloc (by simp) o2
 have hL:=((hM.kept (World.grownBy_alloc w (.cells #[.int .i64 5,.string T,.int .u64 a,.int .u64 b,.int .u64 c,.int .u64 d,.slice so n cap,.int .i64 p] 58) none) (by simp)).kept (World.grownBy_alloc _ (.cells #[.bool false,.bool false,.bool false] 47) none) (by simp)).look hT;obtain⟨⟨x1,x2,x3⟩,hx⟩:∃x,x=K T:=⟨_,rfl⟩;rw[<-hx]at hL ⊢;dsimp only[ov]at hL;clear hx hM;go_enter func58,ntmps58
 go_wp2_with fail
 refine bodyPost_ret (v:=.agg #[.bool x1,.bool x2,.bool x3]) (by simp[results,Tryz.results58,go_sem]) rfl ?_;exact⟨rfl,hid (HB.out _ _)⟩
theorem y2U(m:Option Nat)(T:ByteArray)(a b c d:Int)(so:Option Addr)(n cap:Nat)(p:Int)(w:World):Calls prog 58 #[.map m,.agg #[.int .i64 3,.string T,.int .u64 a,.int .u64 b,.int .u64 c,.int .u64 d,.slice so n cap,.int .i64 p]] w fun e w'=>e=.returned (ov (if zc a b c d then(false,false,true)else(false,true,true)))/\Hid (Below w.heap.size w w'):=by
 have HB:Hid (∀o1 o2:Obj,Below w.heap.size w ((w.alloc o1).alloc o2)):=fun o1 o2=>((Below.refl _ w).alloc L0q o1).alloc (by simp) o2
 have e3:∀w:World,(Op.equalIn 10000 51 (.agg #[.int .u64 a,.int .u64 b,.int .u64 c,.int .u64 d]) (.agg #[.int .u64 0,.int .u64 0,.int .u64 0,.int .u64 0])).run prog w=.ok (zc a b c d) w:=fun w=>Sg 9998 w a b c d 0 0 0 0
 cases hz:zc a b c d with
 |true=>
  rw[hz]at e3;clear hz;go_enter func58,ntmps58
  go_wp2_with fail
  refine bodyPost_ret (v:=.agg #[.bool false,.bool false,.bool true]) (by simp[results,Tryz.results58,go_sem]) rfl ?_;exact⟨rfl,hid (HB.out _ _)⟩
 |false=>
  rw[hz]at e3;clear hz;go_enter func58,ntmps58
  go_wp2_with fail
  refine bodyPost_ret (v:=.agg #[.bool false,.bool true,.bool true]) (by simp[results,Tryz.results58,go_sem]) rfl ?_;exact⟨rfl,hid (HB.out _ _)⟩
theorem y2V(B:Nat)(K:ByteArray->Ot)(so:Option Addr)(n cap:Nat)(s:List RT)(w:World)(hn:n<=9223372036854775807)(HN:Hid (n=s.length))
  (HC:Hid (∀j (hj:j<s.length),∃g o,so=some ⟨g,o,none⟩/\g<w.heap.size/\∃k1 T1 a1 b1 c1 d1 so1 n1 cap1 p1,Rc w g (o+j*8) k1 T1 a1 b1 c1 d1 (.slice so1 n1 cap1) p1/\
    ∀W:World,Below w.heap.size w W->Calls prog 58 #[.map (some B),.agg (r8 k1 T1 a1 b1 c1 d1 so1 n1 cap1 p1).toArray] W fun e w'=>e=.returned (ov (ofT K s[j]))/\Hid (Below W.heap.size W w'))):
  Calls prog 85 #[.map (some B),.slice so n cap] w fun e w'=>e=.returned (ov (ofS K (true,false,false) s))/\Hid (Below w.heap.size w w'):=by
 obtain⟨W1,hW1⟩:∃W1,W1=(w.alloc (.cells #[.bool false,.bool false,.bool false] 47)).alloc (.cells #[.bool true,.bool false,.bool false] 47):=⟨_,rfl⟩;have HB1:Hid (Below w.heap.size w W1):=by rw[hW1];exact((Below.refl _ w).alloc L0q _).alloc (by simp) _
 have HR1:Hid (W1.heap[w.heap.size]? =some (.cells #[.bool false,.bool false,.bool false] 47)):=by rw[hW1];exact(Below.heap_alloc _ _ _ (by simp)).trans (Qq w _ rfl)
 have HA1:Hid (W1.heap[w.heap.size+1]? =some (.cells #[.bool true,.bool false,.bool false] 47)):=by rw[hW1];exact Qq _ _ (by simp)
 have HW1:=hid hW1;clear hW1;go_enter func85,ntmps85
 go_wp2_with fail
 rw[<-HW1.out];clear HW1
 go_loopw [12] (fun i wr=>∃j:Nat,i=.int .i64 j/\j<=n/\Hid (Below w.heap.size w wr)/\Hid (wr.heap[w.heap.size]? =some (.cells #[.bool false,.bool false,.bool false] 47))/\∃x1 x2 x3:Bool,Hid ((x1,x2,x3)=ofS K (true,false,false) (s.take j))/\Hid (wr.heap[w.heap.size+1]? =some (.cells #[.bool x1,.bool x2,.bool x3] 47))) (fun i _=>n-(intOf i).toNat)
 case atStart=>exact⟨0,rfl,Nat.zero_le _,HB1,HR1,_,_,_,hid (by rw[List.take_zero,ofS]),HA1⟩
 case round=>
  obtain⟨j,rfl,hj,HBr,HRr,x1,x2,x3,HX,HAr⟩:=hrel;by_cases hjn:j<n
  ·have hjI:(j:Int)<(n:Int):=by omega
   have a0:decide ((j:Int)<(n:Int))=true:=by simp;omega
   have hjs:j<s.length:=by rw[<-HN.out];exact hjn
   obtain⟨g,o,rfl,hg,k1,T1,a1,b1,c1,d1,so1,n1,cap1,p1,hrc,hcall⟩:=HC.out j hjs;obtain⟨z0,z1,z2,z3,z4,z5,z6,z7⟩:=hrc.below HBr.out hg;have hgl:g<wr.heap.size:=World.block_lt_of_cell? wr _ z0;obtain⟨⟨y1,y2,y3⟩,hy⟩:∃y,y=ofT K s[j]:=⟨_,rfl⟩;have hbp:Below w.heap.size w (wr.alloc (.cells #[.int .i64 k1,.string T1,.int .u64 a1,.int .u64 b1,.int .u64 c1,.int .u64 d1,.slice so1 n1 cap1,.int .i64 p1] 58)):=HBr.out.alloc HBr.out.size _;have hbq:=(Below.refl _ wr).alloc L0q (.cells #[.int .i64 k1,.string T1,.int .u64 a1,.int .u64 b1,.int .u64 c1,.int .u64 d1,.slice so1 n1 cap1,.int .i64 p1] 58);have HRp:=hid ((hbq.block _ (Qz HRr.out)).trans HRr.out);have HAp:=hid ((hbq.block _ (Qz HAr.out)).trans HAr.out);have HBp:=hid hbp;have HS:=hid (hcall _ hbp);rw[<-hy]at HS;have HY:=hid hy;clear hcall hrc hy hbp hbq;dsimp only[r8,ov]at HS
   go_wp2_with(first
    |(go_at_call 58;refine HS.out.mono ?_;rintro e w4 ⟨rfl,HB4⟩))
   have HBw4:=hid (HBp.out.trans (HB4.out.mono HBp.out.size));have HR4:=hid ((HB4.out.block _ (Qz HRp.out)).trans HRp.out);have HA4:=hid ((HB4.out.block _ (Qz HAp.out)).trans HAp.out);clear HS HB4 z0 z1 z2 z3 z4 z5 z6 z7 HRr HAr HBr hgl HBp HRp HAp;obtain⟨q,hq⟩:∃q,q=suc (y1,y2,y3):=⟨_,rfl⟩;have HSn:Hid (∀W:World,Calls prog 142 #[.agg #[.bool y1,.bool y2,.bool y3]] W fun e w'=>e=.returned (.bool q)/\Hid (Below W.heap.size W w')):=fun W=>by rw[hq];exact Lc y1 y2 y3 W
   have HSa:Hid (∀W:World,Calls prog 142 #[.agg #[.bool x1,.bool x2,.bool x3]] W fun e w'=>e=.returned (.bool (x1||x2))/\Hid (Below W.heap.size W w')):=fun W=>Lc x1 x2 x3 W
   have HQ:=hid hq;clear hq;have S0:(fun W:World=>Hid (Below w.heap.size w W)/\Hid (W.heap[w.heap.size]? =some (.cells #[.bool false,.bool false,.bool false] 47))/\Hid (W.heap[w.heap.size+1]? =some (.cells #[.bool x1,.bool x2,.bool x3] 47))/\W.cell? ⟨w.heap.size+1,0,none⟩=some (.bool x1)/\W.cell? ⟨w.heap.size+1,1,none⟩=some (.bool x2)/\W.cell? ⟨w.heap.size+1,2,none⟩=some (.bool x3)/\W.cell? ⟨w4.heap.size,0,none⟩=some (.bool y1)/\W.cell? ⟨w4.heap.size,1,none⟩=some (.bool y2)/\W.cell? ⟨w4.heap.size,2,none⟩=some (.bool y3)) (w4.alloc (.cells #[.bool y1,.bool y2,.bool y3] 47)).drew:=by
    have hb:=(Below.refl _ w4).alloc L0q (.cells #[.bool y1,.bool y2,.bool y3] 47);have h1:=(hb.block _ (Qz HA4.out)).trans HA4.out;obtain⟨⟨t0,t1,t2⟩,_⟩:=Zk h1;obtain⟨⟨u0,u1,u2⟩,_⟩:=Zk (Qq w4 (.cells #[.bool y1,.bool y2,.bool y3] 47) rfl);exact⟨hid (HBw4.out.trans (hb.mono HBw4.out.size)).drew,hid ((hb.block _ (Qz HR4.out)).trans HR4.out),hid h1,t0,t1,t2,u0,u1,u2⟩
   clear HBw4 HR4 HA4;cases x1<;>cases x2<;>cases x3<;>cases q<;>(
    simp only[Bool.or_false,Bool.or_true]at HSa;refine Vw 31 (fun W:World=>Hid (Below w.heap.size w W)/\Hid (W.heap[w.heap.size]? =some (.cells #[.bool false,.bool false,.bool false] 47))/\Hid (W.heap[w.heap.size+1]? =some (.cells #[.bool _,.bool _,.bool _] 47))/\W.cell? ⟨w.heap.size+1,0,none⟩=some (.bool _)/\W.cell? ⟨w.heap.size+1,1,none⟩=some (.bool _)/\W.cell? ⟨w.heap.size+1,2,none⟩=some (.bool _)/\W.cell? ⟨w4.heap.size,0,none⟩=some (.bool y1)/\W.cell? ⟨w4.heap.size,1,none⟩=some (.bool y2)/\W.cell? ⟨w4.heap.size,2,none⟩=some (.bool y3)) (by kernel_rfl) S0 (fun hHeld=> ?_);refine Qx 0 hHeld ?_;refine Qx 1 hHeld ?_;refine Qx 2 hHeld ?_;refine Qx 3 hHeld ?_;refine Qx 4 hHeld ?_;refine Qx 5 hHeld ?_;refine Qx 6 hHeld ?_;refine Qx 7 hHeld ?_;refine Qx 8 hHeld ?_;refine Qx 9 hHeld ?_;refine Qx 20 hHeld ?_;refine Qx 21 hHeld ?_
    first
     |(refine Kz (i:=10) (oi:={dst:=Option.some 29,op:=Go.Op.call {callee:=Go.Callee.value (Go.Operand.func 142),args:=#[Go.Operand.tmp 28],argTypes:=#[47]},type:=4,pos:="nullable.go:104",after:=#[{on:=9,ground:=Go.Ground.data},{on:=8,ground:=Go.Ground.chain},{on:=8,ground:=Go.Ground.guard}],guard:=Option.some (8,Bool.true)}) (v:=undef) rfl (by kernel_rfl) (by kernel_rfl) (by kernel_rfl) (fun _ _ _ h=>h) (Or.inr ⟨by rfl,rfl⟩) hHeld ?_)
     |(refine Zy 10 (fun K hK=> ?_);go_simp;refine(HSn.out _).mono ?_;rintro e w5 ⟨rfl,HB5⟩;go_simp;replace hHeld:=z4Z hHeld HB5.out;refine hK.out _ _ hHeld ?_;clear hK K HB5)
    (try simp only[Act.put,List.setIfInBounds_toArray,List.set_cons_zero,List.set_cons_succ])
    refine Qx 11 hHeld ?_;refine Qx 12 hHeld ?_;refine Qx 13 hHeld ?_;refine Qx 14 hHeld ?_;refine Qx 15 hHeld ?_;refine Qx 16 hHeld ?_;refine Qx 17 hHeld ?_;refine Qx 18 hHeld ?_;refine Qx 19 hHeld ?_;refine Qx 22 hHeld ?_;refine Qx 23 hHeld ?_
    first
     |(refine Kz (i:=24) (oi:={dst:=Option.some 43,op:=Go.Op.call {callee:=Go.Callee.value (Go.Operand.func 142),args:=#[Go.Operand.tmp 42],argTypes:=#[47]},type:=4,pos:="nullable.go:105",after:=#[{on:=23,ground:=Go.Ground.data},{on:=22,ground:=Go.Ground.chain},{on:=22,ground:=Go.Ground.guard}],guard:=Option.some (22,Bool.false)}) (v:=undef) rfl (by kernel_rfl) (by kernel_rfl) (by kernel_rfl) (fun _ _ _ h=>h) (Or.inr ⟨by rfl,rfl⟩) hHeld ?_)
     |(refine Zy 24 (fun K hK=> ?_);go_simp;refine(HSa.out _).mono ?_;rintro e w5 ⟨rfl,HB5⟩;go_simp;replace hHeld:=z4Z hHeld HB5.out;refine hK.out _ _ hHeld ?_;clear hK K HB5)
    (try simp only[Act.put,List.setIfInBounds_toArray,List.set_cons_zero,List.set_cons_succ])
    refine Qx 25 hHeld ?_;refine Qx 26 hHeld ?_;refine Qx 27 hHeld ?_;refine Qx 28 hHeld ?_;refine Qx 29 hHeld ?_;refine Qx 30 hHeld ?_;refine Kq (fun K hK=> ?_);obtain⟨HBq,HRq,HAq,-,-,-,-,-,-⟩:=hHeld
    first
     |obtain⟨⟨t0,t1,t2⟩,f0,f1,f2⟩:=Zk (w:=w4.alloc (.cells #[.bool y1,.bool y2,.bool y3] 47)) HAq.out
     |obtain⟨⟨t0,t1,t2⟩,f0,f1,f2⟩:=Zk HAq.out
    have la:=Qz HAq.out
    go_simp
    (try rw[y2R])
    refine hK.out _ _ ?_;clear hK K t0 t1 t2 f0 f1 f2
    go_wp2_with fail
    go_roundw
    case rel=>exact⟨j+1,by go_num,by omega,hid (HBq.out.grown (Yz _ _ _ _ _) HBq.out.size (fun g e=>by have:=Option.some.inj e;omega)),hid (((Yz _ _ _ _ _).block _ (Qz HRq.out) (fun e=>by have:=Option.some.inj e;omega)).trans HRq.out),_,_,_,hid (by rw[y2P K _ s j hjs,<-HX.out,<-HY.out,y2S HQ.out];simp),hid (Uy HAq.out)⟩
    case measure=>simp[intOf];omega)
  ·have a0:decide ((j:Int)<(n:Int))=false:=by simp;omega
   have hjn':s.take j=s:=List.take_of_length_le (by rw[<-HN.out];omega);rw[hjn']at HX;obtain⟨⟨t0,t1,t2⟩,_⟩:=Zk HAr.out;obtain⟨⟨u0,u1,u2⟩,f0,f1,f2⟩:=Zk HRr.out;have la:=Qz HAr.out;have lr:=Qz HRr.out;have HBl:=hid (HBr.out.grown (Yz wr w.heap.size (.bool x1) (.bool x2) (.bool x3)) HBr.out.size (fun g e=>by have:=Option.some.inj e;omega));obtain⟨⟨r0,r1,r2⟩,_⟩:=Zk (Uy (v0:=.bool x1) (v1:=.bool x2) (v2:=.bool x3) HRr.out);clear hjn' HAr HRr HBr
   go_wp2_with fail
   refine bodyPost_ret (v:=.agg #[.bool x1,.bool x2,.bool x3]) (by simp[results,Tryz.results85,go_sem,r0,r1,r2]) rfl ?_;exact⟨by rw[<-HX.out],HBl⟩
theorem y2W{w w4:World}(HB:Hid (Below w.heap.size w w4))(HR:Hid (w4.heap[w.heap.size]? =some (.cells #[.bool false,.bool false,.bool false] 47)))(HA:Hid (w4.heap[w.heap.size+1]? =some (.cells #[.bool x1,.bool x2,.bool x3] 47))):
  (Hid (Below w.heap.size w (w4.alloc (.cells #[.bool y1,.bool y2,.bool y3] 47)))/\Hid ((w4.alloc (.cells #[.bool y1,.bool y2,.bool y3] 47)).heap[w.heap.size]? =some (.cells #[.bool false,.bool false,.bool false] 47))/\Hid ((w4.alloc (.cells #[.bool y1,.bool y2,.bool y3] 47)).heap[w.heap.size+1]? =some (.cells #[.bool x1,.bool x2,.bool x3] 47)))/\
  w.heap.size+1<(w4.alloc (.cells #[.bool y1,.bool y2,.bool y3] 47)).heap.size/\w4.heap.size<(w4.alloc (.cells #[.bool y1,.bool y2,.bool y3] 47)).heap.size/\
  ((w4.alloc (.cells #[.bool y1,.bool y2,.bool y3] 47)).cell? ⟨w.heap.size+1,0,none⟩=some (.bool x1)/\(w4.alloc (.cells #[.bool y1,.bool y2,.bool y3] 47)).cell? ⟨w.heap.size+1,1,none⟩=some (.bool x2)/\(w4.alloc (.cells #[.bool y1,.bool y2,.bool y3] 47)).cell? ⟨w.heap.size+1,2,none⟩=some (.bool x3))/\
  ((w4.alloc (.cells #[.bool y1,.bool y2,.bool y3] 47)).frozen? ⟨w.heap.size+1,0,none⟩=false/\(w4.alloc (.cells #[.bool y1,.bool y2,.bool y3] 47)).frozen? ⟨w.heap.size+1,1,none⟩=false/\(w4.alloc (.cells #[.bool y1,.bool y2,.bool y3] 47)).frozen? ⟨w.heap.size+1,2,none⟩=false)/\
  (w4.alloc (.cells #[.bool y1,.bool y2,.bool y3] 47)).cell? ⟨w4.heap.size,0,none⟩=some (.bool y1)/\(w4.alloc (.cells #[.bool y1,.bool y2,.bool y3] 47)).cell? ⟨w4.heap.size,1,none⟩=some (.bool y2)/\(w4.alloc (.cells #[.bool y1,.bool y2,.bool y3] 47)).cell? ⟨w4.heap.size,2,none⟩=some (.bool y3):=by
 have hb:=(Below.refl _ w4).alloc L0q (.cells #[.bool y1,.bool y2,.bool y3] 47);have h1:=(hb.block _ (Qz HA.out)).trans HA.out;obtain⟨t,f⟩:=Zk h1;obtain⟨u,_⟩:=Zk (Qq w4 (.cells #[.bool y1,.bool y2,.bool y3] 47) rfl);exact⟨⟨hid (HB.out.trans (hb.mono HB.out.size)),hid ((hb.block _ (Qz HR.out)).trans HR.out),hid h1⟩,Qz h1,by simp,t,f,u⟩
theorem y2X(B:Nat)(K:ByteArray->Ot)(so:Option Addr)(n cap:Nat)(s:List RT)(w:World)(hn:n<=9223372036854775807)(HN:Hid (n=s.length))
  (HC:Hid (∀j (hj:j<s.length),∃g o,so=some ⟨g,o,none⟩/\g<w.heap.size/\∃k1 T1 a1 b1 c1 d1 so1 n1 cap1 p1,Rc w g (o+j*8) k1 T1 a1 b1 c1 d1 (.slice so1 n1 cap1) p1/\
    ∀W:World,Below w.heap.size w W->Calls prog 58 #[.map (some B),.agg (r8 k1 T1 a1 b1 c1 d1 so1 n1 cap1 p1).toArray] W fun e w'=>e=.returned (ov (ofT K s[j]))/\Hid (Below W.heap.size W w'))):
  Calls prog 86 #[.map (some B),.slice so n cap] w fun e w'=>e=.returned (ov (ofA K (false,false,true) s))/\Hid (Below w.heap.size w w'):=by
 obtain⟨W1,hW1⟩:∃W1,W1=(w.alloc (.cells #[.bool false,.bool false,.bool false] 47)).alloc (.cells #[.bool false,.bool false,.bool true] 47):=⟨_,rfl⟩;have HB1:Hid (Below w.heap.size w W1):=by rw[hW1];exact((Below.refl _ w).alloc L0q _).alloc (by simp) _
 have HR1:Hid (W1.heap[w.heap.size]? =some (.cells #[.bool false,.bool false,.bool false] 47)):=by rw[hW1];exact(Below.heap_alloc _ _ _ (by simp)).trans (Qq w _ rfl)
 have HA1:Hid (W1.heap[w.heap.size+1]? =some (.cells #[.bool false,.bool false,.bool true] 47)):=by rw[hW1];exact Qq _ _ (by simp)
 have HW1:=hid hW1;clear hW1;go_enter func86,ntmps86
 go_wp2_with fail
 rw[<-HW1.out];clear HW1
 go_loopw [12] (fun i wr=>∃j:Nat,i=.int .i64 j/\j<=n/\Hid (Below w.heap.size w wr)/\Hid (wr.heap[w.heap.size]? =some (.cells #[.bool false,.bool false,.bool false] 47))/\∃x1 x2 x3:Bool,Hid ((x1,x2,x3)=ofA K (false,false,true) (s.take j))/\Hid (wr.heap[w.heap.size+1]? =some (.cells #[.bool x1,.bool x2,.bool x3] 47))) (fun i _=>n-(intOf i).toNat)
 case atStart=>exact⟨0,rfl,Nat.zero_le _,HB1,HR1,_,_,_,hid (by rw[List.take_zero,ofA]),HA1⟩
 case round=>
  obtain⟨j,rfl,hj,HBr,HRr,x1,x2,x3,HX,HAr⟩:=hrel;by_cases hjn:j<n
  ·have hjI:(j:Int)<(n:Int):=by omega
   have a0:decide ((j:Int)<(n:Int))=true:=by simp;omega
   have hjs:j<s.length:=by rw[<-HN.out];exact hjn
   obtain⟨g,o,rfl,hg,k1,T1,a1,b1,c1,d1,so1,n1,cap1,p1,hrc,hcall⟩:=HC.out j hjs;obtain⟨z0,z1,z2,z3,z4,z5,z6,z7⟩:=hrc.below HBr.out hg;have hgl:g<wr.heap.size:=World.block_lt_of_cell? wr _ z0;obtain⟨⟨y1,y2,y3⟩,hy⟩:∃y,y=ofT K s[j]:=⟨_,rfl⟩;have hbp:Below w.heap.size w (wr.alloc (.cells #[.int .i64 k1,.string T1,.int .u64 a1,.int .u64 b1,.int .u64 c1,.int .u64 d1,.slice so1 n1 cap1,.int .i64 p1] 58)):=HBr.out.alloc HBr.out.size _;have hbq:=(Below.refl _ wr).alloc L0q (.cells #[.int .i64 k1,.string T1,.int .u64 a1,.int .u64 b1,.int .u64 c1,.int .u64 d1,.slice so1 n1 cap1,.int .i64 p1] 58);have HRp:=hid ((hbq.block _ (Qz HRr.out)).trans HRr.out);have HAp:=hid ((hbq.block _ (Qz HAr.out)).trans HAr.out);have HBp:=hid hbp;have HS:=hid (hcall _ hbp);rw[<-hy]at HS;have HY:=hid hy;clear hcall hrc hy hbp hbq;dsimp only[r8,ov]at HS;cases x1<;>cases x2<;>cases x3<;>(
    go_wp2_with(first
     |(go_at_call 58;refine HS.out.mono ?_;rintro e w4 ⟨rfl,HB4⟩;have HBw4:=hid (HBp.out.trans (HB4.out.mono HBp.out.size));have HR4:=hid ((HB4.out.block _ (Qz HRp.out)).trans HRp.out);have HA4:=hid ((HB4.out.block _ (Qz HAp.out)).trans HAp.out);obtain⟨⟨HBq,HRq,HAq⟩,la,ln,⟨t0,t1,t2⟩,⟨f0,f1,f2⟩,u0,u1,u2⟩:=y2W (y1:=y1) (y2:=y2) (y3:=y3) HBw4 HR4 HA4;clear HS HB4 HRr HAr HBr HBp HRp HAp HBw4 HR4 HA4))
    go_roundw
    case rel=>exact⟨j+1,by go_num,by omega,hid (HBq.out.grown (Yz _ _ _ _ _) HBq.out.size (fun g e=>by have:=Option.some.inj e;omega)),hid (((Yz _ _ _ _ _).block _ (Qz HRq.out) (fun e=>by have:=Option.some.inj e;omega)).trans HRq.out),_,_,_,hid (by rw[y2Q K _ s j hjs,<-HX.out,<-HY.out];simp[Jl]),hid (Uy HAq.out)⟩
    case measure=>simp[intOf];omega)
  ·have a0:decide ((j:Int)<(n:Int))=false:=by simp;omega
   have hjn':s.take j=s:=List.take_of_length_le (by rw[<-HN.out];omega);rw[hjn']at HX;obtain⟨⟨t0,t1,t2⟩,_⟩:=Zk HAr.out;obtain⟨⟨u0,u1,u2⟩,f0,f1,f2⟩:=Zk HRr.out;have la:=Qz HAr.out;have lr:=Qz HRr.out;have HBl:=hid (HBr.out.grown (Yz wr w.heap.size (.bool x1) (.bool x2) (.bool x3)) HBr.out.size (fun g e=>by have:=Option.some.inj e;omega));obtain⟨⟨r0,r1,r2⟩,_⟩:=Zk (Uy (v0:=.bool x1) (v1:=.bool x2) (v2:=.bool x3) HRr.out);clear hjn' HAr HRr HBr
   go_wp2_with fail
   refine bodyPost_ret (v:=.agg #[.bool x1,.bool x2,.bool x3]) (by simp[results,Tryz.results86,go_sem,r0,r1,r2]) rfl ?_;exact⟨by rw[<-HX.out],HBl⟩
end Go.Proofs.YtgmcjddjdidpjaaGreatDoor
