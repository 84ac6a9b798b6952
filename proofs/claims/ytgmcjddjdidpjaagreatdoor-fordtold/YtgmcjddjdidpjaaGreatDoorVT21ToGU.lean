/- Lemmas for the last text. Conditions: those that each names. -/
import Derived.Test.YtgmcjddjdidpjaaGreatDoorVT15ToT16
import Derived.Test.YtgmcjddjdidpjaaGreatDoorVT17ToT18
import Derived.Test.YtgmcjddjdidpjaaGreatDoorVT20ToT6
import Derived.Test.YtgmcjddjdidpjaaGreatDoorVO6ToO16
import Derived.Test.YtgmcjddjdidpjaaGreatDoorVGPToT11
import Derived.Test.YtgmcjddjdidpjaaGreatDoorVPR2ToT12
set_option linter.unusedVariables false
set_option maxRecDepth 100000
set_option maxHeartbeats 8000000
namespace Go.Proofs.YtgmcjddjdidpjaaGreatDoor
open Go.Proofs.Tryz
open Go.RowKit Go.Shelf Go.Maps
variable {W:World}
theorem y5F{W':World}{rB o:Nat}{v:Value}(h:W.cell? ⟨rB,o,none⟩=some v)(hb:Below W.heap.size W W'):W'.cell? ⟨rB,o,none⟩=some v:=(hb.cell (p:=⟨rB,o,none⟩) (World.block_lt_of_cell? W _ h)).trans h
noncomputable def kG (rs:List Rr):ByteArray->Ot:=itr rs (Classical.epsilon fun m=>Yv (itr rs m) rs)
theorem z6h{rs:List Rr}{m:Nat}(h:Yv (itr rs m) rs):itr rs m=kG rs:=y0L h (Classical.epsilon_spec (p:=fun m=>Yv (itr rs m) rs) ⟨m,h⟩)
noncomputable def bgU (rs:List Rr):List (List Int):=rs.map (bgR rs (kG rs))
theorem Zw.to{X:Option (Int ⊕ (Int×Int))}{S:Nat}{w w':World}{v:Value}(h:Zw X S w v)(hb:Below w.heap.size w w'):Zw X S w' v:=by
 match X,h with
 |none,h=>exact h
 |some (.inl c),h=>exact h
 |some (.inr q),⟨g,h1,h2,h3⟩=>exact⟨g,h1,h2,(hb.block g (Qz h3)).trans h3⟩
theorem y5G(rs:List Rr):(bgU rs).length=rs.length:=List.length_map _
noncomputable def bkB (rs:List Rr) (i:Nat):Bool:= @decide (Bck (bgU rs) i) (Classical.propDecidable _)
theorem z6i{rs:List Rr}{i:Nat}:bkB rs i=true↔Bck (bgU rs) i:= @decide_eq_true_iff _ (Classical.propDecidable _)
theorem z6j{rs:List Rr}{i:Nat}(h:¬Bck (bgU rs) i):bkB rs i=false:=by
 cases e:bkB rs i with
 |true=>exact absurd (z6i.1 e) h
 |false=>rfl
noncomputable def lfG (rs:List Rr):Option Int:=((List.range rs.length).find? (bkB rs)).map fun i=>((rs[i]?).map (·.2.2)).getD 0
theorem y5H{rs:List Rr}{j:Nat}(hj:j<rs.length)(h:Bck (bgU rs) j)(hn:∀i,i<j->¬Bck (bgU rs) i):lfG rs=some rs[j].2.2:=by
 have e:(List.range rs.length).find? (bkB rs)=some j:=by
  rw[List.find?_range_eq_some];exact⟨z6i.2 h,List.mem_range.2 hj,fun i hi=>by rw[z6j (hn i hi)];rfl⟩
 unfold lfG;rw[e];simp[hj]
theorem z6k{rs:List Rr}(hn:∀i,i<rs.length->¬Bck (bgU rs) i):lfG rs=none:=by
 have e:(List.range rs.length).find? (bkB rs)=none:=by
  rw[List.find?_eq_none];exact fun i hi=>by rw[z6j (hn i (List.mem_range.1 hi))];simp
 unfold lfG;rw[e];rfl
noncomputable def soZ (rs:List Rr) (X:Option (Int ⊕ (Int×Int))):Option (Int ⊕ (Int×Int)):=match X with
 |some x=>some x
 |none=>match flX (kG rs) rs with
  |some x=>some x
  |none=>(lfG rs).map fun p=>.inr (41,p)
def SbP(rs:List Rr)(X:Option (Int ⊕ (Int×Int)))(W:World)(e:Ending)(w':World):Prop:=Below W.heap.size W w'/\
 ((soZ rs X≠none/\∃v,e=.returned (.tuple #[.slice none 0 0,v])/\Zw (soZ rs X) W.heap.size w' v)∨
  (soZ rs X=none/\X=none/\∃ub vs,e=.returned (.tuple #[.slice (some ⟨ub,0,none⟩) rs.length rs.length,.nilIface])/\vs.length=rs.length/\Uw W ub rs.length vs (bgU rs) w'))
theorem Uw.from{w0 w:World}{ub n:Nat}{vs:List Value}{us:List (List Int)}(h:Uw w ub n vs us W)(hb:Below w0.heap.size w0 w):Uw w0 ub n vs us W:=⟨h.blk,h.len,fun i h1 h2=>z4C (h.row i h1 h2) hb.size,hb.trans (h.be.mono hb.size),Nat.le_trans hb.size h.lo⟩
theorem y5I{W':World}{uv:Value}{us:List (List Int)}(h:UsM W W.heap.size uv us)(hb:Below W.heap.size W W'):UsM W' W'.heap.size uv us:=by
 obtain⟨so,cap,h1,h2,h3⟩:=h;refine⟨so,cap,h1,h2,fun i hi=> ?_⟩;obtain⟨g,o,rv,e1,e2,e3,so2,cap2,f1,f2,f3⟩:=h3 i hi;refine⟨g,o,rv,e1,Nat.lt_of_lt_of_le e2 hb.size,(hb.cell (p:=⟨g,o+i,none⟩) e2).trans e3,so2,cap2,f1,f2,fun j hj=> ?_⟩;obtain⟨g2,o2,q1,q2,q3⟩:=f3 j hj;exact⟨g2,o2,q1,Nat.lt_of_lt_of_le q2 hb.size,(hb.cell (p:=⟨g2,o2+j,none⟩) q2).trans q3⟩
theorem y5J{rs:List Rr}{K:ByteArray->Ot}{x:Rr}(hok:okT x.2.1=true):(bgR rs K x).length<=(rfT x.2.1).length:=by
 unfold bgR;refine Nat.le_trans (z4A _) ?_;rw[Ej,List.length_map];exact z0K _ hok
theorem y5K{rs:List Rr}(hok:okG rs=true)(hck:ckR rs=none):∀u∈bgU rs,∀x∈u,∃m:Nat,m<rs.length/\x=(m:Int):=fun u hu x hx=>by
 obtain⟨y,hy,rfl⟩:=List.mem_map.1 hu;exact y3U hok hck hy x hx
theorem y5L{rs:List Rr}(hok:okG rs=true)(hl:∀x∈rs,(rfT x.2.1).length<=8192):∀u∈bgU rs,u.length<=1048576:=fun u hu=>by
 obtain⟨y,hy,rfl⟩:=List.mem_map.1 hu;have h1:=y5J (rs:=rs) (K:=kG rs) (Nf hok y hy).2;have h2:=hl y hy;omega
theorem y5M(so:Option Addr)(n cap:Nat)(X:Option (Int ⊕ (Int×Int)))(w:World)
  (HC:Hid (∀W:World,Below w.heap.size w W->Calls prog 34 #[.agg #[.slice so n cap]] W fun e w'=>∃tt uu,e=.returned (.tuple #[.agg #[.slice none 0 0],.iface tt uu])/\Zw X W.heap.size w' (.iface tt uu)/\Below W.heap.size W w')):
  Calls prog 41 #[.agg #[.slice so n cap]] w fun e w'=>∃v,e=.returned (.tuple #[.slice none 0 0,v])/\Zw X w.heap.size w' v/\Below w.heap.size w w':=by
 obtain⟨W1,hW1⟩:∃W1,W1=w.alloc (.cells #[.slice so n cap] 24):=⟨_,rfl⟩;have hB1:Below w.heap.size w W1:=by rw[hW1];exact(Below.refl _ w).alloc L0q _
 have HS:=hid (HC.out W1 hB1);have HB1:=hid hB1;have HW1:=hid hW1;clear hW1 hB1 HC;go_enter func41,ntmps41
 go_wp2_with fail
 rw[<-HW1.out];refine HS.out.mono ?_;rintro e w2 ⟨tt,uu,rfl,hv,hb2⟩;have HV:=hid (hv.lo HB1.out.size);have HB2:=hid (HB1.out.trans (hb2.mono HB1.out.size));clear hv hb2 HS HW1 HB1
 go_wp2_with fail
 go_ret2
 have hb3:=(Below.refl _ w2).alloc L0q (.cells #[.slice none 0 0] 24);refine⟨_,rfl,?_,HB2.out.trans (hb3.mono HB2.out.size)⟩;exact Zw.to HV.out hb3
theorem y5N(so:Option Addr)(n cap:Nat)(rs:List Rr)(w:World)(h:Qg w w.heap.size so n rs)(hn:n<=1048576)(hX:CkX rs none)
  (HC:Hid (∀W:World,Below w.heap.size w W->Calls prog 34 #[.agg #[.slice so n cap]] W (BfP rs none W)))
  (HFl:Hid (∀(W:World) (so0:Option Addr) (cap0:Nat),Below w.heap.size w W->Qg W W.heap.size so0 n (bG rs (kG rs))->Calls prog 68 #[.agg #[.slice so n cap],.agg #[.slice so0 n cap0]] W fun e w'=>∃v,e=.returned v/\Zw (flX (kG rs) rs) W.heap.size w' v/\Below W.heap.size W w'))
  (HAb:Hid (∀(W:World) (so0:Option Addr) (cap0:Nat),Below w.heap.size w W->Qg W W.heap.size so0 n (bG rs (kG rs))->Calls prog 69 #[.agg #[.slice so n cap],.agg #[.slice so0 n cap0]] W fun e w'=>∃ub vs,e=.returned (.slice (some ⟨ub,0,none⟩) n n)/\vs.length=n/\Uw W ub n vs (bgU rs) w')):
  Calls prog 41 #[.agg #[.slice so n cap]] w (SbP rs none w):=by
 obtain⟨W1,hW1⟩:∃W1,W1=w.alloc (.cells #[.slice so n cap] 24):=⟨_,rfl⟩;have hB1:Below w.heap.size w W1:=by rw[hW1];exact(Below.refl _ w).alloc L0q _
 have HG1:Hid (W1.heap[w.heap.size]? =some (.cells #[.slice so n cap] 24)):=by rw[hW1];exact Qq w _ rfl
 have HS:=hid (HC.out W1 hB1);have HB1:=hid hB1;have HW1:=hid hW1;have HR:=hid h;have HNl:Hid (n=rs.length):=h.1;have HXx:=hid hX;clear hW1 hB1 HC h hX;go_enter func41,ntmps41
 go_wp2_with fail
 rw[<-HW1.out];refine HS.out.mono ?_;rintro e w2 ⟨hb2,hre⟩;rcases hre with⟨hx,_⟩|⟨_,so0,cap0,m,rfl,hfx,hrg⟩
 ·exact absurd rfl hx
 rw[<-HNl.out];rw[z6h hfx,<-HNl.out]at hrg;have HB2:=hid (HB1.out.trans (hb2.mono HB1.out.size));have HG2:=hid ((hb2.block _ (Qz HG1.out)).trans HG1.out);obtain⟨W3,hW3⟩:∃W3,W3=w2.alloc (.cells #[.slice so0 n cap0] 24):=⟨_,rfl⟩;have hb3:Below w2.heap.size w2 W3:=by rw[hW3];exact(Below.refl _ w2).alloc L0q _
 have HB3:=hid (HB2.out.trans (hb3.mono HB2.out.size));have HG3:=hid ((hb3.block _ (Qz HG2.out)).trans HG2.out);obtain⟨sB,hsB⟩:∃sB,sB=w2.heap.size:=⟨_,rfl⟩;have HS3:Hid (W3.heap[sB]? =some (.cells #[.slice so0 n cap0] 24)):=by rw[hW3,hsB];exact Qq _ _ rfl
 have hrg3:=(hrg.below hb3).upto hb3.size;have HFl3:=hid (HFl.out W3 so0 cap0 HB3.out hrg3);have HRg3:=hid hrg3;obtain⟨g2,_⟩:=Qk HG2.out;have lg2:=Qz HG2.out;have lg3:w.heap.size<w2.heap.size+1:=by omega
 have HW3:=hid hW3;clear HS HW1 HG1 HB1 hb2 hfx hrg hb3 hrg3 hW3 HFl
 go_wp2_with fail
 rw[<-HW3.out];refine HFl3.out.mono ?_;clear HFl3 HW3 g2 lg2 lg3;rintro e w3 ⟨v,rfl,hv,hb3⟩;have HB4:=hid (HB3.out.trans (hb3.mono HB3.out.size));have HG4:=hid ((hb3.block _ (Qz HG3.out)).trans HG3.out);have HS4:=hid ((hb3.block _ (Qz HS3.out)).trans HS3.out);have HRg4:=hid ((HRg3.out.below hb3).upto hb3.size);have HV:=hid (hv.lo HB3.out.size);rw[<-hsB];clear HB2 HB3 HG2 HG3 HS3 HRg3 hb3 hsB;cases hfl:flX (kG rs) rs with
 |some x=>
  have HZ:Hid (soZ rs none=some x):=by show _=_;unfold soZ;simp only;rw[hfl]
  rw[hfl]at hv HV;obtain⟨tt,uu,rfl⟩:=hv.shape (by simp);clear hv hfl HAb
  go_wp2_with fail
  go_ret2
  refine⟨HB4.out,.inl ⟨by rw[HZ.out];simp,_,rfl,?_⟩⟩;rw[HZ.out];exact HV.out
 |none=>
  have HFx:Hid (flX (kG rs) rs=none):=hfl;rw[hfl]at hv;obtain rfl:v=.nilIface:=hv;have HAb4:=hid (HAb.out w3 so0 cap0 HB4.out HRg4.out);obtain⟨g4,_⟩:=Qk HG4.out;have lg4:=Qz HG4.out;obtain⟨s4,_⟩:=Qk HS4.out;have ls4:=Qz HS4.out;clear hfl HAb HV HRg4
  go_wp2_with fail
  refine HAb4.out.mono ?_;clear HAb4 g4 lg4 s4 ls4;rintro e w4 ⟨ub,vs,rfl,hvs,hU⟩;have HVs:Hid (vs.length=n):=hvs;have HU:=hid hU;have HG5:=hid ((hU.be.block _ (Qz HG4.out)).trans HG4.out);have HB5:=hid (HB4.out.trans (hU.be.mono HB4.out.size));obtain⟨g5,_⟩:=Qk HG5.out;have lg5:=Qz HG5.out;have HUw:=hid (hU.from HB4.out);have HUm:=hid (y2t hU hvs (y5L HXx.out.1 HXx.out.2.2) hn);clear hvs hU HG4 HS4 HB4 HU
  go_wp2_with fail
  clear g5 lg5
  go_loopw [30] (fun i wr=>∃j:Nat,i=.int .i64 j/\j<=n/\Hid (Below w4.heap.size w4 wr)/\Hid (∀i,i<j->¬Bck (bgU rs) i)) (fun i _=>n-(intOf i).toNat)
  case atStart=>exact⟨0,rfl,Nat.zero_le _,Below.refl _ _,fun i h=>absurd h (by omega)⟩
  case round=>
   obtain⟨j,rfl,hj,HBj,HNj⟩:=hrel;by_cases hjn:j<n
   ·have hjI:(j:Int)<(n:Int):=by omega
    have a0:decide ((j:Int)<(n:Int))=true:=by simp;omega
    have hjs:j<rs.length:=by rw[<-HNl.out];exact hjn
    obtain⟨g,o,rfl,hg,k1,T1,a1,b1,c1,d1,so1,n1,cap1,p1,hrt,r0⟩:=HR.out.2.2 j hjs;have hbw:=HB5.out.trans (HBj.out.mono HB5.out.size);have hce:∀q,wr.cell? ⟨g,q,none⟩=w.cell? ⟨g,q,none⟩:=fun q=>hbw.cell (p:=⟨g,q,none⟩) hg
    simp only[<-hce]at r0;obtain⟨z0,z1,z2,z3,z4,z5,z6,z7,z8,z9⟩:=r0;have hgl:g<wr.heap.size:=World.block_lt_of_cell? wr _ z0;obtain⟨N0,hN0⟩:∃N0,N0=rs[j].1:=⟨_,rfl⟩;obtain⟨q1,hq1⟩:∃q1,q1=rs[j].2.2:=⟨_,rfl⟩;rw[<-hN0]at z0;rw[<-hq1]at z9;have HQ1:Hid (q1=rs[j].2.2):=hq1;obtain⟨W6,hW6⟩:∃W6,W6=wr.alloc (.cells #[.string N0,.int .i64 k1,.string T1,.int .u64 a1,.int .u64 b1,.int .u64 c1,.int .u64 d1,.slice so1 n1 cap1,.int .i64 p1,.int .i64 q1] 65):=⟨_,rfl⟩;have hb6:Below w4.heap.size w4 W6:=by rw[hW6];exact HBj.out.alloc HBj.out.size _
    have hR6:W6.heap[wr.heap.size]? =some (.cells #[.string N0,.int .i64 k1,.string T1,.int .u64 a1,.int .u64 b1,.int .u64 c1,.int .u64 d1,.slice so1 n1 cap1,.int .i64 p1,.int .i64 q1] 65):=by rw[hW6];exact Qq wr _ rfl
    have hUm6:UsM W6 W6.heap.size (.slice (some ⟨ub,0,none⟩) n n) (bgU rs):=y5I HUm.out hb6;have HBk:=hid (y5E (.slice (some ⟨ub,0,none⟩) n n) (bgU rs) n j W6 hUm6 (by rw[y5G];exact HNl.out.symm) (fun u hu x hx=>by rw[HNl.out];exact y5K HXx.out.1 HXx.out.2.1 u hu x hx) hn hjn);have HB6:=hid hb6;have HR6:=hid hR6;have HW6:=hid hW6;clear hce hN0 hq1 hrt hbw hb6 hR6 hUm6 hW6
    go_wp2_with fail
    rw[<-HW6.out];refine HBk.out.mono ?_;clear HBk HW6 z0 z1 z2 z3 z4 z5 z6 z7 z8 z9;rintro e w5 ⟨⟨rfl,hbk⟩|⟨rfl,hbk⟩,hb5⟩
    ·have hR5:=(hb5.block _ (Qz HR6.out)).trans HR6.out
     obtain⟨rB,hrB⟩:∃rB,rB=wr.heap.size:=⟨_,rfl⟩;rw[<-hrB]at hR5 ⊢;have HS0:Hid (w5.drew.cell? ⟨rB,9,none⟩=some (.int .i64 q1)):=(Qf hR5 9 _ rfl).1;have lr5:=Qz hR5;have hb4w:=HB5.out.trans ((HB6.out.trans (hb5.mono HB6.out.size)).mono HB5.out.size);have HBw:=hid hb4w;have hsz5:w.heap.size<=w5.heap.size:=hb4w.size;have HZ:Hid (soZ rs none=some (.inr (41,q1))):=by
      show _=_;unfold soZ;simp only;rw[HFx.out];simp only;rw[y5H hjs hbk HNj.out,<-HQ1.out];rfl
     clear hbk hb5 hrB hb4w hR5
     go_wp2_with fail
     refine Vw 99 (fun W:World=>W.cell? ⟨rB,9,none⟩=some (.int .i64 q1)) (by kernel_rfl) HS0.out (fun hHeld=> ?_);refine Qx 0 hHeld ?_;refine Qx 1 hHeld ?_;refine Qx 2 hHeld ?_;refine Qx 5 hHeld ?_
     (refine Zy 3 (fun K hK=> ?_);go_simp;replace hHeld:=y5F hHeld ((Below.refl _ w5.drew).alloc L0q (.cells #[.int .i64 41,.int .i64 q1] 84));refine hK.out _ _ hHeld ?_;clear hK K)
     (try simp only[Act.put,List.setIfInBounds_toArray,List.set_cons_zero,List.set_cons_succ])
     refine Qx 4 hHeld ?_;refine Qx 6 hHeld ?_;refine⟨by kernel_rfl,?_⟩;clear hHeld
     go_wp2_with fail
     go_ret2
     refine⟨(HBw.out.alloc HBw.out.size _).drew,.inl ⟨by rw[HZ.out];simp,_,rfl,?_⟩⟩;rw[HZ.out];exact⟨_,rfl,hsz5,Qq w5 _ rfl⟩
    ·have HN2:=hid hbk
     have HB7:=hid (HB6.out.trans (hb5.mono HB6.out.size));clear hbk hb5
     go_wp2_with fail
     refine⟨⟨j+1,by go_num,by omega,HB7,fun i hi=> ?_⟩,by simp[intOf];omega⟩;rcases Nat.lt_or_ge i j with h1|h1
     ·exact HNj.out i h1
     ·obtain rfl:i=j:=by omega
      exact HN2.out
   ·have a0:decide ((j:Int)<(n:Int))=false:=by simp;omega
    have HZ:Hid (soZ rs none=none):=by
     show _=_;unfold soZ;simp only;rw[HFx.out];simp only;rw[z6k (fun i hi=>HNj.out i (by have:=HNl.out;omega))];rfl
    go_wp2_with fail
    go_ret2
    have hU9:=HUw.out.below (HBj.out);refine⟨hU9.be,.inr ⟨HZ.out,rfl,ub,vs,by rw[<-HNl.out];rfl,by rw[<-HNl.out];exact HVs.out,?_⟩⟩;rw[<-HNl.out];exact hU9
theorem y5O(so:Option Addr)(n cap:Nat)(rs:List Rr)(X:Option (Int ⊕ (Int×Int)))(B:Nat)(fp:Addr)(w:World)(hX:CkX rs X)(hP:X=none->PrG rs)(hC:CkC so n cap rs X w)(hz:RgZ rs)(h:Qg w B so n rs)(hB:B<=w.heap.size)(hT:TabIs w)(hF:w.cell? ⟨1,0,none⟩=some (.iface 325 (.pointer (some fp)))):∀W:World,Below w.heap.size w W->Calls prog 41 #[.agg #[.slice so n cap]] W (SbP rs X W):=fun W hW=>by
 have hup:∀{W'},Below W.heap.size W W'->Below w.heap.size w W':=fun hW'=>hW.trans (hW'.mono hW.size)
 have hOf:=fun(W':World) (hW':Below W.heap.size W W')=>z5U so n cap rs X B w hX hC hz h hB W' (hup hW')
 cases X with
 |some x=>
  refine(y5M so n cap (some x) W (hid fun W' hW'=>(hOf W' hW').mono fun e w' he=> ?_)).mono fun e w' he=> ?_
  ·obtain⟨hb,⟨_,v,h1,h2⟩|⟨h0,_⟩⟩:=he
   ·obtain⟨tt,uu,rfl⟩:=h2.shape (by simp)
    exact⟨tt,uu,h1,h2,hb⟩
   ·cases h0
  ·obtain⟨v,h1,h2,h3⟩:=he
   exact⟨h3,.inl ⟨by unfold soZ;simp,v,h1,h2⟩⟩
 |none=>
  have hlen:=(Ff hX.1).2;have hpr:=hP rfl;have hn:n<=1048576:=by have:=h.1;omega
  have hfl:1<w.heap.size:=World.block_lt_of_cell? w _ hF;refine y5N so n cap rs W ((h.below (hW.mono hB)).upto (Nat.le_trans hB hW.size)) hn hX (hid hOf) (hid fun W' so0 cap0 hW' hg=> ?_) (hid fun W' so0 cap0 hW' hg=> ?_)
  ·exact y5p so n cap so0 n cap0 rs (kG rs) fp W' ((h.below ((hup hW').mono hB)).upto (Nat.le_trans hB (hup hW').size)) hn hg hX.1 hX.2.1 hz hpr (hT.below (hup hW') hT.lt) (((hup hW').cell (p:=⟨1,0,none⟩) hfl).trans hF)
  ·exact y5x so n cap so0 n cap0 rs (kG rs) W' ((h.below ((hup hW').mono hB)).upto (Nat.le_trans hB (hup hW').size)) hn hg hX.1 hX.2.1 hz hpr (hT.below (hup hW') hT.lt) hX.2.2
theorem y5P(so:Option Addr)(n cap:Nat)(rs:List Rr)(X:Option (Int ⊕ (Int×Int)))(w:World)
  (HC:Hid (∀W:World,Below w.heap.size w W->Calls prog 41 #[.agg #[.slice so n cap]] W (SbP rs X W))):
  Calls prog 24 #[.agg #[.slice so n cap]] w fun e w'=>∃v,e=.returned v/\Zw (soZ rs X) w.heap.size w' v/\Below w.heap.size w w':=by
 obtain⟨W1,hW1⟩:∃W1,W1=w.alloc (.cells #[.slice so n cap] 24):=⟨_,rfl⟩;have hB1:Below w.heap.size w W1:=by rw[hW1];exact(Below.refl _ w).alloc L0q _
 have HS:Hid (Calls prog 41 #[.agg #[.slice so n cap]] W1 fun e w'=>∃a v,e=.returned (.tuple #[a,v])/\Zw (soZ rs X) W1.heap.size w' v/\Below W1.heap.size W1 w'):=(HC.out W1 hB1).mono fun e w' he=>by
  obtain⟨hb,⟨_,v,h1,h2⟩|⟨h0,_,ub,vs,h1,_⟩⟩:=he
  ·exact⟨_,v,h1,h2,hb⟩
  ·exact⟨_,_,h1,by rw[h0];rfl,hb⟩
 have HB1:=hid hB1;have HW1:=hid hW1;clear hW1 hB1 HC;go_enter func24,ntmps24
 go_wp2_with fail
 rw[<-HW1.out];refine HS.out.mono ?_;rintro e w2 ⟨a,v,rfl,hv,hb2⟩;have HV:=hid (hv.lo HB1.out.size);have HB2:=hid (HB1.out.trans (hb2.mono HB1.out.size));clear hv hb2 HS HW1 HB1
 go_wp2_with fail
 go_ret;exact⟨_,rfl,HV.out,HB2.out⟩
theorem y5Q(so:Option Addr)(n cap:Nat)(rs:List Rr)(X:Option (Int ⊕ (Int×Int)))(B:Nat)(fp:Addr)(w:World)(hX:CkX rs X)(hP:X=none->PrG rs)(hC:CkC so n cap rs X w)(hz:RgZ rs)(h:Qg w B so n rs)(hB:B<=w.heap.size)(hT:TabIs w)(hF:w.cell? ⟨1,0,none⟩=some (.iface 325 (.pointer (some fp)))):∀W:World,Below w.heap.size w W->Calls prog 24 #[.agg #[.slice so n cap]] W fun e w'=>∃v,e=.returned v/\Zw (soZ rs X) W.heap.size w' v/\Below W.heap.size W w':=fun W hW=>
 y5P so n cap rs X W (hid fun W' hW'=>y5O so n cap rs X B fp w hX hP hC hz h hB hT hF W' (hW.trans (hW'.mono hW.size)))
def upB(L x:Int):Bool:=decide (0<=x)&&decide (x<=L)
theorem y5R(L x:Int)(w:World):Calls prog 25 #[.int .i64 L,.int .i64 x] w fun e w'=>e=.returned (.bool (upB L x))/\w'=w:=by
 unfold upB;by_cases h0:0<=x
 ·have a0:decide (0<=x)=true:=by simpa using h0
  rw[a0,Bool.true_and];go_enter func25,ntmps25
  go_wp2_with fail
  go_ret;exact⟨rfl,rfl⟩
 ·have a0:decide (0<=x)=false:=by simpa using h0
  rw[a0,Bool.false_and];go_enter func25,ntmps25
  go_wp2_with fail
  go_ret;exact⟨rfl,rfl⟩
def FmV(ok1:Bool)(ok2:Bool)(G:Int->Int->Value->Prop)(Z:Prop)(n k:Int)(v:Value):Prop:=
 (Z/\n=0/\k=0/\∃tt uu,v=.iface tt uu)∨(¬Z/\ok1=false/\n=0/\k=0/\v=.iface 34 (.int .i64 1))∨(¬Z/\ok1=true/\ok2=false/\n=0/\k=0/\v=.iface 34 (.int .i64 2))∨(¬Z/\ok1=true/\ok2=true/\G n k v)
theorem y5S(so:Option Addr)(n cap:Nat)(r a m:Int)(T:ByteArray)(b1 b2 b3:Bool)(hb1:b1=upB ((n:Int)-1) r)(hb2:b2=upB (T.size:Int) a)(hb3:b3=upB 1048576 m)(hn:n<=9223372036854775807)(hT:T.size<=9223372036854775807)(G:Int->Int->Value->Prop)(Z:Prop)(w:World)
  (HCk:Hid (∀W:World,Below w.heap.size w W->Calls prog 24 #[.agg #[.slice so n cap]] W fun e w'=>(Z/\∃tt uu,e=.returned (.iface tt uu))/\Below W.heap.size W w'∨(¬Z/\e=.returned .nilIface)/\Below W.heap.size W w'))
  (HMg:Hid (¬Z->b1=true->b2=true->b3=true->T.size<=4096->∀W:World,Below w.heap.size w W->Calls prog 26 #[.agg #[.slice so n cap],.string T,.int .i64 m] W fun e w'=>∃mB,e=.returned (.pointer (some ⟨mB,0,none⟩))/\Hid (w.heap.size<=mB)/\Hid (Below W.heap.size W w')/\Hid (Calls prog 27 #[.pointer (some ⟨mB,0,none⟩),.int .i64 r,.int .i64 a] w' fun e w2=>∃x y v,e=.returned (.tuple #[.int .i64 x,.int .i64 y,v])/\G x y v/\w'.grownBy w2 (some mB)))):
  Calls prog 11 #[.agg #[.slice so n cap],.int .i64 r,.string T,.int .i64 a,.int .i64 m] w fun e w'=>∃x y v,e=.returned (.tuple #[.int .i64 x,.int .i64 y,v])/\FmV (b1&&(b2&&b3)) (decide (T.size<=4096)) G Z x y v/\Below w.heap.size w w':=by
 have HI:=hid y5R;have hwr:IntKind.i64.wrap ((n:Int)-1)=(n:Int)-1:=by rw[IntKind.wrap_i64];omega
 obtain⟨W1,hW1⟩:∃W1,W1=w.alloc (.cells #[.slice so n cap] 24):=⟨_,rfl⟩;have hB1:Below w.heap.size w W1:=by rw[hW1];exact(Below.refl _ w).alloc L0q _
 have hG1:W1.heap[w.heap.size]? =some (.cells #[.slice so n cap] 24):=by rw[hW1];exact Qq w _ rfl
 have HC:=hid (HCk.out W1 hB1);have HB1:=hid hB1;have HG1:=hid hG1;have HW1:=hid hW1;have hb1':=hb1.symm;have hb2':=hb2.symm;have hb3':=hb3.symm;clear hb1 hb2 hb3 HCk hB1 hG1 hW1;go_enter func11,ntmps11
 go_wp2_with fail
 rw[<-HW1.out];refine HC.out.mono ?_;rintro e w1 (⟨⟨hZ,tt,uu,rfl⟩,hb1⟩|⟨⟨hZ,rfl⟩,hb1⟩)
 ·have HB2:=hid (HB1.out.trans (hb1.mono HB1.out.size))
  clear hb1 HC HW1;have HZ:=hid hZ
  go_wp2_with fail
  refine bodyPost_ret (v:=(.tuple #[.int .i64 0,.int .i64 0,.iface tt uu])) (by simp[results,Tryz.results11,go_sem]) rfl ?_;exact⟨_,_,_,rfl,.inl ⟨HZ.out,rfl,rfl,_,_,rfl⟩,HB2.out⟩
 have HB2:=hid (HB1.out.trans (hb1.mono HB1.out.size));have hG2:=(hb1.block _ (Qz HG1.out)).trans HG1.out;have g2:=(Qk hG2).1;have lg2:=Qz hG2;have HZ:=hid hZ;clear hb1 HC HW1 hG2 hZ;cases b1 with
 |false=>
  go_wp2_with(first
   |(go_at_call 25;refine(HI.out _ _ _).mono ?_;rintro e w2 ⟨rfl,rfl⟩))
  refine bodyPost_ret (v:=(.tuple #[.int .i64 0,.int .i64 0,.iface 34 (.int .i64 1)])) (by simp[results,Tryz.results11,go_sem]) rfl ?_;exact⟨_,_,_,rfl,.inr (.inl ⟨HZ.out,rfl,rfl,rfl,rfl⟩),HB2.out⟩
 |true=>
  cases b2 with
  |false=>
   go_wp2_with(first
    |(go_at_call 25;refine(HI.out _ _ _).mono ?_;rintro e w2 ⟨rfl,rfl⟩))
   refine bodyPost_ret (v:=(.tuple #[.int .i64 0,.int .i64 0,.iface 34 (.int .i64 1)])) (by simp[results,Tryz.results11,go_sem]) rfl ?_;exact⟨_,_,_,rfl,.inr (.inl ⟨HZ.out,rfl,rfl,rfl,rfl⟩),HB2.out⟩
  |true=>
   cases b3 with
   |false=>
    go_wp2_with(first
     |(go_at_call 25;refine(HI.out _ _ _).mono ?_;rintro e w2 ⟨rfl,rfl⟩))
    refine bodyPost_ret (v:=(.tuple #[.int .i64 0,.int .i64 0,.iface 34 (.int .i64 1)])) (by simp[results,Tryz.results11,go_sem]) rfl ?_;exact⟨_,_,_,rfl,.inr (.inl ⟨HZ.out,rfl,rfl,rfl,rfl⟩),HB2.out⟩
   |true=>
    by_cases h4:T.size<=4096
    ·have a4:decide (4096<(T.size:Int))=false:=by simp;omega
     have h4I:¬(4096:Int)<(T.size:Int):=by omega
     have HM:=hid (HMg.out HZ.out rfl rfl rfl h4);have HD:Hid (decide (T.size<=4096)=true):=decide_eq_true h4;clear HMg h4
     go_wp2_with(first
      |(go_at_call 25;refine(HI.out _ _ _).mono ?_;rintro e w2 ⟨rfl,rfl⟩)
      |(go_at_call 26;refine(HM.out _ HB2.out).mono ?_;rintro e w3 ⟨mB,rfl,HmB,HB3,HMt⟩))
     refine HMt.out.mono ?_;rintro e w4 ⟨x,y,v,rfl,hG,hg4⟩;have hb3:=HB2.out.trans (HB3.out.mono HB2.out.size);have HF:=hid (hb3.grown hg4 hb3.size (fun g e=>by have:=Option.some.inj e;have:=HmB.out;omega));have HGx:=hid hG;clear hG hg4 hb3
     go_wp2_with fail
     refine bodyPost_ret (v:=(.tuple #[.int .i64 x,.int .i64 y,v])) (by simp[results,Tryz.results11,go_sem]) rfl ?_;exact⟨_,_,_,rfl,.inr (.inr (.inr ⟨HZ.out,rfl,HD.out,HGx.out⟩)),HF.out⟩
    ·have a4:decide (4096<(T.size:Int))=true:=by simp;omega
     have h4I:(4096:Int)<(T.size:Int):=by omega
     have HD:Hid (decide (T.size<=4096)=false):=decide_eq_false h4;clear HMg h4
     go_wp2_with(first
      |(go_at_call 25;refine(HI.out _ _ _).mono ?_;rintro e w2 ⟨rfl,rfl⟩))
     refine bodyPost_ret (v:=(.tuple #[.int .i64 0,.int .i64 0,.iface 34 (.int .i64 2)])) (by simp[results,Tryz.results11,go_sem]) rfl ?_;exact⟨_,_,_,rfl,.inr (.inr (.inl ⟨HZ.out,rfl,HD.out,rfl,rfl,rfl⟩)),HB2.out⟩
def Gm(rs:List Rr)(r:Int)(T:ByteArray)(a m:Int)(x y:Int)(v:Value):Prop:=∃hr:r.toNat<rs.length,(∃e c,Mt (bdR rs) T (.one (rs[r.toNat]'hr).2.1) a.toNat e c/\(c:Int)<=m/\x=eI e/\y=(c:Int)/\v=.nilIface)∨((∀e c,Mt (bdR rs) T (.one (rs[r.toNat]'hr).2.1) a.toNat e c->m<(c:Int))/\x=0/\y=0/\v=.iface 34 (.int .i64 50))
theorem y5T{rs:List Rr}(h:(nmL rs).Nodup)(j:Nat)(hj:j<rs.length):inN rs[j].1 (nmL (rs.take j))=false:=by
 cases e:inN rs[j].1 (nmL (rs.take j))with
 |false=>rfl
 |true=>
  have hm:=z0z.1 e;have e1:nmL (rs.take j)=(nmL rs).take j:=by unfold nmL;rw[List.map_take]
  rw[e1]at hm;have hd:nmL rs=(nmL rs).take j++(nmL rs).drop j:=(List.take_append_drop _ _).symm;rw[hd,List.nodup_append]at h;have hj':j<(nmL rs).length:=by unfold nmL;rw[List.length_map];exact hj
  have hdr:rs[j].1∈(nmL rs).drop j:=by
   rw[List.drop_eq_getElem_cons hj'];have h9:(nmL rs)[j]? =some rs[j].1:=by
    unfold nmL;rw[List.getElem?_map,List.getElem?_eq_getElem hj];rfl
   have:(nmL rs)[j]=rs[j].1:=Option.some.inj ((List.getElem?_eq_getElem hj').symm.trans h9);rw[this];exact List.mem_cons_self
  exact absurd rfl (h.2.2 _ hm _ hdr)
theorem z0L{L x:Int}(h:upB L x=true):∃j:Nat,x=(j:Int)/\(j:Int)<=L:=by
 unfold upB at h;simp only[Bool.and_eq_true,decide_eq_true_eq]at h;exact⟨x.toNat,by omega,by omega⟩
theorem z6l(so:Option Addr)(n cap:Nat)(rs:List Rr)(X:Option (Int ⊕ (Int×Int)))(B:Nat)(fp:Addr)(w:World)(hX:CkX rs X)(hP:X=none->PrG rs)(hC:CkC so n cap rs X w)(hz:RgZ rs)(hu:RgU rs)(h:Qg w B so n rs)(hB:B<=w.heap.size)(hT:TabIs w)(hF:w.cell? ⟨1,0,none⟩=some (.iface 325 (.pointer (some fp))))(r a m:Int)(T:ByteArray)(hTz:T.size<=9223372036854775807)(W:World)(hW:Below w.heap.size w W):
  Calls prog 11 #[.agg #[.slice so n cap],.int .i64 r,.string T,.int .i64 a,.int .i64 m] W fun e w'=>∃x y v,e=.returned (.tuple #[.int .i64 x,.int .i64 y,v])/\FmV (upB ((n:Int)-1) r&&(upB (T.size:Int) a&&upB 1048576 m)) (decide (T.size<=4096)) (Gm rs r T a m) (soZ rs X≠none) x y v/\Below W.heap.size W w':=by
 have hn63:n<=9223372036854775807:=h.2.1;refine y5S so n cap r a m T _ _ _ rfl rfl rfl hn63 hTz (Gm rs r T a m) (soZ rs X≠none) W (hid fun W' hW'=> ?_) (hid fun hZ h1 h2 h3 h4 W' hW'=> ?_)
 ·refine(y5Q so n cap rs X B fp w hX hP hC hz h hB hT hF W' (hW.trans (hW'.mono hW.size))).mono fun e w' he=> ?_
  obtain⟨v,rfl,hv,hb⟩:=he;by_cases e0:soZ rs X=none
  ·rw[e0]at hv
   have hv:v=.nilIface:=hv;subst hv;exact .inr ⟨⟨fun hne=>hne e0,rfl⟩,hb⟩
  ·obtain⟨tt,uu,rfl⟩:=hv.shape e0
   exact .inl ⟨⟨e0,tt,uu,rfl⟩,hb⟩
 ·have e0:soZ rs X=none:=Classical.not_not.1 hZ
  obtain rfl:X=none:=by
   cases X with
   |none=>rfl
   |some x=>unfold soZ at e0;cases e0
  obtain⟨hok,hck,_⟩:=hX;obtain⟨j,rfl,hj⟩:=z0L h1;obtain⟨i,rfl,hi⟩:=z0L h2;obtain⟨M,rfl,hM⟩:=z0L h3;have hBW:=hW.trans (hW'.mono hW.size);have hnl:n=rs.length:=h.1;have hjr:j<rs.length:=by omega
  have hl64:=(Ff hok).2;have hR:Qg W' W'.heap.size so n rs:=(h.below (hBW.mono hB)).upto (Nat.le_trans hB hBW.size);have hFt:∀x∈rs,Fit (nmL rs) x.2.1:=fun x hx=>Eb (hP rfl) hck hz hx
  refine(y4K so n cap rs T M W' hR (by omega) (hid fun x hx=>(hz x hx).1) (hid fun j hj=>y5T (z0B hck) j hj) (hid fun x hx k N a b c d so1 n1 cap1 p hrt W2 hW2 hlt hc hp=> ?_)).mono fun e w2 he=> ?_
  ·exact z5O (nmL rs) (W'.heap.size+1) (SizeOf.sizeOf x.2.1+1) x.2.1 (Nat.lt_succ_self _) k N a b c d so1 n1 cap1 p W2 W'.heap.size _ (hrt.below hW2) hW2.size (hFt x hx) (hu x hx) hlt (fun b hb=>hb) hc hp
  ·obtain⟨mB,pv,sv,rfl,hmB,hsm,⟨L,hbd⟩,hb2⟩:=he
   refine⟨mB,rfl,hid (Nat.le_trans (Nat.le_trans hW'.size L0q) hmB),hid hb2,hid ?_⟩;have hbd0:=hbd;obtain⟨so2,cap2,hsv,hmv⟩:=hbd;obtain⟨g,o,x,rfl,hg,hcx,hvx⟩:=Gj hmv j (by simpa using hjr);obtain⟨d1,d2,rfl⟩:=Jq hvx;rw[Nat.zero_add]at hcx;have hget:(rs.map (fun x=>x.2.1))[j]'(by simpa using hjr)=rs[j].2.1:=by simp
   rw[hget]at hvx;refine(y4O rs T mB M pv sv rs[j].2.1 i j g o rs.length cap2 d1 d2 w2 hsm hsv hg hjr (by omega) hcx (hid fun W3 hW3=> ?_)).mono fun e w3 he=> ?_
   ·exact z5L h4 (by omega) hFt (by omega) (M+1) rs[j].2.1 d1 d2 W3 i 0 (Uk (G.below hW3) _ _ hvx) (hFt _ (List.getElem_mem hjr)) (hbd0.kept (G.below hW3)) ((hW3.block mB (Qz hsm)).trans hsm) (Nat.zero_le _) (by omega) (by omega)
   ·obtain⟨hg3,⟨x,c,hm,hc,rfl⟩|⟨hn,rfl⟩⟩:=he
    ·exact⟨_,_,_,rfl,⟨by simpa using hjr,.inl ⟨x,c,by simpa using hm,by omega,rfl,rfl,rfl⟩⟩,hg3⟩
    ·exact⟨_,_,_,rfl,⟨by simpa using hjr,.inr ⟨fun e c h=>by have:=hn e c (by simpa using h);omega,rfl,rfl,rfl⟩⟩,hg3⟩
def evM(B:ByteArray->Option RT)(T:ByteArray):Nat->Jb->Nat->Option (Option Nat×Nat)
 |0,_,_=>none
 |f+1,.one (.mk k N a b c d s p),i=>
  if k=1 then some (some i,1)
  else if k=2 then some (Yj (Lib.hasPrefix (T.data.toList.drop i) N.data.toList) (i+N.size),1)
  else if k=3 then some (Yj (Yw (cl4 a b c d) T i) (i+1),1)
  else if k=4 then some (Yj (Yw Qj T i) (i+1),1)
  else if k=5 then(match B N with
   |none=>none
   |some t=>(evM B T f (.one t) i).map fun x=>(x.1,x.2+1))
  else if k=6 then(evM B T f (.row s) i).map fun x=>(x.1,x.2+1)
  else if k=7 then(evM B T f (.alt s) i).map fun x=>(x.1,x.2+1)
  else match s with
   |[]=>none
   |t::r=>
    if k=9 then(evM B T f (.rep t) i).map fun x=>(x.1,x.2+1)
    else match evM B T f (.one t) i with
     |none=>none
     |some (e,n)=>
      if k=8 then some (some (e.getD i),n+1)
      else if k=11 then some (Yj e.isSome i,n+1)
      else if k=12 then some (Yj e.isNone i,n+1)
      else if k=10 then(match e with
       |none=>some (none,n+1)
       |some x=>(evM B T f (.rep t) x).map fun y=>(y.1,n+y.2+1))
      else none
 |f+1,.row [],i=>some (some i,0)
 |f+1,.row (t::r),i=>match evM B T f (.one t) i with
  |none=>none
  |some (none,n)=>some (none,n)
  |some (some x,n)=>(evM B T f (.row r) x).map fun y=>(y.1,n+y.2)
 |f+1,.alt [],i=>some (none,0)
 |f+1,.alt (t::r),i=>match evM B T f (.one t) i with
  |none=>none
  |some (some x,n)=>some (some x,n)
  |some (none,n)=>(evM B T f (.alt r) i).map fun y=>(y.1,n+y.2)
 |f+1,.rep t,i=>match evM B T f (.one t) i with
  |none=>none
  |some (none,n)=>some (some i,n)
  |some (some x,n)=>(evM B T f (.rep t) x).map fun y=>(y.1,n+y.2)
theorem Kk{α β:Type}{o:Option α}{g:α->β}{y:β}(h:o.map g=some y):∃x,o=some x/\g x=y:=by
 cases o with
 |none=>cases h
 |some x=>exact⟨x,rfl,Option.some.inj h⟩
theorem Nb{B:ByteArray->Option RT}{T:ByteArray}:∀(f:Nat) (j:Jb) (i:Nat) (e:Option Nat) (c:Nat),evM B T f j i=some (e,c)->Mt B T j i e c
 |0,j,_,_,_,h=>by unfold evM at h;cases h
 |f+1,.one (.mk k N a b c d s p),i,e,n,h=>by
  have ih:= @Nb B T f;rw[evM.eq_def]at h;dsimp only at h;by_cases h1:k=1
  ·subst h1;rw[if_pos rfl]at h;cases h;exact .emp
  rw[if_neg h1]at h;by_cases h2:k=2
  ·subst h2;rw[if_pos rfl,<-Cm]at h;cases h;exact .lit
  rw[if_neg h2]at h;by_cases h3:k=3
  ·subst h3;rw[if_pos rfl]at h;cases h;exact .set
  rw[if_neg h3]at h;by_cases h4:k=4
  ·subst h4;rw[if_pos rfl]at h;cases h;exact .any
  rw[if_neg h4]at h;by_cases h5:k=5
  ·subst h5
   rw[if_pos rfl]at h;cases hB:B N with
   |none=>rw[hB]at h;cases h
   |some t=>
    rw[hB]at h;obtain⟨x,hx,e1⟩:=Kk h;cases e1;exact .ref hB (ih _ _ _ _ hx)
  rw[if_neg h5]at h;by_cases h6:k=6
  ·subst h6
   rw[if_pos rfl]at h;obtain⟨x,hx,e1⟩:=Kk h;cases e1;exact .seq (ih _ _ _ _ hx)
  rw[if_neg h6]at h;by_cases h7:k=7
  ·subst h7
   rw[if_pos rfl]at h;obtain⟨x,hx,e1⟩:=Kk h;cases e1;exact .cho (ih _ _ _ _ hx)
  rw[if_neg h7]at h;cases s with
  |nil=>cases h
  |cons t r=>
   simp only at h;by_cases h9:k=9
   ·subst h9
    rw[if_pos rfl]at h;obtain⟨x,hx,e1⟩:=Kk h;cases e1;exact .star (ih _ _ _ _ hx)
   rw[if_neg h9]at h;cases hE:evM B T f (.one t) i with
   |none=>rw[hE]at h;cases h
   |some y=>
    obtain⟨e0,n0⟩:=y;rw[hE]at h;simp only at h;have hm:=ih _ _ _ _ hE;by_cases h8:k=8
    ·subst h8;rw[if_pos rfl]at h;cases h;exact .opt hm
    rw[if_neg h8]at h;by_cases h11:k=11
    ·subst h11;rw[if_pos rfl]at h;cases h;exact .and hm
    rw[if_neg h11]at h;by_cases h12:k=12
    ·subst h12;rw[if_pos rfl]at h;cases h;exact .not hm
    rw[if_neg h12]at h;by_cases h10:k=10
    ·subst h10
     rw[if_pos rfl]at h;cases e0 with
     |none=>cases h;exact .plus_no hm
     |some x=>
      simp only at h;obtain⟨y,hy,e1⟩:=Kk h;cases e1;exact .plus_ok hm (ih _ _ _ _ hy)
    rw[if_neg h10]at h;cases h
 |f+1,.row [],i,e,n,h=>by rw[evM]at h;cases h;exact .row_nil
 |f+1,.row (t::r),i,e,n,h=>by
  have ih:= @Nb B T f;rw[evM.eq_def]at h;dsimp only at h;cases hE:evM B T f (.one t) i with
  |none=>rw[hE]at h;cases h
  |some y=>
   obtain⟨e0,n0⟩:=y;rw[hE]at h;cases e0 with
   |none=>cases h;exact .row_no (ih _ _ _ _ hE)
   |some x=>
    simp only at h;obtain⟨y,hy,e1⟩:=Kk h;cases e1;exact .row_ok (ih _ _ _ _ hE) (ih _ _ _ _ hy)
 |f+1,.alt [],i,e,n,h=>by rw[evM]at h;cases h;exact .alt_nil
 |f+1,.alt (t::r),i,e,n,h=>by
  have ih:= @Nb B T f;rw[evM.eq_def]at h;dsimp only at h;cases hE:evM B T f (.one t) i with
  |none=>rw[hE]at h;cases h
  |some y=>
   obtain⟨e0,n0⟩:=y;rw[hE]at h;cases e0 with
   |some x=>cases h;exact .alt_ok (ih _ _ _ _ hE)
   |none=>
    simp only at h;obtain⟨y,hy,e1⟩:=Kk h;cases e1;exact .alt_no (ih _ _ _ _ hE) (ih _ _ _ _ hy)
 |f+1,.rep t,i,e,n,h=>by
  have ih:= @Nb B T f;rw[evM.eq_def]at h;dsimp only at h;cases hE:evM B T f (.one t) i with
  |none=>rw[hE]at h;cases h
  |some y=>
   obtain⟨e0,n0⟩:=y;rw[hE]at h;cases e0 with
   |none=>cases h;exact .rep_end (ih _ _ _ _ hE)
   |some x=>
    simp only at h;obtain⟨y,hy,e1⟩:=Kk h;cases e1;exact .rep_go (ih _ _ _ _ hE) (ih _ _ _ _ hy)
@[reducible] def smA:ByteArray:={data:=#[115,32,60,45,32,101,32,33,46,32,101,32,60,45,32,116,32,40,39,43,39,32,116,41,42,32,116,32,60,45,32,91,48,45,57,93,43,32,47,32,39,40,39,32,101,32,39,41,39]}
@[reducible] def tA:ByteArray:={data:=#[49,43,40,50,43,51,41]}
@[reducible] def tB:ByteArray:={data:=#[49,43]}
@[reducible] def tC:ByteArray:={data:=#[97,55]}
def okE(o:Option (Option Nat×Nat))(f:Option Nat->Bool):Bool:=match o with
 |some (e,c)=>f e&&decide (c<=1000)
 |none=>false
def z6m(x:Nat):Bool:=match Uq smA with
 | .inr rs=>decide (sz (pR qT cT rs)<=8192)&&(decide (dR rs<=24)&&(decide (ckR (toG rs)=none)&&((toG rs).all (fun x=>decide (ofT (itr (toG rs) 6) x.2.1=itr (toG rs) 6 x.1))&&(decide (flG (itr (toG rs) 6) (toG rs)=none)&&(decide ((toG rs).map (fun x=>(fbT (itr (toG rs) 6) x.2.1).map fun s=>fdI s (nmL (toG rs)))=[[1],[2],[]])&&(okE (evM (bdR (toG rs)) tA 99 (.one (((toG rs)[0]?.map (·.2.1)).getD (.mk 1 tA 0 0 0 0 [] 0))) 0) (fun e=>decide (e=some 7))&&(okE (evM (bdR (toG rs)) tB 99 (.one (((toG rs)[0]?.map (·.2.1)).getD (.mk 1 tA 0 0 0 0 [] 0))) 0) (fun e=>decide (e=none))&&decide (evM (bdR (toG rs)) tC 99 (.one (((toG rs)[2]?.map (·.2.1)).getD (.mk 1 tA 0 0 0 0 [] 0))) 1=some (some 2,4)))))))))
 | .inl _=>false
theorem y5U:∀x,x<1->z6m x=true:=by decide+kernel
end Go.Proofs.YtgmcjddjdidpjaaGreatDoor
