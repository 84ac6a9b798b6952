/- Lemmas for the last text. Conditions: those that each names. -/
import Derived.Test.YtlogolpcipiceaaGreatDoorVT3ToT14
import Derived.Test.YtlogolpcipiceaaGreatDoorVT17ToT18
import Derived.Test.YtlogolpcipiceaaGreatDoorVT20ToT6
import Derived.Test.YtlogolpcipiceaaGreatDoorVO6ToS3
set_option linter.unusedVariables false
set_option maxRecDepth 100000
set_option maxHeartbeats 8000000
namespace Go.Proofs.YtlogolpcipiceaaGreatDoor
open Go.Proofs.Tryz
open Go.RowKit Go.Shelf Go.Maps
variable {W:World} {i:Nat}
theorem y2z{W':World}{rB o:Nat}{v:Value}(h:W.cell? ⟨rB,o,none⟩=some v)(hb:Below W.heap.size W W'):W'.cell? ⟨rB,o,none⟩=some v:=(hb.cell (p:=⟨rB,o,none⟩) (World.block_lt_of_cell? W _ h)).trans h
noncomputable def kG (rs:List Rr):ByteArray->Ot:=itr rs (Classical.epsilon fun m=>Yk (itr rs m) rs)
theorem z4t{rs:List Rr}{m:Nat}(h:Yk (itr rs m) rs):itr rs m=kG rs:=y0c h (Classical.epsilon_spec (p:=fun m=>Yk (itr rs m) rs) ⟨m,h⟩)
noncomputable def bgU (rs:List Rr):List (List Int):=rs.map (bgR rs (kG rs))
theorem Zv.to{X:Option (Int ⊕ (Int×Int))}{S:Nat}{w w':World}{v:Value}(h:Zv X S w v)(hb:Below w.heap.size w w'):Zv X S w' v:=by
 match X,h with
 |none,h=>exact h
 |some (.inl c),h=>exact h
 |some (.inr q),⟨g,h1,h2,h3⟩=>exact⟨g,h1,h2,(hb.block g (Qz h3)).trans h3⟩
theorem y2A(rs:List Rr):(bgU rs).length=rs.length:=List.length_map _
noncomputable def bkB (rs:List Rr) (i:Nat):Bool:= @decide (Bck (bgU rs) i) (Classical.propDecidable _)
theorem z4u{rs:List Rr}:bkB rs i=true↔Bck (bgU rs) i:= @decide_eq_true_iff _ (Classical.propDecidable _)
theorem z4v{rs:List Rr}(h:¬Bck (bgU rs) i):bkB rs i=false:=by
 cases e:bkB rs i with
 |true=>exact absurd (z4u.1 e) h
 |false=>rfl
noncomputable def lfG (rs:List Rr):Option Int:=((List.range rs.length).find? (bkB rs)).map fun i=>((rs[i]?).map (·.2.2)).getD 0
theorem y2B{rs:List Rr}{j:Nat}(hj:j<rs.length)(h:Bck (bgU rs) j)(hn:∀i,i<j->¬Bck (bgU rs) i):lfG rs=some rs[j].2.2:=by
 have e:(List.range rs.length).find? (bkB rs)=some j:=by
  rw[List.find?_range_eq_some];exact⟨z4u.2 h,List.mem_range.2 hj,fun i hi=>by rw[z4v (hn i hi)];rfl⟩
 unfold lfG;rw[e];simp[hj]
theorem z4w{rs:List Rr}(hn:∀i,i<rs.length->¬Bck (bgU rs) i):lfG rs=none:=by
 have e:(List.range rs.length).find? (bkB rs)=none:=by
  rw[List.find?_eq_none];exact fun i hi=>by rw[z4v (hn i (List.mem_range.1 hi))];simp
 unfold lfG;rw[e];rfl
noncomputable def soZ (rs:List Rr) (X:Option (Int ⊕ (Int×Int))):Option (Int ⊕ (Int×Int)):=match X with
 |some x=>some x
 |none=>match flX (kG rs) rs with
  |some x=>some x
  |none=>(lfG rs).map fun p=>.inr (41,p)
def SbP(rs:List Rr)(X:Option (Int ⊕ (Int×Int)))(W:World)(e:Ending)(w':World):Prop:=Below W.heap.size W w'/\
 ((soZ rs X≠none/\∃v,e=.returned (.tuple #[.slice none 0 0,v])/\Zv (soZ rs X) W.heap.size w' v)∨
  (soZ rs X=none/\X=none/\∃ub vs,e=.returned (.tuple #[.slice (some ⟨ub,0,none⟩) rs.length rs.length,.nilIface])/\vs.length=rs.length/\Uw W ub rs.length vs (bgU rs) w'))
theorem Uw.from{w0 w:World}{ub n:Nat}{vs:List Value}{us:List (List Int)}(h:Uw w ub n vs us W)(hb:Below w0.heap.size w0 w):Uw w0 ub n vs us W:=⟨h.blk,h.len,fun i h1 h2=>z2s (h.row i h1 h2) hb.size,hb.trans (h.be.mono hb.size),Nat.le_trans hb.size h.lo⟩
theorem y2C{W':World}{uv:Value}{us:List (List Int)}(h:UsM W W.heap.size uv us)(hb:Below W.heap.size W W'):UsM W' W'.heap.size uv us:=by
 obtain⟨so,cap,h1,h2,h3⟩:=h;refine⟨so,cap,h1,h2,fun i hi=> ?_⟩;obtain⟨g,o,rv,e1,e2,e3,so2,cap2,f1,f2,f3⟩:=h3 i hi;refine⟨g,o,rv,e1,Nat.lt_of_lt_of_le e2 hb.size,(hb.cell (p:=⟨g,o+i,none⟩) e2).trans e3,so2,cap2,f1,f2,fun j hj=> ?_⟩;obtain⟨g2,o2,q1,q2,q3⟩:=f3 j hj;exact⟨g2,o2,q1,Nat.lt_of_lt_of_le q2 hb.size,(hb.cell (p:=⟨g2,o2+j,none⟩) q2).trans q3⟩
theorem y2D{rs:List Rr}{K:ByteArray->Ot}{x:Rr}(hok:okT x.2.1=true):(bgR rs K x).length<=(rfT x.2.1).length:=by
 unfold bgR;refine Nat.le_trans (z2q _) ?_;rw[My,List.length_map];exact Tj _ hok
theorem y2E{rs:List Rr}(hok:okG rs=true)(hck:ckR rs=none):∀u∈bgU rs,∀x∈u,∃m:Nat,m<rs.length/\x=(m:Int):=fun u hu x hx=>by
 obtain⟨y,hy,rfl⟩:=List.mem_map.1 hu;exact y1P hok hck hy x hx
theorem y2F{rs:List Rr}(hok:okG rs=true)(hl:∀x∈rs,(rfT x.2.1).length<=8192):∀u∈bgU rs,u.length<=1048576:=fun u hu=>by
 obtain⟨y,hy,rfl⟩:=List.mem_map.1 hu;have h1:=y2D (rs:=rs) (K:=kG rs) (Gl hok y hy).2;have h2:=hl y hy;omega
theorem y2G(so:Option Addr)(n cap:Nat)(X:Option (Int ⊕ (Int×Int)))(w:World)
  (HC:Hid (∀W:World,Below w.heap.size w W->Calls prog 100 #[.agg #[.slice so n cap]] W fun e w'=>∃tt uu,e=.returned (.tuple #[.agg #[.slice none 0 0],.iface tt uu])/\Zv X W.heap.size w' (.iface tt uu)/\Below W.heap.size W w')):
  Calls prog 58 #[.agg #[.slice so n cap]] w fun e w'=>∃v,e=.returned (.tuple #[.slice none 0 0,v])/\Zv X w.heap.size w' v/\Below w.heap.size w w':=by
 obtain⟨W1,hW1⟩:∃W1,W1=w.alloc (.cells #[.slice so n cap] 24):=⟨_,rfl⟩;have hB1:Below w.heap.size w W1:=by rw[hW1];exact(Below.refl _ w).alloc L0q _
 have HS:=hid (HC.out W1 hB1);have HB1:=hid hB1;have HW1:=hid hW1;clear hW1 hB1 HC;go_enter func58,ntmps58
 go_wp2_with fail
 rw[<-HW1.out];refine HS.out.mono ?_;rintro e w2 ⟨tt,uu,rfl,hv,hb2⟩;have HV:=hid (hv.lo HB1.out.size);have HB2:=hid (HB1.out.trans (hb2.mono HB1.out.size));clear hv hb2 HS HW1 HB1
 go_wp2_with fail
 go_ret2
 have hb3:=(Below.refl _ w2).alloc L0q (.cells #[.slice none 0 0] 24);refine⟨_,rfl,?_,HB2.out.trans (hb3.mono HB2.out.size)⟩;exact Zv.to HV.out hb3
theorem y2H(so:Option Addr)(n cap:Nat)(rs:List Rr)(w:World)(h:Qv w w.heap.size so n rs)(hn:n<=1048576)(hX:CkX rs none)
  (HC:Hid (∀W:World,Below w.heap.size w W->Calls prog 100 #[.agg #[.slice so n cap]] W (BfP rs none W)))
  (HFl:Hid (∀(W:World) (so0:Option Addr) (cap0:Nat),Below w.heap.size w W->Qv W W.heap.size so0 n (bG rs (kG rs))->Calls prog 101 #[.agg #[.slice so n cap],.agg #[.slice so0 n cap0]] W fun e w'=>∃v,e=.returned v/\Zv (flX (kG rs) rs) W.heap.size w' v/\Below W.heap.size W w'))
  (HAb:Hid (∀(W:World) (so0:Option Addr) (cap0:Nat),Below w.heap.size w W->Qv W W.heap.size so0 n (bG rs (kG rs))->Calls prog 102 #[.agg #[.slice so n cap],.agg #[.slice so0 n cap0]] W fun e w'=>∃ub vs,e=.returned (.slice (some ⟨ub,0,none⟩) n n)/\vs.length=n/\Uw W ub n vs (bgU rs) w')):
  Calls prog 58 #[.agg #[.slice so n cap]] w (SbP rs none w):=by
 obtain⟨W1,hW1⟩:∃W1,W1=w.alloc (.cells #[.slice so n cap] 24):=⟨_,rfl⟩;have hB1:Below w.heap.size w W1:=by rw[hW1];exact(Below.refl _ w).alloc L0q _
 have HG1:Hid (W1.heap[w.heap.size]? =some (.cells #[.slice so n cap] 24)):=by rw[hW1];exact Qx w _ rfl
 have HS:=hid (HC.out W1 hB1);have HB1:=hid hB1;have HW1:=hid hW1;have HR:=hid h;have HNl:Hid (n=rs.length):=h.1;have HXx:=hid hX;clear hW1 hB1 HC h hX;go_enter func58,ntmps58
 go_wp2_with fail
 rw[<-HW1.out];refine HS.out.mono ?_;rintro e w2 ⟨hb2,hre⟩;rcases hre with⟨hx,_⟩|⟨_,so0,cap0,m,rfl,hfx,hrg⟩
 ·exact absurd rfl hx
 rw[<-HNl.out];rw[z4t hfx,<-HNl.out]at hrg;have HB2:=hid (HB1.out.trans (hb2.mono HB1.out.size));have HG2:=hid ((hb2.block _ (Qz HG1.out)).trans HG1.out);obtain⟨W3,hW3⟩:∃W3,W3=w2.alloc (.cells #[.slice so0 n cap0] 24):=⟨_,rfl⟩;have hb3:Below w2.heap.size w2 W3:=by rw[hW3];exact(Below.refl _ w2).alloc L0q _
 have HB3:=hid (HB2.out.trans (hb3.mono HB2.out.size));have HG3:=hid ((hb3.block _ (Qz HG2.out)).trans HG2.out);obtain⟨sB,hsB⟩:∃sB,sB=w2.heap.size:=⟨_,rfl⟩;have HS3:Hid (W3.heap[sB]? =some (.cells #[.slice so0 n cap0] 24)):=by rw[hW3,hsB];exact Qx _ _ rfl
 have hrg3:=(hrg.below hb3).upto hb3.size;have HFl3:=hid (HFl.out W3 so0 cap0 HB3.out hrg3);have HRg3:=hid hrg3;obtain⟨g2,_⟩:=Qk HG2.out;have lg2:=Qz HG2.out;have lg3:w.heap.size<w2.heap.size+1:=by omega
 have HW3:=hid hW3;clear HS HW1 HG1 HB1 hb2 hfx hrg hb3 hrg3 hW3 HFl
 go_wp2_with fail
 rw[<-HW3.out];refine HFl3.out.mono ?_;clear HFl3 HW3 g2 lg2 lg3;rintro e w3 ⟨v,rfl,hv,hb3⟩;have HB4:=hid (HB3.out.trans (hb3.mono HB3.out.size));have HG4:=hid ((hb3.block _ (Qz HG3.out)).trans HG3.out);have HS4:=hid ((hb3.block _ (Qz HS3.out)).trans HS3.out);have HRg4:=hid ((HRg3.out.below hb3).upto hb3.size);have HV:=hid (hv.lo HB3.out.size);rw[<-hsB];clear HB2 HB3 HG2 HG3 HS3 HRg3 hb3 hsB;cases hfl:flX (kG rs) rs with
 |some x=>
  have HZ:Hid (soZ rs none=some x):=by show _=_;unfold soZ;simp only;rw[hfl]
  rw[hfl]at hv HV;obtain⟨tt,uu,rfl⟩:=hv.shape (by simp);clear hv hfl HAb
  go_wp2_with fail
  go_ret2
  refine⟨HB4.out,.inl ⟨by rw[HZ.out];simp,_,rfl,?_⟩⟩;rw[HZ.out];exact HV.out
 |none=>
  have HFx:Hid (flX (kG rs) rs=none):=hfl;rw[hfl]at hv;obtain rfl:v=.nilIface:=hv;have HAb4:=hid (HAb.out w3 so0 cap0 HB4.out HRg4.out);obtain⟨g4,_⟩:=Qk HG4.out;have lg4:=Qz HG4.out;obtain⟨s4,_⟩:=Qk HS4.out;have ls4:=Qz HS4.out;clear hfl HAb HV HRg4
  go_wp2_with fail
  refine HAb4.out.mono ?_;clear HAb4 g4 lg4 s4 ls4;rintro e w4 ⟨ub,vs,rfl,hvs,hU⟩;have HVs:Hid (vs.length=n):=hvs;have HU:=hid hU;have HG5:=hid ((hU.be.block _ (Qz HG4.out)).trans HG4.out);have HB5:=hid (HB4.out.trans (hU.be.mono HB4.out.size));obtain⟨g5,_⟩:=Qk HG5.out;have lg5:=Qz HG5.out;have HUw:=hid (hU.from HB4.out);have HUm:=hid (z9P hU hvs (y2F HXx.out.1 HXx.out.2.2) hn);clear hvs hU HG4 HS4 HB4 HU
  go_wp2_with fail
  clear g5 lg5
  go_loopw [30] (fun i wr=>∃j:Nat,i=.int .i64 j/\j<=n/\Hid (Below w4.heap.size w4 wr)/\Hid (∀i,i<j->¬Bck (bgU rs) i)) (fun i _=>n-(intOf i).toNat)
  case atStart=>exact⟨0,rfl,Nat.zero_le _,Below.refl _ _,fun i h=>absurd h (by omega)⟩
  case round=>
   obtain⟨j,rfl,hj,HBj,HNj⟩:=hrel;by_cases hjn:j<n
   ·have hjI:(j:Int)<(n:Int):=by omega
    have a0:decide ((j:Int)<(n:Int))=true:=by simp;omega
    have hjs:j<rs.length:=by rw[<-HNl.out];exact hjn
    obtain⟨g,o,rfl,hg,k1,T1,a1,b1,c1,d1,so1,n1,cap1,p1,hrt,r0⟩:=HR.out.2.2 j hjs;have hbw:=HB5.out.trans (HBj.out.mono HB5.out.size);have hce:∀q,wr.cell? ⟨g,q,none⟩=w.cell? ⟨g,q,none⟩:=fun q=>hbw.cell (p:=⟨g,q,none⟩) hg
    simp only[<-hce]at r0;obtain⟨z0,z1,z2,z3,z4,z5,z6,z7,z8,z9⟩:=r0;have hgl:g<wr.heap.size:=World.block_lt_of_cell? wr _ z0;obtain⟨N0,hN0⟩:∃N0,N0=rs[j].1:=⟨_,rfl⟩;obtain⟨q1,hq1⟩:∃q1,q1=rs[j].2.2:=⟨_,rfl⟩;rw[<-hN0]at z0;rw[<-hq1]at z9;have HQ1:Hid (q1=rs[j].2.2):=hq1;obtain⟨W6,hW6⟩:∃W6,W6=wr.alloc (.cells #[.string N0,.int .i64 k1,.string T1,.int .u64 a1,.int .u64 b1,.int .u64 c1,.int .u64 d1,.slice so1 n1 cap1,.int .i64 p1,.int .i64 q1] 73):=⟨_,rfl⟩;have hb6:Below w4.heap.size w4 W6:=by rw[hW6];exact HBj.out.alloc HBj.out.size _
    have hR6:W6.heap[wr.heap.size]? =some (.cells #[.string N0,.int .i64 k1,.string T1,.int .u64 a1,.int .u64 b1,.int .u64 c1,.int .u64 d1,.slice so1 n1 cap1,.int .i64 p1,.int .i64 q1] 73):=by rw[hW6];exact Qx wr _ rfl
    have hUm6:UsM W6 W6.heap.size (.slice (some ⟨ub,0,none⟩) n n) (bgU rs):=y2C HUm.out hb6;have HBk:=hid (y2y (.slice (some ⟨ub,0,none⟩) n n) (bgU rs) n j W6 hUm6 (by rw[y2A];exact HNl.out.symm) (fun u hu x hx=>by rw[HNl.out];exact y2E HXx.out.1 HXx.out.2.1 u hu x hx) hn hjn);have HB6:=hid hb6;have HR6:=hid hR6;have HW6:=hid hW6;clear hce hN0 hq1 hrt hbw hb6 hR6 hUm6 hW6
    go_wp2_with fail
    rw[<-HW6.out];refine HBk.out.mono ?_;clear HBk HW6 z0 z1 z2 z3 z4 z5 z6 z7 z8 z9;rintro e w5 ⟨⟨rfl,hbk⟩|⟨rfl,hbk⟩,hb5⟩
    ·have hR5:=(hb5.block _ (Qz HR6.out)).trans HR6.out
     obtain⟨rB,hrB⟩:∃rB,rB=wr.heap.size:=⟨_,rfl⟩;rw[<-hrB]at hR5 ⊢;have HS0:Hid (w5.drew.cell? ⟨rB,9,none⟩=some (.int .i64 q1)):=(Zc hR5 9 _ rfl).1;have lr5:=Qz hR5;have hb4w:=HB5.out.trans ((HB6.out.trans (hb5.mono HB6.out.size)).mono HB5.out.size);have HBw:=hid hb4w;have hsz5:w.heap.size<=w5.heap.size:=hb4w.size;have HZ:Hid (soZ rs none=some (.inr (41,q1))):=by
      show _=_;unfold soZ;simp only;rw[HFx.out];simp only;rw[y2B hjs hbk HNj.out,<-HQ1.out];rfl
     clear hbk hb5 hrB hb4w hR5
     go_wp2_with fail
     refine Zl 99 (fun W:World=>W.cell? ⟨rB,9,none⟩=some (.int .i64 q1)) (by kernel_rfl) HS0.out (fun hHeld=> ?_);refine Qq 0 hHeld ?_;refine Qq 1 hHeld ?_;refine Qq 2 hHeld ?_;refine Qq 5 hHeld ?_
     (refine Qd 3 (fun K hK=> ?_);go_simp;replace hHeld:=y2z hHeld ((Below.refl _ w5.drew).alloc L0q (.cells #[.int .i64 41,.int .i64 q1] 98));refine hK.out _ _ hHeld ?_;clear hK K)
     (try simp only[Act.put,List.setIfInBounds_toArray,List.set_cons_zero,List.set_cons_succ])
     refine Qq 4 hHeld ?_;refine Qq 6 hHeld ?_;refine⟨by kernel_rfl,?_⟩;clear hHeld
     go_wp2_with fail
     go_ret2
     refine⟨(HBw.out.alloc HBw.out.size _).drew,.inl ⟨by rw[HZ.out];simp,_,rfl,?_⟩⟩;rw[HZ.out];exact⟨_,rfl,hsz5,Qx w5 _ rfl⟩
    ·have HN2:=hid hbk
     have HB7:=hid (HB6.out.trans (hb5.mono HB6.out.size));clear hbk hb5
     go_wp2_with fail
     refine⟨⟨j+1,by go_num,by omega,HB7,fun i hi=> ?_⟩,by simp[intOf];omega⟩;rcases Nat.lt_or_ge i j with h1|h1
     ·exact HNj.out i h1
     ·obtain rfl:i=j:=by omega
      exact HN2.out
   ·have a0:decide ((j:Int)<(n:Int))=false:=by simp;omega
    have HZ:Hid (soZ rs none=none):=by
     show _=_;unfold soZ;simp only;rw[HFx.out];simp only;rw[z4w (fun i hi=>HNj.out i (by have:=HNl.out;omega))];rfl
    go_wp2_with fail
    go_ret2
    have hU9:=HUw.out.below (HBj.out);refine⟨hU9.be,.inr ⟨HZ.out,rfl,ub,vs,by rw[<-HNl.out];rfl,by rw[<-HNl.out];exact HVs.out,?_⟩⟩;rw[<-HNl.out];exact hU9
theorem y2I(so:Option Addr)(n cap:Nat)(rs:List Rr)(X:Option (Int ⊕ (Int×Int)))(B:Nat)(fp:Addr)(w:World)(hX:CkX rs X)(hP:X=none->PrG rs)(hC:CkC so n cap rs X w)(hz:RgZ rs)(h:Qv w B so n rs)(hB:B<=w.heap.size)(hT:TabIs w)(hF:w.cell? ⟨1,0,none⟩=some (.iface 379 (.pointer (some fp)))):∀W:World,Below w.heap.size w W->Calls prog 58 #[.agg #[.slice so n cap]] W (SbP rs X W):=fun W hW=>by
 have hup:∀{W'},Below W.heap.size W W'->Below w.heap.size w W':=fun hW'=>hW.trans (hW'.mono hW.size)
 have hOf:=fun(W':World) (hW':Below W.heap.size W W')=>y1Z so n cap rs X B w hX hC hz h hB W' (hup hW')
 cases X with
 |some x=>
  refine(y2G so n cap (some x) W (hid fun W' hW'=>(hOf W' hW').mono fun e w' he=> ?_)).mono fun e w' he=> ?_
  ·obtain⟨hb,⟨_,v,h1,h2⟩|⟨h0,_⟩⟩:=he
   ·obtain⟨tt,uu,rfl⟩:=h2.shape (by simp)
    exact⟨tt,uu,h1,h2,hb⟩
   ·cases h0
  ·obtain⟨v,h1,h2,h3⟩:=he
   exact⟨h3,.inl ⟨by unfold soZ;simp,v,h1,h2⟩⟩
 |none=>
  have hlen:=(Jb hX.1).2;have hpr:=hP rfl;have hn:n<=1048576:=by have:=h.1;omega
  have hfl:1<w.heap.size:=World.block_lt_of_cell? w _ hF;refine y2H so n cap rs W ((h.below (hW.mono hB)).upto (Nat.le_trans hB hW.size)) hn hX (hid hOf) (hid fun W' so0 cap0 hW' hg=> ?_) (hid fun W' so0 cap0 hW' hg=> ?_)
  ·exact y2j so n cap so0 n cap0 rs (kG rs) fp W' ((h.below ((hup hW').mono hB)).upto (Nat.le_trans hB (hup hW').size)) hn hg hX.1 hX.2.1 hz hpr (hT.below (hup hW') hT.lt) (((hup hW').cell (p:=⟨1,0,none⟩) hfl).trans hF)
  ·exact y2r so n cap so0 n cap0 rs (kG rs) W' ((h.below ((hup hW').mono hB)).upto (Nat.le_trans hB (hup hW').size)) hn hg hX.1 hX.2.1 hz hpr (hT.below (hup hW') hT.lt) hX.2.2
def rkF(us:List (List Int)):Nat->Nat->Nat
 |0,_=>0
 |f+1,i=>(us.getD i []).foldl (fun o x=>max o (rkF us f x.toNat+1)) 0
inductive Pth (us:List (List Int)):Nat->List Nat->Prop where
 |one (i:Nat):Pth us i [i]
 |more {i j:Nat} {p:List Nat}:(j:Int)∈us.getD i []->Pth us j p->Pth us i (i::p)
def rkP(us:List (List Int))(i:Nat):Nat:=rkF us us.length i
theorem y2J{j:Nat}(h:i≠j):Lit.int .i64 i≠Lit.int .i64 j:=fun e=>h (by injection e with _ e;omega)
theorem z4x(a:Int):WideAt.IsKeyLit (.int .i64 a):=trivial
def Im(W:World)(B n:Nat)(us:List (List Int))(km:List Bool):Prop:=∃(D:DataW Unit) (c:Nat),W.ownsMap prog 3 (plainElem prog 3) B c D/\c+unm km<=n/\∀i:Nat,Maps.has D (.int .i64 i)=km.getD i false/\(km.getD i false=true->D.atKey (.int .i64 i) (.lit (.int .i64 0))=.lit (.int .i64 (rkP us i:Nat)))
theorem Im.put{W':World}{B n c p:Nat}{us:List (List Int)}{km:List Bool}{D:DataW Unit}(hm:Maps.IsMap D)(hc:c+unm km<=n)(hD:∀i:Nat,Maps.has D (.int .i64 i)=km.getD i false/\(km.getD i false=true->D.atKey (.int .i64 i) (.lit (.int .i64 0))=.lit (.int .i64 (rkP us i:Nat))))(hp:km[p]? =some false)
  (h:W'.ownsMap prog 3 (plainElem prog 3) B (c+1) (D.put (.int .i64 p) (.lit (.int .i64 (rkP us p:Nat))))):Im W' B n us (km.set p true):=by
 have hl:p<km.length:=(List.getElem?_eq_some_iff.1 hp).1;refine⟨_,_,h,by have:=Rw km p hp;omega,fun i=> ?_⟩;by_cases e:p=i
 ·subst e
  have hs:(km.set p true).getD p false=true:=by rw[List.getD_eq_getElem?_getD,List.getElem?_set_self hl];rfl
  rw[hs];exact⟨Maps.has_put_same hm (z4x _) _,fun _=>Maps.atKey_put_same hm (z4x _) _ _⟩
 ·have hs:(km.set p true).getD i false=km.getD i false:=by rw[List.getD_eq_getElem?_getD,List.getElem?_set_ne e,<-List.getD_eq_getElem?_getD]
  have hne:=y2J (fun h=>e h.symm:i≠p);rw[hs,Maps.has_put_other hne,Maps.atKey_put_other hne];exact hD i
structure Kg (us:List (List Int)) (P:Nat->Prop) (km km':List Bool):Prop where
 len:km'.length=km.length
 mono:∀i:Nat,km[i]? =some true->km'[i]? =some true
 new:∀i:Nat,km[i]? =some false->km'[i]? =some true->P i
theorem Kg.refl(us:List (List Int))(P:Nat->Prop)(km:List Bool):Kg us P km km:=⟨rfl,fun _ h=>h,fun i h1 h2=>by rw[h1]at h2;cases h2⟩
theorem Kg.trans{us:List (List Int)}{P:Nat->Prop}{a b c:List Bool}(h:Kg us P a b)(k:Kg us P b c):Kg us P a c:=by
 refine⟨k.len.trans h.len,fun i hi=>k.mono i (h.mono i hi),fun i h1 h3=> ?_⟩;have hl:i<b.length:=by rw[h.len];exact(List.getElem?_eq_some_iff.1 h1).1
 cases e:b[i]with
 |true=>exact h.new i h1 (by rw[List.getElem?_eq_getElem hl,e])
 |false=>exact k.new i (by rw[List.getElem?_eq_getElem hl,e]) h3
def Kp(M:Nat)(W W':World):Prop:=W.heap.size<=W'.heap.size/\∀b,b<W.heap.size->b≠M->W'.heap[b]? =W.heap[b]?
theorem Kp.refl(M:Nat)(W:World):Kp M W W:=⟨Nat.le_refl _,fun _ _ _=>rfl⟩
theorem Kp.trans{M:Nat}{a b c:World}(h:Kp M a b)(k:Kp M b c):Kp M a c:=⟨Nat.le_trans h.1 k.1,fun i hi hne=>(k.2 i (Nat.lt_of_lt_of_le hi h.1) hne).trans (h.2 i hi hne)⟩
theorem y2K(so:Option Addr)(n cap:Nat)(rs:List Rr)(X:Option (Int ⊕ (Int×Int)))(w:World)
  (HC:Hid (∀W:World,Below w.heap.size w W->Calls prog 58 #[.agg #[.slice so n cap]] W (SbP rs X W))):
  Calls prog 31 #[.agg #[.slice so n cap]] w fun e w'=>∃v,e=.returned v/\Zv (soZ rs X) w.heap.size w' v/\Below w.heap.size w w':=by
 obtain⟨W1,hW1⟩:∃W1,W1=w.alloc (.cells #[.slice so n cap] 24):=⟨_,rfl⟩;have hB1:Below w.heap.size w W1:=by rw[hW1];exact(Below.refl _ w).alloc L0q _
 have HS:Hid (Calls prog 58 #[.agg #[.slice so n cap]] W1 fun e w'=>∃a v,e=.returned (.tuple #[a,v])/\Zv (soZ rs X) W1.heap.size w' v/\Below W1.heap.size W1 w'):=(HC.out W1 hB1).mono fun e w' he=>by
  obtain⟨hb,⟨_,v,h1,h2⟩|⟨h0,_,ub,vs,h1,_⟩⟩:=he
  ·exact⟨_,v,h1,h2,hb⟩
  ·exact⟨_,_,h1,by rw[h0];rfl,hb⟩
 have HB1:=hid hB1;have HW1:=hid hW1;clear hW1 hB1 HC;go_enter func31,ntmps31
 go_wp2_with fail
 rw[<-HW1.out];refine HS.out.mono ?_;rintro e w2 ⟨a,v,rfl,hv,hb2⟩;have HV:=hid (hv.lo HB1.out.size);have HB2:=hid (HB1.out.trans (hb2.mono HB1.out.size));clear hv hb2 HS HW1 HB1
 go_wp2_with fail
 go_ret;exact⟨_,rfl,HV.out,HB2.out⟩
theorem y2L(so:Option Addr)(n cap:Nat)(rs:List Rr)(X:Option (Int ⊕ (Int×Int)))(B:Nat)(fp:Addr)(w:World)(hX:CkX rs X)(hP:X=none->PrG rs)(hC:CkC so n cap rs X w)(hz:RgZ rs)(h:Qv w B so n rs)(hB:B<=w.heap.size)(hT:TabIs w)(hF:w.cell? ⟨1,0,none⟩=some (.iface 379 (.pointer (some fp)))):∀W:World,Below w.heap.size w W->Calls prog 31 #[.agg #[.slice so n cap]] W fun e w'=>∃v,e=.returned v/\Zv (soZ rs X) W.heap.size w' v/\Below W.heap.size W w':=fun W hW=>
 y2K so n cap rs X W (hid fun W' hW'=>y2I so n cap rs X B fp w hX hP hC hz h hB hT hF W' (hW.trans (hW'.mono hW.size)))
end Go.Proofs.YtlogolpcipiceaaGreatDoor
