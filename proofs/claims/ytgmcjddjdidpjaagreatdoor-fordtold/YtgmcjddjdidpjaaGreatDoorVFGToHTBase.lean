/- Lemmas for the last text. Conditions: those that each names. -/
import Derived.Test.YtgmcjddjdidpjaaGreatDoorVFF
import Derived.Test.YtgmcjddjdidpjaaGreatDoorVT15ToT16
import Derived.Test.YtgmcjddjdidpjaaGreatDoorVX10ToY2
import Derived.Test.YtgmcjddjdidpjaaGreatDoorRows
import Derived.ProofKit
import Derived.OpenShut
import Derived.Carry
import Derived.Test.YtgmcjddjdidpjaaGreatDoorCards
import Derived.Test.YtgmcjddjdidpjaaGreatDoorTie
import Derived.LaidMore
import Derived.LaidHandle
import Derived.Stop.Joined
import Derived.SizedLaws
import Derived.Lib.LaidTab
import Derived.Test.YtgmcjddjdidpjaaGreatDoorVX17ToQ1
import Derived.Stop.LaidErr
import Derived.LaidLaws
import Derived.Test.YtgmcjddjdidpjaaGreatDoorVRLToGI
import Derived.Test.YtgmcjddjdidpjaaGreatDoorVGVToF3
import Derived.Test.YtgmcjddjdidpjaaGreatDoorVU12ToU15
import Derived.Test.YtgmcjddjdidpjaaGreatDoorVPR2ToT12
set_option linter.unusedVariables false
set_option maxRecDepth 100000
set_option maxHeartbeats 8000000
namespace Go.Proofs.YtgmcjddjdidpjaaGreatDoor
open Go.Proofs.Tryz
open Go.RowKit Go.Shelf Go.Maps
variable {W:World}
theorem y7o(so:Option Addr)(n cap:Nat)(so0:Option Addr)(n0 cap0:Nat)(rs:List Rr)(K:ByteArray->Ot)(B B0:Nat)(W:World)(h:Qg W B so n rs)(hB:B<=W.heap.size)(h0:Qg W B0 so0 n0 (bG rs K))(hB0:B0<=W.heap.size)(hz:RgZ rs)(hu:RgU rs)(hp:PrG rs)(hok:okG rs=true)(hck:ckR rs=none)(hT:TabIs W):Calls prog 35 #[.agg #[.slice so n cap],.agg #[.slice so0 n0 cap0]] W (LaP K rs W):=
 callsIn_wide.1 (y7n so n cap so0 n0 cap0 rs K W (h.upto hB) (hid hz) (hid fun x hx=>Eb hp hck hz hx) (hid hu) (hid (z5l hck)) (by have:=(Ff hok).2;omega) (hid fun x hx k T a b c d so1 n1 cap1 p hrt W' hW'=>y6x rs K so0 n0 cap0 B0 W.heap.size x.2.1 k T a b c d p so1 n1 cap1 W' hok hck hz (Eb hp hck hz hx) (hrt.below hW') hW'.size (h0.below (hW'.mono hB0)) (Nat.le_trans hB0 hW'.size) (hT.below hW' hT.lt)) 0)
theorem Tryz.infoAh:(Tryz.prog.info? 53).map (fun i=>(i.zero,i.size,i.bytes))=some (some (.agg #[.int .u64 0,.int .u64 0,.int .u64 0,.int .u64 0,.bool false]),5,40):=by kernel_rfl
theorem Tryz.sliceAhs:Tryz.prog.underlying 43=some (.slice 53):=by kernel_rfl
theorem y7p(n:Nat)(hn:n<=1048576)(W:World):(Instr.makeSlice 43 (.int .i64 n) (.int .i64 n)).run prog W=.ok (.slice (some ⟨W.heap.size,0,none⟩) n n) (W.alloc (.cells (madeCells #[.int .u64 0,.int .u64 0,.int .u64 0,.int .u64 0,.bool false] (n*5)) 53)):=by
 obtain⟨i0,hi0,hz0,hz1,hz2⟩:=info_parts Tryz.infoAh;rw[run_make W 43 53 i0 _ Tryz.sliceAhs hi0 hz0 .i64 .i64 n n (by omega) (by omega) (by rw[hz2];omega) (by omega),hz1];simp[Value.cells]
def AhC(cs:Array Value)(rs:List Rr)(F:ByteArray->Ah)(j:Nat):Prop:=cs.size=rs.length*5/\∀i (hi:i<rs.length),i<j->cs[i*5]? =some (.int .u64 (wd (F rs[i].1).1 0:Nat))/\cs[i*5+1]? =some (.int .u64 (wd (F rs[i].1).1 1:Nat))/\cs[i*5+2]? =some (.int .u64 (wd (F rs[i].1).1 2:Nat))/\cs[i*5+3]? =some (.int .u64 (wd (F rs[i].1).1 3:Nat))/\cs[i*5+4]? =some (.bool (F rs[i].1).2)
theorem AhC.old{cs:Array Value}{rs:List Rr}{F:ByteArray->Ah}{j:Nat}(h:AhC cs rs F j)(hj:j<rs.length):∃v0 v1 v2 v3 v4,cs[j*5]? =some v0/\cs[j*5+1]? =some v1/\cs[j*5+2]? =some v2/\cs[j*5+3]? =some v3/\cs[j*5+4]? =some v4:=
 ⟨_,_,_,_,_,Array.getElem?_eq_getElem (by rw[h.1];omega),Array.getElem?_eq_getElem (by rw[h.1];omega),Array.getElem?_eq_getElem (by rw[h.1];omega),Array.getElem?_eq_getElem (by rw[h.1];omega),Array.getElem?_eq_getElem (by rw[h.1];omega)⟩
theorem AhC.step{cs:Array Value}{rs:List Rr}{F:ByteArray->Ah}{j:Nat}(h:AhC cs rs F j)(hj:j<rs.length){y:Ah}(hy:y=F rs[j].1):AhC (((((cs.setIfInBounds (j*5) (.int .u64 (wd y.1 0:Nat))).setIfInBounds (j*5+1) (.int .u64 (wd y.1 1:Nat))).setIfInBounds (j*5+2) (.int .u64 (wd y.1 2:Nat))).setIfInBounds (j*5+3) (.int .u64 (wd y.1 3:Nat))).setIfInBounds (j*5+4) (.bool y.2)) rs F (j+1):=by
 have hs:=h.1;refine⟨by simp[hs],fun i hi hij=> ?_⟩;have g:∀k v,k<cs.size->k≠j*5->k≠j*5+1->k≠j*5+2->k≠j*5+3->k≠j*5+4->cs[k]? =some v->(((((cs.setIfInBounds (j*5) (.int .u64 (wd y.1 0:Nat))).setIfInBounds (j*5+1) (.int .u64 (wd y.1 1:Nat))).setIfInBounds (j*5+2) (.int .u64 (wd y.1 2:Nat))).setIfInBounds (j*5+3) (.int .u64 (wd y.1 3:Nat))).setIfInBounds (j*5+4) (.bool y.2))[k]? =some v:=fun k v hk h0 h1 h2 h3 h4 hv=>by
  rw[Array.getElem?_setIfInBounds_ne (fun e=>h4 e.symm),Array.getElem?_setIfInBounds_ne (fun e=>h3 e.symm),Array.getElem?_setIfInBounds_ne (fun e=>h2 e.symm),Array.getElem?_setIfInBounds_ne (fun e=>h1 e.symm),Array.getElem?_setIfInBounds_ne (fun e=>h0 e.symm)];exact hv
 rcases Nat.lt_or_ge i j with h1|h1
 ·obtain⟨a,b,c,d,e⟩:=h.2 i hi h1
  exact⟨g _ _ (by omega) (by omega) (by omega) (by omega) (by omega) (by omega) a,g _ _ (by omega) (by omega) (by omega) (by omega) (by omega) (by omega) b,g _ _ (by omega) (by omega) (by omega) (by omega) (by omega) (by omega) c,g _ _ (by omega) (by omega) (by omega) (by omega) (by omega) (by omega) d,g _ _ (by omega) (by omega) (by omega) (by omega) (by omega) (by omega) e⟩
 ·obtain rfl:i=j:=by omega
  rw[<-hy];refine⟨?_,?_,?_,?_,?_⟩
  ·rw[Array.getElem?_setIfInBounds_ne (by omega),Array.getElem?_setIfInBounds_ne (by omega),Array.getElem?_setIfInBounds_ne (by omega),Array.getElem?_setIfInBounds_ne (by omega),Array.getElem?_setIfInBounds_self_of_lt (by first|omega|(simp;omega))]
  ·rw[Array.getElem?_setIfInBounds_ne (by omega),Array.getElem?_setIfInBounds_ne (by omega),Array.getElem?_setIfInBounds_ne (by omega),Array.getElem?_setIfInBounds_self_of_lt (by first|omega|(simp;omega))]
  ·rw[Array.getElem?_setIfInBounds_ne (by omega),Array.getElem?_setIfInBounds_ne (by omega),Array.getElem?_setIfInBounds_self_of_lt (by first|omega|(simp;omega))]
  ·rw[Array.getElem?_setIfInBounds_ne (by omega),Array.getElem?_setIfInBounds_self_of_lt (by first|omega|(simp;omega))]
  ·rw[Array.getElem?_setIfInBounds_self_of_lt (by first|omega|(simp;omega))]
def FrP(rs:List Rr)(X:Option (Int ⊕ (Int×Int)))(W:World)(e:Ending)(w':World):Prop:=Below W.heap.size W w'/\
 ((X≠none/\∃v,e=.returned (.tuple #[.slice none 0 0,v])/\Zw X W.heap.size w' v)∨
  (X=none/\∃ub m mm cs,e=.returned (.tuple #[.slice (some ⟨ub,0,none⟩) rs.length rs.length,.nilIface])/\W.heap.size<=ub/\Yv (itr rs m) rs/\Mm (itr rs m) (Xw (itr rs m) rs mm) rs/\BdA (Xw (itr rs m) rs mm)/\w'.heap[ub]? =some (.cells cs 53)/\AhC cs rs (Xw (itr rs m) rs mm) rs.length))
theorem Zw.toA{X:Option (Int ⊕ (Int×Int))}{S:Nat}{w w':World}{v:Value}(h:Zw X S w v)(hb:Below w.heap.size w w'):Zw X S w' v:=by
 match X,h with
 |none,h=>exact h
 |some (.inl c),h=>exact h
 |some (.inr q),⟨g,h1,h2,h3⟩=>exact⟨g,h1,h2,(hb.block g (Qz h3)).trans h3⟩
theorem y7q(so:Option Addr)(n cap:Nat)(X:Option (Int ⊕ (Int×Int)))(w:World)
  (HC:Hid (∀W:World,Below w.heap.size w W->Calls prog 34 #[.agg #[.slice so n cap]] W fun e w'=>∃tt uu,e=.returned (.tuple #[.agg #[.slice none 0 0],.iface tt uu])/\Zw X W.heap.size w' (.iface tt uu)/\Below W.heap.size W w')):
  Calls prog 18 #[.agg #[.slice so n cap]] w fun e w'=>∃v,e=.returned (.tuple #[.slice none 0 0,v])/\Zw X w.heap.size w' v/\Below w.heap.size w w':=by
 obtain⟨W1,hW1⟩:∃W1,W1=w.alloc (.cells #[.slice so n cap] 24):=⟨_,rfl⟩;have hB1:Below w.heap.size w W1:=by rw[hW1];exact(Below.refl _ w).alloc L0q _
 have HS:=hid (HC.out W1 hB1);have HB1:=hid hB1;have HW1:=hid hW1;clear hW1 hB1 HC;go_enter func18,ntmps18
 go_wp2_with fail
 rw[<-HW1.out];refine HS.out.mono ?_;rintro e w2 ⟨tt,uu,rfl,hv,hb2⟩;have HV:=hid hv;have HB2:=hid (HB1.out.trans (hb2.mono HB1.out.size));have HSz:=hid HB1.out.size;clear hv hb2 HS HW1 HB1
 go_wp2_with fail
 go_ret2
 exact⟨_,rfl,(HV.out.lo HSz.out).toA ((Below.refl _ w2).alloc L0q _),HB2.out.alloc HB2.out.size _⟩
theorem y7r(so:Option Addr)(n cap:Nat)(rs:List Rr)(w:World)(h:Qg w w.heap.size so n rs)(HZ:Hid (RgZ rs))(hn:n<=1048576)
  (HC:Hid (∀W:World,Below w.heap.size w W->Calls prog 34 #[.agg #[.slice so n cap]] W fun e w'=>∃so' cap' m,e=.returned (.tuple #[.agg #[.slice so' rs.length cap'],.nilIface])/\Yv (itr rs m) rs/\Qg w' w'.heap.size so' rs.length (bG rs (itr rs m))/\Below W.heap.size W w'))
  (HL:Hid (∀(W:World) (B:Nat) (so':Option Addr) (cap' m:Nat),Below w.heap.size w W->B<=W.heap.size->Qg W B so' rs.length (bG rs (itr rs m))->Calls prog 35 #[.agg #[.slice so n cap],.agg #[.slice so' rs.length cap']] W (LaP (itr rs m) rs W))):
  Calls prog 18 #[.agg #[.slice so n cap]] w (FrP rs none w):=by
 obtain⟨W1,hW1⟩:∃W1,W1=w.alloc (.cells #[.slice so n cap] 24):=⟨_,rfl⟩;have hB1:Below w.heap.size w W1:=by rw[hW1];exact(Below.refl _ w).alloc L0q _
 have HG1:Hid (W1.heap[w.heap.size]? =some (.cells #[.slice so n cap] 24)):=by rw[hW1];exact Qq w _ rfl
 have HS:=hid (HC.out W1 hB1);have HB1:=hid hB1;have HW1:=hid hW1;have hmk:=y7p n hn;have HR:=hid h;have HNl:Hid (n=rs.length):=h.1;clear hW1 hB1 HC h;go_enter func18,ntmps18
 go_wp2_with fail
 rw[<-HW1.out];refine HS.out.mono ?_;rintro e w2 ⟨so',cap',m,rfl,hFo,hRg,hb2⟩;have hbA:=(Below.refl _ w2).alloc L0q (.cells #[.slice so' rs.length cap'] 24);have hB2:=HB1.out.trans (hb2.mono HB1.out.size);have HB2:=hid (hB2.trans (hbA.mono hB2.size));have hG2:=(hbA.block _ (Qz ((hb2.block _ (Qz HG1.out)).trans HG1.out))).trans ((hb2.block _ (Qz HG1.out)).trans HG1.out);have HG2:=hid hG2;obtain⟨g2,_⟩:=Qk hG2;have lg2:=Qz hG2;have lg1:=Qz ((hb2.block _ (Qz HG1.out)).trans HG1.out);have gw:=(Qk ((hb2.block _ (Qz HG1.out)).trans HG1.out)).1;have HFo:=hid hFo;have HLa:=hid (HL.out (w2.alloc (.cells #[.slice so' rs.length cap'] 24)) w2.heap.size so' cap' m HB2.out hbA.size (hRg.below hbA));clear hb2 hB2 hbA hRg hFo HS HW1 HB1 HG1 HL hG2
 go_wp2_with fail
 refine HLa.out.mono ?_;rintro e w3 ⟨M,nn,mm,rfl,hM,hNm,hFx,hBd,hb3⟩;have HB3:=hid (HB2.out.trans (hb3.mono HB2.out.size));have HG3:=hid ((hb3.block _ lg2).trans HG2.out);obtain⟨g3,_⟩:=Qk HG3.out;have lg3:=Qz HG3.out;have HNm:=hid hNm;have HFx:=hid hFx;have HBd:=hid hBd;clear hNm hFx hBd hb3 g2 gw hM
 go_wp2_with fail
 obtain⟨ub,hub⟩:∃ub,ub=w3.heap.size:=⟨_,rfl⟩;obtain⟨W4,hW4⟩:∃W4,W4=w3.alloc (.cells (madeCells #[.int .u64 0,.int .u64 0,.int .u64 0,.int .u64 0,.bool false] (n*5)) 53):=⟨_,rfl⟩;have HB4:Hid (Below w.heap.size w W4):=by rw[hW4];exact HB3.out.alloc HB3.out.size _
 have HN4:Hid (Na W4 M nn (Xw (itr rs m) rs mm)):=by rw[hW4];exact HNm.out.kept (World.grownBy_alloc _ _ none) (by simp)
 have HU4:Hid (W4.heap[ub]? =some (.cells (madeCells #[.int .u64 0,.int .u64 0,.int .u64 0,.int .u64 0,.bool false] (n*5)) 53)):=by rw[hW4,hub];exact Qq _ _ rfl
 have HO4:Hid (AhC (madeCells #[.int .u64 0,.int .u64 0,.int .u64 0,.int .u64 0,.bool false] (n*5)) rs (Xw (itr rs m) rs mm) 0):=⟨by rw[size_madeCells,HNl.out],fun i hi h0=>by omega⟩;have hMu:M<ub:=by rw[hub];exact HNm.out.lt
 have hwu:w.heap.size<=ub:=by rw[hub];exact HB3.out.size
 rw[<-hW4,<-hub];clear hW4 hub HB3 HG3 g3 lg3 HNm hmk HB2 HG2 lg2 HLa lg1;obtain⟨F,hFF⟩:∃F,F=Xw (itr rs m) rs mm:=⟨_,rfl⟩;rw[<-hFF]at HN4 HO4 HFx HBd;have HFF:=hid hFF;clear hFF
 go_loopw [28] (fun i wr=>∃j:Nat,i=.int .i64 j/\j<=n/\Hid (Below w.heap.size w wr)/\Hid (Na wr M nn F)/\Hid (∃cs,wr.heap[ub]? =some (.cells cs 53)/\AhC cs rs F j)) (fun i _=>n-(intOf i).toNat)
 case atStart=>exact⟨0,rfl,Nat.zero_le _,HB4,HN4,⟨_,HU4.out,HO4.out⟩⟩
 case round=>
  obtain⟨j,rfl,hj,HB,HN,HC⟩:=hrel;by_cases hjn:j<n
  ·have hjI:(j:Int)<(n:Int):=by omega
   have a0:decide ((j:Int)<(n:Int))=true:=by simp;omega
   have hjs:j<rs.length:=by rw[<-HNl.out];exact hjn
   obtain⟨g,o,rfl,hg,k1,T1,a1,b1,c1,d1,so1,n1,cap1,p1,hrt,r0⟩:=HR.out.2.2 j hjs;have hce:∀q,wr.cell? ⟨g,q,none⟩=w.cell? ⟨g,q,none⟩:=fun q=>HB.out.cell (p:=⟨g,q,none⟩) hg
   simp only[<-hce]at r0;obtain⟨z0,z1,z2,z3,z4,z5,z6,z7,z8,z9⟩:=r0;have hgl:g<wr.heap.size:=World.block_lt_of_cell? wr _ z0;obtain⟨N0,hN0⟩:∃N0,N0=rs[j].1:=⟨_,rfl⟩;obtain⟨q1,hq1⟩:∃q1,q1=rs[j].2.2:=⟨_,rfl⟩;rw[<-hN0]at z0;rw[<-hq1]at z9;have hNz:N0.size<=maxLen:=by rw[hN0];exact(HZ.out _ (List.getElem_mem hjs)).1
   obtain⟨y,hy⟩:∃y,y=F N0:=⟨_,rfl⟩;have hbA:=(Below.refl _ wr).alloc L0q (.cells #[.string N0,.int .i64 k1,.string T1,.int .u64 a1,.int .u64 b1,.int .u64 c1,.int .u64 d1,.slice so1 n1 cap1,.int .i64 p1,.int .i64 q1] 65);have hNA:=HN.out.below hbA HN.out.lt;have hL:=hNA.look hNz;rw[<-hy]at hL;dsimp only[av]at hL;obtain⟨cs,hcs,hou⟩:=HC.out;have hcA:=(hbA.block _ (Qz hcs)).trans hcs;obtain⟨v0,v1,v2,v3,v4,e0,e1,e2,e3,e4⟩:=hou.old hjs;obtain⟨x0,f0⟩:=Qf hcA _ _ e0;obtain⟨x1,f1⟩:=Qf hcA _ _ e1;obtain⟨x2,f2⟩:=Qf hcA _ _ e2;obtain⟨x3,f3⟩:=Qf hcA _ _ e3;obtain⟨x4,f4⟩:=Qf hcA _ _ e4;have lu:=Qz hcA;have HY:Hid (y=F rs[j].1):=by rw[<-hN0];exact hy
   have HCA:=hid hcA;have HOU:=hid hou;have HNA:=hid hNA;have HBA:=hid (HB.out.alloc HB.out.size (.cells #[.string N0,.int .i64 k1,.string T1,.int .u64 a1,.int .u64 b1,.int .u64 c1,.int .u64 d1,.slice so1 n1 cap1,.int .i64 p1,.int .i64 q1] 65));clear hce hN0 hq1 hy hbA hNA hcs hou hcA e0 e1 e2 e3 e4 HC hrt
   go_wp2_with fail
   have hgs:∀(W:World) (a b c d e:Value),W.grownBy (((((W.setCell ⟨ub,j*5,none⟩ a).setCell ⟨ub,j*5+1,none⟩ b).setCell ⟨ub,j*5+2,none⟩ c).setCell ⟨ub,j*5+3,none⟩ d).setCell ⟨ub,j*5+4,none⟩ e) (some ub):=fun W a b c d e=>G.setR (G.setR (G.setR (G.setR (G.setR (G.refl _ _)))))
   exact⟨⟨j+1,by go_num,by omega,hid (HBA.out.grown (hgs _ _ _ _ _ _) HBA.out.size (fun g e=>by have:=Option.some.inj e;omega)),hid (HNA.out.kept (hgs _ _ _ _ _ _) (fun e=>by have:=Option.some.inj e;omega)),hid ⟨_,Qy (Qy (Qy (Qy (Qy HCA.out _ _) _ _) _ _) _ _) _ _,HOU.out.step hjs HY.out⟩⟩,by simp[intOf];omega⟩
  ·have a0:decide ((j:Int)<(n:Int))=false:=by simp;omega
   obtain⟨cs,hcs,hou⟩:=HC.out;have HCS:=hid hcs;have hjn2:n=j:=by omega
   subst hjn2;have HOU:=hid hou;clear hcs hou HC
   go_wp2_with fail
   go_ret2
   refine⟨HB.out,.inr ⟨rfl,ub,m,mm,cs,?_,hwu,HFo.out,?_,?_,HCS.out,?_⟩⟩
   ·rw[<-HNl.out];rfl
   ·rw[<-HFF.out];exact HFx.out
   ·rw[<-HFF.out];exact HBd.out
   ·rw[<-HFF.out,<-HNl.out];exact HOU.out
theorem y7s(so:Option Addr)(n cap:Nat)(rs:List Rr)(X:Option (Int ⊕ (Int×Int)))(B:Nat)(w:World)(hX:CkX rs X)(hP:X=none->PrG rs)(hC:CkC so n cap rs X w)(hz:RgZ rs)(hu:RgU rs)(h:Qg w B so n rs)(hB:B<=w.heap.size)(hT:TabIs w):∀W:World,Below w.heap.size w W->Calls prog 18 #[.agg #[.slice so n cap]] W (FrP rs X W):=fun W hW=>by
 have hup:∀{W'},Below W.heap.size W W'->Below w.heap.size w W':=fun hW'=>hW.trans (hW'.mono hW.size)
 have hOf:=fun(W':World) (hW':Below W.heap.size W W')=>z5U so n cap rs X B w hX hC hz h hB W' (hup hW')
 cases X with
 |some x=>
  refine(y7q so n cap (some x) W (hid fun W' hW'=>(hOf W' hW').mono fun e w' he=> ?_)).mono fun e w' he=> ?_
  ·obtain⟨hb,⟨_,v,h1,h2⟩|⟨h0,_⟩⟩:=he
   ·obtain⟨tt,uu,rfl⟩:=h2.shape (by simp)
    exact⟨tt,uu,h1,h2,hb⟩
   ·cases h0
  ·obtain⟨v,h1,h2,h3⟩:=he
   exact⟨h3,.inl ⟨by simp,v,h1,h2⟩⟩
 |none=>
  obtain⟨hok,hck,_⟩:=hX;have hlen:=(Ff hok).2;refine y7r so n cap rs W ((h.below (hW.mono hB)).upto (Nat.le_trans hB hW.size)) (hid hz) (by have:=h.1;omega) (hid fun W' hW'=>(hOf W' hW').mono fun e w' he=> ?_) (hid fun W' B' so' cap' m hW' hB' hRg=>y7o so n cap so' rs.length cap' rs (itr rs m) B B' W' (h.below ((hup hW').mono hB)) (Nat.le_trans hB (hup hW').size) hRg hB' hz hu (hP rfl) hok hck (hT.below (hup hW') hT.lt));obtain⟨hb,⟨h0,_⟩|⟨_,so',cap',m,h1,h2,h3⟩⟩:=he
  ·exact absurd rfl h0
  ·exact⟨so',cap',m,h1,h2,h3,hb⟩
open Go.ChangeShapes Go.WideShapes
theorem Tryz.own:ownKnob Tryz.prog.godebug=none:=by kernel_rfl
theorem Tryz.et:Tryz.prog.globalNamed "errors.errorType"=some 0:=by kernel_rfl
theorem Tryz.rt:(Tryz.prog.cutTypes.find? (·.1 == "internal/reflectlite.rtype")).map (·.2)=some 165:=by kernel_rfl
theorem Tryz.oneRow:((List.range 356).filter fun t=>Tryz.prog.rowNamed t [101,114,114,111,114])=[28]:=by kernel_rfl
theorem Tryz.nTypes:Tryz.prog.types.size=356:=by kernel_rfl
theorem y7t{l:List (String×DataW Unit)}(h:handlesMet prog l W)(hm:("errors.errorType",Rows.laid_errors_errorType)∈l):Gv W:=by
 obtain⟨name,u,ty,e1,e2,e3,e4,e5⟩:=h _ hm;have en:name=[101,114,114,111,114]:=(Option.some.inj e1).symm;subst en;obtain rfl:=Option.some.inj (Tryz.rt.symm.trans e2);have hm:ty∈(List.range 356).filter fun t=>Tryz.prog.rowNamed t [101,114,114,111,114]:=List.mem_filter.2 ⟨List.mem_range.2 (by rw[<-Tryz.nTypes];exact e3),e4⟩
 rw[Tryz.oneRow]at hm;obtain rfl:=List.mem_singleton.1 hm;have hh:typeHandle prog 28=.pointer (some ⟨4,28,none⟩):=by kernel_rfl
 rw[hh]at e5;have:=World.var?_cell Tryz.et e5 0;unfold Gv;simpa using this
theorem Tryz.laidOutW:laidOutB prog=true:=by kernel_rfl
theorem Tryz.gT:Tryz.prog.globalNamed "math/bits.deBruijn64tab"=some 3:=by kernel_rfl
theorem Tryz.gTType:(Tryz.prog.globals[3]?).map (·.type)=some 324:=by kernel_rfl
theorem Tryz.cellsTab:Tryz.prog.cellsOf 324=64:=by kernel_rfl
theorem Tryz.cellsU8:Tryz.prog.cellsOf 5=1:=by kernel_rfl
theorem y7u{rest:List (String×DataW Unit)}(h:laidMet prog (("math/bits.deBruijn64tab",Rows.laid_math_bits_deBruijn64tab)::rest) W):TabIs W:=by
 have hT:Lib.TabIs prog W "math/bits.deBruijn64tab" .u8 (Lib.deBruijn64tab.map fun n:Nat=>(n:Int)):=Lib.tabIs_of_head (rest:=rest) Tryz.gT Tryz.gTType Tryz.underlying324 Tryz.underlying5 Tryz.cellsU8 Tryz.cellsTab h;intro i hi;have:=hT.cell Tryz.gT i (by simp[Lib.deBruijn64tab];omega);rw[this];congr 2;simp only[List.getD,List.getElem?_map];cases Lib.deBruijn64tab[i]? <;>rfl
theorem Tryz.gFo:Tryz.prog.globalNamed "muntin/sound.errFound"=some 1:=by kernel_rfl
theorem Tryz.gFoType:(Tryz.prog.globals[1]?).map (·.type)=some 28:=by kernel_rfl
theorem Tryz.star8:"*"++"errors.errorString"="*errors.errorString":=by decide
theorem Tryz.rowErrStr(u:TypeId)(h:Tryz.prog.typeName? 3 u=some "*errors.errorString"):u=325:=
 typeName_ptr_named (nm:="errors.errorString") (by rw[Tryz.star8];kernel_rfl) (by kernel_rfl) (by decide) u (by rw[Tryz.star8];exact h)
theorem Tryz.cellsErrStr:Tryz.prog.cellsOf 344=1:=by kernel_rfl
theorem Tryz.cellsStr8:Tryz.prog.cellsOf 9=1:=by kernel_rfl
theorem y7v(h:laidMetH prog [("math/bits.deBruijn64tab",Rows.laid_math_bits_deBruijn64tab),("errors.errorType",Rows.laid_errors_errorType),("muntin/sound.errFound",Rows.laid_muntin_sound_errFound)] W):Gv W/\TabIs W/\∃fp:Addr,W.cell? ⟨1,0,none⟩=some (.iface 325 (.pointer (some fp))):=by
 have h':laidMet prog [("math/bits.deBruijn64tab",Rows.laid_math_bits_deBruijn64tab),("muntin/sound.errFound",Rows.laid_muntin_sound_errFound)] W/\handlesMet prog [("errors.errorType",Rows.laid_errors_errorType)] W:=h;refine⟨y7t h'.2 (List.mem_singleton.2 rfl),y7u (rest:=[("muntin/sound.errFound",Rows.laid_muntin_sound_errFound)]) h'.1,?_⟩;obtain⟨a,s,hv,_⟩:=laid_sentinel (nm:="*errors.errorString") (text:=[102,111,117,110,100]) (laidMet.tail h'.1) Tryz.gFo Tryz.gFoType Tryz.underlying28 Tryz.rowErrStr Tryz.underlying325 Tryz.underlying344 rfl rfl Tryz.underlying9 Tryz.cellsErrStr Tryz.cellsStr8;exact⟨a,by simpa using World.var?_cell Tryz.gFo hv 0⟩
theorem y7C:True:=trivial
end Go.Proofs.YtgmcjddjdidpjaaGreatDoor
