/- Lemmas for the last text. Conditions: those that each names. -/
import Derived.Test.YtjodljnddflgfaaGreatDoorVFF
import Derived.Test.YtjodljnddflgfaaGreatDoorVT14
set_option linter.unusedVariables false
set_option maxRecDepth 100000
set_option maxHeartbeats 8000000
namespace Go.Proofs.YtjodljnddflgfaaGreatDoor
open Go.Proofs.Tryz
open Go.RowKit Go.Shelf Go.Maps
theorem z5m(so:Option Addr)(n cap:Nat)(so0:Option Addr)(n0 cap0:Nat)(rs:List Rr)(K:ByteArray->Ot)(B B0:Nat)(W:World)(h:Qh W B so n rs)(hB:B<=W.heap.size)(h0:Qh W B0 so0 n0 (bG rs K))(hB0:B0<=W.heap.size)(hz:RgZ rs)(hu:RgU rs)(hp:PrG rs)(hok:okG rs=true)(hck:ckR rs=none)(hT:TabIs W):Calls prog 28 #[.agg #[.slice so n cap],.agg #[.slice so0 n0 cap0]] W (LaP K rs W):=
 callsIn_wide.1 (y2V so n cap so0 n0 cap0 rs K W (h.upto hB) (hid hz) (hid fun x hx=>z4X hp hck hz hx) (hid hu) (hid (z4B hck)) (by have:=(Dx hok).2;omega) (hid fun x hx k T a b c d so1 n1 cap1 p hrt W' hW'=>z5b rs K so0 n0 cap0 B0 W.heap.size x.2.1 k T a b c d p so1 n1 cap1 W' hok hck hz (z4X hp hck hz hx) (hrt.below hW') hW'.size (h0.below (hW'.mono hB0)) (Nat.le_trans hB0 hW'.size) (hT.below hW' hT.lt)) 0)
theorem Tryz.infoAh:(Tryz.prog.info? 39).map (fun i=>(i.zero,i.size,i.bytes))=some (some (.agg #[.int .u64 0,.int .u64 0,.int .u64 0,.int .u64 0,.bool false]),5,40):=by kernel_rfl
theorem Tryz.sliceAhs:Tryz.prog.underlying 33=some (.slice 39):=by kernel_rfl
theorem y3k(n:Nat)(hn:n<=1048576)(W:World):(Instr.makeSlice 33 (.int .i64 n) (.int .i64 n)).run prog W=.ok (.slice (some ⟨W.heap.size,0,none⟩) n n) (W.alloc (.cells (madeCells #[.int .u64 0,.int .u64 0,.int .u64 0,.int .u64 0,.bool false] (n*5)) 39)):=by
 obtain⟨i0,hi0,hz0,hz1,hz2⟩:=info_parts Tryz.infoAh;rw[run_make W 33 39 i0 _ Tryz.sliceAhs hi0 hz0 .i64 .i64 n n (by omega) (by omega) (by rw[hz2];omega) (by omega),hz1];simp[Value.cells]
def AhC(cs:Array Value)(rs:List Rr)(F:ByteArray->Ah)(j:Nat):Prop:=cs.size=rs.length*5/\∀i (hi:i<rs.length),i<j->cs[i*5]? =some (.int .u64 (wd (F rs[i].1).1 0:Nat))/\cs[i*5+1]? =some (.int .u64 (wd (F rs[i].1).1 1:Nat))/\cs[i*5+2]? =some (.int .u64 (wd (F rs[i].1).1 2:Nat))/\cs[i*5+3]? =some (.int .u64 (wd (F rs[i].1).1 3:Nat))/\cs[i*5+4]? =some (.bool (F rs[i].1).2)
theorem AhC.old{cs:Array Value}{rs:List Rr}{F:ByteArray->Ah}{j:Nat}(h:AhC cs rs F j)(hj:j<rs.length):∃v0 v1 v2 v3 v4,cs[j*5]? =some v0/\cs[j*5+1]? =some v1/\cs[j*5+2]? =some v2/\cs[j*5+3]? =some v3/\cs[j*5+4]? =some v4:=
 ⟨_,_,_,_,_,Array.getElem?_eq_getElem (by rw[h.1];omega),Array.getElem?_eq_getElem (by rw[h.1];omega),Array.getElem?_eq_getElem (by rw[h.1];omega),Array.getElem?_eq_getElem (by rw[h.1];omega),Array.getElem?_eq_getElem (by rw[h.1];omega)⟩
theorem AhC.step{cs:Array Value}{rs:List Rr}{F:ByteArray->Ah}{j:Nat}(h:AhC cs rs F j)(hj:j<rs.length){y:Ah}(hy:y=F rs[j].1):AhC (((((cs.setIfInBounds (j*5) (.int .u64 (wd y.1 0:Nat))).setIfInBounds (j*5+1) (.int .u64 (wd y.1 1:Nat))).setIfInBounds (j*5+2) (.int .u64 (wd y.1 2:Nat))).setIfInBounds (j*5+3) (.int .u64 (wd y.1 3:Nat))).setIfInBounds (j*5+4) (.bool y.2)) rs F (j+1):=by
 have hs:=h.1;refine⟨by simp[hs],fun i hi hij=> ?_⟩;have g:∀k v,k<cs.size->k≠j*5->k≠j*5+1->k≠j*5+2->k≠j*5+3->k≠j*5+4->cs[k]? =some v->(((((cs.setIfInBounds (j*5) (.int .u64 (wd y.1 0:Nat))).setIfInBounds (j*5+1) (.int .u64 (wd y.1 1:Nat))).setIfInBounds (j*5+2) (.int .u64 (wd y.1 2:Nat))).setIfInBounds (j*5+3) (.int .u64 (wd y.1 3:Nat))).setIfInBounds (j*5+4) (.bool y.2))[k]? =some v:=fun k v hk h0 h1 h2 h3 h4 hv=>by
  rw[Array.getElem?_setIfInBounds_ne (fun e=>h4 e.symm),Array.getElem?_setIfInBounds_ne (fun e=>h3 e.symm),Array.getElem?_setIfInBounds_ne (fun e=>h2 e.symm),Array.getElem?_setIfInBounds_ne (fun e=>h1 e.symm),Array.getElem?_setIfInBounds_ne (fun e=>h0 e.symm)];exact hv
 rcases Nat.lt_or_ge i j with h1|h1
 ·obtain⟨a,b,c,d,e⟩:=h.2 i hi h1
  exact⟨g _ _ (by omega) (by omega) (by omega) (by omega) (by omega) (by omega) a,g _ _ (by omega) (by omega) (by omega) (by omega) (by omega) (by omega) b,g _ _ (by omega) (by omega) (by omega) (by omega) (by omega) (by omega) c,g _ _ (by omega) (by omega) (by omega) (by omega) (by omega) (by omega) d,g _ _ (by omega) (by omega) (by omega) (by omega) (by omega) (by omega) e⟩
 ·obtain rfl:i=j:=by omega
  rw[<-hy];refine⟨?_,?_,?_,?_,?_⟩
  ·rw[Array.getElem?_setIfInBounds_ne (by omega),Array.getElem?_setIfInBounds_ne (by omega),Array.getElem?_setIfInBounds_ne (by omega),Array.getElem?_setIfInBounds_ne (by omega),Array.getElem?_setIfInBounds_self_of_lt (by first|omega|(simp;omega))]
  ·rw[Array.getElem?_setIfInBounds_ne (by omega),Array.getElem?_setIfInBounds_ne (by omega),Array.getElem?_setIfInBounds_ne (by omega),Array.getElem?_setIfInBounds_self_of_lt (by first|omega|(simp;omega))]
  ·rw[Array.getElem?_setIfInBounds_ne (by omega),Array.getElem?_setIfInBounds_ne (by omega),Array.getElem?_setIfInBounds_self_of_lt (by first|omega|(simp;omega))]
  ·rw[Array.getElem?_setIfInBounds_ne (by omega),Array.getElem?_setIfInBounds_self_of_lt (by first|omega|(simp;omega))]
  ·rw[Array.getElem?_setIfInBounds_self_of_lt (by first|omega|(simp;omega))]
def FrP(rs:List Rr)(X:Option (Int ⊕ (Int×Int)))(W:World)(e:Ending)(w':World):Prop:=Below W.heap.size W w'/\
 ((X≠none/\∃v,e=.returned (.tuple #[.slice none 0 0,v])/\Zd X W.heap.size w' v)∨
  (X=none/\∃ub m mm cs,e=.returned (.tuple #[.slice (some ⟨ub,0,none⟩) rs.length rs.length,.nilIface])/\W.heap.size<=ub/\Yk (itr rs m) rs/\Uc (itr rs m) (Qm (itr rs m) rs mm) rs/\BdA (Qm (itr rs m) rs mm)/\w'.heap[ub]? =some (.cells cs 39)/\AhC cs rs (Qm (itr rs m) rs mm) rs.length))
theorem Zd.toA{X:Option (Int ⊕ (Int×Int))}{S:Nat}{w w':World}{v:Value}(h:Zd X S w v)(hb:Below w.heap.size w w'):Zd X S w' v:=by
 match X,h with
 |none,h=>exact h
 |some (.inl c),h=>exact h
 |some (.inr q),⟨g,h1,h2,h3⟩=>exact⟨g,h1,h2,(hb.block g (Qz h3)).trans h3⟩
theorem y3l(so:Option Addr)(n cap:Nat)(X:Option (Int ⊕ (Int×Int)))(w:World)
  (HC:Hid (∀W:World,Below w.heap.size w W->Calls prog 27 #[.agg #[.slice so n cap]] W fun e w'=>∃tt uu,e=.returned (.tuple #[.agg #[.slice none 0 0],.iface tt uu])/\Zd X W.heap.size w' (.iface tt uu)/\Below W.heap.size W w')):
  Calls prog 9 #[.agg #[.slice so n cap]] w fun e w'=>∃v,e=.returned (.tuple #[.slice none 0 0,v])/\Zd X w.heap.size w' v/\Below w.heap.size w w':=by
 obtain⟨W1,hW1⟩:∃W1,W1=w.alloc (.cells #[.slice so n cap] 24):=⟨_,rfl⟩;have hB1:Below w.heap.size w W1:=by rw[hW1];exact(Below.refl _ w).alloc L0q _
 have HS:=hid (HC.out W1 hB1);have HB1:=hid hB1;have HW1:=hid hW1;clear hW1 hB1 HC;go_enter func9,ntmps9
 go_wp2_with fail
 rw[<-HW1.out];refine HS.out.mono ?_;rintro e w2 ⟨tt,uu,rfl,hv,hb2⟩;have HV:=hid hv;have HB2:=hid (HB1.out.trans (hb2.mono HB1.out.size));have HSz:=hid HB1.out.size;clear hv hb2 HS HW1 HB1
 go_wp2_with fail
 go_ret2
 exact⟨_,rfl,(HV.out.lo HSz.out).toA ((Below.refl _ w2).alloc L0q _),HB2.out.alloc HB2.out.size _⟩
theorem y3m(so:Option Addr)(n cap:Nat)(rs:List Rr)(w:World)(h:Qh w w.heap.size so n rs)(HZ:Hid (RgZ rs))(hn:n<=1048576)
  (HC:Hid (∀W:World,Below w.heap.size w W->Calls prog 27 #[.agg #[.slice so n cap]] W fun e w'=>∃so' cap' m,e=.returned (.tuple #[.agg #[.slice so' rs.length cap'],.nilIface])/\Yk (itr rs m) rs/\Qh w' w'.heap.size so' rs.length (bG rs (itr rs m))/\Below W.heap.size W w'))
  (HL:Hid (∀(W:World) (B:Nat) (so':Option Addr) (cap' m:Nat),Below w.heap.size w W->B<=W.heap.size->Qh W B so' rs.length (bG rs (itr rs m))->Calls prog 28 #[.agg #[.slice so n cap],.agg #[.slice so' rs.length cap']] W (LaP (itr rs m) rs W))):
  Calls prog 9 #[.agg #[.slice so n cap]] w (FrP rs none w):=by
 obtain⟨W1,hW1⟩:∃W1,W1=w.alloc (.cells #[.slice so n cap] 24):=⟨_,rfl⟩;have hB1:Below w.heap.size w W1:=by rw[hW1];exact(Below.refl _ w).alloc L0q _
 have HG1:Hid (W1.heap[w.heap.size]? =some (.cells #[.slice so n cap] 24)):=by rw[hW1];exact Qx w _ rfl
 have HS:=hid (HC.out W1 hB1);have HB1:=hid hB1;have HW1:=hid hW1;have hmk:=y3k n hn;have HR:=hid h;have HNl:Hid (n=rs.length):=h.1;clear hW1 hB1 HC h;go_enter func9,ntmps9
 go_wp2_with fail
 rw[<-HW1.out];refine HS.out.mono ?_;rintro e w2 ⟨so',cap',m,rfl,hFo,hRg,hb2⟩;have hbA:=(Below.refl _ w2).alloc L0q (.cells #[.slice so' rs.length cap'] 24);have hB2:=HB1.out.trans (hb2.mono HB1.out.size);have HB2:=hid (hB2.trans (hbA.mono hB2.size));have hG2:=(hbA.block _ (Qz ((hb2.block _ (Qz HG1.out)).trans HG1.out))).trans ((hb2.block _ (Qz HG1.out)).trans HG1.out);have HG2:=hid hG2;obtain⟨g2,_⟩:=Qw hG2;have lg2:=Qz hG2;have lg1:=Qz ((hb2.block _ (Qz HG1.out)).trans HG1.out);have gw:=(Qw ((hb2.block _ (Qz HG1.out)).trans HG1.out)).1;have HFo:=hid hFo;have HLa:=hid (HL.out (w2.alloc (.cells #[.slice so' rs.length cap'] 24)) w2.heap.size so' cap' m HB2.out hbA.size (hRg.below hbA));clear hb2 hB2 hbA hRg hFo HS HW1 HB1 HG1 HL hG2
 go_wp2_with fail
 refine HLa.out.mono ?_;rintro e w3 ⟨M,nn,mm,rfl,hM,hNm,hFx,hBd,hb3⟩;have HB3:=hid (HB2.out.trans (hb3.mono HB2.out.size));have HG3:=hid ((hb3.block _ lg2).trans HG2.out);obtain⟨g3,_⟩:=Qw HG3.out;have lg3:=Qz HG3.out;have HNm:=hid hNm;have HFx:=hid hFx;have HBd:=hid hBd;clear hNm hFx hBd hb3 g2 gw hM
 go_wp2_with fail
 obtain⟨ub,hub⟩:∃ub,ub=w3.heap.size:=⟨_,rfl⟩;obtain⟨W4,hW4⟩:∃W4,W4=w3.alloc (.cells (madeCells #[.int .u64 0,.int .u64 0,.int .u64 0,.int .u64 0,.bool false] (n*5)) 39):=⟨_,rfl⟩;have HB4:Hid (Below w.heap.size w W4):=by rw[hW4];exact HB3.out.alloc HB3.out.size _
 have HN4:Hid (Na W4 M nn (Qm (itr rs m) rs mm)):=by rw[hW4];exact HNm.out.kept (World.grownBy_alloc _ _ none) (by simp)
 have HU4:Hid (W4.heap[ub]? =some (.cells (madeCells #[.int .u64 0,.int .u64 0,.int .u64 0,.int .u64 0,.bool false] (n*5)) 39)):=by rw[hW4,hub];exact Qx _ _ rfl
 have HO4:Hid (AhC (madeCells #[.int .u64 0,.int .u64 0,.int .u64 0,.int .u64 0,.bool false] (n*5)) rs (Qm (itr rs m) rs mm) 0):=⟨by rw[size_madeCells,HNl.out],fun i hi h0=>by omega⟩;have hMu:M<ub:=by rw[hub];exact HNm.out.lt
 have hwu:w.heap.size<=ub:=by rw[hub];exact HB3.out.size
 rw[<-hW4,<-hub];clear hW4 hub HB3 HG3 g3 lg3 HNm hmk HB2 HG2 lg2 HLa lg1;obtain⟨F,hFF⟩:∃F,F=Qm (itr rs m) rs mm:=⟨_,rfl⟩;rw[<-hFF]at HN4 HO4 HFx HBd;have HFF:=hid hFF;clear hFF
 go_loopw [28] (fun i wr=>∃j:Nat,i=.int .i64 j/\j<=n/\Hid (Below w.heap.size w wr)/\Hid (Na wr M nn F)/\Hid (∃cs,wr.heap[ub]? =some (.cells cs 39)/\AhC cs rs F j)) (fun i _=>n-(intOf i).toNat)
 case atStart=>exact⟨0,rfl,Nat.zero_le _,HB4,HN4,⟨_,HU4.out,HO4.out⟩⟩
 case round=>
  obtain⟨j,rfl,hj,HB,HN,HC⟩:=hrel;by_cases hjn:j<n
  ·have hjI:(j:Int)<(n:Int):=by omega
   have a0:decide ((j:Int)<(n:Int))=true:=by simp;omega
   have hjs:j<rs.length:=by rw[<-HNl.out];exact hjn
   obtain⟨g,o,rfl,hg,k1,T1,a1,b1,c1,d1,so1,n1,cap1,p1,hrt,r0⟩:=HR.out.2.2 j hjs;have hce:∀q,wr.cell? ⟨g,q,none⟩=w.cell? ⟨g,q,none⟩:=fun q=>HB.out.cell (p:=⟨g,q,none⟩) hg
   simp only[<-hce]at r0;obtain⟨z0,z1,z2,z3,z4,z5,z6,z7,z8,z9⟩:=r0;have hgl:g<wr.heap.size:=World.block_lt_of_cell? wr _ z0;obtain⟨N0,hN0⟩:∃N0,N0=rs[j].1:=⟨_,rfl⟩;obtain⟨q1,hq1⟩:∃q1,q1=rs[j].2.2:=⟨_,rfl⟩;rw[<-hN0]at z0;rw[<-hq1]at z9;have hNz:N0.size<=maxLen:=by rw[hN0];exact(HZ.out _ (List.getElem_mem hjs)).1
   obtain⟨y,hy⟩:∃y,y=F N0:=⟨_,rfl⟩;have hbA:=(Below.refl _ wr).alloc L0q (.cells #[.string N0,.int .i64 k1,.string T1,.int .u64 a1,.int .u64 b1,.int .u64 c1,.int .u64 d1,.slice so1 n1 cap1,.int .i64 p1,.int .i64 q1] 57);have hNA:=HN.out.below hbA HN.out.lt;have hL:=hNA.look hNz;rw[<-hy]at hL;dsimp only[av]at hL;obtain⟨cs,hcs,hou⟩:=HC.out;have hcA:=(hbA.block _ (Qz hcs)).trans hcs;obtain⟨v0,v1,v2,v3,v4,e0,e1,e2,e3,e4⟩:=hou.old hjs;obtain⟨x0,f0⟩:=Zj hcA _ _ e0;obtain⟨x1,f1⟩:=Zj hcA _ _ e1;obtain⟨x2,f2⟩:=Zj hcA _ _ e2;obtain⟨x3,f3⟩:=Zj hcA _ _ e3;obtain⟨x4,f4⟩:=Zj hcA _ _ e4;have lu:=Qz hcA;have HY:Hid (y=F rs[j].1):=by rw[<-hN0];exact hy
   have HCA:=hid hcA;have HOU:=hid hou;have HNA:=hid hNA;have HBA:=hid (HB.out.alloc HB.out.size (.cells #[.string N0,.int .i64 k1,.string T1,.int .u64 a1,.int .u64 b1,.int .u64 c1,.int .u64 d1,.slice so1 n1 cap1,.int .i64 p1,.int .i64 q1] 57));clear hce hN0 hq1 hy hbA hNA hcs hou hcA e0 e1 e2 e3 e4 HC hrt
   go_wp2_with fail
   have hgs:∀(W:World) (a b c d e:Value),W.grownBy (((((W.setCell ⟨ub,j*5,none⟩ a).setCell ⟨ub,j*5+1,none⟩ b).setCell ⟨ub,j*5+2,none⟩ c).setCell ⟨ub,j*5+3,none⟩ d).setCell ⟨ub,j*5+4,none⟩ e) (some ub):=fun W a b c d e=>G.setR (G.setR (G.setR (G.setR (G.setR (G.refl _ _)))))
   exact⟨⟨j+1,by go_num,by omega,hid (HBA.out.grown (hgs _ _ _ _ _ _) HBA.out.size (fun g e=>by have:=Option.some.inj e;omega)),hid (HNA.out.kept (hgs _ _ _ _ _ _) (fun e=>by have:=Option.some.inj e;omega)),hid ⟨_,Qy (Qy (Qy (Qy (Qy HCA.out _ _) _ _) _ _) _ _) _ _,HOU.out.step hjs HY.out⟩⟩,by simp[intOf];omega⟩
  ·have a0:decide ((j:Int)<(n:Int))=false:=by simp;omega
   obtain⟨cs,hcs,hou⟩:=HC.out;have HCS:=hid hcs;have hjn2:n=j:=by omega
   subst hjn2;have HOU:=hid hou;clear hcs hou HC
   go_wp2_with fail
   go_ret2
   refine⟨HB.out,.inr ⟨rfl,ub,m,mm,cs,?_,hwu,HFo.out,?_,?_,HCS.out,?_⟩⟩
   ·rw[<-HNl.out];rfl
   ·rw[<-HFF.out];exact HFx.out
   ·rw[<-HFF.out];exact HBd.out
   ·rw[<-HFF.out,<-HNl.out];exact HOU.out
theorem z5n(so:Option Addr)(n cap:Nat)(rs:List Rr)(X:Option (Int ⊕ (Int×Int)))(B:Nat)(w:World)(hX:CkX rs X)(hP:X=none->PrG rs)(hC:CkC so n cap rs X w)(hz:RgZ rs)(hu:RgU rs)(h:Qh w B so n rs)(hB:B<=w.heap.size)(hT:TabIs w):∀W:World,Below w.heap.size w W->Calls prog 9 #[.agg #[.slice so n cap]] W (FrP rs X W):=fun W hW=>by
 have hup:∀{W'},Below W.heap.size W W'->Below w.heap.size w W':=fun hW'=>hW.trans (hW'.mono hW.size)
 have hOf:=fun(W':World) (hW':Below W.heap.size W W')=>z5l so n cap rs X B w hX hC hz h hB W' (hup hW')
 cases X with
 |some x=>
  refine(y3l so n cap (some x) W (hid fun W' hW'=>(hOf W' hW').mono fun e w' he=> ?_)).mono fun e w' he=> ?_
  ·obtain⟨hb,⟨_,v,h1,h2⟩|⟨h0,_⟩⟩:=he
   ·obtain⟨tt,uu,rfl⟩:=h2.shape (by simp)
    exact⟨tt,uu,h1,h2,hb⟩
   ·cases h0
  ·obtain⟨v,h1,h2,h3⟩:=he
   exact⟨h3,.inl ⟨by simp,v,h1,h2⟩⟩
 |none=>
  obtain⟨hok,hck,_⟩:=hX;have hlen:=(Dx hok).2;refine y3m so n cap rs W ((h.below (hW.mono hB)).upto (Nat.le_trans hB hW.size)) (hid hz) (by have:=h.1;omega) (hid fun W' hW'=>(hOf W' hW').mono fun e w' he=> ?_) (hid fun W' B' so' cap' m hW' hB' hRg=>z5m so n cap so' rs.length cap' rs (itr rs m) B B' W' (h.below ((hup hW').mono hB)) (Nat.le_trans hB (hup hW').size) hRg hB' hz hu (hP rfl) hok hck (hT.below (hup hW') hT.lt));obtain⟨hb,⟨h0,_⟩|⟨_,so',cap',m,h1,h2,h3⟩⟩:=he
  ·exact absurd rfl h0
  ·exact⟨so',cap',m,h1,h2,h3,hb⟩
theorem z5o(so:Option Addr)(n cap:Nat)(k:Int)(T:ByteArray)(a b c d:Int)(so1:Option Addr)(n1 cap1:Nat)(p:Int)(X:Option (Int ⊕ (Int×Int)))(w:World)
  (HC:Hid (∀W:World,Below w.heap.size w W->Calls prog 29 #[.agg #[.slice so n cap],.agg #[.int .i64 k,.string T,.int .u64 a,.int .u64 b,.int .u64 c,.int .u64 d,.slice so1 n1 cap1,.int .i64 p]] W fun e w'=>∃tt uu,e=.returned (.tuple #[ov (false,false,false),.iface tt uu])/\Zd X W.heap.size w' (.iface tt uu)/\Below W.heap.size W w')):
  Calls prog 10 #[.agg #[.slice so n cap],.agg #[.int .i64 k,.string T,.int .u64 a,.int .u64 b,.int .u64 c,.int .u64 d,.slice so1 n1 cap1,.int .i64 p]] w fun e w'=>∃tt uu,e=.returned (.tuple #[av (0,false),.iface tt uu])/\Zd X w.heap.size w' (.iface tt uu)/\Below w.heap.size w w':=by
 obtain⟨W1,hW1⟩:∃W1,W1=((w.alloc (.cells #[.slice so n cap] 24)).alloc (.cells #[.int .i64 k,.string T,.int .u64 a,.int .u64 b,.int .u64 c,.int .u64 d,.slice so1 n1 cap1,.int .i64 p] 30)).alloc (.cells #[.int .u64 0,.int .u64 0,.int .u64 0,.int .u64 0,.bool false] 39):=⟨_,rfl⟩;have hB1:Below w.heap.size w W1:=by rw[hW1];exact(((Below.refl _ w).alloc L0q _).alloc (by simp) _).alloc (by simp;omega) _
 have HR1:Hid (W1.heap[w.heap.size+1+1]? =some (.cells #[.int .u64 0,.int .u64 0,.int .u64 0,.int .u64 0,.bool false] 39)):=by rw[hW1];exact Qx _ _ (by simp)
 have HS:=hid (HC.out W1 hB1);have HB1:=hid hB1;have HW1:=hid hW1;clear hW1 hB1 HC;dsimp only[ov]at HS;go_enter func10,ntmps10
 go_wp2_with fail
 rw[<-HW1.out];refine HS.out.mono ?_;rintro e w2 ⟨tt,uu,rfl,hv,hb2⟩;have hr2:=(hb2.block _ (Qz HR1.out)).trans HR1.out;obtain⟨⟨u0,u1,u2,u3,u4⟩,f0,f1,f2,f3,f4⟩:=Qv hr2;have lr:=Qz hr2;have HR2:=hid hr2;have HV:=hid hv;have HB2:=hid (HB1.out.trans (hb2.mono HB1.out.size));have hs1:=Qz HR1.out;have HSz:=hid HB1.out.size;clear hv hb2 hr2 HS HW1 HR1 HB1
 go_wp2_with fail
 have hP:=Xg (v0:=.int .u64 0) (v1:=.int .u64 0) (v2:=.int .u64 0) (v3:=.int .u64 0) (v4:=.bool false) HR2.out;have hPA:=(Below.heap_alloc _ (.cells #[.bool false,.bool false,.bool false] 71) _ (Qz hP)).trans hP;obtain⟨⟨r0,r1,r2,r3,r4⟩,_⟩:=Qv hPA;unfold st5 at r0 r1 r2 r3 r4;refine bodyPost_ret (v:=.tuple #[av (0,false),.iface tt uu]) (by simp[results,Tryz.results10,go_sem,r0,r1,r2,r3,r4,Vz]) rfl ?_;have hg:=HB2.out.grown (Xx w2 (w.heap.size+1+1) (.int .u64 0) (.int .u64 0) (.int .u64 0) (.int .u64 0) (.bool false)) HB2.out.size (fun g e=>by have:=Option.some.inj e;omega);exact⟨tt,uu,rfl,((HV.out.kept (Xx w2 (w.heap.size+1+1) _ _ _ _ _) hs1).toA (B0q.alloc L0q _)).lo HSz.out,hg.alloc hg.size _⟩
theorem z0a{w0 W W':World}{a0 a1 a2 a3 a4 a5 a6 a7 a8 a9:Addr}{v0 v1 v2 v3 v4 v5 v6 v7 v8 v9:Value}(h:Hid (Below w0.heap.size w0 W)/\W.cell? a0=some v0/\W.cell? a1=some v1/\W.cell? a2=some v2/\W.cell? a3=some v3/\W.cell? a4=some v4/\W.cell? a5=some v5/\W.cell? a6=some v6/\W.cell? a7=some v7/\W.cell? a8=some v8/\W.cell? a9=some v9)(hb:Below W.heap.size W W'):Hid (Below w0.heap.size w0 W')/\W'.cell? a0=some v0/\W'.cell? a1=some v1/\W'.cell? a2=some v2/\W'.cell? a3=some v3/\W'.cell? a4=some v4/\W'.cell? a5=some v5/\W'.cell? a6=some v6/\W'.cell? a7=some v7/\W'.cell? a8=some v8/\W'.cell? a9=some v9:=by
 obtain⟨h0,z0,z1,z2,z3,z4,z5,z6,z7,z8,z9⟩:=h;have e:∀{a:Addr} {u:Value},W.cell? a=some u->W'.cell? a=some u:=fun{a u} h=>(hb.cell (p:=a) (World.block_lt_of_cell? W _ h)).trans h
 exact⟨hid (h0.out.trans (hb.mono h0.out.size)),e z0,e z1,e z2,e z3,e z4,e z5,e z6,e z7,e z8,e z9⟩
theorem y3n{w0 W W':World}{R:Nat}{a0 a1 a2 a3 a4 a5 a6 a7 a8 a9:Addr}{v0 v1 v2 v3 v4 v5 v6 v7 v8 v9:Value}(h:Hid (Below w0.heap.size w0 W)/\W.cell? a0=some v0/\W.cell? a1=some v1/\W.cell? a2=some v2/\W.cell? a3=some v3/\W.cell? a4=some v4/\W.cell? a5=some v5/\W.cell? a6=some v6/\W.cell? a7=some v7/\W.cell? a8=some v8/\W.cell? a9=some v9)(hg:W.grownBy W' (some R))(hR:w0.heap.size<=R)(n0:a0.block≠R)(n1:a1.block≠R)(n2:a2.block≠R)(n3:a3.block≠R)(n4:a4.block≠R)(n5:a5.block≠R)(n6:a6.block≠R)(n7:a7.block≠R)(n8:a8.block≠R)(n9:a9.block≠R):Hid (Below w0.heap.size w0 W')/\W'.cell? a0=some v0/\W'.cell? a1=some v1/\W'.cell? a2=some v2/\W'.cell? a3=some v3/\W'.cell? a4=some v4/\W'.cell? a5=some v5/\W'.cell? a6=some v6/\W'.cell? a7=some v7/\W'.cell? a8=some v8/\W'.cell? a9=some v9:=by
 obtain⟨h0,z0,z1,z2,z3,z4,z5,z6,z7,z8,z9⟩:=h;have e:∀{a:Addr} {u:Value},a.block≠R->W.cell? a=some u->W'.cell? a=some u:=fun{a u} hne h=>(hg.cell_far a (World.block_lt_of_cell? W _ h) (fun e=>hne (Option.some.inj e))).trans h
 exact⟨hid (h0.out.grown hg h0.out.size (fun g e=>by have:=Option.some.inj e;omega)),e n0 z0,e n1 z1,e n2 z2,e n3 z3,e n4 z4,e n5 z5,e n6 z6,e n7 z7,e n8 z8,e n9 z9⟩
theorem y3o(so:Option Addr)(n cap:Nat)(k:Int)(T:ByteArray)(a b c d:Int)(so1:Option Addr)(n1 cap1:Nat)(p:Int)(rs:List Rr)(t:RT)(w:World)
  (HC:Hid (∀W:World,Below w.heap.size w W->Calls prog 29 #[.agg #[.slice so n cap],.agg #[.int .i64 k,.string T,.int .u64 a,.int .u64 b,.int .u64 c,.int .u64 d,.slice so1 n1 cap1,.int .i64 p]] W fun e w'=>∃y1 y2 y3,e=.returned (.tuple #[.agg #[.bool y1,.bool y2,.bool y3],.nilIface])/\Below W.heap.size W w'))
  (HO:Hid (∀W:World,Below w.heap.size w W->Calls prog 27 #[.agg #[.slice so n cap]] W fun e w'=>∃so' cap' m,e=.returned (.tuple #[.agg #[.slice so' rs.length cap'],.nilIface])/\Yk (itr rs m) rs/\Qh w' w'.heap.size so' rs.length (bG rs (itr rs m))/\Below W.heap.size W w'))
  (HL:Hid (∀(W:World) (B:Nat) (so':Option Addr) (cap' m:Nat),Below w.heap.size w W->B<=W.heap.size->Qh W B so' rs.length (bG rs (itr rs m))->Calls prog 28 #[.agg #[.slice so n cap],.agg #[.slice so' rs.length cap']] W (LaP (itr rs m) rs W)))
  (HM:Hid (∀(W:World) (B:Nat) (so':Option Addr) (cap' m:Nat),Below w.heap.size w W->B<=W.heap.size->Qh W B so' rs.length (bG rs (itr rs m))->Calls prog 31 #[.agg #[.slice so' rs.length cap'],.agg #[.int .i64 k,.string T,.int .u64 a,.int .u64 b,.int .u64 c,.int .u64 d,.slice so1 n1 cap1,.int .i64 p]] W (MmA (itr rs m) t W)))
  (HF:Hid (∀(W:World) (M nn m:Nat) (F:ByteArray->Ah) (cs:List Value),BdA F->Zk (itr rs m) W (fun _=>True) t cs->Na W M nn F->Calls prog 30 #[.map (some M),.agg cs.toArray] W fun e w'=>e=.returned (av (afT (itr rs m) F t))/\Below W.heap.size W w')):
  Calls prog 10 #[.agg #[.slice so n cap],.agg #[.int .i64 k,.string T,.int .u64 a,.int .u64 b,.int .u64 c,.int .u64 d,.slice so1 n1 cap1,.int .i64 p]] w fun e w'=>(∃m mm,Yk (itr rs m) rs/\Uc (itr rs m) (Qm (itr rs m) rs mm) rs/\BdA (Qm (itr rs m) rs mm)/\e=.returned (.tuple #[av (afT (itr rs m) (Qm (itr rs m) rs mm) t),.nilIface]))/\Below w.heap.size w w':=by
 obtain⟨W1,hW1⟩:∃W1,W1=((w.alloc (.cells #[.slice so n cap] 24)).alloc (.cells #[.int .i64 k,.string T,.int .u64 a,.int .u64 b,.int .u64 c,.int .u64 d,.slice so1 n1 cap1,.int .i64 p] 30)).alloc (.cells #[.int .u64 0,.int .u64 0,.int .u64 0,.int .u64 0,.bool false] 39):=⟨_,rfl⟩;have hB1:Below w.heap.size w W1:=by rw[hW1];exact(((Below.refl _ w).alloc L0q _).alloc (by simp) _).alloc (by simp;omega) _
 have HG1:Hid (W1.heap[w.heap.size]? =some (.cells #[.slice so n cap] 24)):=by rw[hW1];exact(Below.heap_alloc _ _ _ (by simp;omega)).trans ((Below.heap_alloc _ _ _ (by simp)).trans (Qx w _ rfl))
 have HD1:Hid (W1.heap[w.heap.size+1]? =some (.cells #[.int .i64 k,.string T,.int .u64 a,.int .u64 b,.int .u64 c,.int .u64 d,.slice so1 n1 cap1,.int .i64 p] 30)):=by rw[hW1];exact(Below.heap_alloc _ _ _ (by simp)).trans (Qx _ _ (by simp))
 have HR1:Hid (W1.heap[w.heap.size+1+1]? =some (.cells #[.int .u64 0,.int .u64 0,.int .u64 0,.int .u64 0,.bool false] 39)):=by rw[hW1];exact Qx _ _ (by simp)
 have HS:=hid (HC.out W1 hB1);have HB1:=hid hB1;have HW1:=hid hW1;clear hW1 hB1 HC;go_enter func10,ntmps10
 go_wp2_with fail
 rw[<-HW1.out];refine HS.out.mono ?_;rintro e w2 ⟨q1,q2,q3,rfl,hb2⟩;have hbA:=(Below.refl _ w2).alloc L0q (.cells #[.bool q1,.bool q2,.bool q3] 71);have hbq:=hb2.trans (hbA.mono hb2.size);have HB2:=hid (HB1.out.trans (hbq.mono HB1.out.size));have hG2:=(hbq.block _ (Qz HG1.out)).trans HG1.out;have hGw:=(hb2.block _ (Qz HG1.out)).trans HG1.out;have gw:=(Qw hGw).1;have lgw:=Qz hGw;have HG2:=hid hG2;have HD2:=hid ((hbq.block _ (Qz HD1.out)).trans HD1.out);have HR2:=hid ((hbq.block _ (Qz HR1.out)).trans HR1.out);have HO2:=hid (HO.out _ HB2.out);clear hbA hb2 hbq hG2 hGw HS HW1 HB1 HG1 HD1 HR1 HO
 go_wp2_with fail
 refine HO2.out.mono ?_;rintro e w3 ⟨so',cap',m,rfl,hFo,hRg,hb3⟩;obtain⟨W3,hW3⟩:∃W3,W3=w3.alloc (.cells #[.slice so' rs.length cap'] 24):=⟨_,rfl⟩;obtain⟨sB,hsB⟩:∃sB,sB=w3.heap.size:=⟨_,rfl⟩;have hbA:=(Below.refl _ w3).alloc L0q (.cells #[.slice so' rs.length cap'] 24);have hbq:=hb3.trans (hbA.mono hb3.size);have hB3:=HB2.out.trans (hbq.mono HB2.out.size);have hG3:=(hbq.block _ (Qz HG2.out)).trans HG2.out;have hD3:=(hbq.block _ (Qz HD2.out)).trans HD2.out;have hR3:=(hbq.block _ (Qz HR2.out)).trans HR2.out;have hN3:=Qx w3 (.cells #[.slice so' rs.length cap'] 24) rfl;have hRg3:=hRg.below hbA;have hle3:=hbA.size;have hRs:w.heap.size+1+1<w3.heap.size:=Qz ((hb3.block _ (Qz HR2.out)).trans HR2.out);rw[<-hW3]at hB3 hG3 hD3 hR3 hN3 hRg3 hle3;rw[<-hsB]at hN3 hRg3 hle3 hRs;obtain⟨n',hn'⟩:∃n',n'=rs.length:=⟨_,rfl⟩;have S0:(fun W':World=>Hid (Below w.heap.size w W')/\W'.cell? ⟨w.heap.size,0,none⟩=some (.slice so n cap)/\W'.cell? ⟨sB,0,none⟩=some (.slice so' n' cap')/\W'.cell? ⟨w.heap.size+1,0,none⟩=some (.int .i64 k)/\W'.cell? ⟨w.heap.size+1,1,none⟩=some (.string T)/\W'.cell? ⟨w.heap.size+1,2,none⟩=some (.int .u64 a)/\W'.cell? ⟨w.heap.size+1,3,none⟩=some (.int .u64 b)/\W'.cell? ⟨w.heap.size+1,4,none⟩=some (.int .u64 c)/\W'.cell? ⟨w.heap.size+1,5,none⟩=some (.int .u64 d)/\W'.cell? ⟨w.heap.size+1,6,none⟩=some (.slice so1 n1 cap1)/\W'.cell? ⟨w.heap.size+1,7,none⟩=some (.int .i64 p)) W3.drew:=by
  obtain⟨⟨z0,z1,z2,z3,z4,z5,z6,z7⟩,-⟩:=Qg hD3;exact⟨hid hB3.drew,(Qw hG3).1,by rw[hn'];exact(Qw hN3).1,z0,z1,z2,z3,z4,z5,z6,z7⟩
 have lg3:=Qz hG3;have ld3:=Qz hD3;have ls3:=Qz hN3;have HR3:=hid hR3;have HRg:=hid hRg3;have HFo:=hid hFo;have HLe:=hid hle3;have HW3:=hid hW3;have HsB:=hid hsB;clear hbA hb3 hbq hB3 hG3 hD3 hR3 hN3 hRg3 hRg hFo hle3 hW3 hsB HO2 HB2 HG2 HD2 HR2 gw lgw
 go_wp2_with fail
 rw[<-HW3.out,<-HsB.out,<-hn'];refine Fw 99 (fun W':World=>Hid (Below w.heap.size w W')/\W'.cell? ⟨w.heap.size,0,none⟩=some (.slice so n cap)/\W'.cell? ⟨sB,0,none⟩=some (.slice so' n' cap')/\W'.cell? ⟨w.heap.size+1,0,none⟩=some (.int .i64 k)/\W'.cell? ⟨w.heap.size+1,1,none⟩=some (.string T)/\W'.cell? ⟨w.heap.size+1,2,none⟩=some (.int .u64 a)/\W'.cell? ⟨w.heap.size+1,3,none⟩=some (.int .u64 b)/\W'.cell? ⟨w.heap.size+1,4,none⟩=some (.int .u64 c)/\W'.cell? ⟨w.heap.size+1,5,none⟩=some (.int .u64 d)/\W'.cell? ⟨w.heap.size+1,6,none⟩=some (.slice so1 n1 cap1)/\W'.cell? ⟨w.heap.size+1,7,none⟩=some (.int .i64 p)) (by kernel_rfl) S0 (fun hHeld=> ?_)
 (refine Qq (i:=0) (oi:=({dst:=some 29,op:=Op.load 24 (Operand.tmp 2),type:=24,pos:="first.go:46",after:=#[],guard:=none}:Oper)) (v:= ?_) rfl (by kernel_rfl) (by kernel_rfl) (by kernel_rfl) (fun _ _ _ h=>h) (Or.inl ⟨by rfl,?_⟩) hHeld ?_;rotate_left;(intro w hSw;(try dsimp only at hSw);go_simp;(try with_reducible rfl));skip)
 (try simp only[Act.put,List.setIfInBounds_toArray,List.set_cons_zero,List.set_cons_succ])
 (refine Qq (i:=1) (oi:=({dst:=some 30,op:=Op.load 24 (Operand.tmp 8),type:=24,pos:="first.go:46",after:=#[],guard:=none}:Oper)) (v:= ?_) rfl (by kernel_rfl) (by kernel_rfl) (by kernel_rfl) (fun _ _ _ h=>h) (Or.inl ⟨by rfl,?_⟩) hHeld ?_;rotate_left;(intro w hSw;(try dsimp only at hSw);go_simp;(try with_reducible rfl));skip)
 (try simp only[Act.put,List.setIfInBounds_toArray,List.set_cons_zero,List.set_cons_succ])
 (refine Qq (i:=3) (oi:=({dst:=some 32,op:=Op.load 24 (Operand.tmp 8),type:=24,pos:="first.go:46",after:=#[],guard:=none}:Oper)) (v:= ?_) rfl (by kernel_rfl) (by kernel_rfl) (by kernel_rfl) (fun _ _ _ h=>h) (Or.inl ⟨by rfl,?_⟩) hHeld ?_;rotate_left;(intro w hSw;(try dsimp only at hSw);go_simp;(try with_reducible rfl));skip)
 (try simp only[Act.put,List.setIfInBounds_toArray,List.set_cons_zero,List.set_cons_succ])
 (refine Qq (i:=4) (oi:=({dst:=some 33,op:=Op.load 30 (Operand.tmp 3),type:=30,pos:="first.go:46",after:=#[],guard:=none}:Oper)) (v:= ?_) rfl (by kernel_rfl) (by kernel_rfl) (by kernel_rfl) (fun _ _ _ h=>h) (Or.inl ⟨by rfl,?_⟩) hHeld ?_;rotate_left;(intro w hSw;(try dsimp only at hSw);go_simp;(try with_reducible rfl));skip)
 (try simp only[Act.put,List.setIfInBounds_toArray,List.set_cons_zero,List.set_cons_succ])
 refine Ym (i:=2) (o:=({dst:=some 31,op:=Op.call {callee:=Callee.value (Operand.func 28),args:=#[Operand.tmp 29,Operand.tmp 30],argTypes:=#[24,24]},type:=68,pos:="first.go:46",after:=#[{on:=0,ground:=Ground.data},{on:=1,ground:=Ground.data}],guard:=none}:Oper)) (by kernel_rfl) rfl (fun K hK=> ?_)
 go_simp
 have hRgd:Qh W3.drew sB so' rs.length (bG rs (itr rs m)):=HRg.out.below (Below.refl sB W3).drew;refine(HL.out W3.drew sB so' cap' m hHeld.1.out HLe.out hRgd).mono ?_;rintro e w5 ⟨M,nn,mm,rfl,hM,hNm,hFx,hBd,hb5⟩;have hHeld5:=z0a hHeld hb5;have hRg5:=hRgd.below (hb5.mono HLe.out);have hle5:sB<=w5.heap.size:=Nat.le_trans HLe.out hb5.size;have HR5:Hid (w5.heap[w.heap.size+1+1]? =some (.cells #[.int .u64 0,.int .u64 0,.int .u64 0,.int .u64 0,.bool false] 39)):=hid ((hb5.block _ (Qz HR3.out)).trans HR3.out);have HNm:=hid hNm;have HFx:=hid hFx;have HBd:=hid hBd;clear hb5 hRgd hNm hFx hBd hM HR3 HRg
 go_simp
 refine hK.out _ _ hHeld5 ?_;clear hK K hHeld
 (try simp only[Act.put,List.setIfInBounds_toArray,List.set_cons_zero,List.set_cons_succ])
 refine Ym (i:=5) (o:=({dst:=some 34,op:=Op.call {callee:=Callee.value (Operand.func 31),args:=#[Operand.tmp 32,Operand.tmp 33],argTypes:=#[24,30]},type:=77,pos:="first.go:46",after:=#[{on:=3,ground:=Ground.data},{on:=4,ground:=Ground.data},{on:=2,ground:=Ground.chain}],guard:=none}:Oper)) (by kernel_rfl) rfl (fun K hK=> ?_)
 go_simp
 refine(HM.out w5 sB so' cap' m hHeld5.1.out hle5 hRg5).mono ?_;rintro e w6 ⟨k2,T2,a2,b2,c2,d2,so2,n2,cap2,p2,po2,pn2,pc2,l2,rfl,HQ6,HB6⟩;have hHeld6:=z0a hHeld5 HB6.out;have HR6:Hid (w6.heap[w.heap.size+1+1]? =some (.cells #[.int .u64 0,.int .u64 0,.int .u64 0,.int .u64 0,.bool false] 39)):=hid ((HB6.out.block _ (Qz HR5.out)).trans HR5.out);have HS6:=hid (HF.out w6 M nn m _ (r10 k2 T2 a2 b2 c2 d2 so2 n2 cap2 p2 po2 pn2 pc2 l2) HBd.out (Zk.kept (fun g cur _ _=>⟨rfl,trivial⟩) _ _ HQ6.out) (HNm.out.below HB6.out HNm.out.lt));obtain⟨⟨C,q⟩,hY⟩:∃y,y=afT (itr rs m) (Qm (itr rs m) rs mm) t:=⟨_,rfl⟩;rw[<-hY]at HS6;have HY:=hid hY;clear hRg5 hle5 HR5 HQ6 HB6 HNm hY;dsimp only[av]at HS6
 go_simp
 refine hK.out _ _ hHeld6 ?_;clear hK K hHeld5
 (try simp only[Act.put,List.setIfInBounds_toArray,List.set_cons_zero,List.set_cons_succ])
 refine Ym (i:=6) (o:=({dst:=some 35,op:=Op.call {callee:=Callee.value (Operand.func 30),args:=#[Operand.tmp 31,Operand.tmp 34],argTypes:=#[68,77]},type:=39,pos:="first.go:46",after:=#[{on:=2,ground:=Ground.data},{on:=5,ground:=Ground.data},{on:=5,ground:=Ground.chain}],guard:=none}:Oper)) (by kernel_rfl) rfl (fun K hK=> ?_)
 go_simp
 refine HS6.out.mono ?_;rintro e w7 ⟨rfl,hb7⟩;have hHeld7:=z0a hHeld6 hb7;have hR7:=(hb7.block _ (Qz HR6.out)).trans HR6.out;obtain⟨⟨u0,u1,u2,u3,u4⟩,f0,f1,f2,f3,f4⟩:=Qv hR7;have lr:=Qz hR7;have HR7:=hid hR7;clear hb7 hR7 HS6 HR6
 go_simp
 refine hK.out _ _ hHeld7 ?_;clear hK K hHeld6
 (try simp only[Act.put,List.setIfInBounds_toArray,List.set_cons_zero,List.set_cons_succ])
 refine Ym (i:=7) (o:=({dst:=none,op:=Op.store 39 (Operand.tmp 4) (Operand.tmp 35),type:=0,pos:="first.go:46",after:=#[{on:=6,ground:=Ground.data},{on:=6,ground:=Ground.chain},{on:=0,ground:=Ground.phase},{on:=1,ground:=Ground.phase},{on:=2,ground:=Ground.phase},{on:=3,ground:=Ground.phase},{on:=4,ground:=Ground.phase},{on:=5,ground:=Ground.phase},{on:=6,ground:=Ground.phase}],guard:=none}:Oper)) (by kernel_rfl) rfl (fun K hK=> ?_);have hHeld:=y3n hHeld7 (Xx w7 (w.heap.size+1+1) (.int .u64 (wd C 0)) (.int .u64 (wd C 1)) (.int .u64 (wd C 2)) (.int .u64 (wd C 3)) (.bool q)) (by omega) (by show w.heap.size≠_;omega) (by show sB≠_;omega) (by show w.heap.size+1≠_;omega) (by show w.heap.size+1≠_;omega) (by show w.heap.size+1≠_;omega) (by show w.heap.size+1≠_;omega) (by show w.heap.size+1≠_;omega) (by show w.heap.size+1≠_;omega) (by show w.heap.size+1≠_;omega) (by show w.heap.size+1≠_;omega);have HB8:Hid (Below w.heap.size w (st5 w7 (w.heap.size+1+1) (.int .u64 (wd C 0)) (.int .u64 (wd C 1)) (.int .u64 (wd C 2)) (.int .u64 (wd C 3)) (.bool q))):=hHeld.1;clear hHeld7
 go_simp
 refine hK.out _ _ hHeld ?_;clear hK K
 (try simp only[Act.put,List.setIfInBounds_toArray,List.set_cons_zero,List.set_cons_succ])
 (refine Qq (i:=8) (oi:=({dst:=some 5,op:=Op.assign (Operand.const Value.nilIface),type:=35,pos:="first.go:46",after:=#[{on:=7,ground:=Ground.chain},{on:=0,ground:=Ground.phase},{on:=1,ground:=Ground.phase},{on:=2,ground:=Ground.phase},{on:=3,ground:=Ground.phase},{on:=4,ground:=Ground.phase},{on:=5,ground:=Ground.phase},{on:=6,ground:=Ground.phase},{on:=7,ground:=Ground.phase}],guard:=none}:Oper)) (v:= ?_) rfl (by kernel_rfl) (by kernel_rfl) (by kernel_rfl) (fun _ _ _ h=>h) (Or.inl ⟨by rfl,?_⟩) hHeld ?_;rotate_left;(intro w hSw;(try dsimp only at hSw);go_simp;(try with_reducible rfl));skip)
 (try simp only[Act.put,List.setIfInBounds_toArray,List.set_cons_zero,List.set_cons_succ])
 refine⟨by kernel_rfl,?_⟩;have hP:=Xg (v0:=.int .u64 (wd C 0)) (v1:=.int .u64 (wd C 1)) (v2:=.int .u64 (wd C 2)) (v3:=.int .u64 (wd C 3)) (v4:=.bool q) HR7.out;obtain⟨⟨r0,r1,r2,r3,r4⟩,_⟩:=Qv hP;unfold st5 at r0 r1 r2 r3 r4;clear hHeld hP
 go_wp2_with fail
 refine bodyPost_ret (v:=.tuple #[av (C,q),.nilIface]) (by simp[results,Tryz.results10,go_sem,r0,r1,r2,r3,r4]) rfl ?_;exact⟨⟨m,mm,HFo.out,HFx.out,HBd.out,by rw[<-HY.out]⟩,HB8.out⟩
end Go.Proofs.YtjodljnddflgfaaGreatDoor
