/- Lemmas for the last text. Conditions: those that each names. -/
import Derived.Test.YthmgblmoobkliaaGreatDoorVT22ToEBase
set_option linter.unusedVariables false
set_option maxRecDepth 100000
set_option maxHeartbeats 8000000
namespace Go.Proofs.YthmgblmoobkliaaGreatDoor
open Go.Proofs.Tryz
open Go.RowKit Go.Shelf Go.Maps
theorem y3X{rs:List Rr}(hok:okG rs=true)(hck:ckR rs=none):∀i x,x∈(bgU rs).getD i []->∃m:Nat,m<(bgU rs).length/\x=(m:Int):=fun i x hx=>by
 rw[List.getD_eq_getElem?_getD]at hx;cases e:(bgU rs)[i]? with
 |none=>rw[e]at hx;simp at hx
 |some u=>
  rw[e]at hx;rw[Uz];exact Nf hok hck u (List.mem_of_getElem? e) x hx
theorem y3Y(so:Option Addr)(n cap:Nat)(rs:List Rr)(fp:Addr)(w:World)(hE:Zj w)(hT:TabIs w)(hF:w.cell? ⟨1,0,none⟩=some (.iface 281 (.pointer (some fp))))(hz:RgZ rs)(hu:RgU rs)(h:Qv w w.heap.size so n rs):
  Calls prog 4 #[.agg #[.slice so n cap]] w fun e w'=>e=.returned (.bool true)/\Below w.heap.size w w':=by
 obtain⟨X,hX,hP,hC⟩:=Iq so n cap rs w.heap.size w hz hu h L0q hT;obtain⟨u1,hu1⟩:∃u1,u1=w.alloc (.cells #[.slice so n cap] 24):=⟨_,rfl⟩;have hbu:Below w.heap.size w u1:=by rw[hu1];exact(Below.refl _ w).alloc L0q _
 have gu:u1.heap[w.heap.size]? =some (.cells #[.slice so n cap] 24):=by rw[hu1];exact Qx w _ rfl
 have hfl:1<w.heap.size:=World.block_lt_of_cell? w _ hF;have HS:=hid (Bz fp u1 (hE.below hbu hE.lt) (hT.below hbu hT.lt) ((hbu.cell (p:=⟨1,0,none⟩) hfl).trans hF));have HBg:=hid (fun(W:World) (hb:Below w.heap.size w W)=>z0h so n cap rs X w.heap.size w hX hP hC hz h L0q hT W hb);have HRk:=hid (fun(W:World) (hb:Below w.heap.size w W)=>y3I so n cap rs X w.heap.size fp w hX hP hC hz h L0q hT hF W hb);have HCh:=hid (fun(W:World) (hb:Below w.heap.size w W)=>Dm so n cap rs X w.heap.size fp w hX hP hC hz h L0q hT hF W hb);have HNl:Hid (n=rs.length):=h.1;have HX:=hid hX;have HE:=hid hE;clear hE hT hz hu h hC hX hF hfl hP;go_enter func4,ntmps4
 go_wp2_with fail
 rw[<-hu1];refine HS.out.mono ?_;rintro e w1 ⟨rfl,HB1⟩;have HBw1:=hid (hbu.trans (HB1.out.mono hbu.size));have HG1:=hid ((HB1.out.block _ (Qq gu)).trans gu);obtain⟨x1,f1⟩:=Qk HG1.out;have l1:=Qq HG1.out;clear HS HB1 hu1 hbu gu
 go_wp2_with fail
 refine(HBg.out w1 HBw1.out).mono ?_;clear HBg;rintro e w2 ⟨hb2,hre⟩;have HBw2:=hid (HBw1.out.trans (hb2.mono HBw1.out.size));have HG2:=hid ((hb2.block _ (Qq HG1.out)).trans HG1.out);obtain⟨x2,f2⟩:=Qk HG2.out;have l2:=Qq HG2.out;clear x1 f1 l1 HG1 hb2;have hbe:∃lv ev,e=.returned (.tuple #[lv,ev])/\(X=none->∃ub vs,lv=.slice (some ⟨ub,0,none⟩) n n/\ev=.nilIface/\Uw w1 ub n vs (bgU rs) w2):=by
  rcases hre with⟨hx,v,rfl,hv⟩|⟨hx,ub,vs,rfl,hvl,hU⟩
  ·exact⟨_,_,rfl,fun h=>absurd h hx⟩
  ·rw[<-HNl.out]at hU ⊢
   exact⟨_,_,rfl,fun _=>⟨ub,vs,rfl,rfl,hU⟩⟩
 obtain⟨lv,ev,rfl,hlv⟩:=hbe;have HLv:=hid hlv;clear hre hlv
 go_wp2_with fail
 refine(HRk.out w2 HBw2.out).mono ?_;clear HRk;rintro e w3 ⟨hb3,hre⟩;have HBw3:=hid (HBw2.out.trans (hb3.mono HBw2.out.size));have HG3:=hid ((hb3.block _ (Qq HG2.out)).trans HG2.out);obtain⟨x3,f3⟩:=Qk HG3.out;have l3:=Qq HG3.out;have HB23:=hid hb3;clear x2 f2 l2 HG2 hb3;rcases hre with⟨h0,v,rfl,hv⟩|⟨h0,hx,v,rfl,hr⟩
 ·obtain⟨t,u,rfl⟩:=hv.shape h0
  have HV:=hid hv;have HCk:=hid (HCh.out w3 HBw3.out);clear hv h0 HCh HLv
  go_wp2_with fail
  refine HCk.out.mono ?_;clear HCk;rintro e w4 ⟨v4,rfl,hv4,hb4⟩;have HBw4:=hid (HBw3.out.trans (hb4.mono HBw3.out.size));have HCo:=hid (If _ _ v4 w4 (HE.out.below HBw4.out HE.out.lt) hv4);have HCo2:=hid (fun(W:World) (hb:Below w4.heap.size w4 W)=>If _ _ (.iface t u) W (HE.out.below (HBw4.out.trans (hb.mono HBw4.out.size)) HE.out.lt) (HV.out.to (hb4.trans (hb.mono hb4.size))));obtain⟨cz,hcz⟩:∃cz,cz=cdZ (soZ rs X):=⟨_,rfl⟩;rw[<-hcz]at HCo HCo2;clear hv4 hb4 hcz HV x3 f3 l3
  go_wp2_with fail
  refine HCo.out.mono ?_;clear HCo;rintro e w5 ⟨rfl,hb5⟩;have HBw5:=hid (HBw4.out.trans (hb5.mono HBw4.out.size));have HCo3:=hid (HCo2.out w5 hb5);clear HCo2 hb5
  go_wp2_with fail
  refine HCo3.out.mono ?_;clear HCo3;rintro e w6 ⟨rfl,hb6⟩;have HBw6:=hid (HBw5.out.trans (hb6.mono HBw5.out.size));clear hb6
  go_wp2_with fail
  go_ret;exact⟨by simp,HBw6.out⟩
 ·subst hx
  obtain⟨ub,vs,rfl,rfl,hU⟩:=HLv.out rfl;obtain⟨hk,hck,hrl⟩:=HX.out;have hlen:=Xd hk;rw[<-HNl.out]at hr hlen;have hn64:n<=64:=hlen.2;obtain⟨gr,rc,rfl,lgr,hrc⟩:=y3Q hr (by omega);have hU3:=hU.below HB23.out;have HA:=hid (fun i hi=>Iy hU3 (Al hk hrl) i hi);have hac:=z5K h0;have hg:=y3X hk hck;have HRc:=hid hrc;have HLt:Hid (∀i,i<n->rkP (bgU rs) i<n):=fun i hi=>by
   have:=z0e hac hg (i:=i) (by rw[Uz,<-HNl.out];exact hi);rw[Uz,<-HNl.out]at this;exact this
  have HGt:Hid (∀i,i<n->∀x∈(bgU rs).getD i [],rkP (bgU rs) x.toNat<rkP (bgU rs) i):=fun i hi x hx=>z0d hac hg (by rw[Uz,<-HNl.out];exact hi) hx
  have HZr:Hid (∀i,i<n->(rkP (bgU rs) i=0↔(bgU rs).getD i []=[])):=fun i hi=>y3t hac hg (by rw[Uz,<-HNl.out];exact hi)
  have HMm:=hid (Nf hk hck);have HCk:Hid (Calls prog 11 #[.agg #[.slice so n cap]] w3 fun e w'=>e=.returned .nilIface/\Below w3.heap.size w3 w'):=(HCh.out w3 HBw3.out).mono fun e w' he=>by
   obtain⟨v,h1,h2,h3⟩:=he;rw[h0]at h2;have h2:v=.nilIface:=h2;rw[h1,h2];exact⟨rfl,h3⟩
  clear hr hU hU3 hac hg hrc hk hck hrl hlen h0 HCh HLv HB23
  go_wp2_with fail
  refine HCk.out.mono ?_;clear HCk x3 f3 l3;rintro e w4 ⟨rfl,hb4⟩;have HBw4:=hid (HBw3.out.trans (hb4.mono HBw3.out.size));have HG4:=hid ((hb4.block _ (Qq HG3.out)).trans HG3.out);obtain⟨x4,f4⟩:=Qk HG4.out;have l4:=Qq HG4.out;have HB34:=hid hb4;clear hb4
  go_wp2_with fail
  clear x4 f4 l4
  go_loopw [8] (fun a wr=>∃i:Nat,a=.int .i64 i/\i<=n/\Hid (Below w3.heap.size w3 wr)) (fun a _=>n-(intOf a).toNat)
  case atStart=>exact⟨0,rfl,Nat.zero_le _,HB34⟩
  case round=>
   obtain⟨i,rfl,hi,HBi⟩:=hrel;by_cases hin:i<n
   ·have hiI:(i:Int)<(n:Int):=by omega
    have a0:decide ((i:Int)<(n:Int))=true:=by simp;omega
    have hir:i<rs.length:=by rw[<-HNl.out];exact hin
    have hib:i<(bgU rs).length:=by rw[Uz];exact hir
    obtain⟨rso,rcap,cu,lub,hul,hrow⟩:=HA.out i hib;have hgd:(bgU rs).getD i []=(bgU rs)[i]:=by rw[List.getD_eq_getElem?_getD,List.getElem?_eq_getElem hib];rfl
    have hgt:=HGt.out i hin;have hzr:=HZr.out i hin;have hmm:=HMm.out (bgU rs)[i] (List.getElem_mem hib);rw[hgd]at hgt hzr;obtain⟨u,hue⟩:∃u,u=(bgU rs)[i]:=⟨_,rfl⟩;have HRow:Hid (∀j (hj:j<u.length),∃g o,rso=some ⟨g,o,none⟩/\g<w3.heap.size/\w3.cell? ⟨g,o+j,none⟩=some (.int .i64 u[j])):=by subst hue;exact hrow
    rw[<-hue]at cu hul hgt hzr hmm;have HGu:=hid hgt;have HMu:=hid hmm;obtain⟨ku,hku⟩:∃ku,ku=u.length:=⟨_,rfl⟩;rw[<-hku]at cu hul;have HKu:Hid (ku=u.length):=hku;have HCu:=hid cu;obtain⟨ri,hri⟩:∃ri,ri=rkP (bgU rs) i:=⟨_,rfl⟩;have hrin:ri<n:=by rw[hri];exact HLt.out i hin
    have HRi:Hid (ri=rkP (bgU rs) i):=hri;have HCi:Hid (w3.cell? ⟨gr,i,none⟩=some (.int .i64 ri)):=by rw[hri];exact HRc.out i hin
    obtain⟨q,hq⟩:∃q,q=decide (ku=0):=⟨_,rfl⟩;have b1:((ri:Int) == 0)=q:=by
     rw[hq,Bool.eq_iff_iff,beq_iff_eq,decide_eq_true_iff,hku];rw[hri];constructor
     ·intro h1
      rw[hzr.1 (by omega)];rfl
     ·intro h1
      have:=hzr.2 (List.eq_nil_of_length_eq_zero h1);omega
    have b2:((ku:Int) == 0)=q:=by
     rw[hq,Bool.eq_iff_iff,beq_iff_eq,decide_eq_true_iff];omega
    clear hrow hgd hgt hzr hmm hue hku cu hri hq hib
    go_wp2_with fail
    go_loopw [9] (fun a wr=>∃k:Nat,a=.int .i64 k/\k<=ku/\Hid (Below w3.heap.size w3 wr)) (fun a _=>ku-(intOf a).toNat)
    case atStart=>exact⟨0,rfl,Nat.zero_le _,HBi⟩
    case round=>
     obtain⟨k,rfl,hk,HBk⟩:=hrel;have cu:=(HBk.out.cell (p:=⟨ub,i,none⟩) lub).trans HCu.out;have lub':ub<wr.heap.size:=Nat.lt_of_lt_of_le lub HBk.out.size;have lgr':gr<wr.heap.size:=Nat.lt_of_lt_of_le lgr HBk.out.size;by_cases hkn:k<ku
     ·have hkI:(k:Int)<(ku:Int):=by omega
      have a1:decide ((k:Int)<(ku:Int))=true:=by simp;omega
      have hku:k<u.length:=by rw[<-HKu.out];exact hkn
      obtain⟨rg,ro,rfl,hrg,hcr⟩:=HRow.out k hku;obtain⟨m,hmn,em⟩:=HMu.out u[k] (List.getElem_mem hku);have hgm:=HGu.out u[k] (List.getElem_mem hku);rw[em]at hcr hgm;rw[<-HNl.out]at hmn;obtain⟨rm,hrm⟩:∃rm,rm=rkP (bgU rs) m:=⟨_,rfl⟩;have hlt:rm<ri:=by rw[hrm,HRi.out];simpa using hgm
      have hCm:w3.cell? ⟨gr,m,none⟩=some (.int .i64 rm):=by rw[hrm];exact HRc.out m hmn
      have HS0:Hid (wr.drew.cell? ⟨ub,i,none⟩=some (.slice (some ⟨rg,ro,none⟩) ku rcap)/\wr.drew.cell? ⟨rg,ro+k,none⟩=some (.int .i64 m)/\wr.drew.cell? ⟨gr,i,none⟩=some (.int .i64 ri)/\wr.drew.cell? ⟨gr,m,none⟩=some (.int .i64 rm)):=⟨(HBk.out.drew.cell (p:=⟨ub,i,none⟩) lub).trans HCu.out,(HBk.out.drew.cell (p:=⟨rg,ro+k,none⟩) hrg).trans hcr,(HBk.out.drew.cell (p:=⟨gr,i,none⟩) lgr).trans HCi.out,(HBk.out.drew.cell (p:=⟨gr,m,none⟩) lgr).trans hCm⟩;have HBd:=hid HBk.out.drew;have lrg:rg<wr.heap.size:=Nat.lt_of_lt_of_le hrg HBk.out.size;have hmI:(m:Int)<(n:Int):=by omega
      have c0:decide ((m:Int)<0)=false:=by simp
      have c1:decide ((n:Int)<=(m:Int))=false:=by simp;omega
      have c1D:decide (n<=m)=false:=by simp;omega
      have c1N:¬n<=m:=by omega
      have c2:decide ((ri:Int)<=(rm:Int))=false:=by simp;omega
      have c2D:decide (ri<=rm)=false:=by simp;omega
      have c2N:¬ri<=rm:=by omega
      clear hcr em hgm hrm hCm hlt
      go_wp2_with fail
      refine Vl 99 (fun W:World=>W.cell? ⟨ub,i,none⟩=some (.slice (some ⟨rg,ro,none⟩) ku rcap)/\W.cell? ⟨rg,ro+k,none⟩=some (.int .i64 m)/\W.cell? ⟨gr,i,none⟩=some (.int .i64 ri)/\W.cell? ⟨gr,m,none⟩=some (.int .i64 rm)) (by kernel_rfl) HS0.out (fun hHeld=> ?_)
      (refine Qz (i:=0) (oi:=({dst:=some 78,op:=Op.move (Operand.tmp 4),type:=30,pos:="law.go:83",after:=#[],guard:=none}:Oper)) (v:= ?_) rfl (by kernel_rfl) (by kernel_rfl) (by kernel_rfl) (fun _ _ _ h=>h) (Or.inl ⟨by rfl,?_⟩) hHeld ?_;rotate_left;(intro w hSw;(try dsimp only at hSw);go_simp;(try with_reducible rfl));skip)
      (try simp only[Act.put,List.setIfInBounds_toArray,List.set_cons_zero,List.set_cons_succ])
      (refine Qz (i:=1) (oi:=({dst:=some 79,op:=Op.move (Operand.tmp 8),type:=3,pos:="law.go:83",after:=#[],guard:=none}:Oper)) (v:= ?_) rfl (by kernel_rfl) (by kernel_rfl) (by kernel_rfl) (fun _ _ _ h=>h) (Or.inl ⟨by rfl,?_⟩) hHeld ?_;rotate_left;(intro w hSw;(try dsimp only at hSw);go_simp;(try with_reducible rfl));skip)
      (try simp only[Act.put,List.setIfInBounds_toArray,List.set_cons_zero,List.set_cons_succ])
      (refine Qz (i:=2) (oi:=({dst:=some 80,op:=Op.indexAddr 30 (Operand.tmp 78) (Operand.tmp 79),type:=0,pos:="law.go:83",after:=#[{on:=0,ground:=Ground.data},{on:=1,ground:=Ground.data}],guard:=none}:Oper)) (v:= ?_) rfl (by kernel_rfl) (by kernel_rfl) (by kernel_rfl) (fun _ _ _ h=>h) (Or.inl ⟨by rfl,?_⟩) hHeld ?_;rotate_left;(intro w hSw;(try dsimp only at hSw);go_simp;(try with_reducible rfl));skip)
      (try simp only[Act.put,List.setIfInBounds_toArray,List.set_cons_zero,List.set_cons_succ])
      (refine Qz (i:=3) (oi:=({dst:=some 81,op:=Op.load 33 (Operand.tmp 80),type:=33,pos:="law.go:83",after:=#[{on:=2,ground:=Ground.data}],guard:=none}:Oper)) (v:= ?_) rfl (by kernel_rfl) (by kernel_rfl) (by kernel_rfl) (fun _ _ _ h=>h) (Or.inl ⟨by rfl,?_⟩) hHeld ?_;rotate_left;(intro w hSw;(try dsimp only at hSw);go_simp;(try with_reducible rfl));skip)
      (try simp only[Act.put,List.setIfInBounds_toArray,List.set_cons_zero,List.set_cons_succ])
      (refine Qz (i:=4) (oi:=({dst:=some 82,op:=Op.move (Operand.tmp 9),type:=3,pos:="law.go:83",after:=#[],guard:=none}:Oper)) (v:= ?_) rfl (by kernel_rfl) (by kernel_rfl) (by kernel_rfl) (fun _ _ _ h=>h) (Or.inl ⟨by rfl,?_⟩) hHeld ?_;rotate_left;(intro w hSw;(try dsimp only at hSw);go_simp;(try with_reducible rfl));skip)
      (try simp only[Act.put,List.setIfInBounds_toArray,List.set_cons_zero,List.set_cons_succ])
      (refine Qz (i:=5) (oi:=({dst:=some 83,op:=Op.indexAddr 33 (Operand.tmp 81) (Operand.tmp 82),type:=0,pos:="law.go:83",after:=#[{on:=3,ground:=Ground.data},{on:=4,ground:=Ground.data}],guard:=none}:Oper)) (v:= ?_) rfl (by kernel_rfl) (by kernel_rfl) (by kernel_rfl) (fun _ _ _ h=>h) (Or.inl ⟨by rfl,?_⟩) hHeld ?_;rotate_left;(intro w hSw;(try dsimp only at hSw);go_simp;(try with_reducible rfl));skip)
      (try simp only[Act.put,List.setIfInBounds_toArray,List.set_cons_zero,List.set_cons_succ])
      (refine Qz (i:=6) (oi:=({dst:=some 84,op:=Op.load 3 (Operand.tmp 83),type:=3,pos:="law.go:83",after:=#[{on:=5,ground:=Ground.data}],guard:=none}:Oper)) (v:= ?_) rfl (by kernel_rfl) (by kernel_rfl) (by kernel_rfl) (fun _ _ _ h=>h) (Or.inl ⟨by rfl,?_⟩) hHeld ?_;rotate_left;(intro w hSw;(try dsimp only at hSw);go_simp;(try with_reducible rfl));skip)
      (try simp only[Act.put,List.setIfInBounds_toArray,List.set_cons_zero,List.set_cons_succ])
      (refine Qz (i:=7) (oi:=({dst:=some 85,op:=Op.binOp BinOp.lss 3 (Operand.tmp 84) (Operand.const (Value.int IntKind.i64 0)) 3,type:=4,pos:="law.go:83",after:=#[{on:=6,ground:=Ground.data}],guard:=none}:Oper)) (v:= ?_) rfl (by kernel_rfl) (by kernel_rfl) (by kernel_rfl) (fun _ _ _ h=>h) (Or.inl ⟨by rfl,?_⟩) hHeld ?_;rotate_left;(intro w hSw;(try dsimp only at hSw);go_simp;(try with_reducible rfl));skip)
      (try simp only[Act.put,List.setIfInBounds_toArray,List.set_cons_zero,List.set_cons_succ])
      (refine Qz (i:=8) (oi:=({dst:=some 86,op:=Op.move (Operand.tmp 85),type:=4,pos:="law.go:83",after:=#[{on:=7,ground:=Ground.data}],guard:=none}:Oper)) (v:= ?_) rfl (by kernel_rfl) (by kernel_rfl) (by kernel_rfl) (fun _ _ _ h=>h) (Or.inl ⟨by rfl,?_⟩) hHeld ?_;rotate_left;(intro w hSw;(try dsimp only at hSw);go_simp;(try with_reducible rfl));skip)
      (try simp only[Act.put,List.setIfInBounds_toArray,List.set_cons_zero,List.set_cons_succ])
      first
       |(refine Qz (i:=9) (oi:=({dst:=some 87,op:=Op.move (Operand.tmp 4),type:=30,pos:="law.go:83",after:=#[{on:=8,ground:=Ground.guard}],guard:=some (8,false)}:Oper)) (v:=undef) rfl (by kernel_rfl) (by kernel_rfl) (by kernel_rfl) (fun _ _ _ h=>h) (Or.inr ⟨by rfl,rfl⟩) hHeld ?_)
       |(refine Qz (i:=9) (oi:=({dst:=some 87,op:=Op.move (Operand.tmp 4),type:=30,pos:="law.go:83",after:=#[{on:=8,ground:=Ground.guard}],guard:=some (8,false)}:Oper)) (v:= ?_) rfl (by kernel_rfl) (by kernel_rfl) (by kernel_rfl) (fun _ _ _ h=>h) (Or.inl ⟨by rfl,?_⟩) hHeld ?_;rotate_left;(intro w hSw;(try dsimp only at hSw);go_simp;(try with_reducible rfl));skip)
      (try simp only[Act.put,List.setIfInBounds_toArray,List.set_cons_zero,List.set_cons_succ])
      first
       |(refine Qz (i:=10) (oi:=({dst:=some 88,op:=Op.move (Operand.tmp 8),type:=3,pos:="law.go:83",after:=#[{on:=8,ground:=Ground.guard}],guard:=some (8,false)}:Oper)) (v:=undef) rfl (by kernel_rfl) (by kernel_rfl) (by kernel_rfl) (fun _ _ _ h=>h) (Or.inr ⟨by rfl,rfl⟩) hHeld ?_)
       |(refine Qz (i:=10) (oi:=({dst:=some 88,op:=Op.move (Operand.tmp 8),type:=3,pos:="law.go:83",after:=#[{on:=8,ground:=Ground.guard}],guard:=some (8,false)}:Oper)) (v:= ?_) rfl (by kernel_rfl) (by kernel_rfl) (by kernel_rfl) (fun _ _ _ h=>h) (Or.inl ⟨by rfl,?_⟩) hHeld ?_;rotate_left;(intro w hSw;(try dsimp only at hSw);go_simp;(try with_reducible rfl));skip)
      (try simp only[Act.put,List.setIfInBounds_toArray,List.set_cons_zero,List.set_cons_succ])
      first
       |(refine Qz (i:=11) (oi:=({dst:=some 89,op:=Op.indexAddr 30 (Operand.tmp 87) (Operand.tmp 88),type:=0,pos:="law.go:83",after:=#[{on:=9,ground:=Ground.data},{on:=10,ground:=Ground.data},{on:=8,ground:=Ground.guard}],guard:=some (8,false)}:Oper)) (v:=undef) rfl (by kernel_rfl) (by kernel_rfl) (by kernel_rfl) (fun _ _ _ h=>h) (Or.inr ⟨by rfl,rfl⟩) hHeld ?_)
       |(refine Qz (i:=11) (oi:=({dst:=some 89,op:=Op.indexAddr 30 (Operand.tmp 87) (Operand.tmp 88),type:=0,pos:="law.go:83",after:=#[{on:=9,ground:=Ground.data},{on:=10,ground:=Ground.data},{on:=8,ground:=Ground.guard}],guard:=some (8,false)}:Oper)) (v:= ?_) rfl (by kernel_rfl) (by kernel_rfl) (by kernel_rfl) (fun _ _ _ h=>h) (Or.inl ⟨by rfl,?_⟩) hHeld ?_;rotate_left;(intro w hSw;(try dsimp only at hSw);go_simp;(try with_reducible rfl));skip)
      (try simp only[Act.put,List.setIfInBounds_toArray,List.set_cons_zero,List.set_cons_succ])
      first
       |(refine Qz (i:=12) (oi:=({dst:=some 90,op:=Op.load 33 (Operand.tmp 89),type:=33,pos:="law.go:83",after:=#[{on:=11,ground:=Ground.data},{on:=8,ground:=Ground.guard}],guard:=some (8,false)}:Oper)) (v:=undef) rfl (by kernel_rfl) (by kernel_rfl) (by kernel_rfl) (fun _ _ _ h=>h) (Or.inr ⟨by rfl,rfl⟩) hHeld ?_)
       |(refine Qz (i:=12) (oi:=({dst:=some 90,op:=Op.load 33 (Operand.tmp 89),type:=33,pos:="law.go:83",after:=#[{on:=11,ground:=Ground.data},{on:=8,ground:=Ground.guard}],guard:=some (8,false)}:Oper)) (v:= ?_) rfl (by kernel_rfl) (by kernel_rfl) (by kernel_rfl) (fun _ _ _ h=>h) (Or.inl ⟨by rfl,?_⟩) hHeld ?_;rotate_left;(intro w hSw;(try dsimp only at hSw);go_simp;(try with_reducible rfl));skip)
      (try simp only[Act.put,List.setIfInBounds_toArray,List.set_cons_zero,List.set_cons_succ])
      first
       |(refine Qz (i:=13) (oi:=({dst:=some 91,op:=Op.move (Operand.tmp 9),type:=3,pos:="law.go:83",after:=#[{on:=8,ground:=Ground.guard}],guard:=some (8,false)}:Oper)) (v:=undef) rfl (by kernel_rfl) (by kernel_rfl) (by kernel_rfl) (fun _ _ _ h=>h) (Or.inr ⟨by rfl,rfl⟩) hHeld ?_)
       |(refine Qz (i:=13) (oi:=({dst:=some 91,op:=Op.move (Operand.tmp 9),type:=3,pos:="law.go:83",after:=#[{on:=8,ground:=Ground.guard}],guard:=some (8,false)}:Oper)) (v:= ?_) rfl (by kernel_rfl) (by kernel_rfl) (by kernel_rfl) (fun _ _ _ h=>h) (Or.inl ⟨by rfl,?_⟩) hHeld ?_;rotate_left;(intro w hSw;(try dsimp only at hSw);go_simp;(try with_reducible rfl));skip)
      (try simp only[Act.put,List.setIfInBounds_toArray,List.set_cons_zero,List.set_cons_succ])
      first
       |(refine Qz (i:=14) (oi:=({dst:=some 92,op:=Op.indexAddr 33 (Operand.tmp 90) (Operand.tmp 91),type:=0,pos:="law.go:83",after:=#[{on:=12,ground:=Ground.data},{on:=13,ground:=Ground.data},{on:=8,ground:=Ground.guard}],guard:=some (8,false)}:Oper)) (v:=undef) rfl (by kernel_rfl) (by kernel_rfl) (by kernel_rfl) (fun _ _ _ h=>h) (Or.inr ⟨by rfl,rfl⟩) hHeld ?_)
       |(refine Qz (i:=14) (oi:=({dst:=some 92,op:=Op.indexAddr 33 (Operand.tmp 90) (Operand.tmp 91),type:=0,pos:="law.go:83",after:=#[{on:=12,ground:=Ground.data},{on:=13,ground:=Ground.data},{on:=8,ground:=Ground.guard}],guard:=some (8,false)}:Oper)) (v:= ?_) rfl (by kernel_rfl) (by kernel_rfl) (by kernel_rfl) (fun _ _ _ h=>h) (Or.inl ⟨by rfl,?_⟩) hHeld ?_;rotate_left;(intro w hSw;(try dsimp only at hSw);go_simp;(try with_reducible rfl));skip)
      (try simp only[Act.put,List.setIfInBounds_toArray,List.set_cons_zero,List.set_cons_succ])
      first
       |(refine Qz (i:=15) (oi:=({dst:=some 93,op:=Op.load 3 (Operand.tmp 92),type:=3,pos:="law.go:83",after:=#[{on:=14,ground:=Ground.data},{on:=8,ground:=Ground.guard}],guard:=some (8,false)}:Oper)) (v:=undef) rfl (by kernel_rfl) (by kernel_rfl) (by kernel_rfl) (fun _ _ _ h=>h) (Or.inr ⟨by rfl,rfl⟩) hHeld ?_)
       |(refine Qz (i:=15) (oi:=({dst:=some 93,op:=Op.load 3 (Operand.tmp 92),type:=3,pos:="law.go:83",after:=#[{on:=14,ground:=Ground.data},{on:=8,ground:=Ground.guard}],guard:=some (8,false)}:Oper)) (v:= ?_) rfl (by kernel_rfl) (by kernel_rfl) (by kernel_rfl) (fun _ _ _ h=>h) (Or.inl ⟨by rfl,?_⟩) hHeld ?_;rotate_left;(intro w hSw;(try dsimp only at hSw);go_simp;(try with_reducible rfl));skip)
      (try simp only[Act.put,List.setIfInBounds_toArray,List.set_cons_zero,List.set_cons_succ])
      first
       |(refine Qz (i:=16) (oi:=({dst:=some 94,op:=Op.move (Operand.tmp 6),type:=33,pos:="law.go:83",after:=#[{on:=8,ground:=Ground.guard}],guard:=some (8,false)}:Oper)) (v:=undef) rfl (by kernel_rfl) (by kernel_rfl) (by kernel_rfl) (fun _ _ _ h=>h) (Or.inr ⟨by rfl,rfl⟩) hHeld ?_)
       |(refine Qz (i:=16) (oi:=({dst:=some 94,op:=Op.move (Operand.tmp 6),type:=33,pos:="law.go:83",after:=#[{on:=8,ground:=Ground.guard}],guard:=some (8,false)}:Oper)) (v:= ?_) rfl (by kernel_rfl) (by kernel_rfl) (by kernel_rfl) (fun _ _ _ h=>h) (Or.inl ⟨by rfl,?_⟩) hHeld ?_;rotate_left;(intro w hSw;(try dsimp only at hSw);go_simp;(try with_reducible rfl));skip)
      (try simp only[Act.put,List.setIfInBounds_toArray,List.set_cons_zero,List.set_cons_succ])
      first
       |(refine Qz (i:=17) (oi:=({dst:=some 95,op:=Op.call {callee:=Callee.builtin Builtin.len,args:=#[Operand.tmp 94],argTypes:=#[33]},type:=3,pos:="law.go:83",after:=#[{on:=16,ground:=Ground.data},{on:=8,ground:=Ground.guard}],guard:=some (8,false)}:Oper)) (v:=undef) rfl (by kernel_rfl) (by kernel_rfl) (by kernel_rfl) (fun _ _ _ h=>h) (Or.inr ⟨by rfl,rfl⟩) hHeld ?_)
       |(refine Qz (i:=17) (oi:=({dst:=some 95,op:=Op.call {callee:=Callee.builtin Builtin.len,args:=#[Operand.tmp 94],argTypes:=#[33]},type:=3,pos:="law.go:83",after:=#[{on:=16,ground:=Ground.data},{on:=8,ground:=Ground.guard}],guard:=some (8,false)}:Oper)) (v:= ?_) rfl (by kernel_rfl) (by kernel_rfl) (by kernel_rfl) (fun _ _ _ h=>h) (Or.inl ⟨by rfl,?_⟩) hHeld ?_;rotate_left;(intro w hSw;(try dsimp only at hSw);go_simp;(try with_reducible rfl));skip)
      (try simp only[Act.put,List.setIfInBounds_toArray,List.set_cons_zero,List.set_cons_succ])
      first
       |(refine Qz (i:=18) (oi:=({dst:=some 96,op:=Op.binOp BinOp.geq 3 (Operand.tmp 93) (Operand.tmp 95) 3,type:=4,pos:="law.go:83",after:=#[{on:=15,ground:=Ground.data},{on:=17,ground:=Ground.data},{on:=8,ground:=Ground.guard}],guard:=some (8,false)}:Oper)) (v:=undef) rfl (by kernel_rfl) (by kernel_rfl) (by kernel_rfl) (fun _ _ _ h=>h) (Or.inr ⟨by rfl,rfl⟩) hHeld ?_)
       |(refine Qz (i:=18) (oi:=({dst:=some 96,op:=Op.binOp BinOp.geq 3 (Operand.tmp 93) (Operand.tmp 95) 3,type:=4,pos:="law.go:83",after:=#[{on:=15,ground:=Ground.data},{on:=17,ground:=Ground.data},{on:=8,ground:=Ground.guard}],guard:=some (8,false)}:Oper)) (v:= ?_) rfl (by kernel_rfl) (by kernel_rfl) (by kernel_rfl) (fun _ _ _ h=>h) (Or.inl ⟨by rfl,?_⟩) hHeld ?_;rotate_left;(intro w hSw;(try dsimp only at hSw);go_simp;(try with_reducible rfl));skip)
      (try simp only[Act.put,List.setIfInBounds_toArray,List.set_cons_zero,List.set_cons_succ])
      (refine Qz (i:=19) (oi:=({dst:=some 97,op:=Op.pick (Operand.tmp 86) (Operand.const (Value.bool true)) (Operand.tmp 96),type:=4,pos:="law.go:83",after:=#[{on:=8,ground:=Ground.data},{on:=18,ground:=Ground.data}],guard:=none}:Oper)) (v:= ?_) rfl (by kernel_rfl) (by kernel_rfl) (by kernel_rfl) (fun _ _ _ h=>h) (Or.inl ⟨by rfl,?_⟩) hHeld ?_;rotate_left;(intro w hSw;(try dsimp only at hSw);go_simp;(try with_reducible rfl));skip)
      (try simp only[Act.put,List.setIfInBounds_toArray,List.set_cons_zero,List.set_cons_succ])
      (refine Qz (i:=20) (oi:=({dst:=some 98,op:=Op.move (Operand.tmp 97),type:=4,pos:="law.go:83",after:=#[{on:=19,ground:=Ground.data},{on:=8,ground:=Ground.chain}],guard:=none}:Oper)) (v:= ?_) rfl (by kernel_rfl) (by kernel_rfl) (by kernel_rfl) (fun _ _ _ h=>h) (Or.inl ⟨by rfl,?_⟩) hHeld ?_;rotate_left;(intro w hSw;(try dsimp only at hSw);go_simp;(try with_reducible rfl));skip)
      (try simp only[Act.put,List.setIfInBounds_toArray,List.set_cons_zero,List.set_cons_succ])
      first
       |(refine Qz (i:=21) (oi:=({dst:=some 99,op:=Op.move (Operand.tmp 6),type:=33,pos:="law.go:83",after:=#[{on:=20,ground:=Ground.guard}],guard:=some (20,false)}:Oper)) (v:=undef) rfl (by kernel_rfl) (by kernel_rfl) (by kernel_rfl) (fun _ _ _ h=>h) (Or.inr ⟨by rfl,rfl⟩) hHeld ?_)
       |(refine Qz (i:=21) (oi:=({dst:=some 99,op:=Op.move (Operand.tmp 6),type:=33,pos:="law.go:83",after:=#[{on:=20,ground:=Ground.guard}],guard:=some (20,false)}:Oper)) (v:= ?_) rfl (by kernel_rfl) (by kernel_rfl) (by kernel_rfl) (fun _ _ _ h=>h) (Or.inl ⟨by rfl,?_⟩) hHeld ?_;rotate_left;(intro w hSw;(try dsimp only at hSw);go_simp;(try with_reducible rfl));skip)
      (try simp only[Act.put,List.setIfInBounds_toArray,List.set_cons_zero,List.set_cons_succ])
      first
       |(refine Qz (i:=22) (oi:=({dst:=some 100,op:=Op.move (Operand.tmp 8),type:=3,pos:="law.go:83",after:=#[{on:=20,ground:=Ground.guard}],guard:=some (20,false)}:Oper)) (v:=undef) rfl (by kernel_rfl) (by kernel_rfl) (by kernel_rfl) (fun _ _ _ h=>h) (Or.inr ⟨by rfl,rfl⟩) hHeld ?_)
       |(refine Qz (i:=22) (oi:=({dst:=some 100,op:=Op.move (Operand.tmp 8),type:=3,pos:="law.go:83",after:=#[{on:=20,ground:=Ground.guard}],guard:=some (20,false)}:Oper)) (v:= ?_) rfl (by kernel_rfl) (by kernel_rfl) (by kernel_rfl) (fun _ _ _ h=>h) (Or.inl ⟨by rfl,?_⟩) hHeld ?_;rotate_left;(intro w hSw;(try dsimp only at hSw);go_simp;(try with_reducible rfl));skip)
      (try simp only[Act.put,List.setIfInBounds_toArray,List.set_cons_zero,List.set_cons_succ])
      first
       |(refine Qz (i:=23) (oi:=({dst:=some 101,op:=Op.indexAddr 33 (Operand.tmp 99) (Operand.tmp 100),type:=0,pos:="law.go:83",after:=#[{on:=21,ground:=Ground.data},{on:=22,ground:=Ground.data},{on:=20,ground:=Ground.guard}],guard:=some (20,false)}:Oper)) (v:=undef) rfl (by kernel_rfl) (by kernel_rfl) (by kernel_rfl) (fun _ _ _ h=>h) (Or.inr ⟨by rfl,rfl⟩) hHeld ?_)
       |(refine Qz (i:=23) (oi:=({dst:=some 101,op:=Op.indexAddr 33 (Operand.tmp 99) (Operand.tmp 100),type:=0,pos:="law.go:83",after:=#[{on:=21,ground:=Ground.data},{on:=22,ground:=Ground.data},{on:=20,ground:=Ground.guard}],guard:=some (20,false)}:Oper)) (v:= ?_) rfl (by kernel_rfl) (by kernel_rfl) (by kernel_rfl) (fun _ _ _ h=>h) (Or.inl ⟨by rfl,?_⟩) hHeld ?_;rotate_left;(intro w hSw;(try dsimp only at hSw);go_simp;(try with_reducible rfl));skip)
      (try simp only[Act.put,List.setIfInBounds_toArray,List.set_cons_zero,List.set_cons_succ])
      first
       |(refine Qz (i:=24) (oi:=({dst:=some 102,op:=Op.load 3 (Operand.tmp 101),type:=3,pos:="law.go:83",after:=#[{on:=23,ground:=Ground.data},{on:=20,ground:=Ground.guard}],guard:=some (20,false)}:Oper)) (v:=undef) rfl (by kernel_rfl) (by kernel_rfl) (by kernel_rfl) (fun _ _ _ h=>h) (Or.inr ⟨by rfl,rfl⟩) hHeld ?_)
       |(refine Qz (i:=24) (oi:=({dst:=some 102,op:=Op.load 3 (Operand.tmp 101),type:=3,pos:="law.go:83",after:=#[{on:=23,ground:=Ground.data},{on:=20,ground:=Ground.guard}],guard:=some (20,false)}:Oper)) (v:= ?_) rfl (by kernel_rfl) (by kernel_rfl) (by kernel_rfl) (fun _ _ _ h=>h) (Or.inl ⟨by rfl,?_⟩) hHeld ?_;rotate_left;(intro w hSw;(try dsimp only at hSw);go_simp;(try with_reducible rfl));skip)
      (try simp only[Act.put,List.setIfInBounds_toArray,List.set_cons_zero,List.set_cons_succ])
      first
       |(refine Qz (i:=25) (oi:=({dst:=some 103,op:=Op.move (Operand.tmp 6),type:=33,pos:="law.go:83",after:=#[{on:=20,ground:=Ground.guard}],guard:=some (20,false)}:Oper)) (v:=undef) rfl (by kernel_rfl) (by kernel_rfl) (by kernel_rfl) (fun _ _ _ h=>h) (Or.inr ⟨by rfl,rfl⟩) hHeld ?_)
       |(refine Qz (i:=25) (oi:=({dst:=some 103,op:=Op.move (Operand.tmp 6),type:=33,pos:="law.go:83",after:=#[{on:=20,ground:=Ground.guard}],guard:=some (20,false)}:Oper)) (v:= ?_) rfl (by kernel_rfl) (by kernel_rfl) (by kernel_rfl) (fun _ _ _ h=>h) (Or.inl ⟨by rfl,?_⟩) hHeld ?_;rotate_left;(intro w hSw;(try dsimp only at hSw);go_simp;(try with_reducible rfl));skip)
      (try simp only[Act.put,List.setIfInBounds_toArray,List.set_cons_zero,List.set_cons_succ])
      first
       |(refine Qz (i:=26) (oi:=({dst:=some 104,op:=Op.move (Operand.tmp 4),type:=30,pos:="law.go:83",after:=#[{on:=20,ground:=Ground.guard}],guard:=some (20,false)}:Oper)) (v:=undef) rfl (by kernel_rfl) (by kernel_rfl) (by kernel_rfl) (fun _ _ _ h=>h) (Or.inr ⟨by rfl,rfl⟩) hHeld ?_)
       |(refine Qz (i:=26) (oi:=({dst:=some 104,op:=Op.move (Operand.tmp 4),type:=30,pos:="law.go:83",after:=#[{on:=20,ground:=Ground.guard}],guard:=some (20,false)}:Oper)) (v:= ?_) rfl (by kernel_rfl) (by kernel_rfl) (by kernel_rfl) (fun _ _ _ h=>h) (Or.inl ⟨by rfl,?_⟩) hHeld ?_;rotate_left;(intro w hSw;(try dsimp only at hSw);go_simp;(try with_reducible rfl));skip)
      (try simp only[Act.put,List.setIfInBounds_toArray,List.set_cons_zero,List.set_cons_succ])
      first
       |(refine Qz (i:=27) (oi:=({dst:=some 105,op:=Op.move (Operand.tmp 8),type:=3,pos:="law.go:83",after:=#[{on:=20,ground:=Ground.guard}],guard:=some (20,false)}:Oper)) (v:=undef) rfl (by kernel_rfl) (by kernel_rfl) (by kernel_rfl) (fun _ _ _ h=>h) (Or.inr ⟨by rfl,rfl⟩) hHeld ?_)
       |(refine Qz (i:=27) (oi:=({dst:=some 105,op:=Op.move (Operand.tmp 8),type:=3,pos:="law.go:83",after:=#[{on:=20,ground:=Ground.guard}],guard:=some (20,false)}:Oper)) (v:= ?_) rfl (by kernel_rfl) (by kernel_rfl) (by kernel_rfl) (fun _ _ _ h=>h) (Or.inl ⟨by rfl,?_⟩) hHeld ?_;rotate_left;(intro w hSw;(try dsimp only at hSw);go_simp;(try with_reducible rfl));skip)
      (try simp only[Act.put,List.setIfInBounds_toArray,List.set_cons_zero,List.set_cons_succ])
      first
       |(refine Qz (i:=28) (oi:=({dst:=some 106,op:=Op.indexAddr 30 (Operand.tmp 104) (Operand.tmp 105),type:=0,pos:="law.go:83",after:=#[{on:=26,ground:=Ground.data},{on:=27,ground:=Ground.data},{on:=20,ground:=Ground.guard}],guard:=some (20,false)}:Oper)) (v:=undef) rfl (by kernel_rfl) (by kernel_rfl) (by kernel_rfl) (fun _ _ _ h=>h) (Or.inr ⟨by rfl,rfl⟩) hHeld ?_)
       |(refine Qz (i:=28) (oi:=({dst:=some 106,op:=Op.indexAddr 30 (Operand.tmp 104) (Operand.tmp 105),type:=0,pos:="law.go:83",after:=#[{on:=26,ground:=Ground.data},{on:=27,ground:=Ground.data},{on:=20,ground:=Ground.guard}],guard:=some (20,false)}:Oper)) (v:= ?_) rfl (by kernel_rfl) (by kernel_rfl) (by kernel_rfl) (fun _ _ _ h=>h) (Or.inl ⟨by rfl,?_⟩) hHeld ?_;rotate_left;(intro w hSw;(try dsimp only at hSw);go_simp;(try with_reducible rfl));skip)
      (try simp only[Act.put,List.setIfInBounds_toArray,List.set_cons_zero,List.set_cons_succ])
      first
       |(refine Qz (i:=29) (oi:=({dst:=some 107,op:=Op.load 33 (Operand.tmp 106),type:=33,pos:="law.go:83",after:=#[{on:=28,ground:=Ground.data},{on:=20,ground:=Ground.guard}],guard:=some (20,false)}:Oper)) (v:=undef) rfl (by kernel_rfl) (by kernel_rfl) (by kernel_rfl) (fun _ _ _ h=>h) (Or.inr ⟨by rfl,rfl⟩) hHeld ?_)
       |(refine Qz (i:=29) (oi:=({dst:=some 107,op:=Op.load 33 (Operand.tmp 106),type:=33,pos:="law.go:83",after:=#[{on:=28,ground:=Ground.data},{on:=20,ground:=Ground.guard}],guard:=some (20,false)}:Oper)) (v:= ?_) rfl (by kernel_rfl) (by kernel_rfl) (by kernel_rfl) (fun _ _ _ h=>h) (Or.inl ⟨by rfl,?_⟩) hHeld ?_;rotate_left;(intro w hSw;(try dsimp only at hSw);go_simp;(try with_reducible rfl));skip)
      (try simp only[Act.put,List.setIfInBounds_toArray,List.set_cons_zero,List.set_cons_succ])
      first
       |(refine Qz (i:=30) (oi:=({dst:=some 108,op:=Op.move (Operand.tmp 9),type:=3,pos:="law.go:83",after:=#[{on:=20,ground:=Ground.guard}],guard:=some (20,false)}:Oper)) (v:=undef) rfl (by kernel_rfl) (by kernel_rfl) (by kernel_rfl) (fun _ _ _ h=>h) (Or.inr ⟨by rfl,rfl⟩) hHeld ?_)
       |(refine Qz (i:=30) (oi:=({dst:=some 108,op:=Op.move (Operand.tmp 9),type:=3,pos:="law.go:83",after:=#[{on:=20,ground:=Ground.guard}],guard:=some (20,false)}:Oper)) (v:= ?_) rfl (by kernel_rfl) (by kernel_rfl) (by kernel_rfl) (fun _ _ _ h=>h) (Or.inl ⟨by rfl,?_⟩) hHeld ?_;rotate_left;(intro w hSw;(try dsimp only at hSw);go_simp;(try with_reducible rfl));skip)
      (try simp only[Act.put,List.setIfInBounds_toArray,List.set_cons_zero,List.set_cons_succ])
      first
       |(refine Qz (i:=31) (oi:=({dst:=some 109,op:=Op.indexAddr 33 (Operand.tmp 107) (Operand.tmp 108),type:=0,pos:="law.go:83",after:=#[{on:=29,ground:=Ground.data},{on:=30,ground:=Ground.data},{on:=20,ground:=Ground.guard}],guard:=some (20,false)}:Oper)) (v:=undef) rfl (by kernel_rfl) (by kernel_rfl) (by kernel_rfl) (fun _ _ _ h=>h) (Or.inr ⟨by rfl,rfl⟩) hHeld ?_)
       |(refine Qz (i:=31) (oi:=({dst:=some 109,op:=Op.indexAddr 33 (Operand.tmp 107) (Operand.tmp 108),type:=0,pos:="law.go:83",after:=#[{on:=29,ground:=Ground.data},{on:=30,ground:=Ground.data},{on:=20,ground:=Ground.guard}],guard:=some (20,false)}:Oper)) (v:= ?_) rfl (by kernel_rfl) (by kernel_rfl) (by kernel_rfl) (fun _ _ _ h=>h) (Or.inl ⟨by rfl,?_⟩) hHeld ?_;rotate_left;(intro w hSw;(try dsimp only at hSw);go_simp;(try with_reducible rfl));skip)
      (try simp only[Act.put,List.setIfInBounds_toArray,List.set_cons_zero,List.set_cons_succ])
      first
       |(refine Qz (i:=32) (oi:=({dst:=some 110,op:=Op.load 3 (Operand.tmp 109),type:=3,pos:="law.go:83",after:=#[{on:=31,ground:=Ground.data},{on:=20,ground:=Ground.guard}],guard:=some (20,false)}:Oper)) (v:=undef) rfl (by kernel_rfl) (by kernel_rfl) (by kernel_rfl) (fun _ _ _ h=>h) (Or.inr ⟨by rfl,rfl⟩) hHeld ?_)
       |(refine Qz (i:=32) (oi:=({dst:=some 110,op:=Op.load 3 (Operand.tmp 109),type:=3,pos:="law.go:83",after:=#[{on:=31,ground:=Ground.data},{on:=20,ground:=Ground.guard}],guard:=some (20,false)}:Oper)) (v:= ?_) rfl (by kernel_rfl) (by kernel_rfl) (by kernel_rfl) (fun _ _ _ h=>h) (Or.inl ⟨by rfl,?_⟩) hHeld ?_;rotate_left;(intro w hSw;(try dsimp only at hSw);go_simp;(try with_reducible rfl));skip)
      (try simp only[Act.put,List.setIfInBounds_toArray,List.set_cons_zero,List.set_cons_succ])
      first
       |(refine Qz (i:=33) (oi:=({dst:=some 111,op:=Op.indexAddr 33 (Operand.tmp 103) (Operand.tmp 110),type:=0,pos:="law.go:83",after:=#[{on:=25,ground:=Ground.data},{on:=32,ground:=Ground.data},{on:=20,ground:=Ground.guard}],guard:=some (20,false)}:Oper)) (v:=undef) rfl (by kernel_rfl) (by kernel_rfl) (by kernel_rfl) (fun _ _ _ h=>h) (Or.inr ⟨by rfl,rfl⟩) hHeld ?_)
       |(refine Qz (i:=33) (oi:=({dst:=some 111,op:=Op.indexAddr 33 (Operand.tmp 103) (Operand.tmp 110),type:=0,pos:="law.go:83",after:=#[{on:=25,ground:=Ground.data},{on:=32,ground:=Ground.data},{on:=20,ground:=Ground.guard}],guard:=some (20,false)}:Oper)) (v:= ?_) rfl (by kernel_rfl) (by kernel_rfl) (by kernel_rfl) (fun _ _ _ h=>h) (Or.inl ⟨by rfl,?_⟩) hHeld ?_;rotate_left;(intro w hSw;(try dsimp only at hSw);go_simp;(try with_reducible rfl));skip)
      (try simp only[Act.put,List.setIfInBounds_toArray,List.set_cons_zero,List.set_cons_succ])
      first
       |(refine Qz (i:=34) (oi:=({dst:=some 112,op:=Op.load 3 (Operand.tmp 111),type:=3,pos:="law.go:83",after:=#[{on:=33,ground:=Ground.data},{on:=20,ground:=Ground.guard}],guard:=some (20,false)}:Oper)) (v:=undef) rfl (by kernel_rfl) (by kernel_rfl) (by kernel_rfl) (fun _ _ _ h=>h) (Or.inr ⟨by rfl,rfl⟩) hHeld ?_)
       |(refine Qz (i:=34) (oi:=({dst:=some 112,op:=Op.load 3 (Operand.tmp 111),type:=3,pos:="law.go:83",after:=#[{on:=33,ground:=Ground.data},{on:=20,ground:=Ground.guard}],guard:=some (20,false)}:Oper)) (v:= ?_) rfl (by kernel_rfl) (by kernel_rfl) (by kernel_rfl) (fun _ _ _ h=>h) (Or.inl ⟨by rfl,?_⟩) hHeld ?_;rotate_left;(intro w hSw;(try dsimp only at hSw);go_simp;(try with_reducible rfl));skip)
      (try simp only[Act.put,List.setIfInBounds_toArray,List.set_cons_zero,List.set_cons_succ])
      first
       |(refine Qz (i:=35) (oi:=({dst:=some 113,op:=Op.binOp BinOp.leq 3 (Operand.tmp 102) (Operand.tmp 112) 3,type:=4,pos:="law.go:83",after:=#[{on:=24,ground:=Ground.data},{on:=34,ground:=Ground.data},{on:=20,ground:=Ground.guard}],guard:=some (20,false)}:Oper)) (v:=undef) rfl (by kernel_rfl) (by kernel_rfl) (by kernel_rfl) (fun _ _ _ h=>h) (Or.inr ⟨by rfl,rfl⟩) hHeld ?_)
       |(refine Qz (i:=35) (oi:=({dst:=some 113,op:=Op.binOp BinOp.leq 3 (Operand.tmp 102) (Operand.tmp 112) 3,type:=4,pos:="law.go:83",after:=#[{on:=24,ground:=Ground.data},{on:=34,ground:=Ground.data},{on:=20,ground:=Ground.guard}],guard:=some (20,false)}:Oper)) (v:= ?_) rfl (by kernel_rfl) (by kernel_rfl) (by kernel_rfl) (fun _ _ _ h=>h) (Or.inl ⟨by rfl,?_⟩) hHeld ?_;rotate_left;(intro w hSw;(try dsimp only at hSw);go_simp;(try with_reducible rfl));skip)
      (try simp only[Act.put,List.setIfInBounds_toArray,List.set_cons_zero,List.set_cons_succ])
      (refine Qz (i:=36) (oi:=({dst:=some 114,op:=Op.pick (Operand.tmp 98) (Operand.const (Value.bool true)) (Operand.tmp 113),type:=4,pos:="law.go:83",after:=#[{on:=20,ground:=Ground.data},{on:=35,ground:=Ground.data}],guard:=none}:Oper)) (v:= ?_) rfl (by kernel_rfl) (by kernel_rfl) (by kernel_rfl) (fun _ _ _ h=>h) (Or.inl ⟨by rfl,?_⟩) hHeld ?_;rotate_left;(intro w hSw;(try dsimp only at hSw);go_simp;(try with_reducible rfl));skip)
      (try simp only[Act.put,List.setIfInBounds_toArray,List.set_cons_zero,List.set_cons_succ])
      refine⟨by kernel_rfl,?_⟩;clear hHeld
      go_wp2_with fail
      exact⟨⟨k+1,by go_num,by omega,HBd⟩,by simp[intOf];omega⟩
     ·have a1:decide ((k:Int)<(ku:Int))=false:=by simp;omega
      have HS1:Hid (wr.drew.cell? ⟨ub,i,none⟩=some (.slice rso ku rcap)/\wr.drew.cell? ⟨gr,i,none⟩=some (.int .i64 ri)):=⟨(HBk.out.drew.cell (p:=⟨ub,i,none⟩) lub).trans HCu.out,(HBk.out.drew.cell (p:=⟨gr,i,none⟩) lgr).trans HCi.out⟩;have HBd:=hid HBk.out.drew;have c0:decide ((ri:Int)<0)=false:=by simp
      have c1:decide ((n:Int)<=(ri:Int))=false:=by simp;omega
      have c1D:decide (n<=ri)=false:=by simp;omega
      have c1N:¬n<=ri:=by omega
      go_wp2_with fail
      refine Vl 99 (fun W:World=>W.cell? ⟨ub,i,none⟩=some (.slice rso ku rcap)/\W.cell? ⟨gr,i,none⟩=some (.int .i64 ri)) (by kernel_rfl) HS1.out (fun hHeld2=> ?_)
      (refine Qz (i:=0) (oi:=({dst:=some 115,op:=Op.move (Operand.tmp 6),type:=33,pos:="law.go:87",after:=#[],guard:=none}:Oper)) (v:= ?_) rfl (by kernel_rfl) (by kernel_rfl) (by kernel_rfl) (fun _ _ _ h=>h) (Or.inl ⟨by rfl,?_⟩) hHeld2 ?_;rotate_left;(intro w hSw;(try dsimp only at hSw);go_simp;(try with_reducible rfl));skip)
      (try simp only[Act.put,List.setIfInBounds_toArray,List.set_cons_zero,List.set_cons_succ])
      (refine Qz (i:=1) (oi:=({dst:=some 116,op:=Op.move (Operand.tmp 8),type:=3,pos:="law.go:87",after:=#[],guard:=none}:Oper)) (v:= ?_) rfl (by kernel_rfl) (by kernel_rfl) (by kernel_rfl) (fun _ _ _ h=>h) (Or.inl ⟨by rfl,?_⟩) hHeld2 ?_;rotate_left;(intro w hSw;(try dsimp only at hSw);go_simp;(try with_reducible rfl));skip)
      (try simp only[Act.put,List.setIfInBounds_toArray,List.set_cons_zero,List.set_cons_succ])
      (refine Qz (i:=2) (oi:=({dst:=some 117,op:=Op.indexAddr 33 (Operand.tmp 115) (Operand.tmp 116),type:=0,pos:="law.go:87",after:=#[{on:=0,ground:=Ground.data},{on:=1,ground:=Ground.data}],guard:=none}:Oper)) (v:= ?_) rfl (by kernel_rfl) (by kernel_rfl) (by kernel_rfl) (fun _ _ _ h=>h) (Or.inl ⟨by rfl,?_⟩) hHeld2 ?_;rotate_left;(intro w hSw;(try dsimp only at hSw);go_simp;(try with_reducible rfl));skip)
      (try simp only[Act.put,List.setIfInBounds_toArray,List.set_cons_zero,List.set_cons_succ])
      (refine Qz (i:=3) (oi:=({dst:=some 118,op:=Op.load 3 (Operand.tmp 117),type:=3,pos:="law.go:87",after:=#[{on:=2,ground:=Ground.data}],guard:=none}:Oper)) (v:= ?_) rfl (by kernel_rfl) (by kernel_rfl) (by kernel_rfl) (fun _ _ _ h=>h) (Or.inl ⟨by rfl,?_⟩) hHeld2 ?_;rotate_left;(intro w hSw;(try dsimp only at hSw);go_simp;(try with_reducible rfl));skip)
      (try simp only[Act.put,List.setIfInBounds_toArray,List.set_cons_zero,List.set_cons_succ])
      (refine Qz (i:=4) (oi:=({dst:=some 119,op:=Op.binOp BinOp.lss 3 (Operand.tmp 118) (Operand.const (Value.int IntKind.i64 0)) 3,type:=4,pos:="law.go:87",after:=#[{on:=3,ground:=Ground.data}],guard:=none}:Oper)) (v:= ?_) rfl (by kernel_rfl) (by kernel_rfl) (by kernel_rfl) (fun _ _ _ h=>h) (Or.inl ⟨by rfl,?_⟩) hHeld2 ?_;rotate_left;(intro w hSw;(try dsimp only at hSw);go_simp;(try with_reducible rfl));skip)
      (try simp only[Act.put,List.setIfInBounds_toArray,List.set_cons_zero,List.set_cons_succ])
      (refine Qz (i:=5) (oi:=({dst:=some 120,op:=Op.move (Operand.tmp 119),type:=4,pos:="law.go:87",after:=#[{on:=4,ground:=Ground.data}],guard:=none}:Oper)) (v:= ?_) rfl (by kernel_rfl) (by kernel_rfl) (by kernel_rfl) (fun _ _ _ h=>h) (Or.inl ⟨by rfl,?_⟩) hHeld2 ?_;rotate_left;(intro w hSw;(try dsimp only at hSw);go_simp;(try with_reducible rfl));skip)
      (try simp only[Act.put,List.setIfInBounds_toArray,List.set_cons_zero,List.set_cons_succ])
      first
       |(refine Qz (i:=6) (oi:=({dst:=some 121,op:=Op.move (Operand.tmp 6),type:=33,pos:="law.go:87",after:=#[{on:=5,ground:=Ground.guard}],guard:=some (5,false)}:Oper)) (v:=undef) rfl (by kernel_rfl) (by kernel_rfl) (by kernel_rfl) (fun _ _ _ h=>h) (Or.inr ⟨by rfl,rfl⟩) hHeld2 ?_)
       |(refine Qz (i:=6) (oi:=({dst:=some 121,op:=Op.move (Operand.tmp 6),type:=33,pos:="law.go:87",after:=#[{on:=5,ground:=Ground.guard}],guard:=some (5,false)}:Oper)) (v:= ?_) rfl (by kernel_rfl) (by kernel_rfl) (by kernel_rfl) (fun _ _ _ h=>h) (Or.inl ⟨by rfl,?_⟩) hHeld2 ?_;rotate_left;(intro w hSw;(try dsimp only at hSw);go_simp;(try with_reducible rfl));skip)
      (try simp only[Act.put,List.setIfInBounds_toArray,List.set_cons_zero,List.set_cons_succ])
      first
       |(refine Qz (i:=7) (oi:=({dst:=some 122,op:=Op.move (Operand.tmp 8),type:=3,pos:="law.go:87",after:=#[{on:=5,ground:=Ground.guard}],guard:=some (5,false)}:Oper)) (v:=undef) rfl (by kernel_rfl) (by kernel_rfl) (by kernel_rfl) (fun _ _ _ h=>h) (Or.inr ⟨by rfl,rfl⟩) hHeld2 ?_)
       |(refine Qz (i:=7) (oi:=({dst:=some 122,op:=Op.move (Operand.tmp 8),type:=3,pos:="law.go:87",after:=#[{on:=5,ground:=Ground.guard}],guard:=some (5,false)}:Oper)) (v:= ?_) rfl (by kernel_rfl) (by kernel_rfl) (by kernel_rfl) (fun _ _ _ h=>h) (Or.inl ⟨by rfl,?_⟩) hHeld2 ?_;rotate_left;(intro w hSw;(try dsimp only at hSw);go_simp;(try with_reducible rfl));skip)
      (try simp only[Act.put,List.setIfInBounds_toArray,List.set_cons_zero,List.set_cons_succ])
      first
       |(refine Qz (i:=8) (oi:=({dst:=some 123,op:=Op.indexAddr 33 (Operand.tmp 121) (Operand.tmp 122),type:=0,pos:="law.go:87",after:=#[{on:=6,ground:=Ground.data},{on:=7,ground:=Ground.data},{on:=5,ground:=Ground.guard}],guard:=some (5,false)}:Oper)) (v:=undef) rfl (by kernel_rfl) (by kernel_rfl) (by kernel_rfl) (fun _ _ _ h=>h) (Or.inr ⟨by rfl,rfl⟩) hHeld2 ?_)
       |(refine Qz (i:=8) (oi:=({dst:=some 123,op:=Op.indexAddr 33 (Operand.tmp 121) (Operand.tmp 122),type:=0,pos:="law.go:87",after:=#[{on:=6,ground:=Ground.data},{on:=7,ground:=Ground.data},{on:=5,ground:=Ground.guard}],guard:=some (5,false)}:Oper)) (v:= ?_) rfl (by kernel_rfl) (by kernel_rfl) (by kernel_rfl) (fun _ _ _ h=>h) (Or.inl ⟨by rfl,?_⟩) hHeld2 ?_;rotate_left;(intro w hSw;(try dsimp only at hSw);go_simp;(try with_reducible rfl));skip)
      (try simp only[Act.put,List.setIfInBounds_toArray,List.set_cons_zero,List.set_cons_succ])
      first
       |(refine Qz (i:=9) (oi:=({dst:=some 124,op:=Op.load 3 (Operand.tmp 123),type:=3,pos:="law.go:87",after:=#[{on:=8,ground:=Ground.data},{on:=5,ground:=Ground.guard}],guard:=some (5,false)}:Oper)) (v:=undef) rfl (by kernel_rfl) (by kernel_rfl) (by kernel_rfl) (fun _ _ _ h=>h) (Or.inr ⟨by rfl,rfl⟩) hHeld2 ?_)
       |(refine Qz (i:=9) (oi:=({dst:=some 124,op:=Op.load 3 (Operand.tmp 123),type:=3,pos:="law.go:87",after:=#[{on:=8,ground:=Ground.data},{on:=5,ground:=Ground.guard}],guard:=some (5,false)}:Oper)) (v:= ?_) rfl (by kernel_rfl) (by kernel_rfl) (by kernel_rfl) (fun _ _ _ h=>h) (Or.inl ⟨by rfl,?_⟩) hHeld2 ?_;rotate_left;(intro w hSw;(try dsimp only at hSw);go_simp;(try with_reducible rfl));skip)
      (try simp only[Act.put,List.setIfInBounds_toArray,List.set_cons_zero,List.set_cons_succ])
      first
       |(refine Qz (i:=10) (oi:=({dst:=some 125,op:=Op.move (Operand.tmp 6),type:=33,pos:="law.go:87",after:=#[{on:=5,ground:=Ground.guard}],guard:=some (5,false)}:Oper)) (v:=undef) rfl (by kernel_rfl) (by kernel_rfl) (by kernel_rfl) (fun _ _ _ h=>h) (Or.inr ⟨by rfl,rfl⟩) hHeld2 ?_)
       |(refine Qz (i:=10) (oi:=({dst:=some 125,op:=Op.move (Operand.tmp 6),type:=33,pos:="law.go:87",after:=#[{on:=5,ground:=Ground.guard}],guard:=some (5,false)}:Oper)) (v:= ?_) rfl (by kernel_rfl) (by kernel_rfl) (by kernel_rfl) (fun _ _ _ h=>h) (Or.inl ⟨by rfl,?_⟩) hHeld2 ?_;rotate_left;(intro w hSw;(try dsimp only at hSw);go_simp;(try with_reducible rfl));skip)
      (try simp only[Act.put,List.setIfInBounds_toArray,List.set_cons_zero,List.set_cons_succ])
      first
       |(refine Qz (i:=11) (oi:=({dst:=some 126,op:=Op.call {callee:=Callee.builtin Builtin.len,args:=#[Operand.tmp 125],argTypes:=#[33]},type:=3,pos:="law.go:87",after:=#[{on:=10,ground:=Ground.data},{on:=5,ground:=Ground.guard}],guard:=some (5,false)}:Oper)) (v:=undef) rfl (by kernel_rfl) (by kernel_rfl) (by kernel_rfl) (fun _ _ _ h=>h) (Or.inr ⟨by rfl,rfl⟩) hHeld2 ?_)
       |(refine Qz (i:=11) (oi:=({dst:=some 126,op:=Op.call {callee:=Callee.builtin Builtin.len,args:=#[Operand.tmp 125],argTypes:=#[33]},type:=3,pos:="law.go:87",after:=#[{on:=10,ground:=Ground.data},{on:=5,ground:=Ground.guard}],guard:=some (5,false)}:Oper)) (v:= ?_) rfl (by kernel_rfl) (by kernel_rfl) (by kernel_rfl) (fun _ _ _ h=>h) (Or.inl ⟨by rfl,?_⟩) hHeld2 ?_;rotate_left;(intro w hSw;(try dsimp only at hSw);go_simp;(try with_reducible rfl));skip)
      (try simp only[Act.put,List.setIfInBounds_toArray,List.set_cons_zero,List.set_cons_succ])
      first
       |(refine Qz (i:=12) (oi:=({dst:=some 127,op:=Op.binOp BinOp.geq 3 (Operand.tmp 124) (Operand.tmp 126) 3,type:=4,pos:="law.go:87",after:=#[{on:=9,ground:=Ground.data},{on:=11,ground:=Ground.data},{on:=5,ground:=Ground.guard}],guard:=some (5,false)}:Oper)) (v:=undef) rfl (by kernel_rfl) (by kernel_rfl) (by kernel_rfl) (fun _ _ _ h=>h) (Or.inr ⟨by rfl,rfl⟩) hHeld2 ?_)
       |(refine Qz (i:=12) (oi:=({dst:=some 127,op:=Op.binOp BinOp.geq 3 (Operand.tmp 124) (Operand.tmp 126) 3,type:=4,pos:="law.go:87",after:=#[{on:=9,ground:=Ground.data},{on:=11,ground:=Ground.data},{on:=5,ground:=Ground.guard}],guard:=some (5,false)}:Oper)) (v:= ?_) rfl (by kernel_rfl) (by kernel_rfl) (by kernel_rfl) (fun _ _ _ h=>h) (Or.inl ⟨by rfl,?_⟩) hHeld2 ?_;rotate_left;(intro w hSw;(try dsimp only at hSw);go_simp;(try with_reducible rfl));skip)
      (try simp only[Act.put,List.setIfInBounds_toArray,List.set_cons_zero,List.set_cons_succ])
      (refine Qz (i:=13) (oi:=({dst:=some 128,op:=Op.pick (Operand.tmp 120) (Operand.const (Value.bool true)) (Operand.tmp 127),type:=4,pos:="law.go:87",after:=#[{on:=5,ground:=Ground.data},{on:=12,ground:=Ground.data}],guard:=none}:Oper)) (v:= ?_) rfl (by kernel_rfl) (by kernel_rfl) (by kernel_rfl) (fun _ _ _ h=>h) (Or.inl ⟨by rfl,?_⟩) hHeld2 ?_;rotate_left;(intro w hSw;(try dsimp only at hSw);go_simp;(try with_reducible rfl));skip)
      (try simp only[Act.put,List.setIfInBounds_toArray,List.set_cons_zero,List.set_cons_succ])
      (refine Qz (i:=14) (oi:=({dst:=some 129,op:=Op.move (Operand.tmp 128),type:=4,pos:="law.go:87",after:=#[{on:=13,ground:=Ground.data},{on:=5,ground:=Ground.chain}],guard:=none}:Oper)) (v:= ?_) rfl (by kernel_rfl) (by kernel_rfl) (by kernel_rfl) (fun _ _ _ h=>h) (Or.inl ⟨by rfl,?_⟩) hHeld2 ?_;rotate_left;(intro w hSw;(try dsimp only at hSw);go_simp;(try with_reducible rfl));skip)
      (try simp only[Act.put,List.setIfInBounds_toArray,List.set_cons_zero,List.set_cons_succ])
      first
       |(refine Qz (i:=15) (oi:=({dst:=some 130,op:=Op.move (Operand.tmp 6),type:=33,pos:="law.go:87",after:=#[{on:=14,ground:=Ground.guard}],guard:=some (14,false)}:Oper)) (v:=undef) rfl (by kernel_rfl) (by kernel_rfl) (by kernel_rfl) (fun _ _ _ h=>h) (Or.inr ⟨by rfl,rfl⟩) hHeld2 ?_)
       |(refine Qz (i:=15) (oi:=({dst:=some 130,op:=Op.move (Operand.tmp 6),type:=33,pos:="law.go:87",after:=#[{on:=14,ground:=Ground.guard}],guard:=some (14,false)}:Oper)) (v:= ?_) rfl (by kernel_rfl) (by kernel_rfl) (by kernel_rfl) (fun _ _ _ h=>h) (Or.inl ⟨by rfl,?_⟩) hHeld2 ?_;rotate_left;(intro w hSw;(try dsimp only at hSw);go_simp;(try with_reducible rfl));skip)
      (try simp only[Act.put,List.setIfInBounds_toArray,List.set_cons_zero,List.set_cons_succ])
      first
       |(refine Qz (i:=16) (oi:=({dst:=some 131,op:=Op.move (Operand.tmp 8),type:=3,pos:="law.go:87",after:=#[{on:=14,ground:=Ground.guard}],guard:=some (14,false)}:Oper)) (v:=undef) rfl (by kernel_rfl) (by kernel_rfl) (by kernel_rfl) (fun _ _ _ h=>h) (Or.inr ⟨by rfl,rfl⟩) hHeld2 ?_)
       |(refine Qz (i:=16) (oi:=({dst:=some 131,op:=Op.move (Operand.tmp 8),type:=3,pos:="law.go:87",after:=#[{on:=14,ground:=Ground.guard}],guard:=some (14,false)}:Oper)) (v:= ?_) rfl (by kernel_rfl) (by kernel_rfl) (by kernel_rfl) (fun _ _ _ h=>h) (Or.inl ⟨by rfl,?_⟩) hHeld2 ?_;rotate_left;(intro w hSw;(try dsimp only at hSw);go_simp;(try with_reducible rfl));skip)
      (try simp only[Act.put,List.setIfInBounds_toArray,List.set_cons_zero,List.set_cons_succ])
      first
       |(refine Qz (i:=17) (oi:=({dst:=some 132,op:=Op.indexAddr 33 (Operand.tmp 130) (Operand.tmp 131),type:=0,pos:="law.go:87",after:=#[{on:=15,ground:=Ground.data},{on:=16,ground:=Ground.data},{on:=14,ground:=Ground.guard}],guard:=some (14,false)}:Oper)) (v:=undef) rfl (by kernel_rfl) (by kernel_rfl) (by kernel_rfl) (fun _ _ _ h=>h) (Or.inr ⟨by rfl,rfl⟩) hHeld2 ?_)
       |(refine Qz (i:=17) (oi:=({dst:=some 132,op:=Op.indexAddr 33 (Operand.tmp 130) (Operand.tmp 131),type:=0,pos:="law.go:87",after:=#[{on:=15,ground:=Ground.data},{on:=16,ground:=Ground.data},{on:=14,ground:=Ground.guard}],guard:=some (14,false)}:Oper)) (v:= ?_) rfl (by kernel_rfl) (by kernel_rfl) (by kernel_rfl) (fun _ _ _ h=>h) (Or.inl ⟨by rfl,?_⟩) hHeld2 ?_;rotate_left;(intro w hSw;(try dsimp only at hSw);go_simp;(try with_reducible rfl));skip)
      (try simp only[Act.put,List.setIfInBounds_toArray,List.set_cons_zero,List.set_cons_succ])
      first
       |(refine Qz (i:=18) (oi:=({dst:=some 133,op:=Op.load 3 (Operand.tmp 132),type:=3,pos:="law.go:87",after:=#[{on:=17,ground:=Ground.data},{on:=14,ground:=Ground.guard}],guard:=some (14,false)}:Oper)) (v:=undef) rfl (by kernel_rfl) (by kernel_rfl) (by kernel_rfl) (fun _ _ _ h=>h) (Or.inr ⟨by rfl,rfl⟩) hHeld2 ?_)
       |(refine Qz (i:=18) (oi:=({dst:=some 133,op:=Op.load 3 (Operand.tmp 132),type:=3,pos:="law.go:87",after:=#[{on:=17,ground:=Ground.data},{on:=14,ground:=Ground.guard}],guard:=some (14,false)}:Oper)) (v:= ?_) rfl (by kernel_rfl) (by kernel_rfl) (by kernel_rfl) (fun _ _ _ h=>h) (Or.inl ⟨by rfl,?_⟩) hHeld2 ?_;rotate_left;(intro w hSw;(try dsimp only at hSw);go_simp;(try with_reducible rfl));skip)
      (try simp only[Act.put,List.setIfInBounds_toArray,List.set_cons_zero,List.set_cons_succ])
      first
       |(refine Qz (i:=19) (oi:=({dst:=some 134,op:=Op.binOp BinOp.eql 3 (Operand.tmp 133) (Operand.const (Value.int IntKind.i64 0)) 3,type:=4,pos:="law.go:87",after:=#[{on:=18,ground:=Ground.data},{on:=14,ground:=Ground.guard}],guard:=some (14,false)}:Oper)) (v:=undef) rfl (by kernel_rfl) (by kernel_rfl) (by kernel_rfl) (fun _ _ _ h=>h) (Or.inr ⟨by rfl,rfl⟩) hHeld2 ?_)
       |(refine Qz (i:=19) (oi:=({dst:=some 134,op:=Op.binOp BinOp.eql 3 (Operand.tmp 133) (Operand.const (Value.int IntKind.i64 0)) 3,type:=4,pos:="law.go:87",after:=#[{on:=18,ground:=Ground.data},{on:=14,ground:=Ground.guard}],guard:=some (14,false)}:Oper)) (v:= ?_) rfl (by kernel_rfl) (by kernel_rfl) (by kernel_rfl) (fun _ _ _ h=>h) (Or.inl ⟨by rfl,?_⟩) hHeld2 ?_;rotate_left;(intro w hSw;(try dsimp only at hSw);go_simp;(try with_reducible rfl));skip)
      (try simp only[Act.put,List.setIfInBounds_toArray,List.set_cons_zero,List.set_cons_succ])
      first
       |(refine Qz (i:=20) (oi:=({dst:=some 135,op:=Op.move (Operand.tmp 4),type:=30,pos:="law.go:87",after:=#[{on:=14,ground:=Ground.guard}],guard:=some (14,false)}:Oper)) (v:=undef) rfl (by kernel_rfl) (by kernel_rfl) (by kernel_rfl) (fun _ _ _ h=>h) (Or.inr ⟨by rfl,rfl⟩) hHeld2 ?_)
       |(refine Qz (i:=20) (oi:=({dst:=some 135,op:=Op.move (Operand.tmp 4),type:=30,pos:="law.go:87",after:=#[{on:=14,ground:=Ground.guard}],guard:=some (14,false)}:Oper)) (v:= ?_) rfl (by kernel_rfl) (by kernel_rfl) (by kernel_rfl) (fun _ _ _ h=>h) (Or.inl ⟨by rfl,?_⟩) hHeld2 ?_;rotate_left;(intro w hSw;(try dsimp only at hSw);go_simp;(try with_reducible rfl));skip)
      (try simp only[Act.put,List.setIfInBounds_toArray,List.set_cons_zero,List.set_cons_succ])
      first
       |(refine Qz (i:=21) (oi:=({dst:=some 136,op:=Op.move (Operand.tmp 8),type:=3,pos:="law.go:87",after:=#[{on:=14,ground:=Ground.guard}],guard:=some (14,false)}:Oper)) (v:=undef) rfl (by kernel_rfl) (by kernel_rfl) (by kernel_rfl) (fun _ _ _ h=>h) (Or.inr ⟨by rfl,rfl⟩) hHeld2 ?_)
       |(refine Qz (i:=21) (oi:=({dst:=some 136,op:=Op.move (Operand.tmp 8),type:=3,pos:="law.go:87",after:=#[{on:=14,ground:=Ground.guard}],guard:=some (14,false)}:Oper)) (v:= ?_) rfl (by kernel_rfl) (by kernel_rfl) (by kernel_rfl) (fun _ _ _ h=>h) (Or.inl ⟨by rfl,?_⟩) hHeld2 ?_;rotate_left;(intro w hSw;(try dsimp only at hSw);go_simp;(try with_reducible rfl));skip)
      (try simp only[Act.put,List.setIfInBounds_toArray,List.set_cons_zero,List.set_cons_succ])
      first
       |(refine Qz (i:=22) (oi:=({dst:=some 137,op:=Op.indexAddr 30 (Operand.tmp 135) (Operand.tmp 136),type:=0,pos:="law.go:87",after:=#[{on:=20,ground:=Ground.data},{on:=21,ground:=Ground.data},{on:=14,ground:=Ground.guard}],guard:=some (14,false)}:Oper)) (v:=undef) rfl (by kernel_rfl) (by kernel_rfl) (by kernel_rfl) (fun _ _ _ h=>h) (Or.inr ⟨by rfl,rfl⟩) hHeld2 ?_)
       |(refine Qz (i:=22) (oi:=({dst:=some 137,op:=Op.indexAddr 30 (Operand.tmp 135) (Operand.tmp 136),type:=0,pos:="law.go:87",after:=#[{on:=20,ground:=Ground.data},{on:=21,ground:=Ground.data},{on:=14,ground:=Ground.guard}],guard:=some (14,false)}:Oper)) (v:= ?_) rfl (by kernel_rfl) (by kernel_rfl) (by kernel_rfl) (fun _ _ _ h=>h) (Or.inl ⟨by rfl,?_⟩) hHeld2 ?_;rotate_left;(intro w hSw;(try dsimp only at hSw);go_simp;(try with_reducible rfl));skip)
      (try simp only[Act.put,List.setIfInBounds_toArray,List.set_cons_zero,List.set_cons_succ])
      first
       |(refine Qz (i:=23) (oi:=({dst:=some 138,op:=Op.load 33 (Operand.tmp 137),type:=33,pos:="law.go:87",after:=#[{on:=22,ground:=Ground.data},{on:=14,ground:=Ground.guard}],guard:=some (14,false)}:Oper)) (v:=undef) rfl (by kernel_rfl) (by kernel_rfl) (by kernel_rfl) (fun _ _ _ h=>h) (Or.inr ⟨by rfl,rfl⟩) hHeld2 ?_)
       |(refine Qz (i:=23) (oi:=({dst:=some 138,op:=Op.load 33 (Operand.tmp 137),type:=33,pos:="law.go:87",after:=#[{on:=22,ground:=Ground.data},{on:=14,ground:=Ground.guard}],guard:=some (14,false)}:Oper)) (v:= ?_) rfl (by kernel_rfl) (by kernel_rfl) (by kernel_rfl) (fun _ _ _ h=>h) (Or.inl ⟨by rfl,?_⟩) hHeld2 ?_;rotate_left;(intro w hSw;(try dsimp only at hSw);go_simp;(try with_reducible rfl));skip)
      (try simp only[Act.put,List.setIfInBounds_toArray,List.set_cons_zero,List.set_cons_succ])
      first
       |(refine Qz (i:=24) (oi:=({dst:=some 139,op:=Op.call {callee:=Callee.builtin Builtin.len,args:=#[Operand.tmp 138],argTypes:=#[33]},type:=3,pos:="law.go:87",after:=#[{on:=23,ground:=Ground.data},{on:=14,ground:=Ground.guard}],guard:=some (14,false)}:Oper)) (v:=undef) rfl (by kernel_rfl) (by kernel_rfl) (by kernel_rfl) (fun _ _ _ h=>h) (Or.inr ⟨by rfl,rfl⟩) hHeld2 ?_)
       |(refine Qz (i:=24) (oi:=({dst:=some 139,op:=Op.call {callee:=Callee.builtin Builtin.len,args:=#[Operand.tmp 138],argTypes:=#[33]},type:=3,pos:="law.go:87",after:=#[{on:=23,ground:=Ground.data},{on:=14,ground:=Ground.guard}],guard:=some (14,false)}:Oper)) (v:= ?_) rfl (by kernel_rfl) (by kernel_rfl) (by kernel_rfl) (fun _ _ _ h=>h) (Or.inl ⟨by rfl,?_⟩) hHeld2 ?_;rotate_left;(intro w hSw;(try dsimp only at hSw);go_simp;(try with_reducible rfl));skip)
      (try simp only[Act.put,List.setIfInBounds_toArray,List.set_cons_zero,List.set_cons_succ])
      first
       |(refine Qz (i:=25) (oi:=({dst:=some 140,op:=Op.binOp BinOp.eql 3 (Operand.tmp 139) (Operand.const (Value.int IntKind.i64 0)) 3,type:=4,pos:="law.go:87",after:=#[{on:=24,ground:=Ground.data},{on:=14,ground:=Ground.guard}],guard:=some (14,false)}:Oper)) (v:=undef) rfl (by kernel_rfl) (by kernel_rfl) (by kernel_rfl) (fun _ _ _ h=>h) (Or.inr ⟨by rfl,rfl⟩) hHeld2 ?_)
       |(refine Qz (i:=25) (oi:=({dst:=some 140,op:=Op.binOp BinOp.eql 3 (Operand.tmp 139) (Operand.const (Value.int IntKind.i64 0)) 3,type:=4,pos:="law.go:87",after:=#[{on:=24,ground:=Ground.data},{on:=14,ground:=Ground.guard}],guard:=some (14,false)}:Oper)) (v:= ?_) rfl (by kernel_rfl) (by kernel_rfl) (by kernel_rfl) (fun _ _ _ h=>h) (Or.inl ⟨by rfl,?_⟩) hHeld2 ?_;rotate_left;(intro w hSw;(try dsimp only at hSw);go_simp;(try with_reducible rfl));skip)
      (try simp only[Act.put,List.setIfInBounds_toArray,List.set_cons_zero,List.set_cons_succ])
      first
       |(refine Qz (i:=26) (oi:=({dst:=some 141,op:=Op.binOp BinOp.neq 4 (Operand.tmp 134) (Operand.tmp 140) 4,type:=4,pos:="law.go:87",after:=#[{on:=19,ground:=Ground.data},{on:=25,ground:=Ground.data},{on:=14,ground:=Ground.guard}],guard:=some (14,false)}:Oper)) (v:=undef) rfl (by kernel_rfl) (by kernel_rfl) (by kernel_rfl) (fun _ _ _ h=>h) (Or.inr ⟨by rfl,rfl⟩) hHeld2 ?_)
       |(refine Qz (i:=26) (oi:=({dst:=some 141,op:=Op.binOp BinOp.neq 4 (Operand.tmp 134) (Operand.tmp 140) 4,type:=4,pos:="law.go:87",after:=#[{on:=19,ground:=Ground.data},{on:=25,ground:=Ground.data},{on:=14,ground:=Ground.guard}],guard:=some (14,false)}:Oper)) (v:= ?_) rfl (by kernel_rfl) (by kernel_rfl) (by kernel_rfl) (fun _ _ _ h=>h) (Or.inl ⟨by rfl,?_⟩) hHeld2 ?_;rotate_left;(intro w hSw;(try dsimp only at hSw);go_simp;(try with_reducible rfl));skip)
      (try simp only[Act.put,List.setIfInBounds_toArray,List.set_cons_zero,List.set_cons_succ])
      (refine Qz (i:=27) (oi:=({dst:=some 142,op:=Op.pick (Operand.tmp 129) (Operand.const (Value.bool true)) (Operand.tmp 141),type:=4,pos:="law.go:87",after:=#[{on:=14,ground:=Ground.data},{on:=26,ground:=Ground.data}],guard:=none}:Oper)) (v:= ?_) rfl (by kernel_rfl) (by kernel_rfl) (by kernel_rfl) (fun _ _ _ h=>h) (Or.inl ⟨by rfl,?_⟩) hHeld2 ?_;rotate_left;(intro w hSw;(try dsimp only at hSw);go_simp;(try with_reducible rfl));skip)
      (try simp only[Act.put,List.setIfInBounds_toArray,List.set_cons_zero,List.set_cons_succ])
      refine⟨by kernel_rfl,?_⟩;clear hHeld2
      go_wp2_with fail
      exact⟨⟨i+1,by go_num,by omega,HBd⟩,by simp[intOf];omega⟩
   ·have a0:decide ((i:Int)<(n:Int))=false:=by simp;omega
    have HBw:=hid (HBw3.out.trans (HBi.out.mono HBw3.out.size));clear HA
    go_wp2_with fail
    go_ret;exact⟨rfl,HBw.out⟩
end Go.Proofs.YthmgblmoobkliaaGreatDoor
