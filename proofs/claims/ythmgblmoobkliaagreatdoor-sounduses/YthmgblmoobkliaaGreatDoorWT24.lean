/- Lemmas for the last text. Conditions: those that each names. -/
import Derived.Test.YthmgblmoobkliaaGreatDoorVT22ToEBase
set_option linter.unusedVariables false
set_option maxRecDepth 100000
set_option maxHeartbeats 8000000
namespace Go.Proofs.YthmgblmoobkliaaGreatDoor
open Go.Proofs.Tryz
open Go.RowKit Go.Shelf Go.Maps
theorem y3T(so:Option Addr)(n cap:Nat)(rs:List Rr)(fp:Addr)(w:World)(hE:Zj w)(hT:TabIs w)(hF:w.cell? ⟨1,0,none⟩=some (.iface 281 (.pointer (some fp))))(hz:RgZ rs)(hu:RgU rs)(h:Qv w w.heap.size so n rs):
  Calls prog 8 #[.agg #[.slice so n cap]] w fun e w'=>e=.returned (.bool true)/\Below w.heap.size w w':=by
 obtain⟨X,hX,hP,hC⟩:=Iq so n cap rs w.heap.size w hz hu h L0q hT;obtain⟨u1,hu1⟩:∃u1,u1=w.alloc (.cells #[.slice so n cap] 24):=⟨_,rfl⟩;have hbu:Below w.heap.size w u1:=by rw[hu1];exact(Below.refl _ w).alloc L0q _
 have gu:u1.heap[w.heap.size]? =some (.cells #[.slice so n cap] 24):=by rw[hu1];exact Qx w _ rfl
 have hfl:1<w.heap.size:=World.block_lt_of_cell? w _ hF;have HS:=hid (Bz fp u1 (hE.below hbu hE.lt) (hT.below hbu hT.lt) ((hbu.cell (p:=⟨1,0,none⟩) hfl).trans hF));have hTl:=hT.lt;have HUs:=hid (fun(W:World) (hb:Below w.heap.size w W)=>z3U so n cap rs X w.heap.size W hX (CkC.from hC hb) (h.below hb) hb.size hz (Nat.lt_of_lt_of_le hTl hb.size));have HBg:=hid (fun(W:World) (hb:Below w.heap.size w W)=>z0h so n cap rs X w.heap.size w hX hP hC hz h L0q hT W hb);have HNl:Hid (n=rs.length):=h.1;have HX:=hid hX;clear hE hT hz hu h hC hX hTl hF hfl hP;go_enter func8,ntmps8
 go_wp2_with fail
 rw[<-hu1];refine HS.out.mono ?_;rintro e w1 ⟨rfl,HB1⟩;have HBw1:=hid (hbu.trans (HB1.out.mono hbu.size));have HG1:=hid ((HB1.out.block _ (Qq gu)).trans gu);obtain⟨x1,f1⟩:=Qk HG1.out;have l1:=Qq HG1.out;clear HS HB1 hu1 hbu gu
 go_wp2_with fail
 refine(HBg.out w1 HBw1.out).mono ?_;clear HBg;rintro e w2 ⟨hb2,hre⟩;have HBw2:=hid (HBw1.out.trans (hb2.mono HBw1.out.size));have HG2:=hid ((hb2.block _ (Qq HG1.out)).trans HG1.out);obtain⟨x2,f2⟩:=Qk HG2.out;have l2:=Qq HG2.out;clear x1 f1 l1 HG1 hb2;rcases hre with⟨hx,v,rfl,hv⟩|⟨hx,ub,vs,rfl,hvl,hU⟩
 ·obtain⟨t,u,rfl⟩:=hv.shape hx
  have HXn:=hid hx;clear hv hx
  go_wp2_with fail
  refine(HUs.out w2 HBw2.out).mono ?_;clear HUs;rintro e w3 ⟨uv,v3,rfl,he,hb3,hq1,hq2⟩;obtain rfl:=hq1 HXn.out;obtain⟨t3,u3,rfl⟩:=he.shape HXn.out;have HBw3:=hid (HBw2.out.trans (hb3.mono HBw2.out.size));clear he hb3 hq1 hq2 x2 f2 l2
  go_wp2_with fail
  go_ret;exact⟨rfl,HBw3.out⟩
 ·subst hx
  rw[<-HNl.out]at hU hvl ⊢;have HU:=hid hU;have HVl:Hid (vs.length=n):=hvl;clear hU hvl
  go_wp2_with fail
  refine(HUs.out w2 HBw2.out).mono ?_;clear HUs;rintro e w3 ⟨uv,v3,rfl,he,hb3,hq1,hq2⟩;obtain rfl:v3=.nilIface:=he;obtain⟨ub2,vs2,rfl,hvl2,hU2⟩:=hq2 (by simp);obtain⟨hk,hck,hrl⟩:=HX.out;have hlen:=(Xd hk).2;have hn64:n<=64:=by rw[HNl.out];exact hlen
  have HBw3:=hid (HBw2.out.trans (hb3.mono HBw2.out.size));have HG3:=hid ((hb3.block _ (Qq HG2.out)).trans HG2.out);have hU3:=HU.out.below hb3;have HA:=hid (fun i hi=>Iy hU3 (Al hk hrl) i hi);have HA2:=hid (fun i hi=>Iy hU2 (y3P hrl) i hi);have HIn:Hid (∀i (hi:i<rs.length),∀x∈bgR rs (kG rs) rs[i],x∈usR (nmL rs) rs[i]):=fun i hi x hx=>z4X hk hck (List.getElem_mem hi) x hx
  clear hb3 hq1 hq2 x2 f2 l2 hk hck hrl hlen hU2 hU3 hvl2 HU HG2
  go_wp2_with fail
  go_loopw [8] (fun a wr=>∃i:Nat,a=.int .i64 i/\i<=n/\Hid (Below w3.heap.size w3 wr)) (fun a _=>n-(intOf a).toNat)
  case atStart=>exact⟨0,rfl,Nat.zero_le _,Below.refl _ _⟩
  case round=>
   obtain⟨i,rfl,hi,HBi⟩:=hrel;by_cases hin:i<n
   ·have hiI:(i:Int)<(n:Int):=by omega
    have a0:decide ((i:Int)<(n:Int))=true:=by simp;omega
    have hir:i<rs.length:=by rw[<-HNl.out];exact hin
    obtain⟨rso,rcap,cu,lub,hul,hrow⟩:=HA.out i (by rw[Uz];exact hir);obtain⟨vso,vcap,cv,lub2,hvl,hvow⟩:=HA2.out i (by rw[List.length_map];exact hir);have eu:(bgU rs)[i]'(by rw[Uz];exact hir)=bgR rs (kG rs) rs[i]:=by simp[bgU]
    have ev:(rs.map (usR (nmL rs)))[i]'(by rw[List.length_map];exact hir)=usR (nmL rs) rs[i]:=by simp
    have hsub:=HIn.out i hir;rw[<-eu,<-ev]at hsub;obtain⟨u,hue⟩:∃u,u=(bgU rs)[i]'(by rw[Uz];exact hir):=⟨_,rfl⟩;obtain⟨v,hve⟩:∃v,v=(rs.map (usR (nmL rs)))[i]'(by rw[List.length_map];exact hir):=⟨_,rfl⟩;have HRow:Hid (∀j (hj:j<u.length),∃g o,rso=some ⟨g,o,none⟩/\g<w3.heap.size/\w3.cell? ⟨g,o+j,none⟩=some (.int .i64 u[j])):=by subst hue;exact hrow
    have HVow:Hid (∀j (hj:j<v.length),∃g o,vso=some ⟨g,o,none⟩/\g<w3.heap.size/\w3.cell? ⟨g,o+j,none⟩=some (.int .i64 v[j])):=by subst hve;exact hvow
    rw[<-hue]at cu hul hsub;rw[<-hve]at cv hvl hsub;have HSub:=hid hsub;obtain⟨ku,hku⟩:∃ku,ku=u.length:=⟨_,rfl⟩;obtain⟨kv,hkv⟩:∃kv,kv=v.length:=⟨_,rfl⟩;rw[<-hku]at cu hul;rw[<-hkv]at cv hvl;have HKu:Hid (ku=u.length):=hku;have HKv:Hid (kv=v.length):=hkv;have HCu:=hid cu;have HCv:=hid cv;clear hrow hvow eu ev hsub hue hve hku hkv cu cv
    go_wp2_with fail
    go_loopw [9] (fun a wr=>∃k:Nat,a=.int .i64 k/\k<=ku/\Hid (Below w3.heap.size w3 wr)) (fun a _=>ku-(intOf a).toNat)
    case atStart=>exact⟨0,rfl,Nat.zero_le _,HBi⟩
    case round=>
     obtain⟨k,rfl,hk,HBk⟩:=hrel;have cu:=(HBk.out.cell (p:=⟨ub,i,none⟩) lub).trans HCu.out;have lub':ub<wr.heap.size:=Nat.lt_of_lt_of_le lub HBk.out.size;by_cases hkn:k<ku
     ·have hkI:(k:Int)<(ku:Int):=by omega
      have a1:decide ((k:Int)<(ku:Int))=true:=by simp;omega
      have hku:k<u.length:=by rw[<-HKu.out];exact hkn
      obtain⟨rg,ro,rfl,hrg,hcr⟩:=HRow.out k hku;obtain⟨y,hy⟩:∃y,y=u[k]:=⟨_,rfl⟩;rw[<-hy]at hcr;have HCr:=hid hcr;have hyv:y∈v:=by rw[hy];exact HSub.out _ (List.getElem_mem hku)
      have HYv:=hid hyv;clear hy hcr hyv
      go_wp2_with fail
      go_loopw [10,11] (fun q a wr=>∃j:Nat,a=.int .i64 j/\j<=kv/\q=.bool (decide (y∈v.take j))/\Hid (Below w3.heap.size w3 wr)) (fun _ a _=>kv-(intOf a).toNat)
      case atStart=>exact⟨0,rfl,Nat.zero_le _,by simp,HBk⟩
      case round=>
       obtain⟨j,rfl,hj,rfl,HBj⟩:=hrel;have cv:=(HBj.out.cell (p:=⟨ub2,i,none⟩) lub2).trans HCv.out;have lub2':ub2<wr.heap.size:=Nat.lt_of_lt_of_le lub2 HBj.out.size;by_cases hjn:j<kv
       ·have hjI:(j:Int)<(kv:Int):=by omega
        have a2:decide ((j:Int)<(kv:Int))=true:=by simp;omega
        have hjv:j<v.length:=by rw[<-HKv.out];exact hjn
        obtain⟨vg,vo,rfl,hvg,hcv⟩:=HVow.out j hjv;obtain⟨x,hx⟩:∃x,x=v[j]:=⟨_,rfl⟩;rw[<-hx]at hcv;have htd:=y3O v j hjv y;rw[<-hx]at htd;have HTd:=hid htd;have HS0:Hid (wr.drew.cell? ⟨ub2,i,none⟩=some (.slice (some ⟨vg,vo,none⟩) kv vcap)/\wr.drew.cell? ⟨vg,vo+j,none⟩=some (.int .i64 x)/\wr.drew.cell? ⟨ub,i,none⟩=some (.slice (some ⟨rg,ro,none⟩) ku rcap)/\wr.drew.cell? ⟨rg,ro+k,none⟩=some (.int .i64 y)):=⟨(HBj.out.drew.cell (p:=⟨ub2,i,none⟩) lub2).trans HCv.out,(HBj.out.drew.cell (p:=⟨vg,vo+j,none⟩) hvg).trans hcv,(HBj.out.drew.cell (p:=⟨ub,i,none⟩) lub).trans HCu.out,(HBj.out.drew.cell (p:=⟨rg,ro+k,none⟩) hrg).trans HCr.out⟩;have HBd:=hid HBj.out.drew;obtain⟨q,hq⟩:∃q,q=decide (y∈v.take j):=⟨_,rfl⟩;rw[<-hq]at HTd ⊢;clear hx hcv htd hq;have lvg:vg<wr.heap.size:=Nat.lt_of_lt_of_le hvg HBj.out.size;have lrg:rg<wr.heap.size:=Nat.lt_of_lt_of_le hrg HBj.out.size;have lu3:ub<wr.heap.size:=Nat.lt_of_lt_of_le lub HBj.out.size;cases q with
        |true=>
         go_wp2_with fail
         refine Vl 99 (fun W:World=>W.cell? ⟨ub2,i,none⟩=some (.slice (some ⟨vg,vo,none⟩) kv vcap)/\W.cell? ⟨vg,vo+j,none⟩=some (.int .i64 x)/\W.cell? ⟨ub,i,none⟩=some (.slice (some ⟨rg,ro,none⟩) ku rcap)/\W.cell? ⟨rg,ro+k,none⟩=some (.int .i64 y)) (by kernel_rfl) HS0.out (fun hHeld=> ?_)
         (refine Qz (i:=0) (oi:=({dst:=some 68,op:=Op.move (Operand.tmp 10),type:=4,pos:="more.go:36",after:=#[],guard:=none}:Oper)) (v:= ?_) rfl (by kernel_rfl) (by kernel_rfl) (by kernel_rfl) (fun _ _ _ h=>h) (Or.inl ⟨by rfl,?_⟩) hHeld ?_;rotate_left;(intro w hSw;(try dsimp only at hSw);go_simp;(try with_reducible rfl));skip)
         (try simp only[Act.put,List.setIfInBounds_toArray,List.set_cons_zero,List.set_cons_succ])
         (refine Qz (i:=1) (oi:=({dst:=some 69,op:=Op.move (Operand.tmp 68),type:=4,pos:="more.go:36",after:=#[{on:=0,ground:=Ground.data}],guard:=none}:Oper)) (v:= ?_) rfl (by kernel_rfl) (by kernel_rfl) (by kernel_rfl) (fun _ _ _ h=>h) (Or.inl ⟨by rfl,?_⟩) hHeld ?_;rotate_left;(intro w hSw;(try dsimp only at hSw);go_simp;(try with_reducible rfl));skip)
         (try simp only[Act.put,List.setIfInBounds_toArray,List.set_cons_zero,List.set_cons_succ])
         first
          |(refine Qz (i:=2) (oi:=({dst:=some 70,op:=Op.move (Operand.tmp 6),type:=30,pos:="more.go:36",after:=#[{on:=1,ground:=Ground.guard}],guard:=some (1,false)}:Oper)) (v:=undef) rfl (by kernel_rfl) (by kernel_rfl) (by kernel_rfl) (fun _ _ _ h=>h) (Or.inr ⟨by rfl,rfl⟩) hHeld ?_)
          |(refine Qz (i:=2) (oi:=({dst:=some 70,op:=Op.move (Operand.tmp 6),type:=30,pos:="more.go:36",after:=#[{on:=1,ground:=Ground.guard}],guard:=some (1,false)}:Oper)) (v:= ?_) rfl (by kernel_rfl) (by kernel_rfl) (by kernel_rfl) (fun _ _ _ h=>h) (Or.inl ⟨by rfl,?_⟩) hHeld ?_;rotate_left;(intro w hSw;(try dsimp only at hSw);go_simp;(try with_reducible rfl));skip)
         (try simp only[Act.put,List.setIfInBounds_toArray,List.set_cons_zero,List.set_cons_succ])
         first
          |(refine Qz (i:=3) (oi:=({dst:=some 71,op:=Op.move (Operand.tmp 8),type:=3,pos:="more.go:36",after:=#[{on:=1,ground:=Ground.guard}],guard:=some (1,false)}:Oper)) (v:=undef) rfl (by kernel_rfl) (by kernel_rfl) (by kernel_rfl) (fun _ _ _ h=>h) (Or.inr ⟨by rfl,rfl⟩) hHeld ?_)
          |(refine Qz (i:=3) (oi:=({dst:=some 71,op:=Op.move (Operand.tmp 8),type:=3,pos:="more.go:36",after:=#[{on:=1,ground:=Ground.guard}],guard:=some (1,false)}:Oper)) (v:= ?_) rfl (by kernel_rfl) (by kernel_rfl) (by kernel_rfl) (fun _ _ _ h=>h) (Or.inl ⟨by rfl,?_⟩) hHeld ?_;rotate_left;(intro w hSw;(try dsimp only at hSw);go_simp;(try with_reducible rfl));skip)
         (try simp only[Act.put,List.setIfInBounds_toArray,List.set_cons_zero,List.set_cons_succ])
         first
          |(refine Qz (i:=4) (oi:=({dst:=some 72,op:=Op.indexAddr 30 (Operand.tmp 70) (Operand.tmp 71),type:=0,pos:="more.go:36",after:=#[{on:=2,ground:=Ground.data},{on:=3,ground:=Ground.data},{on:=1,ground:=Ground.guard}],guard:=some (1,false)}:Oper)) (v:=undef) rfl (by kernel_rfl) (by kernel_rfl) (by kernel_rfl) (fun _ _ _ h=>h) (Or.inr ⟨by rfl,rfl⟩) hHeld ?_)
          |(refine Qz (i:=4) (oi:=({dst:=some 72,op:=Op.indexAddr 30 (Operand.tmp 70) (Operand.tmp 71),type:=0,pos:="more.go:36",after:=#[{on:=2,ground:=Ground.data},{on:=3,ground:=Ground.data},{on:=1,ground:=Ground.guard}],guard:=some (1,false)}:Oper)) (v:= ?_) rfl (by kernel_rfl) (by kernel_rfl) (by kernel_rfl) (fun _ _ _ h=>h) (Or.inl ⟨by rfl,?_⟩) hHeld ?_;rotate_left;(intro w hSw;(try dsimp only at hSw);go_simp;(try with_reducible rfl));skip)
         (try simp only[Act.put,List.setIfInBounds_toArray,List.set_cons_zero,List.set_cons_succ])
         first
          |(refine Qz (i:=5) (oi:=({dst:=some 73,op:=Op.load 33 (Operand.tmp 72),type:=33,pos:="more.go:36",after:=#[{on:=4,ground:=Ground.data},{on:=1,ground:=Ground.guard}],guard:=some (1,false)}:Oper)) (v:=undef) rfl (by kernel_rfl) (by kernel_rfl) (by kernel_rfl) (fun _ _ _ h=>h) (Or.inr ⟨by rfl,rfl⟩) hHeld ?_)
          |(refine Qz (i:=5) (oi:=({dst:=some 73,op:=Op.load 33 (Operand.tmp 72),type:=33,pos:="more.go:36",after:=#[{on:=4,ground:=Ground.data},{on:=1,ground:=Ground.guard}],guard:=some (1,false)}:Oper)) (v:= ?_) rfl (by kernel_rfl) (by kernel_rfl) (by kernel_rfl) (fun _ _ _ h=>h) (Or.inl ⟨by rfl,?_⟩) hHeld ?_;rotate_left;(intro w hSw;(try dsimp only at hSw);go_simp;(try with_reducible rfl));skip)
         (try simp only[Act.put,List.setIfInBounds_toArray,List.set_cons_zero,List.set_cons_succ])
         first
          |(refine Qz (i:=6) (oi:=({dst:=some 74,op:=Op.move (Operand.tmp 11),type:=3,pos:="more.go:36",after:=#[{on:=1,ground:=Ground.guard}],guard:=some (1,false)}:Oper)) (v:=undef) rfl (by kernel_rfl) (by kernel_rfl) (by kernel_rfl) (fun _ _ _ h=>h) (Or.inr ⟨by rfl,rfl⟩) hHeld ?_)
          |(refine Qz (i:=6) (oi:=({dst:=some 74,op:=Op.move (Operand.tmp 11),type:=3,pos:="more.go:36",after:=#[{on:=1,ground:=Ground.guard}],guard:=some (1,false)}:Oper)) (v:= ?_) rfl (by kernel_rfl) (by kernel_rfl) (by kernel_rfl) (fun _ _ _ h=>h) (Or.inl ⟨by rfl,?_⟩) hHeld ?_;rotate_left;(intro w hSw;(try dsimp only at hSw);go_simp;(try with_reducible rfl));skip)
         (try simp only[Act.put,List.setIfInBounds_toArray,List.set_cons_zero,List.set_cons_succ])
         first
          |(refine Qz (i:=7) (oi:=({dst:=some 75,op:=Op.indexAddr 33 (Operand.tmp 73) (Operand.tmp 74),type:=0,pos:="more.go:36",after:=#[{on:=5,ground:=Ground.data},{on:=6,ground:=Ground.data},{on:=1,ground:=Ground.guard}],guard:=some (1,false)}:Oper)) (v:=undef) rfl (by kernel_rfl) (by kernel_rfl) (by kernel_rfl) (fun _ _ _ h=>h) (Or.inr ⟨by rfl,rfl⟩) hHeld ?_)
          |(refine Qz (i:=7) (oi:=({dst:=some 75,op:=Op.indexAddr 33 (Operand.tmp 73) (Operand.tmp 74),type:=0,pos:="more.go:36",after:=#[{on:=5,ground:=Ground.data},{on:=6,ground:=Ground.data},{on:=1,ground:=Ground.guard}],guard:=some (1,false)}:Oper)) (v:= ?_) rfl (by kernel_rfl) (by kernel_rfl) (by kernel_rfl) (fun _ _ _ h=>h) (Or.inl ⟨by rfl,?_⟩) hHeld ?_;rotate_left;(intro w hSw;(try dsimp only at hSw);go_simp;(try with_reducible rfl));skip)
         (try simp only[Act.put,List.setIfInBounds_toArray,List.set_cons_zero,List.set_cons_succ])
         first
          |(refine Qz (i:=8) (oi:=({dst:=some 76,op:=Op.load 3 (Operand.tmp 75),type:=3,pos:="more.go:36",after:=#[{on:=7,ground:=Ground.data},{on:=1,ground:=Ground.guard}],guard:=some (1,false)}:Oper)) (v:=undef) rfl (by kernel_rfl) (by kernel_rfl) (by kernel_rfl) (fun _ _ _ h=>h) (Or.inr ⟨by rfl,rfl⟩) hHeld ?_)
          |(refine Qz (i:=8) (oi:=({dst:=some 76,op:=Op.load 3 (Operand.tmp 75),type:=3,pos:="more.go:36",after:=#[{on:=7,ground:=Ground.data},{on:=1,ground:=Ground.guard}],guard:=some (1,false)}:Oper)) (v:= ?_) rfl (by kernel_rfl) (by kernel_rfl) (by kernel_rfl) (fun _ _ _ h=>h) (Or.inl ⟨by rfl,?_⟩) hHeld ?_;rotate_left;(intro w hSw;(try dsimp only at hSw);go_simp;(try with_reducible rfl));skip)
         (try simp only[Act.put,List.setIfInBounds_toArray,List.set_cons_zero,List.set_cons_succ])
         first
          |(refine Qz (i:=9) (oi:=({dst:=some 77,op:=Op.move (Operand.tmp 4),type:=30,pos:="more.go:36",after:=#[{on:=1,ground:=Ground.guard}],guard:=some (1,false)}:Oper)) (v:=undef) rfl (by kernel_rfl) (by kernel_rfl) (by kernel_rfl) (fun _ _ _ h=>h) (Or.inr ⟨by rfl,rfl⟩) hHeld ?_)
          |(refine Qz (i:=9) (oi:=({dst:=some 77,op:=Op.move (Operand.tmp 4),type:=30,pos:="more.go:36",after:=#[{on:=1,ground:=Ground.guard}],guard:=some (1,false)}:Oper)) (v:= ?_) rfl (by kernel_rfl) (by kernel_rfl) (by kernel_rfl) (fun _ _ _ h=>h) (Or.inl ⟨by rfl,?_⟩) hHeld ?_;rotate_left;(intro w hSw;(try dsimp only at hSw);go_simp;(try with_reducible rfl));skip)
         (try simp only[Act.put,List.setIfInBounds_toArray,List.set_cons_zero,List.set_cons_succ])
         first
          |(refine Qz (i:=10) (oi:=({dst:=some 78,op:=Op.move (Operand.tmp 8),type:=3,pos:="more.go:36",after:=#[{on:=1,ground:=Ground.guard}],guard:=some (1,false)}:Oper)) (v:=undef) rfl (by kernel_rfl) (by kernel_rfl) (by kernel_rfl) (fun _ _ _ h=>h) (Or.inr ⟨by rfl,rfl⟩) hHeld ?_)
          |(refine Qz (i:=10) (oi:=({dst:=some 78,op:=Op.move (Operand.tmp 8),type:=3,pos:="more.go:36",after:=#[{on:=1,ground:=Ground.guard}],guard:=some (1,false)}:Oper)) (v:= ?_) rfl (by kernel_rfl) (by kernel_rfl) (by kernel_rfl) (fun _ _ _ h=>h) (Or.inl ⟨by rfl,?_⟩) hHeld ?_;rotate_left;(intro w hSw;(try dsimp only at hSw);go_simp;(try with_reducible rfl));skip)
         (try simp only[Act.put,List.setIfInBounds_toArray,List.set_cons_zero,List.set_cons_succ])
         first
          |(refine Qz (i:=11) (oi:=({dst:=some 79,op:=Op.indexAddr 30 (Operand.tmp 77) (Operand.tmp 78),type:=0,pos:="more.go:36",after:=#[{on:=9,ground:=Ground.data},{on:=10,ground:=Ground.data},{on:=1,ground:=Ground.guard}],guard:=some (1,false)}:Oper)) (v:=undef) rfl (by kernel_rfl) (by kernel_rfl) (by kernel_rfl) (fun _ _ _ h=>h) (Or.inr ⟨by rfl,rfl⟩) hHeld ?_)
          |(refine Qz (i:=11) (oi:=({dst:=some 79,op:=Op.indexAddr 30 (Operand.tmp 77) (Operand.tmp 78),type:=0,pos:="more.go:36",after:=#[{on:=9,ground:=Ground.data},{on:=10,ground:=Ground.data},{on:=1,ground:=Ground.guard}],guard:=some (1,false)}:Oper)) (v:= ?_) rfl (by kernel_rfl) (by kernel_rfl) (by kernel_rfl) (fun _ _ _ h=>h) (Or.inl ⟨by rfl,?_⟩) hHeld ?_;rotate_left;(intro w hSw;(try dsimp only at hSw);go_simp;(try with_reducible rfl));skip)
         (try simp only[Act.put,List.setIfInBounds_toArray,List.set_cons_zero,List.set_cons_succ])
         first
          |(refine Qz (i:=12) (oi:=({dst:=some 80,op:=Op.load 33 (Operand.tmp 79),type:=33,pos:="more.go:36",after:=#[{on:=11,ground:=Ground.data},{on:=1,ground:=Ground.guard}],guard:=some (1,false)}:Oper)) (v:=undef) rfl (by kernel_rfl) (by kernel_rfl) (by kernel_rfl) (fun _ _ _ h=>h) (Or.inr ⟨by rfl,rfl⟩) hHeld ?_)
          |(refine Qz (i:=12) (oi:=({dst:=some 80,op:=Op.load 33 (Operand.tmp 79),type:=33,pos:="more.go:36",after:=#[{on:=11,ground:=Ground.data},{on:=1,ground:=Ground.guard}],guard:=some (1,false)}:Oper)) (v:= ?_) rfl (by kernel_rfl) (by kernel_rfl) (by kernel_rfl) (fun _ _ _ h=>h) (Or.inl ⟨by rfl,?_⟩) hHeld ?_;rotate_left;(intro w hSw;(try dsimp only at hSw);go_simp;(try with_reducible rfl));skip)
         (try simp only[Act.put,List.setIfInBounds_toArray,List.set_cons_zero,List.set_cons_succ])
         first
          |(refine Qz (i:=13) (oi:=({dst:=some 81,op:=Op.move (Operand.tmp 9),type:=3,pos:="more.go:36",after:=#[{on:=1,ground:=Ground.guard}],guard:=some (1,false)}:Oper)) (v:=undef) rfl (by kernel_rfl) (by kernel_rfl) (by kernel_rfl) (fun _ _ _ h=>h) (Or.inr ⟨by rfl,rfl⟩) hHeld ?_)
          |(refine Qz (i:=13) (oi:=({dst:=some 81,op:=Op.move (Operand.tmp 9),type:=3,pos:="more.go:36",after:=#[{on:=1,ground:=Ground.guard}],guard:=some (1,false)}:Oper)) (v:= ?_) rfl (by kernel_rfl) (by kernel_rfl) (by kernel_rfl) (fun _ _ _ h=>h) (Or.inl ⟨by rfl,?_⟩) hHeld ?_;rotate_left;(intro w hSw;(try dsimp only at hSw);go_simp;(try with_reducible rfl));skip)
         (try simp only[Act.put,List.setIfInBounds_toArray,List.set_cons_zero,List.set_cons_succ])
         first
          |(refine Qz (i:=14) (oi:=({dst:=some 82,op:=Op.indexAddr 33 (Operand.tmp 80) (Operand.tmp 81),type:=0,pos:="more.go:36",after:=#[{on:=12,ground:=Ground.data},{on:=13,ground:=Ground.data},{on:=1,ground:=Ground.guard}],guard:=some (1,false)}:Oper)) (v:=undef) rfl (by kernel_rfl) (by kernel_rfl) (by kernel_rfl) (fun _ _ _ h=>h) (Or.inr ⟨by rfl,rfl⟩) hHeld ?_)
          |(refine Qz (i:=14) (oi:=({dst:=some 82,op:=Op.indexAddr 33 (Operand.tmp 80) (Operand.tmp 81),type:=0,pos:="more.go:36",after:=#[{on:=12,ground:=Ground.data},{on:=13,ground:=Ground.data},{on:=1,ground:=Ground.guard}],guard:=some (1,false)}:Oper)) (v:= ?_) rfl (by kernel_rfl) (by kernel_rfl) (by kernel_rfl) (fun _ _ _ h=>h) (Or.inl ⟨by rfl,?_⟩) hHeld ?_;rotate_left;(intro w hSw;(try dsimp only at hSw);go_simp;(try with_reducible rfl));skip)
         (try simp only[Act.put,List.setIfInBounds_toArray,List.set_cons_zero,List.set_cons_succ])
         first
          |(refine Qz (i:=15) (oi:=({dst:=some 83,op:=Op.load 3 (Operand.tmp 82),type:=3,pos:="more.go:36",after:=#[{on:=14,ground:=Ground.data},{on:=1,ground:=Ground.guard}],guard:=some (1,false)}:Oper)) (v:=undef) rfl (by kernel_rfl) (by kernel_rfl) (by kernel_rfl) (fun _ _ _ h=>h) (Or.inr ⟨by rfl,rfl⟩) hHeld ?_)
          |(refine Qz (i:=15) (oi:=({dst:=some 83,op:=Op.load 3 (Operand.tmp 82),type:=3,pos:="more.go:36",after:=#[{on:=14,ground:=Ground.data},{on:=1,ground:=Ground.guard}],guard:=some (1,false)}:Oper)) (v:= ?_) rfl (by kernel_rfl) (by kernel_rfl) (by kernel_rfl) (fun _ _ _ h=>h) (Or.inl ⟨by rfl,?_⟩) hHeld ?_;rotate_left;(intro w hSw;(try dsimp only at hSw);go_simp;(try with_reducible rfl));skip)
         (try simp only[Act.put,List.setIfInBounds_toArray,List.set_cons_zero,List.set_cons_succ])
         first
          |(refine Qz (i:=16) (oi:=({dst:=some 84,op:=Op.binOp BinOp.eql 3 (Operand.tmp 76) (Operand.tmp 83) 3,type:=4,pos:="more.go:36",after:=#[{on:=8,ground:=Ground.data},{on:=15,ground:=Ground.data},{on:=1,ground:=Ground.guard}],guard:=some (1,false)}:Oper)) (v:=undef) rfl (by kernel_rfl) (by kernel_rfl) (by kernel_rfl) (fun _ _ _ h=>h) (Or.inr ⟨by rfl,rfl⟩) hHeld ?_)
          |(refine Qz (i:=16) (oi:=({dst:=some 84,op:=Op.binOp BinOp.eql 3 (Operand.tmp 76) (Operand.tmp 83) 3,type:=4,pos:="more.go:36",after:=#[{on:=8,ground:=Ground.data},{on:=15,ground:=Ground.data},{on:=1,ground:=Ground.guard}],guard:=some (1,false)}:Oper)) (v:= ?_) rfl (by kernel_rfl) (by kernel_rfl) (by kernel_rfl) (fun _ _ _ h=>h) (Or.inl ⟨by rfl,?_⟩) hHeld ?_;rotate_left;(intro w hSw;(try dsimp only at hSw);go_simp;(try with_reducible rfl));skip)
         (try simp only[Act.put,List.setIfInBounds_toArray,List.set_cons_zero,List.set_cons_succ])
         (refine Qz (i:=17) (oi:=({dst:=some 85,op:=Op.pick (Operand.tmp 69) (Operand.const (Value.bool true)) (Operand.tmp 84),type:=4,pos:="more.go:36",after:=#[{on:=1,ground:=Ground.data},{on:=16,ground:=Ground.data}],guard:=none}:Oper)) (v:= ?_) rfl (by kernel_rfl) (by kernel_rfl) (by kernel_rfl) (fun _ _ _ h=>h) (Or.inl ⟨by rfl,?_⟩) hHeld ?_;rotate_left;(intro w hSw;(try dsimp only at hSw);go_simp;(try with_reducible rfl));skip)
         (try simp only[Act.put,List.setIfInBounds_toArray,List.set_cons_zero,List.set_cons_succ])
         (refine Qz (i:=18) (oi:=({dst:=some 10,op:=Op.assign (Operand.tmp 85),type:=4,pos:="more.go:36",after:=#[{on:=17,ground:=Ground.data},{on:=1,ground:=Ground.chain},{on:=0,ground:=Ground.phase},{on:=1,ground:=Ground.phase},{on:=2,ground:=Ground.phase},{on:=3,ground:=Ground.phase},{on:=4,ground:=Ground.phase},{on:=5,ground:=Ground.phase},{on:=6,ground:=Ground.phase},{on:=7,ground:=Ground.phase},{on:=8,ground:=Ground.phase},{on:=9,ground:=Ground.phase},{on:=10,ground:=Ground.phase},{on:=11,ground:=Ground.phase},{on:=12,ground:=Ground.phase},{on:=13,ground:=Ground.phase},{on:=14,ground:=Ground.phase},{on:=15,ground:=Ground.phase},{on:=16,ground:=Ground.phase},{on:=17,ground:=Ground.phase}],guard:=none}:Oper)) (v:= ?_) rfl (by kernel_rfl) (by kernel_rfl) (by kernel_rfl) (fun _ _ _ h=>h) (Or.inl ⟨by rfl,?_⟩) hHeld ?_;rotate_left;(intro w hSw;(try dsimp only at hSw);go_simp;(try with_reducible rfl));skip)
         (try simp only[Act.put,List.setIfInBounds_toArray,List.set_cons_zero,List.set_cons_succ])
         refine⟨by kernel_rfl,?_⟩;clear hHeld
         go_wp2_with fail
         exact⟨⟨j+1,by go_num,by omega,by rw[HTd.out];rfl,HBd⟩,by simp[intOf];omega⟩
        |false=>
         go_wp2_with fail
         refine Vl 99 (fun W:World=>W.cell? ⟨ub2,i,none⟩=some (.slice (some ⟨vg,vo,none⟩) kv vcap)/\W.cell? ⟨vg,vo+j,none⟩=some (.int .i64 x)/\W.cell? ⟨ub,i,none⟩=some (.slice (some ⟨rg,ro,none⟩) ku rcap)/\W.cell? ⟨rg,ro+k,none⟩=some (.int .i64 y)) (by kernel_rfl) HS0.out (fun hHeld=> ?_)
         (refine Qz (i:=0) (oi:=({dst:=some 68,op:=Op.move (Operand.tmp 10),type:=4,pos:="more.go:36",after:=#[],guard:=none}:Oper)) (v:= ?_) rfl (by kernel_rfl) (by kernel_rfl) (by kernel_rfl) (fun _ _ _ h=>h) (Or.inl ⟨by rfl,?_⟩) hHeld ?_;rotate_left;(intro w hSw;(try dsimp only at hSw);go_simp;(try with_reducible rfl));skip)
         (try simp only[Act.put,List.setIfInBounds_toArray,List.set_cons_zero,List.set_cons_succ])
         (refine Qz (i:=1) (oi:=({dst:=some 69,op:=Op.move (Operand.tmp 68),type:=4,pos:="more.go:36",after:=#[{on:=0,ground:=Ground.data}],guard:=none}:Oper)) (v:= ?_) rfl (by kernel_rfl) (by kernel_rfl) (by kernel_rfl) (fun _ _ _ h=>h) (Or.inl ⟨by rfl,?_⟩) hHeld ?_;rotate_left;(intro w hSw;(try dsimp only at hSw);go_simp;(try with_reducible rfl));skip)
         (try simp only[Act.put,List.setIfInBounds_toArray,List.set_cons_zero,List.set_cons_succ])
         first
          |(refine Qz (i:=2) (oi:=({dst:=some 70,op:=Op.move (Operand.tmp 6),type:=30,pos:="more.go:36",after:=#[{on:=1,ground:=Ground.guard}],guard:=some (1,false)}:Oper)) (v:=undef) rfl (by kernel_rfl) (by kernel_rfl) (by kernel_rfl) (fun _ _ _ h=>h) (Or.inr ⟨by rfl,rfl⟩) hHeld ?_)
          |(refine Qz (i:=2) (oi:=({dst:=some 70,op:=Op.move (Operand.tmp 6),type:=30,pos:="more.go:36",after:=#[{on:=1,ground:=Ground.guard}],guard:=some (1,false)}:Oper)) (v:= ?_) rfl (by kernel_rfl) (by kernel_rfl) (by kernel_rfl) (fun _ _ _ h=>h) (Or.inl ⟨by rfl,?_⟩) hHeld ?_;rotate_left;(intro w hSw;(try dsimp only at hSw);go_simp;(try with_reducible rfl));skip)
         (try simp only[Act.put,List.setIfInBounds_toArray,List.set_cons_zero,List.set_cons_succ])
         first
          |(refine Qz (i:=3) (oi:=({dst:=some 71,op:=Op.move (Operand.tmp 8),type:=3,pos:="more.go:36",after:=#[{on:=1,ground:=Ground.guard}],guard:=some (1,false)}:Oper)) (v:=undef) rfl (by kernel_rfl) (by kernel_rfl) (by kernel_rfl) (fun _ _ _ h=>h) (Or.inr ⟨by rfl,rfl⟩) hHeld ?_)
          |(refine Qz (i:=3) (oi:=({dst:=some 71,op:=Op.move (Operand.tmp 8),type:=3,pos:="more.go:36",after:=#[{on:=1,ground:=Ground.guard}],guard:=some (1,false)}:Oper)) (v:= ?_) rfl (by kernel_rfl) (by kernel_rfl) (by kernel_rfl) (fun _ _ _ h=>h) (Or.inl ⟨by rfl,?_⟩) hHeld ?_;rotate_left;(intro w hSw;(try dsimp only at hSw);go_simp;(try with_reducible rfl));skip)
         (try simp only[Act.put,List.setIfInBounds_toArray,List.set_cons_zero,List.set_cons_succ])
         first
          |(refine Qz (i:=4) (oi:=({dst:=some 72,op:=Op.indexAddr 30 (Operand.tmp 70) (Operand.tmp 71),type:=0,pos:="more.go:36",after:=#[{on:=2,ground:=Ground.data},{on:=3,ground:=Ground.data},{on:=1,ground:=Ground.guard}],guard:=some (1,false)}:Oper)) (v:=undef) rfl (by kernel_rfl) (by kernel_rfl) (by kernel_rfl) (fun _ _ _ h=>h) (Or.inr ⟨by rfl,rfl⟩) hHeld ?_)
          |(refine Qz (i:=4) (oi:=({dst:=some 72,op:=Op.indexAddr 30 (Operand.tmp 70) (Operand.tmp 71),type:=0,pos:="more.go:36",after:=#[{on:=2,ground:=Ground.data},{on:=3,ground:=Ground.data},{on:=1,ground:=Ground.guard}],guard:=some (1,false)}:Oper)) (v:= ?_) rfl (by kernel_rfl) (by kernel_rfl) (by kernel_rfl) (fun _ _ _ h=>h) (Or.inl ⟨by rfl,?_⟩) hHeld ?_;rotate_left;(intro w hSw;(try dsimp only at hSw);go_simp;(try with_reducible rfl));skip)
         (try simp only[Act.put,List.setIfInBounds_toArray,List.set_cons_zero,List.set_cons_succ])
         first
          |(refine Qz (i:=5) (oi:=({dst:=some 73,op:=Op.load 33 (Operand.tmp 72),type:=33,pos:="more.go:36",after:=#[{on:=4,ground:=Ground.data},{on:=1,ground:=Ground.guard}],guard:=some (1,false)}:Oper)) (v:=undef) rfl (by kernel_rfl) (by kernel_rfl) (by kernel_rfl) (fun _ _ _ h=>h) (Or.inr ⟨by rfl,rfl⟩) hHeld ?_)
          |(refine Qz (i:=5) (oi:=({dst:=some 73,op:=Op.load 33 (Operand.tmp 72),type:=33,pos:="more.go:36",after:=#[{on:=4,ground:=Ground.data},{on:=1,ground:=Ground.guard}],guard:=some (1,false)}:Oper)) (v:= ?_) rfl (by kernel_rfl) (by kernel_rfl) (by kernel_rfl) (fun _ _ _ h=>h) (Or.inl ⟨by rfl,?_⟩) hHeld ?_;rotate_left;(intro w hSw;(try dsimp only at hSw);go_simp;(try with_reducible rfl));skip)
         (try simp only[Act.put,List.setIfInBounds_toArray,List.set_cons_zero,List.set_cons_succ])
         first
          |(refine Qz (i:=6) (oi:=({dst:=some 74,op:=Op.move (Operand.tmp 11),type:=3,pos:="more.go:36",after:=#[{on:=1,ground:=Ground.guard}],guard:=some (1,false)}:Oper)) (v:=undef) rfl (by kernel_rfl) (by kernel_rfl) (by kernel_rfl) (fun _ _ _ h=>h) (Or.inr ⟨by rfl,rfl⟩) hHeld ?_)
          |(refine Qz (i:=6) (oi:=({dst:=some 74,op:=Op.move (Operand.tmp 11),type:=3,pos:="more.go:36",after:=#[{on:=1,ground:=Ground.guard}],guard:=some (1,false)}:Oper)) (v:= ?_) rfl (by kernel_rfl) (by kernel_rfl) (by kernel_rfl) (fun _ _ _ h=>h) (Or.inl ⟨by rfl,?_⟩) hHeld ?_;rotate_left;(intro w hSw;(try dsimp only at hSw);go_simp;(try with_reducible rfl));skip)
         (try simp only[Act.put,List.setIfInBounds_toArray,List.set_cons_zero,List.set_cons_succ])
         first
          |(refine Qz (i:=7) (oi:=({dst:=some 75,op:=Op.indexAddr 33 (Operand.tmp 73) (Operand.tmp 74),type:=0,pos:="more.go:36",after:=#[{on:=5,ground:=Ground.data},{on:=6,ground:=Ground.data},{on:=1,ground:=Ground.guard}],guard:=some (1,false)}:Oper)) (v:=undef) rfl (by kernel_rfl) (by kernel_rfl) (by kernel_rfl) (fun _ _ _ h=>h) (Or.inr ⟨by rfl,rfl⟩) hHeld ?_)
          |(refine Qz (i:=7) (oi:=({dst:=some 75,op:=Op.indexAddr 33 (Operand.tmp 73) (Operand.tmp 74),type:=0,pos:="more.go:36",after:=#[{on:=5,ground:=Ground.data},{on:=6,ground:=Ground.data},{on:=1,ground:=Ground.guard}],guard:=some (1,false)}:Oper)) (v:= ?_) rfl (by kernel_rfl) (by kernel_rfl) (by kernel_rfl) (fun _ _ _ h=>h) (Or.inl ⟨by rfl,?_⟩) hHeld ?_;rotate_left;(intro w hSw;(try dsimp only at hSw);go_simp;(try with_reducible rfl));skip)
         (try simp only[Act.put,List.setIfInBounds_toArray,List.set_cons_zero,List.set_cons_succ])
         first
          |(refine Qz (i:=8) (oi:=({dst:=some 76,op:=Op.load 3 (Operand.tmp 75),type:=3,pos:="more.go:36",after:=#[{on:=7,ground:=Ground.data},{on:=1,ground:=Ground.guard}],guard:=some (1,false)}:Oper)) (v:=undef) rfl (by kernel_rfl) (by kernel_rfl) (by kernel_rfl) (fun _ _ _ h=>h) (Or.inr ⟨by rfl,rfl⟩) hHeld ?_)
          |(refine Qz (i:=8) (oi:=({dst:=some 76,op:=Op.load 3 (Operand.tmp 75),type:=3,pos:="more.go:36",after:=#[{on:=7,ground:=Ground.data},{on:=1,ground:=Ground.guard}],guard:=some (1,false)}:Oper)) (v:= ?_) rfl (by kernel_rfl) (by kernel_rfl) (by kernel_rfl) (fun _ _ _ h=>h) (Or.inl ⟨by rfl,?_⟩) hHeld ?_;rotate_left;(intro w hSw;(try dsimp only at hSw);go_simp;(try with_reducible rfl));skip)
         (try simp only[Act.put,List.setIfInBounds_toArray,List.set_cons_zero,List.set_cons_succ])
         first
          |(refine Qz (i:=9) (oi:=({dst:=some 77,op:=Op.move (Operand.tmp 4),type:=30,pos:="more.go:36",after:=#[{on:=1,ground:=Ground.guard}],guard:=some (1,false)}:Oper)) (v:=undef) rfl (by kernel_rfl) (by kernel_rfl) (by kernel_rfl) (fun _ _ _ h=>h) (Or.inr ⟨by rfl,rfl⟩) hHeld ?_)
          |(refine Qz (i:=9) (oi:=({dst:=some 77,op:=Op.move (Operand.tmp 4),type:=30,pos:="more.go:36",after:=#[{on:=1,ground:=Ground.guard}],guard:=some (1,false)}:Oper)) (v:= ?_) rfl (by kernel_rfl) (by kernel_rfl) (by kernel_rfl) (fun _ _ _ h=>h) (Or.inl ⟨by rfl,?_⟩) hHeld ?_;rotate_left;(intro w hSw;(try dsimp only at hSw);go_simp;(try with_reducible rfl));skip)
         (try simp only[Act.put,List.setIfInBounds_toArray,List.set_cons_zero,List.set_cons_succ])
         first
          |(refine Qz (i:=10) (oi:=({dst:=some 78,op:=Op.move (Operand.tmp 8),type:=3,pos:="more.go:36",after:=#[{on:=1,ground:=Ground.guard}],guard:=some (1,false)}:Oper)) (v:=undef) rfl (by kernel_rfl) (by kernel_rfl) (by kernel_rfl) (fun _ _ _ h=>h) (Or.inr ⟨by rfl,rfl⟩) hHeld ?_)
          |(refine Qz (i:=10) (oi:=({dst:=some 78,op:=Op.move (Operand.tmp 8),type:=3,pos:="more.go:36",after:=#[{on:=1,ground:=Ground.guard}],guard:=some (1,false)}:Oper)) (v:= ?_) rfl (by kernel_rfl) (by kernel_rfl) (by kernel_rfl) (fun _ _ _ h=>h) (Or.inl ⟨by rfl,?_⟩) hHeld ?_;rotate_left;(intro w hSw;(try dsimp only at hSw);go_simp;(try with_reducible rfl));skip)
         (try simp only[Act.put,List.setIfInBounds_toArray,List.set_cons_zero,List.set_cons_succ])
         first
          |(refine Qz (i:=11) (oi:=({dst:=some 79,op:=Op.indexAddr 30 (Operand.tmp 77) (Operand.tmp 78),type:=0,pos:="more.go:36",after:=#[{on:=9,ground:=Ground.data},{on:=10,ground:=Ground.data},{on:=1,ground:=Ground.guard}],guard:=some (1,false)}:Oper)) (v:=undef) rfl (by kernel_rfl) (by kernel_rfl) (by kernel_rfl) (fun _ _ _ h=>h) (Or.inr ⟨by rfl,rfl⟩) hHeld ?_)
          |(refine Qz (i:=11) (oi:=({dst:=some 79,op:=Op.indexAddr 30 (Operand.tmp 77) (Operand.tmp 78),type:=0,pos:="more.go:36",after:=#[{on:=9,ground:=Ground.data},{on:=10,ground:=Ground.data},{on:=1,ground:=Ground.guard}],guard:=some (1,false)}:Oper)) (v:= ?_) rfl (by kernel_rfl) (by kernel_rfl) (by kernel_rfl) (fun _ _ _ h=>h) (Or.inl ⟨by rfl,?_⟩) hHeld ?_;rotate_left;(intro w hSw;(try dsimp only at hSw);go_simp;(try with_reducible rfl));skip)
         (try simp only[Act.put,List.setIfInBounds_toArray,List.set_cons_zero,List.set_cons_succ])
         first
          |(refine Qz (i:=12) (oi:=({dst:=some 80,op:=Op.load 33 (Operand.tmp 79),type:=33,pos:="more.go:36",after:=#[{on:=11,ground:=Ground.data},{on:=1,ground:=Ground.guard}],guard:=some (1,false)}:Oper)) (v:=undef) rfl (by kernel_rfl) (by kernel_rfl) (by kernel_rfl) (fun _ _ _ h=>h) (Or.inr ⟨by rfl,rfl⟩) hHeld ?_)
          |(refine Qz (i:=12) (oi:=({dst:=some 80,op:=Op.load 33 (Operand.tmp 79),type:=33,pos:="more.go:36",after:=#[{on:=11,ground:=Ground.data},{on:=1,ground:=Ground.guard}],guard:=some (1,false)}:Oper)) (v:= ?_) rfl (by kernel_rfl) (by kernel_rfl) (by kernel_rfl) (fun _ _ _ h=>h) (Or.inl ⟨by rfl,?_⟩) hHeld ?_;rotate_left;(intro w hSw;(try dsimp only at hSw);go_simp;(try with_reducible rfl));skip)
         (try simp only[Act.put,List.setIfInBounds_toArray,List.set_cons_zero,List.set_cons_succ])
         first
          |(refine Qz (i:=13) (oi:=({dst:=some 81,op:=Op.move (Operand.tmp 9),type:=3,pos:="more.go:36",after:=#[{on:=1,ground:=Ground.guard}],guard:=some (1,false)}:Oper)) (v:=undef) rfl (by kernel_rfl) (by kernel_rfl) (by kernel_rfl) (fun _ _ _ h=>h) (Or.inr ⟨by rfl,rfl⟩) hHeld ?_)
          |(refine Qz (i:=13) (oi:=({dst:=some 81,op:=Op.move (Operand.tmp 9),type:=3,pos:="more.go:36",after:=#[{on:=1,ground:=Ground.guard}],guard:=some (1,false)}:Oper)) (v:= ?_) rfl (by kernel_rfl) (by kernel_rfl) (by kernel_rfl) (fun _ _ _ h=>h) (Or.inl ⟨by rfl,?_⟩) hHeld ?_;rotate_left;(intro w hSw;(try dsimp only at hSw);go_simp;(try with_reducible rfl));skip)
         (try simp only[Act.put,List.setIfInBounds_toArray,List.set_cons_zero,List.set_cons_succ])
         first
          |(refine Qz (i:=14) (oi:=({dst:=some 82,op:=Op.indexAddr 33 (Operand.tmp 80) (Operand.tmp 81),type:=0,pos:="more.go:36",after:=#[{on:=12,ground:=Ground.data},{on:=13,ground:=Ground.data},{on:=1,ground:=Ground.guard}],guard:=some (1,false)}:Oper)) (v:=undef) rfl (by kernel_rfl) (by kernel_rfl) (by kernel_rfl) (fun _ _ _ h=>h) (Or.inr ⟨by rfl,rfl⟩) hHeld ?_)
          |(refine Qz (i:=14) (oi:=({dst:=some 82,op:=Op.indexAddr 33 (Operand.tmp 80) (Operand.tmp 81),type:=0,pos:="more.go:36",after:=#[{on:=12,ground:=Ground.data},{on:=13,ground:=Ground.data},{on:=1,ground:=Ground.guard}],guard:=some (1,false)}:Oper)) (v:= ?_) rfl (by kernel_rfl) (by kernel_rfl) (by kernel_rfl) (fun _ _ _ h=>h) (Or.inl ⟨by rfl,?_⟩) hHeld ?_;rotate_left;(intro w hSw;(try dsimp only at hSw);go_simp;(try with_reducible rfl));skip)
         (try simp only[Act.put,List.setIfInBounds_toArray,List.set_cons_zero,List.set_cons_succ])
         first
          |(refine Qz (i:=15) (oi:=({dst:=some 83,op:=Op.load 3 (Operand.tmp 82),type:=3,pos:="more.go:36",after:=#[{on:=14,ground:=Ground.data},{on:=1,ground:=Ground.guard}],guard:=some (1,false)}:Oper)) (v:=undef) rfl (by kernel_rfl) (by kernel_rfl) (by kernel_rfl) (fun _ _ _ h=>h) (Or.inr ⟨by rfl,rfl⟩) hHeld ?_)
          |(refine Qz (i:=15) (oi:=({dst:=some 83,op:=Op.load 3 (Operand.tmp 82),type:=3,pos:="more.go:36",after:=#[{on:=14,ground:=Ground.data},{on:=1,ground:=Ground.guard}],guard:=some (1,false)}:Oper)) (v:= ?_) rfl (by kernel_rfl) (by kernel_rfl) (by kernel_rfl) (fun _ _ _ h=>h) (Or.inl ⟨by rfl,?_⟩) hHeld ?_;rotate_left;(intro w hSw;(try dsimp only at hSw);go_simp;(try with_reducible rfl));skip)
         (try simp only[Act.put,List.setIfInBounds_toArray,List.set_cons_zero,List.set_cons_succ])
         first
          |(refine Qz (i:=16) (oi:=({dst:=some 84,op:=Op.binOp BinOp.eql 3 (Operand.tmp 76) (Operand.tmp 83) 3,type:=4,pos:="more.go:36",after:=#[{on:=8,ground:=Ground.data},{on:=15,ground:=Ground.data},{on:=1,ground:=Ground.guard}],guard:=some (1,false)}:Oper)) (v:=undef) rfl (by kernel_rfl) (by kernel_rfl) (by kernel_rfl) (fun _ _ _ h=>h) (Or.inr ⟨by rfl,rfl⟩) hHeld ?_)
          |(refine Qz (i:=16) (oi:=({dst:=some 84,op:=Op.binOp BinOp.eql 3 (Operand.tmp 76) (Operand.tmp 83) 3,type:=4,pos:="more.go:36",after:=#[{on:=8,ground:=Ground.data},{on:=15,ground:=Ground.data},{on:=1,ground:=Ground.guard}],guard:=some (1,false)}:Oper)) (v:= ?_) rfl (by kernel_rfl) (by kernel_rfl) (by kernel_rfl) (fun _ _ _ h=>h) (Or.inl ⟨by rfl,?_⟩) hHeld ?_;rotate_left;(intro w hSw;(try dsimp only at hSw);go_simp;(try with_reducible rfl));skip)
         (try simp only[Act.put,List.setIfInBounds_toArray,List.set_cons_zero,List.set_cons_succ])
         (refine Qz (i:=17) (oi:=({dst:=some 85,op:=Op.pick (Operand.tmp 69) (Operand.const (Value.bool true)) (Operand.tmp 84),type:=4,pos:="more.go:36",after:=#[{on:=1,ground:=Ground.data},{on:=16,ground:=Ground.data}],guard:=none}:Oper)) (v:= ?_) rfl (by kernel_rfl) (by kernel_rfl) (by kernel_rfl) (fun _ _ _ h=>h) (Or.inl ⟨by rfl,?_⟩) hHeld ?_;rotate_left;(intro w hSw;(try dsimp only at hSw);go_simp;(try with_reducible rfl));skip)
         (try simp only[Act.put,List.setIfInBounds_toArray,List.set_cons_zero,List.set_cons_succ])
         (refine Qz (i:=18) (oi:=({dst:=some 10,op:=Op.assign (Operand.tmp 85),type:=4,pos:="more.go:36",after:=#[{on:=17,ground:=Ground.data},{on:=1,ground:=Ground.chain},{on:=0,ground:=Ground.phase},{on:=1,ground:=Ground.phase},{on:=2,ground:=Ground.phase},{on:=3,ground:=Ground.phase},{on:=4,ground:=Ground.phase},{on:=5,ground:=Ground.phase},{on:=6,ground:=Ground.phase},{on:=7,ground:=Ground.phase},{on:=8,ground:=Ground.phase},{on:=9,ground:=Ground.phase},{on:=10,ground:=Ground.phase},{on:=11,ground:=Ground.phase},{on:=12,ground:=Ground.phase},{on:=13,ground:=Ground.phase},{on:=14,ground:=Ground.phase},{on:=15,ground:=Ground.phase},{on:=16,ground:=Ground.phase},{on:=17,ground:=Ground.phase}],guard:=none}:Oper)) (v:= ?_) rfl (by kernel_rfl) (by kernel_rfl) (by kernel_rfl) (fun _ _ _ h=>h) (Or.inl ⟨by rfl,?_⟩) hHeld ?_;rotate_left;(intro w hSw;(try dsimp only at hSw);go_simp;(try with_reducible rfl));skip)
         (try simp only[Act.put,List.setIfInBounds_toArray,List.set_cons_zero,List.set_cons_succ])
         refine⟨by kernel_rfl,?_⟩;clear hHeld
         go_wp2_with fail
         exact⟨⟨j+1,by go_num,by omega,by rw[HTd.out];rfl,HBd⟩,by simp[intOf];omega⟩
       ·have a2:decide ((j:Int)<(kv:Int))=false:=by simp;omega
        have hfull:decide (y∈v.take j)=true:=by
         rw[List.take_of_length_le (by have:=HKv.out;omega)];exact decide_eq_true HYv.out
        rw[hfull];clear hfull
        go_wp2_with fail
        exact⟨⟨k+1,by go_num,by omega,HBj⟩,by simp[intOf];omega⟩
     ·have a1:decide ((k:Int)<(ku:Int))=false:=by simp;omega
      go_wp2_with fail
      exact⟨⟨i+1,by go_num,by omega,HBk⟩,by simp[intOf];omega⟩
   ·have a0:decide ((i:Int)<(n:Int))=false:=by simp;omega
    have HBw:=hid (HBw3.out.trans (HBi.out.mono HBw3.out.size));obtain⟨xg,fg⟩:=Qk ((HBi.out.block _ (Qq HG3.out)).trans HG3.out);have lg:=Qq ((HBi.out.block _ (Qq HG3.out)).trans HG3.out);clear HA HA2
    go_wp2_with fail
    go_ret;exact⟨by simp,HBw.out⟩
end Go.Proofs.YthmgblmoobkliaaGreatDoor
