/- Lemmas for the last text. Conditions: those that each names. -/
import Derived.Test.YtlogolpcipiceaaGreatDoorVC13dToCBase
set_option linter.unusedVariables false
set_option maxRecDepth 100000
set_option maxHeartbeats 16000000
namespace Go.Proofs.YtlogolpcipiceaaGreatDoor
open Go.Proofs.Tryz
open Go.RowKit Go.Shelf Go.Maps
theorem y4j(so:Option Addr)(n cap:Nat)(rs:List Rr)(fp:Addr)(w:World)(hE:Yw w)(hT:TabIs w)(hF:w.cell? ⟨1,0,none⟩=some (.iface 379 (.pointer (some fp))))(hPw:Yj w)(hz:RgZ rs)(hu:RgU rs)(h:Qv w w.heap.size so n rs)(hn:n<=9223372036854775807):
  Calls prog 7 #[.agg #[.slice so n cap]] w fun e w'=>e=.returned (.bool true)/\Below w.heap.size w w':=by
 obtain⟨X,hX,hPr,hC⟩:=Sh so n cap rs w.heap.size w hz hu h L0q hT;obtain⟨u1,hu1⟩:∃u1,u1=w.alloc (.cells #[.slice so n cap] 24):=⟨_,rfl⟩;have hbu:Below w.heap.size w u1:=by rw[hu1];exact(Below.refl _ w).alloc L0q _
 have gu:u1.heap[w.heap.size]? =some (.cells #[.slice so n cap] 24):=by rw[hu1];exact Qx w _ rfl
 have hfl:1<w.heap.size:=World.block_lt_of_cell? w _ hF;have HFb:Hid (∀W:World,Below w.heap.size w W->W.cell? ⟨1,0,none⟩=some (.iface 379 (.pointer (some fp)))):=hid fun W hb=>(hb.cell (p:=⟨1,0,none⟩) hfl).trans hF
 have HS:=hid (z4U fp u1 (hE.below hbu hE.lt) (hT.below hbu hT.lt) (HFb.out u1 hbu) (hPw.below hbu));have HMa:=hid (fun(W:World) (hb:Below w.heap.size w W)=>y3V so n cap rs X w.heap.size fp w hX hPr hC hz hu h L0q hT hF hPw W hb);have HNl:Hid (n=rs.length):=h.1;have HRg:=hid h;have nIz:(n:Int)<=9223372036854775807:=by omega
 clear hE hT hz hu h hC hX hPr hF hPw hfl HFb;go_enter func7,ntmps7
 go_wp2_with fail
 rw[<-hu1];refine HS.out.mono ?_;rintro e w1 ⟨rfl,HB1⟩;have HBw1:=hid (hbu.trans (HB1.out.mono hbu.size));have HG1:=hid ((HB1.out.block _ (Qz gu)).trans gu);obtain⟨x1,f1⟩:=Qk HG1.out;clear HS HB1 hu1 hbu gu
 go_wp2_with fail
 refine(HMa.out w1 HBw1.out).mono ?_;rintro e wp ⟨oso,ol,oc,nso,nl,nc,rso,rl,rc,ev,rfl,HBp,hev⟩;have hbq:Below wp.heap.size wp (wp.alloc (.cells #[.slice oso ol oc,.slice nso nl nc,.slice rso rl rc] 31)):=(Below.refl _ wp).alloc L0q _;have hb2:Below w1.heap.size w1 (wp.alloc (.cells #[.slice oso ol oc,.slice nso nl nc,.slice rso rl rc] 31)):=HBp.out.trans (hbq.mono HBp.out.size);have HBw2:=hid (HBw1.out.trans (hb2.mono HBw1.out.size));clear x1 f1;rcases hev with⟨te,ue,rfl⟩|⟨rfl,HPo⟩
 ·go_wp2_with fail
  go_ret;exact⟨rfl,HBw2.out⟩
 have HPo:=hid (HPo.out.below hbq);have HPB:=hid (Qx wp (.cells #[.slice oso ol oc,.slice nso nl nc,.slice rso rl rc] 31) rfl);obtain⟨pB,hpB⟩:∃pB,pB=wp.heap.size:=⟨_,rfl⟩;obtain⟨w2,hw2⟩:∃w2,w2=wp.alloc (.cells #[.slice oso ol oc,.slice nso nl nc,.slice rso rl rc] 31):=⟨_,rfl⟩;rw[<-hw2]at hb2 HPo HPB HBw2;rw[<-hpB]at HPB;have HG2:=hid ((hb2.block _ (Qz HG1.out)).trans HG1.out);have HW2:=hid hw2;have HpB:=hid hpB;clear HMa hb2 hbq HG1 HBp hw2 hpB
 go_wp2_with fail
 rw[<-HW2.out,<-HpB.out];clear HW2 HpB
 go_loopw [6,7] (fun q i wr=>∃j:Nat,q=.int .i64 ((ndG (rs.take j):Nat):Int)/\i=.int .i64 j/\j<=n/\Hid (Below w2.heap.size w2 wr)) (fun _ i _=>n-(intOf i).toNat)
 case atStart=>exact⟨0,by rw[List.take_zero,ndG];rfl,rfl,Nat.zero_le _,hid B0q⟩
 case round=>
  obtain⟨j,rfl,rfl,hj,HBr⟩:=hrel;have HG9:=hid ((HBr.out.block _ (Qz HG2.out)).trans HG2.out);have HP9:=hid ((HBr.out.block _ (Qz HPB.out)).trans HPB.out);obtain⟨y0,yf⟩:=Qk HG9.out;obtain⟨p0,p1,p2,_⟩:=Xz HP9.out;have ly:=Qz HG9.out;have lp:=Qz HP9.out;obtain⟨q0,hq0⟩:∃q0,q0=ndG (rs.take j):=⟨_,rfl⟩;by_cases hjn:j<n
  ·have hjI:(j:Int)<(n:Int):=by omega
   have a0:decide ((j:Int)<(n:Int))=true:=by simp;omega
   have hjs:j<rs.length:=by rw[<-HNl.out];exact hjn
   have hbw:=HBw2.out.trans (HBr.out.mono HBw2.out.size);have hRr:=HRg.out.below hbw;obtain⟨g,o,rfl,hg,k1,T1,a1,b1,c1,d1,so1,n1,cap1,p1',rt,z0,z1,z2,z3,z4,z5,z6,z7,z8,z9⟩:=hRr.2.2 j hjs;have hnt:=z4K rs j hjs;have hnd:=HPo.out.nd;obtain⟨q1,hq1⟩:∃q1,q1=ndT rs[j].2.1:=⟨_,rfl⟩;have HNd:=hid (z5h (SizeOf.sizeOf rs[j].2.1+1) rs[j].2.1 _ _ wr (by omega) rt hbw.size (by omega));rw[<-hq1]at HNd;have hqs:ndG (rs.take (j+1))=q0+q1:=by rw[List.take_succ_eq_append_getElem hjs,Hw,ndG,ndG];omega
   have hqb:q0+q1<=1048576:=by omega
   rw[<-hq0];have HQs:=hid hqs;have hwr:IntKind.i64.wrap ((q0:Int)+(q1:Int))=(q0:Int)+(q1:Int):=by rw[IntKind.wrap_i64];omega
   clear hRr hbw rt hq1 hnt hqs hq0 hnd;dsimp only[r8]at HNd
   go_wp2_with(first|(go_at_call 28;refine HNd.out.mono ?_;rintro e wz ⟨rfl,hbz⟩))
   refine⟨⟨j+1,by rw[HQs.out];simp,by go_num,by omega,hid (HBr.out.trans (hbz.mono HBr.out.size))⟩,?_⟩;simp[intOf];omega
  ·have a0:decide ((j:Int)<(n:Int))=false:=by simp;omega
   have hq:q0=ndG rs:=by rw[hq0,List.take_of_length_le (by have:=HNl.out;omega)]
   have hol:ol<=q0:=by have h1:=y3O rs;have h2:=HPo.out.lo;omega
   have hol2:ol<=200:=by have h1:=HPo.out.l2;have h2:=HPo.out.lo;omega
   obtain rfl:nl=n:=by have h1:=HPo.out.ln;have h2:=HNl.out;omega
   obtain rfl:rl=nl:=by have h1:=HPo.out.lr;have h2:=HNl.out;omega
   have b0:decide ((q0:Int)<(ol:Int))=false:=by simp;omega
   have b1:decide ((200:Int)<(ol:Int))=false:=by simp;omega
   have b2:¬(q0:Int)<(ol:Int):=by omega
   have b3:¬(200:Int)<(ol:Int):=by omega
   have b4:decide (q0<ol)=false:=by simp;omega
   have b5:decide (200<ol)=false:=by simp;omega
   rw[<-hq0];clear hq hq0
   go_wp2_with fail
   clear y0 yf p0 p1 p2 ly lp HG9 HP9 a0 b0 b1 b2 b3 b4 b5 HG2 HRg hol;have HBj:=hid HBr.out;clear HBr;obtain⟨wj,hwj⟩:∃wj,wj=wr:=⟨_,rfl⟩;rw[<-hwj];rw[<-hwj]at HBj;clear hwj;have HOn:=hid (y3N HPo.out.ck)
   go_loopw [8] (fun i wr=>∃j:Nat,i=.int .i64 j/\j<=ol/\Hid (Below w2.heap.size w2 wr)) (fun i _=>ol-(intOf i).toNat)
   case atStart=>exact⟨0,rfl,Nat.zero_le _,HBj⟩
   case round=>
    obtain⟨j,rfl,hj,HBr⟩:=hrel;have HP9:=hid ((HBr.out.block _ (Qz HPB.out)).trans HPB.out);obtain⟨p0,p1,p2,_⟩:=Xz HP9.out;have lp:=Qz HP9.out;by_cases hjn:j<ol
    ·have hjI:(j:Int)<(ol:Int):=by omega
     have a0:decide ((j:Int)<(ol:Int))=true:=by simp;omega
     have hjs:j<(pgG rs).2.length:=by have:=HPo.out.lo;omega
     obtain⟨go,s3,c3,hoso,hgo,⟨z0,z1,z2,z3,z4,z5,z6⟩,hlen,hrw⟩:=HPo.out.o j hjs;have hPart:=HOn.out.2 j hjs;subst hoso;obtain⟨kx,hkx⟩:∃kx,kx=(pgG rs).2[j].1:=⟨_,rfl⟩;obtain⟨pt,hpt⟩:∃pt,pt=(pgG rs).2[j].2.2.2:=⟨_,rfl⟩;rw[<-hpt]at z6 hlen hrw hPart;rw[<-hkx]at z0 hPart;obtain⟨m3,hm3⟩:∃m3,m3=pt.length:=⟨_,rfl⟩;rw[<-hm3]at z6 hlen;have HM3:=hid hm3;have Z0:=hid z0;have Z6:=hid z6;have Hrw:=hid hrw;have hgow:go<wr.heap.size:=Nat.lt_of_lt_of_le hgo HBr.out.size;replace z0:=(HBr.out.cell (p:=⟨go,j*7,none⟩) hgo).trans z0;have HRl:=hid HPo.out.lr;have hl6:rl<=64:=by have:=HPo.out.l6;have:=HPo.out.lr;omega
     clear z1 z2 z3 z4 z5 z6 hrw hm3 hkx hpt;by_cases h5:kx=5
     ·have h5b:(kx == 5)=true:=by simpa using h5
      have hPt:Hid (∀x∈pt,0<=x/\x<(rl:Int)):=hid fun x hx=>by have h:=hPart x hx;rw[if_pos h5,<-HRl.out]at h;exact h
      clear hPart
      go_wp2_with fail
      clear p0 p1 p2 lp HP9 a0 z0 hgow h5b;have HBk:=hid HBr.out;clear HBr;obtain⟨wk,hwk⟩:∃wk,wk=wr:=⟨_,rfl⟩;rw[<-hwk];rw[<-hwk]at HBk;clear hwk
      go_loopw [10] (fun i wr=>∃q:Nat,i=.int .i64 q/\q<=m3/\Hid (Below w2.heap.size w2 wr)) (fun i _=>m3-(intOf i).toNat)
      case atStart=>exact⟨0,rfl,Nat.zero_le _,HBk⟩
      case round=>
       obtain⟨q,rfl,hq,HBr⟩:=hrel;have HP9:=hid ((HBr.out.block _ (Qz HPB.out)).trans HPB.out);obtain⟨p0,p1,p2,_⟩:=Xz HP9.out;have lp:=Qz HP9.out;have hgow:go<wr.heap.size:=Nat.lt_of_lt_of_le hgo HBr.out.size;have z6:=(HBr.out.cell (p:=⟨go,j*7+6,none⟩) hgo).trans Z6.out;by_cases hqn:q<m3
       ·have hqI:(q:Int)<(m3:Int):=by omega
        have a0:decide ((q:Int)<(m3:Int))=true:=by simp;omega
        have hqs:q<pt.length:=by rw[<-HM3.out];exact hqn
        obtain⟨g3,q3,hs3,hg3,y3⟩:=Hrw.out q hqs;subst hs3;have hx:=hPt.out _ (List.getElem_mem hqs);obtain⟨x,hxe⟩:∃x,x=pt[q]:=⟨_,rfl⟩;rw[<-hxe]at hx y3;replace y3:=(HBr.out.cell (p:=⟨g3,q3+q,none⟩) hg3).trans y3;have lg3:g3<wr.heap.size:=Nat.lt_of_lt_of_le hg3 HBr.out.size;obtain⟨hx0,hx1⟩:=hx;have d0:decide (x<0)=false:=by simp;omega
        have d1:¬x<0:=by omega
        have d2:decide ((rl:Int)<=x)=false:=by simp;omega
        have d3:¬(rl:Int)<=x:=by omega
        clear hxe
        go_wp2_with fail
        exact⟨⟨q+1,by go_num,by omega,HBr⟩,by simp[intOf];omega⟩
       ·have a0:decide ((q:Int)<(m3:Int))=false:=by simp;omega
        go_wp2_with fail
        clear p0 p1 p2 lp HP9 a0 z6 hgow;have HBl:=hid HBr.out;clear HBr;obtain⟨wl,hwl⟩:∃wl,wl=wr:=⟨_,rfl⟩;rw[<-hwl];rw[<-hwl]at HBl;clear hwl
        go_loopw [11] (fun i wr=>∃q:Nat,i=.int .i64 q/\q<=j/\Hid (Below w2.heap.size w2 wr)) (fun i _=>j-(intOf i).toNat)
        case atStart=>exact⟨0,rfl,Nat.zero_le _,HBl⟩
        case round=>
         obtain⟨q,rfl,hq,HBr⟩:=hrel;have HP9:=hid ((HBr.out.block _ (Qz HPB.out)).trans HPB.out);obtain⟨p0,p1,p2,_⟩:=Xz HP9.out;have lp:=Qz HP9.out;by_cases hqn:q<j
         ·have hqI:(q:Int)<(j:Int):=by omega
          have a0:decide ((q:Int)<(j:Int))=true:=by simp;omega
          have hqs:q<(pgG rs).2.length:=by omega
          have HSm:Hid (∀W:World,Below wr.heap.size wr W->Calls prog 13 #[.agg #[.slice (some ⟨go,j*7,none⟩) 1 (oc-j),.slice none 0 0,.slice none 0 0],.agg #[.slice (some ⟨go,q*7,none⟩) 1 (oc-q),.slice none 0 0,.slice none 0 0]] W (AlP (pgG rs).2[j] (pgG rs).2[q] W)):=hid fun W hW=>z5j (HPo.out.below (HBr.out.trans (hW.mono HBr.out.size))) j q hjs hqs go rfl (oc-j) (oc-q)
          have HNe:=hid (z5g HOn.out hjs hqn);have hocc:=HPo.out.c;have e1:IntKind.i64.wrap ((j:Int)+1)=(j:Int)+1:=by rw[IntKind.wrap_i64];omega
          have e2:IntKind.i64.wrap ((q:Int)+1)=(q:Int)+1:=by rw[IntKind.wrap_i64];omega
          have e3:j+1<=oc:=by omega
          have e4:q+1<=oc:=by omega
          have e5:(j:Int)+1<=(oc:Int):=by omega
          have e6:(q:Int)+1<=(oc:Int):=by omega
          have e7:(0:Int)<=(j:Int)+1:=by omega
          have e8:¬oc=j:=by omega
          have e9:(0:Int)<=(q:Int)+1:=by omega
          have e10:¬oc=q:=by omega
          have HS26:Hid ((fun X:World=>X.cell? ⟨pB,0,none⟩=some (.slice (some ⟨go,0,none⟩) ol oc)) wr.drew):=hid p0;obtain⟨ox,hox⟩:∃ox,ox=(pgG rs).2[j]:=⟨_,rfl⟩;obtain⟨oy,hoy⟩:∃oy,oy=(pgG rs).2[q]:=⟨_,rfl⟩;rw[<-hox,<-hoy]at HNe HSm;clear hox hoy
          go_wp2_with fail
          refine Zl 99 (fun X:World=>X.cell? ⟨pB,0,none⟩=some (.slice (some ⟨go,0,none⟩) ol oc)) (by kernel_rfl) HS26.out (fun hHeld=> ?_);refine Qq 0 hHeld ?_;refine Qq 1 hHeld ?_;refine Qq 2 hHeld ?_;refine Qq 3 hHeld ?_;refine Qq 4 hHeld ?_;refine Qq 5 hHeld ?_;refine Qq 6 hHeld ?_;refine Qq 7 hHeld ?_;refine Qq 8 hHeld ?_;refine Qq 9 hHeld ?_;refine Qq 10 hHeld ?_;refine Qq 11 hHeld ?_;refine Qq 12 hHeld ?_;refine Qq 13 hHeld ?_
          (refine Qd 14 (fun K hK=> ?_);go_simp;refine(HSm.out wr.drew (Below.refl _ wr).drew).mono ?_;rintro e w4 ⟨x,rfl,hx4,hb4⟩;have HX4:=hid hx4;have HB4:=hid hb4;clear hx4 hb4;go_simp;replace hHeld:=(HB4.out.cell (p:=⟨pB,0,none⟩) lp).trans hHeld;refine hK.out _ _ hHeld ?_;clear hK K)
          (try simp only[Act.put,List.setIfInBounds_toArray,List.set_cons_zero,List.set_cons_succ])
          refine Qq 15 hHeld ?_;refine⟨by kernel_rfl,?_⟩;clear hHeld HS26;cases x with
          |true=>exact absurd (HX4.out rfl) HNe.out
          |false=>
           go_wp2_with fail
           exact⟨⟨q+1,by go_num,by omega,hid (HBr.out.drew.trans (HB4.out.mono HBr.out.drew.size))⟩,by simp[intOf];omega⟩
         ·have a0:decide ((q:Int)<(j:Int))=false:=by simp;omega
          go_wp2_with fail
          exact⟨⟨j+1,by go_num,by omega,HBr⟩,by simp[intOf];omega⟩
     ·have h5b:(kx == 5)=false:=by simpa using h5
      have hPt:Hid (∀x∈pt,0<=x/\x<(j:Int)):=hid fun x hx=>by have h:=hPart x hx;rw[if_neg h5]at h;exact h
      clear hPart
      go_wp2_with fail
      clear p0 p1 p2 lp HP9 a0 z0 hgow h5b;have HBk:=hid HBr.out;clear HBr;obtain⟨wk,hwk⟩:∃wk,wk=wr:=⟨_,rfl⟩;rw[<-hwk];rw[<-hwk]at HBk;clear hwk
      go_loopw [10] (fun i wr=>∃q:Nat,i=.int .i64 q/\q<=m3/\Hid (Below w2.heap.size w2 wr)) (fun i _=>m3-(intOf i).toNat)
      case atStart=>exact⟨0,rfl,Nat.zero_le _,HBk⟩
      case round=>
       obtain⟨q,rfl,hq,HBr⟩:=hrel;have HP9:=hid ((HBr.out.block _ (Qz HPB.out)).trans HPB.out);obtain⟨p0,p1,p2,_⟩:=Xz HP9.out;have lp:=Qz HP9.out;have hgow:go<wr.heap.size:=Nat.lt_of_lt_of_le hgo HBr.out.size;have z6:=(HBr.out.cell (p:=⟨go,j*7+6,none⟩) hgo).trans Z6.out;by_cases hqn:q<m3
       ·have hqI:(q:Int)<(m3:Int):=by omega
        have a0:decide ((q:Int)<(m3:Int))=true:=by simp;omega
        have hqs:q<pt.length:=by rw[<-HM3.out];exact hqn
        obtain⟨g3,q3,hs3,hg3,y3⟩:=Hrw.out q hqs;subst hs3;have hx:=hPt.out _ (List.getElem_mem hqs);obtain⟨x,hxe⟩:∃x,x=pt[q]:=⟨_,rfl⟩;rw[<-hxe]at hx y3;replace y3:=(HBr.out.cell (p:=⟨g3,q3+q,none⟩) hg3).trans y3;have lg3:g3<wr.heap.size:=Nat.lt_of_lt_of_le hg3 HBr.out.size;obtain⟨hx0,hx1⟩:=hx;have d0:decide (x<0)=false:=by simp;omega
        have d1:¬x<0:=by omega
        have d2:decide ((j:Int)<=x)=false:=by simp;omega
        have d3:¬(j:Int)<=x:=by omega
        clear hxe
        go_wp2_with fail
        exact⟨⟨q+1,by go_num,by omega,HBr⟩,by simp[intOf];omega⟩
       ·have a0:decide ((q:Int)<(m3:Int))=false:=by simp;omega
        go_wp2_with fail
        clear p0 p1 p2 lp HP9 a0 z6 hgow;have HBl:=hid HBr.out;clear HBr;obtain⟨wl,hwl⟩:∃wl,wl=wr:=⟨_,rfl⟩;rw[<-hwl];rw[<-hwl]at HBl;clear hwl
        go_loopw [11] (fun i wr=>∃q:Nat,i=.int .i64 q/\q<=j/\Hid (Below w2.heap.size w2 wr)) (fun i _=>j-(intOf i).toNat)
        case atStart=>exact⟨0,rfl,Nat.zero_le _,HBl⟩
        case round=>
         obtain⟨q,rfl,hq,HBr⟩:=hrel;have HP9:=hid ((HBr.out.block _ (Qz HPB.out)).trans HPB.out);obtain⟨p0,p1,p2,_⟩:=Xz HP9.out;have lp:=Qz HP9.out;by_cases hqn:q<j
         ·have hqI:(q:Int)<(j:Int):=by omega
          have a0:decide ((q:Int)<(j:Int))=true:=by simp;omega
          have hqs:q<(pgG rs).2.length:=by omega
          have HSm:Hid (∀W:World,Below wr.heap.size wr W->Calls prog 13 #[.agg #[.slice (some ⟨go,j*7,none⟩) 1 (oc-j),.slice none 0 0,.slice none 0 0],.agg #[.slice (some ⟨go,q*7,none⟩) 1 (oc-q),.slice none 0 0,.slice none 0 0]] W (AlP (pgG rs).2[j] (pgG rs).2[q] W)):=hid fun W hW=>z5j (HPo.out.below (HBr.out.trans (hW.mono HBr.out.size))) j q hjs hqs go rfl (oc-j) (oc-q)
          have HNe:=hid (z5g HOn.out hjs hqn);have hocc:=HPo.out.c;have e1:IntKind.i64.wrap ((j:Int)+1)=(j:Int)+1:=by rw[IntKind.wrap_i64];omega
          have e2:IntKind.i64.wrap ((q:Int)+1)=(q:Int)+1:=by rw[IntKind.wrap_i64];omega
          have e3:j+1<=oc:=by omega
          have e4:q+1<=oc:=by omega
          have e5:(j:Int)+1<=(oc:Int):=by omega
          have e6:(q:Int)+1<=(oc:Int):=by omega
          have e7:(0:Int)<=(j:Int)+1:=by omega
          have e8:¬oc=j:=by omega
          have e9:(0:Int)<=(q:Int)+1:=by omega
          have e10:¬oc=q:=by omega
          have HS26:Hid ((fun X:World=>X.cell? ⟨pB,0,none⟩=some (.slice (some ⟨go,0,none⟩) ol oc)) wr.drew):=hid p0;obtain⟨ox,hox⟩:∃ox,ox=(pgG rs).2[j]:=⟨_,rfl⟩;obtain⟨oy,hoy⟩:∃oy,oy=(pgG rs).2[q]:=⟨_,rfl⟩;rw[<-hox,<-hoy]at HNe HSm;clear hox hoy
          go_wp2_with fail
          refine Zl 99 (fun X:World=>X.cell? ⟨pB,0,none⟩=some (.slice (some ⟨go,0,none⟩) ol oc)) (by kernel_rfl) HS26.out (fun hHeld=> ?_);refine Qq 0 hHeld ?_;refine Qq 1 hHeld ?_;refine Qq 2 hHeld ?_;refine Qq 3 hHeld ?_;refine Qq 4 hHeld ?_;refine Qq 5 hHeld ?_;refine Qq 6 hHeld ?_;refine Qq 7 hHeld ?_;refine Qq 8 hHeld ?_;refine Qq 9 hHeld ?_;refine Qq 10 hHeld ?_;refine Qq 11 hHeld ?_;refine Qq 12 hHeld ?_;refine Qq 13 hHeld ?_
          (refine Qd 14 (fun K hK=> ?_);go_simp;refine(HSm.out wr.drew (Below.refl _ wr).drew).mono ?_;rintro e w4 ⟨x,rfl,hx4,hb4⟩;have HX4:=hid hx4;have HB4:=hid hb4;clear hx4 hb4;go_simp;replace hHeld:=(HB4.out.cell (p:=⟨pB,0,none⟩) lp).trans hHeld;refine hK.out _ _ hHeld ?_;clear hK K)
          (try simp only[Act.put,List.setIfInBounds_toArray,List.set_cons_zero,List.set_cons_succ])
          refine Qq 15 hHeld ?_;refine⟨by kernel_rfl,?_⟩;clear hHeld HS26;cases x with
          |true=>exact absurd (HX4.out rfl) HNe.out
          |false=>
           go_wp2_with fail
           exact⟨⟨q+1,by go_num,by omega,hid (HBr.out.drew.trans (HB4.out.mono HBr.out.drew.size))⟩,by simp[intOf];omega⟩
         ·have a0:decide ((q:Int)<(j:Int))=false:=by simp;omega
          go_wp2_with fail
          exact⟨⟨j+1,by go_num,by omega,HBr⟩,by simp[intOf];omega⟩
    ·have a0:decide ((j:Int)<(ol:Int))=false:=by simp;omega
     go_wp2_with fail
     go_ret;exact⟨rfl,HBw2.out.trans (HBr.out.mono HBw2.out.size)⟩
end Go.Proofs.YtlogolpcipiceaaGreatDoor
