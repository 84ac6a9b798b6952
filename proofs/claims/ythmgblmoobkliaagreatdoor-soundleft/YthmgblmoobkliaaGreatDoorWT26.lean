/- Lemmas for the last text. Conditions: those that each names. -/
import Derived.Test.YthmgblmoobkliaaGreatDoorVT22ToEBase
set_option linter.unusedVariables false
set_option maxRecDepth 100000
set_option maxHeartbeats 8000000
namespace Go.Proofs.YthmgblmoobkliaaGreatDoor
open Go.Proofs.Tryz
open Go.RowKit Go.Shelf Go.Maps
variable {j p:Nat}
theorem y4c{us:List (List Int)}(h:Rch us p j):p=j∨∃y:Nat,(y:Int)∈us.getD p []/\Rch us y j:=by
 induction h with
 |refl=>exact .inl rfl
 | @step b c _ hm ih=>
   rcases ih with rfl|⟨y,hy,hr⟩
   ·exact .inr ⟨c,hm,.refl⟩
   ·exact .inr ⟨y,hy,hr.step hm⟩
def Cyc(us:List (List Int))(j p:Nat):Prop:=Rch us j p/\Rch us p j
theorem y4d{us:List (List Int)}(hb:Bck us j)(h:Cyc us j p):∃y:Nat,(y:Int)∈us.getD p []/\Cyc us j y:=by
 rcases y4c h.2 with rfl|⟨y,hy,hr⟩
 ·obtain⟨x,hx,hr⟩:=hb
  exact⟨x,hx,Rch.refl.step hx,hr⟩
 ·exact⟨y,hy,h.1.step hy,hr⟩
theorem y4e{rs:List Rr}{q:Int×Int}(h:ckR rs=some q):q.1=30∨q.1=31:=by
 unfold ckR at h;cases e:Fw rs with
 |some p=>rw[e]at h;cases h;exact .inl rfl
 |none=>
  rw[e]at h;simp only at h;cases e2:Xx (nmL rs) (rfG rs)with
  |some p=>rw[e2]at h;cases h;exact .inr rfl
  |none=>rw[e2]at h;cases h
theorem y4f{rs:List Rr}{X:Option (Int ⊕ (Int×Int))}(hX:CkX rs X)(h:cdZ (soZ rs X)=41):X=none/\∃j,j<rs.length/\Bck (bgU rs) j:=by
 cases X with
 |some x=>
  exfalso;cases x with
  |inl c=>
   have h1:c=2∨c=20:=hX;have h2:c=41:=h;omega
  |inr q=>
   have h1:=y4e hX.2;have h2:q.1=41:=h;omega
 |none=>
  refine⟨rfl,?_⟩;unfold soZ at h;simp only at h;cases e:flX (kG rs) rs with
  |some x=>
   exfalso;rw[e]at h;unfold flX at e;obtain⟨p,_,rfl⟩:=Option.map_eq_some_iff.1 e;have h2:(40:Int)=41:=h;omega
  |none=>
   rw[e]at h;simp only at h;cases e2:lfG rs with
   |none=>rw[e2]at h;have h2:(0:Int)=41:=h;omega
   |some p=>exact y3o e2
def onC(ob:Nat)(w:World):Nat:=match w.heap[ob]? with
 |some (.cells cur _ _)=>cur.toList.countP fun v=>match v with| .bool b=>b|_=>false
 |_=>0
theorem z5R{ob:Nat}{w:World}{sn:List Bool}(h:w.heap[ob]? =some (.cells (sn.map Value.bool).toArray 4)):onC ob w=sn.countP id:=by
 unfold onC;rw[h];simp only;rw[List.countP_map];rfl
theorem z5S{ob:Nat}{w:World}{sn:List Bool}{b:Bool}(h:w.heap[ob]? =some (.cells (sn.map Value.bool).toArray 4)):(w.setCell ⟨ob,p,none⟩ (.bool b)).heap[ob]? =some (.cells ((sn.set p b).map Value.bool).toArray 4):=by
 rw[Qf h];congr 2;apply Array.ext';simp[List.map_set]
theorem z5T:∀(sn:List Bool) (p:Nat),sn[p]? =some true->(sn.set p false).countP id<sn.countP id
 |[],p,h=>by simp at h
 |b::r,0,h=>by
  have:b=true:=by simpa using h
  subst this;simp
 |b::r,p+1,h=>by
  have:=z5T r p (by simpa using h);rw[List.set_cons_succ,List.countP_cons,List.countP_cons];omega
def Ud(sn:List Bool)(u:List Int):Bool:=u.any fun x=>sn.getD x.toNat false
theorem y4g{sn:List Bool}{u:List Int}{k m:Nat}{b:Bool}(hk:k<u.length)(em:u[k]=(m:Int))(hb:sn[m]? =some b):Ud sn (u.take (k+1))=(Ud sn (u.take k)||b):=by
 unfold Ud;rw[List.take_succ_eq_append_getElem hk,List.any_append,em];simp[hb]
def OnI(us:List (List Int))(j n:Nat)(sn:List Bool):Prop:=sn.length=n/\∀p,Cyc us j p->sn[p]? =some true
theorem y4h{us:List (List Int)}{n i:Nat}{sn:List Bool}(hb:Bck us j)(h:OnI us j n sn)(hc:Cyc us j i):Ud sn (us.getD i [])=true:=by
 obtain⟨y,hy,hcy⟩:=y4d hb hc;refine List.any_eq_true.2 ⟨(y:Int),hy,?_⟩;rw[Int.toNat_natCast,List.getD_eq_getElem?_getD,h.2 y hcy];rfl
theorem y4i{us:List (List Int)}{n i:Nat}{sn:List Bool}(hb:Bck us j)(h:OnI us j n sn)(hk:Ud sn (us.getD i [])=false):OnI us j n (sn.set i false):=by
 refine⟨by rw[List.length_set];exact h.1,fun p hp=> ?_⟩;have hne:i≠p:=fun e=>by
  subst e;rw[y4h hb h hp]at hk;cases hk
 rw[List.getElem?_set_ne hne];exact h.2 p hp
theorem y4j(n j:Nat)(hj:j<n):(List.replicate j true++List.replicate (n-j) false).set j true=List.replicate (j+1) true++List.replicate (n-(j+1)) false:=by
 rw[List.set_append_right _ _ (by simp),List.length_replicate,Nat.sub_self,show n-j=(n-(j+1))+1 by omega,List.replicate_succ,List.set_cons_zero,List.replicate_succ' (n:=j),List.append_assoc];rfl
theorem y4k(n j:Nat)(hj:j<n):(List.replicate j true++List.replicate (n-j) false)[j]? =some false:=by
 rw[List.getElem?_append_right (by simp),List.length_replicate,Nat.sub_self,List.getElem?_replicate,if_pos (by omega)]
theorem y4l(so:Option Addr)(n cap:Nat)(rs:List Rr)(fp:Addr)(w:World)(hE:Zj w)(hT:TabIs w)(hF:w.cell? ⟨1,0,none⟩=some (.iface 281 (.pointer (some fp))))(hz:RgZ rs)(hu:RgU rs)(h:Qv w w.heap.size so n rs):
  Calls prog 6 #[.agg #[.slice so n cap]] w fun e w'=>e=.returned (.bool true)/\Below w.heap.size w w':=by
 obtain⟨X,hX,hP,hC⟩:=Iq so n cap rs w.heap.size w hz hu h L0q hT;obtain⟨u1,hu1⟩:∃u1,u1=w.alloc (.cells #[.slice so n cap] 24):=⟨_,rfl⟩;have hbu:Below w.heap.size w u1:=by rw[hu1];exact(Below.refl _ w).alloc L0q _
 have gu:u1.heap[w.heap.size]? =some (.cells #[.slice so n cap] 24):=by rw[hu1];exact Qx w _ rfl
 have hfl:1<w.heap.size:=World.block_lt_of_cell? w _ hF;have HS:=hid (Bz fp u1 (hE.below hbu hE.lt) (hT.below hbu hT.lt) ((hbu.cell (p:=⟨1,0,none⟩) hfl).trans hF));have HBg:=hid (fun(W:World) (hb:Below w.heap.size w W)=>z0h so n cap rs X w.heap.size w hX hP hC hz h L0q hT W hb);have HCh:=hid (fun(W:World) (hb:Below w.heap.size w W)=>Dm so n cap rs X w.heap.size fp w hX hP hC hz h L0q hT hF W hb);have HNl:Hid (n=rs.length):=h.1;have HX:=hid hX;have HE:=hid hE;clear hE hT hz hu h hC hX hF hfl hP;go_enter func6,ntmps6
 go_wp2_with fail
 rw[<-hu1];refine HS.out.mono ?_;rintro e w1 ⟨rfl,HB1⟩;have HBw1:=hid (hbu.trans (HB1.out.mono hbu.size));have HG1:=hid ((HB1.out.block _ (Qq gu)).trans gu);obtain⟨x1,f1⟩:=Qk HG1.out;have l1:=Qq HG1.out;clear HS HB1 hu1 hbu gu
 go_wp2_with fail
 refine(HCh.out w1 HBw1.out).mono ?_;clear HCh;rintro e w2 ⟨ev,rfl,hev,hb2⟩;have HBw2:=hid (HBw1.out.trans (hb2.mono HBw1.out.size));have HG2:=hid ((hb2.block _ (Qq HG1.out)).trans HG1.out);obtain⟨x2,f2⟩:=Qk HG2.out;have l2:=Qq HG2.out;have HEv:=hid hev;clear x1 f1 l1 HG1 hb2 hev
 go_wp2_with fail
 refine(HBg.out w2 HBw2.out).mono ?_;clear HBg;rintro e w3 ⟨hb3,hre⟩;have HBw3:=hid (HBw2.out.trans (hb3.mono HBw2.out.size));have HG3:=hid ((hb3.block _ (Qq HG2.out)).trans HG2.out);have hbe:∃lv ev,e=.returned (.tuple #[lv,ev])/\(X=none->∃ub vs,lv=.slice (some ⟨ub,0,none⟩) n n/\ev=.nilIface/\Uw w2 ub n vs (bgU rs) w3):=by
  rcases hre with⟨hx,v,rfl,hv⟩|⟨hx,ub,vs,rfl,hvl,hU⟩
  ·exact⟨_,_,rfl,fun h=>absurd h hx⟩
  ·rw[<-HNl.out]at hU ⊢
   exact⟨_,_,rfl,fun _=>⟨ub,vs,rfl,rfl,hU⟩⟩
 obtain⟨lv,fv,rfl,hlv⟩:=hbe;have HLv:=hid hlv;have HCo:=hid (If _ _ ev w3 (HE.out.below HBw3.out HE.out.lt) (HEv.out.to hb3));obtain⟨cz,hcz⟩:∃cz,cz=cdZ (soZ rs X):=⟨_,rfl⟩;rw[<-hcz]at HCo;have HCz:Hid (cz=cdZ (soZ rs X)):=hcz;clear x2 f2 l2 HG2 hb3 hre hlv HEv hcz
 go_wp2_with fail
 refine HCo.out.mono ?_;clear HCo;rintro e w4 ⟨rfl,hb4⟩;have HBw4:=hid (HBw3.out.trans (hb4.mono HBw3.out.size));have HG4:=hid ((hb4.block _ (Qq HG3.out)).trans HG3.out);by_cases h41:cz=41
 ·obtain⟨hXn,j0,hj0,hbk⟩:=y4f HX.out (HCz.out.symm.trans h41)
  subst h41;subst hXn;obtain⟨ub,vs,rfl,rfl,hU⟩:=HLv.out rfl;obtain⟨hk,hck,hrl⟩:=HX.out;have hlen:=Xd hk;rw[<-HNl.out]at hlen;have hn64:n<=64:=hlen.2;have hU4:=hU.below hb4;have HA:=hid (fun i hi=>Iy hU4 (Al hk hrl) i hi);have HMm:=hid (Nf hk hck);have HBk:=hid hbk;have HJ0:Hid (j0<n):=by rw[HNl.out];exact hj0
  obtain⟨x4,f4⟩:=Qk HG4.out;have l4:=Qq HG4.out;have hmk:=Tv n (by omega);have HCn:Hid (∀p,Cyc (bgU rs) j0 p->p<n):=fun p hp=>by
   have hr:=hp.1;have hj:j0<n:=HJ0.out;clear hp
   induction hr with
   |refl=>exact hj
   | @step b c _ hm _=>
     rw[List.getD_eq_getElem?_getD]at hm;cases e:(bgU rs)[b]? with
     |none=>rw[e]at hm;simp at hm
     |some u=>
      rw[e]at hm;obtain⟨m,h1,h2⟩:=Nf hk hck u (List.mem_of_getElem? e) _ hm;have:=HNl.out;omega
  clear hU hU4 hk hck hrl hlen hbk hj0 HLv HCz HG3 hb4
  go_wp2_with fail
  obtain⟨ob,hob⟩:∃ob,ob=w4.heap.size:=⟨_,rfl⟩;obtain⟨W5,hW5⟩:∃W5,W5=w4.alloc (.cells (Array.replicate n (Value.bool false)) 4):=⟨_,rfl⟩;have HB5:Hid (Below w4.heap.size w4 W5):=by rw[hW5];exact B0q.alloc L0q _
  have HO5:Hid (W5.heap[ob]? =some (.cells ((List.replicate 0 true++List.replicate (n-0) false).map Value.bool).toArray 4)):=by
   show _=_;rw[hW5,hob,Qx _ _ rfl];simp
  have HOb:Hid (w4.heap.size<=ob):=by show _<=_;omega
  rw[<-hW5,<-hob];clear hW5 hob x4 f4 l4 hmk
  go_loopw [8] (fun a wr=>∃i:Nat,a=.int .i64 i/\i<=n/\Hid (Below w4.heap.size w4 wr)/\Hid (wr.heap[ob]? =some (.cells ((List.replicate i true++List.replicate (n-i) false).map Value.bool).toArray 4))) (fun a _=>n-(intOf a).toNat)
  case atStart=>exact⟨0,rfl,Nat.zero_le _,HB5,HO5⟩
  case round=>
   obtain⟨i,rfl,hi,HBi,HOi⟩:=hrel;clear HB5 HO5;by_cases hin:i<n
   ·have hiI:(i:Int)<(n:Int):=by omega
    have a0:decide ((i:Int)<(n:Int))=true:=by simp;omega
    obtain⟨s1,s2⟩:=Fy HOi.out (y4k n i hin);have ls:=Qq HOi.out;have HOn:=hid (z5S (p:=i) (b:=true) HOi.out);rw[y4j n i hin]at HOn;have HBn:Hid (Below w4.heap.size w4 (wr.setCell ⟨ob,i,none⟩ (.bool true))):=hid (HBi.out.setCell (p:=⟨ob,i,none⟩) HOb.out _)
    go_wp2_with fail
    exact⟨⟨i+1,by go_num,by omega,HBn,HOn⟩,by simp[intOf];omega⟩
   ·have a0:decide ((i:Int)<(n:Int))=false:=by simp;omega
    obtain rfl:i=n:=by omega
    have HSn:Hid (∃sn,OnI (bgU rs) j0 i sn/\wr.heap[ob]? =some (.cells (sn.map Value.bool).toArray 4)):=by
     refine⟨_,⟨by simp,fun p hp=> ?_⟩,HOi.out⟩;have:=HCn.out p hp;rw[List.getElem?_append_left (by simpa using this),List.getElem?_replicate,if_pos this]
    obtain⟨w6,hw6⟩:∃w6,w6=wr:=⟨_,rfl⟩;rw[<-hw6]at HSn HBi ⊢;clear HOi hw6
    go_wp2_with fail
    go_loopw [9] (fun a wr=>∃(b:Bool) (sn:List Bool),a=.bool b/\Hid (OnI (bgU rs) j0 i sn)/\Hid (wr.heap[ob]? =some (.cells (sn.map Value.bool).toArray 4))/\Hid (Below w4.heap.size w4 wr)) (fun a wr=>2*onC ob wr+(match a with| .bool true=>1|_=>0))
    case atStart=>
     obtain⟨sn,h1,h2⟩:=HSn.out;exact⟨true,sn,rfl,h1,h2,HBi⟩
    case round=>
     obtain⟨b,sn,rfl,HIn,HOn,HBn⟩:=hrel;clear HSn HBi;cases b with
     |true=>
      go_wp2_with fail
      have HC7:Hid (onC ob wr=sn.countP id):=z5R HOn.out
      go_loopw [9,10] (fun a q wr=>∃(t:Nat) (b:Bool) (sx:List Bool),q=.int .i64 t/\t<=i/\a=.bool b/\Hid (OnI (bgU rs) j0 i sx)/\Hid (wr.heap[ob]? =some (.cells (sx.map Value.bool).toArray 4))/\Hid (Below w4.heap.size w4 wr)/\Hid (sx.countP id+(if b then 1 else 0)<=sn.countP id)) (fun _ q _=>i-(intOf q).toNat)
      case atStart=>exact⟨0,false,sn,rfl,Nat.zero_le _,rfl,HIn,HOn,HBn,by show _<=_;simp⟩
      case round=>
       obtain⟨t,b,sx,rfl,ht,rfl,HIx,HOx,HBx,HCx⟩:=hrel;by_cases htn:t<i
       ·have htI:(t:Int)<(i:Int):=by omega
        have a1:decide ((t:Int)<(i:Int))=true:=by simp;omega
        have htb:t<(bgU rs).length:=by rw[Uz,<-HNl.out];exact htn
        obtain⟨rso,rcap,cu,lub,hul,hrow⟩:=HA.out t htb;have hmm:=HMm.out (bgU rs)[t] (List.getElem_mem htb);have hgd:(bgU rs).getD t []=(bgU rs)[t]:=by rw[List.getD_eq_getElem?_getD,List.getElem?_eq_getElem htb];rfl
        obtain⟨u,hue⟩:∃u,u=(bgU rs)[t]:=⟨_,rfl⟩;have HGd:Hid ((bgU rs).getD t []=u):=hgd.trans hue.symm;have HRow:Hid (∀j (hj:j<u.length),∃g o,rso=some ⟨g,o,none⟩/\g<w4.heap.size/\w4.cell? ⟨g,o+j,none⟩=some (.int .i64 u[j])):=by subst hue;exact hrow
        rw[<-hue]at cu hul hmm;have HMu:=hid hmm;obtain⟨ku,hku⟩:∃ku,ku=u.length:=⟨_,rfl⟩;rw[<-hku]at cu hul;have HKu:Hid (ku=u.length):=hku;have cu2:=(HBx.out.cell (p:=⟨ub,t,none⟩) lub).trans cu;have lub2:ub<wr.heap.size:=Nat.lt_of_lt_of_le lub HBx.out.size;have htl:t<sx.length:=by rw[HIx.out.1];exact htn
        obtain⟨bt',hbt⟩:∃b',b'=sx[t]:=⟨_,rfl⟩;have hst:sx[t]? =some bt':=by rw[List.getElem?_eq_getElem htl,hbt]
        obtain⟨s1,s2⟩:=Fy HOx.out hst;have ls:=Qq HOx.out;have HSt:=hid hst;clear hrow hmm hgd hue hku cu hbt hst
        go_wp2_with fail
        go_loop [11,12] (fun a q=>∃k:Nat,q=.int .i64 k/\k<=ku/\a=.bool (Ud sx (u.take k))) (fun _ q=>ku-(intOf q).toNat)
        case atStart=>exact⟨0,rfl,Nat.zero_le _,by simp[Ud]⟩
        case round=>
         obtain⟨k,rfl,hk,rfl⟩:=hrel;by_cases hkn:k<ku
         ·have hkI:(k:Int)<(ku:Int):=by omega
          have a2:decide ((k:Int)<(ku:Int))=true:=by simp;omega
          have hku:k<u.length:=by rw[<-HKu.out];exact hkn
          obtain⟨rg,ro,rfl,hrg,hcr⟩:=HRow.out k hku;obtain⟨m,hmn,em⟩:=HMu.out u[k] (List.getElem_mem hku);rw[<-HNl.out]at hmn;have hml:m<sx.length:=by rw[HIx.out.1];exact hmn
          obtain⟨bm,hbm⟩:∃b',b'=sx[m]:=⟨_,rfl⟩;have hsm:sx[m]? =some bm:=by rw[List.getElem?_eq_getElem hml,hbm]
          obtain⟨q1,q2⟩:=Fy HOx.out hsm;have hnx:=y4g (sn:=sx) hku em hsm;rw[em]at hcr;have cr:=(HBx.out.cell (p:=⟨rg,ro+k,none⟩) hrg).trans hcr;have lrg:rg<wr.heap.size:=Nat.lt_of_lt_of_le hrg HBx.out.size;have hmI:(m:Int)<(i:Int):=by omega
          have HNx:=hid hnx;obtain⟨ak,hak⟩:∃ak,ak=Ud sx (u.take k):=⟨_,rfl⟩;rw[<-hak]at HNx ⊢;clear hcr em hbm hsm hnx hak;cases ak with
          |true=>
           go_wp2_with fail
           exact⟨⟨k+1,by go_num,by omega,by rw[HNx.out];rfl⟩,by simp[intOf];omega⟩
          |false=>
           go_wp2_with fail
           exact⟨⟨k+1,by go_num,by omega,by rw[HNx.out];rfl⟩,by simp[intOf];omega⟩
         ·have a2:decide ((k:Int)<(ku:Int))=false:=by simp;omega
          have hfull:Ud sx (u.take k)=Ud sx ((bgU rs).getD t []):=by rw[List.take_of_length_le (by have:=HKu.out;omega),HGd.out]
          rw[hfull];obtain⟨ak,hak⟩:∃ak,ak=Ud sx ((bgU rs).getD t []):=⟨_,rfl⟩;have HAk:Hid (ak=Ud sx ((bgU rs).getD t [])):=hak;rw[<-hak];clear hfull hak;cases bt' with
          |false=>
           go_wp2_with fail
           exact⟨⟨t+1,b,sx,by go_num,by omega,rfl,HIx,HOx,HBx,HCx⟩,by simp[intOf];omega⟩
          |true=>
           cases ak with
           |true=>
            go_wp2_with fail
            exact⟨⟨t+1,b,sx,by go_num,by omega,rfl,HIx,HOx,HBx,HCx⟩,by simp[intOf];omega⟩
           |false=>
            have HIy:=hid (y4i HBk.out HIx.out HAk.out.symm);have HOy:=hid (z5S (p:=t) (b:=false) HOx.out);have HBy:Hid (Below w4.heap.size w4 (wr.setCell ⟨ob,t,none⟩ (.bool false))):=hid (HBx.out.setCell (p:=⟨ob,t,none⟩) HOb.out _);have hcn:=z5T sx t HSt.out;have HCy:Hid ((sx.set t false).countP id+(if true then 1 else 0)<=sn.countP id):=by
             show _<=_;have h9:sx.countP id+(if b then 1 else 0)<=sn.countP id:=HCx.out;simp only[if_true];cases b<;>simp at h9<;>omega
            clear hcn
            go_wp2_with fail
            exact⟨⟨t+1,true,sx.set t false,by go_num,by omega,rfl,HIy,HOy,HBy,HCy⟩,by simp[intOf];omega⟩
       ·have a1:decide ((t:Int)<(i:Int))=false:=by simp;omega
        have hcx:onC ob wr=sx.countP id:=z5R HOx.out;have HCc:Hid (onC ob wr=sx.countP id):=hcx;clear hcx
        go_wp2_with fail
        refine⟨⟨b,sx,rfl,HIx,HOx,HBx⟩,?_⟩;rw[HCc.out,HC7.out];have h9:sx.countP id+(if b then 1 else 0)<=sn.countP id:=HCx.out;cases b<;>simp at h9 ⊢ <;>omega
     |false=>
      go_wp2_with fail
      go_loop [13] (fun q=>∃k:Nat,q=.int .i64 k/\k<=i/\Hid (∀p,p<k->sn[p]? =some false)) (fun q=>i-(intOf q).toNat)
      case atStart=>exact⟨0,rfl,Nat.zero_le _,fun p hp=>absurd hp (by omega)⟩
      case round=>
       obtain⟨k,rfl,hk,HFk⟩:=hrel;by_cases hkn:k<i
       ·have hkI:(k:Int)<(i:Int):=by omega
        have a2:decide ((k:Int)<(i:Int))=true:=by simp;omega
        have hkl:k<sn.length:=by rw[HIn.out.1];exact hkn
        obtain⟨bk,hbk⟩:∃b',b'=sn[k]:=⟨_,rfl⟩;have hsk:sn[k]? =some bk:=by rw[List.getElem?_eq_getElem hkl,hbk]
        obtain⟨q1,q2⟩:=Fy HOn.out hsk;have ls:=Qq HOn.out;have HSk:=hid hsk;have HBw:=hid (HBw4.out.trans (HBn.out.mono HBw4.out.size));clear hbk hsk;cases bk with
        |true=>
         go_wp2_with fail
         go_ret;exact⟨rfl,HBw.out⟩
        |false=>
         go_wp2_with fail
         refine⟨⟨k+1,by go_num,by omega,fun p hp=> ?_⟩,by simp[intOf];omega⟩;rcases Nat.lt_or_ge p k with h1|h1
         ·exact HFk.out p h1
         ·obtain rfl:p=k:=by omega
          exact HSk.out
       ·exfalso
        have h1:=HIn.out.2 j0 ⟨.refl,.refl⟩;rw[HFk.out j0 (by have:=HJ0.out;omega)]at h1;cases h1
 ·have c41:(cz == 41)=false:=by simp[h41]
  have c41d:decide (cz=41)=false:=by simp[h41]
  clear HLv
  go_wp2_with fail
  go_ret;exact⟨rfl,HBw4.out⟩
end Go.Proofs.YthmgblmoobkliaaGreatDoor
