/- Lemmas for the last text. Conditions: those that each names. -/
import Derived.Test.YtlogolpcipiceaaGreatDoorVT19
import Derived.Test.YtlogolpcipiceaaGreatDoorVO6ToS3
set_option linter.unusedVariables false
set_option maxRecDepth 100000
set_option maxHeartbeats 8000000
namespace Go.Proofs.YtlogolpcipiceaaGreatDoor
open Go.Proofs.Tryz
open Go.RowKit Go.Shelf Go.Maps
variable {to:Nat}
mutual
theorem Tj{K:ByteArray->Ot}:∀t:RT,okT t=true->(fbT K t).length<=(rfT t).length
 | .mk k T a b c d s p,h=>by
   rw[fbT,rfT];by_cases h5:k=5
   ·subst h5
    have:=Sl h;subst this;rw[if_pos rfl,if_pos rfl,fbL];simp
   ·rw[if_neg h5,if_neg h5,List.nil_append]
    rw[okT,Bool.and_eq_true]at h;exact z4q (decide (k=6)) s h.2
theorem z4q{K:ByteArray->Ot}(sq:Bool):∀s:List RT,okL s=true->(fbL K sq s).length<=(rfL s).length
 |[],_=>by rw[fbL,rfL];simp
 |t::r,h=>by
  rw[okL,Bool.and_eq_true]at h;have h1:=Tj (K:=K) t h.1;have h2:=z4q (K:=K) sq r h.2;rw[fbL,rfL,List.length_append,List.length_append];split
  ·simp;omega
  ·omega
end
theorem y2r(so:Option Addr)(n cap:Nat)(so0:Option Addr)(n0 cap0:Nat)(rs:List Rr)(K:ByteArray->Ot)(w:World)(h:Qv w w.heap.size so n rs)(hn:n<=1048576)(hs:Qv w w.heap.size so0 n0 (bG rs K))(hok:okG rs=true)(hck:ckR rs=none)(hz:RgZ rs)(hP:PrG rs)(hT:TabIs w)(hl:∀x∈rs,(rfT x.2.1).length<=8192):
  Calls prog 102 #[.agg #[.slice so n cap],.agg #[.slice so0 n0 cap0]] w fun e w'=>∃ub vs,e=.returned (.slice (some ⟨ub,0,none⟩) n n)/\vs.length=n/\Uw w ub n vs (rs.map (bgR rs K)) w':=by
 have hmk:=z9A n hn;obtain⟨W2,hW2⟩:∃W2,W2=(w.alloc (.cells #[.slice so n cap] 24)).alloc (.cells #[.slice so0 n0 cap0] 24):=⟨_,rfl⟩;have hB2:Below w.heap.size w W2:=by rw[hW2];exact((Below.refl _ w).alloc L0q _).alloc (by simp) _
 have hs2:W2.heap.size=w.heap.size+1+1:=by rw[hW2];simp
 obtain⟨ub,hub⟩:∃ub,ub=w.heap.size+1+1:=⟨_,rfl⟩;obtain⟨W3,hW3⟩:∃W3,W3=W2.alloc (.cells (Array.replicate n (Value.slice none 0 0)) 29):=⟨_,rfl⟩;have HU3:Hid (Uw w ub n [] [] W3):=by
  refine⟨?_,rfl,fun i h1=>by simp at h1,by rw[hW3];exact hB2.alloc hB2.size _,by omega⟩;rw[hW3,hub,Qx _ _ hs2.symm];simp
 have HG3:Hid (W3.heap[w.heap.size]? =some (.cells #[.slice so n cap] 24)):=by rw[hW3,hW2];exact(Below.heap_alloc _ _ _ (by simp;omega)).trans ((Below.heap_alloc _ _ _ (by simp)).trans (Qx w _ rfl))
 have HS3:Hid (W3.heap[w.heap.size+1]? =some (.cells #[.slice so0 n0 cap0] 24)):=by rw[hW3,hW2];exact(Below.heap_alloc _ _ _ (by simp)).trans (Qx _ _ (by simp))
 have HR:=hid h;have HNl:Hid (n=rs.length):=h.1;have HVf:=hid (fun(w0:World) (hb:Below w.heap.size w w0) (bB:Nat) (hbB:w0.heap.size<=bB) (hg:w0.heap[w.heap.size]? =some (.cells #[.slice so n cap] 24)) (t:RT) (cs:List Value) (W:World) (hV:Bv w0 bB [] W) (ht:Qj w w.heap.size t cs) (hf:Fit (nmL rs) t) (hlt:(fbT K t).length<=8192)=>z4p w0 bB w.heap.size so n cap so0 n0 cap0 rs K w.heap.size hb.size hg (h.below hb) (hs.below hb) hok hck hz (hT.below hb hT.lt) hbB _ t cs [] W (Nat.lt_succ_self _) hV (ht.below hb) hf (by simp;omega));have HFt:=hid (fun(x:Rr) (hx:x∈rs)=>Tz hP hck hz hx);have HLn:=hid (fun(x:Rr) (hx:x∈rs)=>Nat.le_trans (Tj (K:=K) x.2.1 (Gl hok x hx).2) (hl x hx));clear h hs hok hck hz hP hT hl hB2 hs2;go_enter func102,ntmps102
 go_wp2_with fail
 rw[<-hW2,<-hW3,<-hub];obtain⟨sB,hsB⟩:∃sB,sB=w.heap.size+1:=⟨_,rfl⟩;rw[<-hsB]at HS3 ⊢;have HUb:Hid (ub=w.heap.size+1+1):=hub;have HsB:Hid (sB=w.heap.size+1):=hsB;clear hW2 hW3 hub hmk hsB
 go_loopw [16] (fun i wr=>∃j:Nat,i=.int .i64 j/\j<=n/\Hid (∃vs,vs.length=j/\Uw w ub n vs ((rs.take j).map (bgR rs K)) wr)/\Hid (wr.heap[w.heap.size]? =some (.cells #[.slice so n cap] 24))/\Hid (wr.heap[sB]? =some (.cells #[.slice so0 n0 cap0] 24))) (fun i _=>n-(intOf i).toNat)
 case atStart=>exact⟨0,rfl,Nat.zero_le _,⟨[],rfl,by rw[List.take_zero];exact HU3.out⟩,HG3,HS3⟩
 case round=>
  obtain⟨j,rfl,hj,HUj,HGj,HSj⟩:=hrel;clear HU3 HG3 HS3;by_cases hjn:j<n
  ·have hjI:(j:Int)<(n:Int):=by omega
   have a0:decide ((j:Int)<(n:Int))=true:=by simp;omega
   have hjs:j<rs.length:=by rw[<-HNl.out];exact hjn
   obtain⟨g,o,rfl,hg,k1,T1,a1,b1,c1,d1,so1,n1,cap1,p1,hrt,r0⟩:=HR.out.2.2 j hjs;obtain⟨vs,hvl,hU⟩:=HUj.out;have hce:∀q,wr.cell? ⟨g,q,none⟩=w.cell? ⟨g,q,none⟩:=fun q=>hU.be.cell (p:=⟨g,q,none⟩) hg
   simp only[<-hce]at r0;obtain⟨z0,z1,z2,z3,z4,z5,z6,z7,z8,z9⟩:=r0;have hgl:g<wr.heap.size:=World.block_lt_of_cell? wr _ z0;obtain⟨N0,hN0⟩:∃N0,N0=rs[j].1:=⟨_,rfl⟩;obtain⟨q1,hq1⟩:∃q1,q1=rs[j].2.2:=⟨_,rfl⟩;rw[<-hN0]at z0;rw[<-hq1]at z9;obtain⟨W4,hW4⟩:∃W4,W4=wr.alloc (.cells #[.string N0,.int .i64 k1,.string T1,.int .u64 a1,.int .u64 b1,.int .u64 c1,.int .u64 d1,.slice so1 n1 cap1,.int .i64 p1,.int .i64 q1] 73):=⟨_,rfl⟩;have hB4:Below wr.heap.size wr W4:=by rw[hW4];exact(Below.refl _ wr).alloc L0q _
   have hs4:W4.heap.size=wr.heap.size+1:=by rw[hW4];simp
   obtain⟨W5,hW5⟩:∃W5,W5=W4.alloc (.cells #[.slice none 0 0] 29):=⟨_,rfl⟩;obtain⟨bB,hbB⟩:∃bB,bB=wr.heap.size+1:=⟨_,rfl⟩;have hV5:Bv W4 bB [] W5:=by
    rw[hW5];exact⟨B0q.alloc L0q _,_,Qx _ _ (by omega),World.ownsRow_nil _ _ _ _⟩
   have hbw:=hU.be.trans (hB4.mono hU.be.size);have hx:=List.getElem_mem hjs;have HC:=hid (HVf.out W4 hbw bB (by omega) ((hB4.block _ (Qz HGj.out)).trans HGj.out) rs[j].2.1 _ W5 hV5 hrt (HFt.out _ hx) (HLn.out _ hx));dsimp only[r8]at HC;rw[List.nil_append]at HC;obtain⟨sb,sg⟩:=Qk HSj.out;have ls:=Qz HSj.out;have ls1:sB<wr.heap.size+1:=by omega
   obtain⟨zs,hzs⟩:∃zs,zs=(fbT K rs[j].2.1).map fun x=>fdI x (nmL rs):=⟨_,rfl⟩
   rw[<-hzs]at HC;have hzl:zs.length<=8192:=by rw[hzs,List.length_map];exact HLn.out _ hx
   have HZs:Hid (bgR rs K rs[j]=Lib.compact (srt zs)):=by show _=_;unfold bgR;rw[hzs]
   have HUw:=hid hU;have HV:Hid (vs.length=j):=hvl;have HB4:=hid hB4;have HW5:=hid hW5;have HW4:=hid hW4;have lu:ub<wr.heap.size:=Qz hU.blk;have HHs4:Hid (W4.heap.size=wr.heap.size+1):=hs4;clear hN0 hq1 hce hrt hU hvl HUj hbw hV5 hB4 hW4 hW5 hzs hx hs4
   go_wp2_with fail
   rw[<-hbB]
   first|rw[<-HW4.out,<-HW5.out]|rw[<-HW4.out]|skip
   refine HC.out.mono ?_;clear HC sb sg ls ls1 hbB;rintro e w6 ⟨rfl,⟨hbe6,v6,hb6,hr6⟩,hf6⟩;obtain⟨so6,sc6,rfl⟩:=Yh hr6;have HSo:=hid (z9v hr6 (by omega));obtain⟨c6,_⟩:=Qk hb6;have l6:=Qz hb6;have HB6:=hid hb6;have HR6:=hid hr6;have HBe6:=hid hbe6;clear hbe6 hb6 hr6 hf6;obtain⟨kz,hkz⟩:∃kz,kz=zs.length:=⟨_,rfl⟩;rw[<-hkz]at HSo HR6 HB6 c6 hzl;have HKz:Hid (kz=zs.length):=hkz;clear hkz
   go_wp2_with fail
   refine HSo.out.mono ?_;clear HSo c6;rintro e w7 ⟨rfl,hr7,hg7⟩;have hne7:some bB≠(Value.slice so6 kz sc6).ownBlock:=fun e=>Gp HR6.out HB6.out (fun cur e=>by cases e) e.symm
   have hb7:=(hg7.block _ l6 hne7).trans HB6.out;have HCo:=hid (z9w (zs:=srt zs) (by rw[My,<-HKz.out];exact hr7) (by rw[My,<-HKz.out];omega));obtain⟨c7,_⟩:=Qk hb7;have l7:=Qz hb7;have hlo:∀g,(Value.slice so6 kz sc6).ownBlock=some g->W4.heap.size<=g/\g<w6.heap.size:=fun g e=>HR6.out.lt g e
   have HBe7:=hid (HBe6.out.grown hg7 HBe6.out.size (fun g e=>(hlo g e).1));have HLo:=hid hlo;clear hr7 hg7 hb7 hlo
   go_wp2_with fail
   refine HCo.out.mono ?_;clear HCo c7;rintro e w8 ⟨v8,rfl,hr8,hg8⟩;have hbe8:=HBe7.out.grown hg8 HBe7.out.size (fun g e=>(HLo.out g e).1);have hU8:=HUw.out.below (HB4.out.trans (hbe8.mono (by rw[HHs4.out];omega)));obtain⟨k8,hk8⟩:∃k8,k8=(Lib.compact (srt zs)).length:=⟨_,rfl⟩;have hr8':=hr8;rw[<-hk8]at hr8';obtain⟨so8,sc8,rfl⟩:=Yh hr8';have lu8:ub<w8.heap.size:=Qz hU8.blk;obtain⟨x8,f8⟩:=Zc hU8.blk j (.slice none 0 0) (by have:=z9x vs n (Value.slice none 0 0) (by rw[HV.out];exact hjn);rw[HV.out]at this;rw[HV.out];exact this);have hG8:=hid ((hbe8.block _ (Nat.lt_of_lt_of_le (Qz HGj.out) HB4.out.size)).trans ((HB4.out.block _ (Qz HGj.out)).trans HGj.out));have hS8:=hid ((hbe8.block _ (Nat.lt_of_lt_of_le (Qz HSj.out) HB4.out.size)).trans ((HB4.out.block _ (Qz HSj.out)).trans HSj.out));have HU8:=hid hU8;have HR8:=hid hr8;have HBs:=hid (Nat.le_trans HUw.out.be.size HB4.out.size);clear hr8 hr8' hg8 hbe8 hU8 hk8
   go_wp2_with fail
   refine⟨⟨j+1,by go_num,by omega,hid ⟨vs++[.slice so8 k8 sc8],by rw[List.length_append,HV.out];rfl,?_⟩,hid ((Below.heap_setCell _ _ _ _ (by have:=HUb.out;show w.heap.size≠ub;omega)).trans hG8.out),hid ((Below.heap_setCell _ _ _ _ (by have:=HUb.out;have:=HsB.out;show sB≠ub;omega)).trans hS8.out)⟩,by simp[intOf];omega⟩;have hst:=HU8.out.step (u:=bgR rs K rs[j]) (by rw[HV.out];exact hjn) (by rw[HZs.out];exact z2s HR8.out HBs.out);rw[HV.out]at hst;rw[show(rs.take (j+1)).map (bgR rs K)=(rs.take j).map (bgR rs K)++[bgR rs K rs[j]] by rw[show rs.take (j+1)=rs.take j++[rs[j]] by simp,List.map_append];rfl];exact hst
  ·have a0:decide ((j:Int)<(n:Int))=false:=by simp;omega
   have hjn':rs.take j=rs:=List.take_of_length_le (by rw[<-HNl.out];omega);rw[hjn']at HUj;clear hjn' HVf
   go_wp2_with fail
   go_ret;obtain⟨vs,hvl,hU⟩:=HUj.out;exact⟨ub,vs,rfl,by omega,hU⟩
def Cb(us:List (List Int))(to:Nat)(sn sn':List Bool):Prop:=sn'.length=sn.length/\(∀i:Nat,sn[i]? =some true->sn'[i]? =some true)/\∀i:Nat,sn[i]? =some false->sn'[i]? =some true->∀k∈us.getD i [],∃m:Nat,k=(m:Int)/\m≠to/\sn'[m]? =some true
theorem Cb.refl(us:List (List Int))(to:Nat)(sn:List Bool):Cb us to sn sn:=⟨rfl,fun _ h=>h,fun i h1 h2=>by rw[h1]at h2;cases h2⟩
theorem Cb.trans{us:List (List Int)}{to:Nat}{s1 s2 s3:List Bool}(h:Cb us to s1 s2)(k:Cb us to s2 s3):Cb us to s1 s3:=by
 obtain⟨h1,h2,h3⟩:=h;obtain⟨k1,k2,k3⟩:=k;refine⟨k1.trans h1,fun i hi=>k2 i (h2 i hi),fun i a b x hx=> ?_⟩;have hl:i<s2.length:=by rw[h1];exact(List.getElem?_eq_some_iff.1 a).1
 cases e:s2[i]with
 |true=>
  obtain⟨m,e1,e2,e3⟩:=h3 i a (by rw[List.getElem?_eq_getElem hl,e]) x hx;exact⟨m,e1,e2,k2 m e3⟩
 |false=>exact k3 i (by rw[List.getElem?_eq_getElem hl,e]) b x hx
theorem Cb.mark{us:List (List Int)}{p:Nat}{sn sn':List Bool}(h:Cb us to (sn.set p true) sn')(hp:sn[p]? =some false)(ha:∀k∈us.getD p [],∃m:Nat,k=(m:Int)/\m≠to/\sn'[m]? =some true):Cb us to sn sn'/\sn'[p]? =some true:=by
 obtain⟨h1,h2,h3⟩:=h;have hpl:p<sn.length:=(List.getElem?_eq_some_iff.1 hp).1;refine⟨⟨by rw[h1,List.length_set],fun i hi=>h2 i ?_,fun i a b=> ?_⟩,h2 p (List.getElem?_set_self hpl)⟩
 ·by_cases e:p=i
  ·subst e;exact List.getElem?_set_self hpl
  ·rw[List.getElem?_set_ne e];exact hi
 ·by_cases e:p=i
  ·subst e;exact ha
  ·exact h3 i (by rw[List.getElem?_set_ne e];exact a) b
def Bck(us:List (List Int))(to:Nat):Prop:=∃x:Nat,(x:Int)∈us.getD to []/\Rch us x to
theorem y2s{us:List (List Int)}{n:Nat}{sn:List Bool}(h:Cb us to (List.replicate n false) sn)(ha:∀k∈us.getD to [],∃m:Nat,k=(m:Int)/\m≠to/\sn[m]? =some true):¬Bck us to:=fun⟨x,hx,hr⟩=>by
 obtain⟨h1,_,h3⟩:=h;have hall:∀b,Rch us x b->b≠to/\sn[b]? =some true:=fun b hb=>by
  induction hb with
  |refl=>
   obtain⟨m,e1,e2,e3⟩:=ha _ hx;obtain rfl:x=m:=by omega
   exact⟨e2,e3⟩
  | @step b c _ hm ih=>
    have hl:b<n:=by
     have:=(List.getElem?_eq_some_iff.1 ih.2).1;rw[h1,List.length_replicate]at this;exact this
    obtain⟨m,e1,e2,e3⟩:=h3 b (by rw[List.getElem?_replicate,if_pos hl]) ih.2 _ hm;obtain rfl:c=m:=by omega
    exact⟨e2,e3⟩
 exact(hall to hr).1 rfl
structure Bs (base n to bB tB sB lB sb:Nat) (uv:Value) (w0:World) (sn:List Bool) (W:World):Prop where
 bbx:Boxed W bB 124 uv
 tbx:Boxed W tB 3 (.int .i64 to)
 sbx:Boxed W sB 202 (.slice (some ⟨sb,0,none⟩) n n)
 sbl:W.heap[sb]? =some (.cells (sn.map Value.bool).toArray 4)
 lbx:Boxed W lB 255 (.func (.func 144) #[] #[.pointer (some ⟨bB,0,none⟩),.pointer (some ⟨tB,0,none⟩),.pointer (some ⟨sB,0,none⟩),.pointer (some ⟨lB,0,none⟩)])
 be:Below base w0 W
 len:sn.length=n
theorem Bs.mark{base n bB tB sB lB sb:Nat}{uv:Value}{w0 W:World}{sn:List Bool}(h:Bs base n to bB tB sB lB sb uv w0 sn W)(hsb:base<=sb)(p:Nat):Bs base n to bB tB sB lB sb uv w0 (sn.set p true) (W.setCell ⟨sb,p,none⟩ (.bool true)):=by
 have keep:∀{b:Nat} {y:Array Value} {u:TypeId},W.heap[b]? =some (.cells y u)->u≠4->(W.setCell ⟨sb,p,none⟩ (.bool true)).heap[b]? =some (.cells y u):=fun hb hu=>(Below.heap_setCell _ _ _ _ (fun e=>z9B hb h.sbl hu e)).trans hb
 refine⟨keep h.bbx (by decide),keep h.tbx (by decide),keep h.sbx (by decide),?_,keep h.lbx (by decide),h.be.setCell (p:=⟨sb,p,none⟩) hsb _,by rw[List.length_set,h.len]⟩;rw[Qb h.sbl];congr 2;apply Array.ext';simp[List.map_set]
theorem y2t(to tB sB lB:Nat)(W:World)(h:Boxed W tB 3 (.int .i64 to)):
  Calls prog 146 #[.int .i64 to,.pointer (some ⟨tB,0,none⟩),.pointer (some ⟨sB,0,none⟩),.pointer (some ⟨lB,0,none⟩)] W fun e w'=>e=.returned (.bool true)/\w'=W:=by
 have c1:=h.cell;have a0:((to:Int) == (to:Int))=true:=by simp
 go_enter func146,ntmps146
 go_wp2_with fail
 go_ret;exact⟨rfl,rfl⟩
theorem y2u(nx to n tB sB lB sb:Nat)(W:World)(h:Boxed W tB 3 (.int .i64 to))(h1:Boxed W sB 202 (.slice (some ⟨sb,0,none⟩) n n))(hc:W.cell? ⟨sb,nx,none⟩=some (.bool true))(hne:nx≠to)(hp:nx<n)(hn:n<=1048576):
  Calls prog 146 #[.int .i64 nx,.pointer (some ⟨tB,0,none⟩),.pointer (some ⟨sB,0,none⟩),.pointer (some ⟨lB,0,none⟩)] W fun e w'=>e=.returned (.bool false)/\w'=W:=by
 have c1:=h.cell;have c2:=h1.cell;have a0:((nx:Int) == (to:Int))=false:=by rw[beq_eq_false_iff_ne];omega
 go_enter func146,ntmps146
 go_wp2_with fail
 go_ret;exact⟨rfl,rfl⟩
def NxP(base n to bB tB sB lB sb:Nat)(uv:Value)(us:List (List Int))(w0:World)(sn:List Bool)(nx:Nat)(e:Ending)(w':World):Prop:=∃sn',Bs base n to bB tB sB lB sb uv w0 sn' w'/\((e=.returned (.bool true)/\Rch us nx to)∨(e=.returned (.bool false)/\Cb us to sn sn'/\nx≠to/\sn'[nx]? =some true))
def LeP(base n to bB tB sB lB sb:Nat)(uv:Value)(us:List (List Int))(w0:World)(sn:List Bool)(fr:Nat)(e:Ending)(w':World):Prop:=∃sn',Bs base n to bB tB sB lB sb uv w0 sn' w'/\((e=.returned (.bool true)/\∃x:Nat,(x:Int)∈us.getD fr []/\Rch us x to)∨(e=.returned (.bool false)/\Cb us to sn sn'/\∀k∈us.getD fr [],∃m:Nat,k=(m:Int)/\m≠to/\sn'[m]? =some true))
theorem y2v{us:List (List Int)}{sn sn':List Bool}(h:Cb us to sn sn'):unm sn'<=unm sn:=z2u sn sn' h.1 h.2.1
theorem y2w(base n to bB tB sB lB sb:Nat)(uv:Value)(us:List (List Int))(w0:World)(hn:n<=1048576)(N:Nat)(HN:Hid (∀(sn:List Bool) (W:World) (nx:Nat),unm sn<N->Bs base n to bB tB sB lB sb uv w0 sn W->nx<n->Calls prog 146 #[.int .i64 nx,.pointer (some ⟨tB,0,none⟩),.pointer (some ⟨sB,0,none⟩),.pointer (some ⟨lB,0,none⟩)] W (NxP base n to bB tB sB lB sb uv us w0 sn nx)))
  (u:List Int)(rso:Option Addr)(k cap:Nat)(hk:k=u.length)(hrl:k<=1048576)(HR:Hid (∀j (hj:j<u.length),∃g o,rso=some ⟨g,o,none⟩/\g<base/\w0.cell? ⟨g,o+j,none⟩=some (.int .i64 u[j])))(HX:Hid (∀x∈u,∃m:Nat,m<n/\x=(m:Int)))
  (sn:List Bool)(W:World)(hsn:unm sn<N)(hB:Bs base n to bB tB sB lB sb uv w0 sn W):
  Calls prog 174 #[.slice rso k cap,.func (.func 146) #[] #[.pointer (some ⟨tB,0,none⟩),.pointer (some ⟨sB,0,none⟩),.pointer (some ⟨lB,0,none⟩)]] W fun e w'=>∃sn',Bs base n to bB tB sB lB sb uv w0 sn' w'/\((∃j:Nat,e=.returned (.int .i64 j)/\∃x:Nat,(x:Int)∈u/\Rch us x to)∨(e=.returned (.int .i64 (-1))/\Cb us to sn sn'/\∀x∈u,∃m:Nat,x=(m:Int)/\m≠to/\sn'[m]? =some true)):=by
 have HB:=hid hB;have HK:Hid (k=u.length):=hk;have HSn:Hid (unm sn<N):=hsn;clear hB hk hsn;go_enter func174,ntmps174
 go_wp2_with fail
 go_loopw [8] (fun i wr=>∃j:Nat,i=.int .i64 j/\j<=k/\Hid (∃snj,Bs base n to bB tB sB lB sb uv w0 snj wr/\Cb us to sn snj/\∀i (hi:i<u.length),i<j->∃m:Nat,u[i]=(m:Int)/\m≠to/\snj[m]? =some true)) (fun i _=>k-(intOf i).toNat)
 case atStart=>exact⟨0,rfl,Nat.zero_le _,sn,HB.out,Cb.refl _ _ _,fun i hi h0=>by omega⟩
 case round=>
  obtain⟨j,rfl,hj,HJ⟩:=hrel;by_cases hjn:j<k
  ·have hjI:(j:Int)<(k:Int):=by omega
   have a0:decide ((j:Int)<(k:Int))=true:=by simp;omega
   have hju:j<u.length:=by rw[<-HK.out];exact hjn
   obtain⟨snj,vj,cj,aj⟩:=HJ.out;obtain⟨rg,ro,rfl,hrg,hrcell⟩:=HR.out j hju;have cr:=(vj.be.cell (p:=⟨rg,ro+j,none⟩) hrg).trans hrcell;obtain⟨nx,hnx,enx⟩:=HX.out u[j] (List.getElem_mem hju);rw[enx]at cr;have HC:=hid (HN.out snj wr nx (by have:=y2v cj;have:=HSn.out;omega) vj hnx);have HCj:=hid cj;have HA:=hid aj;have HE:Hid (u[j]=(nx:Int)):=enx;clear vj cj aj hrcell enx HJ
   go_wp2_with(first
    |(go_at_call 146;refine HC.out.mono ?_;clear HC;rintro e w5 ⟨sn5,v5,⟨rfl,r5⟩|⟨rfl,c5,n5,m5⟩⟩))
   ·go_ret
    exact⟨sn5,v5,.inl ⟨j,rfl,nx,by rw[<-HE.out];exact List.getElem_mem hju,r5⟩⟩
   ·refine⟨⟨j+1,by go_num,by omega,hid ⟨sn5,v5,HCj.out.trans c5,fun i hi hij=> ?_⟩⟩,by simp[intOf];omega⟩
    by_cases e:i=j
    ·subst e
     exact⟨nx,HE.out,n5,m5⟩
    ·obtain⟨m,h1,h2,h3⟩:=HA.out i hi (by omega)
     exact⟨m,h1,h2,c5.2.1 m h3⟩
  ·have a0:decide ((j:Int)<(k:Int))=false:=by simp;omega
   go_wp2_with fail
   go_ret;obtain⟨snj,vj,cj,aj⟩:=HJ.out;refine⟨snj,vj,.inr ⟨rfl,cj,fun x hx=> ?_⟩⟩;obtain⟨q,hq,rfl⟩:=List.getElem_of_mem hx;exact aj q hq (by have:=HK.out;omega)
theorem y2x(base n to bB tB sB lB sb:Nat)(uv:Value)(us:List (List Int))(w0:World)(hn:n<=1048576)(N:Nat)(HN:Hid (∀(sn:List Bool) (W:World) (nx:Nat),unm sn<N->Bs base n to bB tB sB lB sb uv w0 sn W->nx<n->Calls prog 146 #[.int .i64 nx,.pointer (some ⟨tB,0,none⟩),.pointer (some ⟨sB,0,none⟩),.pointer (some ⟨lB,0,none⟩)] W (NxP base n to bB tB sB lB sb uv us w0 sn nx)))
  (u:List Int)(rso:Option Addr)(k cap:Nat)(hk:k=u.length)(hrl:k<=1048576)(HR:Hid (∀j (hj:j<u.length),∃g o,rso=some ⟨g,o,none⟩/\g<base/\w0.cell? ⟨g,o+j,none⟩=some (.int .i64 u[j])))(HX:Hid (∀x∈u,∃m:Nat,m<n/\x=(m:Int)))
  (sn:List Bool)(W:World)(hsn:unm sn<N)(hB:Bs base n to bB tB sB lB sb uv w0 sn W):
  Calls prog 145 #[.slice rso k cap,.func (.func 146) #[] #[.pointer (some ⟨tB,0,none⟩),.pointer (some ⟨sB,0,none⟩),.pointer (some ⟨lB,0,none⟩)]] W fun e w'=>∃sn',Bs base n to bB tB sB lB sb uv w0 sn' w'/\((e=.returned (.bool true)/\∃x:Nat,(x:Int)∈u/\Rch us x to)∨(e=.returned (.bool false)/\Cb us to sn sn'/\∀x∈u,∃m:Nat,x=(m:Int)/\m≠to/\sn'[m]? =some true)):=by
 have HC:=hid (y2w base n to bB tB sB lB sb uv us w0 hn N HN u rso k cap hk hrl HR HX sn W hsn hB);clear HN hk hrl HR HX hsn hB;go_enter func145,ntmps145
 go_wp2_with fail
 refine HC.out.mono ?_;clear HC;rintro e w5 ⟨sn5,v5,⟨j,rfl,hx⟩|⟨rfl,c5,a5⟩⟩
 ·have a0:decide ((0:Int)<=(j:Int))=true:=by simp
  go_wp2_with fail
  go_ret;exact⟨sn5,v5,.inl ⟨by simp,hx⟩⟩
 ·go_wp2_with fail
  go_ret;exact⟨sn5,v5,.inr ⟨rfl,c5,a5⟩⟩
theorem z4r(base n to bB tB sB lB sb:Nat)(uv:Value)(us:List (List Int))(w0:World)(HU:Hid (UsM w0 base uv us))(HNn:Hid (us.length=n))(HXs:Hid (∀u∈us,∀x∈u,∃m:Nat,m<n/\x=(m:Int)))(hn:n<=1048576)(N:Nat)(HN:Hid (∀(sn:List Bool) (W:World) (nx:Nat),unm sn<N->Bs base n to bB tB sB lB sb uv w0 sn W->nx<n->Calls prog 146 #[.int .i64 nx,.pointer (some ⟨tB,0,none⟩),.pointer (some ⟨sB,0,none⟩),.pointer (some ⟨lB,0,none⟩)] W (NxP base n to bB tB sB lB sb uv us w0 sn nx)))
  (sn:List Bool)(W:World)(fr:Nat)(hsn:unm sn<N)(hB:Bs base n to bB tB sB lB sb uv w0 sn W)(hfr:fr<n):
  Calls prog 144 #[.int .i64 fr,.pointer (some ⟨bB,0,none⟩),.pointer (some ⟨tB,0,none⟩),.pointer (some ⟨sB,0,none⟩),.pointer (some ⟨lB,0,none⟩)] W (LeP base n to bB tB sB lB sb uv us w0 sn fr):=by
 obtain⟨uso,ucap,rfl,hul,hur⟩:=HU.out;have hpu:fr<us.length:=by rw[HNn.out];exact hfr
 obtain⟨ug,uo,rv,rfl,hug,huc,rso,rcap,rfl,hrl,hrc⟩:=hur fr hpu;have cb:=hB.bbx.cell;have cr:=(hB.be.cell (p:=⟨ug,uo+fr,none⟩) hug).trans huc;have HUu:Hid (us.getD fr []=us[fr]):=by
  show _=_;rw[List.getD_eq_getElem?_getD,List.getElem?_eq_getElem hpu];rfl
 have HC:=hid (y2x base n to bB tB sB lB sb _ us w0 hn N HN us[fr] rso us[fr].length rcap rfl hrl hrc (hid (HXs.out us[fr] (List.getElem_mem hpu))) sn W hsn hB);obtain⟨u,hu⟩:∃u,u=us[fr]:=⟨_,rfl⟩;rw[<-hu]at HC HUu cr hrl;obtain⟨k,hk⟩:∃k,k=u.length:=⟨_,rfl⟩;rw[<-hk]at HC cr hrl;clear HN hur hrc huc hB hsn hu hk HXs;go_enter func144,ntmps144
 go_wp2_with fail
 refine HC.out.mono ?_;clear HC;rintro e w5 ⟨sn5,v5,⟨rfl,x,hx,hr⟩|⟨rfl,c5,a5⟩⟩
 ·go_wp2_with fail
  go_ret;exact⟨sn5,v5,.inl ⟨rfl,x,by rw[HUu.out];exact hx,hr⟩⟩
 ·go_wp2_with fail
  go_ret;exact⟨sn5,v5,.inr ⟨rfl,c5,by rw[HUu.out];exact a5⟩⟩
theorem z4s(base n to bB tB sB lB sb:Nat)(uv:Value)(us:List (List Int))(w0:World)(HU:Hid (UsM w0 base uv us))(HNn:Hid (us.length=n))(HXs:Hid (∀u∈us,∀x∈u,∃m:Nat,m<n/\x=(m:Int)))(hsb:base<=sb)(hn:n<=1048576):
  ∀(N:Nat) (sn:List Bool) (W:World) (nx:Nat),unm sn<N->Bs base n to bB tB sB lB sb uv w0 sn W->nx<n->Calls prog 146 #[.int .i64 nx,.pointer (some ⟨tB,0,none⟩),.pointer (some ⟨sB,0,none⟩),.pointer (some ⟨lB,0,none⟩)] W (NxP base n to bB tB sB lB sb uv us w0 sn nx)
 |0,sn,W,nx,hN,_,_=>by omega
 |N+1,sn,W,nx,hN,hB,hp=>by
  by_cases e:nx=to
  ·subst e
   refine(y2t nx tB sB lB W hB.tbx).mono fun e w' he=> ?_
   rw[he.2];exact⟨sn,hB,.inl ⟨he.1,.refl⟩⟩
  have hpl:nx<sn.length:=by rw[hB.len];exact hp
  cases hb:sn[nx]with
  |true=>
   have hs:sn[nx]? =some true:=by rw[List.getElem?_eq_getElem hpl,hb]
   refine(y2u nx to n tB sB lB sb W hB.tbx hB.sbx (z2v hB.sbl hs).1 e hp hn).mono fun e' w' he=> ?_
   rw[he.2];exact⟨sn,hB,.inr ⟨he.1,Cb.refl _ _ _,e,hs⟩⟩
  |false=>
   have hs:sn[nx]? =some false:=by rw[List.getElem?_eq_getElem hpl,hb]
   have hum:=Rw sn nx hs;have HC:=hid (z4r base n to bB tB sB lB sb uv us w0 HU HNn HXs hn N (hid (z4s base n to bB tB sB lB sb uv us w0 HU HNn HXs hsb hn N)) (sn.set nx true) (W.setCell ⟨sb,nx,none⟩ (.bool true)) nx (by omega) (hB.mark hsb nx) hp);have c1:=hB.tbx.cell;have c2:=hB.sbx.cell;obtain⟨x1,f1⟩:=z2v hB.sbl hs;have cl:=(hB.mark hsb nx).lbx.cell;have a0:((nx:Int) == (to:Int))=false:=by rw[beq_eq_false_iff_ne];omega
   have HS:=hid hs;have HE:Hid (nx≠to):=e;clear hs hum hB hb e HU HNn HXs;go_enter func146,ntmps146
   go_wp2_with(first
    |(go_at_call 144;refine HC.out.mono ?_;clear HC;rintro e w5 ⟨sn5,v5,⟨rfl,x,hx,hr⟩|⟨rfl,c5,a5⟩⟩))
   ·go_ret
    exact⟨sn5,v5,.inl ⟨rfl,(Rch.refl.step hx).trans hr⟩⟩
   ·go_ret
    obtain⟨q1,q2⟩:=c5.mark HS.out a5;exact⟨sn5,v5,.inr ⟨rfl,q1,HE.out,q2⟩⟩
theorem y2y(uv:Value)(us:List (List Int))(n to:Nat)(w:World)(hU:UsM w w.heap.size uv us)(hN:us.length=n)(hX:∀u∈us,∀x∈u,∃m:Nat,m<n/\x=(m:Int))(hn:n<=1048576)(ha:to<n):
  Calls prog 103 #[uv,.int .i64 to] w fun e w'=>((e=.returned (.bool true)/\Bck us to)∨(e=.returned (.bool false)/\¬Bck us to))/\Below w.heap.size w w':=by
 have hmk:=z9C n hn;have HU:=hid hU;obtain⟨uso,ucap,rfl,hul,hur⟩:=hU;rw[hN]at HU ⊢;clear hur;go_enter func103,ntmps103;obtain⟨W5,hW5⟩:∃W5,W5=((((w.alloc (.cells #[.slice uso n ucap] 124)).alloc (.cells #[.int .i64 to] 3)).alloc (.cells (Array.replicate n (Value.bool false)) 4)).alloc (.cells #[.slice (some ⟨w.heap.size+1+1,0,none⟩) n n] 202)).alloc (.cells #[.func (.func 144) #[] #[.pointer (some ⟨w.heap.size,0,none⟩),.pointer (some ⟨w.heap.size+1,0,none⟩),.pointer (some ⟨w.heap.size+1+1+1,0,none⟩),.pointer (some ⟨w.heap.size+1+1+1+1,0,none⟩)]] 255):=⟨_,rfl⟩;have hV:Bs w.heap.size n to w.heap.size (w.heap.size+1) (w.heap.size+1+1+1) (w.heap.size+1+1+1+1) (w.heap.size+1+1) (.slice uso n ucap) w (List.replicate n false) W5:=by
  rw[hW5];refine⟨?_,?_,?_,?_,?_,?_,List.length_replicate⟩
  ·exact((((Boxed.new w 124 (.slice uso n ucap)).alloc _).alloc _).alloc _).alloc _
  ·have:=(((Boxed.new (w.alloc (.cells #[.slice uso n ucap] 124)) 3 (.int .i64 to)).alloc (.cells (Array.replicate n (Value.bool false)) 4)).alloc (.cells #[.slice (some ⟨w.heap.size+1+1,0,none⟩) n n] 202)).alloc (.cells #[.func (.func 144) #[] #[.pointer (some ⟨w.heap.size,0,none⟩),.pointer (some ⟨w.heap.size+1,0,none⟩),.pointer (some ⟨w.heap.size+1+1+1,0,none⟩),.pointer (some ⟨w.heap.size+1+1+1+1,0,none⟩)]] 255)
   simpa only[World.size_alloc]using this
  ·have:=(Boxed.new (((w.alloc (.cells #[.slice uso n ucap] 124)).alloc (.cells #[.int .i64 to] 3)).alloc (.cells (Array.replicate n (Value.bool false)) 4)) 202 (.slice (some ⟨w.heap.size+1+1,0,none⟩) n n)).alloc (.cells #[.func (.func 144) #[] #[.pointer (some ⟨w.heap.size,0,none⟩),.pointer (some ⟨w.heap.size+1,0,none⟩),.pointer (some ⟨w.heap.size+1+1+1,0,none⟩),.pointer (some ⟨w.heap.size+1+1+1+1,0,none⟩)]] 255)
   simpa only[World.size_alloc]using this
  ·refine(Below.heap_alloc _ _ _ (by simp)).trans ((Below.heap_alloc _ _ _ (by simp)).trans ?_)
   rw[Qx _ _ (by simp)];simp
  ·have:=Boxed.new ((((w.alloc (.cells #[.slice uso n ucap] 124)).alloc (.cells #[.int .i64 to] 3)).alloc (.cells (Array.replicate n (Value.bool false)) 4)).alloc (.cells #[.slice (some ⟨w.heap.size+1+1,0,none⟩) n n] 202)) 255 (.func (.func 144) #[] #[.pointer (some ⟨w.heap.size,0,none⟩),.pointer (some ⟨w.heap.size+1,0,none⟩),.pointer (some ⟨w.heap.size+1+1+1,0,none⟩),.pointer (some ⟨w.heap.size+1+1+1+1,0,none⟩)])
   simpa only[World.size_alloc]using this
  ·exact(((((Below.refl _ w).alloc L0q _).alloc (by simp) _).alloc (by simp;omega) _).alloc (by simp;omega) _).alloc (by simp;omega) _
 have hun:unm (List.replicate n false)=n:=by simp[unm]
 have HC:=hid (z4r w.heap.size n to _ _ _ _ _ _ us w HU hN hX hn (n+1) (hid (z4s w.heap.size n to _ _ _ _ _ _ us w HU hN hX (by omega) hn (n+1))) (List.replicate n false) W5 to (by omega) hV ha);clear hV hun HU hX hN
 go_wp2_with fail
 rw[<-hW5];refine HC.out.mono ?_;clear HC hW5;rintro e w6 ⟨sn6,v6,⟨rfl,hb⟩|⟨rfl,c6,a6⟩⟩
 ·go_wp2_with fail
  go_ret;exact⟨.inl ⟨rfl,hb⟩,v6.be⟩
 ·go_wp2_with fail
  go_ret;exact⟨.inr ⟨rfl,y2s c6 a6⟩,v6.be⟩
end Go.Proofs.YtlogolpcipiceaaGreatDoor
