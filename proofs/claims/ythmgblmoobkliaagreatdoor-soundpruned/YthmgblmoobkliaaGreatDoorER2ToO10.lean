/- Lemmas for the last text. Conditions: those that each names. -/
import Derived.Test.YthmgblmoobkliaaGreatDoorVT22ToEBase
import Derived.RangeFuncNested
import Derived.RangeFuncBound
import Derived.RangeFuncCalls
import Derived.RangeFuncLeaves
import Derived.Shelf.Abstract
import Derived.WalkKit
import Derived.OwnWalkIn
import Derived.TacticsInMore
import Derived.LoopNIn
import Derived.LoopIn
import Derived.Lib.AppendStr
import Derived.RangeFuncBox
import Derived.RangeFuncFrom
set_option linter.unusedVariables false
set_option maxRecDepth 100000
set_option maxHeartbeats 8000000
namespace Go.Proofs.YthmgblmoobkliaaGreatDoor
open Go.Proofs.Tryz
section
open Go.RowKit Go.Shelf
attribute [local go_sem] Oper.semAt_some
section
variable {s0:Nat}
end
section
variable {s0 l N:Nat} {J Jx:List ByteArray->World->Prop} {QT:ByteArray->ByteArray} {CT:Nat->ByteArray}
end
end
section
open Go.RowKit Go.Shelf
attribute [local go_sem] Oper.semAt_some
section
variable {s0 l N:Nat} {J Jx:List ByteArray->World->Prop} {QT:ByteArray->ByteArray} {CT:Nat->ByteArray}
end
end
section
open Go.RowKit Go.Shelf
attribute [local go_sem] Oper.semAt_some
section
variable {s0 l N:Nat} {J Jx:List ByteArray->World->Prop} {QT:ByteArray->ByteArray} {CT:Nat->ByteArray}
end
end
section
open Go.RowKit Go.Shelf
attribute [local go_sem] Oper.semAt_some
section
variable {s0 l N:Nat} {J Jx:List ByteArray->World->Prop}
end
end
open Go.RowKit Go.Shelf
attribute [local go_sem] Oper.semAt_some
theorem Qc.below{w w':World}{B g o:Nat}{s:List RT}(h:Qc w B g o s)(hg:g<B)(hb:Below B w w'):Qc w' B g o s:=h.kept (fun g o u hg hu=>(hb.cell (p:=⟨g,o,none⟩) hg).trans hu) hg s o
section
attribute [local go_sem] Oper.semAt_some
section
variable {s0 l N:Nat} {J Jx:List Nq->World->Prop}
end
end
section
attribute [local go_sem] Oper.semAt_some
section
variable {s0 l N:Nat} {J Jx:List Nq->World->Prop}
end
end
open Go.Maps
attribute [local go_sem] Oper.semAt_some
attribute [local go_sem] Oper.semAt_some
structure Vp (us:List (List Int)) (P:Nat->Prop) (sn:List Bool) (out:List Int) (sn':List Bool) (out':List Int):Prop where
 len:sn'.length=sn.length
 mono:∀i:Nat,sn[i]? =some true->sn'[i]? =some true
 ext:∃news:List Int,out'=out++news/\news.Nodup/\(∀x∈news,∃i:Nat,x=(i:Int)/\sn[i]? =some false/\sn'[i]? =some true/\P i)/\(∀i:Nat,sn[i]? =some false->sn'[i]? =some true->(i:Int)∈news)
def Cw(us:List (List Int))(E:Nat->Prop)(sn sn':List Bool):Prop:=∀i:Nat,sn[i]? =some false->sn'[i]? =some true->¬E i->∀k∈us.getD i [],∃m:Nat,k=(m:Int)/\sn'[m]? =some true
theorem Vp.refl(us:List (List Int))(P:Nat->Prop)(sn:List Bool)(out:List Int):Vp us P sn out sn out:=
 ⟨rfl,fun _ h=>h,[],by simp,List.nodup_nil,fun x h=>by simp at h,fun i h1 h2=>by rw[h1]at h2;cases h2⟩
theorem Cw.refl(us:List (List Int))(E:Nat->Prop)(sn:List Bool):Cw us E sn sn:=fun i h1 h2=>by rw[h1]at h2;cases h2
theorem Vp.weak{us:List (List Int)}{P Q:Nat->Prop}{sn sn':List Bool}{out out':List Int}(h:Vp us P sn out sn' out')(hq:∀i,P i->Q i):Vp us Q sn out sn' out':=by
 obtain⟨h1,h2,news,h3,h4,h5,h6⟩:=h;exact⟨h1,h2,news,h3,h4,fun x hx=>(h5 x hx).imp fun i ⟨a,b,c,d⟩=>⟨a,b,c,hq i d⟩,h6⟩
theorem Cw.weak{us:List (List Int)}{E F:Nat->Prop}{sn sn':List Bool}(h:Cw us E sn sn')(hq:∀i,E i->F i):Cw us F sn sn':=fun i h1 h2 h3=>h i h1 h2 fun e=>h3 (hq i e)
theorem Vp.get{us:List (List Int)}{P:Nat->Prop}{sn sn':List Bool}{out out':List Int}(h:Vp us P sn out sn' out'){i:Nat}{b:Bool}(hi:sn[i]? =some b):sn'[i]? =some true∨sn'[i]? =some false:=by
 have hl:i<sn'.length:=by rw[h.len];exact(List.getElem?_eq_some_iff.1 hi).1
 rw[List.getElem?_eq_getElem hl];cases sn'[i]<;>simp
theorem Vp.trans{us:List (List Int)}{P:Nat->Prop}{s1 s2 s3:List Bool}{o1 o2 o3:List Int}(h:Vp us P s1 o1 s2 o2)(k:Vp us P s2 o2 s3 o3):Vp us P s1 o1 s3 o3:=by
 obtain⟨n1,e1,d1,a1,b1⟩:=h.ext;obtain⟨n2,e2,d2,a2,b2⟩:=k.ext;have back:∀i:Nat,s2[i]? =some false->s1[i]? =some false:=fun i hi=>by
  have hl:i<s1.length:=by rw[<-h.len];exact(List.getElem?_eq_some_iff.1 hi).1
  have e:=List.getElem?_eq_getElem hl;cases hb:s1[i]with
  |false=>rw[e,hb]
  |true=>
   rw[hb]at e;rw[h.mono i e]at hi;cases hi
 refine⟨k.len.trans h.len,fun i hi=>k.mono i (h.mono i hi),n1++n2,by rw[e2,e1,List.append_assoc],?_,fun x hx=> ?_,fun i hi hj=> ?_⟩
 ·refine List.nodup_append.2 ⟨d1,d2,fun x hx y hy e=> ?_⟩
  subst e;obtain⟨i,rfl,_,q2,_⟩:=a1 x hx;obtain⟨j,ej,q3,_,_⟩:=a2 _ hy;have:i=j:=by omega
  subst this;rw[q2]at q3;cases q3
 ·rcases List.mem_append.1 hx with hx|hx
  ·obtain⟨i,q1,q2,q3,q4⟩:=a1 x hx
   exact⟨i,q1,q2,k.mono i q3,q4⟩
  ·obtain⟨i,q1,q2,q3,q4⟩:=a2 x hx
   exact⟨i,q1,back i q2,q3,q4⟩
 ·rcases h.get hi with h2|h2
  ·exact List.mem_append.2 (.inl (b1 i hi h2))
  ·exact List.mem_append.2 (.inr (b2 i h2 hj))
theorem Cw.trans{us:List (List Int)}{P E:Nat->Prop}{s1 s2 s3:List Bool}{o1 o2 o3:List Int}(h:Vp us P s1 o1 s2 o2)(k:Vp us P s2 o2 s3 o3)(c:Cw us E s1 s2)(d:Cw us E s2 s3):Cw us E s1 s3:=fun i h1 h3 hE x hx=>by
 rcases h.get h1 with h2|h2
 ·obtain⟨m,rfl,hm⟩:=c i h1 h2 hE x hx
  exact⟨m,rfl,k.mono m hm⟩
 ·exact d i h2 h3 hE x hx
theorem Vp.mark(us:List (List Int))(sn:List Bool)(out:List Int)(p:Nat)(h:sn[p]? =some false):Vp us (Rch us p) sn out (sn.set p true) (out++[(p:Int)]):=by
 have hp:p<sn.length:=(List.getElem?_eq_some_iff.1 h).1;refine⟨List.length_set,fun i hi=> ?_,[(p:Int)],rfl,by simp,fun x hx=> ?_,fun i h1 h2=> ?_⟩
 ·by_cases e:p=i
  ·subst e;rw[h]at hi;cases hi
  ·rw[List.getElem?_set_ne e];exact hi
 ·obtain rfl:x=(p:Int):=by simpa using hx
  exact⟨p,rfl,h,by rw[List.getElem?_set_self hp],.refl⟩
 ·by_cases e:p=i
  ·subst e;simp
  ·rw[List.getElem?_set_ne e,h1]at h2;cases h2
theorem Cw.mark(us:List (List Int))(sn:List Bool)(p:Nat):Cw us (· =p) sn (sn.set p true):=fun i h1 h2 hE=>by
 rw[List.getElem?_set_ne (fun e=>hE e.symm),h1]at h2;cases h2
structure Vs (base n sB oB uB vB sb:Nat) (uv:Value) (w0:World) (sn:List Bool) (out:List Int) (W:World):Prop where
 sbx:Boxed W sB 48 (.slice (some ⟨sb,0,none⟩) n n)
 sbl:W.heap[sb]? =some (.cells (sn.map Value.bool).toArray 4)
 obx:∃v,Boxed W oB 33 v/\W.ownsRow base 3 1 v out.length (out.map (Value.int .i64))
 ubx:Boxed W uB 30 uv
 vbx:Boxed W vB 182 (.func (.func 106) #[] #[.pointer (some ⟨sB,0,none⟩),.pointer (some ⟨oB,0,none⟩),.pointer (some ⟨uB,0,none⟩),.pointer (some ⟨vB,0,none⟩)])
 be:Below base w0 W
 len:sn.length=n
theorem y4C{W:World}{b base e size k:Nat}{v:Value}{xs:List Value}{y:Array Value}{u:TypeId}(h:W.ownsRow base e size v k xs)(hb:W.heap[b]? =some (.cells y u))(ht:u≠e):some b≠v.ownBlock:=by
 rcases h.2 with⟨rfl,_⟩|⟨g,cap,cur,rfl,_,hgb,_⟩
 ·simp[Value.ownBlock]
 ·intro e'
  obtain rfl:b=g:=by simpa [Value.ownBlock]using e'
  exact(Hq hb hgb ht) rfl
theorem Vs.mark{base n sB oB uB vB sb:Nat}{uv:Value}{w0 W:World}{sn:List Bool}{out:List Int}(h:Vs base n sB oB uB vB sb uv w0 sn out W)(hsb:base<=sb)(p:Nat):Vs base n sB oB uB vB sb uv w0 (sn.set p true) out (W.setCell ⟨sb,p,none⟩ (.bool true)):=by
 have keep:∀{b:Nat} {y:Array Value} {u:TypeId},W.heap[b]? =some (.cells y u)->u≠4->(W.setCell ⟨sb,p,none⟩ (.bool true)).heap[b]? =some (.cells y u):=fun hb hu=>(Below.heap_setCell _ _ _ _ (fun e=>Hq hb h.sbl hu e)).trans hb
 obtain⟨v,hv,hr⟩:=h.obx;refine⟨keep h.sbx (by decide),?_,⟨v,keep hv (by decide),?_⟩,keep h.ubx (by decide),keep h.vbx (by decide),h.be.setCell (p:=⟨sb,p,none⟩) hsb _,by rw[List.length_set,h.len]⟩
 ·rw[Qf h.sbl]
  congr 2;apply Array.ext';simp[List.map_set]
 ·refine⟨hr.1,?_⟩
  rcases hr.2 with h1|⟨g,cap,cur,h1,h2,h3,h4⟩
  ·exact .inl h1
  ·exact .inr ⟨g,cap,cur,h1,h2,keep h3 (by decide),h4⟩
theorem Vs.app{base n sB oB uB vB sb:Nat}{uv:Value}{w0 W w1:World}{sn:List Bool}{out:List Int}(h:Vs base n sB oB uB vB sb uv w0 sn out W)(hw0:base<=w0.heap.size)(hoB:base<=oB){v v':Value}{tmp:Obj}{x:Int}(hv:Boxed W oB 33 v)(hr:W.ownsRow base 3 1 v out.length (out.map (Value.int .i64)))
  (hown:w1.ownsRow base 3 1 v' (out.length+1) (out.map (Value.int .i64)++[.int .i64 x]))(hg:(W.alloc tmp).grownBy w1 v.ownBlock):Vs base n sB oB uB vB sb uv w0 sn (out++[x]) (w1.setCell ⟨oB,0,none⟩ v'):=by
 obtain⟨hv1,hv2,hr2,hko,hbe⟩:=Boxed.appended hv (by decide) hr (Nat.le_trans hw0 h.be.size) hoB hown hg;have keep:∀{b:Nat} {y:Array Value} {u:TypeId},W.heap[b]? =some (.cells y u)->u≠3->u≠33->(w1.setCell ⟨oB,0,none⟩ v').heap[b]? =some (.cells y u):=fun{b y u} hb hu hu2=>by
  have hne:=y4C hr hb hu;have hlt:=(Array.getElem?_eq_some_iff.1 hb).1;have h1:w1.heap[b]? =some (.cells y u):=(hg.block b (by rw[World.size_alloc];omega) hne).trans ((Below.heap_alloc _ _ _ hlt).trans hb);exact(Below.heap_setCell _ _ _ _ (fun e=>Hq h1 hv1 hu2 e)).trans h1
 exact⟨keep h.sbx (by decide) (by decide),keep h.sbl (by decide) (by decide),⟨v',hv2,by rw[List.length_append,List.map_append];exact hr2⟩,keep h.ubx (by decide) (by decide),keep h.vbx (by decide) (by decide),h.be.trans hbe,h.len⟩
theorem y4D(place n:Nat)(sB oB uB vB sb:Nat)(W:World)(h1:Boxed W sB 48 (.slice (some ⟨sb,0,none⟩) n n))(hc:W.cell? ⟨sb,place,none⟩=some (.bool true))(hp:place<n)(hn:n<=1048576):
  Calls prog 106 #[.int .i64 place,.pointer (some ⟨sB,0,none⟩),.pointer (some ⟨oB,0,none⟩),.pointer (some ⟨uB,0,none⟩),.pointer (some ⟨vB,0,none⟩)] W fun e w'=>e=.returned (.tuple #[])/\w'=W:=by
 have c1:=h1.cell;go_enter func106,ntmps106
 go_wp2_with fail
 refine bodyPost_ret (v:=.tuple #[]) (by simp[results,Tryz.results106]) rfl ?_;exact⟨rfl,rfl⟩
theorem z5W(base n sB oB uB vB sb:Nat)(uv:Value)(us:List (List Int))(w0:World)(HU:Hid (UsM w0 base uv us))(HN:Hid (us.length=n))(HX:Hid (∀u∈us,∀x∈u,∃m:Nat,m<n/\x=(m:Int)))(hw0:base<=w0.heap.size)(hsb:base<=sb)(hoB:base<=oB)(hn:n<=1048576):
  ∀(N:Nat) (sn:List Bool) (out:List Int) (W:World) (place:Nat),unm sn<N->out.length+unm sn<=n->Vs base n sB oB uB vB sb uv w0 sn out W->place<n->
  Calls prog 106 #[.int .i64 place,.pointer (some ⟨sB,0,none⟩),.pointer (some ⟨oB,0,none⟩),.pointer (some ⟨uB,0,none⟩),.pointer (some ⟨vB,0,none⟩)] W fun e w'=>e=.returned (.tuple #[])/\∃sn' out',Vs base n sB oB uB vB sb uv w0 sn' out' w'/\Vp us (Rch us place) sn out sn' out'/\Cw us (fun _=>False) sn sn'/\sn'[place]? =some true/\out'.length+unm sn'<=n
 |0,sn,out,W,place,hN,_,_,_=>by omega
 |N+1,sn,out,W,place,hN,hO,hV,hp=>by
  have hpl:place<sn.length:=by rw[hV.len];exact hp
  cases hb:sn[place]with
  |true=>
   have hs:sn[place]? =some true:=by rw[List.getElem?_eq_getElem hpl,hb]
   refine(y4D place n sB oB uB vB sb W hV.sbx (Fy hV.sbl hs).1 hp hn).mono fun e w' he=> ?_
   rw[he.2];exact⟨he.1,sn,out,hV,Vp.refl _ _ _ _,Cw.refl _ _ _,hs,hO⟩
  |false=>
   have hs:sn[place]? =some false:=by rw[List.getElem?_eq_getElem hpl,hb]
   obtain⟨i0,hi0,hz0,hz1,hz2⟩:=info_parts Tryz.infoInt;have hV1:=hV.mark hsb place;have hum:=Hz sn place hs;obtain⟨v,hv,hrow⟩:=hV1.obx;obtain⟨x1,f1⟩:=Fy hV.sbl hs;have c1:=hV.sbx.cell;have c2:=hv.cell;have HV1:=hid hV1;have hol:out.length<1048576:=by omega
   have HS:=hid hs;have HO:Hid (out.length+unm sn<=n):=hO;have HM:Hid (unm (sn.set place true)<unm sn):=hum;have HNN:Hid (unm sn<N+1):=hN;have hbs:base<=(W.setCell ⟨sb,place,none⟩ (.bool true)).heap.size:=Nat.le_trans hw0 hV1.be.size;have HBS:Hid (base<=(W.setCell ⟨sb,place,none⟩ (.bool true)).heap.size):=hbs;obtain⟨uso,ucap,rfl,hul,hur⟩:=HU.out;have hpu:place<us.length:=by rw[HN.out];exact hp
   obtain⟨ug,uo,rv,rfl,hug,huc,rso,rcap,rfl,hrl,hrc⟩:=hur place hpu;have HRC:=hid hrc;have HUC:=hid huc;have hcn:∀j u,[Value.int .i64 place][j]? =some u->((W.setCell ⟨sb,place,none⟩ (.bool true)).alloc (.cells #[.int .i64 place] 3)).cell? ((⟨W.heap.size,0,none⟩:Addr).add j)=some u:=by
    have h:=cell_one_new (W.setCell ⟨sb,place,none⟩ (.bool true)) (.int .i64 place) 3;rw[show(W.setCell ⟨sb,place,none⟩ (.bool true)).heap.size=W.heap.size by simp]at h;exact h
   have HCN:=hid hcn;clear hV hV1 hb hs hO hum hN hur hul hrc huc hbs hcn;go_enter func106,ntmps106
   go_wp2_with(first
    |(at_builtin;refine wpList_append_own _ rfl _ _ 33 rfl base 3 i0 (.int .i64 0) 1 8 Tryz.underlying33 hi0 hz0 hz1 hz2 rfl (by decide) _ _ _ rfl (hrow.alloc _) ⟨W.heap.size,0,none⟩ 1 1 [.int .i64 place] rfl rfl HCN.out (by simp[Value.oneCell']) (by unfold maxLen;omega) (by omega) (by rw[World.size_alloc];have:=HBS.out;omega) ?_;intro v' w1 hown' hgrow _;obtain⟨g',cap',rfl⟩:=ownsRow_succ hown';have hV2:=HV1.out.app hw0 hoB hv hrow hown' hgrow;obtain⟨hv1,_⟩:=Boxed.appended hv (by decide) hrow HBS.out hoB hown' hgrow;have cv1:=hv1.cell;have fv1:=hv1.frozen;have cu:=hV2.ubx.cell;have cr:=(hV2.be.cell (p:=⟨ug,uo+place,none⟩) hug).trans HUC.out))
   obtain⟨W2,hW2⟩:∃W2,W2=w1.setCell ⟨oB,0,none⟩ (.slice (some ⟨g',0,none⟩) (out.length+1) cap'):=⟨_,rfl⟩;rw[<-hW2]at hV2 ⊢;obtain⟨u,hu⟩:∃u,u=us[place]:=⟨_,rfl⟩;rw[<-hu]at hrl ⊢;have HRC2:Hid (∀j (hj:j<u.length),∃g o,rso=some ⟨g,o,none⟩/\g<base/\w0.cell? ⟨g,o+j,none⟩=some (.int .i64 u[j])):=by subst hu;exact HRC.out
   have HUu:Hid (us.getD place []=u):=by
    show _=_;rw[hu,List.getD_eq_getElem?_getD,List.getElem?_eq_getElem hpu];rfl
   have HXu:Hid (∀x∈u,∃m:Nat,m<n/\x=(m:Int)):=fun x hx=>HX.out us[place] (List.getElem_mem hpu) x (by rw[<-hu];exact hx)
   obtain⟨k,hk⟩:∃k,k=u.length:=⟨_,rfl⟩;rw[<-hk]at hrl ⊢;have HKu:Hid (k=u.length):=hk;have HV2:=hid hV2;clear hW2 hu hk hV2 hown' hgrow hv hrow c1 c2 x1 f1 cv1 fv1 cu cr hv1 HRC HUC HCN
   go_loopw [24] (fun i wr=>∃j:Nat,i=.int .i64 j/\j<=k/\Hid (∃snj outj,Vs base n sB oB uB vB sb (.slice (some ⟨ug,uo,none⟩) us.length ucap) w0 snj outj wr/\Vp us (Rch us place) sn out snj outj/\Cw us (· =place) sn snj/\snj[place]? =some true/\outj.length+unm snj<=n/\∀i (hi:i<u.length),i<j->∃m:Nat,u[i]=(m:Int)/\snj[m]? =some true)) (fun i _=>k-(intOf i).toNat)
   case atStart=>
    refine⟨0,rfl,Nat.zero_le _,sn.set place true,out++[(place:Int)],HV2.out,Vp.mark us sn out place HS.out,Cw.mark us sn place,List.getElem?_set_self hpl,?_,fun i hi h0=>by omega⟩;have h1:=HO.out;have h2:=HM.out;rw[List.length_append];simp only[List.length_cons,List.length_nil];omega
   case round=>
    obtain⟨j,rfl,hj,HJ⟩:=hrel;by_cases hjn:j<k
    ·have hjI:(j:Int)<(k:Int):=by omega
     have a0:decide ((j:Int)<(k:Int))=true:=by simp;omega
     have hju:j<u.length:=by rw[<-HKu.out];exact hjn
     obtain⟨snj,outj,vj,pj,cj,mj,lj,aj⟩:=HJ.out;obtain⟨rg,ro,rfl,hrg,hrcell⟩:=HRC2.out j hju;have cr:=(vj.be.cell (p:=⟨rg,ro+j,none⟩) hrg).trans hrcell;have hgl:rg<wr.heap.size:=World.block_lt_of_cell? wr _ cr;obtain⟨nx,hnx,enx⟩:=HXu.out u[j] (List.getElem_mem hju);rw[enx]at cr;have cvs:=vj.vbx.cell;have hlt:unm snj<N:=by
      have h1:=Tj (sn.set place true) snj (by rw[List.length_set];exact pj.len) (fun i hi=>by
       by_cases e:place=i
       ·subst e;exact mj
       ·rw[List.getElem?_set_ne e]at hi;exact pj.mono i hi)
      have h2:=HM.out;have h3:=HNN.out;omega
     have HC:=hid (z5W base n sB oB uB vB sb _ us w0 HU HN HX hw0 hsb hoB hn N snj outj wr nx hlt lj vj hnx);have HP:=hid pj;have HCj:=hid cj;have HA:=hid aj;have HE:Hid (u[j]=(nx:Int)):=enx;clear vj pj cj aj hrcell enx hlt HJ
     go_wp2_with(first
      |(go_at_call 106;refine HC.out.mono ?_;clear HC;rintro e w5 ⟨rfl,sn5,out5,v5,p5,c5,m5,l5⟩))
     have hst:Rch us place nx:=Rch.refl.step (by rw[HUu.out,<-HE.out];exact List.getElem_mem hju);have p6:=p5.weak (Q:=Rch us place) (fun i hi=>hst.trans hi);refine⟨⟨j+1,by go_num,by omega,sn5,out5,v5,HP.out.trans p6,Cw.trans HP.out p6 HCj.out (c5.weak (fun i h=>h.elim)),p5.mono _ mj,l5,fun i hi hij=> ?_⟩,by simp[intOf];omega⟩;by_cases e:i=j
     ·subst e
      exact⟨nx,HE.out,m5⟩
     ·obtain⟨m,h1,h2⟩:=HA.out i hi (by omega)
      exact⟨m,h1,p5.mono m h2⟩
    ·have a0:decide ((j:Int)<(k:Int))=false:=by simp;omega
     go_wp2_with fail
     go_end0
     obtain⟨snj,outj,vj,pj,cj,mj,lj,aj⟩:=HJ.out;refine⟨rfl,snj,outj,vj,pj,fun i h1 h2 _ x hx=> ?_,mj,lj⟩;by_cases e:i=place
     ·subst e
      rw[HUu.out]at hx;obtain⟨q,hq,rfl⟩:=List.getElem_of_mem hx;exact aj q hq (by have:=HKu.out;omega)
     ·exact cj i h1 h2 e x hx
end Go.Proofs.YthmgblmoobkliaaGreatDoor
