/- Lemmas for the last text. Conditions: those that each names. -/
import Derived.Test.YtlogolpcipiceaaGreatDoorVR5ToP9
import Derived.Lib.AppendStr
import Derived.RangeFuncBox
import Derived.RangeFuncFrom
set_option linter.unusedVariables false
set_option maxRecDepth 100000
set_option maxHeartbeats 8000000
namespace Go.Proofs.YtlogolpcipiceaaGreatDoor
open Go.Proofs.Tryz
open Go.RowKit Go.Shelf
variable {m o:Int} {W:World} {s s0:Nat} {v:Value}
attribute [local go_sem] Oper.semAt_some
theorem z8z{F:Fence}(hd:F.depth=none)(k:Nat):F.room k:=fun d h=>by rw[hd]at h;cases h
theorem z8A{F:Fence}(hd:F.depth=none){m m':Nat}{P:Program}{l:Nat}{f:FuncId}{tmps:Array Value}{assign Qg:Code}{w:World}{R:Ending->World->Prop}
 (h:RoundIn F m P l f tmps assign Qg w R):RoundIn F m' P l f tmps assign Qg w R:=⟨h.1,fun c cs _=>h.2 c cs (z8z hd _)⟩
theorem Py{F:Fence}(hd:F.depth=none){m:Nat}(m':Nat){P:Program}{l:Nat}{args:Array Value}{R:Ending->World->Prop}(h:YieldAt F m P l args W R):YieldAt F m' P l args W R:=by
 obtain⟨fn,tmps,assign,Qg,hy,hR⟩:=h;exact⟨fn,tmps,assign,Qg,hy,z8A hd hR⟩
abbrev Pz:={T:ByteArray//T.size<=4096}
def Zj(q:List Pz):List ByteArray:=q.map Subtype.val
theorem Ug(a b:List Pz):Zj (a++b)=Zj a++Zj b:=List.map_append
theorem Kt.book(W:World)(l:Nat)(o o':Obj)(hl:s0<=l)(h:W.heap[l]? =some o)(hc:o.isCells=false):Kt s0 W (W.putObj l o'):=by
 have hne:∀j cur t fr,W.heap[j]? =some (.cells cur t fr)->j≠l:=fun j cur t fr hj e=>by
  subst e;rw[h]at hj;cases hj;cases hc
 refine⟨by simp[World.putObj],fun j cur t _ hj=>World.putObj_heap_other (hne j cur t _ hj),fun j v hv=> ?_,fun j hj o ho=>(World.putObj_heap_other (by omega)).trans ho⟩;have hj:5≠l:=fun e=>by
  subst e;unfold World.cell? at hv;rw[h]at hv;cases o<;>simp_all[Obj.isCells]
 have:(W.putObj l o').heap[5]? =W.heap[5]? :=World.putObj_heap_other hj;unfold World.cell? at hv ⊢;rw[this];exact hv
theorem z8B{rs:List Rl}(hx:∀x∈rs,Ruk Nmq x)(m Bt n cap:Nat)(so:Option Addr)(w:World)(hb:w.heap[Bt]? =some (.cells #[.slice so n cap] 24))(hr:RgV s0 w so n rs)(hT:TabIs w):
  SeqStopsK Fence.wide m prog 294 #[.pointer (some ⟨Bt,0,none⟩)] (fun x:Pz=>#[Value.string x.1]) (Kt s0) (fun ys=>Zj ys=pR qT cT rs) (fun pre=>Zj pre<+:pR qT cT rs) (pR qT cT rs).length w:=by
 intro l J Jx W hW hJ hJx hY h0;have hk:=Kt.below (s0:=s0) hW;have yl:Yl s0 l (pR qT cT rs).length (fun ps W=>∃q:List Pz,Zj q=ps/\J q W) (fun ps W=>∃q:List Pz,Zj q=ps/\Jx q W):=by
  refine⟨fun s A B ⟨q,e,h⟩ hg=>⟨q,e,hJ q A B none h hg (fun r e=>by cases e)⟩,fun m' pre x W1 ⟨q,e,h⟩ hl hz=> ?_⟩;have hq:q.length=pre.length:=by rw[<-e];simp[Zj]
  refine YieldAt.mono (Py rfl m' (hY q ⟨x,hz⟩ W1 h (by omega))) fun e' W' hh=> ?_
  rcases hh with⟨h1,h2,h3⟩|⟨h1,h2⟩
  ·exact .inl ⟨h1,⟨_,by rw[Ug,e];rfl,h2⟩,h3⟩
  ·exact .inr ⟨h1,⟨_,by rw[Ug,e];rfl,h2⟩⟩
 refine(z8y yl hx m Bt n cap so W (hk.gram hb) (hk.rules hr) (hk.tab hT) ⟨[],rfl,h0⟩ L0q).mono fun e W' h=> ?_
 refine⟨h.1,?_⟩;rcases h.2 with⟨q,e1,e2⟩|⟨q,hq,⟨p,e1,e2⟩⟩
 ·exact .inl ⟨q,e1,e2⟩
 ·exact .inr ⟨p,by show Zj p<+:_;rw[e1];exact hq,e2⟩
theorem z8C(m:Nat)(sv:Value)(so:Option Addr)(sl sc:Nat)(w:World):CallsIn Fence.wide m prog 286 #[.agg #[.slice so sl sc]] w fun e w'=>e=.returned (.func (.func 294) #[] #[.pointer (some ⟨w.heap.size,0,none⟩)])/\w'=w.alloc (.cells #[.slice so sl sc] 24):=by
 refine callsIn_of_wp func286 rfl trivial ?_ rfl;simp only[ntmps286,List.size_toArray,List.length_cons,List.length_nil,Nat.reduceAdd,Nat.reduceSub,Array.replicate_succ,Array.replicate_zero,List.push_toArray,List.append_toArray,List.nil_append,List.cons_append]
 gi_wp2
 go_ret;exact⟨rfl,rfl⟩
theorem z8D{F:Fence}{n:Nat}{P:Program}(w:World){ops:Array Oper}{rest:List Oper}{o:Oper}{a:Act}{Q:Exit->Act->World->Prop}(hg:o.guard=none)(sl x:Operand)(t u:TypeId)
  (hop:o.op=.call {callee:=.builtin .append,args:=#[sl,x],argTypes:=#[t,u]})
  (base:Nat)(e:TypeId)(i:TypeInfo)(ht:P.underlying t=some (.slice e))(hu:P.underlying u=some .string)(hi:P.info? e=some i)(hz:i.zero=some (.int .u8 0))
  (hsize:i.size=1)(hby:i.bytes=1)
  (v:Value)(k:Nat)(xs:List Value)(hs:a.eval sl=v)(hown:w.ownsRow base e 1 v k xs)(s:ByteArray)(hx:a.eval x=.string s)
  (h63:k+s.size<=maxLen)(hbytes:k+s.size<=140737488355328)(hbase:base<=w.heap.size)
  (hK:∀v' w',w'.ownsRow base e 1 v' (k+s.size) (xs++Lib.strCells s)->w.grownBy w' v.ownBlock->wpListIn F n P ops Q rest (a.put o.dst v') w'):wpListIn F n P ops Q (o::rest) a w:=by
 refine wpListIn_plain hg fun K hK'=> ?_
 obtain⟨v',w',hrun,r1,r2,r3⟩:=Lib.run_append_own_string (P:=P) w base t u o.type e i ht hu hi hz hsize hby v k xs hown s h63 hbytes hbase;unfold Oper.wpIn;refine⟨?_,?_⟩
 ·simp[Oper.about,hop,resolve,Target.leads,Sem.run_pure]
 ·rw[Oper.semAt_plain F _ _ (by rw[hop];intro c hc';cases hc')]
  simp[execOp,hop,resolve,invoke,builtin,hs,hx,hrun,Result.andThen];exact hK' _ _ (hK v' w' r1 r2)
theorem z8E(a b:ByteArray):Lib.strCells (a++b)=Lib.strCells a++Lib.strCells b:=by
 unfold Lib.strCells;simp
theorem Kt.put{B:Nat}{t:TypeId}(h:Boxed W B t v)(v':Value)(h1:¬(t=71∨t=73∨t=24))(hg:5<B)(hs0:s0<=B):Kt s0 W (W.setCell ⟨B,0,none⟩ v'):=by
 refine⟨(KeepsWalks.setCell W _ v').size,fun j cur u hu hj=>Below.heap_setCell _ _ _ j (fun e=> ?_),fun j u hv=>(((Below.refl B W).setCell (p:=⟨B,0,none⟩) L0q v').cell (p:=⟨5,j,none⟩) hg).trans hv,fun j hj o ho=>(Below.heap_setCell _ _ _ j (fun e=>by have e:j=B:=e;omega)).trans ho⟩;rw[e,show W.heap[B]? =_ from h]at hj;cases hj;exact h1 hu
theorem Kt.grown{W W1:World}{base k:Nat}{v:Value}{xs:List Value}(hr:W.ownsRow base 5 1 v k xs)(hg:W.grownBy W1 v.ownBlock)(hb:5<base)(hs:base<=W.heap.size):Kt base W W1:=by
 have hB:Below base W W1:=(Below.refl base W).grown hg hs (fun j ej=>by
  rcases hr.2 with⟨rfl,_⟩|⟨g,cap,cur,rfl,h,_,_⟩
  ·simp[Value.ownBlock]at ej
  ·obtain rfl:g=j:=by simpa [Value.ownBlock]using ej
   exact h)
 refine⟨hB.size,fun j cur u hu hj=>hg.block j (Array.getElem?_eq_some_iff.1 hj).1 (fun e=> ?_),fun j u hv=>(hB.cell (p:=⟨5,j,none⟩) hb).trans hv,fun j hj o ho=>(hB.block j hj).trans ho⟩;rcases hr.2 with⟨rfl,_⟩|⟨g,cap,cur',rfl,_,hgb,_⟩
 ·simp[Value.ownBlock]at e
 ·obtain rfl:j=g:=by simpa [Value.ownBlock]using e
  rw[hgb]at hj;cases hj;rcases hu with h|h|h<;>exact absurd h (by decide)
theorem Yh{base e size k:Nat}{xs:List Value}(h:W.ownsRow base e size v k xs):∃so sc,v=.slice so k sc:=by
 rcases h.2 with⟨rfl,rfl⟩|⟨g,cap,cur,rfl,_⟩
 ·exact⟨_,_,rfl⟩
 ·exact⟨_,_,rfl⟩
theorem Vd{X Y:World}{row:Option Nat}{B:Nat}{t:TypeId}(h:Boxed X B t v)(hg:X.grownBy Y row)(hr:∀r,row=some r->∃o:Obj,X.heap[r]? =some o/\o.isCells=false):Boxed Y B t v:=
 boxed_own (β:=Unit) B t (fun _=>v) () X Y row h hg hr
theorem z1V{a:ByteArray}{l:List UInt8}(h:(a.toList == l)=true):a={data:=⟨l⟩}:=Classical.byContradiction fun hn=>by rw[Jw hn]at h;cases h
theorem Pf{a:ByteArray}{l:List UInt8}(h:(a.toList == l)=false):a≠{data:=⟨l⟩}:=fun e=>by
 subst e;rw[ByteArray.toList_eq]at h;simp at h
theorem z8F{w:World}{base n:Nat}{T:ByteArray}(h:w.ownsRow base 5 1 v n (Lib.strCells T)):(convert 48 9 v).run prog w=.ok (.string T) w:=by
 have e:Lib.strCells T=nv (T.data.toList.map UInt8.toNat):=by
  unfold Lib.strCells nv;rw[List.map_map];rfl
 rw[e]at h;rw[Ap h (fun x hx=>by
  obtain⟨y,_,rfl⟩:=List.mem_map.1 hx;exact y.toNat_lt)]
 congr 2;apply ByteArray.ext;unfold nb;rw[List.map_map,show(UInt8.ofNat ∘ UInt8.toNat)=id from funext fun x=>by simp,List.map_id]
def Jc(rs:List Rl):Value:=if 8192<sz (pR qT cT rs)then .tuple #[.string ⟨#[]⟩,.iface 36 (.int .i64 2)]else if 24<dR rs then .tuple #[.string ⟨#[]⟩,.iface 36 (.int .i64 20)]else .tuple #[.string (cat (pR qT cT rs)),.nilIface]
theorem Pg{rs:List Rl}(h:8192<sz (pR qT cT rs)):Jc rs=.tuple #[.string ⟨#[]⟩,.iface 36 (.int .i64 2)]:=if_pos h
theorem Pb{rs:List Rl}(h:sz (pR qT cT rs)<=8192)(h2:24<dR rs):Jc rs=.tuple #[.string ⟨#[]⟩,.iface 36 (.int .i64 20)]:=(if_neg (by omega)).trans (if_pos h2)
theorem Mk{rs:List Rl}(h:sz (pR qT cT rs)<=8192)(h2:dR rs<=24):Jc rs=.tuple #[.string (cat (pR qT cT rs)),.nilIface]:=(if_neg (by omega)).trans (if_neg (by omega))
theorem z1W:∀{A B:List ByteArray},A<+:B->sz A<=sz B
 |[],B,_=>Nat.zero_le _
 |a::A,B,h=>by
  obtain⟨t,rfl⟩:=h;have:=z1W (A:=A) (B:=A++t) ⟨t,rfl⟩;rw[List.cons_append,sz,sz];omega
structure Tm (s:Nat) (ps:List ByteArray) (o m:Int) (W:World):Prop where
 out:∃v,Boxed W (s+1+1+1) 48 v/\W.ownsRow s 5 1 v (sz ps) (Lib.strCells (cat ps))/\True
 op:Boxed W (s+1+1+1+1) 3 (.int .i64 o)
 mo:Boxed W (s+1+1+1+1+1) 3 (.int .i64 m)
 rs:Boxed W (s+1) 9 (.string ⟨#[]⟩)
 re:Boxed W (s+1+1) 33 .nilIface
structure Txs (s:Nat) (ps:List ByteArray) (W:World):Prop where
 tm:Tm s ps (cz ps (0,0)).1 (cz ps (0,0)).2 W
 le:sz ps<=8192
structure Txz (s:Nat) (ps:List ByteArray) (c:Code) (W:World):Prop where
 ret:c=.ret
 rs:Boxed W (s+1) 9 (.string ⟨#[]⟩)
 re:Boxed W (s+1+1) 33 (.iface 36 (.int .i64 2))
 gt:8192<sz ps
structure Rn (s:Nat) (W:World) (ps:List ByteArray) (o m:Int) (W':World):Prop where
 tm:Tm s ps o m W'
 ko:KeepsOthers W W'
 kt:Kt s W W'
 be:Below s W W'
theorem z8G(ps:List ByteArray)(x:ByteArray):cat (ps++[x])=cat ps++x:=by
 induction ps with
 |nil=>apply ByteArray.ext;simp[cat]
 |cons p r ih=>rw[List.cons_append,cat,cat,ih,ByteArray.append_assoc]
theorem Mv(ps:List ByteArray)(x:ByteArray):sz (ps++[x])=sz ps+x.size:=by
 induction ps with
 |nil=>simp[sz]
 |cons p r ih=>rw[List.cons_append,sz,sz,ih];omega
theorem Tm.start{ps:List ByteArray}{x:ByteArray}{w1:World}{v':Value}(t:Tm s ps o m W)(hv:Boxed W (s+1+1+1) 48 v)(hrow:W.ownsRow s 5 1 v (sz ps) (Lib.strCells (cat ps)))(hown:w1.ownsRow s 5 1 v' (sz ps+x.size) (Lib.strCells (cat ps)++Lib.strCells x))(hgrow:W.grownBy w1 v.ownBlock)(hg:5<s)(hs:s<=W.heap.size):Rn s W (ps++[x]) o m (w1.setCell ⟨s+1+1+1,0,none⟩ v'):=by
 have hv1:=hv.kept hgrow (hv.not_row (by decide) hrow);have hB:Below s W w1:=(Below.refl s W).grown hgrow hs (fun j ej=>by
  rcases hrow.2 with⟨rfl,_⟩|⟨g,cap,cur,rfl,h,_,_⟩
  ·simp[Value.ownBlock]at ej
  ·obtain rfl:g=j:=by simpa [Value.ownBlock]using ej
   exact h)
 refine⟨⟨⟨v',hv1.set v',?_,trivial⟩,(t.op.kept hgrow (t.op.not_row (by decide) hrow)).other (by omega) _,(t.mo.kept hgrow (t.mo.not_row (by decide) hrow)).other (by omega) _,(t.rs.kept hgrow (t.rs.not_row (by decide) hrow)).other (by omega) _,(t.re.kept hgrow (t.re.not_row (by decide) hrow)).other (by omega) _⟩,?_,(Kt.grown hrow hgrow hg hs).trans (Kt.put hv1 v' (by decide) (by omega) (by omega)),hB.setCell (p:=⟨s+1+1+1,0,none⟩) (by show s<=s+1+1+1;omega) v'⟩
 ·rw[Mv,z8G,z8E]
  exact hown.kept (grownBy_setCell' w1 _ v') (.inr (hv1.not_row (by decide) hown).symm)
 ·refine(KeepsOthers.of_grownBy hgrow fun j o ej hj=> ?_).trans (KeepsOthers.setCell _ _ _)
  rcases hrow.2 with⟨rfl,_⟩|⟨g,cap,cur,rfl,_,hgb,_⟩
  ·simp[Value.ownBlock]at ej
  ·obtain rfl:g=j:=by simpa [Value.ownBlock]using ej
   rw[hgb]at hj;cases hj;rfl
theorem Rn.setOp{ps:List ByteArray}{W':World}(h:Rn s W ps o m W')(o':Int)(hg:5<s):Rn s W ps o' m (W'.setCell ⟨s+1+1+1+1,0,none⟩ (.int .i64 o')):=by
 obtain⟨⟨⟨v,hv,hr,_⟩,op,mo,rs,re⟩,ko,kt,be⟩:=h;exact⟨⟨⟨v,hv.other (by omega) _,hr.kept (grownBy_setCell' _ _ _) (.inr (op.not_row (by decide) hr).symm),trivial⟩,op.set _,mo.other (by omega) _,rs.other (by omega) _,re.other (by omega) _⟩,ko.trans (KeepsOthers.setCell _ _ _),kt.trans (Kt.put op _ (by decide) (by omega) (by omega)),be.setCell (p:=⟨s+1+1+1+1,0,none⟩) (by show s<=s+1+1+1+1;omega) _⟩
theorem Rn.setMo{ps:List ByteArray}{W':World}(h:Rn s W ps o m W')(m':Int)(hg:5<s):Rn s W ps o m' (W'.setCell ⟨s+1+1+1+1+1,0,none⟩ (.int .i64 m')):=by
 obtain⟨⟨⟨v,hv,hr,_⟩,op,mo,rs,re⟩,ko,kt,be⟩:=h;exact⟨⟨⟨v,hv.other (by omega) _,hr.kept (grownBy_setCell' _ _ _) (.inr (mo.not_row (by decide) hr).symm),trivial⟩,op.other (by omega) _,mo.set _,rs.other (by omega) _,re.other (by omega) _⟩,ko.trans (KeepsOthers.setCell _ _ _),kt.trans (Kt.put mo _ (by decide) (by omega) (by omega)),be.setCell (p:=⟨s+1+1+1+1+1,0,none⟩) (by show s<=s+1+1+1+1+1;omega) _⟩
theorem z8H(s:Nat):Own (fun(pre:List Pz) W=>Txs s (Zj pre) W):=by
 intro pre A B row h hg hr;exact⟨⟨holdsRow_own s (s+1+1+1) 48 5 1 (fun p:List Pz=>sz (Zj p)) (fun p=>Lib.strCells (cat (Zj p))) (fun _ _=>True) pre A B row h.tm.out hg hr,Vd h.tm.op hg hr,Vd h.tm.mo hg hr,Vd h.tm.rs hg hr,Vd h.tm.re hg hr⟩,h.le⟩
theorem z8I(s:Nat)(c:Code):Own (fun(pre:List Pz) W=>Txz s (Zj pre) c W):=by
 intro pre A B row h hg hr;exact⟨h.ret,Vd h.rs hg hr,Vd h.re hg hr,h.gt⟩
theorem z8J{rs:List Rl}(hx:∀x∈rs,Ruk Nmq x)(n cap:Nat)(so:Option Addr)(W:World)(hr:RgV W.heap.size W so n rs)(hT:TabIs W):
  Calls prog 271 #[.agg #[.slice so n cap]] W fun e W'=>e=.returned (Jc rs)/\Below W.heap.size W W':=by
 refine(callsIn_wide (n:=5)).1 ?_;have hdd:=Xy;refine callsIn_of_wp_marks func271 rfl trivial ?_ rfl;simp only[ntmps271,List.size_toArray,List.length_cons,List.length_nil,Nat.reduceAdd,Nat.reduceSub,Array.replicate_succ,Array.replicate_zero,List.push_toArray,List.append_toArray,List.nil_append,List.cons_append]
 gi_wp2_with (refine⟨trivial,?_⟩;gi_at_call 286;refine(z8C _ (.slice none 0 0) _ _ _ _).mono ?_;rintro e w' ⟨rfl,rfl⟩)
 have hB0:Below W.heap.size W (((((((W.alloc (.cells #[.slice so n cap] 24)).alloc (.cells #[.string ⟨#[]⟩] 9)).alloc (.cells #[.nilIface] 33)).alloc (.cells #[.slice none 0 0] 48)).alloc (.cells #[.int .i64 0] 3)).alloc (.cells #[.int .i64 0] 3)).alloc (.cells #[.slice so n cap] 24)):=
  (((((((Below.refl _ W).alloc L0q _).alloc (by simp) _).alloc (by simp;omega) _).alloc (by simp;omega) _).alloc (by simp;omega) _).alloc (by simp;omega) _).alloc (by simp;omega) _
 have b1:=Boxed.new (W.alloc (.cells #[.slice so n cap] 24)) 9 (.string ⟨#[]⟩);have b2:=Boxed.new ((W.alloc (.cells #[.slice so n cap] 24)).alloc (.cells #[.string ⟨#[]⟩] 9)) 33 .nilIface;have b3:=Boxed.new (((W.alloc (.cells #[.slice so n cap] 24)).alloc (.cells #[.string ⟨#[]⟩] 9)).alloc (.cells #[.nilIface] 33)) 48 (.slice none 0 0);have b4:=Boxed.new ((((W.alloc (.cells #[.slice so n cap] 24)).alloc (.cells #[.string ⟨#[]⟩] 9)).alloc (.cells #[.nilIface] 33)).alloc (.cells #[.slice none 0 0] 48)) 3 (.int .i64 0);have b5:=Boxed.new (((((W.alloc (.cells #[.slice so n cap] 24)).alloc (.cells #[.string ⟨#[]⟩] 9)).alloc (.cells #[.nilIface] 33)).alloc (.cells #[.slice none 0 0] 48)).alloc (.cells #[.int .i64 0] 3)) 3 (.int .i64 0);have b6:=Boxed.new ((((((W.alloc (.cells #[.slice so n cap] 24)).alloc (.cells #[.string ⟨#[]⟩] 9)).alloc (.cells #[.nilIface] 33)).alloc (.cells #[.slice none 0 0] 48)).alloc (.cells #[.int .i64 0] 3)).alloc (.cells #[.int .i64 0] 3)) 24 (.slice so n cap);simp only[World.size_alloc]at b1 b2 b3 b4 b5 b6;have hk0:=Kt.below (s0:=W.heap.size) hB0;have hTg:5<W.heap.size:=hT.lt;obtain⟨i0,hi0,hz0,hz1,hz2⟩:=info_parts Tryz.infoByte;refine wpIn_rangeFunc_ownF rfl (by omega) (gf:=294) (lb:=#[.pointer (some ⟨W.heap.size+1+1+1+1+1+1,0,none⟩)]) rfl trivial (enters_of func294 (by kernel_rfl) rfl)
  (z8B hx _ _ n cap so _ b6 (hk0.rules hr) (hk0.tab hT)) Kt.trans (fun W' l o o' h1 h2 h3 h4=>Kt.book W' l o o' (Nat.le_trans hB0.size h1) h2 h3) B0q (fun _=>rfl)
  (fun pre W'=>Txs W.heap.size (Zj pre) W'/\Below W.heap.size W W')
  (fun c pre W'=>Txz W.heap.size (Zj pre) c W'/\Below W.heap.size W W')
  (OwnFrom.and (Own.from (z8H _) _) (ownFrom_below L0q (by simp;omega)))
  (fun c=>OwnFrom.and (Own.from (z8I _ c) _) (ownFrom_below L0q (by simp;omega)))
  ⟨⟨⟨⟨_,((b3.alloc _).alloc _).alloc _,World.ownsRow_nil _ _ _ _,trivial⟩,(b4.alloc _).alloc _,b5.alloc _,((((b1.alloc _).alloc _).alloc _).alloc _).alloc _,(((b2.alloc _).alloc _).alloc _).alloc _⟩,by decide⟩,hB0⟩
  (fun x=>{tmps:=#[.agg #[.slice so n cap],.pointer (some ⟨W.heap.size,0,none⟩),.pointer (some ⟨W.heap.size+1,0,none⟩),.pointer (some ⟨W.heap.size+1+1,0,none⟩),.pointer (some ⟨W.heap.size+1+1+1,0,none⟩),.pointer (some ⟨W.heap.size+1+1+1+1,0,none⟩),.pointer (some ⟨W.heap.size+1+1+1+1+1,0,none⟩),.string x.1,.agg #[.slice so n cap],.func (.func 294) #[] #[.pointer (some ⟨W.heap.size+1+1+1+1+1+1,0,none⟩)],.string x.1,undef,undef,undef,undef,undef,undef,undef,undef,undef,undef,undef,undef,undef,undef,undef,undef,undef,undef,undef,undef,undef,undef,undef,undef],defers:=[]}) ?assign ?Qg ?done ?stop
 case assign=>
  intro l x W K hK
  gi_wp2
  exact hK
 case Qg=>
  rintro l pre x W2 ⟨⟨tx,hle⟩,hB⟩ hlt;obtain⟨v,hv,hrow,_⟩:=tx.out;have hc3:=hv.cell;have hxz:=x.2;have hcz:=Cd (Zj pre) (0,0) (by decide)
  gi_wp2_with (gi_at_builtin;refine z8D _ rfl _ _ 48 9 rfl W.heap.size 5 i0 Tryz.underlying48 Tryz.underlying9 hi0 hz0 hz1 hz2 v _ _ rfl hrow x.1 rfl (by unfold maxLen;omega) (by omega) hB.size ?_;intro v' w1 hown' hgrow;obtain⟨so,sc,rfl⟩:=Yh hown';have RN:=Tm.start tx hv hrow hown' hgrow hTg hB.size;have hv1:=hv.kept hgrow (hv.not_row (by decide) hrow);have hc1:=hv1.cell;have hf1:=hv1.frozen;have c4:=(tx.op.kept hgrow (tx.op.not_row (by decide) hrow)).cell;have f4:=(tx.op.kept hgrow (tx.op.not_row (by decide) hrow)).frozen;have c5:=(tx.mo.kept hgrow (tx.mo.not_row (by decide) hrow)).cell;have f5:=(tx.mo.kept hgrow (tx.mo.not_row (by decide) hrow)).frozen;have c2:=(tx.re.kept hgrow (tx.re.not_row (by decide) hrow)).cell;have f2:=(tx.re.kept hgrow (tx.re.not_row (by decide) hrow)).frozen;have c1:=(tx.rs.kept hgrow (tx.rs.not_row (by decide) hrow)).cell;have f1:=(tx.rs.kept hgrow (tx.rs.not_row (by decide) hrow)).frozen)
  ·rename_i hgt
   refine⟨(RN.ko.trans (KeepsOthers.setCell _ _ _)).trans (KeepsOthers.setCell _ _ _),⟨rfl,(RN.tm.rs.set _).other (by omega) _,(RN.tm.re.other (by omega) _).set _,?_⟩,((hB.trans RN.be).setCell (p:=⟨W.heap.size+1,0,none⟩) (by simp) _).setCell (p:=⟨W.heap.size+1+1,0,none⟩) (by show W.heap.size<=_+1+1;omega) _⟩;rw[Ug];show 8192<sz (Zj pre++[x.1]);rw[Mv];omega
  ·rename_i hle2 h40
   have e40:x.1=bO:=z1V h40;have e1:cz (Zj (pre++[x])) (0,0)=((cz (Zj pre) (0,0)).1+1,max (cz (Zj pre) (0,0)).2 ((cz (Zj pre) (0,0)).1+1)):=by
    rw[Ug];exact(Pw _ _ _).trans (if_pos e40)
   have R2:=(RN.setOp ((cz (Zj pre) (0,0)).1+1) hTg).setMo (max (cz (Zj pre) (0,0)).2 ((cz (Zj pre) (0,0)).1+1)) hTg;exact⟨R2.ko,R2.kt,⟨by rw[e1,Ug];exact R2.tm,by rw[Ug];show sz (Zj pre++[x.1])<=8192;rw[Mv];omega⟩,hB.trans R2.be⟩
  ·rename_i hle2 h40 h41
   have e40:x.1≠bO:=Pf h40;have e41:x.1=bC:=z1V h41;have e1:cz (Zj (pre++[x])) (0,0)=((cz (Zj pre) (0,0)).1-1,(cz (Zj pre) (0,0)).2):=by
    rw[Ug];exact(Pw _ _ _).trans ((if_neg e40).trans (if_pos e41))
   have R2:=RN.setOp ((cz (Zj pre) (0,0)).1-1) hTg;exact⟨R2.ko,R2.kt,⟨by rw[e1,Ug];exact R2.tm,by rw[Ug];show sz (Zj pre++[x.1])<=8192;rw[Mv];omega⟩,hB.trans R2.be⟩
  ·rename_i hle2 h40 h41
   have e40:x.1≠bO:=Pf h40;have e41:x.1≠bC:=Pf h41;have e1:cz (Zj (pre++[x])) (0,0)=cz (Zj pre) (0,0):=by
    rw[Ug];exact(Pw _ _ _).trans ((if_neg e40).trans (if_neg e41))
   exact⟨RN.ko,RN.kt,⟨by rw[e1,Ug];exact RN.tm,by rw[Ug];show sz (Zj pre++[x.1])<=8192;rw[Mv];omega⟩,hB.trans RN.be⟩
 case done=>
  rintro D ys W2 hD hys ⟨⟨tx,hle⟩,hB⟩ hK;rw[hys]at tx hle;obtain⟨v,hv,hrow,_⟩:=tx.out;have hc3:=hv.cell;have c1:=tx.rs.cell;have f1:=tx.rs.frozen;have c2:=tx.re.cell;have f2:=tx.re.frozen;have c5:=tx.mo.cell;have cv:=z8F hrow;have hmo:(cz (pR qT cT rs) (0,0)).2=(dR rs:Int):=by
   rw[z1U z1K rs (fun x hx'=>hx x hx') 0 (by decide)];show max (0:Int) (dR rs:Int)=_;omega
  rw[hmo]at c5
  gi_wp2
  ·rename_i h24
   have hdp:24<dR rs:=by omega
   rw[Pb hle hdp];have hK':=((KeepsOthers.setCell W2 ⟨W.heap.size+1,0,none⟩ (.string ⟨#[]⟩)).trans (KeepsOthers.setCell _ ⟨W.heap.size+1+1,0,none⟩ (.iface 36 (.int .i64 20)))).same D _ hK rfl;refine⟨by simp,.inl ⟨_,_,rfl,run_takeDeferred hK',?_⟩⟩;have hg:=grownBy_putObj' ((W2.setCell ⟨W.heap.size+1,0,none⟩ (.string ⟨#[]⟩)).setCell ⟨W.heap.size+1+1,0,none⟩ (.iface 36 (.int .i64 20))) D (.deferred none);have d1:=(Vd ((tx.rs.set (.string ⟨#[]⟩)).other (B':=W.heap.size+1+1) (by omega) (.iface 36 (.int .i64 20))) hg (fun r e=>by cases e;exact⟨_,hK',rfl⟩)).cell;have d2:=(Vd ((tx.re.other (B':=W.heap.size+1) (by omega) (.string ⟨#[]⟩)).set (.iface 36 (.int .i64 20))) hg (fun r e=>by cases e;exact⟨_,hK',rfl⟩)).cell;refine⟨.tuple #[.string ⟨#[]⟩,.iface 36 (.int .i64 20)],?_,rfl,((hB.setCell (p:=⟨W.heap.size+1,0,none⟩) (by simp) _).setCell (p:=⟨W.heap.size+1+1,0,none⟩) (by show W.heap.size<=_+1+1;omega) _).trans (belowK_b (w:=W) L0q _ D _ _ (by simp at hD;omega) hK' rfl rfl)⟩;simp[results,Tryz.f271,go_sem,d1,d2]
  ·rename_i h24
   have hdp:dR rs<=24:=by omega
   rw[Mk hle hdp];have hK':=((KeepsOthers.setCell W2 ⟨W.heap.size+1,0,none⟩ (.string (cat (pR qT cT rs)))).trans (KeepsOthers.setCell _ ⟨W.heap.size+1+1,0,none⟩ .nilIface)).same D _ hK rfl;refine⟨by simp,.inl ⟨_,_,rfl,run_takeDeferred hK',?_⟩⟩;have hg:=grownBy_putObj' ((W2.setCell ⟨W.heap.size+1,0,none⟩ (.string (cat (pR qT cT rs)))).setCell ⟨W.heap.size+1+1,0,none⟩ .nilIface) D (.deferred none);have d1:=(Vd ((tx.rs.set (.string (cat (pR qT cT rs)))).other (B':=W.heap.size+1+1) (by omega) .nilIface) hg (fun r e=>by cases e;exact⟨_,hK',rfl⟩)).cell;have d2:=(Vd ((tx.re.other (B':=W.heap.size+1) (by omega) (.string (cat (pR qT cT rs)))).set .nilIface) hg (fun r e=>by cases e;exact⟨_,hK',rfl⟩)).cell;refine⟨.tuple #[.string (cat (pR qT cT rs)),.nilIface],?_,rfl,((hB.setCell (p:=⟨W.heap.size+1,0,none⟩) (by simp) _).setCell (p:=⟨W.heap.size+1+1,0,none⟩) (by show W.heap.size<=_+1+1;omega) _).trans (belowK_b (w:=W) L0q _ D _ _ (by simp at hD;omega) hK' rfl rfl)⟩;simp[results,Tryz.f271,go_sem,d1,d2]
 case stop=>
  rintro D c pre W2 hD hpre ⟨⟨rfl,bs,be,hgt⟩,hB⟩ hK;have hlong:8192<sz (pR qT cT rs):=Nat.lt_of_lt_of_le hgt (z1W hpre)
  gi_wp2
  rw[Pg hlong];refine⟨by simp,.inl ⟨_,_,rfl,run_takeDeferred hK,?_⟩⟩;have hg:=grownBy_putObj' W2 D (.deferred none);have d1:=(Vd bs hg (fun r e=>by cases e;exact⟨_,hK,rfl⟩)).cell;have d2:=(Vd be hg (fun r e=>by cases e;exact⟨_,hK,rfl⟩)).cell;refine⟨.tuple #[.string ⟨#[]⟩,.iface 36 (.int .i64 2)],?_,rfl,hB.trans (belowK_b (w:=W) L0q _ D _ _ (by simp at hD;omega) hK rfl rfl)⟩;simp[results,Tryz.f271,go_sem,d1,d2]
end Go.Proofs.YtlogolpcipiceaaGreatDoor
