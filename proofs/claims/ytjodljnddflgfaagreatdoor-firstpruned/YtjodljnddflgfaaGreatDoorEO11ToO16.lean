/- Lemmas for the last text. Conditions: those that each names. -/
import Derived.Test.YtjodljnddflgfaaGreatDoorEO8ToO10
import Derived.Laws.EntriesVeiled
import Derived.Test.YtjodljnddflgfaaGreatDoorVFIToFBase
set_option linter.unusedVariables false
set_option maxRecDepth 100000
set_option maxHeartbeats 8000000
namespace Go.Proofs.YtjodljnddflgfaaGreatDoor
open Go.Proofs.Tryz
open Go.RowKit Go.Shelf Go.Maps
variable {a:Nat} {x:Int} {y:Rr}
theorem y5c{us:List (List Int)}{n:Nat}{sn:List Bool}{out:List Int}(hp:Ty us (Rch us a) (List.replicate n false) [] sn out)(hc:y3T us (fun _=>False) (List.replicate n false) sn)(ha:sn[a]? =some true):
  out.Nodup/\(∀x∈out,∃i:Nat,x=(i:Int)/\Rch us a i/\i<n)/\(∀i:Nat,Rch us a i->(i:Int)∈out):=by
 obtain⟨news,e,hd,h1,h2⟩:=hp.ext;rw[List.nil_append]at e;subst e;have hl:∀i:Nat,sn[i]? =some true->(List.replicate n false)[i]? =some false:=fun i hi=>by
  have:i<n:=by
   have:=(List.getElem?_eq_some_iff.1 hi).1;rw[hp.len,List.length_replicate]at this;exact this
  rw[List.getElem?_replicate,if_pos this]
 refine⟨hd,fun x hx=> ?_,fun i hi=> ?_⟩
 ·obtain⟨i,q1,q2,q3,q4⟩:=h1 x hx
  refine⟨i,q1,q4,?_⟩;have:=(List.getElem?_eq_some_iff.1 q2).1;rw[List.length_replicate]at this;exact this
 ·have hm:sn[i]? =some true:=by
   induction hi with
   |refl=>exact ha
   |step hb hmem ih=>
    obtain⟨m,em,hm⟩:=hc _ (hl _ ih) ih (fun h=>h) _ hmem;rename_i b c;have:c=m:=by omega
    subst this;exact hm
  exact h2 i (hl i hm) hm
def y3W(us:List (List Int))(a:Nat)(L:List Int):Prop:=L.Pairwise (· < ·)/\∀x:Int,x∈L↔∃i:Nat,x=(i:Int)/\Rch us a i
theorem y3Y(L:List Int):(srt L).Perm L:=List.mergeSort_perm L _
theorem y5d(L:List Int):(srt L).Pairwise (· <= ·):=by
 have h:=List.pairwise_mergeSort (le:=fun x y:Int=>decide (x<=y)) (fun a b c h1 h2=>by simp at h1 h2 ⊢;omega) (fun a b=>by simp;omega) L;exact h.imp (fun h=>by simpa using h)
theorem y5e{L:List Int}(h:L.Nodup):(srt L).Pairwise (· < ·):=by
 have h1:=y5d L;have h2:(srt L).Nodup:=(y3Y L).nodup_iff.2 h;exact(h1.and h2).imp fun⟨a,b⟩=>by omega
theorem y5f{us:List (List Int)}{out:List Int}(h1:out.Nodup)(h2:∀x∈out,∃i:Nat,x=(i:Int)/\Rch us a i)(h3:∀i:Nat,Rch us a i->(i:Int)∈out):y3W us a (srt out):=
 ⟨y5e h1,fun x=>⟨fun hx=>h2 x ((y3Y out).mem_iff.1 hx),fun⟨i,e,hi⟩=>by rw[e];exact(y3Y out).mem_iff.2 (h3 i hi)⟩⟩
theorem Tryz.infoBool:(Tryz.prog.info? 4).map (fun i=>(i.zero,i.size,i.bytes))=some (some (.bool false),1,1):=by kernel_rfl
theorem y5g(n:Nat)(hn:n<=1048576)(W:World):(Instr.makeSlice 215 (.int .i64 n) (.int .i64 n)).run prog W=.ok (.slice (some ⟨W.heap.size,0,none⟩) n n) (W.alloc (.cells (Array.replicate n (Value.bool false)) 4)):=by
 obtain⟨i0,hi0,hz0,hz1,hz2⟩:=info_parts Tryz.infoBool;rw[run_make W 215 4 i0 (.bool false) Tryz.underlying215 hi0 hz0 .i64 .i64 n n (by omega) (by omega) (by rw[hz2];omega) (by omega),hz1,y4r _ rfl];simp
theorem y5h(uv:Value)(us:List (List Int))(n a:Nat)(w:World)(hU:UsM w w.heap.size uv us)(hN:us.length=n)(hX:∀u∈us,∀x∈u,∃m:Nat,m<n/\x=(m:Int))(hn:n<=1048576)(ha:a<n):
  Calls prog 82 #[uv,.int .i64 a] w fun e w'=>∃v L,e=.returned v/\y3W us a L/\L.length<=n/\w'.ownsRow w.heap.size 3 1 v L.length (L.map (Value.int .i64))/\Below w.heap.size w w':=by
 have hmk:=y5g n hn;have HU:=hid hU;obtain⟨uso,ucap,rfl,hul,hur⟩:=hU;rw[hN]at HU ⊢;clear hur;go_enter func82,ntmps82;obtain⟨W5,hW5⟩:∃W5,W5=((((w.alloc (.cells #[.slice uso n ucap] 151)).alloc (.cells #[.slice none 0 0] 99)).alloc (.cells (Array.replicate n (Value.bool false)) 4)).alloc (.cells #[.slice (some ⟨w.heap.size+1+1,0,none⟩) n n] 215)).alloc (.cells #[.func (.func 121) #[] #[.pointer (some ⟨w.heap.size+1+1+1,0,none⟩),.pointer (some ⟨w.heap.size+1,0,none⟩),.pointer (some ⟨w.heap.size,0,none⟩),.pointer (some ⟨w.heap.size+1+1+1+1,0,none⟩)]] 216):=⟨_,rfl⟩;have hV:Vs w.heap.size n (w.heap.size+1+1+1) (w.heap.size+1) w.heap.size (w.heap.size+1+1+1+1) (w.heap.size+1+1) (.slice uso n ucap) w (List.replicate n false) [] W5:=by
  rw[hW5];refine⟨?_,?_,⟨.slice none 0 0,?_,World.ownsRow_nil _ _ _ _⟩,?_,?_,?_,List.length_replicate⟩
  ·have:=(Boxed.new (((w.alloc (.cells #[.slice uso n ucap] 151)).alloc (.cells #[.slice none 0 0] 99)).alloc (.cells (Array.replicate n (Value.bool false)) 4)) 215 (.slice (some ⟨w.heap.size+1+1,0,none⟩) n n)).alloc (.cells #[.func (.func 121) #[] #[.pointer (some ⟨w.heap.size+1+1+1,0,none⟩),.pointer (some ⟨w.heap.size+1,0,none⟩),.pointer (some ⟨w.heap.size,0,none⟩),.pointer (some ⟨w.heap.size+1+1+1+1,0,none⟩)]] 216)
   simpa only[World.size_alloc]using this
  ·refine(Below.heap_alloc _ _ _ (by simp)).trans ((Below.heap_alloc _ _ _ (by simp)).trans ?_)
   rw[Qx _ _ (by simp)];simp
  ·have:=(((Boxed.new (w.alloc (.cells #[.slice uso n ucap] 151)) 99 (.slice none 0 0)).alloc (.cells (Array.replicate n (Value.bool false)) 4)).alloc (.cells #[.slice (some ⟨w.heap.size+1+1,0,none⟩) n n] 215)).alloc (.cells #[.func (.func 121) #[] #[.pointer (some ⟨w.heap.size+1+1+1,0,none⟩),.pointer (some ⟨w.heap.size+1,0,none⟩),.pointer (some ⟨w.heap.size,0,none⟩),.pointer (some ⟨w.heap.size+1+1+1+1,0,none⟩)]] 216)
   simpa only[World.size_alloc]using this
  ·exact((((Boxed.new w 151 (.slice uso n ucap)).alloc _).alloc _).alloc _).alloc _
  ·have:=Boxed.new ((((w.alloc (.cells #[.slice uso n ucap] 151)).alloc (.cells #[.slice none 0 0] 99)).alloc (.cells (Array.replicate n (Value.bool false)) 4)).alloc (.cells #[.slice (some ⟨w.heap.size+1+1,0,none⟩) n n] 215)) 216 (.func (.func 121) #[] #[.pointer (some ⟨w.heap.size+1+1+1,0,none⟩),.pointer (some ⟨w.heap.size+1,0,none⟩),.pointer (some ⟨w.heap.size,0,none⟩),.pointer (some ⟨w.heap.size+1+1+1+1,0,none⟩)])
   simpa only[World.size_alloc]using this
  ·exact(((((Below.refl _ w).alloc L0q _).alloc (by simp) _).alloc (by simp;omega) _).alloc (by simp;omega) _).alloc (by simp;omega) _
 have hun:unm (List.replicate n false)=n:=by simp[unm]
 have HC:=hid (y4w w.heap.size n _ _ _ _ _ _ us w HU hN hX L0q (by omega) (by omega) hn (n+1) (List.replicate n false) [] W5 a (by omega) (by simp[hun]) hV ha);have HNn:Hid (us.length=n):=hN;clear hV hun HU hX hN
 go_wp2_with fail
 rw[<-hW5];refine HC.out.mono ?_;rintro e w6 ⟨rfl,sn6,out6,v6,p6,c6,m6,l6⟩;obtain⟨q1,q2,q3⟩:=y5c p6 c6 m6;have HL:=hid (y5f q1 (fun x hx=>(q2 x hx).imp fun i h=>⟨h.1,h.2.1⟩) q3);obtain⟨v,hv,hr⟩:=v6.obx;have hol:out6.length<=1048576:=by omega
 have HOL:Hid (out6.length<=n):=by show _<=_;omega
 have HS:=hid (y4n hr hol);obtain⟨kz,hkz⟩:∃kz,kz=out6.length:=⟨_,rfl⟩;rw[<-hkz]at hr HS;obtain⟨so,sc,rfl⟩:=z9h hr;have cv:=hv.cell;have HKZ:Hid (kz=out6.length):=hkz;have HRow:=hid hr;have HV:=hid hv;have HBe:=hid v6.be;clear HC p6 c6 m6 l6 q1 q2 q3 v6 hkz hr hv hW5
 go_wp2_with fail
 refine HS.out.mono ?_;rintro e w7 ⟨rfl,hr7,hg7⟩;have hv7:=HV.out.kept hg7 (HV.out.not_row (by decide) HRow.out);have cv7:=hv7.cell;have k7:=y4d HRow.out hg7 HBe.out.size;have HR7:=hid hr7;have HB7:=hid (HBe.out.trans k7.2);clear HS cv hr7 hg7 hv7 k7
 go_wp2_with fail
 go_ret;refine⟨_,srt out6,rfl,HL.out,by rw[y3X];exact HOL.out,?_,HB7.out⟩;rw[y3X,<-HKZ.out];exact HR7.out
attribute [local go_sem] Oper.semAt_some
theorem y4x{W:World}{s:Nat}{v:Value}{u:List Int}(h:W.ownsRow s 3 1 v u.length (u.map (Value.int .i64)))(hl:u.length<=1048576):y4u W W.heap.size v u:=by
 rcases h.2 with⟨rfl,h0⟩|⟨g,cap,cur,rfl,h1,h2,h3,h4,h5,h6⟩
 ·cases u with
  |nil=>exact⟨none,0,rfl,hl,fun j hj=>by simp at hj⟩
  |cons _ _=>simp at h0
 ·refine⟨_,cap,rfl,hl,fun j hj=>⟨g,0,rfl,(Array.getElem?_eq_some_iff.1 h2).1,?_⟩⟩
  refine(Zj h2 (0+j) _ ?_).1;have e:(cur.toList.take (u.length*1))[j]? =(u.map (Value.int .i64))[j]? :=by rw[h6]
  rw[List.getElem?_take_of_lt (by omega)]at e;rw[Nat.zero_add,<-Array.getElem?_toList,e];simp[hj]
theorem y5i{w:World}{ub n:Nat}{vs:List Value}{us:List (List Int)}{W:World}(h:y3U w ub n vs us W)(hn:vs.length=n)(hl:∀u∈us,u.length<=1048576)(hn2:n<=1048576):UsM W W.heap.size (.slice (some ⟨ub,0,none⟩) n n) us:=by
 have hu:us.length=n:=by rw[<-h.len];exact hn
 refine⟨_,n,by rw[hu],by omega,fun i hi=>⟨ub,0,vs[i]'(by rw[h.len];exact hi),rfl,Qz h.blk,?_,y4x (h.row i (by rw[h.len];exact hi) hi) (hl _ (List.getElem_mem hi))⟩⟩;refine(Zj h.blk (0+i) _ ?_).1;have hv:i<vs.length:=by rw[h.len];exact hi
 rw[Nat.zero_add,List.getElem?_toArray,List.getElem?_append_left hv,List.getElem?_eq_getElem hv]
theorem y4y{zs:List Int}(h:x∈Lib.compact zs):x∈zs:=by
 unfold Lib.compact Lib.compactUpTo at h;obtain⟨i,hi,rfl⟩:=List.mem_map.1 h;have hi2:i<zs.length:=List.mem_range.1 (List.mem_filter.1 hi).1;rw[getElem!_pos _ i (by simpa using hi2)];simp
theorem y4f{l:List ByteArray}(hl:1<=l.length)(h:x∈usR l y):∃m:Nat,m<l.length/\x=(m:Int):=by
 have h1:x∈ixL l (rfT y.2.1):=(y3Y _).mem_iff.1 (y4y h);obtain⟨q,_,rfl⟩:=List.mem_map.1 h1;refine⟨ixV l q.1,?_,rfl⟩;unfold ixV;cases hin:inN q.1 l with
 |true=>exact y4c _ _ hin
 |false=>exact hl
theorem y5j{l:List ByteArray}:(usR l y).length<=(rfT y.2.1).length:=by
 unfold usR;refine Nat.le_trans (y4m _) ?_;rw[y3X,y4o];exact Nat.le_refl _
theorem y5k(so:Option Addr)(n cap:Nat)(rs:List Rr)(X:Option (Int ⊕ (Int×Int)))(W:World)(hX:X≠none)(HC:Hid (CkC so n cap rs X W)):
  Calls prog 81 #[.agg #[.slice so n cap]] W fun e w'=>∃v,e=.returned (.tuple #[.slice none 0 0,v])/\Zd X W.heap.size w' v/\Below W.heap.size W w':=by
 have HB1:Hid (Below W.heap.size W (W.alloc (.cells #[.slice so n cap] 24))):=(Below.refl _ W).alloc L0q _;have HX:=hid hX;clear hX;go_enter func81,ntmps81
 go_wp2_with fail
 refine(HC.out _ HB1.out).mono ?_;rintro e w1 ⟨m,v,rfl,h1,-,h5,h2⟩;have H3:=hid (HB1.out.trans (h2.mono HB1.out.size));have H4:=hid (h1.lo (S':=W.heap.size) HB1.out.size);obtain⟨t,u,rfl⟩:=h1.shape HX.out;obtain rfl:=h5 HX.out;clear HC HB1 h1 h2 h5
 go_wp2_with fail
 refine bodyPost_ret (v:=.tuple #[.slice none 0 0,.iface t u]) (by simp[results,Tryz.results81,go_sem]) rfl ?_;exact⟨_,rfl,H4.out,H3.out⟩
theorem y5l(so:Option Addr)(n cap:Nat)(rs:List Rr)(X:Option (Int ⊕ (Int×Int)))(B:Nat)(W:World)(hX:CkX rs X)(HC:CkC so n cap rs X W)(h:Qh W B so n rs)(hB:B<=W.heap.size)(hz:RgZ rs)(hTg:1<W.heap.size):
  Calls prog 81 #[.agg #[.slice so n cap]] W fun e w'=>∃uv v,e=.returned (.tuple #[uv,v])/\Zd X W.heap.size w' v/\Below W.heap.size W w'/\(X≠none->uv=.slice none 0 0)/\(X=none->∃ub vs,uv=.slice (some ⟨ub,0,none⟩) n n/\vs.length=n/\y3U W ub n vs (rs.map (usR (nmL rs))) w'):=by
 cases X with
 |some q=>
  refine(y5k so n cap rs (some q) W (fun h=>by cases h) (hid HC)).mono fun e w' he=> ?_
  obtain⟨v,h1,h2,h3⟩:=he;exact⟨_,v,h1,h2,h3,fun _=>rfl,fun h=>by cases h⟩
 |none=>
  obtain⟨hk,hc,hl⟩:=hX;have hlen:=Dx hk;have hn:=h.1;refine(y4Z so n cap rs W (h.upto hB) hTg (hid hz) (hid fun x hx=>Nat.le_trans (hl x hx) (by omega)) (by omega) (hid fun W' hW'=>(HC W' hW').mono fun e w' he=> ?_)).mono fun e w' he=> ?_
  ·obtain⟨m,v,h1,h2,h3,_,h5⟩:=he
   obtain⟨M,rfl,h6,h7⟩:=h3 rfl;obtain rfl:v=.nilIface:=h2;exact⟨M,h1,h6,h7,h5⟩
  ·obtain⟨ub,vs,h1,h2,h3⟩:=he
   exact⟨_,_,h1,rfl,h3.be,fun h=>absurd rfl h,fun _=>⟨ub,vs,rfl,h2,h3⟩⟩
theorem y5m(so:Option Addr)(n cap:Nat)(X:Option (Int ⊕ (Int×Int)))(a:Int)(W:World)(hX:X≠none)
  (HC:Hid (∀W':World,Below W.heap.size W W'->Calls prog 81 #[.agg #[.slice so n cap]] W' fun e w'=>∃v,e=.returned (.tuple #[.slice none 0 0,v])/\Zd X W'.heap.size w' v/\Below W'.heap.size W' w')):
  Calls prog 47 #[.agg #[.slice so n cap],.int .i64 a] W fun e w'=>∃v,e=.returned (.tuple #[.slice none 0 0,v])/\Zd X W.heap.size w' v/\Below W.heap.size W w':=by
 have HB1:Hid (Below W.heap.size W (W.alloc (.cells #[.slice so n cap] 24))):=(Below.refl _ W).alloc L0q _;have HB0:Hid (Below W.heap.size W W):=Below.refl _ W;have HX:=hid hX;clear hX;go_enter func47,ntmps47
 go_wp2_with fail
 first
  |(refine(HC.out _ HB1.out).mono ?_;rintro e w1 ⟨v,rfl,h1,h2⟩;have H3:=hid (HB1.out.trans (h2.mono HB1.out.size));have H4:=hid (h1.lo (S':=W.heap.size) HB1.out.size))
  |(refine(HC.out _ HB0.out).mono ?_;rintro e w1 ⟨v,rfl,h1,h2⟩;have H3:=hid h2;have H4:=hid h1)
 obtain⟨t,u,rfl⟩:=h1.shape HX.out;clear HC HB1 HB0 h1 h2
 go_wp2_with fail
 refine bodyPost_ret (v:=.tuple #[.slice none 0 0,.iface t u]) (by simp[results,Tryz.results47,go_sem]) rfl ?_;exact⟨_,rfl,H4.out,H3.out⟩
theorem y5n(so:Option Addr)(n cap:Nat)(us:List (List Int))(a:Int)(W:World)(hn:n<=1048576)(ha:a<0∨(n:Int)<=a)
  (HC:Hid (∀W':World,Below W.heap.size W W'->Calls prog 81 #[.agg #[.slice so n cap]] W' fun e w'=>∃ub vs,e=.returned (.tuple #[.slice (some ⟨ub,0,none⟩) n n,.nilIface])/\vs.length=n/\y3U W' ub n vs us w')):
  Calls prog 47 #[.agg #[.slice so n cap],.int .i64 a] W fun e w'=>e=.returned (.tuple #[.slice none 0 0,.iface 43 (.int .i64 1)])/\Below W.heap.size W w':=by
 have HB1:Hid (Below W.heap.size W (W.alloc (.cells #[.slice so n cap] 24))):=(Below.refl _ W).alloc L0q _;have HB0:Hid (Below W.heap.size W W):=Below.refl _ W;rcases Int.lt_or_le a 0 with h0|h0
 ·have a0:decide (a<0)=true:=by simp;omega
  go_enter func47,ntmps47
  go_wp2_with fail
  first
   |(refine(HC.out _ HB1.out).mono ?_;rintro e w1 ⟨ub,vs,rfl,h1,h2⟩;have H3:=hid (HB1.out.trans (h2.be.mono HB1.out.size)))
   |(refine(HC.out _ HB0.out).mono ?_;rintro e w1 ⟨ub,vs,rfl,h1,h2⟩;have H3:=hid h2.be)
  clear HC HB1 HB0 h1 h2
  go_wp2_with fail
  refine bodyPost_ret (v:=.tuple #[.slice none 0 0,.iface 43 (.int .i64 1)]) (by simp[results,Tryz.results47,go_sem]) rfl ?_;exact⟨rfl,H3.out⟩
 ·have a0:decide (a<0)=false:=by simp;omega
  have a1:decide ((n:Int)<=a)=true:=by simp;omega
  go_enter func47,ntmps47
  go_wp2_with fail
  first
   |(refine(HC.out _ HB1.out).mono ?_;rintro e w1 ⟨ub,vs,rfl,h1,h2⟩;have H3:=hid (HB1.out.trans (h2.be.mono HB1.out.size)))
   |(refine(HC.out _ HB0.out).mono ?_;rintro e w1 ⟨ub,vs,rfl,h1,h2⟩;have H3:=hid h2.be)
  clear HC HB1 HB0 h1 h2
  go_wp2_with fail
  refine bodyPost_ret (v:=.tuple #[.slice none 0 0,.iface 43 (.int .i64 1)]) (by simp[results,Tryz.results47,go_sem]) rfl ?_;exact⟨rfl,H3.out⟩
theorem y5o(so:Option Addr)(n cap:Nat)(us:List (List Int))(a:Nat)(W:World)(hn:n<=1048576)(ha:a<n)(HN:Hid (us.length=n))(HX:Hid (∀u∈us,∀x∈u,∃m:Nat,m<n/\x=(m:Int)))(HL:Hid (∀u∈us,u.length<=1048576))
  (HC:Hid (∀W':World,Below W.heap.size W W'->Calls prog 81 #[.agg #[.slice so n cap]] W' fun e w'=>∃ub vs,e=.returned (.tuple #[.slice (some ⟨ub,0,none⟩) n n,.nilIface])/\vs.length=n/\y3U W' ub n vs us w')):
  Calls prog 47 #[.agg #[.slice so n cap],.int .i64 a] W fun e w'=>∃v L,e=.returned (.tuple #[v,.nilIface])/\y3W us a L/\L.length<=n/\w'.ownsRow W.heap.size 3 1 v L.length (L.map (Value.int .i64))/\Below W.heap.size W w':=by
 have HB1:Hid (Below W.heap.size W (W.alloc (.cells #[.slice so n cap] 24))):=(Below.refl _ W).alloc L0q _;have HB0:Hid (Below W.heap.size W W):=Below.refl _ W;have a0:decide ((a:Int)<0)=false:=by simp
 have a1:decide ((n:Int)<=(a:Int))=false:=by simp;omega
 go_enter func47,ntmps47
 go_wp2_with fail
 first
  |(refine(HC.out _ HB1.out).mono ?_;rintro e w1 ⟨ub,vs,rfl,h1,h2⟩;have H3:=hid (HB1.out.trans (h2.be.mono HB1.out.size)))
  |(refine(HC.out _ HB0.out).mono ?_;rintro e w1 ⟨ub,vs,rfl,h1,h2⟩;have H3:=hid h2.be)
 have HR:=hid (y5h _ us n a w1 (y5i h2 h1 HL.out hn) HN.out HX.out hn ha);clear HC HB1 HB0 h1 h2
 go_wp2_with fail
 refine HR.out.mono ?_;rintro e w2 ⟨v2,L,rfl,g1,g2,g3,g4⟩;have H5:=hid (H3.out.trans (g4.mono H3.out.size));have H6:=hid (y4q g3 H3.out.size);have H7:=hid g1;obtain⟨so2,sc2,rfl⟩:=z9h g3;clear HR g1 g3 g4
 go_wp2_with fail
 refine bodyPost_ret (v:=.tuple #[.slice so2 L.length sc2,.nilIface]) (by simp[results,Tryz.results47,go_sem]) rfl ?_;exact⟨_,L,rfl,H7.out,g2,H6.out,H5.out⟩
def ReP(rs:List Rr)(X:Option (Int ⊕ (Int×Int)))(a:Int)(W:World)(e:Ending)(w':World):Prop:=Below W.heap.size W w'/\
 ((X≠none/\∃v,e=.returned (.tuple #[.slice none 0 0,v])/\Zd X W.heap.size w' v)∨
  (X=none/\(a<0∨(rs.length:Int)<=a)/\e=.returned (.tuple #[.slice none 0 0,.iface 43 (.int .i64 1)]))∨
  (X=none/\∃(k:Nat) (v:Value) (L:List Int),a=(k:Int)/\k<rs.length/\e=.returned (.tuple #[v,.nilIface])/\y3W (rs.map (usR (nmL rs))) k L/\L.length<=rs.length/\w'.ownsRow W.heap.size 3 1 v L.length (L.map (Value.int .i64))))
theorem y5p(so:Option Addr)(n cap:Nat)(rs:List Rr)(X:Option (Int ⊕ (Int×Int)))(B:Nat)(a:Int)(W:World)(hX:CkX rs X)(HC:CkC so n cap rs X W)(h:Qh W B so n rs)(hB:B<=W.heap.size)(hz:RgZ rs)(hTg:1<W.heap.size):
  Calls prog 47 #[.agg #[.slice so n cap],.int .i64 a] W (ReP rs X a W):=by
 have hU:∀W':World,Below W.heap.size W W'->_:=fun W' hW'=>y5l so n cap rs X B W' hX (HC.from hW') (h.below (hW'.mono hB)) (Nat.le_trans hB hW'.size) hz (Nat.lt_of_lt_of_le hTg hW'.size)
 have hnr:n=rs.length:=h.1;cases X with
 |some q=>
  refine(y5m so n cap (some q) a W (fun h=>by cases h) (hid fun W' hW'=>(hU W' hW').mono fun e w' he=> ?_)).mono fun e w' he=> ?_
  ·obtain⟨uv,v,h1,h2,h3,h4,_⟩:=he
   exact⟨v,by rw[h1,h4 (fun h=>by cases h)],h2,h3⟩
  ·obtain⟨v,h1,h2,h3⟩:=he
   exact⟨h3,.inl ⟨(fun h=>by cases h),v,h1,h2⟩⟩
 |none=>
  obtain⟨hk,hc,hl⟩:=hX;have hlen:=Dx hk;have hUs:Hid (∀W':World,Below W.heap.size W W'->Calls prog 81 #[.agg #[.slice so n cap]] W' fun e w'=>∃ub vs,e=.returned (.tuple #[.slice (some ⟨ub,0,none⟩) n n,.nilIface])/\vs.length=n/\y3U W' ub n vs (rs.map (usR (nmL rs))) w'):=hid fun W' hW'=>(hU W' hW').mono fun e w' he=>by
   obtain⟨uv,v,h1,h2,h3,_,h5⟩:=he;obtain⟨ub,vs,rfl,h6,h7⟩:=h5 rfl;obtain rfl:v=.nilIface:=h2;exact⟨ub,vs,h1,h6,h7⟩
  by_cases ha:a<0∨(n:Int)<=a
  ·exact(y5n so n cap _ a W (by omega) ha hUs).mono fun e w' he=>⟨he.2,.inr (.inl ⟨rfl,by rw[<-hnr];exact ha,he.1⟩)⟩
  ·obtain⟨k,rfl⟩:∃k:Nat,a=(k:Int):=⟨a.toNat,by omega⟩
   have hkn:k<n:=by omega
   have hnl:(nmL rs).length=n:=by unfold nmL;rw[List.length_map,hnr]
   refine(y5o so n cap _ k W (by omega) hkn (by rw[List.length_map,hnr];rfl) (hid fun u hu x hx=> ?_) (hid fun u hu=> ?_) hUs).mono fun e w' he=> ?_
   ·obtain⟨y,_,rfl⟩:=List.mem_map.1 hu
    have:=y4f (by rw[hnl];omega) hx;rw[hnl]at this;exact this
   ·obtain⟨y,hy,rfl⟩:=List.mem_map.1 hu
    exact Nat.le_trans y5j (Nat.le_trans (hl y hy) (by omega))
   ·obtain⟨v,L,h1,h2,h3,h4,h5⟩:=he
    exact⟨h5,.inr (.inr ⟨rfl,k,v,L,rfl,by omega,h1,h2,by omega,h4⟩)⟩
theorem y4z(zs:List Int):∀(i:Nat) (hi:i<zs.length),zs[i]∈Lib.compact zs
 |0,hi=>by
  unfold Lib.compact Lib.compactUpTo;refine List.mem_map.2 ⟨0,List.mem_filter.2 ⟨List.mem_range.2 hi,Lib.keeps_lt_one _ 0 (by omega)⟩,?_⟩;rw[getElem!_pos _ 0 (by simpa using hi)];simp
 |i+1,hi=>by
  by_cases hk:Lib.keeps zs.toArray (i+1)=true
  ·unfold Lib.compact Lib.compactUpTo
   refine List.mem_map.2 ⟨i+1,List.mem_filter.2 ⟨List.mem_range.2 hi,hk⟩,?_⟩;rw[getElem!_pos _ (i+1) (by simpa using hi)];simp
  ·have e:zs.toArray[i+1]! =zs.toArray[i]! :=Classical.byContradiction fun hne=>hk (Lib.keeps_pos (by simpa using hne))
   rw[getElem!_pos _ (i+1) (by simpa using hi),getElem!_pos _ i (by simp;omega)]at e;have e':zs[i+1]=zs[i]:=by simpa using e
   rw[e'];exact y4z zs i (by omega)
theorem y5q{zs:List Int}(h:x∈zs):x∈Lib.compact zs:=by
 obtain⟨i,hi,rfl⟩:=List.getElem_of_mem h;exact y4z zs i hi
theorem y5r{l:List ByteArray}:x∈usR l y↔x∈ixL l (rfT y.2.1):=⟨fun h=>(y3Y _).mem_iff.1 (y4y h),fun h=>y5q ((y3Y _).mem_iff.2 h)⟩
theorem y4A:∀{A B:List Int},A.Pairwise (· < ·)->B.Pairwise (· < ·)->(∀x,x∈A↔x∈B)->A=B
 |[],[],_,_,_=>rfl
 |[],b::B,_,_,h=>by have:=(h b).2 (by simp);simp at this
 |a::A,[],_,_,h=>by have:=(h a).1 (by simp);simp at this
 |a::A,b::B,ha,hb,h=>by
  rw[List.pairwise_cons]at ha hb;have e:a=b:=by
   have h1:=(h a).1 (by simp);have h2:=(h b).2 (by simp);rcases List.mem_cons.1 h1 with h1|h1
   ·exact h1
   ·rcases List.mem_cons.1 h2 with h2|h2
    ·exact h2.symm
    ·have:=hb.1 a h1
     have:=ha.1 b h2;omega
  subst e;rw[y4A ha.2 hb.2 fun x=>⟨fun hx=>by
   have:=(h x).1 (List.mem_cons_of_mem _ hx);rcases List.mem_cons.1 this with e|h'
   ·have:=ha.1 x hx;omega
   ·exact h',fun hx=>by
   have:=(h x).2 (List.mem_cons_of_mem _ hx);rcases List.mem_cons.1 this with e|h'
   ·have:=hb.1 x hx;omega
   ·exact h'⟩]
theorem y5s{us:List (List Int)}{A B:List Int}(h:y3W us a A)(k:y3W us a B):A=B:=y4A h.1 k.1 fun x=>(h.2 x).trans (k.2 x).symm
end Go.Proofs.YtjodljnddflgfaaGreatDoor
