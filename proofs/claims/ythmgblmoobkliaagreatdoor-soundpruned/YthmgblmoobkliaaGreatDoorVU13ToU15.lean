/- Lemmas for the last text. Conditions: those that each names. -/
import Derived.Test.YthmgblmoobkliaaGreatDoorVU9ToSC
import Derived.Test.YthmgblmoobkliaaGreatDoorVO16ToU1
set_option linter.unusedVariables false
set_option maxRecDepth 100000
set_option maxHeartbeats 8000000
namespace Go.Proofs.YthmgblmoobkliaaGreatDoor
open Go.Proofs.Tryz
open Go.RowKit Go.Shelf Go.Maps
variable {W w:World} {rs:List Rr}
theorem Ab{W':World}{y y0 y1 y2 y3 y4 y5 y6 y7:Value}(h:Hid (Below w.heap.size w W)/\Hid (∃v0 v1 v2:Value,W.heap[w.heap.size+1+1]? =some (.cells #[v0,v1,v2] 95))/\W.cell? ⟨w.heap.size,0,none⟩=some y/\W.cell? ⟨w.heap.size+1,0,none⟩=some y0/\W.cell? ⟨w.heap.size+1,1,none⟩=some y1/\W.cell? ⟨w.heap.size+1,2,none⟩=some y2/\W.cell? ⟨w.heap.size+1,3,none⟩=some y3/\W.cell? ⟨w.heap.size+1,4,none⟩=some y4/\W.cell? ⟨w.heap.size+1,5,none⟩=some y5/\W.cell? ⟨w.heap.size+1,6,none⟩=some y6/\W.cell? ⟨w.heap.size+1,7,none⟩=some y7)(hb:Below W.heap.size W W'):Hid (Below w.heap.size w W')/\Hid (∃v0 v1 v2:Value,W'.heap[w.heap.size+1+1]? =some (.cells #[v0,v1,v2] 95))/\W'.cell? ⟨w.heap.size,0,none⟩=some y/\W'.cell? ⟨w.heap.size+1,0,none⟩=some y0/\W'.cell? ⟨w.heap.size+1,1,none⟩=some y1/\W'.cell? ⟨w.heap.size+1,2,none⟩=some y2/\W'.cell? ⟨w.heap.size+1,3,none⟩=some y3/\W'.cell? ⟨w.heap.size+1,4,none⟩=some y4/\W'.cell? ⟨w.heap.size+1,5,none⟩=some y5/\W'.cell? ⟨w.heap.size+1,6,none⟩=some y6/\W'.cell? ⟨w.heap.size+1,7,none⟩=some y7:=by
 obtain⟨h1,h2,z,z0,z1,z2,z3,z4,z5,z6,z7⟩:=h;have e:∀{a:Addr} {u:Value},W.cell? a=some u->W'.cell? a=some u:=fun{a u} h=>(hb.cell (p:=a) (World.block_lt_of_cell? W _ h)).trans h
 obtain⟨r0,r1,r2,hr⟩:=h2.out;exact⟨hid (h1.out.trans (hb.mono h1.out.size)),hid ⟨r0,r1,r2,(hb.block _ (Qq hr)).trans hr⟩,e z,e z0,e z1,e z2,e z3,e z4,e z5,e z6,e z7⟩
theorem y2c{y y0 y1 y2 y3 y4 y5 y6 y7 x1 x2 x3:Value}(h:Hid (Below w.heap.size w W)/\Hid (∃v0 v1 v2:Value,W.heap[w.heap.size+1+1]? =some (.cells #[v0,v1,v2] 95))/\W.cell? ⟨w.heap.size,0,none⟩=some y/\W.cell? ⟨w.heap.size+1,0,none⟩=some y0/\W.cell? ⟨w.heap.size+1,1,none⟩=some y1/\W.cell? ⟨w.heap.size+1,2,none⟩=some y2/\W.cell? ⟨w.heap.size+1,3,none⟩=some y3/\W.cell? ⟨w.heap.size+1,4,none⟩=some y4/\W.cell? ⟨w.heap.size+1,5,none⟩=some y5/\W.cell? ⟨w.heap.size+1,6,none⟩=some y6/\W.cell? ⟨w.heap.size+1,7,none⟩=some y7)(W':World)(e:W'=((W.setCell ⟨w.heap.size+1+1,0,none⟩ x1).setCell ⟨w.heap.size+1+1,1,none⟩ x2).setCell ⟨w.heap.size+1+1,2,none⟩ x3):Hid (Below w.heap.size w W')/\Hid (∃v0 v1 v2:Value,W'.heap[w.heap.size+1+1]? =some (.cells #[v0,v1,v2] 95))/\W'.cell? ⟨w.heap.size,0,none⟩=some y/\W'.cell? ⟨w.heap.size+1,0,none⟩=some y0/\W'.cell? ⟨w.heap.size+1,1,none⟩=some y1/\W'.cell? ⟨w.heap.size+1,2,none⟩=some y2/\W'.cell? ⟨w.heap.size+1,3,none⟩=some y3/\W'.cell? ⟨w.heap.size+1,4,none⟩=some y4/\W'.cell? ⟨w.heap.size+1,5,none⟩=some y5/\W'.cell? ⟨w.heap.size+1,6,none⟩=some y6/\W'.cell? ⟨w.heap.size+1,7,none⟩=some y7:=by
 obtain⟨h1,h2,z,z0,z1,z2,z3,z4,z5,z6,z7⟩:=h;have hs:W.grownBy W' (some (w.heap.size+1+1)):=by rw[e];exact Zl _ _ _ _ _
 have k:∀{a:Addr} {u:Value},a.block≠w.heap.size+1+1->W.cell? a=some u->W'.cell? a=some u:=fun{a u} hne h=>(World.cell?_of_block (hs.block a.block (World.block_lt_of_cell? W _ h) (fun e=>hne (Option.some.inj e)))).trans h
 obtain⟨r0,r1,r2,hr⟩:=h2.out;have hl:∀j,(⟨w.heap.size,j,none⟩:Addr).block≠w.heap.size+1+1:=fun j=>by show w.heap.size≠_;omega
 have hl2:∀j,(⟨w.heap.size+1,j,none⟩:Addr).block≠w.heap.size+1+1:=fun j=>by show w.heap.size+1≠_;omega
 exact⟨hid (h1.out.grown hs h1.out.size (fun g e=>by have:=Option.some.inj e;omega)),hid ⟨x1,x2,x3,by rw[e];exact Yk hr⟩,k (hl _) z,k (hl2 _) z0,k (hl2 _) z1,k (hl2 _) z2,k (hl2 _) z3,k (hl2 _) z4,k (hl2 _) z5,k (hl2 _) z6,k (hl2 _) z7⟩
theorem y2d{W':World}{p:Prop}(h:Hid (Below w.heap.size w W)/\Hid (∃v0 v1 v2:Value,W.heap[w.heap.size+1+1]? =some (.cells #[v0,v1,v2] 95))/\p)(hb:Below W.heap.size W W'):Hid (Below w.heap.size w W')/\Hid (∃v0 v1 v2:Value,W'.heap[w.heap.size+1+1]? =some (.cells #[v0,v1,v2] 95)):=by
 obtain⟨r0,r1,r2,hr⟩:=h.2.1.out;exact⟨hid (h.1.out.trans (hb.mono h.1.out.size)),hid ⟨r0,r1,r2,(hb.block _ (Qq hr)).trans hr⟩⟩
theorem Qm.kept{X:Option (Int ⊕ (Int×Int))}{S R:Nat}{w':World}{v:Value}(h:Qm X S w v)(hg:w.grownBy w' (some R))(hR:R<S):Qm X S w' v:=by
 unfold Qm at h ⊢
 match X,h with
 |none,h=>exact h
 |some (.inl c),h=>exact h
 |some (.inr q),h=>
  obtain⟨g,h1,h2,h3⟩:=h;exact⟨g,h1,h2,(hg.block g (Qq h3) (fun e=>by have:=Option.some.inj e;omega)).trans h3⟩
theorem y5l(so:Option Addr)(n cap:Nat)(X:Option (Int ⊕ (Int×Int)))(k:Int)(T:ByteArray)(a b c d:Int)(so1:Option Addr)(n1 cap1:Nat)(p:Int)(w:World)(hX:X≠none)
  (HC:Hid (∀W:World,Below w.heap.size w W->Calls prog 84 #[.agg #[.slice so n cap]] W fun e w'=>∃v,e=.returned v/\Qm X W.heap.size w' v/\Below W.heap.size W w')):
  Calls prog 121 #[.agg #[.slice so n cap],.agg #[.int .i64 k,.string T,.int .u64 a,.int .u64 b,.int .u64 c,.int .u64 d,.slice so1 n1 cap1,.int .i64 p]] w fun e w'=>∃v,e=.returned (.tuple #[ov (false,false,false),v])/\Qm X w.heap.size w' v/\Below w.heap.size w w':=by
 obtain⟨W1,hW1⟩:∃W1,W1=((w.alloc (.cells #[.slice so n cap] 24)).alloc (.cells #[.int .i64 k,.string T,.int .u64 a,.int .u64 b,.int .u64 c,.int .u64 d,.slice so1 n1 cap1,.int .i64 p] 54)).alloc (.cells #[.bool false,.bool false,.bool false] 95):=⟨_,rfl⟩;have hB1:Below w.heap.size w W1:=by rw[hW1];exact(((Below.refl _ w).alloc L0q _).alloc (by simp) _).alloc (by simp;omega) _
 have HR1:Hid (W1.heap[w.heap.size+1+1]? =some (.cells #[.bool false,.bool false,.bool false] 95)):=by rw[hW1];exact Qx _ _ (by simp)
 have HS:=hid (HC.out W1 hB1);have HB1:=hid hB1;have hs1:=Qq HR1.out;have HW1:=hid hW1;clear hW1 hB1 HC;go_enter func121,ntmps121
 go_wp2_with fail
 rw[<-HW1.out];refine HS.out.mono ?_;rintro e w2 ⟨v,rfl,hv,hb2⟩;obtain⟨tt,uu,rfl⟩:=hv.shape hX;have hr2:=(hb2.block _ (Qq HR1.out)).trans HR1.out;obtain⟨⟨u0,u1,u2⟩,f0,f1,f2⟩:=Qp hr2;have lr:=Qq hr2;have HR2:=hid hr2;have HV:=hid hv;have HB2:=hid (HB1.out.trans (hb2.mono HB1.out.size));have HSz:=hid HB1.out.size;clear hv hb2 hr2 HS HW1 HR1 HB1
 go_wp2_with fail
 obtain⟨⟨r0,r1,r2⟩,_⟩:=Qp (Yk (v0:=.bool false) (v1:=.bool false) (v2:=.bool false) HR2.out);refine bodyPost_ret (v:=.tuple #[.agg #[.bool false,.bool false,.bool false],.iface tt uu]) (by simp[results,Tryz.results121,go_sem,r0,r1,r2]) rfl ?_;exact⟨_,rfl,(HV.out.kept (Zl _ _ _ _ _) hs1).lo HSz.out,HB2.out.grown (Zl _ _ _ _ _) HB2.out.size (fun g e=>by have:=Option.some.inj e;omega)⟩
theorem y5m(so:Option Addr)(n cap:Nat)(k:Int)(T:ByteArray)(a b c d:Int)(so1:Option Addr)(n1 cap1:Nat)(p:Int)(w:World)(V:ByteArray)(q:Bool)(hV:V={data:=#[]}∨(V.toList.isEmpty=false/\q=false))
  (HC:Hid (∀W:World,Below w.heap.size w W->Calls prog 84 #[.agg #[.slice so n cap]] W fun e w'=>e=.returned .nilIface/\Below W.heap.size W w'))
  (HE:Hid (∀W:World,Below w.heap.size w W->Calls prog 157 #[.agg #[.int .i64 k,.string T,.int .u64 a,.int .u64 b,.int .u64 c,.int .u64 d,.slice so1 n1 cap1,.int .i64 p]] W fun e w'=>e=.returned (.string V)/\Below W.heap.size W w'))
  (HH:Hid (∀W:World,Below w.heap.size w W->Calls prog 158 #[.agg #[.slice so n cap],.agg #[.int .i64 k,.string T,.int .u64 a,.int .u64 b,.int .u64 c,.int .u64 d,.slice so1 n1 cap1,.int .i64 p]] W fun e w'=>e=.returned (.bool q)/\Below W.heap.size W w')):
  Calls prog 121 #[.agg #[.slice so n cap],.agg #[.int .i64 k,.string T,.int .u64 a,.int .u64 b,.int .u64 c,.int .u64 d,.slice so1 n1 cap1,.int .i64 p]] w fun e w'=>e=.returned (.tuple #[ov (false,false,false),.iface 37 (.int .i64 1)])/\Below w.heap.size w w':=by
 obtain⟨W1,hW1⟩:∃W1,W1=((w.alloc (.cells #[.slice so n cap] 24)).alloc (.cells #[.int .i64 k,.string T,.int .u64 a,.int .u64 b,.int .u64 c,.int .u64 d,.slice so1 n1 cap1,.int .i64 p] 54)).alloc (.cells #[.bool false,.bool false,.bool false] 95):=⟨_,rfl⟩;have hB1:Below w.heap.size w W1:=by rw[hW1];exact(((Below.refl _ w).alloc L0q _).alloc (by simp) _).alloc (by simp;omega) _
 have hR1:W1.heap[w.heap.size+1+1]? =some (.cells #[.bool false,.bool false,.bool false] 95):=by rw[hW1];exact Qx _ _ (by simp)
 have hG1:W1.heap[w.heap.size]? =some (.cells #[.slice so n cap] 24):=by rw[hW1];exact(Below.heap_alloc _ _ _ (by simp;omega)).trans ((Below.heap_alloc _ _ _ (by simp)).trans (Qx w _ rfl))
 have hN1:W1.heap[w.heap.size+1]? =some (.cells #[.int .i64 k,.string T,.int .u64 a,.int .u64 b,.int .u64 c,.int .u64 d,.slice so1 n1 cap1,.int .i64 p] 54):=by rw[hW1];exact(Below.heap_alloc _ _ _ (by simp)).trans (Qx _ _ (by simp))
 have HS:=hid (HC.out W1 hB1);have HB1:=hid hB1;have HW1:=hid hW1;have HR1:=hid hR1;have HG1:=hid hG1;have HN1:=hid hN1;clear hW1 hB1 HC hR1 hG1 hN1;go_enter func121,ntmps121
 go_wp2_with fail
 rw[<-HW1.out];refine HS.out.mono ?_;rintro e w2 ⟨rfl,hb2⟩;have HB2:=hid (HB1.out.trans (hb2.mono HB1.out.size));have HR2:=hid ((hb2.block _ (Qq HR1.out)).trans HR1.out);have HG2:=hid ((hb2.block _ (Qq HG1.out)).trans HG1.out);have HN2:=hid ((hb2.block _ (Qq HN1.out)).trans HN1.out);obtain⟨g0,_⟩:=Qk HG2.out;obtain⟨⟨n0,nn1,n2,n3,n4,n5,n6,n7⟩,_⟩:=Qw HN2.out;have lg:=Qq HG2.out;have ln:=Qq HN2.out;have S2:Hid ((fun W:World=>Hid (Below w.heap.size w W)/\Hid (∃v0 v1 v2:Value,W.heap[w.heap.size+1+1]? =some (.cells #[v0,v1,v2] 95))/\W.cell? ⟨w.heap.size,0,none⟩=some (.slice so n cap)/\W.cell? ⟨w.heap.size+1,0,none⟩=some (.int .i64 k)/\W.cell? ⟨w.heap.size+1,1,none⟩=some (.string T)/\W.cell? ⟨w.heap.size+1,2,none⟩=some (.int .u64 a)/\W.cell? ⟨w.heap.size+1,3,none⟩=some (.int .u64 b)/\W.cell? ⟨w.heap.size+1,4,none⟩=some (.int .u64 c)/\W.cell? ⟨w.heap.size+1,5,none⟩=some (.int .u64 d)/\W.cell? ⟨w.heap.size+1,6,none⟩=some (.slice so1 n1 cap1)/\W.cell? ⟨w.heap.size+1,7,none⟩=some (.int .i64 p)) w2):=⟨HB2,hid ⟨_,_,_,HR2.out⟩,g0,n0,nn1,n2,n3,n4,n5,n6,n7⟩;clear hb2 HS HW1 HR1 HB1 HG1 HN1;rcases hV with rfl|⟨hV,rfl⟩
 ·go_wp2_with(first
   |(go_at_call 157;refine(HE.out _ HB2.out).mono ?_;rintro e w3 ⟨rfl,hb3⟩;have HB3:=hid (HB2.out.trans (hb3.mono HB2.out.size));have hr3:=(hb3.block _ (Qq HR2.out)).trans HR2.out;obtain⟨⟨u0,u1,u2⟩,f0,f1,f2⟩:=Qp hr3;have lr:=Qq hr3;have HR3:=hid hr3;clear hr3))
  obtain⟨⟨r0,r1,r2⟩,_⟩:=Qp (Yk (v0:=.bool false) (v1:=.bool false) (v2:=.bool false) HR3.out);refine bodyPost_ret (v:=.tuple #[.agg #[.bool false,.bool false,.bool false],.iface 37 (.int .i64 1)]) (by simp[results,Tryz.results121,go_sem,r0,r1,r2]) rfl ?_;exact⟨rfl,HB3.out.grown (Zl _ _ _ _ _) HB3.out.size (fun g e=>by have:=Option.some.inj e;omega)⟩
 ·go_wp2_with(first
   |(go_at_call 157;refine(HE.out _ HB2.out).mono ?_;rintro e w3 ⟨rfl,hb3⟩;have HB3:=hid (HB2.out.trans (hb3.mono HB2.out.size));have HR3:=hid ((hb3.block _ (Qq HR2.out)).trans HR2.out);have S3:=hid (Ab S2.out hb3);obtain⟨-,-,g3,m0,m1,m2,m3,m4,m5,m6,m7⟩:=S3.out)
   |(go_at_call 158;refine(HH.out _ HB3.out).mono ?_;rintro e w4 ⟨rfl,hb4⟩;have HB4:=hid (HB3.out.trans (hb4.mono HB3.out.size));have hr4:=(hb4.block _ (Qq HR3.out)).trans HR3.out;obtain⟨⟨u0,u1,u2⟩,f0,f1,f2⟩:=Qp hr4;have lr:=Qq hr4;have HR4:=hid hr4;clear hr4))
  obtain⟨⟨r0,r1,r2⟩,_⟩:=Qp (Yk (v0:=.bool false) (v1:=.bool false) (v2:=.bool false) HR4.out);refine bodyPost_ret (v:=.tuple #[.agg #[.bool false,.bool false,.bool false],.iface 37 (.int .i64 1)]) (by simp[results,Tryz.results121,go_sem,r0,r1,r2]) rfl ?_;exact⟨rfl,HB4.out.grown (Zl _ _ _ _ _) HB4.out.size (fun g e=>by have:=Option.some.inj e;omega)⟩
theorem y2e(so:Option Addr)(n cap:Nat)(rs:List Rr)(k:Int)(T:ByteArray)(a b c d:Int)(so1:Option Addr)(n1 cap1:Nat)(p:Int)(t:RT)(w:World)(V:ByteArray)(hV:V.toList.isEmpty=false)
  (HC:Hid (∀W:World,Below w.heap.size w W->Calls prog 84 #[.agg #[.slice so n cap]] W fun e w'=>e=.returned .nilIface/\Below W.heap.size W w'))
  (HE:Hid (∀W:World,Below w.heap.size w W->Calls prog 157 #[.agg #[.int .i64 k,.string T,.int .u64 a,.int .u64 b,.int .u64 c,.int .u64 d,.slice so1 n1 cap1,.int .i64 p]] W fun e w'=>e=.returned (.string V)/\Below W.heap.size W w'))
  (HH:Hid (∀W:World,Below w.heap.size w W->Calls prog 158 #[.agg #[.slice so n cap],.agg #[.int .i64 k,.string T,.int .u64 a,.int .u64 b,.int .u64 c,.int .u64 d,.slice so1 n1 cap1,.int .i64 p]] W fun e w'=>e=.returned (.bool true)/\Below W.heap.size W w'))
  (HL:Hid (∀W:World,Below w.heap.size w W->Calls prog 85 #[.agg #[.slice so n cap]] W (LsP rs W)))
  (HU:Hid (∀(W:World) (M nn m:Nat),Below w.heap.size w W->Nm W M nn (itr rs m)->Calls prog 125 #[.map (some M),.agg #[.int .i64 k,.string T,.int .u64 a,.int .u64 b,.int .u64 c,.int .u64 d,.slice so1 n1 cap1,.int .i64 p]] W fun e w'=>e=.returned (ov (ofT (itr rs m) t))/\Hid (Below W.heap.size W w'))):
  Calls prog 121 #[.agg #[.slice so n cap],.agg #[.int .i64 k,.string T,.int .u64 a,.int .u64 b,.int .u64 c,.int .u64 d,.slice so1 n1 cap1,.int .i64 p]] w fun e w'=>∃m,Xb (itr rs m) rs/\e=.returned (.tuple #[ov (ofT (itr rs m) t),.nilIface])/\Below w.heap.size w w':=by
 obtain⟨W1,hW1⟩:∃W1,W1=((w.alloc (.cells #[.slice so n cap] 24)).alloc (.cells #[.int .i64 k,.string T,.int .u64 a,.int .u64 b,.int .u64 c,.int .u64 d,.slice so1 n1 cap1,.int .i64 p] 54)).alloc (.cells #[.bool false,.bool false,.bool false] 95):=⟨_,rfl⟩;have hB1:Below w.heap.size w W1:=by rw[hW1];exact(((Below.refl _ w).alloc L0q _).alloc (by simp) _).alloc (by simp;omega) _
 have hR1:W1.heap[w.heap.size+1+1]? =some (.cells #[.bool false,.bool false,.bool false] 95):=by rw[hW1];exact Qx _ _ (by simp)
 have hG1:W1.heap[w.heap.size]? =some (.cells #[.slice so n cap] 24):=by rw[hW1];exact(Below.heap_alloc _ _ _ (by simp;omega)).trans ((Below.heap_alloc _ _ _ (by simp)).trans (Qx w _ rfl))
 have hN1:W1.heap[w.heap.size+1]? =some (.cells #[.int .i64 k,.string T,.int .u64 a,.int .u64 b,.int .u64 c,.int .u64 d,.slice so1 n1 cap1,.int .i64 p] 54):=by rw[hW1];exact(Below.heap_alloc _ _ _ (by simp)).trans (Qx _ _ (by simp))
 have HS:=hid (HC.out W1 hB1);have HB1:=hid hB1;have HW1:=hid hW1;have HR1:=hid hR1;have HG1:=hid hG1;have HN1:=hid hN1;clear hW1 hB1 HC hR1 hG1 hN1;go_enter func121,ntmps121
 go_wp2_with fail
 rw[<-HW1.out];refine HS.out.mono ?_;rintro e w2 ⟨rfl,hb2⟩;have HB2:=hid (HB1.out.trans (hb2.mono HB1.out.size));have HR2:=hid ((hb2.block _ (Qq HR1.out)).trans HR1.out);have HG2:=hid ((hb2.block _ (Qq HG1.out)).trans HG1.out);have HN2:=hid ((hb2.block _ (Qq HN1.out)).trans HN1.out);obtain⟨g0,_⟩:=Qk HG2.out;obtain⟨⟨n0,nn1,n2,n3,n4,n5,n6,n7⟩,_⟩:=Qw HN2.out;have lg:=Qq HG2.out;have ln:=Qq HN2.out;have S2:Hid ((fun W:World=>Hid (Below w.heap.size w W)/\Hid (∃v0 v1 v2:Value,W.heap[w.heap.size+1+1]? =some (.cells #[v0,v1,v2] 95))/\W.cell? ⟨w.heap.size,0,none⟩=some (.slice so n cap)/\W.cell? ⟨w.heap.size+1,0,none⟩=some (.int .i64 k)/\W.cell? ⟨w.heap.size+1,1,none⟩=some (.string T)/\W.cell? ⟨w.heap.size+1,2,none⟩=some (.int .u64 a)/\W.cell? ⟨w.heap.size+1,3,none⟩=some (.int .u64 b)/\W.cell? ⟨w.heap.size+1,4,none⟩=some (.int .u64 c)/\W.cell? ⟨w.heap.size+1,5,none⟩=some (.int .u64 d)/\W.cell? ⟨w.heap.size+1,6,none⟩=some (.slice so1 n1 cap1)/\W.cell? ⟨w.heap.size+1,7,none⟩=some (.int .i64 p)) w2):=⟨HB2,hid ⟨_,_,_,HR2.out⟩,g0,n0,nn1,n2,n3,n4,n5,n6,n7⟩;clear hb2 HS HW1 HR1 HB1 HG1 HN1
 go_wp2_with(first
  |(go_at_call 157;refine(HE.out _ HB2.out).mono ?_;rintro e w3 ⟨rfl,hb3⟩;have HB3:=hid (HB2.out.trans (hb3.mono HB2.out.size));have HR3:=hid ((hb3.block _ (Qq HR2.out)).trans HR2.out);have S3:=hid (Ab S2.out hb3);obtain⟨-,-,g3,m0,m1,m2,m3,m4,m5,m6,m7⟩:=S3.out)
  |(go_at_call 158;refine(HH.out _ HB3.out).mono ?_;rintro e w4 ⟨rfl,hb4⟩;have HB4:=hid (HB3.out.trans (hb4.mono HB3.out.size));have hr4:=(hb4.block _ (Qq HR3.out)).trans HR3.out;obtain⟨⟨u0,u1,u2⟩,f0,f1,f2⟩:=Qp hr4;have lr:=Qq hr4;have HR4:=hid hr4;clear hr4))
 have S4:=Ab (Ab S3.out hb4) (show Below w4.heap.size w4 w4.drew from B0q.drew);clear HE HH HB2 HR2 HG2 HN2 S2 S3 g0 n0 nn1 n2 n3 n4 n5 n6 n7 g3 m0 m1 m2 m3 m4 m5 m6 m7 hb3 hb4 HB3 HR3 HB4 HR4 u0 u1 u2 f0 f1 f2 lr lg ln
 go_region_held3 (fun W:World=>Hid (Below w.heap.size w W)/\Hid (∃v0 v1 v2:Value,W.heap[w.heap.size+1+1]? =some (.cells #[v0,v1,v2] 95))/\W.cell? ⟨w.heap.size,0,none⟩=some (.slice so n cap)/\W.cell? ⟨w.heap.size+1,0,none⟩=some (.int .i64 k)/\W.cell? ⟨w.heap.size+1,1,none⟩=some (.string T)/\W.cell? ⟨w.heap.size+1,2,none⟩=some (.int .u64 a)/\W.cell? ⟨w.heap.size+1,3,none⟩=some (.int .u64 b)/\W.cell? ⟨w.heap.size+1,4,none⟩=some (.int .u64 c)/\W.cell? ⟨w.heap.size+1,5,none⟩=some (.int .u64 d)/\W.cell? ⟨w.heap.size+1,6,none⟩=some (.slice so1 n1 cap1)/\W.cell? ⟨w.heap.size+1,7,none⟩=some (.int .i64 p)) (first|(with_reducible assumption)|(with_reducible exact Ab (by assumption) (by assumption))|(with_reducible exact y2c (by assumption) _ rfl)) (first
  |(go_at_call 85;refine(HL.out _ (Fb (by assumption))).mono ?_;rintro e w5 ⟨M,nn,m,rfl,hM,hNm,hFx,hb5⟩;have HB5:=hid (Below.trans (Fb (by assumption)) (hb5.mono (Below.size (Fb (by assumption)))));obtain⟨⟨y1,y2,y3⟩,hy⟩:∃y,y=ofT (itr rs m) t:=⟨_,rfl⟩;have HS5:=hid (HU.out w5 M nn m HB5.out hNm);rw[<-hy]at HS5;dsimp only[ov]at HS5;have HFx:=hid hFx;have HY:=hid hy;clear hNm hFx hy)
  |(go_at_call 125;refine HS5.out.mono ?_;rintro e w6 ⟨rfl,HB6⟩;have hb6:=HB6.out;obtain⟨HB7,HR7⟩:=y2d (by assumption) hb6;obtain⟨q0,q1,q2,hq⟩:=HR7.out;obtain⟨⟨u0,u1,u2⟩,f0,f1,f2⟩:=Qp hq;have lr:=Qq hq;have HQ7:=hid hq;clear hq))
 obtain⟨⟨r0,r1,r2⟩,_⟩:=Qp (Yk (v0:=.bool y1) (v1:=.bool y2) (v2:=.bool y3) HQ7.out)
 go_wp2_with fail
 refine bodyPost_ret (v:=.tuple #[.agg #[.bool y1,.bool y2,.bool y3],.nilIface]) (by simp[results,Tryz.results121,go_sem,r0,r1,r2]) rfl ?_;exact⟨m,HFx.out,by rw[<-HY.out],HB7.out.grown (Zl _ _ _ _ _) HB7.out.size (fun g e=>by have:=Option.some.inj e;omega)⟩
structure PqR (w2:World) (j:Nat) (ps:List Rr) (xs:List Value) (a:Value) (W:World):Prop where
 be:Below w2.heap.size w2 W
 ow:W.ownsRow w2.heap.size 56 10 a j xs
 rq:Zk W (fun g=>w2.heap.size<=g) (ps.take j) xs
theorem PqR.step{w2:World}{j:Nat}{ps:List Rr}{xs cs:List Value}{a a':Value}{wr w3 W4 w6:World}{x:Rr}
  (h:PqR w2 j ps xs a wr)(hj:j<ps.length)(hx:x=ps[j])(hb:Below wr.heap.size wr w3)(hq:RqR w3 (fun g=>wr.heap.size<=g) x cs)
  (h4:Below w3.heap.size w3 W4)(hown:w6.ownsRow w2.heap.size 56 10 a' (j+1) (xs++cs))(hgr:W4.grownBy w6 a.ownBlock):PqR w2 (j+1) ps (xs++cs) a' w6:=by
 have hs2:=h.be.size;have hs3:=hb.size;have hs4:=h4.size;have hbe:=h.be.trans ((hb.trans (h4.mono hs3)).mono hs2);have key:∀g cur,g<w3.heap.size->w2.heap.size<=g->w3.heap[g]? =some (.cells cur 54)->w6.heap[g]? =w3.heap[g]? :=fun g cur h1 h3 h5=>by
  refine(hgr.block g (by omega) (fun e=> ?_)).trans (h4.block g h1);have hl:=(h.ow.lt g e.symm).2;have h6:wr.heap[g]? =some (.cells cur 54):=(hb.block g hl).symm.trans h5;exact Fg h.ow h6 (fun cur e=>by cases e) e.symm
 refine⟨hbe.grown hgr hbe.size (fun j ej=>(h.ow.lt j ej).1),hown,?_⟩;rw[List.take_succ_eq_append_getElem hj,<-hx];refine Zk.append _ _ _ _ (Zk.kept (fun g cur hp hq=> ?_) _ _ h.rq) (by rw[List.length_take,Nat.min_eq_left (by omega)];exact h.ow.1) ?_
 ·have hlt:=Qq hq
  exact⟨(key g cur (by omega) hp ((hb.block g hlt).trans hq)).trans (hb.block g hlt),hp⟩
 ·obtain⟨c,h1,h2⟩:=hq
  exact⟨c,h1,Zw.kept (fun g cur hp hq=>⟨key g cur (Qq hq) (by omega) hq,by omega⟩) _ _ h2⟩
theorem z4G(h:ckR rs=none):∀x∈rs,∀y∈rs,y.1=x.1->y=x:=fun x hx y hy e=>by
 obtain⟨i,hi,rfl⟩:=List.getElem_of_mem hx;obtain⟨j,hj,rfl⟩:=List.getElem_of_mem hy;have h1:=Wk h i hi;have h2:=Wk h j hj;rw[e,h1]at h2;obtain rfl:i=j:=by omega
 rfl
theorem Gz(h:okG rs=true):∀x∈rs,nmS x.1=true/\okT x.2.1=true:=fun x hx=>by
 unfold okG at h;rw[Bool.and_eq_true,Bool.and_eq_true]at h;have:=List.all_eq_true.1 h.2.2 x hx;unfold okR at this;rw[Bool.and_eq_true]at this;exact this
theorem y2f{V:ByteArray}(h:V.size=0):V={data:=#[]}:=by
 apply ByteArray.ext;exact Array.eq_empty_of_size_eq_zero h
theorem z4H{V:ByteArray}(h:V.size≠0):V.toList.isEmpty=false:=by
 cases e:V.toList with
 |nil=>
  exfalso;apply h;have:=congrArg List.length e;rw[ByteArray.toList_eq]at this;simpa using this
 |cons x r=>rfl
theorem z4I(so:Option Addr)(n cap:Nat)(rs:List Rr)(B:Nat)(W:World)(h:Qv W B so n rs)(hB:B<=W.heap.size)(hz:RgZ rs)(hok:okG rs=true)(hck:ckR rs=none):Calls prog 85 #[.agg #[.slice so n cap]] W (LsP rs W):=
 callsIn_wide.1 (y1S so n cap rs W (h.upto hB) hz (fun x hx=>(Gz hok x hx).2) (z4G hck) (Xd hok).2 0)
theorem Tryz.infoOut:(Tryz.prog.info? 95).map (fun i=>(i.zero,i.size,i.bytes))=some (some (.agg #[.bool false,.bool false,.bool false]),3,3):=by kernel_rfl
theorem Tryz.sliceOuts:Tryz.prog.underlying 63=some (.slice 95):=by kernel_rfl
theorem y2g(n:Nat)(hn:n<=1048576)(W:World):(Instr.makeSlice 63 (.int .i64 n) (.int .i64 n)).run prog W=.ok (.slice (some ⟨W.heap.size,0,none⟩) n n) (W.alloc (.cells (madeCells #[.bool false,.bool false,.bool false] (n*3)) 95)):=by
 obtain⟨i0,hi0,hz0,hz1,hz2⟩:=info_parts Tryz.infoOut;rw[run_make W 63 95 i0 _ Tryz.sliceOuts hi0 hz0 .i64 .i64 n n (by omega) (by omega) (by rw[hz2];omega) (by omega),hz1];simp[Value.cells]
def OuC(cs:Array Value)(rs:List Rr)(K:ByteArray->Ot)(j:Nat):Prop:=cs.size=rs.length*3/\∀i (hi:i<rs.length),i<j->cs[i*3]? =some (.bool (K rs[i].1).1)/\cs[i*3+1]? =some (.bool (K rs[i].1).2.1)/\cs[i*3+2]? =some (.bool (K rs[i].1).2.2)
theorem OuC.old{cs:Array Value}{K:ByteArray->Ot}{j:Nat}(h:OuC cs rs K j)(hj:j<rs.length):∃v0 v1 v2,cs[j*3]? =some v0/\cs[j*3+1]? =some v1/\cs[j*3+2]? =some v2:=
 ⟨_,_,_,Array.getElem?_eq_getElem (by rw[h.1];omega),Array.getElem?_eq_getElem (by rw[h.1];omega),Array.getElem?_eq_getElem (by rw[h.1];omega)⟩
theorem OuC.step{cs:Array Value}{rs:List Rr}{K:ByteArray->Ot}{j:Nat}(h:OuC cs rs K j)(hj:j<rs.length){y1 y2 y3:Bool}(hy:(y1,y2,y3)=K rs[j].1):OuC (((cs.setIfInBounds (j*3) (.bool y1)).setIfInBounds (j*3+1) (.bool y2)).setIfInBounds (j*3+2) (.bool y3)) rs K (j+1):=by
 have hs:=h.1;refine⟨by simp[hs],fun i hi hij=> ?_⟩;have g:∀k v,k<cs.size->k≠j*3->k≠j*3+1->k≠j*3+2->cs[k]? =some v->(((cs.setIfInBounds (j*3) (.bool y1)).setIfInBounds (j*3+1) (.bool y2)).setIfInBounds (j*3+2) (.bool y3))[k]? =some v:=fun k v hk h0 h1 h2 hv=>by
  rw[Array.getElem?_setIfInBounds_ne (fun e=>h2 e.symm),Array.getElem?_setIfInBounds_ne (fun e=>h1 e.symm),Array.getElem?_setIfInBounds_ne (fun e=>h0 e.symm)];exact hv
 rcases Nat.lt_or_ge i j with h1|h1
 ·obtain⟨a,b,c⟩:=h.2 i hi h1
  exact⟨g _ _ (by omega) (by omega) (by omega) (by omega) a,g _ _ (by omega) (by omega) (by omega) (by omega) b,g _ _ (by omega) (by omega) (by omega) (by omega) c⟩
 ·obtain rfl:i=j:=by omega
  rw[<-hy];refine⟨?_,?_,?_⟩
  ·rw[Array.getElem?_setIfInBounds_ne (by omega),Array.getElem?_setIfInBounds_ne (by omega),Array.getElem?_setIfInBounds_self_of_lt (by omega)]
  ·rw[Array.getElem?_setIfInBounds_ne (by omega),Array.getElem?_setIfInBounds_self_of_lt (by simp;omega)]
  ·rw[Array.getElem?_setIfInBounds_self_of_lt (by simp;omega)]
def RuP(rs:List Rr)(X:Option (Int ⊕ (Int×Int)))(W:World)(e:Ending)(w':World):Prop:=Below W.heap.size W w'/\
 ((X≠none/\∃v,e=.returned (.tuple #[.slice none 0 0,v])/\Qm X W.heap.size w' v)∨
  (X=none/\∃ub m cs,e=.returned (.tuple #[.slice (some ⟨ub,0,none⟩) rs.length rs.length,.nilIface])/\W.heap.size<=ub/\Xb (itr rs m) rs/\w'.heap[ub]? =some (.cells cs 95)/\OuC cs rs (itr rs m) rs.length))
theorem y2h(so:Option Addr)(n cap:Nat)(X:Option (Int ⊕ (Int×Int)))(w:World)(hX:X≠none)
  (HC:Hid (∀W:World,Below w.heap.size w W->Calls prog 84 #[.agg #[.slice so n cap]] W fun e w'=>∃v,e=.returned v/\Qm X W.heap.size w' v/\Below W.heap.size W w')):
  Calls prog 48 #[.agg #[.slice so n cap]] w fun e w'=>∃v,e=.returned (.tuple #[.slice none 0 0,v])/\Qm X w.heap.size w' v/\Below w.heap.size w w':=by
 obtain⟨W1,hW1⟩:∃W1,W1=w.alloc (.cells #[.slice so n cap] 24):=⟨_,rfl⟩;have hB1:Below w.heap.size w W1:=by rw[hW1];exact(Below.refl _ w).alloc L0q _
 have HS:=hid (HC.out W1 hB1);have HB1:=hid hB1;have HW1:=hid hW1;clear hW1 hB1 HC;go_enter func48,ntmps48
 go_wp2_with fail
 rw[<-HW1.out];refine HS.out.mono ?_;rintro e w2 ⟨v,rfl,hv,hb2⟩;obtain⟨tt,uu,rfl⟩:=hv.shape hX;have HV:=hid hv;have HB2:=hid (HB1.out.trans (hb2.mono HB1.out.size));have HSz:=hid HB1.out.size;clear hv hb2 HS HW1 HB1
 go_wp2_with fail
 go_ret2
 exact⟨_,rfl,HV.out.lo HSz.out,HB2.out⟩
theorem y2i(so:Option Addr)(n cap:Nat)(rs:List Rr)(w:World)(h:Qv w w.heap.size so n rs)(HZ:Hid (RgZ rs))(hn:n<=1048576)
  (HC:Hid (∀W:World,Below w.heap.size w W->Calls prog 84 #[.agg #[.slice so n cap]] W fun e w'=>e=.returned .nilIface/\Below W.heap.size W w'))
  (HL:Hid (∀W:World,Below w.heap.size w W->Calls prog 85 #[.agg #[.slice so n cap]] W (LsP rs W))):
  Calls prog 48 #[.agg #[.slice so n cap]] w (RuP rs none w):=by
 obtain⟨W1,hW1⟩:∃W1,W1=w.alloc (.cells #[.slice so n cap] 24):=⟨_,rfl⟩;have hB1:Below w.heap.size w W1:=by rw[hW1];exact(Below.refl _ w).alloc L0q _
 have HG1:Hid (W1.heap[w.heap.size]? =some (.cells #[.slice so n cap] 24)):=by rw[hW1];exact Qx w _ rfl
 have HS:=hid (HC.out W1 hB1);have HB1:=hid hB1;have HW1:=hid hW1;have hmk:=y2g n hn;have HR:=hid h;have HNl:Hid (n=rs.length):=h.1;clear hW1 hB1 HC h;go_enter func48,ntmps48
 go_wp2_with fail
 rw[<-HW1.out];refine HS.out.mono ?_;rintro e w2 ⟨rfl,hb2⟩;have HB2:=hid (HB1.out.trans (hb2.mono HB1.out.size));have HG2:=hid ((hb2.block _ (Qq HG1.out)).trans HG1.out);obtain⟨g2,_⟩:=Qk HG2.out;have lg2:=Qq HG2.out;clear hb2 HS HW1 HB1 HG1
 go_wp2_with(first
  |(go_at_call 85;refine(HL.out _ HB2.out).mono ?_;rintro e w3 ⟨M,nn,m,rfl,hM,hNm,hFx,hb3⟩;have HB3:=hid (HB2.out.trans (hb3.mono HB2.out.size));have HG3:=hid ((hb3.block _ lg2).trans HG2.out);obtain⟨g3,_⟩:=Qk HG3.out;have lg3:=Qq HG3.out;have HNm:=hid hNm;have HFx:=hid hFx;clear hNm hFx hb3))
 obtain⟨ub,hub⟩:∃ub,ub=w3.heap.size:=⟨_,rfl⟩;obtain⟨W4,hW4⟩:∃W4,W4=w3.alloc (.cells (madeCells #[.bool false,.bool false,.bool false] (n*3)) 95):=⟨_,rfl⟩;have HB4:Hid (Below w.heap.size w W4):=by rw[hW4];exact HB3.out.alloc HB3.out.size _
 have HN4:Hid (Nm W4 M nn (itr rs m)):=by rw[hW4];exact HNm.out.kept (World.grownBy_alloc _ _ none) (by simp)
 have HU4:Hid (W4.heap[ub]? =some (.cells (madeCells #[.bool false,.bool false,.bool false] (n*3)) 95)):=by rw[hW4,hub];exact Qx _ _ rfl
 have HO4:Hid (OuC (madeCells #[.bool false,.bool false,.bool false] (n*3)) rs (itr rs m) 0):=⟨by rw[size_madeCells,HNl.out],fun i hi h0=>by omega⟩;have hMu:M<ub:=by rw[hub];exact HNm.out.lt
 have hwu:w.heap.size<=ub:=by rw[hub];exact HB3.out.size
 rw[<-hW4,<-hub];clear hW4 hub HB3 HG3 g3 lg3 HNm hmk HB2 HG2 g2 lg2 HL
 go_loopw [23] (fun i wr=>∃j:Nat,i=.int .i64 j/\j<=n/\Hid (Below w.heap.size w wr)/\Hid (Nm wr M nn (itr rs m))/\Hid (∃cs,wr.heap[ub]? =some (.cells cs 95)/\OuC cs rs (itr rs m) j)) (fun i _=>n-(intOf i).toNat)
 case atStart=>exact⟨0,rfl,Nat.zero_le _,HB4,HN4,⟨_,HU4.out,HO4.out⟩⟩
 case round=>
  obtain⟨j,rfl,hj,HB,HN,HC⟩:=hrel;by_cases hjn:j<n
  ·have hjI:(j:Int)<(n:Int):=by omega
   have a0:decide ((j:Int)<(n:Int))=true:=by simp;omega
   have hjs:j<rs.length:=by rw[<-HNl.out];exact hjn
   obtain⟨g,o,rfl,hg,k1,T1,a1,b1,c1,d1,so1,n1,cap1,p1,hrt,r0⟩:=HR.out.2.2 j hjs;have hce:∀q,wr.cell? ⟨g,q,none⟩=w.cell? ⟨g,q,none⟩:=fun q=>HB.out.cell (p:=⟨g,q,none⟩) hg
   simp only[<-hce]at r0;obtain⟨z0,z1,z2,z3,z4,z5,z6,z7,z8,z9⟩:=r0;have hgl:g<wr.heap.size:=World.block_lt_of_cell? wr _ z0;obtain⟨N0,hN0⟩:∃N0,N0=rs[j].1:=⟨_,rfl⟩;obtain⟨q1,hq1⟩:∃q1,q1=rs[j].2.2:=⟨_,rfl⟩;rw[<-hN0]at z0;rw[<-hq1]at z9;have hNz:N0.size<=maxLen:=by rw[hN0];exact(HZ.out _ (List.getElem_mem hjs)).1
   obtain⟨⟨y1,y2,y3⟩,hy⟩:∃y,y=itr rs m N0:=⟨_,rfl⟩;have hbA:=(Below.refl _ wr).alloc L0q (.cells #[.string N0,.int .i64 k1,.string T1,.int .u64 a1,.int .u64 b1,.int .u64 c1,.int .u64 d1,.slice so1 n1 cap1,.int .i64 p1,.int .i64 q1] 56);have hNA:=HN.out.below hbA HN.out.lt;have hL:=hNA.look hNz;rw[<-hy]at hL;dsimp only[ov]at hL;obtain⟨cs,hcs,hou⟩:=HC.out;have hcA:=(hbA.block _ (Qq hcs)).trans hcs;obtain⟨v0,v1,v2,e0,e1,e2⟩:=hou.old hjs;obtain⟨x0,f0⟩:=Zx hcA _ _ e0;obtain⟨x1,f1⟩:=Zx hcA _ _ e1;obtain⟨x2,f2⟩:=Zx hcA _ _ e2;have lu:=Qq hcA;have HY:Hid ((y1,y2,y3)=itr rs m rs[j].1):=by rw[<-hN0];exact hy
   have HCA:=hid hcA;have HOU:=hid hou;have HNA:=hid hNA;have HBA:=hid (HB.out.alloc HB.out.size (.cells #[.string N0,.int .i64 k1,.string T1,.int .u64 a1,.int .u64 b1,.int .u64 c1,.int .u64 d1,.slice so1 n1 cap1,.int .i64 p1,.int .i64 q1] 56));clear hce hN0 hq1 hy hbA hNA hcs hou hcA e0 e1 e2 HC hrt
   go_wp2_with fail
   have hgs:∀(W:World) (a b c:Value),W.grownBy (((W.setCell ⟨ub,j*3,none⟩ a).setCell ⟨ub,j*3+1,none⟩ b).setCell ⟨ub,j*3+2,none⟩ c) (some ub):=fun W a b c=>G.setR (G.setR (G.setR (G.refl _ _)))
   exact⟨⟨j+1,by go_num,by omega,hid (HBA.out.grown (hgs _ _ _ _) HBA.out.size (fun g e=>by have:=Option.some.inj e;omega)),hid (HNA.out.kept (hgs _ _ _ _) (fun e=>by have:=Option.some.inj e;omega)),hid ⟨_,Qf (Qf (Qf HCA.out _ _) _ _) _ _,HOU.out.step hjs HY.out⟩⟩,by simp[intOf];omega⟩
  ·have a0:decide ((j:Int)<(n:Int))=false:=by simp;omega
   obtain⟨cs,hcs,hou⟩:=HC.out;have HCS:=hid hcs;have hjn2:j=n:=by omega
   subst hjn2;have HOU:=hid hou;rw[HNl.out]at HOU;clear hcs hou HC
   go_wp2_with fail
   go_ret2
   exact⟨HB.out,.inr ⟨rfl,ub,m,cs,by rw[<-HNl.out];rfl,hwu,HFx.out,HCS.out,HOU.out⟩⟩
theorem y2j(so:Option Addr)(n cap:Nat)(rs:List Rr)(X:Option (Int ⊕ (Int×Int)))(B:Nat)(w:World)(hX:CkX rs X)(hC:CkC so n cap rs X w)(hz:RgZ rs)(h:Qv w B so n rs)(hB:B<=w.heap.size):∀W:World,Below w.heap.size w W->Calls prog 48 #[.agg #[.slice so n cap]] W (RuP rs X W):=fun W hW=>by
 have hup:∀{W'},Below W.heap.size W W'->Below w.heap.size w W':=fun hW'=>hW.trans (hW'.mono hW.size)
 have hCh:∀W':World,Below W.heap.size W W'->Calls prog 84 #[.agg #[.slice so n cap]] W' fun e w'=>∃v,e=.returned v/\Qm X W'.heap.size w' v/\Below W'.heap.size W' w':=fun W' hW'=>z3S so n cap rs X W' (hC.from (hup hW'))
 cases X with
 |some x=>
  refine(y2h so n cap (some x) W (by simp) hCh).mono fun e w' he=> ?_
  obtain⟨v,h1,h2,h3⟩:=he;exact⟨h3,.inl ⟨by simp,v,h1,h2⟩⟩
 |none=>
  obtain⟨hok,hck,_⟩:=hX;have hlen:=(Xd hok).2;refine y2i so n cap rs W ((h.below (hW.mono hB)).upto (Nat.le_trans hB hW.size)) hz (by have:=h.1;omega) (fun W' hW'=>(hCh W' hW').mono fun e w' he=> ?_) (fun W' hW'=>z4I so n cap rs B W' (h.below ((hup hW').mono hB)) (Nat.le_trans hB (hup hW').size) hz hok hck);obtain⟨v,h1,h2,h3⟩:=he;have h2:v=.nilIface:=h2;rw[h1,h2];exact⟨rfl,h3⟩
end Go.Proofs.YthmgblmoobkliaaGreatDoor
