/- Lemmas for the last text. Conditions: those that each names. -/
import Derived.Test.YtgmcjddjdidpjaaGreatDoorVPR2ToT12
import Derived.Test.YtgmcjddjdidpjaaGreatDoorVU12ToU15
import Derived.Test.YtgmcjddjdidpjaaGreatDoorVT13
import Derived.Test.YtgmcjddjdidpjaaGreatDoorVRLToGI
import Derived.Test.YtgmcjddjdidpjaaGreatDoorVO6ToO16
import Derived.LaidEql
import Derived.Stop.Asserts
import Derived.RowKitTokens
import Derived.Test.YtgmcjddjdidpjaaGreatDoorVGPToT11
set_option linter.unusedVariables false
set_option maxRecDepth 100000
set_option maxHeartbeats 8000000
namespace Go.Proofs.YtgmcjddjdidpjaaGreatDoor
open Go.Proofs.Tryz
open Go.RowKit Go.Shelf Go.Maps
variable {W W':World} {sB:Nat}
theorem y4Z(so:Option Addr)(n cap:Nat)(rs:List Rr)(K:ByteArray->Ot)(k:Int)(T:ByteArray)(a b c d p:Int)(so1:Option Addr)(n1 cap1:Nat)(t:RT)(B B1:Nat)(w:World)(h:Qg w B so n (bG rs K))(hB:B<=w.heap.size)(hok:okG rs=true)(hck:ckR rs=none)(hz:RgZ rs)(hT:TabIs w)(ht:Qv w B1 t (r8 k T a b c d so1 n1 cap1 p))(hB1:B1<=w.heap.size)(hf:Fit (nmL rs) t):
  ∀W:World,Below w.heap.size w W->Calls prog 155 #[.agg #[.slice so n cap],.agg (r8 k T a b c d so1 n1 cap1 p).toArray] W fun e w'=>e=.returned (.tuple #[ov (ofT K t),.nilIface])/\Below W.heap.size W w':=fun W hW=>by
 obtain⟨hokT,htz,⟨nd,hq,hv,hw,hs,hd⟩,hrf⟩:=hf;have hbz:=y3L K hz;have hbck:=y3K K hck;have hbok:=z5x K hok;obtain⟨hX,hC⟩:=y3G so n cap (bG rs K) B w hbz h hB hT (y3Q K hok) hbck;have ht:=Qv.upto hB1 t _ ht;have hup:∀{W'},Below W.heap.size W W'->Below w.heap.size w W':=fun hW'=>hW.trans (hW'.mono hW.size)
 have hN:∀W':World,Below W.heap.size W W'->Calls prog 32 #[.agg #[.slice so n cap]] W' fun e w'=>e=.returned .nilIface/\Below W'.heap.size W' w':=fun W' hW'=>(z4J so n cap (bG rs K) none W' (hC.from (hup hW'))).mono fun e w' he=>by
  obtain⟨v,h1,h2,h3⟩:=he;have h2:v=.nilIface:=h2;rw[h1,h2];exact⟨rfl,h3⟩
 have hE:∀W':World,Below W.heap.size W W'->Calls prog 196 #[.agg (r8 k T a b c d so1 n1 cap1 p).toArray] W' fun e w'=>e=.returned (.string (exS nd))/\Below W'.heap.size W' w':=fun W' hW'=>
  y3u k T a b c d p so1 n1 cap1 t nd W' (hT.below (hup hW') hT.lt) (Qv.upto (hup hW').size t _ (ht.below (hup hW'))) htz hq hv hw
 have hH:∀W':World,Below W.heap.size W W'->Calls prog 197 #[.agg #[.slice so n cap],.agg (r8 k T a b c d so1 n1 cap1 p).toArray] W' fun e w'=>e=.returned (.bool true)/\Below W'.heap.size W' w':=fun W' hW'=>by
  have:=z5i (nmL (bG rs K)) (bG rs K) rfl so n cap B _ t _ w.heap.size W' (Nat.lt_succ_self _) (ht.below (hup hW')) (hup hW').size (h.below ((hup hW').mono hB)) (Nat.le_trans hB (hup hW').size);rw[z0D,z5I t hrf]at this;exact this
 refine(y3x so n cap (bG rs K) k T a b c d so1 n1 cap1 p t W (exS nd) (z5m (y3W hv hw hs hd)) hN hE hH (fun W' hW'=>z5n so n cap (bG rs K) B W' (h.below ((hup hW').mono hB)) (Nat.le_trans hB (hup hW').size) hbz hbok hbck) (fun W' M nn m hW' hNm=>z5b M nn (itr (bG rs K) m) t _ W' w.heap.size (ht.below (hup hW')) (hup hW').size htz hokT hNm)).mono fun e w' he=> ?_
 obtain⟨m,h1,h2,h3⟩:=he;rw[y3N hck h1 t hrf]at h2;exact⟨h2,h3⟩
theorem y5a(so:Option Addr)(n cap:Nat)(k:Int)(T:ByteArray)(a b c d p:Int)(so1:Option Addr)(n1 cap1:Nat)(y:Ot)(w:World)
  (HE:Hid (∀W:World,Below w.heap.size w W->Calls prog 155 #[.agg #[.slice so n cap],.agg #[.int .i64 k,.string T,.int .u64 a,.int .u64 b,.int .u64 c,.int .u64 d,.slice so1 n1 cap1,.int .i64 p]] W fun e w'=>e=.returned (.tuple #[ov y,.nilIface])/\Below W.heap.size W w')):
  Calls prog 109 #[.agg #[.slice so n cap],.agg #[.int .i64 k,.string T,.int .u64 a,.int .u64 b,.int .u64 c,.int .u64 d,.slice so1 n1 cap1,.int .i64 p]] w fun e w'=>e=.returned (ov y)/\Below w.heap.size w w':=by
 obtain⟨y1,y2,y3⟩:=y;obtain⟨W1,hW1⟩:∃W1,W1=((w.alloc (.cells #[.slice so n cap] 24)).alloc (.cells #[.int .i64 k,.string T,.int .u64 a,.int .u64 b,.int .u64 c,.int .u64 d,.slice so1 n1 cap1,.int .i64 p] 58)).alloc (.cells #[.bool false,.bool false,.bool false] 47):=⟨_,rfl⟩;have hB1:Below w.heap.size w W1:=by rw[hW1];exact(((Below.refl _ w).alloc L0q _).alloc (by simp) _).alloc (by simp;omega) _
 have HR1:Hid (W1.heap[w.heap.size+1+1]? =some (.cells #[.bool false,.bool false,.bool false] 47)):=by rw[hW1];exact Qq _ _ (by simp)
 have HS:=hid (HE.out W1 hB1);have HB1:=hid hB1;have HW1:=hid hW1;dsimp only[ov]at HS;clear hW1 hB1 HE;go_enter func109,ntmps109
 go_wp2_with fail
 rw[<-HW1.out];refine HS.out.mono ?_;rintro e w2 ⟨rfl,hb2⟩;have HB2:=hid (HB1.out.trans (hb2.mono HB1.out.size));have hr2:=(hb2.block _ (Qz HR1.out)).trans HR1.out;obtain⟨⟨u0,u1,u2⟩,f0,f1,f2⟩:=Zk hr2;have lr:=Qz hr2;have HR2:=hid hr2;clear hb2 HS HW1 HR1 HB1 hr2
 go_wp2_with fail
 have hP:=Uy (v0:=.bool y1) (v1:=.bool y2) (v2:=.bool y3) HR2.out;have hPA:((((w2.setCell ⟨w.heap.size+1+1,0,none⟩ (.bool y1)).setCell ⟨w.heap.size+1+1,1,none⟩ (.bool y2)).setCell ⟨w.heap.size+1+1,2,none⟩ (.bool y3)).alloc (.cells #[.bool y1,.bool y2,.bool y3] 47)).heap[w.heap.size+1+1]? =some (.cells #[.bool y1,.bool y2,.bool y3] 47):=(Below.heap_alloc _ _ _ (Qz hP)).trans hP;obtain⟨⟨r0,r1,r2⟩,_⟩:=Zk hPA;refine bodyPost_ret (v:=.agg #[.bool y1,.bool y2,.bool y3]) (by simp[results,Tryz.results109,go_sem,r0,r1,r2]) rfl ?_;have hB3:=HB2.out.grown (Yz w2 (w.heap.size+1+1) (.bool y1) (.bool y2) (.bool y3)) HB2.out.size (fun g e=>by have:=Option.some.inj e;omega);exact⟨rfl,hB3.alloc hB3.size _⟩
theorem z0J(so:Option Addr)(n cap:Nat)(rs:List Rr)(K:ByteArray->Ot)(k:Int)(T:ByteArray)(a b c d p:Int)(so1:Option Addr)(n1 cap1:Nat)(t:RT)(B B1:Nat)(w:World)(h:Qg w B so n (bG rs K))(hB:B<=w.heap.size)(hok:okG rs=true)(hck:ckR rs=none)(hz:RgZ rs)(hT:TabIs w)(ht:Qv w B1 t (r8 k T a b c d so1 n1 cap1 p))(hB1:B1<=w.heap.size)(hf:Fit (nmL rs) t):
  Calls prog 109 #[.agg #[.slice so n cap],.agg #[.int .i64 k,.string T,.int .u64 a,.int .u64 b,.int .u64 c,.int .u64 d,.slice so1 n1 cap1,.int .i64 p]] w fun e w'=>e=.returned (ov (ofT K t))/\Below w.heap.size w w':=
 y5a so n cap k T a b c d p so1 n1 cap1 _ w (hid (y4Z so n cap rs K k T a b c d p so1 n1 cap1 t B B1 w h hB hok hck hz hT ht hB1 hf))
theorem z5S{rB ub o0 o1 o2:Nat}{v0 v1 v2 v3 v4:Value}(h:W.cell? ⟨sB,0,none⟩=some v0/\W.cell? ⟨rB,0,none⟩=some v1/\W.cell? ⟨ub,o0,none⟩=some v2/\W.cell? ⟨ub,o1,none⟩=some v3/\W.cell? ⟨ub,o2,none⟩=some v4)(hb:Below W.heap.size W W'):W'.cell? ⟨sB,0,none⟩=some v0/\W'.cell? ⟨rB,0,none⟩=some v1/\W'.cell? ⟨ub,o0,none⟩=some v2/\W'.cell? ⟨ub,o1,none⟩=some v3/\W'.cell? ⟨ub,o2,none⟩=some v4:=by
 obtain⟨h0,h1,h2,h3,h4⟩:=h;have e:∀{a:Addr} {u:Value},W.cell? a=some u->W'.cell? a=some u:=fun{a u} h=>(hb.cell (p:=a) (World.block_lt_of_cell? W _ h)).trans h
 exact⟨e h0,e h1,e h2,e h3,e h4⟩
theorem y5b{rB ub o0 o1 o2:Nat}{v0 v1 v2 v3 v4:Value}{row:Option Nat}(h:W.cell? ⟨sB,0,none⟩=some v0/\W.cell? ⟨rB,0,none⟩=some v1/\W.cell? ⟨ub,o0,none⟩=some v2/\W.cell? ⟨ub,o1,none⟩=some v3/\W.cell? ⟨ub,o2,none⟩=some v4)(n0:some sB≠row)(n1:some rB≠row)(n2:some ub≠row)(hg:W.grownBy W' row):W'.cell? ⟨sB,0,none⟩=some v0/\W'.cell? ⟨rB,0,none⟩=some v1/\W'.cell? ⟨ub,o0,none⟩=some v2/\W'.cell? ⟨ub,o1,none⟩=some v3/\W'.cell? ⟨ub,o2,none⟩=some v4:=by
 obtain⟨h0,h1,h2,h3,h4⟩:=h;have e:∀{a:Addr} {u:Value},some a.block≠row->W.cell? a=some u->W'.cell? a=some u:=fun{a u} hne h=>(hg.cell_far a (World.block_lt_of_cell? W _ h) hne).trans h
 exact⟨e n0 h0,e n1 h1,e n2 h2,e n2 h3,e n2 h4⟩
theorem y5c(nm:ByteArray)(y1 y2 y3:Bool)(w:World):Calls prog 59 #[.string nm,.agg #[.bool y1,.bool y2,.bool y3]] w (CnA (sI nm (y1,y2,y3)) w):=by
 cases y1<;>cases y2<;>cases y3
 ·exact y4U nm w
 ·exact y4S nm w
 ·exact y4X nm w
 ·exact y4T nm w
 ·exact y4R nm w
 ·exact y4W nm w
 ·exact y4V nm w
 ·exact y4Y nm w
def BfP(rs:List Rr)(X:Option (Int ⊕ (Int×Int)))(W:World)(e:Ending)(w':World):Prop:=Below W.heap.size W w'/\
 ((X≠none/\∃v,e=.returned (.tuple #[.agg #[.slice none 0 0],v])/\Zw X W.heap.size w' v)∨
  (X=none/\∃so' cap' m,e=.returned (.tuple #[.agg #[.slice so' rs.length cap'],.nilIface])/\Yv (itr rs m) rs/\Qg w' w'.heap.size so' rs.length (bG rs (itr rs m))))
theorem y5d(so:Option Addr)(n cap:Nat)(X:Option (Int ⊕ (Int×Int)))(w:World)
  (HC:Hid (∀W:World,Below w.heap.size w W->Calls prog 17 #[.agg #[.slice so n cap]] W fun e w'=>∃tt uu,e=.returned (.tuple #[.slice none 0 0,.iface tt uu])/\Zw X W.heap.size w' (.iface tt uu)/\Below W.heap.size W w')):
  Calls prog 34 #[.agg #[.slice so n cap]] w fun e w'=>∃v,e=.returned (.tuple #[.agg #[.slice none 0 0],v])/\Zw X w.heap.size w' v/\Below w.heap.size w w':=by
 obtain⟨W1,hW1⟩:∃W1,W1=(w.alloc (.cells #[.slice so n cap] 24)).alloc (.cells #[.slice none 0 0] 24):=⟨_,rfl⟩;have hB1:Below w.heap.size w W1:=by rw[hW1];exact((Below.refl _ w).alloc L0q _).alloc (by simp) _
 have HR1:Hid (W1.heap[w.heap.size+1]? =some (.cells #[.slice none 0 0] 24)):=by rw[hW1];exact Qq _ _ (by simp)
 have HS:=hid (HC.out W1 hB1);have HB1:=hid hB1;have hs1:=Qz HR1.out;have HW1:=hid hW1;clear hW1 hB1 HC;go_enter func34,ntmps34
 go_wp2_with fail
 rw[<-HW1.out];refine HS.out.mono ?_;rintro e w2 ⟨tt,uu,rfl,hv,hb2⟩;have hr2:=(hb2.block _ (Qz HR1.out)).trans HR1.out;obtain⟨u0,f0⟩:=Qk hr2;have lr:=Qz hr2;have HR2:=hid hr2;have HV:=hid hv;have HB2:=hid (HB1.out.trans (hb2.mono HB1.out.size));have HSz:=hid HB1.out.size;clear hv hb2 hr2 HS HW1 HR1 HB1
 go_wp2_with fail
 have r0:=(Qk (Qy HR2.out 0 (.slice none 0 0))).1;refine bodyPost_ret (v:=.tuple #[.agg #[.slice none 0 0],.iface tt uu]) (by simp[results,Tryz.results34,go_sem,r0]) rfl ?_;exact⟨_,rfl,(HV.out.kept (grownBy_setCell' _ _ _) hs1).lo HSz.out,HB2.out.setCell (p:=⟨w.heap.size+1,0,none⟩) (by show w.heap.size<=_+1;omega) _⟩
theorem z5T(rs:List Rr)(K:ByteArray->Ot):(bG rs K).length=rs.length:=List.length_map _
theorem y5e(rs:List Rr)(K:ByteArray->Ot)(j:Nat)(hj:j<rs.length){hj':j<(bG rs K).length}:(bG rs K)[j]=(rs[j].1,sI rs[j].1 (K rs[j].1),0):=by simp[bG]
theorem PqR.put{w2:World}{j:Nat}{ps:List Rr}{xs:List Value}{a v u:Value}(h:PqR w2 j ps xs a W)(hs:W.heap[sB]? =some (.cells #[u] 24))(hB:w2.heap.size<=sB):PqR w2 j ps xs a (W.setCell ⟨sB,0,none⟩ v):=by
 refine⟨h.be.setCell (p:=⟨sB,0,none⟩) hB _,h.ow.kept (grownBy_setCell' _ _ _) (.inr (Kx h.ow hs (fun cur e=>by cases e))),Xz.kept (fun g cur hp hq=>⟨Below.heap_setCell _ _ _ _ (fun e=> ?_),hp⟩) _ _ h.rq⟩;have e2:g=sB:=e;subst e2;rw[hs]at hq;cases hq
theorem y5f(so:Option Addr)(n cap:Nat)(rs:List Rr)(w:World)(h:Qg w w.heap.size so n rs)(hn:n<=1048576)
  (HC:Hid (∀W:World,Below w.heap.size w W->Calls prog 17 #[.agg #[.slice so n cap]] W (RuP rs none W))):
  Calls prog 34 #[.agg #[.slice so n cap]] w (BfP rs none w):=by
 obtain⟨iT,hiT,hzT0,hzT1,hzT2⟩:=info_parts Tryz.infoRl;obtain⟨W1,hW1⟩:∃W1,W1=(w.alloc (.cells #[.slice so n cap] 24)).alloc (.cells #[.slice none 0 0] 24):=⟨_,rfl⟩;have hB1:Below w.heap.size w W1:=by rw[hW1];exact((Below.refl _ w).alloc L0q _).alloc (by simp) _
 have HR1:Hid (W1.heap[w.heap.size+1]? =some (.cells #[.slice none 0 0] 24)):=by rw[hW1];exact Qq _ _ (by simp)
 have HG1:Hid (W1.heap[w.heap.size]? =some (.cells #[.slice so n cap] 24)):=by rw[hW1];exact(Below.heap_alloc _ _ _ (by simp)).trans (Qq w _ rfl)
 have HS:=hid (HC.out W1 hB1);have HB1:=hid hB1;have HW1:=hid hW1;have HG:=hid h;have HNl:Hid (n=rs.length):=h.1;clear hW1 hB1 HC h;go_enter func34,ntmps34
 go_wp2_with fail
 rw[<-HW1.out];refine HS.out.mono ?_;rintro e w2 ⟨hb2,hre⟩;rcases hre with⟨hx,_⟩|⟨_,ub,m,cs,rfl,hub,hfx,hcs,hou⟩
 ·exact absurd rfl hx
 rw[<-HNl.out];obtain⟨KK,hKK⟩:∃KK,KK=itr rs m:=⟨_,rfl⟩;have HFx:=hid hfx;have HKK:Hid (KK=itr rs m):=hKK;rw[<-hKK]at hou;have HOu:=hid hou;have HCs:=hid hcs;have HB2:=hid (HB1.out.trans (hb2.mono HB1.out.size));have HR2:=hid ((hb2.block _ (Qz HR1.out)).trans HR1.out);have HG2:=hid ((hb2.block _ (Qz HG1.out)).trans HG1.out);obtain⟨g2,_⟩:=Qk HG2.out;have lg2:=Qz HG2.out;obtain⟨W3,hW3⟩:∃W3,W3=w2.alloc (.cells #[.slice none 0 0] 24):=⟨_,rfl⟩;have HC0:Hid (PqR w2 0 (bG rs KK) [] (.slice none 0 0) W3):=by
  rw[hW3];exact⟨B0q.alloc L0q _,World.ownsRow_nil _ _ _ _,by rw[List.take_zero,Xz];trivial⟩
 have HSb0:Hid (W3.heap[w2.heap.size]? =some (.cells #[.slice none 0 0] 24)):=by rw[hW3];exact Qq _ _ rfl
 clear HS HW1 HR1 HG1 HB1 hb2 hcs hou hfx hKK hub
 go_wp2_with fail
 rw[<-hW3];clear hW3 g2 lg2;obtain⟨sB,hsB⟩:∃sB,sB=w2.heap.size:=⟨_,rfl⟩;rw[<-hsB]at HSb0 ⊢;have HsB:Hid (sB=w2.heap.size):=hsB;clear hsB
 go_loopw [21] (fun i wr=>∃(j:Nat) (xs:List Value) (v:Value),i=.int .i64 j/\j<=n/\Hid (PqR w2 j (bG rs KK) xs v wr)/\Hid (wr.heap[sB]? =some (.cells #[v] 24))) (fun i _=>n-(intOf i).toNat)
 case atStart=>exact⟨0,[],_,rfl,Nat.zero_le _,HC0,HSb0⟩
 case round=>
  obtain⟨j,xs,v,rfl,hj,HP,HSb⟩:=hrel;clear HC0 HSb0;have HBw:=hid (HB2.out.trans (HP.out.be.mono HB2.out.size));obtain⟨sa,sca,rfl⟩:=Bb HP.out.ow;by_cases hjn:j<n
  ·have hjI:(j:Int)<(n:Int):=by omega
   have a0:decide ((j:Int)<(n:Int))=true:=by simp;omega
   have hjs:j<rs.length:=by rw[<-HNl.out];exact hjn
   have hjp:j<(bG rs KK).length:=by rw[z5T];exact hjs
   obtain⟨g,o,rfl,hg,k1,T1,a1,b1,c1,d1,so1,n1,cap1,p1,hrt,r0⟩:=HG.out.2.2 j hjs;have hce:∀q,wr.cell? ⟨g,q,none⟩=w.cell? ⟨g,q,none⟩:=fun q=>HBw.out.cell (p:=⟨g,q,none⟩) hg
   simp only[<-hce]at r0;obtain⟨z0,z1,z2,z3,z4,z5,z6,z7,z8,z9⟩:=r0;have hgl:g<wr.heap.size:=World.block_lt_of_cell? wr _ z0;obtain⟨N0,hN0⟩:∃N0,N0=rs[j].1:=⟨_,rfl⟩;obtain⟨q1,hq1⟩:∃q1,q1=rs[j].2.2:=⟨_,rfl⟩;rw[<-hN0]at z0;rw[<-hq1]at z9;obtain⟨⟨y1,y2,y3⟩,hy⟩:∃y,y=KK N0:=⟨_,rfl⟩;have hXx:(N0,sI N0 (y1,y2,y3),(0:Int))=(bG rs KK)[j]:=by
    rw[y5e rs KK j hjs,hy,hN0]
   have HXx:=hid hXx;obtain⟨e0,e1,e2⟩:=HOu.out.2 j hjs hjs;rw[<-hN0,<-hy]at e0 e1 e2;have hcu:=(HP.out.be.block _ (Qz HCs.out)).trans HCs.out;have x0:=(Qf hcu _ _ e0).1;have x1:=(Qf hcu _ _ e1).1;have x2:=(Qf hcu _ _ e2).1;have lu:=Qz hcu;have hul:ub<w2.heap.size:=Qz HCs.out;obtain⟨t0,t1⟩:=Qk HSb.out;have lsb:=Qz HSb.out;have hbe:=HP.out.be.size;have HSt:=hid (y5c N0 y1 y2 y3);clear hrt hce hN0 hq1 hy hXx e0 e1 e2 hcu
   go_wp2_with fail
   obtain⟨W4,hW4⟩:∃W4,W4=wr.alloc (.cells #[.string N0,.int .i64 k1,.string T1,.int .u64 a1,.int .u64 b1,.int .u64 c1,.int .u64 d1,.slice so1 n1 cap1,.int .i64 p1,.int .i64 q1] 65):=⟨_,rfl⟩;have HB4:Hid (Below wr.heap.size wr W4.drew):=by rw[hW4];exact((Below.refl _ wr).alloc L0q _).drew
   have hs4:W4.drew.heap.size=wr.heap.size+1:=by rw[hW4];exact World.size_alloc _ _
   obtain⟨rB,hrB⟩:∃rB,rB=wr.heap.size:=⟨_,rfl⟩;have HS0:Hid (W4.drew.cell? ⟨sB,0,none⟩=some (.slice sa j sca)/\W4.drew.cell? ⟨rB,0,none⟩=some (.string N0)/\W4.drew.cell? ⟨ub,j*3,none⟩=some (.bool y1)/\W4.drew.cell? ⟨ub,j*3+1,none⟩=some (.bool y2)/\W4.drew.cell? ⟨ub,j*3+2,none⟩=some (.bool y3)):=by
    have e:∀{a:Addr} {u:Value},wr.cell? a=some u->W4.drew.cell? a=some u:=fun{a u} h=>(HB4.out.cell (p:=a) (World.block_lt_of_cell? wr _ h)).trans h
    refine⟨e t0,?_,e x0,e x1,e x2⟩;rw[hW4,hrB];exact(Qf (Qq wr _ rfl) 0 _ rfl).1
   rw[<-hW4,<-hrB];have HSz:Hid (∀w3,Hid (Below W4.drew.heap.size W4.drew w3)->w2.heap.size<=w3.heap.size/\sB<w3.heap.size):=fun w3 h=>by
    have:=h.out.size;constructor<;>omega
   have HSb3:Hid (∀w3,Hid (Below W4.drew.heap.size W4.drew w3)->w3.heap[sB]? =some (.cells #[.slice sa j sca] 24)):=fun w3 h=>(h.out.block _ (by omega)).trans ((HB4.out.block _ lsb).trans HSb.out)
   have HOw:Hid (∀w3,Hid (Below W4.drew.heap.size W4.drew w3)->w3.ownsRow w2.heap.size 65 10 (.slice sa j sca) j xs):=fun w3 h=>Ym (Ym HP.out.ow HB4.out) h.out
   have HNe:Hid (some sB≠(Value.slice sa j sca).ownBlock):=fun e=>Kx HP.out.ow HSb.out (fun cur e=>by cases e) e.symm
   have HNr:Hid (some rB≠(Value.slice sa j sca).ownBlock):=fun e=>by have:=(HP.out.ow.lt _ e.symm).2;omega
   have HNu:Hid (some ub≠(Value.slice sa j sca).ownBlock):=fun e=>by have:=(HP.out.ow.lt _ e.symm).1;omega
   have HrB:Hid (rB=wr.heap.size):=hrB;have m1:j+1<=maxLen:=by unfold maxLen;omega
   have m2:(j+1)*112<=140737488355328:=by omega
   clear hW4 hrB z0 z1 z2 z3 z4 z5 z6 z7 z8 z9 t0 t1 x0 x1 x2;refine Vw 15 (fun W:World=>W.cell? ⟨sB,0,none⟩=some (.slice sa j sca)/\W.cell? ⟨rB,0,none⟩=some (.string N0)/\W.cell? ⟨ub,j*3,none⟩=some (.bool y1)/\W.cell? ⟨ub,j*3+1,none⟩=some (.bool y2)/\W.cell? ⟨ub,j*3+2,none⟩=some (.bool y3)) (by kernel_rfl) HS0.out (fun hHeld=> ?_);refine Qx 0 hHeld ?_;refine Qx 1 hHeld ?_;refine Qx 2 hHeld ?_;refine Qx 3 hHeld ?_;refine Qx 4 hHeld ?_;refine Qx 5 hHeld ?_;refine Qx 6 hHeld ?_;refine Qx 7 hHeld ?_;refine Qx 8 hHeld ?_;refine Qx 9 hHeld ?_
   (refine Zy 10 (fun K hK=> ?_);go_simp;refine(HSt.out _).mono ?_;rintro e w3 ⟨k3,T3,a3,b3,c3,d3,so3,n3,cap3,p3,rfl,HQ3,HB3⟩;go_simp;replace hHeld:=z5S hHeld HB3.out;refine hK.out _ _ hHeld ?_;clear hK K)
   (try simp only[Act.put,List.setIfInBounds_toArray,List.set_cons_zero,List.set_cons_succ])
   refine Qx 11 hHeld ?_
   (refine Zy 12 (fun K hK=> ?_);go_simp;replace hHeld:=z5S hHeld ((Below.refl _ w3).alloc L0q (.cells #[.string N0,.int .i64 k3,.string T3,.int .u64 a3,.int .u64 b3,.int .u64 c3,.int .u64 d3,.slice so3 n3 cap3,.int .i64 p3,.int .i64 0] 65));refine hK.out _ _ hHeld ?_;clear hK K)
   (try simp only[Act.put,List.setIfInBounds_toArray,List.set_cons_zero,List.set_cons_succ])
   (refine Zy 13 (fun K hK=> ?_);refine step_append_lies _ rfl (.tmp 27) (.tmp 38) 22 rfl w2.heap.size 65 iT (.agg #[.string ⟨#[]⟩,.int .i64 0,.string ⟨#[]⟩,.int .u64 0,.int .u64 0,.int .u64 0,.int .u64 0,.slice none 0 0,.int .i64 0,.int .i64 0]) 10 112 Tryz.underlying22 hiT hzT0 hzT1 hzT2 rfl (by decide) (.slice sa j sca) j xs (by rfl) ((HOw.out w3 HB3).alloc _) ⟨w3.heap.size,0,none⟩ 1 1 [.string N0,.int .i64 k3,.string T3,.int .u64 a3,.int .u64 b3,.int .u64 c3,.int .u64 d3,.slice so3 n3 cap3,.int .i64 p3,.int .i64 0] (by rfl) rfl (z1S w3 _ _ _ _ _ _ _ _ _ _ _) (y2C _ _ _ _ _ _ _ _ _ _ _ _) (by decide) m1 m2 (by rw[World.size_alloc];have:=HSz.out w3 HB3;omega) _ rfl ?_;intro g6 cap6 w6 hown6 hgr6 hat6 hlt6;have hS6:=((hgr6.block sB (by rw[World.size_alloc];have:=HSz.out w3 HB3;omega) HNe.out).trans (Below.heap_alloc _ _ _ (HSz.out w3 HB3).2)).trans (HSb3.out w3 HB3);replace hHeld:=y5b hHeld HNe.out HNr.out HNu.out hgr6;refine hK.out _ _ hHeld ?_;clear hK K)
   (try simp only[Act.put,List.setIfInBounds_toArray,List.set_cons_zero,List.set_cons_succ])
   refine Qx 14 hHeld ?_;refine Kq (fun K hK=> ?_);obtain⟨s0,s1⟩:=Qk hS6;have ls:=Qz hS6;clear hHeld
   go_simp
   refine hK.out _ _ ?_;clear hK K;have hst:=PqR.step HP.out hjp HXx.out (HB4.out.trans (HB3.out.mono (by rw[hs4];omega))) ⟨r8 k3 T3 a3 b3 c3 d3 so3 n3 cap3 p3,rfl,Xy.kept (fun g cur hp _=>⟨rfl,Nat.le_trans (by rw[hs4];omega) hp⟩) _ _ HQ3.out⟩ ((Below.refl _ w3).alloc L0q _) hown6 hgr6;have HSt2:=hid (hst.put (v:=.slice (some ⟨g6,0,none⟩) (j+1) cap6) hS6 (by rw[HsB.out];exact Nat.le_refl _));have HSb6:=hid (Qy hS6 0 (.slice (some ⟨g6,0,none⟩) (j+1) cap6));clear hst hown6 hgr6 hat6 hlt6 hS6 HQ3 HB3 s0 s1 HSt HS0
   go_wp2_with fail
   exact⟨⟨j+1,_,_,by go_num,by omega,HSt2,HSb6⟩,by simp[intOf];omega⟩
  ·have a0:decide ((j:Int)<(n:Int))=false:=by simp;omega
   obtain rfl:j=n:=by omega
   have hpl:(bG rs KK).length=j:=by rw[z5T];exact HNl.out.symm
   have hq:=HP.out.rq;rw[List.take_of_length_le (by rw[hpl];exact Nat.le_refl _)]at hq;have hR3:=(HP.out.be.block _ (Qz HR2.out)).trans HR2.out;obtain⟨u0,f0⟩:=Qk hR3;have lr:=Qz hR3;have HR3:=hid hR3;obtain⟨t0,t1⟩:=Qk HSb.out;have lsb:=Qz HSb.out;have hset:wr.grownBy (wr.setCell ⟨w.heap.size+1,0,none⟩ (.slice sa j sca)) (some (w.heap.size+1)):=grownBy_setCell' _ _ _;have HFin:Hid (Qg (wr.setCell ⟨w.heap.size+1,0,none⟩ (.slice sa j sca)) (wr.setCell ⟨w.heap.size+1,0,none⟩ (.slice sa j sca)).heap.size sa j (bG rs KK)):=by
    have ho':=HP.out.ow.kept hset (.inr (fun e=>by have:=(HP.out.ow.lt _ e).1;have:=Qz HR2.out;omega));have hq':Xz (wr.setCell ⟨w.heap.size+1,0,none⟩ (.slice sa j sca)) (fun g=>w2.heap.size<=g) (bG rs KK) xs:=Xz.kept (fun g cur hp _=>⟨Below.heap_setCell _ _ _ _ (fun e=>by have e2:g=w.heap.size+1:=e;have:=Qz HR2.out;omega),hp⟩) _ _ hq;obtain⟨so',cap',ea,hrg⟩:=Xz.is ho' hpl.symm hq';simp only[Value.slice.injEq]at ea;obtain⟨rfl,-,rfl⟩:=ea;exact hrg
   have HBf:Hid (Below w.heap.size w (wr.setCell ⟨w.heap.size+1,0,none⟩ (.slice sa j sca))):=HBw.out.setCell (p:=⟨w.heap.size+1,0,none⟩) (by show w.heap.size<=_+1;omega) _;clear hq hset hR3 hpl
   go_wp2_with fail
   have r0:=(Qk (Qy HR3.out 0 (.slice sa j sca))).1;refine bodyPost_ret (v:=.tuple #[.agg #[.slice sa j sca],.nilIface]) (by simp[results,Tryz.results34,go_sem,r0]) rfl ?_;refine⟨HBf.out,.inr ⟨rfl,sa,sca,m,by rw[<-HNl.out],HFx.out,?_⟩⟩;rw[<-HNl.out,<-HKK.out];exact HFin.out
theorem z5U(so:Option Addr)(n cap:Nat)(rs:List Rr)(X:Option (Int ⊕ (Int×Int)))(B:Nat)(w:World)(hX:CkX rs X)(hC:CkC so n cap rs X w)(hz:RgZ rs)(h:Qg w B so n rs)(hB:B<=w.heap.size):∀W:World,Below w.heap.size w W->Calls prog 34 #[.agg #[.slice so n cap]] W (BfP rs X W):=fun W hW=>by
 have hup:∀{W'},Below W.heap.size W W'->Below w.heap.size w W':=fun hW'=>hW.trans (hW'.mono hW.size)
 have hRu:=fun(W':World) (hW':Below W.heap.size W W')=>z5o so n cap rs X B w hX hC hz h hB W' (hup hW')
 cases X with
 |some x=>
  refine(y5d so n cap (some x) W (hid fun W' hW'=>(hRu W' hW').mono fun e w' he=> ?_)).mono fun e w' he=> ?_
  ·obtain⟨hb,⟨_,v,h1,h2⟩|⟨h0,_⟩⟩:=he
   ·obtain⟨tt,uu,rfl⟩:=h2.shape (by simp)
    exact⟨tt,uu,h1,h2,hb⟩
   ·cases h0
  ·obtain⟨v,h1,h2,h3⟩:=he
   exact⟨h3,.inl ⟨by simp,v,h1,h2⟩⟩
 |none=>
  have hlen:=(Ff hX.1).2;exact y5f so n cap rs W ((h.below (hW.mono hB)).upto (Nat.le_trans hB hW.size)) (by have:=h.1;omega) (hid hRu)
open Go.Extern.Stop Go.Stop Go.Extern
theorem Tryz.isTypeOf(v:Value)(w:World):(Extern.ReflectliteType.typeOf #[.iface 325 v]).run prog w=.ok (.iface 165 (.agg #[.pointer (some ⟨4,325,none⟩)])) w:=by kernel_rfl
theorem Tryz.isComparable(w:World):((Extern.ReflectliteType.method fun t=>do Go.Extern.Rtype.noPackHeld "Comparable" t;pure (Value.bool (<-typeInfo t).comparable)) #[.agg #[.pointer (some ⟨4,325,none⟩)]]).run prog w=.ok (.bool true) w:=by kernel_rfl
theorem Tryz.callComparable(w:World):(callFunc 310 #[.agg #[.pointer (some ⟨4,325,none⟩)]]).run prog w=.ok (.value (.bool true)) w:=by
 rw[@run_callFunc_extern prog 310 _ (Extern.ReflectliteType.method fun t=>do Go.Extern.Rtype.noPackHeld "Comparable" t;pure (Value.bool (<-typeInfo t).comparable)) func310 (by kernel_rfl) (by kernel_rfl) (by kernel_rfl) (by kernel_rfl),Tryz.isComparable];rfl
theorem Tryz.isMethodComparable(v:Value)(w:World):(Go.method 456 165 v "Comparable").run prog w=.ok (310,v) w:=by kernel_rfl
theorem Tryz.isComp:(Tryz.prog.info? 325).map (·.comparable)=some true:=by kernel_rfl
theorem Tryz.isSize:(Tryz.prog.info? 344).map (·.size)=some 1:=by kernel_rfl
theorem y5g(a:Addr)(w:World):
  Calls prog 110 #[.iface 325 (.pointer (some a)),.iface 325 (.pointer (some a))] w fun e w'=>e=.returned (.bool true)/\w'=w:=by
 obtain⟨i,hi,hcmp⟩:=Option.map_eq_some_iff.1 Tryz.isComp;obtain⟨j,hj,hjs⟩:=Option.map_eq_some_iff.1 Tryz.isSize;have h8:= @run_callFunc_extern prog 79 _ Extern.ReflectliteType.typeOf func79 (by kernel_rfl) (by kernel_rfl) (by kernel_rfl) (by kernel_rfl);have h32:=Tryz.callComparable;have tT:=Tryz.isTypeOf;have mR:=Tryz.isMethodComparable;have heq:=run_eql_iface_ptr_same (P:=prog) w a Tryz.underlying28 Tryz.underlying325 hi hcmp hj;go_enter func110,ntmps110
 go_wp2
 refine wp_loop_rounds 1 ?_;rw[rounds_succ]
 go_wp2
 go_ret;exact⟨rfl,rfl⟩
theorem y5h(b:Addr)(w:World):
  Calls prog 110 #[.nilIface,.iface 325 (.pointer (some b))] w fun e w'=>e=.returned (.bool false)/\w'=w:=by
 have hn:=run_eql_iface_nil_left (P:=prog) w 325 (.pointer (some b)) Tryz.underlying28;go_enter func110,ntmps110
 go_wp2
 go_ret;exact⟨rfl,rfl⟩
theorem Og{nB g o:Nat}{v x0 x1 x2 x3 x4 x5 x6 x7 y0 y1 y2 y3 y4 y5 y6 y7:Value}(h:W.cell? ⟨sB,0,none⟩=some v/\(W.cell? ⟨nB,0,none⟩=some x0/\W.cell? ⟨nB,1,none⟩=some x1/\W.cell? ⟨nB,2,none⟩=some x2/\W.cell? ⟨nB,3,none⟩=some x3/\W.cell? ⟨nB,4,none⟩=some x4/\W.cell? ⟨nB,5,none⟩=some x5/\W.cell? ⟨nB,6,none⟩=some x6/\W.cell? ⟨nB,7,none⟩=some x7)/\W.cell? ⟨g,o,none⟩=some y0/\W.cell? ⟨g,o+1,none⟩=some y1/\W.cell? ⟨g,o+2,none⟩=some y2/\W.cell? ⟨g,o+3,none⟩=some y3/\W.cell? ⟨g,o+4,none⟩=some y4/\W.cell? ⟨g,o+5,none⟩=some y5/\W.cell? ⟨g,o+6,none⟩=some y6/\W.cell? ⟨g,o+7,none⟩=some y7)(hb:Below W.heap.size W W'):W'.cell? ⟨sB,0,none⟩=some v/\(W'.cell? ⟨nB,0,none⟩=some x0/\W'.cell? ⟨nB,1,none⟩=some x1/\W'.cell? ⟨nB,2,none⟩=some x2/\W'.cell? ⟨nB,3,none⟩=some x3/\W'.cell? ⟨nB,4,none⟩=some x4/\W'.cell? ⟨nB,5,none⟩=some x5/\W'.cell? ⟨nB,6,none⟩=some x6/\W'.cell? ⟨nB,7,none⟩=some x7)/\W'.cell? ⟨g,o,none⟩=some y0/\W'.cell? ⟨g,o+1,none⟩=some y1/\W'.cell? ⟨g,o+2,none⟩=some y2/\W'.cell? ⟨g,o+3,none⟩=some y3/\W'.cell? ⟨g,o+4,none⟩=some y4/\W'.cell? ⟨g,o+5,none⟩=some y5/\W'.cell? ⟨g,o+6,none⟩=some y6/\W'.cell? ⟨g,o+7,none⟩=some y7:=by
 obtain⟨h0,h1,h2,h3,h4,h5,h6,h7,h8,h9⟩:=h;have e:∀{a:Addr} {u:Value},W.cell? a=some u->W'.cell? a=some u:=fun{a u} h=>(hb.cell (p:=a) (World.block_lt_of_cell? W _ h)).trans h
 exact⟨e h0,Ak h1 hb,e h2,e h3,e h4,e h5,e h6,e h7,e h8,e h9⟩
theorem z5V(a b c:Bool)(w:World):(Instr.field 47 (.agg #[.bool a,.bool b,.bool c]) 0).run prog w=.ok (.bool a) w:=by kernel_rfl
def LkQ(fp:Addr)(aB:Nat)(r:Option Int)(at':Int)(W:World)(e:Ending)(w':World):Prop:=W.grownBy w' (some aB)/\
 ((r=none/\e=.returned .nilIface/\w'.heap[aB]? =some (.cells #[.int .i64 at'] 3))∨∃q,r=some q/\e=.returned (.iface 325 (.pointer (some fp)))/\w'.heap[aB]? =some (.cells #[.int .i64 q] 3))
theorem y5i(k:Int)(T:ByteArray)(a b c d p:Int)(so:Option Addr)(n cap sB aB:Nat)(W:World)(h1:k≠9)(h2:k≠10):
  Calls prog 107 #[.agg #[.int .i64 k,.string T,.int .u64 a,.int .u64 b,.int .u64 c,.int .u64 d,.slice so n cap,.int .i64 p],.pointer (some ⟨sB,0,none⟩),.pointer (some ⟨aB,0,none⟩)] W fun e w'=>e=.returned .nilIface/\Below W.heap.size W w':=by
 obtain⟨W1,hW1⟩:∃W1,W1=W.alloc (.cells #[.int .i64 k,.string T,.int .u64 a,.int .u64 b,.int .u64 c,.int .u64 d,.slice so n cap,.int .i64 p] 58):=⟨_,rfl⟩;have HB1:Hid (Below W.heap.size W W1.drew):=by rw[hW1];exact((Below.refl _ W).alloc L0q _).drew
 have hN1:W1.drew.heap[W.heap.size]? =some (.cells #[.int .i64 k,.string T,.int .u64 a,.int .u64 b,.int .u64 c,.int .u64 d,.slice so n cap,.int .i64 p] 58):=by rw[hW1];exact Qq W _ rfl
 obtain⟨nB,hnB⟩:∃nB,nB=W.heap.size:=⟨_,rfl⟩;rw[<-hnB]at hN1;have HS0:Hid (W1.drew.cell? ⟨nB,0,none⟩=some (.int .i64 k)/\W1.drew.cell? ⟨nB,1,none⟩=some (.string T)/\W1.drew.cell? ⟨nB,2,none⟩=some (.int .u64 a)/\W1.drew.cell? ⟨nB,3,none⟩=some (.int .u64 b)/\W1.drew.cell? ⟨nB,4,none⟩=some (.int .u64 c)/\W1.drew.cell? ⟨nB,5,none⟩=some (.int .u64 d)/\W1.drew.cell? ⟨nB,6,none⟩=some (.slice so n cap)/\W1.drew.cell? ⟨nB,7,none⟩=some (.int .i64 p)):=hid (Qd hN1).1;clear hN1;go_enter func107,ntmps107
 go_wp2_with fail
 rw[<-hW1,<-hnB];clear hW1 hnB;refine Vw 99 (fun W:World=>W.cell? ⟨nB,0,none⟩=some (.int .i64 k)/\W.cell? ⟨nB,1,none⟩=some (.string T)/\W.cell? ⟨nB,2,none⟩=some (.int .u64 a)/\W.cell? ⟨nB,3,none⟩=some (.int .u64 b)/\W.cell? ⟨nB,4,none⟩=some (.int .u64 c)/\W.cell? ⟨nB,5,none⟩=some (.int .u64 d)/\W.cell? ⟨nB,6,none⟩=some (.slice so n cap)/\W.cell? ⟨nB,7,none⟩=some (.int .i64 p)) (by kernel_rfl) HS0.out (fun hHeld=> ?_);refine Qx 0 hHeld ?_
 (refine Zy 1 (fun K hK=> ?_);go_simp;refine(y4P k T a b c d p so n cap _ h1 h2).mono ?_;rintro e w2 ⟨rfl,hb2⟩;go_simp;replace hHeld:=Ak hHeld hb2;refine hK.out _ _ hHeld ?_;clear hK K)
 (try simp only[Act.put,List.setIfInBounds_toArray,List.set_cons_zero,List.set_cons_succ])
 refine Qx 2 hHeld ?_;refine Qx 3 hHeld ?_;refine Qx 4 hHeld ?_;refine Qx 5 hHeld ?_;refine Qx 6 hHeld ?_;refine Qx 7 hHeld ?_;refine Qx 8 hHeld ?_
 first
  |(refine Kz (i:=9) (oi:=({dst:=some 14,op:=Op.call {callee:=Callee.value (Operand.func 109),args:=#[Operand.tmp 9,Operand.tmp 13],argTypes:=#[24,58]},type:=47,pos:="sound.go:62",after:=#[{on:=4,ground:=Ground.data},{on:=8,ground:=Ground.data},{on:=3,ground:=Ground.chain},{on:=3,ground:=Ground.guard}],guard:=some (3,false)}:Oper)) (v:=undef) rfl (by kernel_rfl) (by kernel_rfl) (by kernel_rfl) (fun _ _ _ h=>h) (Or.inr ⟨by rfl,rfl⟩) hHeld ?_)
  |(refine Zy 9 (fun K hK=> ?_);fail)
 (try simp only[Act.put,List.setIfInBounds_toArray,List.set_cons_zero,List.set_cons_succ])
 refine Qx 10 hHeld ?_;refine Qx 11 hHeld ?_;refine Qx 12 hHeld ?_;refine⟨by kernel_rfl,?_⟩
 go_wp2_with fail
 go_ret;exact⟨rfl,HB1.out.trans (hb2.mono HB1.out.size)⟩
theorem y5j(k:Int)(T:ByteArray)(a b c d p:Int)(g o cap sB aB:Nat)(W:World)(hk:k=9∨k=10)(k1:Int)(T1:ByteArray)(a1 b1 c1 d1 p1:Int)(so1:Option Addr)(n1 cap1:Nat)(so0:Option Addr)(n0 cap0:Nat)(q2 q3:Bool)
  (hs:W.cell? ⟨sB,0,none⟩=some (.slice so0 n0 cap0))(hc:Rc W g o k1 T1 a1 b1 c1 d1 (.slice so1 n1 cap1) p1)
  (HO:Hid (∀W':World,Below W.heap.size W W'->Calls prog 109 #[.agg #[.slice so0 n0 cap0],.agg #[.int .i64 k1,.string T1,.int .u64 a1,.int .u64 b1,.int .u64 c1,.int .u64 d1,.slice so1 n1 cap1,.int .i64 p1]] W' fun e w'=>e=.returned (.agg #[.bool false,.bool q2,.bool q3])/\Below W'.heap.size W' w')):
  Calls prog 107 #[.agg #[.int .i64 k,.string T,.int .u64 a,.int .u64 b,.int .u64 c,.int .u64 d,.slice (some ⟨g,o,none⟩) 1 cap,.int .i64 p],.pointer (some ⟨sB,0,none⟩),.pointer (some ⟨aB,0,none⟩)] W fun e w'=>e=.returned .nilIface/\Below W.heap.size W w':=by
 obtain⟨W1,hW1⟩:∃W1,W1=W.alloc (.cells #[.int .i64 k,.string T,.int .u64 a,.int .u64 b,.int .u64 c,.int .u64 d,.slice (some ⟨g,o,none⟩) 1 cap,.int .i64 p] 58):=⟨_,rfl⟩;have HB1:Hid (Below W.heap.size W W1.drew):=by rw[hW1];exact((Below.refl _ W).alloc L0q _).drew
 have hN1:W1.drew.heap[W.heap.size]? =some (.cells #[.int .i64 k,.string T,.int .u64 a,.int .u64 b,.int .u64 c,.int .u64 d,.slice (some ⟨g,o,none⟩) 1 cap,.int .i64 p] 58):=by rw[hW1];exact Qq W _ rfl
 obtain⟨nB,hnB⟩:∃nB,nB=W.heap.size:=⟨_,rfl⟩;rw[<-hnB]at hN1;have HN1:=hid hN1;have HS0:Hid (W1.drew.cell? ⟨sB,0,none⟩=some (.slice so0 n0 cap0)/\(W1.drew.cell? ⟨nB,0,none⟩=some (.int .i64 k)/\W1.drew.cell? ⟨nB,1,none⟩=some (.string T)/\W1.drew.cell? ⟨nB,2,none⟩=some (.int .u64 a)/\W1.drew.cell? ⟨nB,3,none⟩=some (.int .u64 b)/\W1.drew.cell? ⟨nB,4,none⟩=some (.int .u64 c)/\W1.drew.cell? ⟨nB,5,none⟩=some (.int .u64 d)/\W1.drew.cell? ⟨nB,6,none⟩=some (.slice (some ⟨g,o,none⟩) 1 cap)/\W1.drew.cell? ⟨nB,7,none⟩=some (.int .i64 p))/\W1.drew.cell? ⟨g,o,none⟩=some (.int .i64 k1)/\W1.drew.cell? ⟨g,o+1,none⟩=some (.string T1)/\W1.drew.cell? ⟨g,o+2,none⟩=some (.int .u64 a1)/\W1.drew.cell? ⟨g,o+3,none⟩=some (.int .u64 b1)/\W1.drew.cell? ⟨g,o+4,none⟩=some (.int .u64 c1)/\W1.drew.cell? ⟨g,o+5,none⟩=some (.int .u64 d1)/\W1.drew.cell? ⟨g,o+6,none⟩=some (.slice so1 n1 cap1)/\W1.drew.cell? ⟨g,o+7,none⟩=some (.int .i64 p1)):=by
  have e:∀{a:Addr} {u:Value},W.cell? a=some u->W1.drew.cell? a=some u:=fun{a u} h=>(HB1.out.cell (p:=a) (World.block_lt_of_cell? W _ h)).trans h
  obtain⟨c0,c1',c2,c3,c4,c5,c6,c7⟩:=hc;exact⟨e hs,(Qd hN1).1,e c0,e c1',e c2,e c3,e c4,e c5,e c6,e c7⟩
 have HHs:=hid hs;have lgo:g<W1.drew.heap.size:=Nat.lt_of_lt_of_le (World.block_lt_of_cell? W _ hc.1) HB1.out.size;have hfld:=z5V;clear hN1 hs hc lgo;go_enter func107,ntmps107
 go_wp2_with fail
 rw[<-hW1,<-hnB];clear hW1 hnB;refine Vw 99 (fun W:World=>W.cell? ⟨sB,0,none⟩=some (.slice so0 n0 cap0)/\(W.cell? ⟨nB,0,none⟩=some (.int .i64 k)/\W.cell? ⟨nB,1,none⟩=some (.string T)/\W.cell? ⟨nB,2,none⟩=some (.int .u64 a)/\W.cell? ⟨nB,3,none⟩=some (.int .u64 b)/\W.cell? ⟨nB,4,none⟩=some (.int .u64 c)/\W.cell? ⟨nB,5,none⟩=some (.int .u64 d)/\W.cell? ⟨nB,6,none⟩=some (.slice (some ⟨g,o,none⟩) 1 cap)/\W.cell? ⟨nB,7,none⟩=some (.int .i64 p))/\W.cell? ⟨g,o,none⟩=some (.int .i64 k1)/\W.cell? ⟨g,o+1,none⟩=some (.string T1)/\W.cell? ⟨g,o+2,none⟩=some (.int .u64 a1)/\W.cell? ⟨g,o+3,none⟩=some (.int .u64 b1)/\W.cell? ⟨g,o+4,none⟩=some (.int .u64 c1)/\W.cell? ⟨g,o+5,none⟩=some (.int .u64 d1)/\W.cell? ⟨g,o+6,none⟩=some (.slice so1 n1 cap1)/\W.cell? ⟨g,o+7,none⟩=some (.int .i64 p1)) (by kernel_rfl) HS0.out (fun hHeld=> ?_);refine Qx 0 hHeld ?_
 (refine Zy 1 (fun K hK=> ?_);go_simp;refine(z5R k T a b c d p (some ⟨g,o,none⟩) 1 cap _ hk).mono ?_;rintro e w2 ⟨rfl,hb2⟩;go_simp;replace hHeld:=Og hHeld hb2;refine hK.out _ _ hHeld ?_;clear hK K)
 (try simp only[Act.put,List.setIfInBounds_toArray,List.set_cons_zero,List.set_cons_succ])
 refine Qx 2 hHeld ?_;refine Qx 3 hHeld ?_;refine Qx 4 hHeld ?_;refine Qx 5 hHeld ?_;refine Qx 6 hHeld ?_;refine Qx 7 hHeld ?_;refine Qx 8 hHeld ?_
 first
  |(refine Kz (i:=9) (oi:=({dst:=some 14,op:=Op.call {callee:=Callee.value (Operand.func 109),args:=#[Operand.tmp 9,Operand.tmp 13],argTypes:=#[24,58]},type:=47,pos:="sound.go:62",after:=#[{on:=4,ground:=Ground.data},{on:=8,ground:=Ground.data},{on:=3,ground:=Ground.chain},{on:=3,ground:=Ground.guard}],guard:=some (3,false)}:Oper)) (v:=undef) rfl (by kernel_rfl) (by kernel_rfl) (by kernel_rfl) (fun _ _ _ h=>h) (Or.inr ⟨by rfl,rfl⟩) hHeld ?_)
  |(refine Zy 9 (fun K hK=> ?_);go_simp;refine(HO.out _ (HB1.out.trans (hb2.mono HB1.out.size))).mono ?_;rintro e w3 ⟨rfl,hb3⟩;go_simp;replace hHeld:=Og hHeld hb3;refine hK.out _ _ hHeld ?_;clear hK K)
 (try simp only[Act.put,List.setIfInBounds_toArray,List.set_cons_zero,List.set_cons_succ])
 refine Qx 10 hHeld ?_;refine Qx 11 hHeld ?_;refine Qx 12 hHeld ?_;refine⟨by kernel_rfl,?_⟩;have HB3:=hid ((HB1.out.trans (hb2.mono HB1.out.size)).trans (hb3.mono (Nat.le_trans HB1.out.size hb2.size)))
 go_wp2_with fail
 go_ret;exact⟨rfl,HB3.out⟩
theorem y5k(k:Int)(T:ByteArray)(a b c d p:Int)(g o cap sB aB:Nat)(W:World)(hk:k=9∨k=10)(k1:Int)(T1:ByteArray)(a1 b1 c1 d1 p1:Int)(so1:Option Addr)(n1 cap1:Nat)(so0:Option Addr)(n0 cap0:Nat)(q2 q3:Bool)(fp:Addr)(x:Value)(ha:W.heap[aB]? =some (.cells #[x] 3))(hf:W.cell? ⟨1,0,none⟩=some (.iface 325 (.pointer (some fp))))(hne:1≠aB)
  (hs:W.cell? ⟨sB,0,none⟩=some (.slice so0 n0 cap0))(hc:Rc W g o k1 T1 a1 b1 c1 d1 (.slice so1 n1 cap1) p1)
  (HO:Hid (∀W':World,Below W.heap.size W W'->Calls prog 109 #[.agg #[.slice so0 n0 cap0],.agg #[.int .i64 k1,.string T1,.int .u64 a1,.int .u64 b1,.int .u64 c1,.int .u64 d1,.slice so1 n1 cap1,.int .i64 p1]] W' fun e w'=>e=.returned (.agg #[.bool true,.bool q2,.bool q3])/\Below W'.heap.size W' w')):
  Calls prog 107 #[.agg #[.int .i64 k,.string T,.int .u64 a,.int .u64 b,.int .u64 c,.int .u64 d,.slice (some ⟨g,o,none⟩) 1 cap,.int .i64 p],.pointer (some ⟨sB,0,none⟩),.pointer (some ⟨aB,0,none⟩)] W fun e w'=>e=.returned (.iface 325 (.pointer (some fp)))/\W.grownBy w' (some aB)/\w'.heap[aB]? =some (.cells #[.int .i64 p] 3):=by
 obtain⟨W1,hW1⟩:∃W1,W1=W.alloc (.cells #[.int .i64 k,.string T,.int .u64 a,.int .u64 b,.int .u64 c,.int .u64 d,.slice (some ⟨g,o,none⟩) 1 cap,.int .i64 p] 58):=⟨_,rfl⟩;have HB1:Hid (Below W.heap.size W W1.drew):=by rw[hW1];exact((Below.refl _ W).alloc L0q _).drew
 have hN1:W1.drew.heap[W.heap.size]? =some (.cells #[.int .i64 k,.string T,.int .u64 a,.int .u64 b,.int .u64 c,.int .u64 d,.slice (some ⟨g,o,none⟩) 1 cap,.int .i64 p] 58):=by rw[hW1];exact Qq W _ rfl
 obtain⟨nB,hnB⟩:∃nB,nB=W.heap.size:=⟨_,rfl⟩;rw[<-hnB]at hN1;have HN1:=hid hN1;have HS0:Hid (W1.drew.cell? ⟨sB,0,none⟩=some (.slice so0 n0 cap0)/\(W1.drew.cell? ⟨nB,0,none⟩=some (.int .i64 k)/\W1.drew.cell? ⟨nB,1,none⟩=some (.string T)/\W1.drew.cell? ⟨nB,2,none⟩=some (.int .u64 a)/\W1.drew.cell? ⟨nB,3,none⟩=some (.int .u64 b)/\W1.drew.cell? ⟨nB,4,none⟩=some (.int .u64 c)/\W1.drew.cell? ⟨nB,5,none⟩=some (.int .u64 d)/\W1.drew.cell? ⟨nB,6,none⟩=some (.slice (some ⟨g,o,none⟩) 1 cap)/\W1.drew.cell? ⟨nB,7,none⟩=some (.int .i64 p))/\W1.drew.cell? ⟨g,o,none⟩=some (.int .i64 k1)/\W1.drew.cell? ⟨g,o+1,none⟩=some (.string T1)/\W1.drew.cell? ⟨g,o+2,none⟩=some (.int .u64 a1)/\W1.drew.cell? ⟨g,o+3,none⟩=some (.int .u64 b1)/\W1.drew.cell? ⟨g,o+4,none⟩=some (.int .u64 c1)/\W1.drew.cell? ⟨g,o+5,none⟩=some (.int .u64 d1)/\W1.drew.cell? ⟨g,o+6,none⟩=some (.slice so1 n1 cap1)/\W1.drew.cell? ⟨g,o+7,none⟩=some (.int .i64 p1)):=by
  have e:∀{a:Addr} {u:Value},W.cell? a=some u->W1.drew.cell? a=some u:=fun{a u} h=>(HB1.out.cell (p:=a) (World.block_lt_of_cell? W _ h)).trans h
  obtain⟨c0,c1',c2,c3,c4,c5,c6,c7⟩:=hc;exact⟨e hs,(Qd hN1).1,e c0,e c1',e c2,e c3,e c4,e c5,e c6,e c7⟩
 have HHs:=hid hs;have lgo:g<W1.drew.heap.size:=Nat.lt_of_lt_of_le (World.block_lt_of_cell? W _ hc.1) HB1.out.size;have hfld:=z5V;clear hN1 hs hc lgo;go_enter func107,ntmps107
 go_wp2_with fail
 rw[<-hW1,<-hnB];clear hW1 hnB;refine Vw 99 (fun W:World=>W.cell? ⟨sB,0,none⟩=some (.slice so0 n0 cap0)/\(W.cell? ⟨nB,0,none⟩=some (.int .i64 k)/\W.cell? ⟨nB,1,none⟩=some (.string T)/\W.cell? ⟨nB,2,none⟩=some (.int .u64 a)/\W.cell? ⟨nB,3,none⟩=some (.int .u64 b)/\W.cell? ⟨nB,4,none⟩=some (.int .u64 c)/\W.cell? ⟨nB,5,none⟩=some (.int .u64 d)/\W.cell? ⟨nB,6,none⟩=some (.slice (some ⟨g,o,none⟩) 1 cap)/\W.cell? ⟨nB,7,none⟩=some (.int .i64 p))/\W.cell? ⟨g,o,none⟩=some (.int .i64 k1)/\W.cell? ⟨g,o+1,none⟩=some (.string T1)/\W.cell? ⟨g,o+2,none⟩=some (.int .u64 a1)/\W.cell? ⟨g,o+3,none⟩=some (.int .u64 b1)/\W.cell? ⟨g,o+4,none⟩=some (.int .u64 c1)/\W.cell? ⟨g,o+5,none⟩=some (.int .u64 d1)/\W.cell? ⟨g,o+6,none⟩=some (.slice so1 n1 cap1)/\W.cell? ⟨g,o+7,none⟩=some (.int .i64 p1)) (by kernel_rfl) HS0.out (fun hHeld=> ?_);refine Qx 0 hHeld ?_
 (refine Zy 1 (fun K hK=> ?_);go_simp;refine(z5R k T a b c d p (some ⟨g,o,none⟩) 1 cap _ hk).mono ?_;rintro e w2 ⟨rfl,hb2⟩;go_simp;replace hHeld:=Og hHeld hb2;refine hK.out _ _ hHeld ?_;clear hK K)
 (try simp only[Act.put,List.setIfInBounds_toArray,List.set_cons_zero,List.set_cons_succ])
 refine Qx 2 hHeld ?_;refine Qx 3 hHeld ?_;refine Qx 4 hHeld ?_;refine Qx 5 hHeld ?_;refine Qx 6 hHeld ?_;refine Qx 7 hHeld ?_;refine Qx 8 hHeld ?_
 first
  |(refine Kz (i:=9) (oi:=({dst:=some 14,op:=Op.call {callee:=Callee.value (Operand.func 109),args:=#[Operand.tmp 9,Operand.tmp 13],argTypes:=#[24,58]},type:=47,pos:="sound.go:62",after:=#[{on:=4,ground:=Ground.data},{on:=8,ground:=Ground.data},{on:=3,ground:=Ground.chain},{on:=3,ground:=Ground.guard}],guard:=some (3,false)}:Oper)) (v:=undef) rfl (by kernel_rfl) (by kernel_rfl) (by kernel_rfl) (fun _ _ _ h=>h) (Or.inr ⟨by rfl,rfl⟩) hHeld ?_)
  |(refine Zy 9 (fun K hK=> ?_);go_simp;refine(HO.out _ (HB1.out.trans (hb2.mono HB1.out.size))).mono ?_;rintro e w3 ⟨rfl,hb3⟩;go_simp;replace hHeld:=Og hHeld hb3;refine hK.out _ _ hHeld ?_;clear hK K)
 (try simp only[Act.put,List.setIfInBounds_toArray,List.set_cons_zero,List.set_cons_succ])
 refine Qx 10 hHeld ?_;refine Qx 11 hHeld ?_;refine Qx 12 hHeld ?_;refine⟨by kernel_rfl,?_⟩;have HB3:=hid ((HB1.out.trans (hb2.mono HB1.out.size)).trans (hb3.mono (Nat.le_trans HB1.out.size hb2.size)));have hn3:=(hb3.block _ (Nat.lt_of_lt_of_le (Qz HN1.out) hb2.size)).trans ((hb2.block _ (Qz HN1.out)).trans HN1.out);have n7:=(Qd hn3).1.2.2.2.2.2.2.2;have ln:=Qz hn3;have ha3:=(HB3.out.block _ (Qz ha)).trans ha;have HA3:=hid ha3;obtain⟨t0,t1⟩:=Qk ha3;have la:=Qz ha3;have hf3:=(HB3.out.cell (p:=⟨1,0,none⟩) (World.block_lt_of_cell? W _ hf)).trans hf;have hf4:(w3.setCell ⟨aB,0,none⟩ (.int .i64 p)).cell? ⟨1,0,none⟩=some (.iface 325 (.pointer (some fp))):=(World.cell?_of_block (Below.heap_setCell _ _ _ _ hne)).trans hf3;clear hn3 ha3 hf ha hHeld hb2 hb3 HO HS0
 go_wp2_with fail
 go_ret;exact⟨rfl,G.setR (G.below HB3.out),Qy HA3.out 0 _⟩
end Go.Proofs.YtgmcjddjdidpjaaGreatDoor
