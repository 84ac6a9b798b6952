/- Lemmas for the last text. Conditions: those that each names. -/
import Derived.Test.YtgnkkgcgbeianaaGreatDoorVY5ToY7
import Derived.WalkLawsBesides
import Derived.Maps.AppendAt
set_option linter.unusedVariables false
set_option maxRecDepth 100000
set_option maxHeartbeats 16000000
namespace Go.Proofs.YtgnkkgcgbeianaaGreatDoor
open Go.Proofs.Tryz
open Go.RowKit
variable {B R b ru:Nat} {v:Value} {L:List Tok} {W W' w:World} {acc:List Nd}
theorem z9E(B R b:Nat)(v:Value)(L:List Tok)(k ru ne:Nat)(w:World)(h:Rd w R b v L k ru ne)(Y:k<L.length)(y:(gL L k).1=1)(hh:hdB L k=false)(D:Ql L)(hB:B<=w.heap.size):
  Calls prog 270 #[.pointer (some ⟨R,0,none⟩)] w fun e w'=>Qd (.inr (.mk 5 (gL L k).2.1 (gL L k).2.2.1 [] (gL L k).2.2.2,k+1)) B R b v L ru ne w e w':=by
 have ah:=Tryz.fld0;have E:=Gy R b v L k ru ne Y D;have G:=z1Y R b v L k ru ne Y y D;rw[hh]at G;obtain⟨t,Z⟩:∃t,t=gL L k:=⟨_,rfl⟩;rw[<-Z]at E y ⊢;clear Z;obtain⟨kd,T,C,p⟩:=t;have ad:kd=1:=y;subst ad;clear y;have I:Hid (En w R b v L k ru ne (w.alloc Zo)):=En.start h;clear h;have ai:(k:Int)+1<9223372036854775807:=by have:=D.len;omega
 go_enter func270,ntmps270
 go_wp2_with fail
 refine(E.out _ I.out.1).mono ?_;rintro e o ⟨rfl,aa⟩;have U:=hid (I.out.below aa);clear aa I;dsimp only[tkv];have V:=hid ((U.out.alloc (.cells #[.int .i64 1,.string T,.int .u64 (wd C 0),.int .u64 (wd C 1),.int .u64 (wd C 2),.int .u64 (wd C 3),.int .i64 p] 139)).alloc (.cells #[.int .i64 0,.string T,.int .u64 (wd C 0),.int .u64 (wd C 1),.int .u64 (wd C 2),.int .u64 (wd C 3),.slice none 0 0,.int .i64 p] 81));have ab:Hid (((o.alloc (.cells #[.int .i64 1,.string T,.int .u64 (wd C 0),.int .u64 (wd C 1),.int .u64 (wd C 2),.int .u64 (wd C 3),.int .i64 p] 139)).alloc (.cells #[.int .i64 0,.string T,.int .u64 (wd C 0),.int .u64 (wd C 1),.int .u64 (wd C 2),.int .u64 (wd C 3),.slice none 0 0,.int .i64 p] 81)).heap[o.heap.size+1]? =some (.cells #[.int .i64 0,.string T,.int .u64 (wd C 0),.int .u64 (wd C 1),.int .u64 (wd C 2),.int .u64 (wd C 3),.slice none 0 0,.int .i64 p] 81)):=Qx _ _ (by simp);have ae:Hid (w.heap.size<o.heap.size):=U.out.size;clear U
 go_wp2_with fail
 refine(G.out _ V.out.1).mono ?_;rintro e w3 ⟨rfl,A⟩;have r:=hid (V.out.below A);have af:=hid ((A.block _ (by first|(simp;done)|exact HL2.out)).trans ab.out);have ag:Hid (o.heap.size+1<w3.heap.size):=Nat.lt_of_lt_of_le (by first|(simp;done)|exact HL2.out) A.size;clear A V ab;clear G E;obtain⟨⟨m0,m1,m2,m3,m4,m5,m6,m7⟩,⟨y0,y1,y2,y3,y4,y5,y6,y7⟩⟩:=Qy af.out;obtain⟨⟨k0,k1,k2,k3,k4,k5,k6,k7⟩,⟨f0,f1,f2,f3,f4,f5,f6,f7⟩⟩:=r.out.cells;obtain⟨r0,r1,r2,r3,q0,q1,q2,q3⟩:=r.out.1.cells;have aj:=r.out.lt;have ak:=r.out.size;have al:=ae.out;have am:=ag.out;have ao:R≠o.heap.size+1:=by omega
 have ap:R≠w.heap.size:=by omega
 have aq:w.heap.size≠o.heap.size+1:=by omega
 go_wp2_with fail
 (try simp only[Exit.inBlock,Exit.then])
 have ac:En w R b v L (k+1) ru ne ((w3.setCell ⟨o.heap.size+1,0,none⟩ (.int .i64 5)).setCell ⟨R,1,none⟩ (.int .i64 ((k:Int)+1))):=(r.out.other (by omega)).next
 obtain⟨⟨c0,c1,c2,c3,c4,c5,c6,c7⟩,_⟩:=Qy (Uz ac.2.2.1 5 T (wd C 0:Nat) (wd C 1:Nat) (wd C 2:Nat) (wd C 3:Nat) (.slice none 0 0) (p:Int));refine bodyPost_ret (v:=.agg (n8 5 T C (.slice none 0 0) p).toArray) (by simp[results,Tryz.results270,go_sem,c0,c1,c2,c3,c4,c5,c6,c7]) rfl ?_;exact ac.fin (by rw[Qh];exact⟨_,rfl,.inl ⟨rfl,rfl⟩⟩) hB
theorem z9F(B R b:Nat)(v:Value)(L:List Tok)(k ru ne:Nat)(w:World)(h:Rd w R b v L k ru ne)(Z:k<L.length)(A:sgT (gL L k)={data:=#[46]})(D:Ql L)(hB:B<=w.heap.size):
  Calls prog 270 #[.pointer (some ⟨R,0,none⟩)] w fun e w'=>Qd (.inr (.mk 4 {data:=#[]} (gL L k).2.2.1 [] (gL L k).2.2.2,k+1)) B R b v L ru ne w e w':=by
 have ah:=Tryz.fld0;have E:=Gy R b v L k ru ne Z D;have G:=Fy R b v L k ru ne Z D;have I:(gL L k).1=5:=Fw A;rw[A]at G;clear A;obtain⟨t,ht⟩:∃t,t=gL L k:=⟨_,rfl⟩;rw[<-ht]at E I ⊢;clear ht;obtain⟨kd,T,C,p⟩:=t;have ad:kd=5:=I;subst ad;clear I;have U:Hid (En w R b v L k ru ne (w.alloc Zo)):=En.start h;clear h;have ai:(k:Int)+1<9223372036854775807:=by have:=D.len;omega
 go_enter func270,ntmps270
 go_wp2_with fail
 refine(E.out _ U.out.1).mono ?_;rintro e o ⟨rfl,aa⟩;have V:=hid (U.out.below aa);clear aa U;dsimp only[tkv];have Y:=hid ((V.out.alloc (.cells #[.int .i64 5,.string T,.int .u64 (wd C 0),.int .u64 (wd C 1),.int .u64 (wd C 2),.int .u64 (wd C 3),.int .i64 p] 139)).alloc (.cells #[.int .i64 0,.string T,.int .u64 (wd C 0),.int .u64 (wd C 1),.int .u64 (wd C 2),.int .u64 (wd C 3),.slice none 0 0,.int .i64 p] 81));have ab:Hid (((o.alloc (.cells #[.int .i64 5,.string T,.int .u64 (wd C 0),.int .u64 (wd C 1),.int .u64 (wd C 2),.int .u64 (wd C 3),.int .i64 p] 139)).alloc (.cells #[.int .i64 0,.string T,.int .u64 (wd C 0),.int .u64 (wd C 1),.int .u64 (wd C 2),.int .u64 (wd C 3),.slice none 0 0,.int .i64 p] 81)).heap[o.heap.size+1]? =some (.cells #[.int .i64 0,.string T,.int .u64 (wd C 0),.int .u64 (wd C 1),.int .u64 (wd C 2),.int .u64 (wd C 3),.slice none 0 0,.int .i64 p] 81)):=Qx _ _ (by simp);have ae:Hid (w.heap.size<o.heap.size):=V.out.size;clear V
 go_wp2_with fail
 refine(G.out _ Y.out.1).mono ?_;rintro e w3 ⟨rfl,y⟩;have r:=hid (Y.out.below y);have af:=hid ((y.block _ (by first|(simp;done)|exact HL2.out)).trans ab.out);have ag:Hid (o.heap.size+1<w3.heap.size):=Nat.lt_of_lt_of_le (by first|(simp;done)|exact HL2.out) y.size;clear y Y ab;clear G E;obtain⟨⟨m0,m1,m2,m3,m4,m5,m6,m7⟩,⟨y0,y1,y2,y3,y4,y5,y6,y7⟩⟩:=Qy af.out;obtain⟨⟨k0,k1,k2,k3,k4,k5,k6,k7⟩,⟨f0,f1,f2,f3,f4,f5,f6,f7⟩⟩:=r.out.cells;obtain⟨r0,r1,r2,r3,q0,q1,q2,q3⟩:=r.out.1.cells;have aj:=r.out.lt;have ak:=r.out.size;have al:=ae.out;have am:=ag.out;have ao:R≠o.heap.size+1:=by omega
 have ap:R≠w.heap.size:=by omega
 have aq:w.heap.size≠o.heap.size+1:=by omega
 go_wp2_with fail
 (try simp only[Exit.inBlock,Exit.then])
 have ac:En w R b v L (k+1) ru ne (((w3.setCell ⟨o.heap.size+1,0,none⟩ (.int .i64 4)).setCell ⟨o.heap.size+1,1,none⟩ (.string ⟨#[]⟩)).setCell ⟨R,1,none⟩ (.int .i64 ((k:Int)+1))):=((r.out.other (by omega)).other (by omega)).next
 obtain⟨⟨c0,c1,c2,c3,c4,c5,c6,c7⟩,_⟩:=Qy (Uz ac.2.2.1 4 {data:=#[]} (wd C 0:Nat) (wd C 1:Nat) (wd C 2:Nat) (wd C 3:Nat) (.slice none 0 0) (p:Int));refine bodyPost_ret (v:=.agg (n8 4 {data:=#[]} C (.slice none 0 0) p).toArray) (by simp[results,Tryz.results270,go_sem,c0,c1,c2,c3,c4,c5,c6,c7]) rfl ?_;exact ac.fin (by rw[Qh];exact⟨_,rfl,.inl ⟨rfl,rfl⟩⟩) hB
theorem z9G(B R b:Nat)(v:Value)(L:List Tok)(k ru ne:Nat)(w:World)(h:Rd w R b v L k ru ne)(hk:k<L.length)(E:sgT (gL L k)={data:=#[40]})(c:Nat×Nat)(HI:Hid (∀W:World,Rd W R b v L k ru ne->w.heap.size+1<=W.heap.size->Calls prog 286 #[.pointer (some ⟨R,0,none⟩)] W fun e w'=>Qd (.inl c) (w.heap.size+1) R b v L ru ne W e w'))(G:Ql L)(hB:B<=w.heap.size):
  Calls prog 270 #[.pointer (some ⟨R,0,none⟩)] w fun e w'=>Qd (.inl c) B R b v L ru ne w e w':=by
 have ah:=Tryz.fld0;have I:=Gy R b v L k ru ne hk G;have r:=Fy R b v L k ru ne hk G;have U:(gL L k).1=5:=Fw E;rw[E]at r;clear E;obtain⟨t,ht⟩:∃t,t=gL L k:=⟨_,rfl⟩;rw[<-ht]at I U;clear ht;obtain⟨kd,T,C,p⟩:=t;have af:kd=5:=U;subst af;clear U;have V:Hid (En w R b v L k ru ne (w.alloc Zo)):=En.start h;clear h;have ai:(k:Int)+1<9223372036854775807:=by have:=G.len;omega
 go_enter func270,ntmps270
 go_wp2_with fail
 refine(I.out _ V.out.1).mono ?_;rintro e o ⟨rfl,ab⟩;have Y:=hid (V.out.below ab);clear ab V;dsimp only[tkv];have Z:=hid ((Y.out.alloc (.cells #[.int .i64 5,.string T,.int .u64 (wd C 0),.int .u64 (wd C 1),.int .u64 (wd C 2),.int .u64 (wd C 3),.int .i64 p] 139)).alloc (.cells #[.int .i64 0,.string T,.int .u64 (wd C 0),.int .u64 (wd C 1),.int .u64 (wd C 2),.int .u64 (wd C 3),.slice none 0 0,.int .i64 p] 81));clear I;have ac:Hid (((o.alloc (.cells #[.int .i64 5,.string T,.int .u64 (wd C 0),.int .u64 (wd C 1),.int .u64 (wd C 2),.int .u64 (wd C 3),.int .i64 p] 139)).alloc (.cells #[.int .i64 0,.string T,.int .u64 (wd C 0),.int .u64 (wd C 1),.int .u64 (wd C 2),.int .u64 (wd C 3),.slice none 0 0,.int .i64 p] 81)).heap[o.heap.size+1]? =some (.cells #[.int .i64 0,.string T,.int .u64 (wd C 0),.int .u64 (wd C 1),.int .u64 (wd C 2),.int .u64 (wd C 3),.slice none 0 0,.int .i64 p] 81)):=Qx _ _ (by simp);have aj:Hid (w.heap.size<o.heap.size):=Y.out.size;clear Y
 go_wp2_with fail
 refine(r.out _ Z.out.1).mono ?_;rintro e w3 ⟨rfl,y⟩;have aa:=hid (Z.out.below y);have ad:=hid ((y.block _ (by first|(simp;done)|exact HL2.out)).trans ac.out);have ae:Hid (o.heap.size+1<w3.heap.size):=Nat.lt_of_lt_of_le (by first|(simp;done)|exact HL2.out) y.size;clear y Z ac
 go_wp2_with fail
 refine(r.out _ aa.out.1).mono ?_;rintro e w4 ⟨rfl,A⟩;have D:=hid (aa.out.below A);have ag:=hid ((A.block _ (by first|(simp;done)|exact ae.out)).trans ad.out);have ak:Hid (o.heap.size+1<w4.heap.size):=Nat.lt_of_lt_of_le (by first|(simp;done)|exact ae.out) A.size;clear A aa ad;clear r ag
 go_wp2_with fail
 refine(HI.out _ D.out.1 D.out.size).mono ?_;rintro e w5 hA;have HA:Hid (Qd (.inl c) B R b v L ru ne w e w5):=Qd.up D.out hA;obtain⟨f,rfl,_,_⟩:=hA;clear D HI
 go_wp2_with fail
 exact⟨rfl,HA.out⟩
theorem z9H(B R b:Nat)(v:Value)(L:List Tok)(k ru ne:Nat)(w:World)(h:Rd w R b v L k ru ne)(hk:k<L.length)(G:sgT (gL L k)={data:=#[40]})(n:Nd)(I:Nat)(HI:Hid (∀W:World,Rd W R b v L k ru ne->w.heap.size+1<=W.heap.size->Calls prog 286 #[.pointer (some ⟨R,0,none⟩)] W fun e w'=>Qd (.inr (n,I)) (w.heap.size+1) R b v L ru ne W e w'))(U:Ql L)(hB:B<=w.heap.size):
  Calls prog 270 #[.pointer (some ⟨R,0,none⟩)] w fun e w'=>Qd (.inr (n,I)) B R b v L ru ne w e w':=by
 have am:=Tryz.fld0;have V:=Gy R b v L k ru ne hk U;have y:=Fy R b v L k ru ne hk U;have Y:(gL L k).1=5:=Fw G;rw[G]at y;clear G;obtain⟨t,ht⟩:∃t,t=gL L k:=⟨_,rfl⟩;rw[<-ht]at V Y;clear ht;obtain⟨kd,T,C,p⟩:=t;have ak:kd=5:=Y;subst ak;clear Y;have Z:Hid (En w R b v L k ru ne (w.alloc Zo)):=En.start h;clear h;have ao:(k:Int)+1<9223372036854775807:=by have:=U.len;omega
 go_enter func270,ntmps270
 go_wp2_with fail
 refine(V.out _ Z.out.1).mono ?_;rintro e o ⟨rfl,ae⟩;have aa:=hid (Z.out.below ae);clear ae Z;dsimp only[tkv];have ab:=hid ((aa.out.alloc (.cells #[.int .i64 5,.string T,.int .u64 (wd C 0),.int .u64 (wd C 1),.int .u64 (wd C 2),.int .u64 (wd C 3),.int .i64 p] 139)).alloc (.cells #[.int .i64 0,.string T,.int .u64 (wd C 0),.int .u64 (wd C 1),.int .u64 (wd C 2),.int .u64 (wd C 3),.slice none 0 0,.int .i64 p] 81));clear V;have af:Hid (((o.alloc (.cells #[.int .i64 5,.string T,.int .u64 (wd C 0),.int .u64 (wd C 1),.int .u64 (wd C 2),.int .u64 (wd C 3),.int .i64 p] 139)).alloc (.cells #[.int .i64 0,.string T,.int .u64 (wd C 0),.int .u64 (wd C 1),.int .u64 (wd C 2),.int .u64 (wd C 3),.slice none 0 0,.int .i64 p] 81)).heap[o.heap.size+1]? =some (.cells #[.int .i64 0,.string T,.int .u64 (wd C 0),.int .u64 (wd C 1),.int .u64 (wd C 2),.int .u64 (wd C 3),.slice none 0 0,.int .i64 p] 81)):=Qx _ _ (by simp);have ap:Hid (w.heap.size<o.heap.size):=aa.out.size;clear aa
 go_wp2_with fail
 refine(y.out _ ab.out.1).mono ?_;rintro e w3 ⟨rfl,A⟩;have ac:=hid (ab.out.below A);have ag:=hid ((A.block _ (by first|(simp;done)|exact HL2.out)).trans af.out);have ah:Hid (o.heap.size+1<w3.heap.size):=Nat.lt_of_lt_of_le (by first|(simp;done)|exact HL2.out) A.size;clear A ab af
 go_wp2_with fail
 refine(y.out _ ac.out.1).mono ?_;rintro e w4 ⟨rfl,D⟩;have E:=hid (ac.out.below D);have al:=hid ((D.block _ (by first|(simp;done)|exact ah.out)).trans ag.out);have aq:Hid (o.heap.size+1<w4.heap.size):=Nat.lt_of_lt_of_le (by first|(simp;done)|exact ah.out) D.size;clear D ac ag;clear y al
 go_wp2_with fail
 refine(HI.out _ E.out.1 E.out.size).mono ?_;rintro e w5 ⟨cs,rfl,HN,ai,HG⟩;have ad:=hid (E.out.grown ai.out HG.out);clear E HI ai HG;obtain⟨kd,T',r,so,sl,sc,aj⟩:=HN.out.shape;obtain⟨p',hp⟩:∃p',p'=n.at':=⟨_,rfl⟩;rw[<-hp]at aj;subst aj;clear hp;dsimp only[n8];obtain⟨⟨k0,k1,I,k3,k4,k5,k6,k7⟩,⟨f0,f1,f2,f3,f4,f5,f6,f7⟩⟩:=ad.out.cells
 go_wp2_with fail
 (try simp only[Exit.inBlock,Exit.then])
 obtain⟨⟨c0,c1,c2,c3,c4,c5,c6,c7⟩,_⟩:=Qy (Uz ad.out.2.2.1 (kd:Int) T' (wd r 0:Nat) (wd r 1:Nat) (wd r 2:Nat) (wd r 3:Nat) (.slice so sl sc) (p':Int));refine bodyPost_ret (v:=.agg (n8 kd T' r (.slice so sl sc) p').toArray) (by simp[results,Tryz.results270,go_sem,c0,c1,c2,c3,c4,c5,c6,c7]) rfl ?_;exact ad.out.fin HN.out hB
theorem z9I(B R b:Nat)(v:Value)(L:List Tok)(k ru ne:Nat)(w:World)(h:Rd w R b v L k ru ne)(D:k<L.length)(r:(gL L k).1=1)(hh:hdB L k=true)(y:Ql L)(hB:B<=w.heap.size):
  Calls prog 270 #[.pointer (some ⟨R,0,none⟩)] w fun e w'=>Qd (.inl (wrC (gL L k),(gL L k).2.2.2)) B R b v L ru ne w e w':=by
 have ao:=Tryz.fld0;have Y:=Gy R b v L k ru ne D y;have Z:=z1Y R b v L k ru ne D r y;rw[hh]at Z;have E:=Fy R b v L k ru ne D y;have HW:=Ez R b v L k ru ne D y;rw[show sgT (gL L k)={data:=#[]} by unfold sgT;rw[r];rfl]at E;obtain⟨t,ht⟩:∃t,t=gL L k:=⟨_,rfl⟩;rw[<-ht]at Y HW r ⊢;clear ht;obtain⟨kd,T,C,p⟩:=t;have al:kd=1:=r;subst al;clear r;have HE:Hid (En w R b v L k ru ne (w.alloc Zo)):=En.start h;clear h;have ap:(k:Int)+1<9223372036854775807:=by have:=y.len;omega
 go_enter func270,ntmps270
 go_wp2_with fail
 refine(Y.out _ HE.out.1).mono ?_;rintro e o ⟨rfl,af⟩;have aa:=hid (HE.out.below af);clear af HE;dsimp only[tkv];have ab:=hid ((aa.out.alloc (.cells #[.int .i64 1,.string T,.int .u64 (wd C 0),.int .u64 (wd C 1),.int .u64 (wd C 2),.int .u64 (wd C 3),.int .i64 p] 139)).alloc (.cells #[.int .i64 0,.string T,.int .u64 (wd C 0),.int .u64 (wd C 1),.int .u64 (wd C 2),.int .u64 (wd C 3),.slice none 0 0,.int .i64 p] 81));clear Y;have ag:Hid (((o.alloc (.cells #[.int .i64 1,.string T,.int .u64 (wd C 0),.int .u64 (wd C 1),.int .u64 (wd C 2),.int .u64 (wd C 3),.int .i64 p] 139)).alloc (.cells #[.int .i64 0,.string T,.int .u64 (wd C 0),.int .u64 (wd C 1),.int .u64 (wd C 2),.int .u64 (wd C 3),.slice none 0 0,.int .i64 p] 81)).heap[o.heap.size+1]? =some (.cells #[.int .i64 0,.string T,.int .u64 (wd C 0),.int .u64 (wd C 1),.int .u64 (wd C 2),.int .u64 (wd C 3),.slice none 0 0,.int .i64 p] 81)):=Qx _ _ (by simp);have aq:Hid (w.heap.size<o.heap.size):=aa.out.size;clear aa
 go_wp2_with fail
 refine(Z.out _ ab.out.1).mono ?_;rintro e w3 ⟨rfl,A⟩;have ac:=hid (ab.out.below A);have ah:=hid ((A.block _ (by first|(simp;done)|exact HL2.out)).trans ag.out);have ai:Hid (o.heap.size+1<w3.heap.size):=Nat.lt_of_lt_of_le (by first|(simp;done)|exact HL2.out) A.size;have z0:w3.cell? ⟨o.heap.size,0,none⟩=some (.int .i64 1):=by
  rw[World.cell?_of_block (w:=(o.alloc (.cells #[.int .i64 1,.string T,.int .u64 (wd C 0),.int .u64 (wd C 1),.int .u64 (wd C 2),.int .u64 (wd C 3),.int .i64 p] 139)).alloc (.cells #[.int .i64 0,.string T,.int .u64 (wd C 0),.int .u64 (wd C 1),.int .u64 (wd C 2),.int .u64 (wd C 3),.slice none 0 0,.int .i64 p] 81)) (A.block _ (by simp;omega))];simp
 clear A ab ag;clear Z
 go_wp2_with fail
 refine(E.out _ ac.out.1).mono ?_;rintro e w4 ⟨rfl,I⟩;have ad:=hid (ac.out.below I);have aj:=hid ((I.block _ (by first|(simp;done)|exact ai.out)).trans ah.out);have ak:Hid (o.heap.size+1<w4.heap.size):=Nat.lt_of_lt_of_le (by first|(simp;done)|exact ai.out) I.size;clear I ac ah
 go_wp2_with fail
 refine(E.out _ ad.out.1).mono ?_;rintro e w5 ⟨rfl,U⟩;have ae:=hid (ad.out.below U);have am:=hid ((U.block _ (by first|(simp;done)|exact ak.out)).trans aj.out);have ar:Hid (o.heap.size+1<w5.heap.size):=Nat.lt_of_lt_of_le (by first|(simp;done)|exact ak.out) U.size;clear U ad aj;clear E am
 go_wp2_with fail
 refine(HW.out _ ae.out.1).mono ?_;rintro e w6 ⟨f,rfl,V⟩;have HA:Hid (Qd (.inl (wrC (1,T,C,p),p)) B R b v L ru ne w (.panicked [{v:=.iface 134 (.pointer (some ⟨f,0,none⟩)),recovered:=false}]) w6):=Qd.up (B':=0) (ne':=ne) ae.out ⟨f,rfl,hid ⟨V.out.1,V.out.2.1⟩,hid (G.below V.out.2.2)⟩;clear V ae HW
 go_wp2_with fail
 exact⟨rfl,HA.out⟩
theorem z9J(R b:Nat)(v:Value)(L:List Tok)(ru ne:Nat)(y:Nat->Pr)(t:Ql L)(D:MC 286 y (fun k=>sgT (gL L k)={data:=#[40]}) R b v L ru ne):
  MC 270 (Uq L y) (fun _=>True) R b v L ru ne:=by
 intro k B w h o _ r;unfold Uq;by_cases h1:(gL L k).1=1
 ·cases hh:hdB L k with
  |false=>
   rw[if_pos ⟨h1,rfl⟩];exact z9E B R b v L k ru ne w h o h1 hh t r
  |true=>
   rw[if_neg (by simp),if_neg (by omega),if_neg (by omega),if_neg (by unfold sgT;rw[h1];simp),if_neg (by unfold sgT;rw[h1];simp)];exact z9I B R b v L k ru ne w h o h1 hh t r
 rw[if_neg (by omega)];by_cases h3:(gL L k).1=3
 ·rw[if_pos h3]
  exact z9C B R b v L k ru ne w h o h3 t r
 rw[if_neg h3];by_cases h4:(gL L k).1=4
 ·rw[if_pos h4]
  exact z9D B R b v L k ru ne w h o h4 t r
 rw[if_neg h4];by_cases h5:sgT (gL L k)={data:=#[46]}
 ·rw[if_pos h5]
  exact z9F B R b v L k ru ne w h o h5 t r
 rw[if_neg h5];by_cases h6:sgT (gL L k)={data:=#[40]}
 ·rw[if_pos h6]
  have A:Hid (∀W:World,Rd W R b v L k ru ne->w.heap.size+1<=W.heap.size->Calls prog 286 #[.pointer (some ⟨R,0,none⟩)] W fun e w'=>Qd (y k) (w.heap.size+1) R b v L ru ne W e w'):=fun W E r=>D k _ W E o h6 r
  cases hs:y k with
  |inl c=>rw[hs]at A;exact z9G B R b v L k ru ne w h o h6 c A t r
  |inr q=>obtain⟨n,G⟩:=q;rw[hs]at A;exact z9H B R b v L k ru ne w h o h6 n G A t r
 rw[if_neg h6,Vy o];rw[Vy o]at h1 h3 h4 h5 h6;exact z9y B R b v L k ru ne _ w h o rfl h1 h3 h4 h5 h6 t.len r
theorem z9K(R b:Nat)(v:Value)(L:List Tok)(ru ne:Nat)(ad:Nat->Pr)(hg:Ql L)(ha:Adv L ad)(ho:MC 270 (Uq L ad) (fun _=>True) R b v L ru ne):
  MC 249 (Gw L ad) (fun _=>True) R b v L ru ne:=by
 intro k B w h hk _ hB;have hO:=ho k (w.heap.size+1) (w.alloc Zo) (h.alloc _) hk trivial (by simp);have HE:Hid (En w R b v L k ru ne (w.alloc Zo)):=En.start h;unfold Gw;cases hs:Uq L ad k with
 |inl c=>
  rw[hs]at hO;have HO:=hid hO;clear hO hs ho h;show Calls _ _ _ _ (fun e w'=>Qd (.inl c) B R b v L ru ne w e w');go_enter func249,ntmps249
  go_wp2_with fail
  refine HO.out.mono ?_;rintro e o hA;have HA:Hid (Qd (.inl c) B R b v L ru ne w e o):=Qd.up HE.out hA;obtain⟨f,rfl,_,_⟩:=hA
  go_wp2_with fail
  exact⟨rfl,HA.out⟩
 |inr q=>
  obtain⟨n,k'⟩:=q;have au:=(z1T hg ha hk hs).2;rw[hs]at hO;have HO:=hid hO;have HS:=Fy R b v L k' ru ne au hg;unfold Jf;simp only;obtain⟨Z,hZ⟩:∃Z,Z=sgT (gL L k'):=⟨_,rfl⟩;rw[<-hZ]at HS ⊢;have HP:=hid (fun w=>z9p Z w);obtain⟨r,hr⟩:∃r,r=rpK Z:=⟨_,rfl⟩;rw[<-hr]at HP ⊢;have az:(k':Int)+1<9223372036854775807:=by have:=hg.len;omega
  clear hO hs ho h hZ hr;by_cases hr0:r=0
  ·subst hr0
   rw[if_pos rfl];go_enter func249,ntmps249
   go_wp2_with fail
   refine HO.out.mono ?_;rintro e o ⟨cs,rfl,U,HR,HG⟩;have V:=hid (HE.out.grown HR.out HG.out);clear HR HG HO HE;obtain⟨kd,T,C,t,y,A,I⟩:=U.out.shape;obtain⟨p,hp⟩:∃p,p=n.at':=⟨_,rfl⟩;rw[<-hp]at I;subst I;clear hp;dsimp only[n8];have Y:=hid (V.out.alloc (.cells #[.int .i64 kd,.string T,.int .u64 (wd C 0),.int .u64 (wd C 1),.int .u64 (wd C 2),.int .u64 (wd C 3),.slice t y A,.int .i64 p] 81));have aa:=hid (U.out.below (((Below.refl _ o).alloc L0q (.cells #[.int .i64 kd,.string T,.int .u64 (wd C 0),.int .u64 (wd C 1),.int .u64 (wd C 2),.int .u64 (wd C 3),.slice t y A,.int .i64 p] 81))));have ab:Hid ((o.alloc (.cells #[.int .i64 kd,.string T,.int .u64 (wd C 0),.int .u64 (wd C 1),.int .u64 (wd C 2),.int .u64 (wd C 3),.slice t y A,.int .i64 p] 81)).heap[o.heap.size]? =some (.cells #[.int .i64 kd,.string T,.int .u64 (wd C 0),.int .u64 (wd C 1),.int .u64 (wd C 2),.int .u64 (wd C 3),.slice t y A,.int .i64 p] 81)):=Qx _ _ rfl;have ag:Hid (w.heap.size<o.heap.size):=V.out.size;clear V U
   go_wp2_with fail
   refine(HS.out _ Y.out.1).mono ?_;rintro e w2 ⟨rfl,D⟩;have E:=hid (Y.out.below D);have ae:=hid (aa.out.below D);have af:=hid ((D.block _ (by simp)).trans ab.out);have ah:Hid (o.heap.size<w2.heap.size):=Nat.lt_of_lt_of_le (by simp) D.size;clear D HS Y aa ab
   go_wp2_with fail
   refine(HP.out _).mono ?_;rintro e w3 ⟨rfl,ac⟩;rw[ac];clear ac HP;obtain⟨⟨m0,m1,m2,m3,m4,m5,m6,m7⟩,⟨y0,y1,y2,y3,y4,y5,y6,y7⟩⟩:=Qy af.out;obtain⟨⟨k0,k1,k2,k3,k4,k5,k6,k7⟩,⟨f0,f1,f2,f3,f4,f5,f6,f7⟩⟩:=E.out.cells;have av:=ag.out;have aw:=ah.out;have ax:w.heap.size≠o.heap.size:=by omega
   go_wp2_with fail
   (try simp only[Exit.inBlock,Exit.then])
   obtain⟨⟨c0,c1,c2,c3,c4,c5,c6,c7⟩,_⟩:=Qy (Uz E.out.2.2.1 (kd:Int) T (wd C 0:Nat) (wd C 1:Nat) (wd C 2:Nat) (wd C 3:Nat) (.slice t y A) (p:Int));refine bodyPost_ret (v:=.agg (n8 kd T C (.slice t y A) p).toArray) (by simp[results,Tryz.results249,go_sem,c0,c1,c2,c3,c4,c5,c6,c7]) rfl ?_;exact E.out.fin ae.out hB
  ·rw[if_neg hr0]
   have t0:((r:Int) == 0)=false:=by simp;omega
   go_enter func249,ntmps249
   go_wp2_with fail
   refine HO.out.mono ?_;rintro e o ⟨cs,rfl,U,HR,HG⟩;have V:=hid (HE.out.grown HR.out HG.out);clear HR HG HO HE;obtain⟨kd,T,C,t,y,A,I⟩:=U.out.shape;obtain⟨p,hp⟩:∃p,p=n.at':=⟨_,rfl⟩;rw[<-hp]at I;subst I;have ay:Hid (n.at'=p):=hp.symm;clear hp;dsimp only[n8];have Y:=hid (V.out.alloc (.cells #[.int .i64 kd,.string T,.int .u64 (wd C 0),.int .u64 (wd C 1),.int .u64 (wd C 2),.int .u64 (wd C 3),.slice t y A,.int .i64 p] 81));have aa:=hid (U.out.below (((Below.refl _ o).alloc L0q (.cells #[.int .i64 kd,.string T,.int .u64 (wd C 0),.int .u64 (wd C 1),.int .u64 (wd C 2),.int .u64 (wd C 3),.slice t y A,.int .i64 p] 81))));have ab:Hid ((o.alloc (.cells #[.int .i64 kd,.string T,.int .u64 (wd C 0),.int .u64 (wd C 1),.int .u64 (wd C 2),.int .u64 (wd C 3),.slice t y A,.int .i64 p] 81)).heap[o.heap.size]? =some (.cells #[.int .i64 kd,.string T,.int .u64 (wd C 0),.int .u64 (wd C 1),.int .u64 (wd C 2),.int .u64 (wd C 3),.slice t y A,.int .i64 p] 81)):=Qx _ _ rfl;have ag:Hid (w.heap.size<o.heap.size):=V.out.size;clear V U hr0
   go_wp2_with fail
   refine(HS.out _ Y.out.1).mono ?_;rintro e w2 ⟨rfl,D⟩;have E:=hid (Y.out.below D);have ae:=hid (aa.out.below D);have af:=hid ((D.block _ (by simp)).trans ab.out);have ah:Hid (o.heap.size<w2.heap.size):=Nat.lt_of_lt_of_le (by simp) D.size;clear D HS Y aa ab
   go_wp2_with fail
   refine(HP.out _).mono ?_;rintro e w3 ⟨rfl,ac⟩;rw[ac];clear ac HP;obtain⟨⟨m0,m1,m2,m3,m4,m5,m6,m7⟩,⟨y0,y1,y2,y3,y4,y5,y6,y7⟩⟩:=Qy af.out;obtain⟨r0,r1,r2,r3,q0,q1,q2,q3⟩:=E.out.1.cells;have aA:=E.out.lt;have av:=ag.out;have aw:=ah.out;have aB:=E.out.1.lt;have aC:R≠o.heap.size:=by omega
   have ax:w.heap.size≠o.heap.size:=by omega
   have ai:=hid E.out.next;have ak:=hid (Qh.grown ae.out (G.setR (u:=.int .i64 ((k':Int)+1)) (j:=1) (G.refl w2 R)) E.out.1.1);clear E ae af
   go_wp2_with fail
   refine(Pd r p (w.heap.size+1) n _ _ ak.out (by have:=ai.out.size;omega)).mono ?_;rintro e w5 ⟨cs,rfl,al,am⟩;have aj:=hid (ai.out.below am.out);clear ak ai am;obtain⟨ao,T2,C2,ap,aq,ar,I⟩:=al.out.shape;rw[show(Nd.mk r {data:=#[]} 0 [n] p).at'=p from rfl]at I;subst I;obtain⟨p2,aD⟩:∃q,q=p:=⟨p,rfl⟩;dsimp only[n8];obtain⟨⟨k0,k1,k2,k3,k4,k5,k6,k7⟩,⟨f0,f1,f2,f3,f4,f5,f6,f7⟩⟩:=aj.out.cells;clear m0 m1 m2 m3 m4 m5 m6 m7 y0 y1 y2 y3 y4 y5 y6 y7 r0 r1 r2 r3 q0 q1 q2 q3
   go_wp2_with fail
   rw[ay.out]
   (try simp only[Exit.inBlock,Exit.then])
   obtain⟨⟨c0,c1,c2,c3,c4,c5,c6,c7⟩,_⟩:=Qy (Uz aj.out.2.2.1 (ao:Int) T2 (wd C2 0:Nat) (wd C2 1:Nat) (wd C2 2:Nat) (wd C2 3:Nat) (.slice ap aq ar) (p:Int));refine bodyPost_ret (v:=.agg (n8 ao T2 C2 (.slice ap aq ar) p).toArray) (by simp[results,Tryz.results249,go_sem,c0,c1,c2,c3,c4,c5,c6,c7]) rfl ?_;exact aj.out.fin al.out hB
theorem Eq{F:Nat}{sp:Nat->Pr}{ne:Nat}(o:MC F sp (fun _=>True) R b v L ru ne)(k B:Nat)(r:k<L.length):Hid (∀w:World,Rd w R b v L k ru ne->B<=w.heap.size->Calls prog F #[.pointer (some ⟨R,0,none⟩)] w fun e w'=>Qd (sp k) B R b v L ru ne w e w'):=
 fun w h t=>o k B w h r trivial t
theorem z9L(R b:Nat)(v:Value)(L:List Tok)(ru ne:Nat)(ab:Nat->Pr)(hg:Ql L)(ha:Adv L ab)(ho:MC 249 (Gw L ab) (fun _=>True) R b v L ru ne):
  MC 213 (Vf L ab) (fun _=>True) R b v L ru ne:=by
 intro k B w h hk _ hB;have ak:=Tryz.fld3;have U:=Gy R b v L k ru ne hk hg;have V:=Fy R b v L k ru ne hk hg;have D:Hid (En w R b v L k ru ne (w.alloc Zo)):=En.start h;have al:(k:Int)+1<9223372036854775807:=by have:=hg.len;omega
 unfold Vf;obtain⟨Z,hZ⟩:∃Z,Z=sgT (gL L k):=⟨_,rfl⟩;rw[<-hZ]at V ⊢;obtain⟨t,ht⟩:∃t,t=gL L k:=⟨_,rfl⟩;rw[<-ht]at U ⊢;clear ht;obtain⟨tk,tT,tC,p⟩:=t;by_cases hz12:Z={data:=#[33]}
 ·rw[if_pos hz12]
  have aj:=hg.sg hk (hZ▸hz12);have y:=Eq ho (k+1) (w.heap.size+1) aj;subst hz12;clear hZ ho h;cases hs:Gw L ab (k+1)with
  |inl c=>
   rw[hs]at y;clear hs;show Calls _ _ _ _ (fun e w'=>Qd (.inl c) B R b v L ru ne w e w');go_enter func213,ntmps213
   go_wp2_with fail
   refine(U.out _ D.out.1).mono ?_;rintro e w1 ⟨rfl,E⟩;have r:=hid (D.out.below E);clear E D U;dsimp only[tkv]
   go_wp2_with fail
   refine(V.out _ r.out.1).mono ?_;rintro e w2 ⟨rfl,G⟩;have o:=hid (r.out.below G);clear G r V;obtain⟨r0,r1,r2,r3,q0,q1,q2,q3⟩:=o.out.1.cells;have ac:=o.out.1.lt;have A:=hid o.out.next;clear o
   go_wp2_with fail
   refine(y.out _ A.out.1 (by have:=A.out.size;omega)).mono ?_;rintro e w3 hA;have HA:Hid (Qd (.inl c) B R b v L ru ne w e w3):=Qd.up A.out hA;obtain⟨f,rfl,_,_⟩:=hA;clear A y r0 r1 r2 r3 q0 q1 q2 q3
   go_wp2_with fail
   exact⟨rfl,HA.out⟩
  |inr q=>
   obtain⟨n,k'⟩:=q;rw[hs]at y;clear hs;show Calls _ _ _ _ (fun e w'=>Qd (.inr (.mk 12 {data:=#[]} 0 [n] p,k')) B R b v L ru ne w e w');go_enter func213,ntmps213
   go_wp2_with fail
   refine(U.out _ D.out.1).mono ?_;rintro e w1 ⟨rfl,E⟩;have r:=hid (D.out.below E);clear E D U;dsimp only[tkv]
   go_wp2_with fail
   refine(V.out _ r.out.1).mono ?_;rintro e w2 ⟨rfl,G⟩;have o:=hid (r.out.below G);clear G r V;obtain⟨r0,r1,r2,r3,q0,q1,q2,q3⟩:=o.out.1.cells;have ac:=o.out.1.lt;have A:=hid o.out.next;clear o
   go_wp2_with fail
   refine(y.out _ A.out.1 (by have:=A.out.size;omega)).mono ?_;rintro e w3 ⟨cs,rfl,HN,HR,HG⟩;have Y:=hid (A.out.grown HR.out HG.out);clear A y HR HG r0 r1 r2 r3 q0 q1 q2 q3 ac;have HV:=hid (Pd 12 p (w.heap.size+1) n _ _ HN.out (by have:=Y.out.size;omega));obtain⟨kd,T,C,so,sl,sc,I⟩:=HN.out.shape;obtain⟨p',hp⟩:∃p',p'=n.at':=⟨_,rfl⟩;rw[<-hp]at I;subst I;clear hp;dsimp only[n8]at HV ⊢
   go_wp2_with fail
   refine HV.out.mono ?_;rintro e w5 ⟨cs,rfl,ad,ae⟩;have aa:=hid (Y.out.below ae.out);clear HV HN Y ae;obtain⟨af,T2,C2,ag,ah,ai,I⟩:=ad.out.shape;rw[show(Nd.mk 12 {data:=#[]} 0 [n] p).at'=p from rfl]at I;subst I;dsimp only[n8];obtain⟨⟨k0,k1,k2,k3,k4,k5,k6,k7⟩,⟨f0,f1,f2,f3,f4,f5,f6,f7⟩⟩:=aa.out.cells
   go_wp2_with fail
   (try simp only[Exit.inBlock,Exit.then])
   obtain⟨⟨c0,c1,c2,c3,c4,c5,c6,c7⟩,_⟩:=Qy (Uz aa.out.2.2.1 (af:Int) T2 (wd C2 0:Nat) (wd C2 1:Nat) (wd C2 2:Nat) (wd C2 3:Nat) (.slice ag ah ai) (p:Int));refine bodyPost_ret (v:=.agg (n8 af T2 C2 (.slice ag ah ai) p).toArray) (by simp[results,Tryz.results213,go_sem,c0,c1,c2,c3,c4,c5,c6,c7]) rfl ?_;exact aa.out.fin ad.out hB
 rw[if_neg hz12];have e1:(Z.toList == [33])=false:=Gv hz12;by_cases hz11:Z={data:=#[38]}
 ·rw[if_pos hz11]
  have aj:=hg.sg hk (hZ▸hz11);have y:=Eq ho (k+1) (w.heap.size+1) aj;subst hz11;clear hz12 e1;clear hZ ho h;cases hs:Gw L ab (k+1)with
  |inl c=>
   rw[hs]at y;clear hs;show Calls _ _ _ _ (fun e w'=>Qd (.inl c) B R b v L ru ne w e w');go_enter func213,ntmps213
   go_wp2_with fail
   refine(U.out _ D.out.1).mono ?_;rintro e w1 ⟨rfl,E⟩;have r:=hid (D.out.below E);clear E D U;dsimp only[tkv]
   go_wp2_with fail
   refine(V.out _ r.out.1).mono ?_;rintro e w2 ⟨rfl,G⟩;have o:=hid (r.out.below G);clear G r V;obtain⟨r0,r1,r2,r3,q0,q1,q2,q3⟩:=o.out.1.cells;have ac:=o.out.1.lt;have A:=hid o.out.next;clear o
   go_wp2_with fail
   refine(y.out _ A.out.1 (by have:=A.out.size;omega)).mono ?_;rintro e w3 hA;have HA:Hid (Qd (.inl c) B R b v L ru ne w e w3):=Qd.up A.out hA;obtain⟨f,rfl,_,_⟩:=hA;clear A y r0 r1 r2 r3 q0 q1 q2 q3
   go_wp2_with fail
   exact⟨rfl,HA.out⟩
  |inr q=>
   obtain⟨n,k'⟩:=q;rw[hs]at y;clear hs;show Calls _ _ _ _ (fun e w'=>Qd (.inr (.mk 11 {data:=#[]} 0 [n] p,k')) B R b v L ru ne w e w');go_enter func213,ntmps213
   go_wp2_with fail
   refine(U.out _ D.out.1).mono ?_;rintro e w1 ⟨rfl,E⟩;have r:=hid (D.out.below E);clear E D U;dsimp only[tkv]
   go_wp2_with fail
   refine(V.out _ r.out.1).mono ?_;rintro e w2 ⟨rfl,G⟩;have o:=hid (r.out.below G);clear G r V;obtain⟨r0,r1,r2,r3,q0,q1,q2,q3⟩:=o.out.1.cells;have ac:=o.out.1.lt;have A:=hid o.out.next;clear o
   go_wp2_with fail
   refine(y.out _ A.out.1 (by have:=A.out.size;omega)).mono ?_;rintro e w3 ⟨cs,rfl,HN,HR,HG⟩;have Y:=hid (A.out.grown HR.out HG.out);clear A y HR HG r0 r1 r2 r3 q0 q1 q2 q3 ac;have HV:=hid (Pd 11 p (w.heap.size+1) n _ _ HN.out (by have:=Y.out.size;omega));obtain⟨kd,T,C,so,sl,sc,I⟩:=HN.out.shape;obtain⟨p',hp⟩:∃p',p'=n.at':=⟨_,rfl⟩;rw[<-hp]at I;subst I;clear hp;dsimp only[n8]at HV ⊢
   go_wp2_with fail
   refine HV.out.mono ?_;rintro e w5 ⟨cs,rfl,ad,ae⟩;have aa:=hid (Y.out.below ae.out);clear HV HN Y ae;obtain⟨af,T2,C2,ag,ah,ai,I⟩:=ad.out.shape;rw[show(Nd.mk 11 {data:=#[]} 0 [n] p).at'=p from rfl]at I;subst I;dsimp only[n8];obtain⟨⟨k0,k1,k2,k3,k4,k5,k6,k7⟩,⟨f0,f1,f2,f3,f4,f5,f6,f7⟩⟩:=aa.out.cells
   go_wp2_with fail
   (try simp only[Exit.inBlock,Exit.then])
   obtain⟨⟨c0,c1,c2,c3,c4,c5,c6,c7⟩,_⟩:=Qy (Uz aa.out.2.2.1 (af:Int) T2 (wd C2 0:Nat) (wd C2 1:Nat) (wd C2 2:Nat) (wd C2 3:Nat) (.slice ag ah ai) (p:Int));refine bodyPost_ret (v:=.agg (n8 af T2 C2 (.slice ag ah ai) p).toArray) (by simp[results,Tryz.results213,go_sem,c0,c1,c2,c3,c4,c5,c6,c7]) rfl ?_;exact aa.out.fin ad.out hB
 rw[if_neg hz11];have e2:(Z.toList == [38])=false:=Gv hz11;have y:=Eq ho k (w.heap.size+1) hk;clear hZ ho h hz11 hz12;cases hs:Gw L ab k with
 |inl c=>
  rw[hs]at y;clear hs;go_enter func213,ntmps213
  go_wp2_with fail
  refine(U.out _ D.out.1).mono ?_;rintro e w1 ⟨rfl,E⟩;have r:=hid (D.out.below E);clear E D U;dsimp only[tkv]
  go_wp2_with fail
  refine(V.out _ r.out.1).mono ?_;rintro e w2 ⟨rfl,G⟩;have o:=hid (r.out.below G);clear G r V
  go_wp2_with fail
  refine(y.out _ o.out.1 (by have:=o.out.size;omega)).mono ?_;rintro e w3 hA;have HA:Hid (Qd (.inl c) B R b v L ru ne w e w3):=Qd.up o.out hA;obtain⟨f,rfl,_,_⟩:=hA;clear o y
  go_wp2_with fail
  exact⟨rfl,HA.out⟩
 |inr q=>
  obtain⟨n,k'⟩:=q;rw[hs]at y;clear hs;go_enter func213,ntmps213
  go_wp2_with fail
  refine(U.out _ D.out.1).mono ?_;rintro e w1 ⟨rfl,E⟩;have r:=hid (D.out.below E);clear E D U;dsimp only[tkv]
  go_wp2_with fail
  refine(V.out _ r.out.1).mono ?_;rintro e w2 ⟨rfl,G⟩;have o:=hid (r.out.below G);clear G r V
  go_wp2_with fail
  refine(y.out _ o.out.1 (by have:=o.out.size;omega)).mono ?_;rintro e w3 ⟨cs,rfl,HN,HR,HG⟩;have Y:=hid (o.out.grown HR.out HG.out);clear o y HR HG;obtain⟨kd,T,C,so,sl,sc,I⟩:=HN.out.shape;obtain⟨p',hp⟩:∃p',p'=n.at':=⟨_,rfl⟩;rw[<-hp]at I;subst I;clear hp;dsimp only[n8];obtain⟨⟨k0,k1,k2,k3,k4,k5,k6,k7⟩,⟨f0,f1,f2,f3,f4,f5,f6,f7⟩⟩:=Y.out.cells
  go_wp2_with fail
  (try simp only[Exit.inBlock,Exit.then])
  obtain⟨⟨c0,c1,c2,c3,c4,c5,c6,c7⟩,_⟩:=Qy (Uz Y.out.2.2.1 (kd:Int) T (wd C 0:Nat) (wd C 1:Nat) (wd C 2:Nat) (wd C 3:Nat) (.slice so sl sc) (p':Int));refine bodyPost_ret (v:=.agg (n8 kd T C (.slice so sl sc) p').toArray) (by simp[results,Tryz.results213,go_sem,c0,c1,c2,c3,c4,c5,c6,c7]) rfl ?_;exact Y.out.fin HN.out hB
def Ro(B:Nat)(pv:Value)(acc:List Nd)(W:World):Prop:=
 ∃xs,W.ownsRow B 81 8 pv acc.length xs/\Qc W (fun g=>B<=g/\pv.ownBlock≠some g) acc xs
theorem Qq{g:Nat}{o:Obj}(h:w.heap[g]? =some o):g<w.heap.size:=by
 rcases Nat.lt_or_ge g w.heap.size with r|r
 ·exact r
 ·rw[Array.getElem?_eq_none r]at h;cases h
theorem Ro.grown{pv:Value}(h:Ro B pv acc W)(o:W.grownBy W' (some R))(D:R<B):Ro B pv acc W':=by
 obtain⟨xs,r,y⟩:=h;refine⟨xs,r.kept o (.inr (fun e=>by have:=(r.lt _ e).1;omega)),Qc.kept (fun g cur t A=>⟨o.block g (Qq A) (fun e=> ?_),t⟩) _ _ y⟩;have E:g=R:=Option.some.inj e;have:=t.1;omega
theorem Ro.below{pv:Value}(h:Ro B pv acc W)(o:Below W.heap.size W W'):Ro B pv acc W':=by
 obtain⟨xs,r,t⟩:=h;exact⟨xs,Yf r o,Qc.kept (fun g cur y A=>⟨o.block g (Qq A),y⟩) _ _ t⟩
theorem Ro.blk{pv:Value}(h:Ro B pv acc W):∀g,pv.ownBlock=some g->g<W.heap.size:=fun g e=>by obtain⟨xs,o,_⟩:=h;exact(o.lt _ e).2
theorem Ro.nil(B:Nat)(W:World):Ro B (.slice none 0 0) [] W:=⟨[],World.ownsRow_nil _ _ _ _,by rw[Qc];trivial⟩
theorem Ro.app{D:Nat}{pv r:Value}{xs c:List Value}{n:Nd}{o t W4:World}(U:o.ownsRow B 81 8 pv acc.length xs)(ha:Qc o (fun g=>B<=g/\pv.ownBlock≠some g) acc xs)(V:Qh o (fun g=>D<=g) n c)(hD:B<=D)(Y:∀g,pv.ownBlock=some g->g<D)(E:Below o.heap.size o t)
  (Z:W4.ownsRow B 81 8 r (acc.length+1) (xs++c))(aa:t.grownBy W4 pv.ownBlock)(ab:r.ownBlock=pv.ownBlock∨r.ownBlock=some t.heap.size):Ro B r (acc++[n]) W4:=by
 have G:∀g,g<o.heap.size->pv.ownBlock≠some g->W4.heap[g]? =o.heap[g]? /\r.ownBlock≠some g:=fun g hl I=>by
  have hs:=E.size;refine⟨(aa.block g (by omega) (fun e=>I e.symm)).trans (E.block g hl),?_⟩;rcases ab with h|h
  ·rw[h];exact I
  ·rw[h];intro e;have:=Option.some.inj e;omega
 refine⟨xs++c,by simpa using Z,Qc.append _ _ _ _ (Qc.kept (fun g cur y A=> ?_) _ _ ha) U.1 (Qh.kept (fun g cur y A=> ?_) _ _ V)⟩
 ·have:=G g (Qq A) y.2
  exact⟨this.1,y.1,this.2⟩
 ·have:=G g (Qq A) (fun e=>by have:=Y g e;omega)
  exact⟨this.1,by omega,this.2⟩
theorem En.rowed{k ne:Nat}{row:Option Nat}(h:En w R b v L k ru ne W)(o:W.grownBy W' row)(r:∀g,row=some g->w.heap.size<g):En w R b v L k ru ne W':=by
 have y:=h.lt;have A:=h.size;have t:some R≠row:=fun e=>by have:=r R e.symm;omega
 have D:some w.heap.size≠row:=fun e=>by have:=r _ e.symm;omega
 have E:v.ownBlock=none∨v.ownBlock≠row:=by
  cases hv:v.ownBlock with
  |none=>exact .inl rfl
  |some g=>exact .inr (fun e=>h.2.2.2.2 g (by have:=r g e.symm;omega) hv)
 exact⟨⟨(o.block R (by omega) t).trans h.1.1,h.1.2.kept o E⟩,⟨o.os.trans h.2.1.os,o.tape.trans h.2.1.tape,o.output.trans h.2.1.output,Nat.le_trans h.2.1.size o.size,fun j G t=>(o.block j (by omega) (fun e=>by have:=r j e.symm;omega)).trans (h.2.1.block j G t)⟩,(o.block _ A D).trans h.2.2.1,y,h.2.2.2.2⟩
theorem Tryz.infoNd:(Tryz.prog.info? 81).map (fun i=>(i.zero,i.size,i.bytes))=some (some (.agg #[.int .i64 0,.string ⟨#[]⟩,.int .u64 0,.int .u64 0,.int .u64 0,.int .u64 0,.slice none 0 0,.int .i64 0]),8,88):=by kernel_rfl
theorem Rx(w:World)(a b c d e f g h:Value)(t:TypeId):∀j x,[a,b,c,d,e,f,g,h][j]? =some x->(w.alloc (.cells #[a,b,c,d,e,f,g,h] t)).cell? ((⟨w.heap.size,0,none⟩:Addr).add j)=some x:=by
 intro j x o
 match j,o with
 |0,o=>simp at o;subst o;simp[Addr.add]
 |1,o=>simp at o;subst o;simp[Addr.add]
 |2,o=>simp at o;subst o;simp[Addr.add]
 |3,o=>simp at o;subst o;simp[Addr.add]
 |4,o=>simp at o;subst o;simp[Addr.add]
 |5,o=>simp at o;subst o;simp[Addr.add]
 |6,o=>simp at o;subst o;simp[Addr.add]
 |7,o=>simp at o;subst o;simp[Addr.add]
theorem Rj(a:Int)(T:ByteArray)(c0 c1 c2 c3:Int)(o:Option Addr)(r t:Nat)(p:Int):∀u∈[Value.int .i64 a,.string T,.int .u64 c0,.int .u64 c1,.int .u64 c2,.int .u64 c3,.slice o r t,.int .i64 p],u.oneCell'=true:=by
 intro u h;simp at h;rcases h with rfl|rfl|rfl|rfl|rfl|rfl|rfl|rfl<;>rfl
theorem Ro.joined{pv:Value}{n:Nd}{r:List Nd}(h:Ro B pv (n::r) W)(A:B<=W.heap.size)(D:r.length<=100000)(kd:Nat):∃g o,pv=.slice (some ⟨g,0,none⟩) (r.length+1) o/\Hid (Calls prog 181 #[.int .i64 kd,.slice (some ⟨g,0,none⟩) (r.length+1) o] W fun e w'=>∃y:List Value,e=.returned (.agg y.toArray)/\Hid (Qh w' (fun g=>B<=g) (Vq kd (n::r)) y)/\Hid (Below W.heap.size W w')):=by
 obtain⟨xs,t,E⟩:=h;rw[List.length_cons]at t;obtain⟨g,o,rfl⟩:=Gx t (by omega);exact⟨g,o,rfl,z9v kd B g o n r xs W t (E.weak (fun g h=>h.1)) A D⟩
theorem Ro.shape0{pv:Value}(h:Ro B pv [] W):∃a c,pv=.slice a 0 c:=by
 obtain⟨xs,o,r⟩:=h;exact Mw o
def Jg(R:Nat)(w:World):Nat:=(intOf ((w.cell? ⟨R,1,none⟩).getD (.int .i64 0))).toNat
theorem Kp{k ne:Nat}(h:Rd w R b v L k ru ne):Jg R w=k:=by
 unfold Jg;rw[h.cells.2.1];simp[intOf]
theorem z9M(R b:Nat)(v:Value)(L:List Tok)(ru ne:Nat)(D:Nat->Pr)(hg:Ql L)(ha:Adv L D)(ho:MC 213 (Vf L D) (fun _=>True) R b v L ru ne):
  MC 179 (fun k=>Zy L D L.length k []) (fun _=>True) R b v L ru ne:=by
 intro k B w h hk _ hB;obtain⟨iT,aB,aC,aD,aE⟩:=info_parts Tryz.infoNd;have aL:=Tryz.fld3;have ai:Hid (En w R b v L k ru ne (w.alloc Zo)):=En.start h;obtain⟨G,hR⟩:∃G,G=Zy L D L.length k []:=⟨_,rfl⟩;have aj:Hid (Zy L D L.length k []=G):=hR.symm;simp only;rw[<-hR];have HM:Hid (MC 213 (Vf L D) (fun _=>True) R b v L ru ne):=ho;have HG:Hid (Ql L):=hg;have HA:Hid (Adv L D):=ha;have aM:=hg.len;clear hR h ho hg ha;go_enter func179,ntmps179
 go_wp2_with fail
 go_loopw [3] (fun a wr=>∃(f j:Nat) (acc:List Nd),j<L.length/\L.length<=f+j/\acc.length<=j/\Hid (Zy L D f j acc=G)/\Hid (Ro (w.heap.size+1) a acc wr)/\Hid (En w R b v L j ru ne wr)) (fun _ wr=>L.length-Jg R wr)
 case atStart=>exact⟨L.length,k,[],hk,by omega,by simp,aj,hid (Ro.nil _ _),ai⟩
 case round=>
  obtain⟨f,j,acc,hj,aN,ak,I,U,y⟩:=hrel;clear aj ai;have E:=z9B R b v L j ru ne hj HG.out;have HT:=Gy R b v L j ru ne hj HG.out;cases f with
  |zero=>omega
  |succ f=>
  cases hpt:ptB L j (gL L j)with
  |true=>
   rw[hpt]at E;have HC:=hid (fun(W:World) (h:Rd W R b v L j ru ne)=>HM.out j W.heap.size W h hj trivial L0q);clear HM HT;cases hs:Vf L D j with
   |inl c=>
    have V:Hid (G=.inl c):=by show _=_;rw[<-I.out,Zy,if_pos hpt,hs]
    rw[hs]at HC;clear hs hpt I
    go_wp2_with fail
    refine(E.out _ y.out.1).mono ?_;rintro e w1 ⟨rfl,A⟩;have o:=hid (y.out.below A);clear A y E U
    go_wp2_with fail
    refine(HC.out _ o.out.1).mono ?_;rintro e Y hA;have aF:Hid (Qd G B R b v L ru ne w e Y):=by show Qd _ _ _ _ _ _ _ _ _ _ _;rw[V.out];exact Qd.up o.out hA
    obtain⟨f',rfl,_,_⟩:=hA;clear o HC V
    go_wp2_with fail
    exact⟨rfl,aF.out⟩
   |inr q=>
    obtain⟨n,k'⟩:=q;have aG:=z1V HG.out HA.out hj hs;have aH:Hid (Zy L D f k' (acc++[n])=G):=by show _=_;rw[<-I.out,Zy,if_pos hpt,hs]
    rw[hs]at HC;clear hs hpt I
    go_wp2_with fail
    refine(E.out _ y.out.1).mono ?_;rintro e w1 ⟨rfl,A⟩;have o:=hid (y.out.below A);have aa:=hid (U.out.below A);have HJ:Hid (Jg R wr=j):=Kp y.out.1;clear A y E U
    go_wp2_with fail
    refine(HC.out _ o.out.1).mono ?_;rintro e Y ⟨cs,rfl,HN,HR,ad⟩;have ae:=hid (o.out.grown HR.out ad.out);have al:=hid (aa.out.grown ad.out (by have:=o.out.lt;omega));have am:=hid (aa.out.blk);have ao:Hid (w.heap.size+1<=w1.heap.size):=o.out.size;clear o aa HR ad HC;obtain⟨kd,T,C,so,sl,sc,ab⟩:=HN.out.shape;obtain⟨p,hp⟩:∃p,p=n.at':=⟨_,rfl⟩;rw[<-hp]at ab;subst ab;clear hp;obtain⟨xs,ap,aq⟩:=al.out;have ac:=hid ap;have ar:=hid aq;clear ap aq al;dsimp only[n8]
    go_wp2_with(first|(at_builtin;refine wpList_append_own_at _ rfl (.tmp 6) (.tmp 9) 79 rfl (w.heap.size+1) 81 iT (.agg #[.int .i64 0,.string ⟨#[]⟩,.int .u64 0,.int .u64 0,.int .u64 0,.int .u64 0,.slice none 0 0,.int .i64 0]) 8 88 Tryz.underlying79 aB aC aD aE rfl (by decide) _ _ _ rfl (ac.out.alloc _) ⟨Y.heap.size,0,none⟩ 1 1 (n8 kd T C (.slice so sl sc) p) rfl rfl (Rx Y _ _ _ _ _ _ _ _ 81) (Rj _ _ _ _ _ _ _ _ _ _) (by unfold maxLen;omega) (by omega) (by have:=ae.out.size;simp;omega) ?_;intro v4 w4 au af aI av))
    have aJ:Hid (Ro (w.heap.size+1) v4 (acc++[n]) w4):=Ro.app ac.out ar.out HN.out ao.out am.out ((Below.refl _ Y).alloc L0q _) au af av;have aw:Hid (En w R b v L k' ru ne w4):=(ae.out.alloc _).rowed af (fun g e=>by have:=(ac.out.lt g e).1;omega);have aK:Hid (Jg R w4=k'):=Kp aw.out.1;clear au af aI av ac ar HN ae am ao
    go_wp2_with fail
    go_roundw
    case rel=>exact⟨f,k',acc++[n],aG.2,by omega,by simp;omega,aH,aJ,aw⟩
    case measure=>rw[HJ.out,aK.out];omega
  |false=>
   rw[hpt]at E;clear HM;cases acc with
   |nil=>
    have V:Hid (G=.inr (.mk 1 {data:=#[]} 0 [] (gL L j).2.2.2,j)):=by show _=_;rw[<-I.out,Zy,if_neg (by rw[hpt];decide)];rfl
    obtain⟨sa,aO,ag⟩:=U.out.shape0;subst ag;clear hpt I U
    go_wp2_with fail
    refine(E.out _ y.out.1).mono ?_;rintro e w1 ⟨rfl,A⟩;have o:=hid (y.out.below A);clear A y E
    go_wp2_with fail
    refine(HT.out _ o.out.1).mono ?_;rintro e Y ⟨rfl,ax⟩;have Z:=hid (o.out.below ax);clear ax o HT;obtain⟨t,ht⟩:∃t,t=gL L j:=⟨_,rfl⟩;rw[<-ht]at V ⊢;clear ht;obtain⟨tk,tT,tC,p⟩:=t;dsimp only[tkv];obtain⟨⟨k0,k1,k2,k3,k4,k5,k6,k7⟩,⟨f0,f1,f2,f3,f4,f5,f6,f7⟩⟩:=Z.out.cells
    go_wp2_with fail
    (try simp only[Exit.inBlock,Exit.then])
    obtain⟨⟨c0,c1,c2,c3,c4,c5,c6,c7⟩,_⟩:=Qy (Uz Z.out.2.2.1 1 {data:=#[]} 0 0 0 0 (.slice none 0 0) (p:Int));refine bodyPost_ret (v:=.agg (n8 1 {data:=#[]} 0 (.slice none 0 0) p).toArray) (by simp[results,Tryz.results179,go_sem,c0,c1,c2,c3,c4,c5,c6,c7,Gz]) rfl ?_;rw[V.out];have hf:=Z.out.fin (B:=B) (n:=.mk 1 {data:=#[]} 0 [] p) (sv:=.slice none 0 0) (kd:=1) (T:={data:=#[]}) (C:=0) (p:=p) (by rw[Qh];exact⟨_,rfl,.inl ⟨rfl,rfl⟩⟩) hB;simpa [Gz]using hf
   |cons n r=>
    have V:Hid (G=.inr (Vq 6 (n::r),j)):=by show _=_;rw[<-I.out,Zy,if_neg (by rw[hpt];decide)];rfl
    rw[List.length_cons]at ak;clear hpt I;obtain⟨aP,ah,_⟩:=U.out;rw[List.length_cons]at ah;obtain⟨g,aQ,ag⟩:=Gx ah (by omega);clear ah;subst ag;have t0:((r.length:Int)+1 == 0)=false:=by simp;omega
    obtain⟨m,hm⟩:∃m,m=r.length:=⟨_,rfl⟩;have ay:Hid (m=r.length):=hm;rw[<-hm]at t0 ak ⊢;clear hm
    go_wp2_with fail
    refine(E.out _ y.out.1).mono ?_;rintro e w1 ⟨rfl,A⟩;have o:=hid (y.out.below A);have aa:=hid (U.out.below A);clear A y E U HT;obtain⟨g',aR,hq,HJ⟩:=aa.out.joined o.out.size (by rw[<-ay.out];omega) 6;rw[<-ay.out]at HJ hq;cases hq;clear aa
    go_wp2_with fail
    refine HJ.out.mono ?_;rintro e Y ⟨cs,rfl,az,aA⟩;have Z:=hid (o.out.below aA.out);clear aA o HJ;obtain⟨kd,T,C,so,sl,sc,ab⟩:=az.out.shape;obtain⟨p,hp⟩:∃p,p=(Vq 6 (n::r)).at':=⟨_,rfl⟩;rw[<-hp]at ab;subst ab;clear hp;dsimp only[n8];obtain⟨⟨k0,k1,k2,k3,k4,k5,k6,k7⟩,⟨f0,f1,f2,f3,f4,f5,f6,f7⟩⟩:=Z.out.cells
    go_wp2_with fail
    (try simp only[Exit.inBlock,Exit.then])
    obtain⟨⟨c0,c1,c2,c3,c4,c5,c6,c7⟩,_⟩:=Qy (Uz Z.out.2.2.1 (kd:Int) T (wd C 0:Nat) (wd C 1:Nat) (wd C 2:Nat) (wd C 3:Nat) (.slice so sl sc) (p:Int));refine bodyPost_ret (v:=.agg (n8 kd T C (.slice so sl sc) p).toArray) (by simp[results,Tryz.results179,go_sem,c0,c1,c2,c3,c4,c5,c6,c7]) rfl ?_;rw[V.out];exact Z.out.fin az.out hB
end Go.Proofs.YtgnkkgcgbeianaaGreatDoor
