/- Lemmas for the last text. Conditions: those that each names. -/
import Derived.Test.YtgnkkgcgbeianaaGreatDoorVLJToLN
import Derived.Test.YtgnkkgcgbeianaaGreatDoorVX10ToY2
import Derived.Test.YtgnkkgcgbeianaaGreatDoorRows
import Derived.ProofKit
import Derived.OpenShut
import Derived.Carry
import Derived.Test.YtgnkkgcgbeianaaGreatDoorCards
import Derived.Test.YtgnkkgcgbeianaaGreatDoorTie
import Derived.LaidMore
import Derived.LaidHandle
import Derived.Stop.Joined
import Derived.SizedLaws
import Derived.Lib.LaidTab
import Derived.Test.YtgnkkgcgbeianaaGreatDoorVX17ToQ2
import Derived.Stop.LaidErr
import Derived.LaidLaws
import Derived.Test.YtgnkkgcgbeianaaGreatDoorVS1ToO4
set_option linter.unusedVariables false
set_option maxRecDepth 100000
set_option maxHeartbeats 32000000
namespace Go.Proofs.YtgnkkgcgbeianaaGreatDoor
open Go.Proofs.Tryz
open Go.RowKit Go.Shelf Go.Maps
variable {W w:World}
theorem y8O(c:Int)(w:World)(h:Yg w):Calls prog 38 #[.iface 36 (.int .i64 c)] w fun e w'=>e=.returned (.iface 36 (.int .i64 60))/\Below w.heap.size w w':=by
 have y:=h.lt;have o:=z4x c ⟨w.heap.size,0,none⟩ (.int .i64 0) (w.alloc (.cells #[.int .i64 0] 36)) (by rw[World.cell?_alloc_lt _ _ ⟨0,0,none⟩ y];exact h) (by simp) (by simp);clear h;go_enter func38,ntmps38
 go_wp2_with fail
 refine o.mono ?_;rintro e r ⟨rfl,t⟩;have A:Hid (Below w.heap.size w r):=by
  show Below w.heap.size w r;rw[t];exact(((((B0q.alloc L0q _).alloc (by simp) _).alloc (by simp<;>omega) _).alloc (by simp<;>omega) _).alloc (by simp<;>omega) _).setCell L0q _
 clear t o
 go_wp2_with fail
 go_ret;exact⟨rfl,A.out⟩
theorem y8P(h:Option Addr)(n o:Nat)(y:TypeId)(A:Value)(w:World)(Y:Hid (∀W:World,Below w.heap.size w W->Calls prog 28 #[.agg #[.slice h n o]] W fun e w'=>e=.returned (.iface y A)/\Below W.heap.size W w')):
  Calls prog 15 #[.agg #[.slice h n o]] w fun e w'=>e=.returned (.tuple #[.agg #[.slice none 0 0,.slice none 0 0,.slice none 0 0],.iface y A])/\Below w.heap.size w w':=by
 obtain⟨r,t,D⟩:=Dz w (.cells #[.slice h n o] 43) (.cells #[.slice none 0 0,.slice none 0 0,.slice none 0 0] 26);obtain⟨E,G⟩:∃E,E=(w.alloc (.cells #[.slice h n o] 43)).alloc (.cells #[.slice none 0 0,.slice none 0 0,.slice none 0 0] 26):=⟨_,rfl⟩;rw[<-G]at r t D;have Z:=hid (Y.out E r);have aa:=hid r;have I:=hid D;have ab:=hid G;have m0:=(Qw t).1;have l0:=Qq t;clear r t D G;go_enter func15,ntmps15
 go_wp2_with fail
 rw[<-ab.out];clear ab;refine Z.out.mono ?_;rintro e wc ⟨rfl,U⟩;have ac:=hid (aa.out.trans (U.mono aa.out.size));have V:=hid ((U.block _ (Qq I.out)).trans I.out);clear m0 l0 Z Y I U;obtain⟨z0,z1,z2,f0,f1,f2⟩:=Uy V.out;have l1:=Qq V.out
 go_wp2_with fail
 have hP:=Lz (v0:=.slice none 0 0) (v1:=.slice none 0 0) (v2:=.slice none 0 0) V.out;obtain⟨r0,r1,r2,_⟩:=Uy hP;exact bodyPost_ret (v:=.tuple #[.agg #[.slice none 0 0,.slice none 0 0,.slice none 0 0],.iface y A]) (by simp[results,Tryz.results15,go_sem,r0,r1,r2]) rfl ⟨rfl,Lx ac.out (by omega)⟩
theorem PgM.nil(w:World):PgM [] [] [] none none none w:=⟨by decide,by decide,rfl,(fun i h=>by cases h),(fun i h=>by cases h),(fun i h=>by cases h)⟩
theorem y8Q:Unf [] [] []:=⟨(fun i h=>by cases h),(fun i h=>by cases h),(fun i h=>by cases h),(fun x hx=>by cases hx),(by decide),(fun x hx=>by cases hx)⟩
theorem y8R{X:Option (Int ⊕ (Int×Int))}(h:CkX [] X):∃c,X=some (.inl c):=by
 match X,h with
 |none,h=>exact absurd h.1 (by decide)
 |some (.inl c),_=>exact⟨c,rfl⟩
 |some (.inr q),h=>exact absurd h.1 (by decide)
theorem y8S(w:World)
  (HU:Hid (∀W:World,Below w.heap.size w W->Calls prog 36 #[.agg #[.slice none 0 0,.slice none 0 0,.slice none 0 0]] W fun e w'=>e=.returned (.bool true)/\Below W.heap.size W w'))
  (HF:Hid (∀W:World,Below w.heap.size w W->Calls prog 37 #[.agg #[.slice none 0 0,.slice none 0 0,.slice none 0 0]] W fun e w'=>∃D E,e=.returned (.agg #[.slice D 0 E])/\Hid (Below W.heap.size W w')/\
    Hid (∀h:World,Below w'.heap.size w' h->Calls prog 15 #[.agg #[.slice D 0 E]] h fun e r=>∃c,e=.returned (.tuple #[.agg #[.slice none 0 0,.slice none 0 0,.slice none 0 0],.iface 36 (.int .i64 c)])/\Hid (Below h.heap.size h r))))
  (HR:Hid (∀(c:Int) (W:World),Below w.heap.size w W->Calls prog 38 #[.iface 36 (.int .i64 c)] W fun e w'=>e=.returned (.iface 36 (.int .i64 60))/\Below W.heap.size W w')):
  Calls prog 18 #[.agg #[.slice none 0 0,.slice none 0 0,.slice none 0 0]] w fun e w'=>e=.returned (.tuple #[.agg #[.slice none 0 0],.iface 36 (.int .i64 60)])/\Hid (Below w.heap.size w w'):=by
 obtain⟨G,af⟩:∃G,G=Obj.cells #[.slice none 0 0,.slice none 0 0,.slice none 0 0] 26:=⟨_,rfl⟩;obtain⟨o,y⟩:∃o,o=(w.alloc G).alloc (.cells #[.slice none 0 0] 43):=⟨_,rfl⟩;have aa:Below w.heap.size w o:=by rw[y];exact((Below.refl _ w).alloc L0q _).alloc (by simp) _
 obtain⟨p,I⟩:∃p,p=w.heap.size:=⟨_,rfl⟩;have ag:Hid (o.heap[p+1]? =some (.cells #[.slice none 0 0] 43)):=by rw[y,I];exact Qx _ _ (by simp)
 have ah:Hid (o.heap[p]? =some G):=by rw[y,I];exact(Below.heap_alloc _ _ _ (by simp)).trans (Qx w _ rfl)
 have t:=hid aa;have ai:=hid y;have Hp:=hid I;have aj:=hid af;have ak:=hid (HU.out o aa);have HK:=hid (fun(W:World) (hb:Below o.heap.size o W)=>show(W.cell? ⟨p,0,none⟩=some (.slice none 0 0)/\W.cell? ⟨p,1,none⟩=some (.slice none 0 0)/\W.cell? ⟨p,2,none⟩=some (.slice none 0 0)/\p<W.heap.size/\W.heap[p+1]? =some (.cells #[.slice none 0 0] 43))from by
  have A:=(hb.block _ (Qq ah.out)).trans ah.out;rw[aj.out]at A;exact⟨(Qj A 0 _ rfl).1,(Qj A 1 _ rfl).1,(Qj A 2 _ rfl).1,Qq A,(hb.block _ (Qq ag.out)).trans ag.out⟩)
 clear af y aa I HU;go_enter func18,ntmps18
 go_wp2_with fail
 rw[<-aj.out,<-ai.out,<-Hp.out];refine ak.out.mono ?_;rintro e w1 ⟨rfl,U⟩;obtain⟨q0,q1,q2,lq,_⟩:=HK.out w1 U;have al:=hid U;have am:=hid (HF.out w1 (t.out.trans (U.mono t.out.size)));clear U ak HF ai
 go_wp2_with fail
 refine am.out.mono ?_;rintro e V ⟨D,E,rfl,ao,HM⟩;have ap:=hid (al.out.trans (ao.out.mono al.out.size));obtain⟨h,ab⟩:∃h,h=V.alloc (.cells #[.slice D 0 E] 43):=⟨_,rfl⟩;have ac:Below V.heap.size V h:=by rw[ab];exact(Below.refl _ V).alloc L0q _
 have aq:=hid (HM.out h ac);have ar:=hid (ap.out.trans (ac.mono ap.out.size));have au:=hid ab;clear ac ab q0 q1 q2 lq am HM ao
 go_wp2_with fail
 rw[<-au.out];clear au;refine aq.out.mono ?_;rintro e r ⟨c,rfl,av⟩;have aw:=hid (ar.out.trans (av.out.mono ar.out.size));obtain⟨Y,ad⟩:∃Y,Y=r.alloc (.cells #[.slice none 0 0,.slice none 0 0,.slice none 0 0] 26):=⟨_,rfl⟩;have ax:Below r.heap.size r Y:=by rw[ad];exact(Below.refl _ r).alloc L0q _
 have ae:=hid (aw.out.trans (ax.mono aw.out.size));have ay:=hid (HR.out c Y (t.out.trans (ae.out.mono t.out.size)));have az:=hid ad;clear ad ax aq av
 go_wp2_with fail
 rw[<-az.out];clear az;refine ay.out.mono ?_;rintro e w4 ⟨rfl,aA⟩;have aB:=hid (ae.out.trans (aA.mono ae.out.size));obtain⟨_,_,_,lq,Z⟩:=HK.out w4 aB.out;obtain⟨u0,f0⟩:=Qw Z;have lr:=Qq Z;have aC:=hid Z;have aD:Hid (Below w.heap.size w (w4.setCell ⟨p+1,0,none⟩ (.slice none 0 0))):=by
  have h1:=t.out.trans (aB.out.mono t.out.size);exact h1.setCell (p:=⟨p+1,0,none⟩) (by show w.heap.size<=p+1;have:=Hp.out;omega) _
 clear aA Z ay HR
 go_wp2_with fail
 have r0:=(Qw (Qk aC.out 0 (.slice none 0 0))).1;refine bodyPost_ret (v:=.tuple #[.agg #[.slice none 0 0],.iface 36 (.int .i64 60)]) (by simp[results,Tryz.results18,go_sem,r0]) rfl ?_;exact⟨rfl,aD⟩
theorem y8T(A:Addr)(w:World)(E:Yg w)(G:TabIs w)(I:w.cell? ⟨1,0,none⟩=some (.iface 363 (.pointer (some A)))):
  Calls prog 18 #[.agg #[.slice none 0 0,.slice none 0 0,.slice none 0 0]] w fun e w'=>e=.returned (.tuple #[.agg #[.slice none 0 0],.iface 36 (.int .i64 60)])/\Hid (Below w.heap.size w w'):=by
 refine y8S w (hid fun W o=>z7N [] [] [] none none none 0 0 0 0 0 0 W rfl rfl rfl (PgM.nil W) y8Q) (hid fun W o=> ?_) (hid fun c W o=>y8O c W (E.below o E.lt));refine(z7Y [] [] [] none none none 0 0 0 0 0 0 W rfl rfl (PgM.nil W) (fun x hx=>by cases hx) (hid fun j hj=>by cases hj)).mono ?_;rintro e h ⟨r,t,rfl,U,V⟩;refine⟨r,t,rfl,V,hid fun W2 Y=> ?_⟩;have Z:Below w.heap.size w h:=o.trans (V.out.mono o.size);have aa:=G.below Z G.lt;have ab:h.cell? ⟨1,0,none⟩=some (.iface 363 (.pointer (some A))):=(Z.cell (World.block_lt_of_cell? w _ I)).trans I;have hz:RgZ []:=fun x hx=>by cases hx
 obtain⟨X,hX,ac,hC⟩:=If r 0 t [] h.heap.size h hz (fun x hx=>by cases hx) U.out L0q aa;obtain⟨c,rfl⟩:=y8R hX;refine(y8P r 0 t 36 (.int .i64 c) W2 (hid fun W3 ad=> ?_)).mono fun e w3 y=>⟨c,y.1,hid y.2⟩
 refine(z6h r 0 t [] (some (.inl c)) h.heap.size A h hX ac hC hz U.out L0q aa ab W3 (Y.trans (ad.mono Y.size))).mono fun e w' y=> ?_
 obtain⟨v,rfl,D,hb⟩:=y;have D:v=.iface 36 (.int .i64 c):=D;rw[D];exact⟨rfl,hb⟩
theorem y8U{T:ByteArray}{rule at' mo:Int}{r:TypeId}{t:Value}(I:Hid (∀W:World,Below w.heap.size w W->Calls prog 18 #[.agg #[.slice none 0 0,.slice none 0 0,.slice none 0 0]] W fun e w'=>∃y n A,e=.returned (.tuple #[.agg #[.slice y n A],.iface r t])/\Hid (Below W.heap.size W w'))):
  Calls prog 10 #[.agg #[.slice none 0 0,.slice none 0 0,.slice none 0 0],.int .i64 rule,.string T,.int .i64 at',.int .i64 mo] w fun e w'=>e=.returned (.tuple #[.int .i64 0,.int .i64 0,.iface r t])/\Below w.heap.size w w':=by
 obtain⟨h,D⟩:∃h,h=w.alloc (.cells #[.slice none 0 0,.slice none 0 0,.slice none 0 0] 26):=⟨_,rfl⟩;have E:Below w.heap.size w h:=by rw[D];exact(Below.refl _ w).alloc L0q _
 have U:=hid (I.out h E);have V:=hid D;have o:=hid E;clear D E I;go_enter func10,ntmps10
 go_wp2_with fail
 rw[<-V.out];clear V;refine U.out.mono ?_;rintro e Y ⟨y,n,A,rfl,G⟩;have Z:Hid (Below w.heap.size w (Y.alloc (.cells #[.slice y n A] 43))):=(o.out.trans (G.out.mono o.out.size)).alloc (o.out.trans (G.out.mono o.out.size)).size _;clear U G
 go_wp2_with fail
 refine bodyPost_ret (v:=.tuple #[.int .i64 0,.int .i64 0,.iface r t]) (by simp[results,Tryz.results10,go_sem]) rfl ?_;exact⟨rfl,Z.out⟩
theorem y8V{oso nso rso:Option Addr}{G oc I nc o rc:Nat}{T:ByteArray}{rule at':Int}{mo:Nat}(HG:Hid (∀W:World,Below w.heap.size w W->Calls prog 18 #[.agg #[.slice oso G oc,.slice nso I nc,.slice rso o rc]] W fun e w'=>∃so n aa,e=.returned (.tuple #[.agg #[.slice so n aa],.nilIface])/\Hid (Below W.heap.size W w')))(av:mo<=1048576)(aw:o<=64)(hb:¬((0<=rule/\rule<(o:Int))/\(0<=at'/\at'<=(T.size:Int))/\T.size<=4096)):
  Calls prog 10 #[.agg #[.slice oso G oc,.slice nso I nc,.slice rso o rc],.int .i64 rule,.string T,.int .i64 at',.int .i64 mo] w fun e w'=>(∃c,e=.returned (.tuple #[.int .i64 0,.int .i64 0,.iface 36 (.int .i64 c)]))/\Below w.heap.size w w':=by
 obtain⟨y,V⟩:∃y,y=w.alloc (.cells #[.slice oso G oc,.slice nso I nc,.slice rso o rc] 26):=⟨_,rfl⟩;have ab:Below w.heap.size w y:=by rw[V];exact(Below.refl _ w).alloc L0q _
 have ae:=hid (HG.out y ab);have af:=hid V;have ag:y.heap[w.heap.size]? =some (.cells #[.slice oso G oc,.slice nso I nc,.slice rso o rc] 26):=by rw[V];exact Qx w _ rfl
 have ah:=hid ag;have ai:=hid ab;obtain⟨A,Y⟩:∃A,A=decide (0<=rule/\rule<=(o:Int)-1):=⟨_,rfl⟩;obtain⟨D,E⟩:∃D,D=decide (0<=at'/\at'<=(T.size:Int)):=⟨_,rfl⟩;have aj:Hid (∀W:World,Calls prog 19 #[.int .i64 ((o:Int)-1),.int .i64 rule] W fun e w'=>e=.returned (.bool A)/\Below W.heap.size W w'):=fun W=>by
  rw[Y];exact Np ((o:Int)-1) rule W
 have ak:Hid (∀W:World,Calls prog 19 #[.int .i64 (T.size:Int),.int .i64 at'] W fun e w'=>e=.returned (.bool D)/\Below W.heap.size W w'):=fun W=>by
  rw[E];exact Np (T.size:Int) at' W
 have al:Hid (∀W:World,Calls prog 19 #[.int .i64 1048576,.int .i64 mo] W fun e w'=>e=.returned (.bool true)/\Below W.heap.size W w'):=fun W=>by
  have:=Np 1048576 (mo:Int) W;rw[show decide (0<=(mo:Int)/\(mo:Int)<=1048576)=true by simp;omega]at this;exact this
 have HL:Hid (A=true->D=true->4096<T.size):=fun h1 h2=>by
  rw[h1]at Y;rw[h2]at E;have h1:=of_decide_eq_true Y.symm;have h2:=of_decide_eq_true E.symm;rcases Nat.lt_or_ge 4096 T.size with h|h
  ·exact h
  ·exact absurd ⟨⟨h1.1,by omega⟩,h2,h⟩ hb
 have ax:IntKind.i64.wrap ((o:Int)-1)=(o:Int)-1:=by rw[IntKind.wrap_i64];omega
 clear V ab HG ag hb Y E;go_enter func10,ntmps10
 go_wp2_with fail
 rw[<-af.out];clear af;refine ae.out.mono ?_;rintro e Z ⟨so,n,aa,rfl,r⟩;have ac:=(r.out.block _ (Qq ah.out)).trans ah.out;have t:=hid (ai.out.trans (r.out.mono ai.out.size));have c2:=(Qj ac 2 _ rfl).1;have l2:=Qq ac;obtain⟨U,hU⟩:∃U,U=Z.alloc (.cells #[.slice so n aa] 43):=⟨_,rfl⟩;have am:Below Z.heap.size Z U:=by rw[hU];exact(Below.refl _ Z).alloc L0q _
 have ad:=hid (t.out.trans (am.mono t.out.size));have HU:=hid hU;clear ae ac r hU am t
 go_wp2_with fail
 rw[<-HU.out];clear HU;refine(aj.out U).mono ?_;rintro E w2 ⟨rfl,ao⟩;have r:=hid (ad.out.trans (ao.mono ad.out.size));clear ao ad c2 l2 aj;cases A with
 |false=>
  go_wp2_with fail
  refine bodyPost_ret (v:=.tuple #[.int .i64 0,.int .i64 0,.iface 36 (.int .i64 1)]) (by simp[results,Tryz.results10,go_sem]) rfl ?_;exact⟨⟨1,rfl⟩,r.out⟩
 |true=>
  go_wp2_with fail
  refine(ak.out w2).mono ?_;rintro e3 w3 ⟨rfl,ap⟩;have t:=hid (r.out.trans (ap.mono r.out.size));clear ap r ak;cases D with
  |false=>
   go_wp2_with fail
   refine bodyPost_ret (v:=.tuple #[.int .i64 0,.int .i64 0,.iface 36 (.int .i64 1)]) (by simp[results,Tryz.results10,go_sem]) rfl ?_;exact⟨⟨1,rfl⟩,t.out⟩
  |true=>
   have ar:=HL.out (by trivial) (by trivial);have ay:decide (4096<T.size)=true:=by simpa using ar
   have az:(4096:Int)<(T.size:Int):=by omega
   clear HL
   go_wp2_with fail
   refine(al.out w3).mono ?_;rintro e4 w4 ⟨rfl,aq⟩;have au:=hid (t.out.trans (aq.mono t.out.size));clear aq t al
   go_wp2_with fail
   refine bodyPost_ret (v:=.tuple #[.int .i64 0,.int .i64 0,.iface 36 (.int .i64 2)]) (by simp[results,Tryz.results10,go_sem]) rfl ?_;exact⟨⟨2,rfl⟩,au.out⟩
theorem y8W(a:Int):∃k:Nat,k<=4095/\bits BinOp.and IntKind.i64 a 4095=(k:Int):=by
 have h:(BitVec.ofInt 64 a&&&BitVec.ofInt 64 (4095:Int)).toNat=(BitVec.ofInt 64 a).toNat%4096:=by
  rw[BitVec.toNat_and,show(BitVec.ofInt 64 (4095:Int)).toNat=2^12-1 from by decide+kernel];exact Nat.and_two_pow_sub_one_eq_mod _ _
 refine⟨(BitVec.ofInt 64 a).toNat%4096,by omega,?_⟩;show IntKind.i64.wrap (((BitVec.ofInt 64 a&&&BitVec.ofInt 64 (4095:Int)).toNat:Nat):Int)=_;rw[h,IntKind.wrap_i64];omega
theorem z8p(o:Addr)(w:World)(r:Yg w)(t:TabIs w)(y:w.cell? ⟨1,0,none⟩=some (.iface 363 (.pointer (some o))))(T:ByteArray)(rule at' mo:Int):
  Calls prog 10 #[.agg #[.slice none 0 0,.slice none 0 0,.slice none 0 0],.int .i64 rule,.string T,.int .i64 at',.int .i64 mo] w fun e w'=>e=.returned (.tuple #[.int .i64 0,.int .i64 0,.iface 36 (.int .i64 60)])/\Below w.heap.size w w':=
 y8U (hid fun W h=>(y8T o W (r.below h r.lt) (t.below h t.lt) ((h.cell (World.block_lt_of_cell? w _ y)).trans y)).mono fun e w' A=>⟨none,0,0,A.1,A.2⟩)
theorem PgV.any{rs:List Rr}{oso nso rso:Option Addr}{D oc E nc t rc:Nat}{G:Addr}{w:World}(h:PgV rs oso nso rso D oc E nc t rc G w)(T:ByteArray)(r a:Int):(∃rule at' y c x A,r=((rule:Nat):Int)/\a=((at':Nat):Int)/\rule<rs.length/\at'<=T.size/\T.size<=4096/\MaI rs T rule at' y c x A)∨∀(W:World) (mo:Nat),Below w.heap.size w W->mo<=1048576->Calls prog 10 #[.agg #[.slice oso D oc,.slice nso E nc,.slice rso t rc],.int .i64 r,.string T,.int .i64 a,.int .i64 mo] W fun e w'=>(∃c,e=.returned (.tuple #[.int .i64 0,.int .i64 0,.iface 36 (.int .i64 c)]))/\Below W.heap.size W w':=by
 by_cases hg:(0<=r/\r<(t:Int))/\(0<=a/\a<=(T.size:Int))/\T.size<=4096
 ·obtain⟨⟨h0,h1⟩,⟨h2,h3⟩,U⟩:=hg
  obtain⟨rule,rfl⟩:∃k:Nat,r=(k:Int):=⟨r.toNat,by omega⟩;obtain⟨at',rfl⟩:∃k:Nat,a=(k:Int):=⟨a.toNat,by omega⟩;have I:rule<rs.length:=by rw[<-h.hrl];omega
  obtain⟨y,c,x,A,V⟩:=z8n h.hs T (rule:=rule) (at':=at') I (by omega);exact .inl ⟨rule,at',y,c,x,A,rfl,rfl,I,by omega,U,V⟩
 ·refine .inr fun W mo Y Z=> ?_
  have o:=h.below Y;have aa:(pgG rs).1.length=rs.length:=(Uv (fun T=>fdI T (nmL rs)) rs []).2.1.1;have ab:t<=64:=by rw[h.hrl];exact h.hs.len
  refine y8V (hid fun W2 ac=> ?_) Z ab hg;have:=z8m rs oso nso rso oc nc rc G W o.hs o.hp o.hM o.hz o.hu o.hT o.hF o.hPw W2 ac;rw[<-o.hol,Um,<-o.hnl,aa,<-o.hrl]at this;exact this
theorem y8X(Z:Option Addr)(n aa:Nat)(rs:List Rr)(r:Int)(T:ByteArray)(a mr:Int)(fp:Addr)(w:World)(y:Yg w)(I:TabIs w)(hF:w.cell? ⟨1,0,none⟩=some (.iface 363 (.pointer (some fp))))(ak:Xp w)(hz:RgZ rs)(hu:RgU rs)(h:Qf w w.heap.size Z n rs):
  Calls prog 6 #[.agg #[.slice Z n aa],.int .i64 r,.string T,.int .i64 a,.int .i64 mr] w fun e w'=>e=.returned (.bool true)/\Below w.heap.size w w':=by
 obtain⟨X,hX,aD,hC⟩:=If Z n aa rs w.heap.size w hz hu h L0q I;obtain⟨kA,aZ,a0⟩:=y8W mr;obtain⟨u1,af⟩:∃u1,u1=w.alloc (.cells #[.slice Z n aa] 43):=⟨_,rfl⟩;have U:Below w.heap.size w u1:=by rw[af];exact(Below.refl _ w).alloc L0q _
 have gu:u1.heap[w.heap.size]? =some (.cells #[.slice Z n aa] 43):=by rw[af];exact Qx w _ rfl
 have aE:1<w.heap.size:=World.block_lt_of_cell? w _ hF;have al:Hid (∀W:World,Below w.heap.size w W->W.cell? ⟨1,0,none⟩=some (.iface 363 (.pointer (some fp)))):=hid fun W A=>(A.cell (p:=⟨1,0,none⟩) aE).trans hF
 have HS:=hid (z1h fp u1 (y.below U y.lt) (I.below U I.lt) (al.out u1 U) (ak.below U));have aF:=hid (fun(W:World) (A:Below w.heap.size w W)=>z1i Z n aa rs X fp w hX aD hC hz hu h I hF ak W A);have am:=hid (fun(W:World) (A:Below w.heap.size w W)=>z8p fp W (y.below A y.lt) (I.below A I.lt) (al.out W A) T r a 20000);have HE:=hid y;clear y I hz hu h hC hX aD hF ak aE al;go_enter func6,ntmps6
 go_wp2_with fail
 rw[<-af];refine HS.out.mono ?_;rintro e w1 ⟨rfl,ao⟩;have ag:=hid (U.trans (ao.out.mono U.size));have aG:=hid ((ao.out.block _ (Qq gu)).trans gu);obtain⟨x1,f1⟩:=Qw aG.out;clear HS ao af U gu
 go_wp2_with fail
 refine(aF.out w1 ag.out).mono ?_;rintro e V ⟨oso,ol,oc,nso,nl,nc,rso,rl,rc,ev,rfl,ap,aQ⟩;obtain⟨t,ah⟩:∃t,t=V.alloc (.cells #[.slice oso ol oc,.slice nso nl nc,.slice rso rl rc] 26):=⟨_,rfl⟩;have aq:Below V.heap.size V t:=by rw[ah];exact(Below.refl _ V).alloc L0q _
 have aH:Below w1.heap.size w1 t:=ap.out.trans (aq.mono ap.out.size);have D:=hid (ag.out.trans (aH.mono ag.out.size));have ar:Hid (t.heap[V.heap.size]? =some (.cells #[.slice oso ol oc,.slice nso nl nc,.slice rso rl rc] 26)):=by rw[ah];exact Qx V _ rfl
 obtain⟨pB,au⟩:∃pB,pB=V.heap.size:=⟨_,rfl⟩;rw[<-au]at ar;have ai:=hid ah;have aI:=hid au;have aJ:=hid aq;clear aF aH aq aG ap ah au x1 f1 ag;rcases aQ with⟨te,ue,rfl,rfl,rfl,rfl,rfl,rfl,rfl,rfl,rfl,rfl⟩|⟨rfl,ab⟩
 ·have ac:=hid (am.out t D.out)
  clear am
  go_wp2_with fail
  rw[<-ai.out];refine ac.out.mono ?_;rintro e w3 ⟨rfl,o⟩;have G:=hid (D.out.trans (o.mono D.out.size));clear o ac
  go_wp2_with fail
  go_ret;exact⟨rfl,G.out⟩
 have ab:=hid (ab.out.below aJ.out);clear am aJ;rcases ab.out.any T r a with⟨rule,at',e1,c,x,N',rfl,rfl,hr,ha,aK,hm⟩|aL
 rotate_left
 ·have ac:=hid (aL t 20000 B0q (by decide))
  clear aL
  go_wp2_with fail
  rw[<-ai.out];refine ac.out.mono ?_;rintro e w3 ⟨⟨c,rfl⟩,o⟩;have G:=hid (D.out.trans (o.mono D.out.size));clear o ac
  go_wp2_with fail
  go_ret;exact⟨rfl,G.out⟩
 have Y:=hid (fun(W:World) (A:Below t.heap.size t W) (mo:Nat) (aR:mo<=1048576)=>(ab.out.below A).match hm hr ha aK mo aR);have aS:=hm.c2;have aj:=hid (Y.out t B0q 20000 (by decide));clear hm hr ha aK ab;obtain⟨E,y⟩:∃E,E=enE e1:=⟨_,rfl⟩;rw[<-y]at Y aj;clear y
 go_wp2_with fail
 rw[<-ai.out,<-aI.out];clear ai aI;refine aj.out.mono ?_;rintro e w3 ⟨⟨hc,rfl⟩|⟨hc,rfl⟩,o⟩
 rotate_left
 ·have G:=hid (D.out.trans (o.mono D.out.size))
  clear o aj Y
  go_wp2_with fail
  go_ret;exact⟨rfl,G.out⟩
 have G:=hid o;have ad:=hid ((o.block _ (Qq ar.out)).trans ar.out);obtain⟨p0,p1,p2,_⟩:=Uy ad.out;have aT:=Qq ad.out;have aM:=hid (Y.out w3 o c (by omega));have a5:IntKind.i64.wrap ((c:Int)+(kA:Int))=((c+kA:Nat):Int):=by rw[IntKind.wrap_i64];omega
 have a6:IntKind.i64.wrap ((c:Int)-1)=((c-1:Nat):Int):=by rw[IntKind.wrap_i64];omega
 have a1:¬(c:Int)<1:=by omega
 have a2:decide ((1:Int)<=(c:Int))=true:=by simp;omega
 have a3:(1:Int)<=(c:Int):=by omega
 have a4:1<=c:=aS;clear o aj
 go_wp2_with fail
 refine aM.out.mono ?_;rintro e w4 ⟨⟨_,rfl⟩|⟨hx,_⟩,av⟩
 rotate_left
 ·omega
 have aw:=G.out.trans (av.mono G.out.size);have ax:=hid aw;have ae:=hid ((av.block _ (Qq ad.out)).trans ad.out);have aN:=hid (Y.out w4 aw (c+kA) (by omega));clear p0 p1 p2 aT av aw aM G ad;obtain⟨p0,p1,p2,_⟩:=Uy ae.out;have aU:=Qq ae.out
 go_wp2_with fail
 refine aN.out.mono ?_;rintro e w5 ⟨⟨_,rfl⟩|⟨hx,_⟩,ay⟩
 rotate_left
 ·omega
 have az:=ax.out.trans (ay.mono ax.out.size);have aA:=hid az;have aB:=hid ((ay.block _ (Qq ae.out)).trans ae.out);have aO:=hid (Y.out w5 az (c-1) (by omega));clear p0 p1 p2 aU ay az aN ax ae Y;obtain⟨p0,p1,p2,_⟩:=Uy aB.out;have aV:=Qq aB.out
 go_wp2_with fail
 refine aO.out.mono ?_;rintro e w6 ⟨⟨hx,_⟩|⟨_,rfl⟩,aP⟩
 ·omega
 have aC:=hid (D.out.trans ((aA.out.trans (aP.mono aA.out.size)).mono D.out.size));have aW:=hid (y2S 50 w6 (HE.out.below aC.out HE.out.lt));clear aP aA aB p0 p1 p2 aV aO
 go_wp2_with(first
  |(go_at_call 14;refine aW.out.mono ?_;rintro e w7 ⟨rfl,aX⟩;have aY:=hid (aC.out.trans (aX.mono aC.out.size))))
 go_ret;exact⟨rfl,aY.out⟩
def AhP(A T:ByteArray)(n k:Int)(v:Value)(m l:Int)(u:Value):Prop:=(∃tt uu,v=.iface tt uu)∨(v=.nilIface/\(A.size+T.size<=4096->u=.nilIface/\l=k/\((n= -1/\m= -1)∨∃j:Nat,n=(j:Int)/\m=(j:Int)+(A.size:Int)/\j<=4096)))
theorem y8Y{rs:List Rr}{oso nso rso:Option Addr}{V oc Y nc Z rc:Nat}{fp:Addr}(h:PgV rs oso nso rso V oc Y nc Z rc fp w)(r:Int)(A T:ByteArray)(hA:A.size<=4096)(ah:T.size<=4096):
  Calls prog 10 #[.agg #[.slice oso V oc,.slice nso Y nc,.slice rso Z rc],.int .i64 r,.string T,.int .i64 0,.int .i64 20000] w fun e w'=>∃n k v,e=.returned (.tuple #[.int .i64 n,.int .i64 k,v])/\Hid (Below w.heap.size w w')/\
   Hid (∀W:World,Below w'.heap.size w' W->Calls prog 10 #[.agg #[.slice oso V oc,.slice nso Y nc,.slice rso Z rc],.int .i64 r,.string (A++T),.int .i64 (A.size:Int),.int .i64 20000] W fun e G=>∃m l u,e=.returned (.tuple #[.int .i64 m,.int .i64 l,u])/\Hid (Below W.heap.size W G)/\Hid ((u=.nilIface∨∃tt uu,u=.iface tt uu)/\AhP A T n k v m l u)):=by
 have ai:(A++T).size=A.size+T.size:=ByteArray.size_append;have aa:∀(W:World),Below w.heap.size w W->Calls prog 10 #[.agg #[.slice oso V oc,.slice nso Y nc,.slice rso Z rc],.int .i64 r,.string (A++T),.int .i64 (A.size:Int),.int .i64 20000] W fun e G=>∃m l u,e=.returned (.tuple #[.int .i64 m,.int .i64 l,u])/\Hid (Below W.heap.size W G)/\(u=.nilIface∨∃tt uu,u=.iface tt uu):=fun W E=>by
  rcases h.any (A++T) r (A.size:Int)with⟨rule,at',D,c,x,N',rfl,ea,hr,ha,ab,U⟩|ac
  ·rw[ea]
   refine((h.below E).match U hr ha ab 20000 (by decide)).mono fun e G o=> ?_
   rcases o with⟨⟨_,rfl⟩|⟨_,rfl⟩,t⟩
   ·exact⟨_,_,_,rfl,hid t,.inl rfl⟩
   ·exact⟨_,_,_,rfl,hid t,.inr ⟨_,_,rfl⟩⟩
  ·refine(ac W 20000 E (by decide)).mono fun e G o=> ?_
   obtain⟨⟨c,rfl⟩,t⟩:=o;exact⟨_,_,_,rfl,hid t,.inr ⟨_,_,rfl⟩⟩
 rcases h.any T r 0 with⟨rule,at',D,c,x,N',rfl,ea,hr,ha,ab,U⟩|ac
 ·obtain rfl:at'=0:=by omega
  refine(h.match U hr ha ab 20000 (by decide)).mono fun e G o=> ?_
  rcases o with⟨⟨hc,rfl⟩|⟨_,rfl⟩,t⟩
  ·refine⟨_,_,_,rfl,hid t,hid fun W E=> ?_⟩
   have ae:=t.trans (E.mono t.size);by_cases hs:A.size+T.size<=4096
   ·obtain⟨q,hq⟩:=U.yes 20000 hc
    have af:=y7J A hq;rw[y7G]at af;have P:=h.below ae;refine(Ov rs oso nso rso V oc Y nc Z rc fp W P.hol P.hnl P.hrl P.hs P.hp P.hM P.hz P.hu P.hT P.hF P.hPw (A++T) rule A.size 20000 hr (by omega) (by decide) (by omega) x U.hx _ q af).mono fun e w3 o=> ?_
    obtain⟨ad,I⟩:=o;have ad:e=.returned (.tuple #[.int .i64 (enE (shE A.size D)),.int .i64 c,.nilIface]):=ad;subst ad;refine⟨_,_,_,rfl,hid I,hid ⟨.inl rfl,.inr ⟨rfl,fun _=>⟨rfl,rfl,?_⟩⟩⟩⟩;cases D with
    |none=>exact .inl ⟨rfl,rfl⟩
    |some y=>
     obtain⟨n,⟨aj,ag⟩,_⟩:=U.mt;have hy:=(Lg ag (Nat.zero_le _)) y rfl;exact .inr ⟨y,rfl,by show((A.size+y:Nat):Int)=_;omega,by omega⟩
   ·refine(aa W ae).mono fun e w3 o=> ?_
    obtain⟨m,l,u,D,I,hu⟩:=o;exact⟨m,l,u,D,I,hid ⟨hu,.inr ⟨rfl,fun h'=>absurd h' hs⟩⟩⟩
  ·refine⟨_,_,_,rfl,hid t,hid fun W E=>(aa W (t.trans (E.mono t.size))).mono fun e w3 o=> ?_⟩
   obtain⟨m,l,u,D,I,hu⟩:=o;exact⟨m,l,u,D,I,hid ⟨hu,.inl ⟨_,_,rfl⟩⟩⟩
 ·refine(ac w 20000 B0q (by decide)).mono fun e G o=> ?_
  obtain⟨⟨c,rfl⟩,t⟩:=o;refine⟨_,_,_,rfl,hid t,hid fun W E=>(aa W (t.trans (E.mono t.size))).mono fun e w3 o=> ?_⟩;obtain⟨m,l,u,D,I,hu⟩:=o;exact⟨m,l,u,D,I,hid ⟨hu,.inl ⟨_,_,rfl⟩⟩⟩
theorem y8Z(U:Option Addr)(n ac:Nat)(rs:List Rr)(r:Int)(A T:ByteArray)(fp:Addr)(w:World)(hE:Yg w)(t:TabIs w)(hF:w.cell? ⟨1,0,none⟩=some (.iface 363 (.pointer (some fp))))(ai:Xp w)(hz:RgZ rs)(hu:RgU rs)(h:Qf w w.heap.size U n rs)(aO:A.size<=9223372036854775807)(aP:T.size<=9223372036854775807):
  Calls prog 7 #[.agg #[.slice U n ac],.int .i64 r,.string A,.string T] w fun e w'=>e=.returned (.bool true)/\Below w.heap.size w w':=by
 obtain⟨X,hX,aw,hC⟩:=If U n ac rs w.heap.size w hz hu h L0q t;obtain⟨V,af⟩:∃V,V=w.alloc (.cells #[.slice U n ac] 43):=⟨_,rfl⟩;have D:Below w.heap.size w V:=by rw[af];exact(Below.refl _ w).alloc L0q _
 have gu:V.heap[w.heap.size]? =some (.cells #[.slice U n ac] 43):=by rw[af];exact Qx w _ rfl
 have ax:1<w.heap.size:=World.block_lt_of_cell? w _ hF;have aj:Hid (∀W:World,Below w.heap.size w W->W.cell? ⟨1,0,none⟩=some (.iface 363 (.pointer (some fp)))):=hid fun W E=>(E.cell (p:=⟨1,0,none⟩) ax).trans hF
 have HS:=hid (z1h fp V (hE.below D hE.lt) (t.below D t.lt) (aj.out V D) (ai.below D));have ay:=hid (fun(W:World) (E:Below w.heap.size w W)=>z1i U n ac rs X fp w hX aw hC hz hu h t hF ai W E);have ag:=hid (fun(S:ByteArray) (a:Int) (W:World) (E:Below w.heap.size w W)=>z8p fp W (hE.below E hE.lt) (t.below E t.lt) (aj.out W E) S r a 20000);clear hE t hz hu h hC hX aw hF ai ax aj;go_enter func7,ntmps7
 go_wp2_with fail
 rw[<-af];refine HS.out.mono ?_;rintro e w1 ⟨rfl,ak⟩;have Y:=hid (D.trans (ak.out.mono D.size));have al:=hid ((ak.out.block _ (Qq gu)).trans gu);obtain⟨x1,f1⟩:=Qw al.out;have aJ:=Qq al.out;clear HS ak af D gu;by_cases hA:A.size<=4096
 rotate_left
 ·have a1:decide ((4096:Int)<(A.size:Int))=true:=by simp;omega
  have aK:(4096:Int)<(A.size:Int):=by omega
  go_wp2_with fail
  go_ret;exact⟨rfl,Y.out⟩
 have a1:decide ((4096:Int)<(A.size:Int))=false:=by simp;omega
 have aK:¬(4096:Int)<(A.size:Int):=by omega
 by_cases hT4:T.size<=4096
 rotate_left
 ·have a2:decide ((4096:Int)<(T.size:Int))=true:=by simp;omega
  have aL:(4096:Int)<(T.size:Int):=by omega
  go_wp2_with fail
  go_ret;exact⟨rfl,Y.out⟩
 have a2:decide ((4096:Int)<(T.size:Int))=false:=by simp;omega
 have aL:¬(4096:Int)<(T.size:Int):=by omega
 go_wp2_with fail
 refine(ay.out w1 Y.out).mono ?_;rintro e G ⟨oso,ol,oc,nso,nl,nc,rso,rl,rc,ev,rfl,am,aM⟩;obtain⟨Z,ah⟩:∃Z,Z=G.alloc (.cells #[.slice oso ol oc,.slice nso nl nc,.slice rso rl rc] 26):=⟨_,rfl⟩;have ao:Below G.heap.size G Z:=by rw[ah];exact(Below.refl _ G).alloc L0q _
 have az:Below w1.heap.size w1 Z:=am.out.trans (ao.mono am.out.size);have I:=hid (Y.out.trans (az.mono Y.out.size));have ad:Hid (Z.heap[G.heap.size]? =some (.cells #[.slice oso ol oc,.slice nso nl nc,.slice rso rl rc] 26)):=by rw[ah];exact Qx G _ rfl
 obtain⟨pB,ap⟩:∃pB,pB=G.heap.size:=⟨_,rfl⟩;rw[<-ap]at ad;have aq:=hid ah;have ar:=hid ap;have aA:=hid ao;clear ay az ao al am ah ap x1 f1 Y aJ;rcases aM with⟨te,ue,rfl,rfl,rfl,rfl,rfl,rfl,rfl,rfl,rfl,rfl⟩|⟨rfl,aB⟩
 ·have aC:=hid (ag.out T 0 Z I.out)
  go_wp2_with fail
  rw[<-aq.out,<-ar.out];refine aC.out.mono ?_;rintro e w3 ⟨rfl,au⟩;have o:=hid (I.out.trans (au.mono I.out.size));have aa:=hid ((au.block _ (Qq ad.out)).trans ad.out);obtain⟨p0,p1,p2,_⟩:=Uy aa.out;have aD:=Qq aa.out;have aE:=hid (ag.out (A++T) (A.size:Int) w3 o.out);clear au aC ag I
  go_wp2_with fail
  refine aE.out.mono ?_;rintro e w4 ⟨rfl,ae⟩;have ab:=hid (o.out.trans (ae.mono o.out.size));clear ae aE o
  go_wp2_with fail
  go_ret;exact⟨rfl,ab.out⟩
 have aF:=hid (y8Y (aB.out.below aA.out) r A T hA hT4);clear ag aA aB
 go_wp2_with fail
 rw[<-aq.out,<-ar.out];clear aq ar;refine aF.out.mono ?_;rintro e w3 ⟨x,y,v,rfl,o,aG⟩;have av:=hid (I.out.trans (o.out.mono I.out.size));have aa:=hid ((o.out.block _ (Qq ad.out)).trans ad.out);obtain⟨p0,p1,p2,_⟩:=Uy aa.out;have aD:=Qq aa.out;have aH:=hid (aG.out w3 B0q);clear o aF aG I
 go_wp2_with fail
 refine aH.out.mono ?_;rintro e w4 ⟨x',y',v',rfl,ae,HV⟩;have ab:=hid (av.out.trans (ae.out.mono av.out.size));have aQ:IntKind.i64.wrap ((A.size:Int)+(T.size:Int))=(A.size:Int)+(T.size:Int):=by rw[IntKind.wrap_i64];omega
 clear ae aH av aa p0 p1 p2 aD;obtain⟨aI,⟨tt,uu,rfl⟩|⟨rfl,hq⟩⟩:=HV.out
 ·clear HV aI
  go_wp2_with fail
  go_ret;exact⟨rfl,ab.out⟩
 clear HV aI;by_cases hs:A.size+T.size<=4096
 ·have a3:decide ((4096:Int)<(A.size:Int)+(T.size:Int))=false:=by simp;omega
  have aN:¬(4096:Int)<(A.size:Int)+(T.size:Int):=by omega
  obtain⟨rfl,rfl,hx⟩:=hq hs;clear hq;rcases hx with⟨rfl,rfl⟩|⟨j,rfl,rfl,hj⟩
  ·go_wp2_with fail
   go_ret;exact⟨rfl,ab.out⟩
  ·have a4:decide ((j:Int)<0)=false:=by simp
   have aR:IntKind.i64.wrap ((j:Int)+(A.size:Int))=(j:Int)+(A.size:Int):=by rw[IntKind.wrap_i64];omega
   go_wp2_with fail
   go_ret;exact⟨rfl,ab.out⟩
 ·have a3:decide ((4096:Int)<(A.size:Int)+(T.size:Int))=true:=by simp;omega
  have aN:(4096:Int)<(A.size:Int)+(T.size:Int):=by omega
  clear hq
  go_wp2_with fail
  go_ret;exact⟨rfl,ab.out⟩
open Go.ChangeShapes Go.WideShapes
theorem Tryz.own:ownKnob Tryz.prog.godebug=none:=by kernel_rfl
theorem Tryz.et:Tryz.prog.globalNamed "errors.errorType"=some 0:=by kernel_rfl
theorem Tryz.rt:(Tryz.prog.cutTypes.find? (·.1 == "internal/reflectlite.rtype")).map (·.2)=some 168:=by kernel_rfl
theorem Tryz.oneRow:((List.range 393).filter fun t=>Tryz.prog.rowNamed t [101,114,114,111,114])=[30]:=by kernel_rfl
theorem Tryz.nTypes:Tryz.prog.types.size=393:=by kernel_rfl
theorem y9a{l:List (String×DataW Unit)}(h:handlesMet prog l W)(o:("errors.errorType",Rows.laid_errors_errorType)∈l):Yg W:=by
 obtain⟨y,u,A,D,E,G,I,r⟩:=h _ o;have U:y=[101,114,114,111,114]:=(Option.some.inj D).symm;subst U;obtain rfl:=Option.some.inj (Tryz.rt.symm.trans E);have o:A∈(List.range 393).filter fun t=>Tryz.prog.rowNamed t [101,114,114,111,114]:=List.mem_filter.2 ⟨List.mem_range.2 (by rw[<-Tryz.nTypes];exact G),I⟩
 rw[Tryz.oneRow]at o;obtain rfl:=List.mem_singleton.1 o;have V:typeHandle prog 30=.pointer (some ⟨6,30,none⟩):=by kernel_rfl
 rw[V]at r;have:=World.var?_cell Tryz.et r 0;unfold Yg;simpa using this
theorem Tryz.laidOutW:laidOutB prog=true:=by kernel_rfl
theorem Tryz.gT:Tryz.prog.globalNamed "math/bits.deBruijn64tab"=some 5:=by kernel_rfl
theorem Tryz.gTType:(Tryz.prog.globals[5]?).map (·.type)=some 347:=by kernel_rfl
theorem Tryz.cellsTab:Tryz.prog.cellsOf 347=64:=by kernel_rfl
theorem Tryz.cellsU8:Tryz.prog.cellsOf 5=1:=by kernel_rfl
theorem y9b{rest:List (String×DataW Unit)}(h:laidMet prog (("math/bits.deBruijn64tab",Rows.laid_math_bits_deBruijn64tab)::rest) W):TabIs W:=by
 have o:Lib.TabIs prog W "math/bits.deBruijn64tab" .u8 (Lib.deBruijn64tab.map fun n:Nat=>(n:Int)):=Lib.tabIs_of_head (rest:=rest) Tryz.gT Tryz.gTType Tryz.underlying347 Tryz.underlying5 Tryz.cellsU8 Tryz.cellsTab h;intro i r;have:=o.cell Tryz.gT i (by simp[Lib.deBruijn64tab];omega);rw[this];congr 2;simp only[List.getD,List.getElem?_map];cases Lib.deBruijn64tab[i]? <;>rfl
theorem Tryz.gFo:Tryz.prog.globalNamed "muntin/sound.errFound"=some 1:=by kernel_rfl
theorem Tryz.gFoType:(Tryz.prog.globals[1]?).map (·.type)=some 30:=by kernel_rfl
theorem Tryz.star8:"*"++"errors.errorString"="*errors.errorString":=by decide
theorem Tryz.rowErrStr(u:TypeId)(h:Tryz.prog.typeName? 3 u=some "*errors.errorString"):u=363:=
 typeName_ptr_named (nm:="errors.errorString") (by rw[Tryz.star8];kernel_rfl) (by kernel_rfl) (by decide) u (by rw[Tryz.star8];exact h)
theorem Tryz.cellsErrStr:Tryz.prog.cellsOf 381=1:=by kernel_rfl
theorem Tryz.cellsStr8:Tryz.prog.cellsOf 9=1:=by kernel_rfl
theorem Tryz.gPw:Tryz.prog.globalNamed "internal/strconv.uint64pow10"=some 3:=by kernel_rfl
theorem Tryz.gPwType:(Tryz.prog.globals[3]?).map (·.type)=some 324:=by kernel_rfl
theorem Tryz.cellsPow:Tryz.prog.cellsOf 324=20:=by kernel_rfl
theorem z1j(h:laidMetH prog [("math/bits.deBruijn32tab",Rows.laid_math_bits_deBruijn32tab),("math/bits.deBruijn64tab",Rows.laid_math_bits_deBruijn64tab),("internal/strconv.uint64pow10",Rows.laid_internal_strconv_uint64pow10),("errors.errorType",Rows.laid_errors_errorType),("muntin/sound.errFound",Rows.laid_muntin_sound_errFound)] W):Yg W/\TabIs W/\Xp W/\∃y:Addr,W.cell? ⟨1,0,none⟩=some (.iface 363 (.pointer (some y))):=by
 have o:laidMet prog [("math/bits.deBruijn32tab",Rows.laid_math_bits_deBruijn32tab),("math/bits.deBruijn64tab",Rows.laid_math_bits_deBruijn64tab),("internal/strconv.uint64pow10",Rows.laid_internal_strconv_uint64pow10),("muntin/sound.errFound",Rows.laid_muntin_sound_errFound)] W/\handlesMet prog [("errors.errorType",Rows.laid_errors_errorType)] W:=h;have r:=laidMet.tail o.1;have t:=laidMet.tail r;refine⟨y9a o.2 (List.mem_singleton.2 rfl),y9b (rest:=[("internal/strconv.uint64pow10",Rows.laid_internal_strconv_uint64pow10),("muntin/sound.errFound",Rows.laid_muntin_sound_errFound)]) r,?_,?_⟩
 ·exact Lib.tabIs_of_head (rest:=[("muntin/sound.errFound",Rows.laid_muntin_sound_errFound)]) Tryz.gPw Tryz.gPwType Tryz.underlying324 Tryz.underlying52 Tryz.cellsU Tryz.cellsPow t
 ·obtain⟨a,s,A,_⟩:=laid_sentinel (nm:="*errors.errorString") (text:=[102,111,117,110,100]) (laidMet.tail t) Tryz.gFo Tryz.gFoType Tryz.underlying30 Tryz.rowErrStr Tryz.underlying363 Tryz.underlying381 rfl rfl Tryz.underlying9 Tryz.cellsErrStr Tryz.cellsStr8
  exact⟨a,by simpa using World.var?_cell Tryz.gFo A 0⟩
theorem y9A:True:=trivial
end Go.Proofs.YtgnkkgcgbeianaaGreatDoor
