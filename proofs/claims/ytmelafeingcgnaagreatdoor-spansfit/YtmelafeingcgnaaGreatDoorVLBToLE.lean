/- Lemmas for the last text. Conditions: those that each names. -/
import Derived.Test.YtmelafeingcgnaaGreatDoorVQIToLA
import Derived.Test.YtmelafeingcgnaaGreatDoorVZZToX5
set_option linter.unusedVariables false
set_option maxRecDepth 100000
set_option maxHeartbeats 32000000
namespace Go.Proofs.YtmelafeingcgnaaGreatDoor
open Go.Proofs.Tryz
open Go.RowKit Go.Shelf Go.Maps
variable {W W' w:World} {a b f i j k n:Nat} {kd x0 x1 x2 x3:Int} {s:List Int} {p0 p1 p2:Addr} {v0 v1 v2:Value}
def enE(e:Option Nat):Int:=match e with|none=> -1|some x=>x
def Ab(W:World)(b:Nat)(x0 x1 x2 x3:Int):World:=(((W.setCell ⟨b,0,none⟩ (zI x0)).setCell ⟨b,1,none⟩ (zI x1)).setCell ⟨b,2,none⟩ (zI x2)).setCell ⟨b,3,none⟩ (zI x3)
theorem y5u{y0 y1 y2 y3:Value}(h:zH W b (.cells #[y0,y1,y2,y3] 194)):(Ab W b x0 x1 x2 x3).heap[b]? =some (.cells #[zI x0,zI x1,zI x2,zI x3] 194):=by
 unfold Ab;exact Qk (Qk (Qk (Qk h 0 _) 1 _) 2 _) 3 _
theorem y5v(h:Below n w W)(o:n<=b):Below n w (Ab W b x0 x1 x2 x3):=by
 unfold Ab;exact(((h.setCell (p:=⟨b,0,none⟩) o _).setCell (p:=⟨b,1,none⟩) o _).setCell (p:=⟨b,2,none⟩) o _).setCell (p:=⟨b,3,none⟩) o _
def NxQ(o:Ox)(k f j a:Nat)(e:Option Nat)(x0 x1 x2 x3:Int)(ok:Bool):Prop:=(ok=false->nxt o ((k:Int),f,j,a) e=none)/\(ok=true->∃j' a':Nat,nxt o ((k:Int),f,j,a) e=some ((k:Int),f,j',a')/\x0=(k:Int)/\x1=(f:Int)/\x2=(j':Int)/\x3=(a':Int))
theorem z6g{e:Option Nat}(h:enE e= -1):e=none:=by
 cases e with
 |none=>rfl
 |some x=>exact absurd h (by show(x:Int)≠ -1;omega)
theorem y5w{e:Option Nat}(h:enE e≠ -1):∃x,e=some x/\enE e=(x:Int):=by
 cases e with
 |none=>exact absurd rfl h
 |some x=>exact⟨x,rfl,rfl⟩
theorem nx6{Tx:zA}{b:Int×Int×Int×Int}{e:Option Nat}(y:j<s.length):NxQ (6,Tx,b,s) k f j a e (k:Int) (f:Int) ((j:Int)+1) (enE e) (enE e != -1&& !((j:Int) == (s.length:Int)-1)):=by
 unfold NxQ nxt;simp only[if_true];cases e with
 |none=>exact⟨fun _=>rfl,fun h=>by simp[enE]at h⟩
 |some x=>
  by_cases h:j+1=s.length
  ·have o:((j:Int) == (s.length:Int)-1)=true:=by simp;omega
   rw[o];exact⟨fun _=>by simp[h],fun r=>by simp at r⟩
  ·have o:((j:Int) == (s.length:Int)-1)=false:=by simp;omega
   rw[o];refine⟨fun r=> ?_,fun _=>⟨j+1,x,by simp[h],by trivial,by trivial,by omega,by trivial⟩⟩;simp[enE]at r
theorem y5x{Tx:zA}{b:Int×Int×Int×Int}{e:Option Nat}(h:enE e= -1):NxQ (6,Tx,b,s) k f j a e x0 x1 x2 x3 false:=by
 rw[z6g h];exact⟨fun _=>by simp[nxt],fun h=>by cases h⟩
theorem nx7{Tx:zA}{b:Int×Int×Int×Int}{e:Option Nat}(h:enE e= -1)(y:j<s.length):NxQ (7,Tx,b,s) k f j a e (k:Int) (f:Int) ((j:Int)+1) (f:Int) (!((j:Int) == (s.length:Int)-1)):=by
 rw[z6g h];unfold NxQ nxt;simp only[if_true,show ¬((7:Int)=6) by decide,if_false];by_cases h:j+1=s.length
 ·have o:((j:Int) == (s.length:Int)-1)=true:=by simp;omega
  rw[o];exact⟨fun _=>by simp[h],fun r=>by simp at r⟩
 ·have o:((j:Int) == (s.length:Int)-1)=false:=by simp;omega
  rw[o];exact⟨fun r=>by simp at r,fun _=>⟨j+1,f,by simp[h],by trivial,by trivial,by omega,by trivial⟩⟩
theorem y5y{Tx:zA}{b:Int×Int×Int×Int}{e:Option Nat}(h:enE e≠ -1):NxQ (7,Tx,b,s) k f j a e x0 x1 x2 x3 false:=by
 obtain⟨x,rfl,_⟩:=y5w h;exact⟨fun _=>by simp[nxt],fun h=>by cases h⟩
theorem nx9{Tx:zA}{b:Int×Int×Int×Int}{e:Option Nat}(o:kd=9∨kd=10):NxQ (kd,Tx,b,s) k f j a e (k:Int) (f:Int) 0 (enE e) (enE e != -1):=by
 unfold NxQ nxt;simp only[show ¬(kd=6) by omega,show ¬(kd=7) by omega,o,if_false,if_true];cases e with
 |none=>exact⟨fun _=>rfl,fun h=>by simp[enE]at h⟩
 |some x=>
  refine⟨fun r=> ?_,fun _=>⟨0,x,rfl,by trivial,by trivial,by trivial,by trivial⟩⟩;simp[enE]at r
theorem y5z{Tx:zA}{b:Int×Int×Int×Int}{e:Option Nat}(o:kd≠6)(r:kd≠7)(y:kd≠9)(A:kd≠10):NxQ (kd,Tx,b,s) k f j a e x0 x1 x2 x3 false:=by
 refine⟨fun _=> ?_,fun h=>by cases h⟩;unfold nxt;simp only[o,r,y,A,if_false,or_self]
@[reducible] def zOp:Obj:=.cells #[zI 0,zT {data:=#[]},zU 0,zU 0,zU 0,zU 0,.slice none 0 0] 65
def Kh(W:World)(b:Nat)(k:Int)(T:zA)(a1 a2 a3 a4:Int)(v:Value):World:=(((((((W.setCell ⟨b,0,none⟩ (zI k)).setCell ⟨b,1,none⟩ (zT T)).setCell ⟨b,2,none⟩ (zU a1)).setCell ⟨b,3,none⟩ (zU a2)).setCell ⟨b,4,none⟩ (zU a3)).setCell ⟨b,5,none⟩ (zU a4)).setCell ⟨b,6,none⟩ (v))
theorem y5A{k:Int}{T:zA}{a1 a2 a3 a4:Int}{v:Value}(h:zH W b zOp):(Kh W b k T a1 a2 a3 a4 v).heap[b]? =some (.cells #[zI k,zT T,zU a1,zU a2,zU a3,zU a4,v] 65):=by
 unfold Kh;exact Qk (Qk (Qk (Qk (Qk (Qk (Qk h 0 _) 1 _) 2 _) 3 _) 4 _) 5 _) 6 _
theorem y5B{k:Int}{T:zA}{a1 a2 a3 a4:Int}{v:Value}(h:Below n w W)(o:n<=b):Below n w (Kh W b k T a1 a2 a3 a4 v):=by
 unfold Kh;exact((((((h.setCell (p:=⟨b,0,none⟩) o _).setCell (p:=⟨b,1,none⟩) o _).setCell (p:=⟨b,2,none⟩) o _).setCell (p:=⟨b,3,none⟩) o _).setCell (p:=⟨b,4,none⟩) o _).setCell (p:=⟨b,5,none⟩) o _).setCell (p:=⟨b,6,none⟩) o _
theorem y5C{g:Nat}{a b c d e f h:Value}{t:TypeId}(o:zH w g (.cells #[a,b,c,d,e,f,h] t)):(zC w g 0 a/\zC w g 1 b/\zC w g 2 c/\zC w g 3 d/\zC w g 4 e/\zC w g 5 f/\zC w g 6 h)/\(w.frozen? ⟨g,0,none⟩=false/\w.frozen? ⟨g,1,none⟩=false/\w.frozen? ⟨g,2,none⟩=false/\w.frozen? ⟨g,3,none⟩=false/\w.frozen? ⟨g,4,none⟩=false/\w.frozen? ⟨g,5,none⟩=false/\w.frozen? ⟨g,6,none⟩=false):=
 ⟨⟨(Qj o 0 _ rfl).1,(Qj o 1 _ rfl).1,(Qj o 2 _ rfl).1,(Qj o 3 _ rfl).1,(Qj o 4 _ rfl).1,(Qj o 5 _ rfl).1,(Qj o 6 _ rfl).1⟩,⟨(Qj o 0 _ rfl).2,(Qj o 1 _ rfl).2,(Qj o 2 _ rfl).2,(Qj o 3 _ rfl).2,(Qj o 4 _ rfl).2,(Qj o 5 _ rfl).2,(Qj o 6 _ rfl).2⟩⟩
theorem Kd{g:Nat}{a b c d:Value}{t:TypeId}(h:zH w g (.cells #[a,b,c,d] t)):(zC w g 0 a/\zC w g 1 b/\zC w g 2 c/\zC w g 3 d)/\(w.frozen? ⟨g,0,none⟩=false/\w.frozen? ⟨g,1,none⟩=false/\w.frozen? ⟨g,2,none⟩=false/\w.frozen? ⟨g,3,none⟩=false):=
 ⟨⟨(Qj h 0 _ rfl).1,(Qj h 1 _ rfl).1,(Qj h 2 _ rfl).1,(Qj h 3 _ rfl).1⟩,⟨(Qj h 0 _ rfl).2,(Qj h 1 _ rfl).2,(Qj h 2 _ rfl).2,(Qj h 3 _ rfl).2⟩⟩
theorem y5D{o r y A D E:Addr}{v3 v4 v5 v6 v7 v8:Value}(h:W.cell? p0=some v0/\W.cell? p1=some v1/\W.cell? p2=some v2/\W.cell? o=some v3/\W.cell? r=some v4/\W.cell? y=some v5/\W.cell? A=some v6/\W.cell? D=some v7/\W.cell? E=some v8)(U:zB W W'):W'.cell? p0=some v0/\W'.cell? p1=some v1/\W'.cell? p2=some v2/\W'.cell? o=some v3/\W'.cell? r=some v4/\W'.cell? y=some v5/\W'.cell? A=some v6/\W'.cell? D=some v7/\W'.cell? E=some v8:=by
 have k:∀{p:Addr} {u:Value},W.cell? p=some u->W'.cell? p=some u:=fun{p u} G=>(U.cell (p:=p) (World.block_lt_of_cell? W _ G)).trans G
 obtain⟨V,Y,Z,h3,h4,h5,h6,h7,h8⟩:=h;exact⟨k V,k Y,k Z,k h3,k h4,k h5,k h6,k h7,k h8⟩
theorem y5E(ops:List Ox)(ns:List ByteArray)(ro:List Int)(oso nso rso:Option Addr)(ol oc:Nat)(M:Nat)(w:World)(ap:ol=ops.length)(h:PgM ops ns ro oso nso rso w)
  (m0:zC w M 0 (.slice oso ol oc))(k:Nat)(hk:k<ops.length)(f j a:Nat)(hj:j<ops[k].2.2.2.length)(e:Option Nat):
  Calls prog 91 #[zP M 0,.agg #[zI k,zI f,zI j,zI a],zI (enE e)] w fun e' w'=>∃x0 x1 x2 x3 U,e'=.returned (.tuple #[.agg #[zI x0,zI x1,zI x2,zI x3],.bool U])/\zB w w'/\Hid (NxQ ops[k] k f j a e x0 x1 x2 x3 U):=by
 obtain⟨g,rfl,hg,so,ac,⟨c0,c1,c2,c3,c4,c5,c6⟩,af,ag⟩:=h.o k hk;have ay:=h.l2;have az:(k:Int)<(ol:Int):=by omega
 have hm:=World.block_lt_of_cell? w _ m0;obtain⟨o,ho⟩:∃o,o=ops[k]:=⟨_,rfl⟩;rw[<-ho]at c0 c1 c2 c3 c4 c5 c6 af ag hj ⊢;obtain⟨kd,Tx,⟨y,A,D,G⟩,s⟩:=o;dsimp only at c0 c1 c2 c3 c4 c5 c6 af ag hj ⊢;obtain⟨E,hE⟩:∃E,E=enE e:=⟨_,rfl⟩;rw[<-hE];obtain⟨L,hL⟩:∃L,L=s.length:=⟨_,rfl⟩;rw[<-hL]at c6 af hj;obtain⟨il,aq⟩:∃il,il=((j:Int) == (L:Int)-1):=⟨_,rfl⟩;have aA:IntKind.i64.wrap ((L:Int)-1)=(L:Int)-1:=by rw[IntKind.wrap_i64];omega
 have aB:IntKind.i64.wrap ((j:Int)+1)=(j:Int)+1:=by rw[IntKind.wrap_i64];omega
 have HE:=hid hE;have HL:=hid hL;have HJ:=hid hj;have aC:=hid aq;obtain⟨p,hp⟩:∃p,p=w.heap.size:=⟨_,rfl⟩;obtain⟨W,hW⟩:∃W,W=(w.alloc (.cells #[zI k,zI f,zI j,zI a] 194)).alloc (.cells #[zI 0,zI 0,zI 0,zI 0] 194):=⟨_,rfl⟩;have hB:zB w W:=by rw[hW];exact((Below.refl _ w).alloc L0q _).alloc (by simp) _
 have e0:zH W p (.cells #[zI k,zI f,zI j,zI a] 194):=by rw[hW,hp];exact(Below.heap_alloc _ _ _ (by simp)).trans (Qx w _ rfl)
 have e1:W.heap[p+1]? =some (.cells #[zI 0,zI 0,zI 0,zI 0] 194):=by rw[hW,hp];exact Qx _ _ (by simp)
 have es:W.heap.size=p+1+1:=by rw[hW,hp];simp
 have Y:∀{q:Addr} {u:Value},w.cell? q=some u->W.drew.cell? q=some u:=fun{q u} hq=>(hB.drew.cell (p:=q) (World.block_lt_of_cell? w _ hq)).trans hq
 have HS:Hid (zC W.drew M 0 (zS g ol oc)/\zC W.drew p 0 (zI k)/\zC W.drew g (k*7) (zI kd)/\zC W.drew g (k*7+1) (zT Tx)/\zC W.drew g (k*7+2) (zU y)/\zC W.drew g (k*7+3) (zU A)/\zC W.drew g (k*7+4) (zU D)/\zC W.drew g (k*7+5) (zU G)/\zC W.drew g (k*7+6) (.slice so L ac)):=⟨Y m0,(Qj e0 0 _ rfl).1,Y c0,Y c1,Y c2,Y c3,Y c4,Y c5,Y c6⟩;have HW:=hid hW;have Hp:=hid hp;have HB:=hid hB;have ak:=hid e0;have al:=hid e1;have ah:=hid es;clear hE hL ho ag h hk ap hj hW hp hB e0 e1 es Y m0 c0 c1 c2 c3 c4 c5 c6;go_enter func91,ntmps91
 go_wp2_with fail
 rw[<-HW.out,<-Hp.out];refine Qc 10 (fun X:World=>zC X M 0 (zS g ol oc)/\zC X p 0 (zI k)/\zC X g (k*7) (zI kd)/\zC X g (k*7+1) (zT Tx)/\zC X g (k*7+2) (zU y)/\zC X g (k*7+3) (zU A)/\zC X g (k*7+4) (zU D)/\zC X g (k*7+5) (zU G)/\zC X g (k*7+6) (.slice so L ac)) (by kernel_rfl) HS.out (fun r=> ?_);refine Qz 0 r ?_;refine Qz 1 r ?_;refine Qz 2 r ?_;refine Qz 3 r ?_;refine Qz 4 r ?_;refine Qz 5 r ?_;refine Qz 6 r ?_;refine Qz 7 r ?_;refine Qz 8 r ?_
 (refine Qv 9 (fun K hK=> ?_);go_simp;replace r:=y5D r ((Below.refl _ W.drew).alloc L0q zOp);refine hK.out _ _ r ?_;clear hK K)
 (try simp only[Act.put,zY])
 refine Yj (fun K hK=> ?_);obtain⟨X,hX⟩:∃X,X=(W.alloc (.cells #[zI 0,zT {data:=#[]},zU 0,zU 0,zU 0,zU 0,.slice none 0 0] 65)).drew:=⟨_,rfl⟩;have am:zB W X:=by rw[hX];exact((Below.refl _ W).alloc L0q _).drew
 have ad:X.heap[p+1+1]? =some zOp:=by rw[hX,<-ah.out];exact Qx W _ rfl
 obtain⟨⟨y0,y1,y2,y3,y4,y5,y6⟩,y7,y8,y9,ar,au,av,aw⟩:=y5C ad;have lX:=Qq ad;obtain⟨V,hV⟩:∃V,V=Kh X (p+1+1) kd Tx y A D G (.slice so L ac):=⟨_,rfl⟩;have v2:V.heap[p+1+1]? =some (.cells #[zI kd,zT Tx,zU y,zU A,zU D,zU G,.slice so L ac] 65):=by rw[hV];exact y5A ad
 have ae:zB W V:=by rw[hV];exact y5B am (by rw[ah.out];exact Nat.le_refl _)
 have v0:=(ae.block _ (Qq ak.out)).trans ak.out;have v1:=(ae.block _ (Qq al.out)).trans al.out;have ax:=hid (HB.out.trans (ae.mono HB.out.size));have HV:=hid hV;have ai:=hid v1;have ao:=hid v0;have aj:=hid v2;clear hV ae am ad v0 v1 v2;rw[<-hX,ah.out];clear r hX
 go_simp
 refine hK.out _ _ ?_;clear hK K y0 y1 y2 y3 y4 y5 y6 y7 y8 y9 ar au av aw;rw[<-Kh,<-HV.out];clear HV;obtain⟨⟨s0,s1,s2,s3⟩,_⟩:=Kd ao.out;obtain⟨⟨t0,t1,t2,t3⟩,t4,t5,t6,t7⟩:=Kd ai.out;have r0:=(Qj aj.out 0 _ rfl).1;have r6:=(Qj aj.out 6 _ rfl).1;have l0:=Qq ao.out;have l1:=Qq ai.out;have l2:=Qq aj.out;have aa:Hid (∀(a':Act) (x0 x1 x2 x3:Int) (U:Bool),NxQ (kd,Tx,(y,A,D,G),s) k f j a e x0 x1 x2 x3 U->a'.tmps[6]? =some (zP (p+1) 0)->a'.tmps[7]? =some (.bool U)->a'.defers=[]->bodyPost prog Tryz.f91 (fun e' w'=>∃x0 x1 x2 x3 U,e'=.returned (.tuple #[.agg #[zI x0,zI x1,zI x2,zI x3],.bool U])/\zB w w'/\Hid (NxQ (kd,Tx,(y,A,D,G),s) k f j a e x0 x1 x2 x3 U)) .ret a' (Ab V (p+1) x0 x1 x2 x3)):=by
  intro a' x0 x1 x2 x3 U hn h6 h7 hd;obtain⟨⟨z0,z1,z2,z3⟩,_⟩:=Kd (y5u (x0:=x0) (x1:=x1) (x2:=x2) (x3:=x3) ai.out);refine bodyPost_ret (v:=.tuple #[.agg #[zI x0,zI x1,zI x2,zI x3],.bool U]) (by simp[results,Tryz.results91,go_sem,z0,z1,z2,z3,h6,h7]) hd ?_;exact⟨_,_,_,_,_,rfl,y5v ax.out (by have:=Hp.out;omega),hn⟩
 by_cases h6:kd=6
 ·subst h6
  have hn:=nx6 (Tx:=Tx) (b:=(y,A,D,G)) (s:=s) (k:=k) (f:=f) (j:=j) (a:=a) (e:=e) (by rw[<-HL.out];exact HJ.out);rw[<-HE.out,<-HL.out]at hn;have Z:=hid hn;clear hn
  go_wp2_with fail
  ·rename_i ab
   exact aa.out _ _ _ _ _ _ (y5x (HE.out.symm.trans ab)) rfl rfl rfl
  ·exact aa.out _ _ _ _ _ _ Z.out rfl rfl rfl
 by_cases h7:kd=7
 ·subst h7
  go_wp2_with fail
  ·rename_i ab
   have hn:=nx7 (Tx:=Tx) (b:=(y,A,D,G)) (s:=s) (k:=k) (f:=f) (j:=j) (a:=a) (HE.out.symm.trans ab) (by rw[<-HL.out];exact HJ.out);rw[<-HL.out]at hn;exact aa.out _ _ _ _ _ _ hn rfl rfl rfl
  ·rename_i ab
   exact aa.out _ _ _ _ _ _ (y5y (by rw[<-HE.out];exact ab)) rfl rfl rfl
 have a6:(kd == 6)=false:=by simpa using h6
 have a7:(kd == 7)=false:=by simpa using h7
 by_cases h9:kd=9
 ·have Z:Hid _:=hid (nx9 (Tx:=Tx) (b:=(y,A,D,G)) (s:=s) (k:=k) (f:=f) (j:=j) (a:=a) (e:=e) (Or.inl h9))
  rw[<-HE.out]at Z;subst h9
  go_wp2_with fail
  exact aa.out _ _ _ _ _ _ Z.out rfl rfl rfl
 have a9:(kd == 9)=false:=by simpa using h9
 by_cases h10:kd=10
 ·have Z:Hid _:=hid (nx9 (Tx:=Tx) (b:=(y,A,D,G)) (s:=s) (k:=k) (f:=f) (j:=j) (a:=a) (e:=e) (Or.inr h10))
  rw[<-HE.out]at Z;subst h10
  go_wp2_with fail
  exact aa.out _ _ _ _ _ _ Z.out rfl rfl rfl
 have aD:(kd == 10)=false:=by simpa using h10
 have Z:Hid (NxQ (kd,Tx,(y,A,D,G),s) k f j a e 0 0 0 0 false):=y5z h6 h7 h9 h10
 go_wp2_with fail
 exact aa.out _ _ _ _ _ _ Z.out rfl rfl rfl
theorem ot8{Tx:zA}{b:Int×Int×Int×Int}(e:Option Nat):enE (otc (8,Tx,b,s) ((k:Int),f,j,a) e)=if enE e= -1 then(f:Int)else enE e:=by
 cases e with
 |none=>rfl
 |some x=>show(x:Int)=if(x:Int)= -1 then _ else(x:Int);rw[if_neg (by omega)]
theorem ot9{Tx:zA}{b:Int×Int×Int×Int}(e:Option Nat):enE (otc (9,Tx,b,s) ((k:Int),f,j,a) e)=(a:Int):=rfl
theorem y5F{Tx:zA}{b:Int×Int×Int×Int}(e:Option Nat):enE (otc (10,Tx,b,s) ((k:Int),f,j,a) e)=if(f:Int)<(a:Int)then(a:Int)else enE e:=by
 show enE (if f<a then some a else e)=_;by_cases h:f<a
 ·rw[if_pos h,if_pos (by omega)];rfl
 ·rw[if_neg h,if_neg (by omega)]
theorem y5G{Tx:zA}{b:Int×Int×Int×Int}(e:Option Nat):enE (otc (11,Tx,b,s) ((k:Int),f,j,a) e)=if enE e= -1 then-1 else(f:Int):=by
 cases e with
 |none=>rfl
 |some x=>show(f:Int)=if(x:Int)= -1 then _ else(f:Int);rw[if_neg (by omega)]
theorem y5H{Tx:zA}{b:Int×Int×Int×Int}(e:Option Nat):enE (otc (12,Tx,b,s) ((k:Int),f,j,a) e)=if enE e= -1 then(f:Int)else-1:=by
 cases e with
 |none=>rfl
 |some x=>show(-1:Int)=if(x:Int)= -1 then _ else(-1:Int);rw[if_neg (by omega)]
theorem y5I{Tx:zA}{b:Int×Int×Int×Int}(e:Option Nat)(h:kd≠8)(o:kd≠9)(r:kd≠10)(y:kd≠11)(A:kd≠12):enE (otc (kd,Tx,b,s) ((k:Int),f,j,a) e)=enE e:=by
 unfold otc;simp only[h,o,r,y,A,if_false]
theorem Dy(h:W.cell? p0=some v0/\W.cell? p1=some v1/\W.cell? p2=some v2)(r:zB W W'):W'.cell? p0=some v0/\W'.cell? p1=some v1/\W'.cell? p2=some v2:=by
 have k:∀{p:Addr} {u:Value},W.cell? p=some u->W'.cell? p=some u:=fun{p u} o=>(r.cell (p:=p) (World.block_lt_of_cell? W _ o)).trans o
 exact⟨k h.1,k h.2.1,k h.2.2⟩
theorem y5J(ops:List Ox)(ns:List ByteArray)(ro:List Int)(oso nso rso:Option Addr)(ol oc:Nat)(M:Nat)(w:World)(ag:ol=ops.length)(h:PgM ops ns ro oso nso rso w)
  (m0:zC w M 0 (.slice oso ol oc))(k:Nat)(hk:k<ops.length)(f j a:Nat)(e:Option Nat):
  Calls prog 92 #[zP M 0,.agg #[zI k,zI f,zI j,zI a],zI (enE e)] w fun G w'=>G=.returned (zI (enE (otc ops[k] ((k:Int),f,j,a) e)))/\zB w w':=by
 obtain⟨g,rfl,hg,so,ah,⟨c0,c1,c2,c3,c4,c5,c6⟩,ad,ab⟩:=h.o k hk;have ai:=h.l2;have aj:(k:Int)<(ol:Int):=by omega
 have hm:=World.block_lt_of_cell? w _ m0;obtain⟨o,ho⟩:∃o,o=ops[k]:=⟨_,rfl⟩;rw[<-ho]at c0 c1 c2 c3 c4 c5 c6 ad ab ⊢;obtain⟨kd,Tx,bb,s⟩:=o;dsimp only at c0 c1 c2 c3 c4 c5 c6 ad ab ⊢;obtain⟨E,hE⟩:∃E,E=enE e:=⟨_,rfl⟩;rw[<-hE];obtain⟨R,D⟩:∃R,R=enE (otc (kd,Tx,bb,s) ((k:Int),f,j,a) e):=⟨_,rfl⟩;rw[<-D];have Z:=hid hE;have y:=hid D;obtain⟨p,hp⟩:∃p,p=w.heap.size:=⟨_,rfl⟩;obtain⟨W,hW⟩:∃W,W=w.alloc (.cells #[zI k,zI f,zI j,zI a] 194):=⟨_,rfl⟩;have hB:zB w W:=by rw[hW];exact(Below.refl _ w).alloc L0q _
 have e0:zH W p (.cells #[zI k,zI f,zI j,zI a] 194):=by rw[hW,hp];exact Qx w _ rfl
 have kk:∀{q:Addr} {u:Value},w.cell? q=some u->W.drew.cell? q=some u:=fun{q u} hq=>(hB.drew.cell (p:=q) (World.block_lt_of_cell? w _ hq)).trans hq
 have HS:Hid (zC W.drew M 0 (zS g ol oc)/\zC W.drew p 0 (zI k)/\zC W.drew g (k*7) (zI kd)):=⟨kk m0,(Qj e0 0 _ rfl).1,kk c0⟩;have HW:=hid hW;have Hp:=hid hp;have HB:Hid (zB w W.drew):=hB.drew;obtain⟨⟨s0,s1,s2,s3⟩,_⟩:=Kd (w:=W.drew) e0;have l0:=Qq (w:=W.drew) e0;clear hE D ho ab h hk ag c1 c2 c3 c4 c5 c6 hW hp hB e0 kk m0 c0;go_enter func92,ntmps92
 go_wp2_with fail
 rw[<-HW.out,<-Hp.out];refine Qc 99 (fun X:World=>zC X M 0 (zS g ol oc)/\zC X p 0 (zI k)/\zC X g (k*7) (zI kd)) (by kernel_rfl) HS.out (fun r=> ?_);refine Qz 0 r ?_;refine Qz 1 r ?_;refine Qz 2 r ?_;refine Qz 3 r ?_;refine Qz 4 r ?_;refine Qz 5 r ?_;refine Qz 6 r ?_;refine Qz 7 r ?_;refine Qz 8 r ?_;refine Qz 9 r ?_;refine⟨by kernel_rfl,?_⟩;clear r;have ae:Hid (∀(A:Act) (X:World),zB w X->A.tmps[6]? =some (zI R)->A.defers=[]->bodyPost prog Tryz.f92 (fun G w'=>G=.returned (zI R)/\zB w w') .ret A X):=by
  intro A X hX U hd;exact bodyPost_ret (v:=zI R) (by simp[results,Tryz.results92,go_sem,U]) hd ⟨rfl,hX⟩
 obtain⟨bE,ac⟩:∃bE,bE=(E != -1):=⟨_,rfl⟩;rw[<-ac];have V:=hid ac;clear ac;have Y:Hid (∀(A:Act) (x:Int),R=x->A.tmps[6]? =some (zI x)->A.defers=[]->bodyPost prog Tryz.f92 (fun G w'=>G=.returned (zI R)/\zB w w') .ret A W.drew):=by
  intro A x hx U hd;rw[<-hx]at U;exact ae.out A _ HB.out U hd
 have aa:Hid (∀(A:Act) (x:Int),R=x->A.tmps[6]? =some (zI x)->A.defers=[]->bodyPost prog Tryz.f92 (fun G w'=>G=.returned (zI R)/\zB w w') .ret A W.drew.drew):=by
  intro A x hx U hd;rw[<-hx]at U;exact ae.out A _ HB.out.drew U hd
 have af:Hid (zC W.drew.drew p 1 (zI f)):=s1;by_cases h8:kd=8
 ·subst h8
  rw[ot8,<-Z.out]at y;by_cases hE1:E= -1
  ·obtain rfl:bE=false:=by rw[V.out,hE1];rfl
   rw[if_pos hE1]at y
   go_wp2_with fail
   exact Y.out _ _ y.out rfl rfl
  ·obtain rfl:bE=true:=by rw[V.out];simpa using hE1
   rw[if_neg hE1]at y
   go_wp2_with fail
   exact Y.out _ _ y.out rfl rfl
 have a8:(kd == 8)=false:=by simpa using h8
 by_cases h9:kd=9
 ·subst h9
  rw[ot9]at y
  go_wp2_with fail
  exact Y.out _ _ y.out rfl rfl
 have a9:(kd == 9)=false:=by simpa using h9
 by_cases h10:kd=10
 ·subst h10
  rw[y5F,<-Z.out]at y
  go_wp2_with fail
  ·rename_i hc
   have D:=y.out;rw[if_pos (by omega)]at D;exact Y.out _ _ D rfl rfl
  ·rename_i hc
   have D:=y.out;rw[if_neg (by omega)]at D;exact Y.out _ _ D rfl rfl
 have ak:(kd == 10)=false:=by simpa using h10
 by_cases h11:kd=11
 ·subst h11
  rw[y5G,<-Z.out]at y
  go_wp2_with fail
  refine Qc 99 (fun X:World=>zC X M 0 (zS g ol oc)/\zC X p 0 (zI k)/\zC X g (k*7) (zI 11)) (by kernel_rfl) HS.out (fun r=> ?_);refine Qz 0 r ?_;refine Qz 1 r ?_;refine Qz 2 r ?_;refine Qz 3 r ?_;refine Qz 4 r ?_;refine Qz 5 r ?_;refine Qz 6 r ?_;refine Qz 7 r ?_;refine Qz 8 r ?_;refine Qz 9 r ?_;refine Qz 10 r ?_;refine Qz 11 r ?_;refine Qz 12 r ?_;refine⟨by kernel_rfl,?_⟩;clear r;have s1:=af.out;by_cases hE1:E= -1
  ·obtain rfl:bE=false:=by rw[V.out,hE1];rfl
   rw[if_pos hE1]at y
   go_wp2_with fail
   exact aa.out _ _ y.out rfl rfl
  ·obtain rfl:bE=true:=by rw[V.out];simpa using hE1
   rw[if_neg hE1]at y
   go_wp2_with fail
   exact aa.out _ _ y.out rfl rfl
 have al:(kd == 11)=false:=by simpa using h11
 by_cases h12:kd=12
 ·subst h12
  rw[y5H,<-Z.out]at y
  go_wp2_with fail
  refine Qc 99 (fun X:World=>zC X M 0 (zS g ol oc)/\zC X p 0 (zI k)/\zC X g (k*7) (zI 12)) (by kernel_rfl) HS.out (fun r=> ?_);refine Qz 0 r ?_;refine Qz 1 r ?_;refine Qz 2 r ?_;refine Qz 3 r ?_;refine Qz 4 r ?_;refine Qz 5 r ?_;refine Qz 6 r ?_;refine Qz 7 r ?_;refine Qz 8 r ?_;refine Qz 9 r ?_;refine Qz 10 r ?_;refine Qz 11 r ?_;refine Qz 12 r ?_;refine⟨by kernel_rfl,?_⟩;clear r;have s1:=af.out;by_cases hE1:E= -1
  ·obtain rfl:bE=false:=by rw[V.out,hE1];rfl
   rw[if_pos hE1]at y
   go_wp2_with fail
   exact aa.out _ _ y.out rfl rfl
  ·obtain rfl:bE=true:=by rw[V.out];simpa using hE1
   rw[if_neg hE1]at y
   go_wp2_with fail
   exact aa.out _ _ y.out rfl rfl
 have am:(kd == 12)=false:=by simpa using h12
 rw[y5I e h8 h9 h10 h11 h12,<-Z.out]at y
 go_wp2_with fail
 exact Y.out _ _ y.out rfl rfl
theorem y5K(n:Nat)(h:n<18446744073709551616):bits BinOp.and IntKind.u64 (n:Int) 1=((n%2:Nat):Int):=by
 have:=Go.bits_and_u64_nat n 1 h (by omega);rw[Nat.and_one_is_mod]at this;exact this
theorem y5L(C b:Nat)(h:b<256):[Value.int IntKind.u64 (wd C 0:Nat),zU (wd C 1:Nat),zU (wd C 2:Nat),zU (wd C 3:Nat)][b/64]? =some (zU (wd C (b/64):Nat)):=by
 have:b/64=0∨b/64=1∨b/64=2∨b/64=3:=by omega
 rcases this with e|e|e|e<;>rw[e]<;>rfl
theorem y5M(C:Nat)(b:Nat)(w:World)(hx:b<256):
  Calls prog 133 #[cv C,.int .u8 b] w fun e w'=>e=.returned (.bool (C.testBit b))/\zB w w':=by
 have y:=y5L C b hx;unfold cv;have A:bits BinOp.and IntKind.u64 ((wd C (b/64):Int)/2^(b%64)) 1=((wd C (b/64)/2^(b%64)%2:Nat):Int):=by
  have:=y5K (wd C (b/64)/2^(b%64)) (Nat.lt_of_le_of_lt (Nat.div_le_self _ _) (Zf _ _));rw[<-this];congr 1
 have r:((((wd C (b/64)/2^(b%64)%2:Nat):Int)) == 1)=C.testBit b:=by
  have o:=Yv C (b/64) (b%64);rw[show 64*(b/64)+b%64=b by omega,Nat.testBit_eq_decide_div_mod_eq]at o;simp only[show b%64<64 by omega,decide_true,Bool.true_and]at o;rw[<-o];rcases Nat.mod_two_eq_zero_or_one (wd C (b/64)/2^(b%64))with h|h<;>rw[h]<;>rfl
 go_enter func133,ntmps133
 go_wp2
 go_ret;exact⟨by rw[<-r];rfl,B0q.alloc L0q _⟩
theorem y5N{a b c d:Int}(h:(0<=a/\a<18446744073709551616)/\(0<=b/\b<18446744073709551616)/\(0<=c/\c<18446744073709551616)/\(0<=d/\d<18446744073709551616)):((wd (cl4 a b c d) 0:Nat):Int)=a/\((wd (cl4 a b c d) 1:Nat):Int)=b/\((wd (cl4 a b c d) 2:Nat):Int)=c/\((wd (cl4 a b c d) 3:Nat):Int)=d:=by
 obtain⟨o,r,y,A⟩:=z0q a.toNat b.toNat c.toNat d.toNat (by omega) (by omega) (by omega) (by omega);unfold cl4;rw[o,r,y,A];exact⟨by omega,by omega,by omega,by omega⟩
theorem z6h{C:Nat}{T:zA}(h:¬i<T.size):Xx C T i=false:=by
 unfold Xx;rw[Array.getElem?_eq_none (show T.data.size<=i from Nat.le_of_not_lt h)]
theorem y5O{C:Nat}{T:zA}{x:Nat}(h:bt T i=some x):Xx C T i=C.testBit x:=by
 obtain⟨o,r⟩:=Xy h;unfold Xx;rw[Array.getElem?_eq_getElem (show i<T.data.size from o)];show C.testBit (T[i]).toNat=_;rw[r]
theorem y5P{T:zA}(h:i<T.size):Xx Vm T i=true:=by
 unfold Xx;rw[Array.getElem?_eq_getElem (show i<T.data.size from h)];show Vm.testBit (T.data[i]).toNat=true;unfold Vm;rw[Nat.testBit_two_pow_sub_one];have:=(T.data[i]).toNat_lt;simpa using this
theorem y5Q{o r:Addr}{v3 v4:Value}(h:W.cell? p0=some v0/\W.cell? p1=some v1/\W.cell? p2=some v2/\W.cell? o=some v3/\W.cell? r=some v4)(A:zB W W'):W'.cell? p0=some v0/\W'.cell? p1=some v1/\W'.cell? p2=some v2/\W'.cell? o=some v3/\W'.cell? r=some v4:=by
 have k:∀{p:Addr} {u:Value},W.cell? p=some u->W'.cell? p=some u:=fun{p u} y=>(A.cell (p:=p) (World.block_lt_of_cell? W _ y)).trans y
 exact⟨k h.1,k h.2.1,k h.2.2.1,k h.2.2.2.1,k h.2.2.2.2⟩
theorem y5R(ops:List Ox)(ns:List ByteArray)(ro:List Int)(oso nso rso:Option Addr)(ol oc:Nat)(M:Nat)(T:zA)(w:World)(am:ol=ops.length)(h:PgM ops ns ro oso nso rso w)(hT:T.size<=4096)
  (m0:zC w M 0 (.slice oso ol oc))(m3:zC w M 3 (zT T))(k:Nat)(hk:k<ops.length)(i:Nat)(hi:i<=T.size)(hu:ops[k].1=3->(0<=ops[k].2.2.1.1/\ops[k].2.2.1.1<18446744073709551616)/\(0<=ops[k].2.2.1.2.1/\ops[k].2.2.1.2.1<18446744073709551616)/\(0<=ops[k].2.2.1.2.2.1/\ops[k].2.2.1.2.2.1<18446744073709551616)/\(0<=ops[k].2.2.1.2.2.2/\ops[k].2.2.1.2.2.2<18446744073709551616)):
  Calls prog 89 #[zP M 0,zI k,zI i] w fun e' w'=>e'=.returned (zI (enE (aln T ops[k] i)))/\zB w w':=by
 obtain⟨g,rfl,hg,so,ah,⟨c0,c1,c2,c3,c4,c5,c6⟩,ab,ac⟩:=h.o k hk;have aq:=h.l2;have ar:(k:Int)<(ol:Int):=by omega
 have hm:=World.block_lt_of_cell? w _ m0;obtain⟨o,ho⟩:∃o,o=ops[k]:=⟨_,rfl⟩;rw[<-ho]at c0 c1 c2 c3 c4 c5 c6 ab ac hu ⊢;obtain⟨kd,Tx,⟨D,E,G,U⟩,s⟩:=o;dsimp only at c0 c1 c2 c3 c4 c5 c6 ab ac hu ⊢;obtain⟨R,y⟩:∃R,R=enE (aln T (kd,Tx,(D,E,G,U),s) i):=⟨_,rfl⟩;rw[<-y];obtain⟨L,hL⟩:∃L,L=s.length:=⟨_,rfl⟩;rw[<-hL]at c6 ab;have HR:=hid y;obtain⟨p,hp⟩:∃p,p=w.heap.size:=⟨_,rfl⟩;obtain⟨W,hW⟩:∃W,W=w.alloc (.cells #[zI kd,zT Tx,zU D,zU E,zU G,zU U,.slice so L ah] 65):=⟨_,rfl⟩;have hB:zB w W:=by rw[hW];exact(Below.refl _ w).alloc L0q _
 have e0:zH W p (.cells #[zI kd,zT Tx,zU D,zU E,zU G,zU U,.slice so L ah] 65):=by rw[hW,hp];exact Qx w _ rfl
 have ai:Hid (zC W M 3 (zT T)):=(hB.cell (p:=⟨M,3,none⟩) (World.block_lt_of_cell? w _ m3)).trans m3;have Z:=hid hW;have Hp:=hid hp;have V:=hid hB;have aa:=hid e0;have Y:Hid (∀(a':Act) (X:World) (x:Int),R=x->zB w X->a'.tmps[6]? =some (zI x)->a'.defers=[]->bodyPost prog Tryz.f89 (fun e' w'=>e'=.returned (zI R)/\zB w w') .ret a' X):=by
  intro a' X x hx hX h6 hd;subst hx;exact bodyPost_ret (v:=zI R) (by simp[results,Tryz.results89,go_sem,h6]) hd ⟨rfl,hX⟩
 have HU:=hid hu;clear y ho ac h hk am hL hW hp hB e0 hu;by_cases h2:kd=2
 ·subst h2
  have y:R=enE (Zm (Uk Tx T i) (i+Tx.size)):=HR.out;have HL:=hid (fun h=>Mk (N:=Tx) (T:=T) hi h);have aj:Hid (∀w:World,Calls prog 71 #[zT (T.extract i T.size),zT Tx] w fun e w'=>e=.returned (.bool (Uk Tx T i))/\w'=w):=fun w=>z0I _ _ w
  obtain⟨q,hq⟩:∃q,q=Uk Tx T i:=⟨_,rfl⟩;rw[<-hq]at y aj HL;have A:=hid y;have HS:Hid (zC W.drew M 3 (zT T)/\zC W.drew p 1 (zT Tx)):=⟨ai.out,(Qj aa.out 1 _ rfl).1⟩;have au:(i:Int)<=(T.size:Int):=by omega
  clear hq y;go_enter func89,ntmps89
  go_wp2_with fail
  rw[<-Z.out,<-Hp.out];clear c0 c1 c2 c3 c4 c5 c6;refine Qc 99 (fun X:World=>zC X M 3 (zT T)/\zC X p 1 (zT Tx)) (by kernel_rfl) HS.out (fun r=> ?_);refine Qz 0 r ?_;refine Qz 1 r ?_;refine Qz 2 r ?_;refine Qz 3 r ?_;refine Qz 4 r ?_;refine Qz 5 r ?_;refine Qz 6 r ?_;refine Qz 7 r ?_
  (refine Qv 8 (fun K hK=> ?_);go_simp;refine(aj.out _).mono ?_;rintro e w4 ⟨rfl,rfl⟩;go_simp;refine hK.out _ _ r ?_;clear hK K)
  (try simp only[Act.put,zY])
  refine⟨by kernel_rfl,?_⟩;clear r;cases q with
  |false=>
   go_wp2_with fail
   exact Y.out _ _ _ A.out V.out.drew rfl rfl
  |true=>
   have hl:=HL.out rfl;have ak:IntKind.i64.wrap ((i:Int)+(Tx.size:Int))=(i:Int)+(Tx.size:Int):=by rw[IntKind.wrap_i64];omega
   have f1:=HS.out.2;have l1:=World.block_lt_of_cell? _ _ f1;clear HL hl
   go_wp2_with fail
   exact Y.out _ _ _ A.out V.out.drew rfl rfl
 have a2:(kd == 2)=false:=by simpa using h2
 by_cases h3:kd=3
 ·subst h3
  have y:R=enE (Zm (Xx (cl4 D E G U) T i) (i+1)):=HR.out;have HS:Hid (zC W.drew M 3 (zT T)/\zC W.drew p 2 (zU D)/\zC W.drew p 3 (zU E)/\zC W.drew p 4 (zU G)/\zC W.drew p 5 (zU U)):=⟨ai.out,(Qj aa.out 2 _ rfl).1,(Qj aa.out 3 _ rfl).1,(Qj aa.out 4 _ rfl).1,(Qj aa.out 5 _ rfl).1⟩;cases hx:bt T i with
  |none=>
   have hn:=Yg hx;have ad:decide (i<T.size)=false:=by simp;omega
   have ae:¬(i:Int)<(T.size:Int):=by omega
   rw[z6h (by omega)]at y;have A:=hid y;clear y hx;go_enter func89,ntmps89
   go_wp2_with fail
   rw[<-Z.out,<-Hp.out];clear c0 c1 c2 c3 c4 c5 c6;refine Qc 99 (fun X:World=>zC X M 3 (zT T)/\zC X p 2 (zU D)/\zC X p 3 (zU E)/\zC X p 4 (zU G)/\zC X p 5 (zU U)) (by kernel_rfl) HS.out (fun r=> ?_);refine Qz 0 r ?_;refine Qz 1 r ?_;refine Qz 2 r ?_;refine Qz 3 r ?_;refine Qz 4 r ?_;refine Qz 5 r ?_;refine Qz 6 r ?_;refine Qz 7 r ?_;refine Qz 8 r ?_;refine Qz 9 r ?_;refine Qz 10 r ?_;refine Qz 11 r ?_;refine Qz 12 r ?_;refine Qz 13 r ?_;refine Qz 14 r ?_;refine Qz 15 r ?_;refine Qz 16 r ?_;refine Qz 17 r ?_;refine⟨by kernel_rfl,?_⟩;clear r
   go_wp2_with fail
   exact Y.out _ _ _ A.out V.out.drew rfl rfl
  |some x=>
   obtain⟨af,ao⟩:=Zq hx;obtain⟨av,aw⟩:=Xy hx;have ad:decide (i<T.size)=true:=by simp;omega
   have ae:(i:Int)<(T.size:Int):=by omega
   have ak:IntKind.i64.wrap ((i:Int)+1)=(i:Int)+1:=by rw[IntKind.wrap_i64];omega
   rw[y5O hx]at y;obtain⟨q,hq⟩:∃q,q=(cl4 D E G U).testBit x:=⟨_,rfl⟩;have HH:Hid (∀W:World,Calls prog 133 #[.agg #[zU D,zU E,zU G,zU U],.int .u8 x] W (zR W (.bool q))):=fun W=>by
    have:=y5M (cl4 D E G U) x W ao;obtain⟨z0,z1,z2,z3⟩:=y5N (HU.out rfl);dsimp only[cv]at this;rw[z0,z1,z2,z3]at this;rw[hq];exact this
   rw[<-hq]at y;have A:=hid y;clear y hx hq;go_enter func89,ntmps89
   go_wp2_with fail
   rw[<-Z.out,<-Hp.out];clear c0 c1 c2 c3 c4 c5 c6;refine Qc 99 (fun X:World=>zC X M 3 (zT T)/\zC X p 2 (zU D)/\zC X p 3 (zU E)/\zC X p 4 (zU G)/\zC X p 5 (zU U)) (by kernel_rfl) HS.out (fun r=> ?_);refine Qz 0 r ?_;refine Qz 1 r ?_;refine Qz 2 r ?_;refine Qz 3 r ?_;refine Qz 4 r ?_;refine Qz 5 r ?_;refine Qz 6 r ?_;refine Qz 7 r ?_;refine Qz 8 r ?_;refine Qz 9 r ?_;refine Qz 10 r ?_;refine Qz 11 r ?_;refine Qz 12 r ?_;refine Qz 13 r ?_;refine Qz 14 r ?_;refine Qz 15 r ?_
   (refine Qv 16 (fun K hK=> ?_);go_simp;refine(HH.out _).mono ?_;rintro e w4 ⟨rfl,ag⟩;go_simp;replace r:=y5Q r ag;have ap:=hid ag;clear ag;refine hK.out _ _ r ?_;clear hK K)
   (try simp only[Act.put,zY])
   refine Qz 17 r ?_;refine⟨by kernel_rfl,?_⟩;clear r;have al:Hid (zB w w4):=hid (V.out.drew.trans (ap.out.mono V.out.drew.size));cases q with
   |false=>
    go_wp2_with fail
    exact Y.out _ _ _ A.out al.out rfl rfl
   |true=>
    go_wp2_with fail
    exact Y.out _ _ _ A.out al.out rfl rfl
 have a3:(kd == 3)=false:=by simpa using h3
 by_cases h4:kd=4
 ·subst h4
  have y:R=enE (Zm (Xx Vm T i) (i+1)):=HR.out;by_cases af:i<T.size
  ·rw[y5P af]at y
   have A:=hid y;have ad:decide (i<T.size)=true:=by simp;omega
   have ae:(i:Int)<(T.size:Int):=by omega
   have ak:IntKind.i64.wrap ((i:Int)+1)=(i:Int)+1:=by rw[IntKind.wrap_i64];omega
   clear y;go_enter func89,ntmps89
   go_wp2_with fail
   rw[<-Z.out];exact Y.out _ _ _ A.out V.out rfl rfl
  ·rw[z6h af]at y
   have A:=hid y;have ad:decide (i<T.size)=false:=by simp;omega
   have ae:¬(i:Int)<(T.size:Int):=by omega
   clear y;go_enter func89,ntmps89
   go_wp2_with fail
   rw[<-Z.out];exact Y.out _ _ _ A.out V.out rfl rfl
 have a4:(kd == 4)=false:=by simpa using h4
 by_cases h1:kd=1
 ·subst h1
  have A:Hid (R=(i:Int)):=HR.out;go_enter func89,ntmps89
  go_wp2_with fail
  rw[<-Z.out];exact Y.out _ _ _ A.out V.out rfl rfl
 have a1:(kd == 1)=false:=by simpa using h1
 have A:Hid (R= -1):=by
  have:=HR.out;unfold aln at this;simp only[h1,h2,h3,h4,if_false]at this;exact this
 go_enter func89,ntmps89
 go_wp2_with fail
 rw[<-Z.out];exact Y.out _ _ _ A.out V.out rfl rfl
theorem Tryz.infoNte:(Tryz.prog.info? 242).map (fun i=>(i.zero,i.size,i.bytes))=some (some (.agg #[.bool false,.int .i32 0]),2,8):=by kernel_rfl
theorem y5S(n:Nat)(D:n<=1048576)(W:World):(Instr.makeSlice 240 (zI (n:Int)) (zI (n:Int))).run prog W=.ok (zS W.heap.size n n) (W.alloc (.cells (madeCells #[.bool false,.int .i32 0] (n*2)) 242)):=by
 obtain⟨h,o,r,y,A⟩:=info_parts Tryz.infoNte;rw[run_make W 240 242 h _ Tryz.underlying240 o r .i64 .i64 n n (by omega) (by omega) (by rw[A];omega) (by omega),y];simp[Value.cells]
theorem z6i{a b:Value}(h:k<n):(madeCells #[a,b] (n*2))[k*2]? =some a/\(madeCells #[a,b] (n*2))[k*2+1]? =some b:=by
 have s:=size_madeCells #[a,b] (n*2);constructor
 ·rw[Array.getElem?_eq_getElem (by rw[s];omega)]
  simp[madeCells]
 ·rw[Array.getElem?_eq_getElem (by rw[s];omega)]
  simp[madeCells,Nat.add_mod]
theorem y5T(h:W.cell? p0=some v0/\W.cell? p1=some v1)(r:zB W W'):W'.cell? p0=some v0/\W'.cell? p1=some v1:=by
 have k:∀{p:Addr} {u:Value},W.cell? p=some u->W'.cell? p=some u:=fun{p u} o=>(r.cell (p:=p) (World.block_lt_of_cell? W _ o)).trans o
 exact⟨k h.1,k h.2⟩
theorem y5U(M NB h nc:Nat)(g ol y:Nat)(k at':Nat)(E:Int)(hx:E<2147483648/\ -2147483648<=E)(v0 v1:Value)(w:World)(A:zC w M 4 (zS NB h nc))(ha:at'<h)(D:zC w NB at' (zS g ol y))(G:k<ol)(U:zC w g (k*2) v0)(V:zC w g (k*2+1) v1)(Y:w.frozen? ⟨g,k*2,none⟩=false)(Z:w.frozen? ⟨g,k*2+1,none⟩=false):
  Calls prog 90 #[zP M 0,zI k,zI at',zI E] w fun e w'=>e=.returned (.tuple #[])/\w'=(w.setCell ⟨g,k*2,none⟩ (.bool true)).setCell ⟨g,k*2+1,none⟩ (.int .i32 E):=by
 have hm:=World.block_lt_of_cell? w _ A;have aa:(at':Int)<(h:Int):=by omega
 have ab:(k:Int)<(ol:Int):=by omega
 have q:∀(w:World) (a:Option Addr) (n c o r:Nat),(binOp .eql 240 (.slice a n c) (.slice none o r)).run prog w=.ok (.bool a.isNone) w:=fun w a n c o r=>Lib.run_eql_slice_nil w _ _ a n c o r Tryz.underlying240
 have hw:IntKind.i32.wrap E=E:=by rw[IntKind.wrap_i32];omega
 go_enter func90,ntmps90
 go_wp2_with fail
 (try simp only[Exit.inBlock,Exit.then])
 exact bodyPost_end (v:=.tuple #[]) (by simp[results,Tryz.results90,go_sem]) rfl ⟨rfl,rfl⟩
def nwN(w:World)(NB at' ol k:Nat)(E:Int):World:=(((w.alloc (.cells (madeCells #[.bool false,.int .i32 0] (ol*2)) 242)).drew.setCell ⟨NB,at',none⟩ (zS w.heap.size ol ol)).setCell ⟨w.heap.size,k*2,none⟩ (.bool true)).setCell ⟨w.heap.size,k*2+1,none⟩ (.int .i32 E)
theorem y5V(M NB o nc:Nat)(oso:Option Addr)(oc:Nat)(ol:Nat)(ae:ol<=200)(k at':Nat)(E:Int)(hx:E<2147483648/\ -2147483648<=E)(w:World)(m0:zC w M 0 (.slice oso ol oc))(D:zC w M 4 (zS NB o nc))(ha:at'<o)(Y:Array Value)(t:TypeId)(Z:zH w NB (.cells Y t))(G:Y[at']? =some (.slice none 0 0))(ad:M≠NB)(hk:k<ol):
  Calls prog 90 #[zP M 0,zI k,zI at',zI E] w fun e w'=>e=.returned (.tuple #[])/\w'=nwN w NB at' ol k E:=by
 have hm:=World.block_lt_of_cell? w _ D;obtain⟨hn,hf⟩:=Qj Z at' _ G;have ab:=World.block_lt_of_cell? w _ hn;have af:(at':Int)<(o:Int):=by omega
 have ag:(k:Int)<(ol:Int):=by omega
 have q:∀(w:World) (a:Option Addr) (n c n' c':Nat),(binOp .eql 240 (.slice a n c) (.slice none n' c')).run prog w=.ok (.bool a.isNone) w:=fun w a n c n' c'=>Lib.run_eql_slice_nil w _ _ a n c n' c' Tryz.underlying240
 have hw:IntKind.i32.wrap E=E:=by rw[IntKind.wrap_i32];omega
 go_enter func90,ntmps90;have HS:Hid (zC w.drew M 4 (zS NB o nc)/\zC w.drew M 0 (.slice oso ol oc)):=⟨D,m0⟩;have ah:=y5S ol (by omega)
 go_wp2_with fail
 refine Qc 13 (fun X:World=>zC X M 4 (zS NB o nc)/\zC X M 0 (.slice oso ol oc)) (by kernel_rfl) HS.out (fun h=> ?_);refine Qz 0 h ?_;refine Qz 1 h ?_;refine Qz 2 h ?_;refine Qz 3 h ?_;refine Qz 4 h ?_;refine Qz 5 h ?_;refine Qz 6 h ?_;refine Qz 7 h ?_;refine Qz 8 h ?_;refine Qz 9 h ?_;refine Qz 10 h ?_
 (refine Qv 11 (fun K r=> ?_);go_simp;replace h:=y5T h ((Below.refl _ w.drew).alloc L0q (.cells (madeCells #[.bool false,.int .i32 0] (ol*2)) 242));refine r.out _ _ h ?_;clear r K)
 (try simp only[Act.put,zY])
 refine Qz 12 h ?_;refine Yj (fun K r=> ?_);obtain⟨X,y⟩:∃X,X=(w.alloc (.cells (madeCells #[.bool false,.int .i32 0] (ol*2)) 242)).drew:=⟨_,rfl⟩;have aa:zB w X:=by rw[y];exact((Below.refl _ w).alloc L0q _).drew
 have U:zH X NB (.cells Y t):=(aa.block _ ab).trans Z;have ac:X.heap[w.heap.size]? =some (.cells (madeCells #[.bool false,.int .i32 0] (ol*2)) 242):=by rw[y];exact Qx w _ rfl
 obtain⟨x0,x1⟩:=Qj U at' _ G;have x2:=Qq U;obtain⟨V,A⟩:∃V,V=X.setCell ⟨NB,at',none⟩ (zS w.heap.size ol ol):=⟨_,rfl⟩;have v0:zC V NB at' (zS w.heap.size ol ol):=by
  rw[A];refine(Qj (Qk U at' _) at' _ ?_).1;rw[Array.getElem?_setIfInBounds_self_of_lt (Array.getElem?_eq_some_iff.1 G).1]
 have v1:zC V M 4 (zS NB o nc):=by
  have e:V.heap[M]? =X.heap[M]? :=by rw[A];exact Below.heap_setCell _ _ _ _ ad
  exact(Vl e).trans ((aa.cell (p:=⟨M,4,none⟩) hm).trans D)
 have v2:V.heap[w.heap.size]? =some (.cells (madeCells #[.bool false,.int .i32 0] (ol*2)) 242):=by rw[A];exact(Below.heap_setCell _ _ _ _ (fun e=>by have e2:w.heap.size=NB:=e;have h3:NB<w.heap.size:=ab;omega)).trans ac
 obtain⟨u0,u1⟩:=z6i (a:=.bool false) (b:=.int .i32 0) hk;obtain⟨y0,y1⟩:=Qj v2 _ _ u0;obtain⟨y2,y3⟩:=Qj v2 _ _ u1;have lv:=Qq v2;have lm:=World.block_lt_of_cell? V _ v1;have ln:=World.block_lt_of_cell? V _ v0;have HV:=hid A;have HX:=hid y;rw[<-y];clear h y aa U ac A hn D m0 Z G HS hf u0 u1 v2
 go_simp
 refine r.out _ _ ?_;clear r K x0 x1 x2;rw[<-HV.out]
 go_wp2_with fail
 (try simp only[Exit.inBlock,Exit.then])
 refine bodyPost_end (v:=.tuple #[]) (by simp[results,Tryz.results90,go_sem]) rfl ⟨rfl,?_⟩;rw[HV.out,HX.out];rfl
end Go.Proofs.YtmelafeingcgnaaGreatDoor
