/- Lemmas for the last text. Conditions: those that each names. -/
import Derived.Test.YtmelafeingcgnaaGreatDoorVLFToLI
import Derived.Test.YtmelafeingcgnaaGreatDoorVPDnToC4
set_option linter.unusedVariables false
set_option maxRecDepth 100000
set_option maxHeartbeats 32000000
namespace Go.Proofs.YtmelafeingcgnaaGreatDoor
open Go.Proofs.Tryz
open Go.RowKit Go.Shelf Go.Maps
theorem Km(l n:Int)(w:World):Calls prog 47 #[zI l,zI n] w fun e w'=>e=.returned (.bool (decide (0<=n/\n<=l)))/\zB w w':=by
 by_cases h0:0<=n
 ·by_cases h1:n<=l
  ·have h:decide (0<=n/\n<=l)=true:=by simp;omega
   rw[h];go_enter func47,ntmps47
   go_wp2_with fail
   refine bodyPost_ret (v:=.bool true) (by simp[results,Tryz.results47,go_sem]) rfl ?_;exact⟨rfl,Below.refl _ w⟩
  ·have h:decide (0<=n/\n<=l)=false:=by simp;omega
   have o:decide (n<=l)=false:=by simp;omega
   rw[h];go_enter func47,ntmps47
   go_wp2_with fail
   refine bodyPost_ret (v:=.bool false) (by simp[results,Tryz.results47,go_sem]) rfl ?_;exact⟨rfl,Below.refl _ w⟩
 ·have h:decide (0<=n/\n<=l)=false:=by simp;omega
  have o:decide (0<=n)=false:=by simp;omega
  rw[h];go_enter func47,ntmps47
  go_wp2_with fail
  refine bodyPost_ret (v:=.bool false) (by simp[results,Tryz.results47,go_sem]) rfl ?_;exact⟨rfl,Below.refl _ w⟩
def MRo(r:Option (Option Nat×Nat×Nt))(e:Ending):Prop:=match r with
 |none=>e=.returned (.tuple #[zI 0,zI 0,.iface 34 (zI 50)])
 |some (e1,c1,_)=>e=.returned (.tuple #[zI (enE e1),zI (c1:Int),.nilIface])
theorem Tryz.infoNtes:(Tryz.prog.info? 240).map (fun i=>(i.zero,i.size,i.bytes))=some (some (.slice none 0 0),1,24):=by kernel_rfl
theorem y6g(n:Nat)(D:n<=1048576)(W:World):(Instr.makeSlice 129 (zI (n:Int)) (zI (n:Int))).run prog W=.ok (zS W.heap.size n n) (W.alloc (.cells (madeCells #[.slice none 0 0] n) 240)):=by
 obtain⟨h,o,r,y,A⟩:=info_parts Tryz.infoNtes;rw[run_make W 129 240 h _ Tryz.underlying129 o r .i64 .i64 n n (by omega) (by omega) (by rw[A];omega) (by omega),y];simp[Value.cells]
def ndE(x:Option (Option Nat)):Int:=match x with|none=> -1|some e=>enE e
theorem y6h{o:Ox}{w w':Wq}{e:Option Nat}(h:nxt o w e=some w'):w'.1=w.1/\w'.2.1=w.2.1:=by
 unfold nxt at h;split at h
 ·cases e with
  |none=>cases h
  |some x=>
   dsimp only at h;split at h
   ·cases h
   ·cases h;exact⟨rfl,rfl⟩
 ·split at h
  ·cases e with
   |some x=>cases h
   |none=>
    dsimp only at h;split at h
    ·cases h
    ·cases h;exact⟨rfl,rfl⟩
  ·split at h
   ·cases e with
    |none=>cases h
    |some x=>cases h;exact⟨rfl,rfl⟩
   ·cases h
def EdP(S:List Wq)(m:Mde)(N:Nt)(e:Option Nat)(N':Nt):Prop:=match S.getLast? with
 |some w=>N' w.1 w.2.1=some e
 |none=>match m with
  | .beg k i=>N' k i=some e
  | .ret e0=>e=e0/\N'=N
theorem z6m{ops:List Ox}{ro:List Int}{T:zA}{mo:Nat}{N:Nt}{c:Nat}{S:List Wq}{m:Mde}{r:Option (Option Nat×Nat×Nt)}{q:Nat}(h:Mch ops ro T mo N c S m r q):∀{e:Option Nat} {A:Nat} {y:Nt},r=some (e,A,y)->EdP S m N e y:=by
 induction h with
 |done=>intro e A y h;cases h;exact⟨rfl,rfl⟩
 |bud _=>intro e A y h;cases h
 | @noted N c S k i e0 r q h1 _ ih=>
   intro e A y h;have:=ih h;unfold EdP at this ⊢;cases hS:S.getLast? with
   |some w=>rw[hS]at this;exact this
   |none=>rw[hS]at this;obtain⟨rfl,rfl⟩:=this;exact h1
 | @leaf N c S k i o r q h1 _ _ _ _ ih=>
   intro e A y h;have:=ih h;unfold EdP at this ⊢;cases hS:S.getLast? with
   |some w=>rw[hS]at this;exact this
   |none=>rw[hS]at this;obtain⟨rfl,rfl⟩:=this;exact Ah _ _ _ _
 | @push N c S k i o r q h1 _ _ _ _ ih=>
   intro e A y h;have:=ih h;unfold EdP at this ⊢;cases S with
   |nil=>exact this
   |cons x r=>rw[List.getLast?_cons_cons]at this;exact this
 | @next N c S w w' o e0 r q h1 h2 _ ih=>
   intro e A y h;have:=ih h;obtain⟨D,E⟩:=y6h h2;unfold EdP at this ⊢;cases S with
   |nil=>rw[List.getLast?_singleton]at this ⊢;dsimp only at this ⊢;rw[<-D,<-E];exact this
   |cons x r=>rw[List.getLast?_cons_cons]at this ⊢;exact this
 | @pop N c S w o e0 r q h1 h2 _ ih=>
   intro e A y h;have:=ih h;unfold EdP at this ⊢;cases S with
   |nil=>rw[List.getLast?_singleton];obtain⟨rfl,rfl⟩:=this;exact Ah _ _ _ _
   |cons x r=>rw[List.getLast?_cons_cons];exact this
theorem Ap{ops:List Ox}{ns:List ByteArray}{ro:List Int}{T:zA}{mo:Nat}{oso nso rso:Option Addr}{oc nc rc M NB:Nat}{w0:World}{N:Nt}{c:Nat}{S:List Wq}{v:Value}{W:World}(h:MtM ops ns ro T mo oso nso rso oc nc rc M NB w0 N c S v W)(A:T.size<=4096)(D:∀k i e,N k i=some (some e)->e<=T.size)(k i:Nat)(E:k<ops.length)(G:i<=T.size):
  Calls prog 48 #[zP M 0,zI k,zI i] W fun e w'=>e=.returned (zI (ndE (N k i)))/\zB W w':=by
 have o:=hid (h.noted A D k i E G);clear h D E G A;cases hx:N k i with
 |none=>
  rw[hx]at o;dsimp only[ntc]at o;dsimp only[ndE];clear hx;go_enter func48,ntmps48
  go_wp2_with fail
  refine o.out.mono ?_;rintro e w1 ⟨rfl,r⟩;have y:=hid r;clear r o
  go_wp2_with fail
  refine bodyPost_ret (v:=zI (-1)) (by simp[results,Tryz.results48,go_sem]) rfl ?_;exact⟨rfl,y.out⟩
 |some x=>
  rw[hx]at o;dsimp only[ntc]at o;dsimp only[ndE];clear hx;go_enter func48,ntmps48
  go_wp2_with fail
  refine o.out.mono ?_;rintro e w1 ⟨rfl,r⟩;have y:=hid r;clear r o
  go_wp2_with fail
  refine bodyPost_ret (v:=zI (enE x)) (by simp[results,Tryz.results48,go_sem]) rfl ?_;exact⟨rfl,y.out⟩
theorem y6i{M:Nat}{c:Nat}{W:World}(h:zC W M 5 (zI (c:Int))):
  Calls prog 49 #[zP M 0] W fun e w'=>e=.returned (zI (c:Int))/\zB W w':=by
 have l:=World.block_lt_of_cell? W _ h;go_enter func49,ntmps49
 go_wp2_with fail
 refine bodyPost_ret (v:=zI (c:Int)) (by simp[results,Tryz.results49,go_sem]) rfl ?_;exact⟨rfl,Below.refl _ _⟩
theorem z0i{W W':World}{p0 p1 p2 o:Addr}{v0 v1 v2 v3:Value}(h:W.cell? p0=some v0/\W.cell? p1=some v1/\W.cell? p2=some v2/\W.cell? o=some v3)(r:zB W W'):W'.cell? p0=some v0/\W'.cell? p1=some v1/\W'.cell? p2=some v2/\W'.cell? o=some v3:=⟨(Dy ⟨h.1,h.2.1,h.2.2.1⟩ r).1,Dy h.2 r⟩
def OfQ(ops:List Ox)(ns:List ByteArray)(ro:List Int)(T:zA)(mo:Nat)(oso nso rso:Option Addr)(oc nc rc:Nat)(r:Option (Option Nat×Nat×Nt))(w0:World)(e':Ending)(W':World):Prop:=∃M NB pv ev,e'=.returned (.tuple #[pv,ev])/\zB w0 W'/\Hid (match r with
 |none=>pv=.pointer none/\ev=.iface 34 (zI 50)
 |some (e,c,N)=>pv=zP M 0/\ev=.nilIface/\(∀k i e,N k i=some (some e)->e<=T.size)/\∃w1 v,zB w0 w1/\MtM ops ns ro T mo oso nso rso oc nc rc M NB w1 N c [] v W')
theorem z6n{ops:List Ox}{ns:List ByteArray}{ro:List Int}{T:zA}{mo:Nat}{oso nso rso:Option Addr}{oc nc rc:Nat}{w:World}(at':Nat)(ha:at'<=T.size)(aj:mo<=1048576)(hT:T.size<=4096)(ac:PgM ops ns ro oso nso rso w)(ad:OpW ops ro)(D:Nat)(ak:D<ops.length)(r:Option (Option Nat×Nat×Nt))(q:Nat)(hq:Mch ops ro T mo N0 0 [] (.beg (D:Int) at') r q):
  Calls prog 23 #[.agg #[.slice oso ops.length oc,.slice nso ns.length nc,.slice rso ro.length rc],zI D,zT T,zI at',zI mo] w (OfQ ops ns ro T mo oso nso rso oc nc rc r w):=by
 obtain⟨o,Y⟩:∃o,o=w.alloc (.cells #[.slice oso ops.length oc,.slice nso ns.length nc,.slice rso ro.length rc] 26):=⟨_,rfl⟩;have aa:zB w o:=by rw[Y];exact(Below.refl _ w).alloc L0q _
 have E:o.heap[w.heap.size]? =some (.cells #[.slice oso ops.length oc,.slice nso ns.length nc,.slice rso ro.length rc] 26):=by rw[Y];exact Qx w _ rfl
 have G:=hid aa;have ae:=hid Y;have al:=hid (ac.below aa);have am:=hid ad;have Hq:=hid hq;have q0:=(Qj E 0 _ rfl).1;have q1:=(Qj E 1 _ rfl).1;have q2:=(Qj E 2 _ rfl).1;have au:=Qq E;have ao:IntKind.i64.wrap ((T.size:Int)+1)=((T.size+1:Nat):Int):=by rw[IntKind.wrap_i64];omega
 have ap:=y6g (T.size+1) (by omega);rw[show((T.size+1:Nat):Int)=(T.size:Int)+1 by omega]at ap ao;obtain⟨X,U⟩:∃X,X=((o.alloc (.cells (madeCells #[.slice none 0 0] (T.size+1)) 240)).alloc (mtO ops ns ro T mo oso nso rso oc nc rc o.heap.size (.slice none 0 0) 0)).drew:=⟨_,rfl⟩;have A:Hid (MtM ops ns ro T mo oso nso rso oc nc rc (o.heap.size+1) o.heap.size o N0 0 [] (.slice none 0 0) X):=by
  have Z:zB o X:=by rw[U];exact(((Below.refl _ o).alloc L0q _).alloc (by simp) _).drew
  have hn:X.heap[o.heap.size]? =some (.cells (madeCells #[.slice none 0 0] (T.size+1)) 240):=by rw[U];exact(Below.heap_alloc _ _ _ (by simp)).trans (Qx o _ rfl)
  refine⟨al.out,Z,by omega,Nat.le_refl _,by omega,by rw[U];exact Qx _ _ (by simp),World.ownsRow_nil _ _ _ _,(fun h=>by cases h),(fun h=>by cases h),(fun _=>none),⟨_,hn,fun i hi=> ?_⟩,(fun i hi _ k=>rfl),(fun i hi g hg=>by cases hg),(fun i j g hi hj h1 h2=>by cases h1)⟩;show(madeCells #[.slice none 0 0] (T.size+1))[i]? =some (.slice none 0 0);have e1:=toList_madeCells_one (.slice none 0 0) (T.size+1);rw[<-Array.getElem?_toList,e1,List.getElem?_replicate];simp;omega
 have af:Hid (MJs ops ns ro T mo oso nso rso oc nc rc (o.heap.size+1) o.heap.size o r q D at' N0 0 [] (.slice none 0 0) X):=⟨ak,ha,(fun k i e h=>by cases h),(fun x hx=>by cases hx),Nat.zero_le _,Nat.le_refl _,A.out,Hq.out⟩;have ag:=hid (y6f am.out hT aj r q D at' N0 0 (.slice none 0 0) X af.out);have HS:Hid (zC o.drew w.heap.size 0 (.slice oso ops.length oc)/\zC o.drew w.heap.size 1 (.slice nso ns.length nc)/\zC o.drew w.heap.size 2 (.slice rso ro.length rc)):=⟨q0,q1,q2⟩;have HX:=hid U;have av:Hid (((T.size+1:Nat):Int)=(T.size:Int)+1):=by show _=_;omega
 clear aa U q0 q1 q2 Hq Y E ac ad hq;go_enter func23,ntmps23
 go_wp2_with fail
 rw[<-ae.out];clear ae;refine Qc 99 (fun X:World=>zC X w.heap.size 0 (.slice oso ops.length oc)/\zC X w.heap.size 1 (.slice nso ns.length nc)/\zC X w.heap.size 2 (.slice rso ro.length rc)) (by kernel_rfl) HS.out (fun y=> ?_);refine Qz 0 y ?_;refine Qz 1 y ?_;refine Qz 2 y ?_;refine Qz 3 y ?_;refine Qz 4 y ?_;refine Qz 6 y ?_
 (refine Qv 5 (fun K V=> ?_);go_simp;replace y:=Dy y ((Below.refl _ o.drew).alloc L0q (.cells (madeCells #[.slice none 0 0] (T.size+1)) 240));refine V.out _ _ y ?_;clear V K)
 (try simp only[Act.put,zY])
 refine Qz 7 y ?_
 (refine Qv 8 (fun K V=> ?_);go_simp)
 have eX:X=((o.alloc (.cells (madeCells #[.slice none 0 0] (T.size+1)) 240)).alloc (.cells #[.slice oso ops.length oc,.slice nso ns.length nc,.slice rso ro.length rc,zT T,zS o.heap.size (T.size+1) (T.size+1),zI 0,zI (mo:Int),.slice none 0 0] 132)).drew:=HX.out;rw[<-eX];replace y:=Dy HS.out (⟨A.out.be.os,A.out.be.tape,A.out.be.output,A.out.be.size,A.out.be.block⟩:Below o.drew.heap.size o.drew X);refine V.out _ _ y ?_;clear V K
 (try simp only[Act.put,zY])
 refine Qz 9 y ?_;refine⟨by kernel_rfl,?_⟩;clear y eX HX HS
 go_wp2_with fail
 refine ag.out.mono ?_;intro e5 w5 h5;clear ag af;cases r with
 |none=>
  obtain⟨rfl,Z⟩:=h5;have aq:=hid (G.out.trans (Z.mono G.out.size));clear Z
  go_wp2_with fail
  refine bodyPost_ret (v:=.tuple #[.pointer none,.iface 34 (zI 50)]) (by simp[results,Tryz.results23,go_sem]) rfl ?_;exact⟨0,0,_,_,rfl,aq.out,hid ⟨rfl,rfl⟩⟩
 |some r3=>
  obtain⟨e1,c1,N1⟩:=r3;obtain⟨rfl,ah,v1,ab⟩:=h5;have ar:=hid (G.out.trans (ab.be.mono G.out.size));have ai:=hid (And.intro ah ab);clear ab ah
  go_wp2_with fail
  refine bodyPost_ret (v:=.tuple #[zP (o.heap.size+1) 0,.nilIface]) (by simp[results,Tryz.results23,go_sem]) rfl ?_;exact⟨_,_,_,_,rfl,ar.out,hid ⟨rfl,rfl,ai.out.1,o,v1,G.out,ai.out.2⟩⟩
theorem y6j{ops:List Ox}{ns:List ByteArray}{ro:List Int}{T:zA}{mo:Nat}{oso nso rso:Option Addr}{oc nc rc:Nat}{w:World}(HG:Hid (∀W:World,zB w W->Calls prog 34 #[.agg #[.slice oso ops.length oc,.slice nso ns.length nc,.slice rso ro.length rc]] W fun e w'=>∃so n ag,e=.returned (.tuple #[.agg #[.slice so n ag],.nilIface])/\Hid (zB W w')))(y at':Nat)(hr:y<ro.length)(ha:at'<=T.size)(ay:mo<=1048576)(hT:T.size<=4096)(aW:ro.length<=64)(az:PgM ops ns ro oso nso rso w)(aA:OpW ops ro)(A:Nat)(aN:ro[y]=(A:Int))(ah:A<ops.length)(r:Option (Option Nat×Nat×Nt))(q:Nat)(hq:Mch ops ro T mo N0 0 [] (.beg (A:Int) at') r q):
  Calls prog 20 #[.agg #[.slice oso ops.length oc,.slice nso ns.length nc,.slice rso ro.length rc],zI y,zT T,zI at',zI mo] w fun e w'=>MRo r e/\zB w w':=by
 obtain⟨Z,aa⟩:∃Z,Z=w.alloc (.cells #[.slice oso ops.length oc,.slice nso ns.length nc,.slice rso ro.length rc] 26):=⟨_,rfl⟩;have ai:zB w Z:=by rw[aa];exact(Below.refl _ w).alloc L0q _
 have aB:=hid (HG.out Z ai);have aC:=hid aa;have aD:Z.heap[w.heap.size]? =some (.cells #[.slice oso ops.length oc,.slice nso ns.length nc,.slice rso ro.length rc] 26):=by rw[aa];exact Qx w _ rfl
 have aE:=hid aD;have aF:=hid ai;have aO:Hid (∀W:World,Calls prog 47 #[zI ((ro.length:Int)-1),zI (y:Int)] W (zR W (.bool true))):=fun W=>by
  have:=Km ((ro.length:Int)-1) (y:Int) W;rw[show decide (0<=(y:Int)/\(y:Int)<=(ro.length:Int)-1)=true by simp;omega]at this;exact this
 have aP:Hid (∀W:World,Calls prog 47 #[zI (T.size:Int),zI (at':Int)] W (zR W (.bool true))):=fun W=>by
  have:=Km (T.size:Int) (at':Int) W;rw[show decide (0<=(at':Int)/\(at':Int)<=(T.size:Int))=true by simp;omega]at this;exact this
 have aQ:Hid (∀W:World,Calls prog 47 #[zI 1048576,zI (mo:Int)] W (zR W (.bool true))):=fun W=>by
  have:=Km 1048576 (mo:Int) W;rw[show decide (0<=(mo:Int)/\(mo:Int)<=1048576)=true by simp;omega]at this;exact this
 have aX:IntKind.i64.wrap ((ro.length:Int)-1)=(ro.length:Int)-1:=by rw[IntKind.wrap_i64];omega
 have aR:=hid az;have aS:=hid aA;have Hq:=hid hq;have aT:=hid aN;have Hr:=hid hr;have aY:=hid (And.intro ay (And.intro hT (And.intro ha ah)));clear aa ai HG aD az aA hq;go_enter func20,ntmps20
 go_wp2_with fail
 rw[<-aC.out];clear aC;refine aB.out.mono ?_;rintro e w1 ⟨so,n,ag,rfl,D⟩;have ab:=(D.out.block _ (Qq aE.out)).trans aE.out;have E:=hid (aF.out.trans (D.out.mono aF.out.size));have c2:=(Qj ab 2 _ rfl).1;have l2:=Qq ab;have G:=hid ab;obtain⟨U,hU⟩:∃U,U=w1.alloc (.cells #[.slice so n ag] 51):=⟨_,rfl⟩;have aj:zB w1 U:=by rw[hU];exact(Below.refl _ w1).alloc L0q _
 have ak:=hid (E.out.trans (aj.mono E.out.size));have al:=hid ((aj.block _ (Qq G.out)).trans G.out);have HU:=hid hU;clear aB ab D hU aj E G
 go_wp2_with fail
 rw[<-HU.out];clear HU;refine(aO.out U).mono ?_;rintro e2 w2 ⟨rfl,am⟩;have D:=hid (ak.out.trans (am.mono ak.out.size));have G:=hid ((am.block _ (Qq al.out)).trans al.out);clear am ak al
 go_wp2_with fail
 refine(aP.out w2).mono ?_;rintro e3 w3 ⟨rfl,ao⟩;have E:=hid (D.out.trans (ao.mono D.out.size));have ap:=hid ((ao.block _ (Qq G.out)).trans G.out);clear ao D G
 go_wp2_with fail
 refine(aQ.out w3).mono ?_;rintro e4 V ⟨rfl,aq⟩;have ar:=hid (E.out.trans (aq.mono E.out.size));have ac:=(aq.block _ (Qq ap.out)).trans ap.out;have q0:=(Qj ac 0 _ rfl).1;have q1:=(Qj ac 1 _ rfl).1;have q2:=(Qj ac 2 _ rfl).1;have aZ:=Qq ac;have a0:decide (4096<T.size)=false:=by simp;omega
 have a1:¬(4096:Int)<(T.size:Int):=by omega
 have aG:=hid (aR.out.below ar.out);obtain⟨gr,rfl,a2,au⟩:=aG.out.r y hr;rw[aT.out]at au;have aH:=hid (z6n (nc:=nc) (oc:=oc) (rc:=rc) at' ha ay hT (aG.out.below (Below.refl _ V).drew) aS.out A ah r q Hq.out);have aI:=hid (fun e1 c1 N1 (h:r=some (e1,c1,N1))=>z6m Hq.out h);have HS:Hid (zC V.drew w.heap.size 0 (.slice oso ops.length oc)/\zC V.drew w.heap.size 1 (.slice nso ns.length nc)/\zC V.drew w.heap.size 2 (zS gr ro.length rc)/\zC V.drew gr y (zI (A:Int))):=⟨q0,q1,q2,au⟩;have a3:(y:Int)<(ro.length:Int):=by omega
 clear aq E ap c2 l2 q0 q1 q2 Hq au
 go_wp2_with fail
 refine Qc 99 (fun X:World=>zC X w.heap.size 0 (.slice oso ops.length oc)/\zC X w.heap.size 1 (.slice nso ns.length nc)/\zC X w.heap.size 2 (zS gr ro.length rc)/\zC X gr y (zI (A:Int))) (by kernel_rfl) HS.out (fun o=> ?_);refine Qz 0 o ?_;refine Qz 1 o ?_;refine Qz 2 o ?_;refine Qz 3 o ?_;refine Qz 4 o ?_;refine Qz 5 o ?_;refine Qz 6 o ?_;refine Qz 7 o ?_;refine Qz 8 o ?_
 (refine Qv 9 (fun K hK=> ?_);go_simp;refine aH.out.mono ?_;rintro e5 w5 ⟨M,NB,pv,ev,rfl,av,HQ⟩;go_simp;replace o:=z0i o av;have Y:=hid av;clear av;refine hK.out _ _ o ?_;clear hK K)
 (try simp only[Act.put,zY])
 refine Qz 10 o ?_;refine Qz 11 o ?_;refine Qz 12 o ?_;refine Qz 13 o ?_;refine Qz 14 o ?_;refine⟨by kernel_rfl,?_⟩;have ad:=hid (ar.out.trans ((⟨Y.out.os,Y.out.tape,Y.out.output,Y.out.size,Y.out.block⟩:zB V w5).mono ar.out.size));clear aH Y HS;cases r with
 |none=>
  obtain⟨rfl,rfl⟩:=HQ.out;clear o
  go_wp2_with fail
  refine bodyPost_ret (v:=.tuple #[zI 0,zI 0,.iface 34 (zI 50)]) (by simp[results,Tryz.results20,go_sem]) rfl ?_;exact⟨rfl,ad.out⟩
 |some r3=>
  obtain⟨e1,c1,N1⟩:=r3;obtain⟨rfl,rfl,aJ,a4,v1,aU,ae⟩:=HQ.out;obtain⟨_,_,z2,z3⟩:=o;have lz:=World.block_lt_of_cell? w5 _ z2;have a5:=World.block_lt_of_cell? w5 _ z3;have af:=hid (Ap ae hT aJ A at' ah ha);rw[show N1 (A:Int) at'=some e1 from aI.out e1 c1 N1 rfl]at af;dsimp only[ndE]at af;have aK:=hid (fun(W:World) (hb:zB w5 W)=>y6i ((hb.cell (p:=⟨M,5,none⟩) (Qq ae.m)).trans (Qj ae.m 5 _ rfl).1));clear ae aU aJ HQ aI
  go_wp2_with fail
  refine af.out.mono ?_;rintro e6 w6 ⟨rfl,aw⟩;have aL:=hid (aK.out w6 aw);have ax:=hid (ad.out.trans (aw.mono ad.out.size));clear aw aK af ad
  go_wp2_with fail
  refine aL.out.mono ?_;rintro e7 w7 ⟨rfl,aM⟩;have aV:=hid (ax.out.trans (aM.mono ax.out.size));clear aM aL ax
  go_wp2_with fail
  refine bodyPost_ret (v:=.tuple #[zI (enE e1),zI (c1:Int),.nilIface]) (by simp[results,Tryz.results20,go_sem]) rfl ?_;exact⟨rfl,aV.out⟩
def OxU(o:Ox):Prop:=(0<=o.2.2.1.1/\o.2.2.1.1<18446744073709551616)/\(0<=o.2.2.1.2.1/\o.2.2.1.2.1<18446744073709551616)/\(0<=o.2.2.1.2.2.1/\o.2.2.1.2.2.1<18446744073709551616)/\(0<=o.2.2.1.2.2.2/\o.2.2.1.2.2.2<18446744073709551616)
theorem z64:(0:Int)<=0/\(0:Int)<18446744073709551616:=by decide
theorem z6o{o:Ox}{ops:List Ox}(h:∀x∈ops,OxU x)(r:OxU o):∀x∈(plO o ops).2,OxU x:=by
 unfold plO;split
 ·exact h
 ·intro x hx
  rcases List.mem_append.1 hx with hx|hx
  ·exact h x hx
  ·rw[List.mem_singleton.1 hx];exact r
mutual
theorem z6p(ix:zA->Int):∀(t:RT) (ops:List Ox),RtU t->(∀x∈ops,OxU x)->∀x∈(mkT ix t ops).2,OxU x
 | .mk k T a b c d s p,ops,ht,h=>by
   rw[RtU]at ht;rw[mkT];split
   ·exact z6o h ⟨z64,z64,z64,z64⟩
   ·exact z6o (z6q ix s ops ht.2.2.2.2 h) ⟨ht.1,ht.2.1,ht.2.2.1,ht.2.2.2.1⟩
theorem z6q(ix:zA->Int):∀(s:List RT) (ops:List Ox),Xh s->(∀x∈ops,OxU x)->∀x∈(mkL ix s ops).2,OxU x
 |[],ops,_,h=>by rw[mkL];exact h
 |t::r,ops,hs,h=>by
  rw[Xh]at hs;rw[mkL];exact z6q ix r _ hs.2 (z6p ix t ops hs.1 h)
end
theorem z6r(ix:zA->Int):∀(rs:List Rr) (ops:List Ox),RgU rs->(∀x∈ops,OxU x)->∀x∈(mkG ix rs ops).2,OxU x
 |[],ops,_,h=>by rw[mkG];exact h
 |y::r,ops,hs,h=>by
  rw[mkG];exact z6r ix r _ (fun x hx=>hs x (List.mem_cons_of_mem _ hx)) (z6p ix y.2.1 ops (hs y (List.mem_cons_self ..)) h)
theorem Snd.opw{rs:List Rr}(h:Snd rs)(G:PrG rs)(U:RgU rs):OpW (pgG rs).2 (pgG rs).1:=by
 have y:=h.unf G;have V:(pgG rs).1.length=rs.length:=(Vv (fun T=>fdI T (nmL rs)) rs []).2.1.1;refine⟨fun k o A x hx=> ?_,fun k o A x hx=> ?_,y.rt,fun k o _=>z6r _ rs [] U (fun x hx=>by cases hx) _ (List.getElem_mem o)⟩
 ·obtain⟨r,e,D,E⟩:=y.rf k o A
  rw[e]at hx;rw[List.mem_singleton.1 hx,V];rw[Vj]at E;exact⟨D,E⟩
 ·obtain⟨D,E⟩:=(y.ot k o A).1 x hx
  exact⟨D,by omega⟩
theorem z6s(rs:List Rr)(oso nso rso:Option Addr)(oc nc rc:Nat)(y:Addr)(w:World)(E:Snd rs)(G:PrG rs)(U:PgM (pgG rs).2 (nmL rs) (pgG rs).1 oso nso rso w)(V:RgZ rs)(Y:RgU rs)(A:TabIs w)(D:zC w (1) 0 (.iface 405 (.pointer (some y))))(Z:Xm w):∀W:World,zB w W->Calls prog 34 #[.agg #[.slice oso (pgG rs).2.length oc,.slice nso (nmL rs).length nc,.slice rso (pgG rs).1.length rc]] W fun e w'=>∃o n r,e=.returned (.tuple #[.agg #[.slice o n r],.nilIface])/\Hid (zB W w'):=fun W h=>by
 have aa:(pgG rs).1.length=rs.length:=(Vv (fun T=>fdI T (nmL rs)) rs []).2.1.1;refine(y5r rs oso nso rso (pgG rs).2.length oc (nmL rs).length nc (pgG rs).1.length rc y W rfl (Vj rs) aa E G (U.below h) V Y (A.below h A.lt) ((h.cell (World.block_lt_of_cell? w _ D)).trans D) (Z.below h)).mono fun e w' he=> ?_
 obtain⟨o,r,e1,hb⟩:=he;exact⟨o,_,r,e1,hb⟩
theorem z6t(rs:List Rr)(oso nso rso:Option Addr)(ol oc nl nc rl rc:Nat)(D:Addr)(w:World)(ac:ol=(pgG rs).2.length)(E:nl=rs.length)(G:rl=rs.length)(y:Snd rs)(U:PrG rs)(V:PgM (pgG rs).2 (nmL rs) (pgG rs).1 oso nso rso w)(hz:RgZ rs)(Y:RgU rs)(hT:TabIs w)(hF:zC w (1) 0 (.iface 405 (.pointer (some D))))(ad:Xm w)(T:zA)(h at' mo:Nat)(hr:h<rs.length)(ha:at'<=T.size)(ae:mo<=1048576)(af:T.size<=4096)(x:Int)(hx:(pgG rs).1[h]? =some x)(r:Option (Option Nat×Nat×Nt))(q:Nat)(hq:Mch (pgG rs).2 (pgG rs).1 T mo N0 0 [] (.beg x at') r q):
  Calls prog 20 #[.agg #[.slice oso ol oc,.slice nso nl nc,.slice rso rl rc],zI h,zT T,zI at',zI mo] w fun e w'=>MRo r e/\zB w w':=by
 have A:(pgG rs).1.length=rs.length:=(Vv (fun T=>fdI T (nmL rs)) rs []).2.1.1;have Z:=y.opw U Y;have aa:h<(pgG rs).1.length:=by rw[A];exact hr
 have ab:(pgG rs).1[h]=x:=(List.getElem?_eq_some_iff.1 hx).2;obtain⟨ag,ah⟩:=Z.rt _ (List.getElem_mem aa);rw[ab]at ag ah;obtain⟨o,rfl⟩:∃o:Nat,x=(o:Int):=⟨x.toNat,by omega⟩;have ai:o<(pgG rs).2.length:=by omega
 have aj:(pgG rs).1.length<=64:=by rw[A];exact y.len
 subst ac;rw[<-Vj rs]at E;subst E;rw[<-A]at G;subst G;exact y6j (ns:=nmL rs) (hid (z6s rs oso nso rso oc nc rc D w y U V hz Y hT hF ad)) h at' aa ha ae af aj V Z o ab ai r q hq
structure PgV (rs:List Rr) (oso nso rso:Option Addr) (ol oc nl nc rl rc:Nat) (fp:Addr) (w:World):Prop where
 hol:ol=(pgG rs).2.length
 hnl:nl=rs.length
 hrl:rl=rs.length
 hs:Snd rs
 hp:PrG rs
 hM:PgM (pgG rs).2 (nmL rs) (pgG rs).1 oso nso rso w
 hz:RgZ rs
 hu:RgU rs
 hT:TabIs w
 hF:w.cell? ⟨1,0,none⟩=some (.iface 405 (.pointer (some fp)))
 hPw:Xm w
theorem PgV.below{rs:List Rr}{oso nso rso:Option Addr}{ol oc nl nc rl rc:Nat}{r:Addr}{w W:World}(h:PgV rs oso nso rso ol oc nl nc rl rc r w)(o:zB w W):PgV rs oso nso rso ol oc nl nc rl rc r W:=
 ⟨h.hol,h.hnl,h.hrl,h.hs,h.hp,h.hM.below o,h.hz,h.hu,h.hT.below o h.hT.lt,(o.cell (World.block_lt_of_cell? w _ h.hF)).trans h.hF,h.hPw.below o⟩
section
theorem y6k(ops:List Ox)(ro:List Int)(T:zA):Clo ops ro T N0:=fun k i e h=>by cases h
theorem y6l{rs:List Rr}(h:Snd rs)(T:zA)(j i:Nat)(D:j<rs.length)(E:i<=T.size):∃e n o c r,Mt (bdQ rs) T (.one rs[j].2.1) i e n/\(pgG rs).1[j]? =some r/\0<=r/\c<=n/\c<=(pgG rs).2.length*(T.size+1)/\1<=c/\Clo (pgG rs).2 (pgG rs).1 T o/\Val (pgG rs).2 (pgG rs).1 T o/\∀mo,(c<=mo->∃q,Mch (pgG rs).2 (pgG rs).1 T mo N0 0 [] (.beg r i) (some (e,c,o)) q)/\(mo<c->∃q,Mch (pgG rs).2 (pgG rs).1 T mo N0 0 [] (.beg r i) none q):=by
 obtain⟨e,n,G⟩:=h.tot T (h.pt (List.getElem_mem D)) E;obtain⟨r,U,Y⟩:=h.src.2 j D;have V:0<=r:=((Vv (fun T=>fdI T (nmL rs)) rs []).2.1.2 r (List.mem_of_getElem? U)).1;have Z:Mo (pgG rs).2 (pgG rs).1 T (.nd r) i e n:=Wy h.roots G r Y;obtain⟨o,c,⟨v,m,k⟩,x,a,b,d,f,g⟩:=y3K (mo:=(pgG rs).2.length*(T.size+1)) (h.wfo T) Z E V N0 0 [] (fun k i e h=>by cases h);rw[y4D]at d;have aa:=y3J (pgG rs).2.length (T.size+1) o;obtain⟨q,y⟩:=f (by omega) _ _ .done;exact⟨e,n,o,c,r,G,U,V,by omega,by omega,by have:=y4E y rfl;omega,(k (y6k _ _ _)).1,v,fun mo=>⟨fun A=>⟨q,y4F y rfl A⟩,fun A=>y4G y rfl (Nat.zero_le _) A⟩⟩
inductive Vz (ops:List Ox) (N:Nt):Jo->Nat->List (Int×Nat)->Prop
 |nd {k kd M cl s i l}:ops[k.toNat]? =some (kd,M,cl,s)->Vz ops N (.wk kd M cl s) i l->Vz ops N (.nd k) i l
 |none {kd M cl s i}:kd≠5->kd≠6->kd≠7->kd≠8->kd≠9->kd≠10->Vz ops N (.wk kd M cl s) i []
 |ref {M cl r s i}:Vz ops N (.wk 5 M cl (r::s)) i [(r,i)]
 |seq {M cl s i l}:Vz ops N (.row s) i l->Vz ops N (.wk 6 M cl s) i l
 |cho {kd M cl s i l}:kd=7∨kd=8->Vz ops N (.alt s) i l->Vz ops N (.wk kd M cl s) i l
 |rep {kd M cl k s i l}:kd=9∨kd=10->Vz ops N (.rep k) i l->Vz ops N (.wk kd M cl (k::s)) i l
 |row_nil {i}:Vz ops N (.row []) i []
 |row_on {k r i x a b}:N k i=some (some x)->Vz ops N (.nd k) i a->Vz ops N (.row r) x b->Vz ops N (.row (k::r)) i (a++b)
 |alt_nil {i}:Vz ops N (.alt []) i []
 |alt_ok {k r i x l}:N k i=some (some x)->Vz ops N (.nd k) i l->Vz ops N (.alt (k::r)) i l
 |alt_no {k r i l}:N k i=some .none->Vz ops N (.alt r) i l->Vz ops N (.alt (k::r)) i l
 |rep_end {k i}:N k i=some .none->Vz ops N (.rep k) i []
 |rep_on {k i x a b}:N k i=some (some x)->i<x->Vz ops N (.nd k) i a->Vz ops N (.rep k) x b->Vz ops N (.rep k) i (a++b)
section
variable {ops:List Ox} {ro:List Int} {T:ByteArray} {N:Nt}
theorem Mn.note{k:Int}{i:Nat}{e:Option Nat}(h:Mn ops ro T N (.nd k) i e):N k i=some e:=by cases h with|nd _ h _=>exact h
theorem y6m(aa:∀(k kd:Int) (M:zA) (D:Int×Int×Int×Int) (k':Int) (l:List Int),ops[k.toNat]? =some (kd,M,D,k'::l)->kd=9∨kd=10->∀i x,i<=T.size->N k' i=some (some x)->i<x)(ab:∀(k:Int) (M:zA) (D:Int×Int×Int×Int) (k':Int) (l:List Int),ops[k.toNat]? =some (8,M,D,k'::l)->l=[]){j:Jo}{i:Nat}{e:Option Nat}(h:Mn ops ro T N j i e):
  i<=T.size->∀x,e=some x->x<=T.size/\i<=x/\((∀k',j=.rep k'->∀y z,y<=T.size->N k' y=some (some z)->y<z)->(∀kd M D s,j=.wk kd M D s->∃k:Int,ops[k.toNat]? =some (kd,M,D,s))->∃l,Vz ops N j i l/\∀y∈l,∃q z,ro[y.1.toNat]? =some q/\N q y.2=some (some z)/\y.2<=T.size):=by
 induction h with
 | @nd k kd M D s i e h1 h2 U ih=>
   intro o x hx;obtain⟨a,b,c⟩:=ih o x hx;refine⟨a,b,fun _ _=> ?_⟩;obtain⟨l,E,G⟩:=c (fun k' h=>by cases h) (fun ac M' ad s' h=>by cases h;exact⟨k,h1⟩);exact⟨l,.nd h1 E,G⟩
 | @emp M D s i=>intro o x hx;cases hx;exact⟨o,Nat.le_refl _,fun _ _=>⟨[],.none (by decide) (by decide) (by decide) (by decide) (by decide) (by decide),fun y A=>by cases A⟩⟩
 | @lit M D s i=>
   intro o x hx;cases hb:Uk M T i with
   |false=>rw[hb]at hx;cases hx
   |true=>rw[hb]at hx;cases hx;exact⟨Mk o hb,by omega,fun _ _=>⟨[],.none (by decide) (by decide) (by decide) (by decide) (by decide) (by decide),fun y A=>by cases A⟩⟩
 | @set M a b c d s i=>
   intro o x hx;cases hb:Xx (cl4 a b c d) T i with
   |false=>rw[hb]at hx;cases hx
   |true=>rw[hb]at hx;cases hx;have:=Fp hb;exact⟨by omega,by omega,fun _ _=>⟨[],.none (by decide) (by decide) (by decide) (by decide) (by decide) (by decide),fun y A=>by cases A⟩⟩
 | @any M D s i=>
   intro o x hx;cases hb:Xx Vm T i with
   |false=>rw[hb]at hx;cases hx
   |true=>rw[hb]at hx;cases hx;have:=Fp hb;exact⟨by omega,by omega,fun _ _=>⟨[],.none (by decide) (by decide) (by decide) (by decide) (by decide) (by decide),fun y A=>by cases A⟩⟩
 | @ref M D r s q i e h1 h2 ih=>
   intro o x hx;obtain⟨a,b,_⟩:=ih o x hx;refine⟨a,b,fun _ _=>⟨_,.ref,fun y A=> ?_⟩⟩;rw[List.mem_singleton.1 A];exact⟨q,x,h1,by rw[h2.note,hx],o⟩
 | @seq M D s i e h1 ih=>
   intro o x hx;obtain⟨a,b,c⟩:=ih o x hx;refine⟨a,b,fun _ _=> ?_⟩;obtain⟨l,E,G⟩:=c (fun k' h=>by cases h) (fun _ _ _ _ h=>by cases h);exact⟨l,.seq E,G⟩
 | @cho M D s i e h1 ih=>
   intro o x hx;obtain⟨a,b,c⟩:=ih o x hx;refine⟨a,b,fun _ _=> ?_⟩;obtain⟨l,E,G⟩:=c (fun k' h=>by cases h) (fun _ _ _ _ h=>by cases h);exact⟨l,.cho (.inl rfl) E,G⟩
 | @opt M D k s i e h1 ih=>
   intro o x hx;cases e with
   |none=>
    cases hx;refine⟨o,Nat.le_refl _,fun _ V=> ?_⟩;obtain⟨k0,Y⟩:=V _ _ _ _ rfl;obtain rfl:=ab _ _ _ _ _ Y;exact⟨[],.cho (.inr rfl) (.alt_no h1.note .alt_nil),fun y A=>by cases A⟩
   |some z=>
    cases hx;obtain⟨a,b,c⟩:=ih o _ rfl;refine⟨a,b,fun _ _=> ?_⟩;obtain⟨l,E,G⟩:=c (fun k' h=>by cases h) (fun _ _ _ _ h=>by cases h);exact⟨l,.cho (.inr rfl) (.alt_ok h1.note E),G⟩
 | @star M D k s i e h1 ih=>
   intro o x hx;obtain⟨a,b,c⟩:=ih o x hx;refine⟨a,b,fun _ V=> ?_⟩;obtain⟨k0,Y⟩:=V _ _ _ _ rfl;obtain⟨l,E,G⟩:=c (fun k' h=>by cases h;exact fun y z A hz=>aa k0 9 M D k s Y (.inl rfl) y z A hz) (fun _ _ _ _ h=>by cases h);exact⟨l,.rep (.inl rfl) E,G⟩
 |plus_no _ _=>intro _ x hx;cases hx
 | @plus_ok M D k s i z e h1 hl h2 ih1 ih2=>
   intro o x hx;obtain⟨a1,b1,c1⟩:=ih1 o z rfl;obtain⟨a2,b2,c2⟩:=ih2 a1 x hx;refine⟨a2,by omega,fun _ V=> ?_⟩;obtain⟨k0,Y⟩:=V _ _ _ _ rfl;obtain⟨Z,U,E⟩:=c1 (fun k' h=>by cases h) (fun _ _ _ _ h=>by cases h);obtain⟨l2,G,h6⟩:=c2 (fun k' h=>by cases h;exact fun y z A hz=>aa k0 10 M D k s Y (.inr rfl) y z A hz) (fun _ _ _ _ h=>by cases h);exact⟨Z++l2,.rep (.inr rfl) (.rep_on h1.note hl U G),fun y A=>(List.mem_append.1 A).elim (E y) (h6 y)⟩
 | @and M D k s i e h1 ih=>
   intro o x hx;cases e with
   |none=>cases hx
   |some z=>cases hx;exact⟨o,Nat.le_refl _,fun _ _=>⟨[],.none (by decide) (by decide) (by decide) (by decide) (by decide) (by decide),fun y A=>by cases A⟩⟩
 | @not M D k s i e h1 ih=>
   intro o x hx;cases e with
   |some z=>cases hx
   |none=>cases hx;exact⟨o,Nat.le_refl _,fun _ _=>⟨[],.none (by decide) (by decide) (by decide) (by decide) (by decide) (by decide),fun y A=>by cases A⟩⟩
 |row_nil=>intro o x hx;cases hx;exact⟨o,Nat.le_refl _,fun _ _=>⟨[],.row_nil,fun y A=>by cases A⟩⟩
 |row_no _ _=>intro _ x hx;cases hx
 | @row_ok k r i z e h1 h2 ih1 ih2=>
   intro o x hx;obtain⟨a1,b1,c1⟩:=ih1 o z rfl;obtain⟨a2,b2,c2⟩:=ih2 a1 x hx;refine⟨a2,by omega,fun _ _=> ?_⟩;obtain⟨Z,U,E⟩:=c1 (fun k' h=>by cases h) (fun _ _ _ _ h=>by cases h);obtain⟨l2,G,h6⟩:=c2 (fun k' h=>by cases h) (fun _ _ _ _ h=>by cases h);exact⟨Z++l2,.row_on h1.note U G,fun y A=>(List.mem_append.1 A).elim (E y) (h6 y)⟩
 |alt_nil=>intro _ x hx;cases hx
 | @alt_ok k r i z h1 ih=>
   intro o x hx;obtain⟨a,b,c⟩:=ih o x hx;refine⟨a,b,fun _ _=> ?_⟩;obtain⟨l,E,G⟩:=c (fun k' h=>by cases h) (fun _ _ _ _ h=>by cases h);exact⟨l,.alt_ok h1.note E,G⟩
 | @alt_no k r i e h1 h2 ih1 ih2=>
   intro o x hx;obtain⟨a,b,c⟩:=ih2 o x hx;refine⟨a,b,fun _ _=> ?_⟩;obtain⟨l,E,G⟩:=c (fun k' h=>by cases h) (fun _ _ _ _ h=>by cases h);exact⟨l,.alt_no h1.note E,G⟩
 | @rep_end k i h1 ih=>intro o x hx;cases hx;exact⟨o,Nat.le_refl _,fun _ _=>⟨[],.rep_end h1.note,fun y A=>by cases A⟩⟩
 | @rep_go k i z e h1 h2 ih1 ih2=>
   intro o x hx;obtain⟨a1,b1,c1⟩:=ih1 o z rfl;obtain⟨a2,b2,c2⟩:=ih2 a1 x hx;refine⟨a2,by omega,fun hr _=> ?_⟩;obtain⟨Z,U,E⟩:=c1 (fun k' h=>by cases h) (fun _ _ _ _ h=>by cases h);obtain⟨l2,G,h6⟩:=c2 hr (fun _ _ _ _ h=>by cases h);exact⟨Z++l2,.rep_on h1.note (hr k rfl i z o h1.note) U G,fun y A=>(List.mem_append.1 A).elim (E y) (h6 y)⟩
end
end
section
section
variable (ops:List Ox) (ns:List ByteArray) (ro:List Int) (T:ByteArray) (mo:Nat) (oso nso rso:Option Addr) (oc nc rc M NB:Nat) (w1:World) (N:Nt) (c:Nat) (v:Value)
structure TbM (t:Nat) (W:World):Prop where
 a0:W.cell? ⟨t,0,none⟩=some (.slice oso ops.length oc)
 a3:W.cell? ⟨t,3,none⟩=some (zP M 0)
 mt:MtM ops ns ro T mo oso nso rso oc nc rc M NB w1 N c [] v W
structure ShI (t q cw ct:Nat) (I:List (Int×Nat)->World->Prop):Prop where
 tb:∀st W,I st W->TbM ops ns ro T mo oso nso rso oc nc rc M NB w1 N c v t W
 be:∀st W W',I st W->zB W W'->I st W'
 sh:∀st W (r:Int) (f:Nat),I st W->st.length<q->Calls prog 94 #[zI r,zI f,zP cw 0,zP ct 0] W fun e w'=>e=.returned (.bool (decide (st.length+1<q)))/\I (st++[(r,f)]) w'
def VqP(I:List (Int×Nat)->World->Prop)(q:Nat)(st l:List (Int×Nat))(e:Ending)(w':World):Prop:=
 ∃b,e=.returned (.bool b)/\Hid ((b=true/\st.length+l.length<q/\I (st++l) w')∨(b=false/\q<=st.length+l.length/\I (st++l.take (q-st.length)) w'))
def VsP(t q cw ct:Nat)(I:List (Int×Nat)->World->Prop)(k:Int)(i:Nat)(l:List (Int×Nat)):Prop:=
 ∀st W,I st W->st.length<q->Calls prog 93 #[zP t 0,zI k,zI i,.func (.func 94) #[] #[zP cw 0,zP ct 0]] W (VqP I q st l)
end
section
variable {ops:List Ox} {ns:List ByteArray} {ro:List Int} {T:ByteArray} {mo:Nat} {oso nso rso:Option Addr} {oc nc rc M NB:Nat} {w1:World} {N:Nt} {c:Nat} {v:Value} {t q cw ct:Nat} {I:List (Int×Nat)->World->Prop}
theorem Ac{k:Nat}(G:k<ops.length)(U:PgM ops ns ro oso nso rso w1):∃g r A x1 x2 x3 V Y,oso=some ⟨g,0,none⟩/\∀W,zB w1 W->g<W.heap.size/\(zC W g (k*7) (zI ops[k].1)/\zC W g (k*7+1) (zT x1)/\zC W g (k*7+2) (zU x2)/\zC W g (k*7+3) (zU x3)/\zC W g (k*7+4) (zU V)/\zC W g (k*7+5) (zU Y)/\zC W g (k*7+6) (.slice r ops[k].2.2.2.length A))/\RwC W (· <W.heap.size) r ops[k].2.2.2:=by
 obtain⟨g,e,D,r,A,⟨c0,c1,c2,c3,Z,c5,c6⟩,hl,hr⟩:=U.o k G;refine⟨g,r,A,ops[k].2.1,ops[k].2.2.1.1,ops[k].2.2.1.2.1,ops[k].2.2.1.2.2.1,ops[k].2.2.1.2.2.2,e,fun W y=>⟨Nat.lt_of_lt_of_le D y.size,?_,hr.keep fun b E=>⟨Nat.lt_of_lt_of_le E y.size,y.block b E⟩⟩⟩;have h:∀(j:Nat) (u:Value),zC w1 g j u->zC W g j u:=fun j u hp=>(y.cell (p:=⟨g,j,none⟩) D).trans hp
 exact⟨h _ _ c0,h _ _ c1,h _ _ c2,h _ _ c3,h _ _ Z,h _ _ c5,h _ _ c6⟩
theorem Al{k:Nat}(h:k<ops.length)(r:PgM ops ns ro oso nso rso w1):ops[k].2.2.2.length<=1048576:=by
 obtain⟨g,e,y,A,D,_,hl,_⟩:=r.o k h;exact hl
theorem y6n(h:ShI ops ns ro T mo oso nso rso oc nc rc M NB w1 N c v t q cw ct I)(o:PgM ops ns ro oso nso rso w1)(k i:Nat)(A:k<ops.length)(D:ops[k].1≠5/\ops[k].1≠6/\ops[k].1≠7/\ops[k].1≠8/\ops[k].1≠9/\ops[k].1≠10):VsP t q cw ct I k i []:=by
 intro E W r hq;have y:=h.tb E W r;have hl:=Al A o;obtain⟨g,so,ac,x1,x2,x3,x4,x5,rfl,G⟩:=Ac A o;obtain⟨lg,⟨c0,c1,c2,c3,c4,c5,c6⟩,ab⟩:=G W y.mt.be;have a0:=y.a0;have lt:=World.block_lt_of_cell? W _ a0;have ad:(k:Int)<(ops.length:Int):=by omega
 obtain⟨kd,U⟩:∃kd,kd=ops[k].1:=⟨_,rfl⟩;obtain⟨L,V⟩:∃L,L=ops[k].2.2.2.length:=⟨_,rfl⟩;rw[<-U]at D c0;rw[<-V]at c6;obtain⟨Y,Z,n7,n8,n9,aa⟩:=D;have b5:(kd == 5)=false:=by simpa using Y
 have b6:(kd == 6)=false:=by simpa using Z
 have b7:(kd == 7)=false:=by simpa using n7
 have b8:(kd == 8)=false:=by simpa using n8
 have b9:(kd == 9)=false:=by simpa using n9
 have ae:(kd == 10)=false:=by simpa using aa
 have HE:=hid (fun W' (hb:zB W W')=>h.be E W W' r hb);clear V U G y r h o Y Z n7 n8 n9 aa hl ab;go_enter func93,ntmps93
 go_wp2_with fail
 (try simp only[Exit.inBlock,Exit.then])
 refine bodyPost_ret (v:=.bool true) (by simp[results,Tryz.results93,go_sem]) rfl ?_;refine⟨true,rfl,hid (.inl ⟨rfl,by simpa using hq,?_⟩)⟩;rw[List.append_nil];exact HE.out _ ((Below.refl _ W).alloc L0q _)
theorem y6o(o:ShI ops ns ro T mo oso nso rso oc nc rc M NB w1 N c v t q cw ct I)(A:PgM ops ns ro oso nso rso w1)(k i:Nat)(Y:k<ops.length)(Z:ops[k].1=5)(r:Int)(s:List Int)(hs:ops[k].2.2.2=r::s):VsP t q cw ct I k i [(r,i)]:=by
 intro h W D hq;have E:=o.tb h W D;have hl:=Al Y A;obtain⟨g,so,ad,x1,x2,x3,x4,x5,rfl,aa⟩:=Ac Y A;obtain⟨lg,⟨c0,c1,c2,c3,c4,c5,c6⟩,G⟩:=aa W E.mt.be;have a0:=E.a0;have lt:=World.block_lt_of_cell? W _ a0;have ae:(k:Int)<(ops.length:Int):=by omega
 rw[hs]at c6 G;rw[Z]at c0;obtain⟨b,ab,rfl,hb,hx⟩:=G 0 (by simp);rw[Nat.add_zero]at hx;have hx:zC W b ab (zI r):=hx;obtain⟨L,U⟩:∃L,L=(r::s).length:=⟨_,rfl⟩;rw[<-U]at c6;have af:(0:Int)<(L:Int):=by rw[U];simp
 obtain⟨y,V⟩:∃y,y=W.alloc (.cells #[zI 5,zT x1,zU x2,zU x3,zU x4,zU x5,.slice (some ⟨b,ab,none⟩) L ad] 65):=⟨_,rfl⟩;have HC:=hid (o.sh h y r i (o.be h W y D (by rw[V];exact(Below.refl _ W).alloc L0q _)) hq);have ac:=hid V;clear U aa E D o A hl G Z hs V;go_enter func93,ntmps93
 go_wp2_with fail
 rw[<-ac.out];refine HC.out.mono ?_;rintro e w3 ⟨rfl,h3⟩;have H3:=hid h3;clear h3 HC ac
 go_wp2_with fail
 (try simp only[Exit.inBlock,Exit.then])
 refine bodyPost_ret (v:=.bool (decide (h.length+1<q))) (by simp[results,Tryz.results93,go_sem]) rfl ?_;refine⟨_,rfl,hid ?_⟩;by_cases h1:h.length+1<q
 ·exact .inl ⟨by simpa using h1,by simpa using h1,H3.out⟩
 ·refine .inr ⟨by simpa using h1,by simp;omega,?_⟩
  have e:q-h.length=1:=by omega
  rw[e];exact H3.out
end
end
section
def Im(N:Nt)(P:Int->Nat->List (Int×Nat)->Prop):List Int->Nat->List (Int×Nat)->Prop
 |[],_,l=>l=[]
 |x::r,i,l=>∃y a b,N x i=some (some y)/\P x i a/\Im N P r y b/\l=a++b
def Bz(N:Nt)(P:Int->Nat->List (Int×Nat)->Prop):List Int->Nat->List (Int×Nat)->Prop
 |[],_,l=>l=[]
 |x::r,i,l=>(∃y,N x i=some (some y)/\P x i l)∨(N x i=some none/\Bz N P r i l)
inductive RepC (N:Nt) (P:Int->Nat->List (Int×Nat)->Prop) (x:Int):Nat->List (Int×Nat)->Prop
 |fin {i}:N x i=some none->RepC N P x i []
 |on {i y a b}:N x i=some (some y)->i<y->P x i a->RepC N P x y b->RepC N P x i (a++b)
theorem z6u{α:Type}(o d a b:List α)(q:Nat)(h:(o++d).length<q)(r:q<=(o++d).length+a.length):o++(d++(a++b)).take (q-o.length)=(o++d)++a.take (q-(o++d).length):=by
 rw[List.length_append]at h r ⊢;rw[List.take_append,List.take_of_length_le (by omega),List.append_assoc,show q-o.length-d.length=q-(o.length+d.length) by omega,List.take_append_of_le_length (by omega)]
section
variable {ops:List Ox} {ns:List ByteArray} {ro:List Int} {T:ByteArray} {mo:Nat} {oso nso rso:Option Addr} {oc nc rc M NB:Nat} {w1:World} {N:Nt} {c:Nat} {v:Value} {t q cw ct:Nat} {I:List (Int×Nat)->World->Prop}
theorem y6p(E:ShI ops ns ro T mo oso nso rso oc nc rc M NB w1 N c v t q cw ct I)(h0:PgM ops ns ro oso nso rso w1)(ax:T.size<=4096)(hN:∀k i e,N k i=some (some e)->e<=T.size)(k i:Nat)(hk:k<ops.length)(h6:ops[k].1=6)(ab:∀x∈ops[k].2.2.2,0<=x/\x<(ops.length:Int))(hi:i<=T.size)(l:List (Int×Nat))(o:Im N (VsP t q cw ct I) ops[k].2.2.2 i l):VsP t q cw ct I k i l:=by
 intro r W hS hq;have hT:=E.tb r W hS;have hl:=Al hk h0;obtain⟨g,so,ay,x1,x2,x3,x4,x5,rfl,ac⟩:=Ac hk h0;obtain⟨lg,⟨c0,c1,c2,c3,c4,c5,c6⟩,ai⟩:=ac W hT.mt.be;have a0:=hT.a0;have lt:=World.block_lt_of_cell? W _ a0;have aF:(k:Int)<(ops.length:Int):=by omega
 rw[h6]at c0;obtain⟨s,hs⟩:∃s,s=ops[k].2.2.2:=⟨_,rfl⟩;rw[<-hs]at c6 ai o ab hl;obtain⟨L,hL⟩:∃L,L=s.length:=⟨_,rfl⟩;rw[<-hL]at c6 hl;have az:Hid (∀ad wr,I ad wr->RwC wr (· <wr.heap.size) so s):=fun ad wr h=>by rw[hs];exact(ac wr (E.tb ad wr h).mt.be).2.2
 obtain⟨W2,ae⟩:∃W2,W2=W.alloc (.cells #[zI 6,zT x1,zU x2,zU x3,zU x4,zU x5,.slice so L ay] 65):=⟨_,rfl⟩;have aj:=hid (E.be r W W2 hS (by rw[ae];exact(Below.refl _ W).alloc L0q _));have ak:=hid ae;have HI:=hid E;have HL:=hid hL;have aA:=hid ab;have HR:=hid o;have HN:=hid hN;clear ac hT hS E h0 ai h6 ae hs hL ab o hN;go_enter func93,ntmps93
 go_wp2_with fail
 rw[<-ak.out];clear ak c0 c1 c2 c3 c4 c5 c6 a0
 go_loopw [2,40] (fun av jv wr=>∃(j G:Nat) (d rl:List (Int×Nat)),av=zI (G:Int)/\jv=zI (j:Int)/\j<=L/\G<=T.size/\(r++d).length<q/\Hid (Im N (VsP t q cw ct I) (s.drop j) G rl)/\Hid (l=d++rl)/\Hid (I (r++d) wr)) (fun _ jv _=>L-(intOf jv).toNat)
 case atStart=>exact⟨0,i,[],l,rfl,rfl,Nat.zero_le _,hi,by simpa using hq,HR,rfl,by show I _ _;rw[List.append_nil];exact aj.out⟩
 case round=>
  obtain⟨j,G,d,rl,rfl,rfl,hj,aB,V,Y,Z,aa⟩:=hrel;clear HR aj;by_cases hjn:j<L
  ·have aG:(j:Int)<(L:Int):=by omega
   have b0:decide ((j:Int)<(L:Int))=true:=by simp;omega
   have af:j<s.length:=by rw[<-HL.out];exact hjn
   have o:=Y.out;rw[List.drop_eq_getElem_cons af]at o;obtain⟨y,a,b,n1,hP,al,am⟩:=o;obtain⟨b',aH,rfl,aC,ao⟩:=az.out _ _ aa.out j af;obtain⟨aD,ap⟩:=aA.out _ (List.getElem_mem af);obtain⟨kx,aq⟩:∃kx:Nat,s[j]=(kx:Int):=⟨s[j].toNat,by omega⟩;rw[aq]at n1 hP ao ap;have HV:=hid (hP (r++d) wr aa.out V);have HY:Hid (y<=T.size):=HN.out _ _ _ n1;have ag:=hid (fun(A:World) (h:I ((r++d)++a) A)=>by
    have:=Ap (HI.out.tb _ _ h).mt ax HN.out kx G (by omega) aB;rw[n1]at this;exact this)
   have ar:=hid (fun(A:World) (h:I ((r++d)++a) A)=>(HI.out.tb _ _ h).a3);have ah:=hid am;have aE:=hid al;have aI:IntKind.i64.wrap ((j:Int)+1)=(j:Int)+1:=by rw[IntKind.wrap_i64];omega
   clear n1 hP al am Y aq aD ap aC;dsimp only[ndE,enE]at ag
   go_wp2_with fail
   refine HV.out.mono ?_;rintro e A ⟨bb,rfl,H3⟩;clear HV ao;cases bb with
   |false=>
    obtain⟨h,_⟩|⟨_,U,D⟩:=H3.out
    ·cases h
    go_wp2_with fail
    (try simp only[Exit.inBlock,Exit.then])
    refine bodyPost_ret (v:=.bool false) (by simp[results,Tryz.results93,go_sem]) rfl ?_;refine⟨false,rfl,hid (.inr ⟨rfl,?_,?_⟩)⟩
    ·rw[Z.out,ah.out,List.length_append,List.length_append]
     rw[List.length_append]at U;omega
    ·rw[Z.out,ah.out,z6u r d a b q V U]
     exact D
   |true=>
    obtain⟨_,U,D⟩|⟨h,_⟩:=H3.out
    rotate_left
    ·cases h
    have a3:=ar.out A D;have l3:=World.block_lt_of_cell? A _ a3;have au:=hid (ag.out A D);have H5:=hid D;have H4:=hid U;clear U D H3 ag ar
    go_wp2_with fail
    refine au.out.mono ?_;rintro e w4 ⟨rfl,aw⟩;have H6:=hid (HI.out.be _ _ _ H5.out aw);clear aw a3 l3 au H5
    go_wp2_with fail
    refine⟨⟨j+1,y,d++a,b,rfl,by go_num,by omega,HY.out,?_,aE,?_,?_⟩,?_⟩
    ·have:=H4.out
     rw[List.length_append]at this;rw[List.length_append,List.length_append];omega
    ·show l=d++a++b
     rw[Z.out,ah.out,List.append_assoc]
    ·show I _ _
     rw[<-List.append_assoc];exact H6.out
    ·simp[intOf];omega
  ·have b0:decide ((j:Int)<(L:Int))=false:=by simp;omega
   have e0:s.drop j=[]:=List.drop_eq_nil_of_le (by have:=HL.out;omega);have o:=Y.out;rw[e0]at o;have o:rl=[]:=o;have HF:Hid (r.length+l.length<q/\I (r++l) wr):=by
    have e1:l=d:=by rw[Z.out,o,List.append_nil]
    rw[e1];rw[List.length_append]at V;exact⟨V,aa.out⟩
   clear o e0 Y aa
   go_wp2_with fail
   (try simp only[Exit.inBlock,Exit.then])
   refine bodyPost_ret (v:=.bool true) (by simp[results,Tryz.results93,go_sem]) rfl ?_;exact⟨true,rfl,hid (.inl ⟨rfl,HF.out⟩)⟩
end
end
section
section
variable {ops:List Ox} {ns:List ByteArray} {ro:List Int} {T:ByteArray} {mo:Nat} {oso nso rso:Option Addr} {oc nc rc M NB:Nat} {w1:World} {N:Nt} {c:Nat} {v:Value} {t q cw ct:Nat} {I:List (Int×Nat)->World->Prop}
theorem y6q(E:ShI ops ns ro T mo oso nso rso oc nc rc M NB w1 N c v t q cw ct I)(Z:PgM ops ns ro oso nso rso w1)(ao:T.size<=4096)(hN:∀k i e,N k i=some (some e)->e<=T.size)(k i:Nat)(hk:k<ops.length)(ag:ops[k].1=7∨ops[k].1=8)(aa:∀x∈ops[k].2.2.2,0<=x/\x<(ops.length:Int))(hi:i<=T.size)(l:List (Int×Nat))(o:Bz N (VsP t q cw ct I) ops[k].2.2.2 i l):VsP t q cw ct I k i l:=by
 intro D W hS hq;have hT:=E.tb D W hS;have hl:=Al hk Z;obtain⟨g,so,ap,x1,x2,x3,x4,x5,rfl,ab⟩:=Ac hk Z;obtain⟨lg,⟨c0,c1,c2,c3,c4,c5,c6⟩,ah⟩:=ab W hT.mt.be;have a0:=hT.a0;have lt:=World.block_lt_of_cell? W _ a0;have ax:(k:Int)<(ops.length:Int):=by omega
 obtain⟨s,hs⟩:∃s,s=ops[k].2.2.2:=⟨_,rfl⟩;rw[<-hs]at c6 ah o aa hl;obtain⟨L,hL⟩:∃L,L=s.length:=⟨_,rfl⟩;rw[<-hL]at c6 hl;have aq:Hid (∀ac wr,I ac wr->RwC wr (· <wr.heap.size) so s):=fun ac wr h=>by rw[hs];exact(ab wr (E.tb ac wr h).mt.be).2.2
 obtain⟨kd,ai⟩:∃kd,kd=ops[k].1:=⟨_,rfl⟩;rw[<-ai]at ag c0;obtain⟨W2,ad⟩:∃W2,W2=W.alloc (.cells #[zI kd,zT x1,zU x2,zU x3,zU x4,zU x5,.slice so L ap] 65):=⟨_,rfl⟩;have aj:=hid (E.be D W W2 hS (by rw[ad];exact(Below.refl _ W).alloc L0q _));have ak:=hid ad;have V:=hid E;have HL:=hid hL;have ar:=hid aa;have HR:=hid o;have HN:=hid hN;clear ab hT hS E Z ah ad hs hL aa o hN ai;rcases ag with rfl|rfl
 all_goals
  go_enter func93,ntmps93
  go_wp2_with fail
  rw[<-ak.out];clear ak c0 c1 c2 c3 c4 c5 c6 a0
  go_loopw [64] (fun jv wr=>∃j:Nat,jv=zI (j:Int)/\j<=L/\Hid (Bz N (VsP t q cw ct I) (s.drop j) i l)/\Hid (I D wr)) (fun jv _=>L-(intOf jv).toNat)
  case atStart=>exact⟨0,rfl,Nat.zero_le _,HR,aj⟩
  case round=>
   obtain⟨j,rfl,hj,Y,r⟩:=hrel;clear HR aj;by_cases hjn:j<L
   ·have ay:(j:Int)<(L:Int):=by omega
    have b0:decide ((j:Int)<(L:Int))=true:=by simp;omega
    have ae:j<s.length:=by rw[<-HL.out];exact hjn
    have o:=Y.out;rw[List.drop_eq_getElem_cons ae]at o;obtain⟨b',az,rfl,au,af⟩:=aq.out _ _ r.out j ae;obtain⟨av,al⟩:=ar.out _ (List.getElem_mem ae);obtain⟨kx,am⟩:∃kx:Nat,s[j]=(kx:Int):=⟨s[j].toNat,by omega⟩;have o:(∃y,N s[j] i=some (some y)/\VsP t q cw ct I s[j] i l)∨(N s[j] i=some none/\Bz N (VsP t q cw ct I) (s.drop (j+1)) i l):=o;rw[am]at o af al;have A:=hid (Ap (V.out.tb _ _ r.out).mt ao HN.out kx i (by omega) hi);have a3:=(V.out.tb _ _ r.out).a3;have l3:=World.block_lt_of_cell? wr _ a3;have aA:IntKind.i64.wrap ((j:Int)+1)=(j:Int)+1:=by rw[IntKind.wrap_i64];omega
    clear Y am av al au;rcases o with⟨y,G,hP⟩|⟨G,o⟩
    ·rw[G]at A
     dsimp only[ndE,enE]at A;have HP:=hid hP;have y0:((y:Int) == -1)=false:=by simp
     have y1:((y:Int) != -1)=true:=by simp
     clear G hP
     go_wp2_with fail
     refine A.out.mono ?_;rintro e w3 ⟨rfl,U⟩;have HV:=hid (HP.out D w3 (V.out.be _ _ _ r.out U) hq);clear U A HP a3 l3 af
     go_wp2_with fail
     refine HV.out.mono ?_;rintro e w4 ⟨bb,rfl,H4⟩;clear HV
     go_wp2_with fail
     (try simp only[Exit.inBlock,Exit.then])
     refine bodyPost_ret (v:=.bool bb) (by simp[results,Tryz.results93,go_sem]) rfl ?_;exact⟨bb,rfl,H4⟩
    ·rw[G]at A
     dsimp only[ndE,enE]at A;have aw:=hid o;clear G o
     go_wp2_with fail
     refine A.out.mono ?_;rintro e w3 ⟨rfl,U⟩;have H3:=hid (V.out.be _ _ _ r.out U);clear U A a3 l3 af r
     go_wp2_with fail
     refine⟨⟨j+1,by go_num,by omega,aw,H3⟩,?_⟩;simp[intOf];omega
   ·have b0:decide ((j:Int)<(L:Int))=false:=by simp;omega
    have e0:s.drop j=[]:=List.drop_eq_nil_of_le (by have:=HL.out;omega);have o:=Y.out;rw[e0]at o;have o:l=[]:=o;have HF:Hid (D.length+l.length<q/\I (D++l) wr):=by
     rw[o,List.append_nil];exact⟨hq,r.out⟩
    clear o e0 Y r
    go_wp2_with fail
    (try simp only[Exit.inBlock,Exit.then])
    refine bodyPost_ret (v:=.bool true) (by simp[results,Tryz.results93,go_sem]) rfl ?_;exact⟨true,rfl,hid (.inl ⟨rfl,HF.out⟩)⟩
theorem y6r(D:ShI ops ns ro T mo oso nso rso oc nc rc M NB w1 N c v t q cw ct I)(h0:PgM ops ns ro oso nso rso w1)(ay:T.size<=4096)(hN:∀k i e,N k i=some (some e)->e<=T.size)(k i:Nat)(hk:k<ops.length)(h9:ops[k].1=9∨ops[k].1=10)(kx:Nat)(az:kx<ops.length)(s:List Int)(hs:ops[k].2.2.2=(kx:Int)::s)(hi:i<=T.size)(l:List (Int×Nat))(hR:RepC N (VsP t q cw ct I) kx i l):VsP t q cw ct I k i l:=by
 intro o W hS hq;have hT:=D.tb o W hS;have hl:=Al hk h0;obtain⟨g,so,aA,x1,x2,x3,x4,x5,rfl,al⟩:=Ac hk h0;obtain⟨lg,⟨c0,c1,c2,c3,c4,c5,c6⟩,ab⟩:=al W hT.mt.be;have a0:=hT.a0;have lt:=World.block_lt_of_cell? W _ a0;have aE:(k:Int)<(ops.length:Int):=by omega
 rw[hs]at c6 ab;obtain⟨b,am,rfl,hb,hx⟩:=ab 0 (by simp);rw[Nat.add_zero]at hx;have hx:zC W b am (zI (kx:Int)):=hx;obtain⟨L,hL⟩:∃L,L=((kx:Int)::s).length:=⟨_,rfl⟩;rw[<-hL]at c6;have aF:(0:Int)<(L:Int):=by rw[hL];simp
 obtain⟨kd,ao⟩:∃kd,kd=ops[k].1:=⟨_,rfl⟩;rw[<-ao]at h9 c0;obtain⟨W2,ac⟩:∃W2,W2=W.alloc (.cells #[zI kd,zT x1,zU x2,zU x3,zU x4,zU x5,.slice (some ⟨b,am,none⟩) L aA] 65):=⟨_,rfl⟩;have ad:=D.be o W W2 hS (by rw[ac];exact(Below.refl _ W).alloc L0q _);have ap:=hid ad;have a3:zC W t 3 (zP M 0):=hT.a3;have aq:=hid (fun ae wr (h:I ae wr) r (ar:r<=T.size)=>Ap (D.tb _ _ h).mt ay hN kx r az ar);have aB:=hid (fun ae wr (h:I ae wr)=>(D.tb _ _ h).a3);have V:=hid (aq.out o W2 ad i hi);have au:=hid ac;have HI:=hid D;have HR:=hid hR;have HN:=hid hN;clear al hT hS D h0 ab ac hs hL hR hN ao ad;rcases h9 with rfl|rfl
 all_goals
  go_enter func93,ntmps93
  go_wp2_with fail
  rw[<-au.out];clear au c0 c1 c2 c3 c4 c5 c6 a0 a3;refine V.out.mono ?_;rintro e w3 ⟨rfl,aw⟩;have G:=hid (HI.out.be _ _ _ ap.out aw);clear aw V ap;obtain⟨E0,af⟩:∃E,E=ndE (N (kx:Int) i):=⟨_,rfl⟩;rw[<-af];have V:=hid af;clear af
  go_wp2_with fail
  go_loopw [2,15] (fun av ev wr=>∃(r:Nat) (E:Int) (d rl:List (Int×Nat)),av=zI (r:Int)/\ev=zI E/\r<=T.size/\(o++d).length<q/\Hid (E=ndE (N (kx:Int) r))/\Hid (RepC N (VsP t q cw ct I) kx r rl)/\Hid (l=d++rl)/\Hid (I (o++d) wr)) (fun av _ _=>T.size+1-(intOf av).toNat)
  case atStart=>exact⟨i,E0,[],l,rfl,rfl,hi,by simpa using hq,V,HR,rfl,by show I _ _;rw[List.append_nil];exact G.out⟩
  case round=>
   obtain⟨r,E,d,rl,rfl,rfl,ar,aa,ag,ah,Y,ai⟩:=hrel;clear HR G V;have A:=ag.out;have hR:=ah.out;cases hR with
   |fin n1=>
    rw[n1]at A;have A:E= -1:=A;subst A;have HF:Hid (o.length+l.length<q/\I (o++l) wr):=by
     have e1:l=d:=by rw[Y.out,List.append_nil]
     rw[e1];rw[List.length_append]at aa;exact⟨aa,ai.out⟩
    clear n1 ah ai ag Y
    go_wp2_with fail
    (try simp only[Exit.inBlock,Exit.then])
    refine bodyPost_ret (v:=.bool true) (by simp[results,Tryz.results93,go_sem]) rfl ?_;exact⟨true,rfl,hid (.inl ⟨rfl,HF.out⟩)⟩
   | @on _ y a b n1 hiy hP hR2=>
     rw[n1]at A;have A:E=(y:Int):=A;subst A;have y0:((y:Int) == -1)=false:=by simp
     have y1:((y:Int) != -1)=true:=by simp
     have HV:=hid (hP (o++d) wr ai.out aa);have hy:=HN.out _ _ _ n1;have aC:=hid hR2;clear n1 hP hR2 ah ag
     go_wp2_with fail
     refine HV.out.mono ?_;rintro e w3 ⟨bb,rfl,G⟩;clear HV;cases bb with
     |false=>
      obtain⟨h,_⟩|⟨_,Z,U⟩:=G.out
      ·cases h
      go_wp2_with fail
      (try simp only[Exit.inBlock,Exit.then])
      refine bodyPost_ret (v:=.bool false) (by simp[results,Tryz.results93,go_sem]) rfl ?_;refine⟨false,rfl,hid (.inr ⟨rfl,?_,?_⟩)⟩
      ·rw[Y.out,List.length_append,List.length_append]
       rw[List.length_append]at Z;omega
      ·rw[Y.out,z6u o d a b q aa Z]
       exact U
     |true=>
      obtain⟨_,Z,U⟩|⟨h,_⟩:=G.out
      rotate_left
      ·cases h
      have a3:=aB.out _ w3 U;have l3:=World.block_lt_of_cell? w3 _ a3;have aj:=hid (aq.out _ w3 U y hy);have H5:=hid U;have H4:=hid Z;obtain⟨E1,ak⟩:∃E,E=ndE (N (kx:Int) y):=⟨_,rfl⟩;rw[<-ak]at aj;have aD:=hid ak;clear Z U G ak
      go_wp2_with fail
      refine aj.out.mono ?_;rintro e w4 ⟨rfl,ax⟩;have H6:=hid (HI.out.be _ _ _ H5.out ax);clear ax a3 l3 aj H5
      go_wp2_with fail
      refine⟨⟨y,E1,d++a,b,rfl,rfl,hy,?_,aD,aC,?_,?_⟩,?_⟩
      ·have:=H4.out
       rw[List.length_append]at this;rw[List.length_append,List.length_append];omega
      ·show l=d++a++b
       rw[Y.out,List.append_assoc]
      ·show I _ _
       rw[<-List.append_assoc];exact H6.out
      ·simp[intOf];omega
theorem y6s(G:ShI ops ns ro T mo oso nso rso oc nc rc M NB w1 N c v t q cw ct I)(U:PgM ops ns ro oso nso rso w1)(Y:T.size<=4096)(V:∀k i e,N k i=some (some e)->e<=T.size)(Z:OpW ops ro){j:Jo}{i:Nat}{l:List (Int×Nat)}(h:Vz ops N j i l):i<=T.size->match j with
  | .nd k=>0<=k->VsP t q cw ct I k i l
  | .wk kd M' cl s=>∀(k:Nat) (D:k<ops.length),ops[k]=(kd,M',cl,s)->VsP t q cw ct I k i l
  | .row s=>(∀x∈s,0<=x)->Im N (VsP t q cw ct I) s i l
  | .alt s=>(∀x∈s,0<=x)->Bz N (VsP t q cw ct I) s i l
  | .rep k=>0<=k->RepC N (VsP t q cw ct I) k i l:=by
 induction h with
 | @nd k kd M' cl s i l h1 _ ih=>
   intro o D;obtain⟨k,rfl⟩:∃k':Nat,k=(k':Int):=⟨k.toNat,by omega⟩;rw[Int.toNat_natCast]at h1;obtain⟨aa,A⟩:=List.getElem?_eq_some_iff.1 h1;exact ih o k aa A
 | @none kd M' cl s i n5 n6 n7 n8 n9 n10=>
   intro o k D A;exact y6n G U k i D (by rw[A];exact⟨n5,n6,n7,n8,n9,n10⟩)
 | @ref M' cl r s i=>intro o k D A;exact y6o G U k i D (by rw[A]) r s (by rw[A])
 | @seq M' cl s i l _ ih=>
   intro o k D A;have E:=Z.ot k D (by rw[A];show(6:Int)≠5;decide);refine y6p G U Y V k i D (by rw[A]) E o l ?_;rw[A]at E ⊢;exact ih o fun x hx=>(E x hx).1
 | @cho kd M' cl s i l hkd _ ih=>
   intro o k D A;have E:=Z.ot k D (by rw[A];show kd≠5;omega);refine y6q G U Y V k i D (by rw[A];exact hkd) E o l ?_;rw[A]at E ⊢;exact ih o fun x hx=>(E x hx).1
 | @rep kd M' cl x s i l hkd _ ih=>
   intro o k D A;have E:=Z.ot k D (by rw[A];show kd≠5;omega);rw[A]at E;obtain⟨ab,ac⟩:=E x (by simp);obtain⟨kx,rfl⟩:∃k':Nat,x=(k':Int):=⟨x.toNat,by omega⟩;exact y6r G U Y V k i D (by rw[A];exact hkd) kx (by omega) s (by rw[A]) o l (ih o ab)
 |row_nil=>intro _ _;rfl
 | @row_on x r i y a b n1 _ _ ih1 ih2=>intro o hx;exact⟨y,a,b,n1,ih1 o (hx x (by simp)),ih2 (V _ _ _ n1) (fun z hz=>hx z (by simp[hz])),rfl⟩
 |alt_nil=>intro _ _;rfl
 | @alt_ok x r i y l n1 _ ih=>intro o hx;exact .inl ⟨y,n1,ih o (hx x (by simp))⟩
 | @alt_no x r i l n1 _ ih=>intro o hx;exact .inr ⟨n1,ih o (fun z hz=>hx z (by simp[hz]))⟩
 |rep_end n1=>intro _ _;exact .fin n1
 | @rep_on x i y a b n1 hl _ _ ih1 ih2=>intro o hx;exact .on n1 hl (ih1 o hx) (ih2 (V _ _ _ n1) hx)
end
end
end Go.Proofs.YtmelafeingcgnaaGreatDoor
