/- Lemmas for the last text. Conditions: those that each names. -/
import Derived.Test.YtgnkkgcgbeianaaGreatDoorVLFToLI
import Derived.Test.YtgnkkgcgbeianaaGreatDoorVU15ToT11
set_option linter.unusedVariables false
set_option maxRecDepth 100000
set_option maxHeartbeats 32000000
namespace Go.Proofs.YtgnkkgcgbeianaaGreatDoor
open Go.Proofs.Tryz
open Go.RowKit Go.Shelf Go.Maps
variable {ro:List Int} {c mo nc oc rc:Nat} {nso oso rso:Option Addr} {W w:World}
theorem z0k(l n:Int)(w:World):Calls prog 19 #[zI l,zI n] w fun e w'=>e=.returned (.bool (decide (0<=n/\n<=l)))/\zB w w':=by
 by_cases h0:0<=n
 ·by_cases h1:n<=l
  ·have h:decide (0<=n/\n<=l)=true:=by simp;omega
   rw[h];go_enter func19,ntmps19
   go_wp2_with fail
   refine bodyPost_ret (v:=.bool true) (by simp[results,Tryz.results19,go_sem]) rfl ?_;exact⟨rfl,Below.refl _ w⟩
  ·have h:decide (0<=n/\n<=l)=false:=by simp;omega
   have o:decide (n<=l)=false:=by simp;omega
   rw[h];go_enter func19,ntmps19
   go_wp2_with fail
   refine bodyPost_ret (v:=.bool false) (by simp[results,Tryz.results19,go_sem]) rfl ?_;exact⟨rfl,Below.refl _ w⟩
 ·have h:decide (0<=n/\n<=l)=false:=by simp;omega
  have o:decide (0<=n)=false:=by simp;omega
  rw[h];go_enter func19,ntmps19
  go_wp2_with fail
  refine bodyPost_ret (v:=.bool false) (by simp[results,Tryz.results19,go_sem]) rfl ?_;exact⟨rfl,Below.refl _ w⟩
def MRo(r:Option (Option Nat×Nat×Nt))(e:Ending):Prop:=match r with
 |none=>e=.returned (.tuple #[zI 0,zI 0,.iface 36 (zI 50)])
 |some (e1,c1,_)=>e=.returned (.tuple #[zI (enE e1),zI (c1:Int),.nilIface])
theorem Tryz.infoNtes:(Tryz.prog.info? 158).map (fun i=>(i.zero,i.size,i.bytes))=some (some (.slice none 0 0),1,24):=by kernel_rfl
theorem y5T(n:Nat)(A:n<=1048576)(W:World):(Instr.makeSlice 96 (zI (n:Int)) (zI (n:Int))).run prog W=.ok (zS W.heap.size n n) (W.alloc (.cells (madeCells #[.slice none 0 0] n) 158)):=by
 obtain⟨h,o,r,t,y⟩:=info_parts Tryz.infoNtes;rw[run_make W 96 158 h _ Tryz.underlying96 o r .i64 .i64 n n (by omega) (by omega) (by rw[y];omega) (by omega),t];simp[Value.cells]
def ndE(x:Option (Option Nat)):Int:=match x with|none=> -1|some e=>enE e
theorem y5U{o:Ox}{w w':Wq}{e:Option Nat}(h:nxt o w e=some w'):w'.1=w.1/\w'.2.1=w.2.1:=by
 unfold nxt at h;split at h
 ·cases e with
  |none=>cases h
  |some x=>
   dsimp only at h;split at h
   ·cases h
   ·cases h;exact⟨rfl,rfl⟩
 ·split at h
  ·cases e with
   |some x=>cases h
   |none=>
    dsimp only at h;split at h
    ·cases h
    ·cases h;exact⟨rfl,rfl⟩
  ·split at h
   ·cases e with
    |none=>cases h
    |some x=>cases h;exact⟨rfl,rfl⟩
   ·cases h
def EdP(S:List Wq)(m:Mde)(N:Nt)(e:Option Nat)(N':Nt):Prop:=match S.getLast? with
 |some w=>N' w.1 w.2.1=some e
 |none=>match m with
  | .beg k i=>N' k i=some e
  | .ret e0=>e=e0/\N'=N
theorem y5V{ops:List Ox}{T:zA}{N:Nt}{S:List Wq}{m:Mde}{r:Option (Option Nat×Nat×Nt)}{q:Nat}(h:Mch ops ro T mo N c S m r q):∀{e:Option Nat} {y:Nat} {t:Nt},r=some (e,y,t)->EdP S m N e t:=by
 induction h with
 |done=>intro e y t h;cases h;exact⟨rfl,rfl⟩
 |bud _=>intro e y t h;cases h
 | @noted N c S k i e0 r q h1 _ ih=>
   intro e y t h;have:=ih h;unfold EdP at this ⊢;cases hS:S.getLast? with
   |some w=>rw[hS]at this;exact this
   |none=>rw[hS]at this;obtain⟨rfl,rfl⟩:=this;exact h1
 | @leaf N c S k i o r q h1 _ _ _ _ ih=>
   intro e y t h;have:=ih h;unfold EdP at this ⊢;cases hS:S.getLast? with
   |some w=>rw[hS]at this;exact this
   |none=>rw[hS]at this;obtain⟨rfl,rfl⟩:=this;exact Ad _ _ _ _
 | @push N c S k i o r q h1 _ _ _ _ ih=>
   intro e y t h;have:=ih h;unfold EdP at this ⊢;cases S with
   |nil=>exact this
   |cons x r=>rw[List.getLast?_cons_cons]at this;exact this
 | @next N c S w w' o e0 r q h1 h2 _ ih=>
   intro e y t h;have:=ih h;obtain⟨A,D⟩:=y5U h2;unfold EdP at this ⊢;cases S with
   |nil=>rw[List.getLast?_singleton]at this ⊢;dsimp only at this ⊢;rw[<-A,<-D];exact this
   |cons x r=>rw[List.getLast?_cons_cons]at this ⊢;exact this
 | @pop N c S w o e0 r q h1 h2 _ ih=>
   intro e y t h;have:=ih h;unfold EdP at this ⊢;cases S with
   |nil=>rw[List.getLast?_singleton];obtain⟨rfl,rfl⟩:=this;exact Ad _ _ _ _
   |cons x r=>rw[List.getLast?_cons_cons];exact this
theorem y5W{ops:List Ox}{ns:List ByteArray}{T:zA}{M NB:Nat}{w0:World}{N:Nt}{S:List Wq}{v:Value}(h:MtM ops ns ro T mo oso nso rso oc nc rc M NB w0 N c S v W)(y:T.size<=4096)(A:∀k i e,N k i=some (some e)->e<=T.size)(k i:Nat)(D:k<ops.length)(E:i<=T.size):
  Calls prog 21 #[zP M 0,zI k,zI i] W fun e w'=>e=.returned (zI (ndE (N k i)))/\zB W w':=by
 have o:=hid (h.noted y A k i D E);clear h A D E y;cases hx:N k i with
 |none=>
  rw[hx]at o;dsimp only[ntc]at o;dsimp only[ndE];clear hx;go_enter func21,ntmps21
  go_wp2_with fail
  refine o.out.mono ?_;rintro e G ⟨rfl,r⟩;have t:=hid r;clear r o
  go_wp2_with fail
  refine bodyPost_ret (v:=zI (-1)) (by simp[results,Tryz.results21,go_sem]) rfl ?_;exact⟨rfl,t.out⟩
 |some x=>
  rw[hx]at o;dsimp only[ntc]at o;dsimp only[ndE];clear hx;go_enter func21,ntmps21
  go_wp2_with fail
  refine o.out.mono ?_;rintro e G ⟨rfl,r⟩;have t:=hid r;clear r o
  go_wp2_with fail
  refine bodyPost_ret (v:=zI (enE x)) (by simp[results,Tryz.results21,go_sem]) rfl ?_;exact⟨rfl,t.out⟩
theorem y5X{M:Nat}(h:zC W M 5 (zI (c:Int))):
  Calls prog 22 #[zP M 0] W fun e w'=>e=.returned (zI (c:Int))/\zB W w':=by
 have l:=World.block_lt_of_cell? W _ h;go_enter func22,ntmps22
 go_wp2_with fail
 refine bodyPost_ret (v:=zI (c:Int)) (by simp[results,Tryz.results22,go_sem]) rfl ?_;exact⟨rfl,Below.refl _ _⟩
theorem y5Y{W':World}{p0 p1 p2 o:Addr}{v0 v1 v2 v3:Value}(h:W.cell? p0=some v0/\W.cell? p1=some v1/\W.cell? p2=some v2/\W.cell? o=some v3)(r:zB W W'):W'.cell? p0=some v0/\W'.cell? p1=some v1/\W'.cell? p2=some v2/\W'.cell? o=some v3:=⟨(Ah ⟨h.1,h.2.1,h.2.2.1⟩ r).1,Ah h.2 r⟩
def OfQ(ops:List Ox)(ns:List ByteArray)(ro:List Int)(T:zA)(mo:Nat)(oso nso rso:Option Addr)(oc nc rc:Nat)(r:Option (Option Nat×Nat×Nt))(w0:World)(e':Ending)(W':World):Prop:=∃M NB pv ev,e'=.returned (.tuple #[pv,ev])/\zB w0 W'/\Hid (match r with
 |none=>pv=.pointer none/\ev=.iface 36 (zI 50)
 |some (e,c,N)=>pv=zP M 0/\ev=.nilIface/\(∀k i e,N k i=some (some e)->e<=T.size)/\∃w1 v,zB w0 w1/\MtM ops ns ro T mo oso nso rso oc nc rc M NB w1 N c [] v W')
theorem y5Z{ops:List Ox}{ns:List ByteArray}{T:zA}(at':Nat)(ha:at'<=T.size)(ai:mo<=1048576)(hT:T.size<=4096)(ab:PgM ops ns ro oso nso rso w)(ac:OpW ops ro)(A:Nat)(aj:A<ops.length)(r:Option (Option Nat×Nat×Nt))(q:Nat)(hq:Mch ops ro T mo N0 0 [] (.beg (A:Int) at') r q):
  Calls prog 20 #[.agg #[.slice oso ops.length oc,.slice nso ns.length nc,.slice rso ro.length rc],zI A,zT T,zI at',zI mo] w (OfQ ops ns ro T mo oso nso rso oc nc rc r w):=by
 obtain⟨o,U⟩:∃o,o=w.alloc (.cells #[.slice oso ops.length oc,.slice nso ns.length nc,.slice rso ro.length rc] 26):=⟨_,rfl⟩;have Y:zB w o:=by rw[U];exact(Below.refl _ w).alloc L0q _
 have D:o.heap[w.heap.size]? =some (.cells #[.slice oso ops.length oc,.slice nso ns.length nc,.slice rso ro.length rc] 26):=by rw[U];exact Qx w _ rfl
 have E:=hid Y;have ad:=hid U;have ak:=hid (ab.below Y);have al:=hid ac;have Hq:=hid hq;have q0:=(Qj D 0 _ rfl).1;have q1:=(Qj D 1 _ rfl).1;have q2:=(Qj D 2 _ rfl).1;have ar:=Qq D;have am:IntKind.i64.wrap ((T.size:Int)+1)=((T.size+1:Nat):Int):=by rw[IntKind.wrap_i64];omega
 have ao:=y5T (T.size+1) (by omega);rw[show((T.size+1:Nat):Int)=(T.size:Int)+1 by omega]at ao am;obtain⟨X,G⟩:∃X,X=((o.alloc (.cells (madeCells #[.slice none 0 0] (T.size+1)) 158)).alloc (mtO ops ns ro T mo oso nso rso oc nc rc o.heap.size (.slice none 0 0) 0)).drew:=⟨_,rfl⟩;have y:Hid (MtM ops ns ro T mo oso nso rso oc nc rc (o.heap.size+1) o.heap.size o N0 0 [] (.slice none 0 0) X):=by
  have V:zB o X:=by rw[G];exact(((Below.refl _ o).alloc L0q _).alloc (by simp) _).drew
  have hn:X.heap[o.heap.size]? =some (.cells (madeCells #[.slice none 0 0] (T.size+1)) 158):=by rw[G];exact(Below.heap_alloc _ _ _ (by simp)).trans (Qx o _ rfl)
  refine⟨ak.out,V,by omega,Nat.le_refl _,by omega,by rw[G];exact Qx _ _ (by simp),World.ownsRow_nil _ _ _ _,(fun h=>by cases h),(fun h=>by cases h),(fun _=>none),⟨_,hn,fun i Z=> ?_⟩,(fun i Z _ k=>rfl),(fun i Z g hg=>by cases hg),(fun i j g Z hj h1 h2=>by cases h1)⟩;show(madeCells #[.slice none 0 0] (T.size+1))[i]? =some (.slice none 0 0);have e1:=toList_madeCells_one (.slice none 0 0) (T.size+1);rw[<-Array.getElem?_toList,e1,List.getElem?_replicate];simp;omega
 have ae:Hid (MJs ops ns ro T mo oso nso rso oc nc rc (o.heap.size+1) o.heap.size o r q A at' N0 0 [] (.slice none 0 0) X):=⟨aj,ha,(fun k i e h=>by cases h),(fun x hx=>by cases hx),Nat.zero_le _,Nat.le_refl _,y.out,Hq.out⟩;have af:=hid (y5S al.out hT ai r q A at' N0 0 (.slice none 0 0) X ae.out);have HS:Hid (zC o.drew w.heap.size 0 (.slice oso ops.length oc)/\zC o.drew w.heap.size 1 (.slice nso ns.length nc)/\zC o.drew w.heap.size 2 (.slice rso ro.length rc)):=⟨q0,q1,q2⟩;have HX:=hid G;have au:Hid (((T.size+1:Nat):Int)=(T.size:Int)+1):=by show _=_;omega
 clear Y G q0 q1 q2 Hq U D ab ac hq;go_enter func20,ntmps20
 go_wp2_with fail
 rw[<-ad.out];clear ad;refine Qc 99 (fun X:World=>zC X w.heap.size 0 (.slice oso ops.length oc)/\zC X w.heap.size 1 (.slice nso ns.length nc)/\zC X w.heap.size 2 (.slice rso ro.length rc)) (by kernel_rfl) HS.out (fun t=> ?_);refine Qz 0 t ?_;refine Qz 1 t ?_;refine Qz 2 t ?_;refine Qz 3 t ?_;refine Qz 4 t ?_;refine Qz 6 t ?_
 (refine Qf 5 (fun K I=> ?_);go_simp;replace t:=Ah t ((Below.refl _ o.drew).alloc L0q (.cells (madeCells #[.slice none 0 0] (T.size+1)) 158));refine I.out _ _ t ?_;clear I K)
 (try simp only[Act.put,zY])
 refine Qz 7 t ?_
 (refine Qf 8 (fun K I=> ?_);go_simp)
 have eX:X=((o.alloc (.cells (madeCells #[.slice none 0 0] (T.size+1)) 158)).alloc (.cells #[.slice oso ops.length oc,.slice nso ns.length nc,.slice rso ro.length rc,zT T,zS o.heap.size (T.size+1) (T.size+1),zI 0,zI (mo:Int),.slice none 0 0] 99)).drew:=HX.out;rw[<-eX];replace t:=Ah HS.out (⟨y.out.be.os,y.out.be.tape,y.out.be.output,y.out.be.size,y.out.be.block⟩:Below o.drew.heap.size o.drew X);refine I.out _ _ t ?_;clear I K
 (try simp only[Act.put,zY])
 refine Qz 9 t ?_;refine⟨by kernel_rfl,?_⟩;clear t eX HX HS
 go_wp2_with fail
 refine af.out.mono ?_;intro e5 w5 h5;clear af ae;cases r with
 |none=>
  obtain⟨rfl,V⟩:=h5;have ap:=hid (E.out.trans (V.mono E.out.size));clear V
  go_wp2_with fail
  refine bodyPost_ret (v:=.tuple #[.pointer none,.iface 36 (zI 50)]) (by simp[results,Tryz.results20,go_sem]) rfl ?_;exact⟨0,0,_,_,rfl,ap.out,hid ⟨rfl,rfl⟩⟩
 |some r3=>
  obtain⟨e1,c1,N1⟩:=r3;obtain⟨rfl,ag,v1,aa⟩:=h5;have aq:=hid (E.out.trans (aa.be.mono E.out.size));have ah:=hid (And.intro ag aa);clear aa ag
  go_wp2_with fail
  refine bodyPost_ret (v:=.tuple #[zP (o.heap.size+1) 0,.nilIface]) (by simp[results,Tryz.results20,go_sem]) rfl ?_;exact⟨_,_,_,_,rfl,aq.out,hid ⟨rfl,rfl,ah.out.1,o,v1,E.out,ah.out.2⟩⟩
theorem y6a{ops:List Ox}{ns:List ByteArray}{T:zA}(HG:Hid (∀W:World,zB w W->Calls prog 18 #[.agg #[.slice oso ops.length oc,.slice nso ns.length nc,.slice rso ro.length rc]] W fun e w'=>∃so n ae,e=.returned (.tuple #[.agg #[.slice so n ae],.nilIface])/\Hid (zB W w')))(rule at':Nat)(hr:rule<ro.length)(ha:at'<=T.size)(aw:mo<=1048576)(hT:T.size<=4096)(aU:ro.length<=64)(ax:PgM ops ns ro oso nso rso w)(ay:OpW ops ro)(t:Nat)(aL:ro[rule]=(t:Int))(af:t<ops.length)(r:Option (Option Nat×Nat×Nt))(q:Nat)(hq:Mch ops ro T mo N0 0 [] (.beg (t:Int) at') r q):
  Calls prog 10 #[.agg #[.slice oso ops.length oc,.slice nso ns.length nc,.slice rso ro.length rc],zI rule,zT T,zI at',zI mo] w fun e w'=>MRo r e/\zB w w':=by
 obtain⟨I,Y⟩:∃I,I=w.alloc (.cells #[.slice oso ops.length oc,.slice nso ns.length nc,.slice rso ro.length rc] 26):=⟨_,rfl⟩;have ag:zB w I:=by rw[Y];exact(Below.refl _ w).alloc L0q _
 have az:=hid (HG.out I ag);have aA:=hid Y;have aB:I.heap[w.heap.size]? =some (.cells #[.slice oso ops.length oc,.slice nso ns.length nc,.slice rso ro.length rc] 26):=by rw[Y];exact Qx w _ rfl
 have aC:=hid aB;have aD:=hid ag;have aM:Hid (∀W:World,Calls prog 19 #[zI ((ro.length:Int)-1),zI (rule:Int)] W (zR W (.bool true))):=fun W=>by
  have:=z0k ((ro.length:Int)-1) (rule:Int) W;rw[show decide (0<=(rule:Int)/\(rule:Int)<=(ro.length:Int)-1)=true by simp;omega]at this;exact this
 have aN:Hid (∀W:World,Calls prog 19 #[zI (T.size:Int),zI (at':Int)] W (zR W (.bool true))):=fun W=>by
  have:=z0k (T.size:Int) (at':Int) W;rw[show decide (0<=(at':Int)/\(at':Int)<=(T.size:Int))=true by simp;omega]at this;exact this
 have aO:Hid (∀W:World,Calls prog 19 #[zI 1048576,zI (mo:Int)] W (zR W (.bool true))):=fun W=>by
  have:=z0k 1048576 (mo:Int) W;rw[show decide (0<=(mo:Int)/\(mo:Int)<=1048576)=true by simp;omega]at this;exact this
 have aV:IntKind.i64.wrap ((ro.length:Int)-1)=(ro.length:Int)-1:=by rw[IntKind.wrap_i64];omega
 have aP:=hid ax;have aQ:=hid ay;have Hq:=hid hq;have aR:=hid aL;have Hr:=hid hr;have aW:=hid (And.intro aw (And.intro hT (And.intro ha af)));clear Y ag HG aB ax ay hq;go_enter func10,ntmps10
 go_wp2_with fail
 rw[<-aA.out];clear aA;refine az.out.mono ?_;rintro e w1 ⟨so,n,ae,rfl,y⟩;have Z:=(y.out.block _ (Qq aC.out)).trans aC.out;have A:=hid (aD.out.trans (y.out.mono aD.out.size));have c2:=(Qj Z 2 _ rfl).1;have l2:=Qq Z;have D:=hid Z;obtain⟨U,hU⟩:∃U,U=w1.alloc (.cells #[.slice so n ae] 43):=⟨_,rfl⟩;have ah:zB w1 U:=by rw[hU];exact(Below.refl _ w1).alloc L0q _
 have ai:=hid (A.out.trans (ah.mono A.out.size));have aj:=hid ((ah.block _ (Qq D.out)).trans D.out);have HU:=hid hU;clear az Z y hU ah A D
 go_wp2_with fail
 rw[<-HU.out];clear HU;refine(aM.out U).mono ?_;rintro e2 w2 ⟨rfl,ak⟩;have y:=hid (ai.out.trans (ak.mono ai.out.size));have D:=hid ((ak.block _ (Qq aj.out)).trans aj.out);clear ak ai aj
 go_wp2_with fail
 refine(aN.out w2).mono ?_;rintro e3 w3 ⟨rfl,al⟩;have A:=hid (y.out.trans (al.mono y.out.size));have am:=hid ((al.block _ (Qq D.out)).trans D.out);clear al y D
 go_wp2_with fail
 refine(aO.out w3).mono ?_;rintro e4 E ⟨rfl,ao⟩;have ap:=hid (A.out.trans (ao.mono A.out.size));have aa:=(ao.block _ (Qq am.out)).trans am.out;have q0:=(Qj aa 0 _ rfl).1;have q1:=(Qj aa 1 _ rfl).1;have q2:=(Qj aa 2 _ rfl).1;have aX:=Qq aa;have aY:decide (4096<T.size)=false:=by simp;omega
 have aZ:¬(4096:Int)<(T.size:Int):=by omega
 have aE:=hid (aP.out.below ap.out);obtain⟨gr,rfl,a0,aq⟩:=aE.out.r rule hr;rw[aR.out]at aq;have aF:=hid (y5Z (nc:=nc) (oc:=oc) (rc:=rc) at' ha aw hT (aE.out.below (Below.refl _ E).drew) aQ.out t af r q Hq.out);have aG:=hid (fun V c1 N1 (h:r=some (V,c1,N1))=>y5V Hq.out h);have HS:Hid (zC E.drew w.heap.size 0 (.slice oso ops.length oc)/\zC E.drew w.heap.size 1 (.slice nso ns.length nc)/\zC E.drew w.heap.size 2 (zS gr ro.length rc)/\zC E.drew gr rule (zI (t:Int))):=⟨q0,q1,q2,aq⟩;have a1:(rule:Int)<(ro.length:Int):=by omega
 clear ao A am c2 l2 q0 q1 q2 Hq aq
 go_wp2_with fail
 refine Qc 99 (fun X:World=>zC X w.heap.size 0 (.slice oso ops.length oc)/\zC X w.heap.size 1 (.slice nso ns.length nc)/\zC X w.heap.size 2 (zS gr ro.length rc)/\zC X gr rule (zI (t:Int))) (by kernel_rfl) HS.out (fun o=> ?_);refine Qz 0 o ?_;refine Qz 1 o ?_;refine Qz 2 o ?_;refine Qz 3 o ?_;refine Qz 4 o ?_;refine Qz 5 o ?_;refine Qz 6 o ?_;refine Qz 7 o ?_;refine Qz 8 o ?_
 (refine Qf 9 (fun K hK=> ?_);go_simp;refine aF.out.mono ?_;rintro e5 w5 ⟨M,NB,pv,ev,rfl,ar,HQ⟩;go_simp;replace o:=y5Y o ar;have G:=hid ar;clear ar;refine hK.out _ _ o ?_;clear hK K)
 (try simp only[Act.put,zY])
 refine Qz 10 o ?_;refine Qz 11 o ?_;refine Qz 12 o ?_;refine Qz 13 o ?_;refine Qz 14 o ?_;refine⟨by kernel_rfl,?_⟩;have ab:=hid (ap.out.trans ((⟨G.out.os,G.out.tape,G.out.output,G.out.size,G.out.block⟩:zB E w5).mono ap.out.size));clear aF G HS;cases r with
 |none=>
  obtain⟨rfl,rfl⟩:=HQ.out;clear o
  go_wp2_with fail
  refine bodyPost_ret (v:=.tuple #[zI 0,zI 0,.iface 36 (zI 50)]) (by simp[results,Tryz.results10,go_sem]) rfl ?_;exact⟨rfl,ab.out⟩
 |some r3=>
  obtain⟨V,c1,N1⟩:=r3;obtain⟨rfl,rfl,aH,a2,v1,aS,ac⟩:=HQ.out;obtain⟨_,_,z2,z3⟩:=o;have lz:=World.block_lt_of_cell? w5 _ z2;have a3:=World.block_lt_of_cell? w5 _ z3;have ad:=hid (y5W ac hT aH t at' af ha);rw[show N1 (t:Int) at'=some V from aG.out V c1 N1 rfl]at ad;dsimp only[ndE]at ad;have aI:=hid (fun(W:World) (hb:zB w5 W)=>y5X ((hb.cell (p:=⟨M,5,none⟩) (Qq ac.m)).trans (Qj ac.m 5 _ rfl).1));clear ac aS aH HQ aG
  go_wp2_with fail
  refine ad.out.mono ?_;rintro e6 w6 ⟨rfl,au⟩;have aJ:=hid (aI.out w6 au);have av:=hid (ab.out.trans (au.mono ab.out.size));clear au aI ad ab
  go_wp2_with fail
  refine aJ.out.mono ?_;rintro e7 w7 ⟨rfl,aK⟩;have aT:=hid (av.out.trans (aK.mono av.out.size));clear aK aJ av
  go_wp2_with fail
  refine bodyPost_ret (v:=.tuple #[zI (enE V),zI (c1:Int),.nilIface]) (by simp[results,Tryz.results10,go_sem]) rfl ?_;exact⟨rfl,aT.out⟩
def OxU(o:Ox):Prop:=(0<=o.2.2.1.1/\o.2.2.1.1<18446744073709551616)/\(0<=o.2.2.1.2.1/\o.2.2.1.2.1<18446744073709551616)/\(0<=o.2.2.1.2.2.1/\o.2.2.1.2.2.1<18446744073709551616)/\(0<=o.2.2.1.2.2.2/\o.2.2.1.2.2.2<18446744073709551616)
theorem z64:(0:Int)<=0/\(0:Int)<18446744073709551616:=by decide
theorem z6l{o:Ox}{ops:List Ox}(h:∀x∈ops,OxU x)(r:OxU o):∀x∈(plO o ops).2,OxU x:=by
 unfold plO;split
 ·exact h
 ·intro x hx
  rcases List.mem_append.1 hx with hx|hx
  ·exact h x hx
  ·rw[List.mem_singleton.1 hx];exact r
mutual
theorem z6m(ix:zA->Int):∀(t:RT) (ops:List Ox),RtU t->(∀x∈ops,OxU x)->∀x∈(mkT ix t ops).2,OxU x
 | .mk k T a b c d s p,ops,ht,h=>by
   rw[RtU]at ht;rw[mkT];split
   ·exact z6l h ⟨z64,z64,z64,z64⟩
   ·exact z6l (z6n ix s ops ht.2.2.2.2 h) ⟨ht.1,ht.2.1,ht.2.2.1,ht.2.2.2.1⟩
theorem z6n(ix:zA->Int):∀(s:List RT) (ops:List Ox),Xj s->(∀x∈ops,OxU x)->∀x∈(mkL ix s ops).2,OxU x
 |[],ops,_,h=>by rw[mkL];exact h
 |t::r,ops,hs,h=>by
  rw[Xj]at hs;rw[mkL];exact z6n ix r _ hs.2 (z6m ix t ops hs.1 h)
end
theorem z6o(ix:zA->Int):∀(rs:List Rr) (ops:List Ox),RgU rs->(∀x∈ops,OxU x)->∀x∈(mkG ix rs ops).2,OxU x
 |[],ops,_,h=>by rw[mkG];exact h
 |y::r,ops,hs,h=>by
  rw[mkG];exact z6o ix r _ (fun x hx=>hs x (List.mem_cons_of_mem _ hx)) (z6m ix y.2.1 ops (hs y (List.mem_cons_self ..)) h)
theorem Snd.opw{rs:List Rr}(h:Snd rs)(E:PrG rs)(G:RgU rs):OpW (pgG rs).2 (pgG rs).1:=by
 have t:=h.unf E;have I:(pgG rs).1.length=rs.length:=(Vp (fun T=>fdI T (nmL rs)) rs []).2.1.1;refine⟨fun k o y x hx=> ?_,fun k o y x hx=> ?_,t.rt,fun k o _=>z6o _ rs [] G (fun x hx=>by cases hx) _ (List.getElem_mem o)⟩
 ·obtain⟨r,e,A,D⟩:=t.rf k o y
  rw[e]at hx;rw[List.mem_singleton.1 hx,I];rw[Uy]at D;exact⟨A,D⟩
 ·obtain⟨A,D⟩:=(t.ot k o y).1 x hx
  exact⟨A,by omega⟩
theorem y6b{rs:List Rr}(h:Snd rs)(T:zA)(j i:Nat)(D:j<rs.length)(E:i<=T.size):∃e n o c r,Mt (bdQ rs) T (.one rs[j].2.1) i e n/\(pgG rs).1[j]? =some r/\0<=r/\c<=n/\c<=(pgG rs).2.length*(T.size+1)/\1<=c/\∀mo,(c<=mo->∃q,Mch (pgG rs).2 (pgG rs).1 T mo N0 0 [] (.beg r i) (some (e,c,o)) q)/\(mo<c->∃q,Mch (pgG rs).2 (pgG rs).1 T mo N0 0 [] (.beg r i) none q):=by
 obtain⟨G,n,o,c,r,I,U,V,Y,A,Z,h7⟩:=y4r h T ((pgG rs).2.length*(T.size+1)) j i D E;obtain⟨q,t⟩:=Z A;exact⟨G,n,o,c,r,I,U,V,Y,A,by have:=y4s t rfl;omega,fun mo=>⟨fun y=>⟨q,y4t t rfl y⟩,fun y=>y4u t rfl (Nat.zero_le _) y⟩⟩
theorem y6c(rs:List Rr)(oso nso rso:Option Addr)(oc nc rc:Nat)(t:Addr)(w:World)(D:Snd rs)(E:PrG rs)(G:PgM (pgG rs).2 (nmL rs) (pgG rs).1 oso nso rso w)(I:RgZ rs)(U:RgU rs)(y:TabIs w)(A:zC w (1) 0 (.iface 363 (.pointer (some t))))(V:Xm w):∀W:World,zB w W->Calls prog 18 #[.agg #[.slice oso (pgG rs).2.length oc,.slice nso (nmL rs).length nc,.slice rso (pgG rs).1.length rc]] W fun e w'=>∃o n r,e=.returned (.tuple #[.agg #[.slice o n r],.nilIface])/\Hid (zB W w'):=fun W h=>by
 have Y:(pgG rs).1.length=rs.length:=(Vp (fun T=>fdI T (nmL rs)) rs []).2.1.1;refine(y5f rs oso nso rso (pgG rs).2.length oc (nmL rs).length nc (pgG rs).1.length rc t W rfl (Uy rs) Y D E (G.below h) I U (y.below h y.lt) ((h.cell (World.block_lt_of_cell? w _ A)).trans A) (V.below h)).mono fun e w' Z=> ?_
 obtain⟨o,r,e1,hb⟩:=Z;exact⟨o,_,r,e1,hb⟩
theorem z0l(rs:List Rr)(oso nso rso:Option Addr)(y oc A nc D rc:Nat)(E:Addr)(w:World)(ac:y=(pgG rs).2.length)(G:A=rs.length)(I:D=rs.length)(o:Snd rs)(U:PrG rs)(V:PgM (pgG rs).2 (nmL rs) (pgG rs).1 oso nso rso w)(hz:RgZ rs)(Y:RgU rs)(hT:TabIs w)(hF:zC w (1) 0 (.iface 363 (.pointer (some E))))(ad:Xm w)(T:zA)(rule at' mo:Nat)(hr:rule<rs.length)(ha:at'<=T.size)(ae:mo<=1048576)(af:T.size<=4096)(x:Int)(hx:(pgG rs).1[rule]? =some x)(r:Option (Option Nat×Nat×Nt))(q:Nat)(hq:Mch (pgG rs).2 (pgG rs).1 T mo N0 0 [] (.beg x at') r q):
  Calls prog 10 #[.agg #[.slice oso y oc,.slice nso A nc,.slice rso D rc],zI rule,zT T,zI at',zI mo] w fun e w'=>MRo r e/\zB w w':=by
 have t:(pgG rs).1.length=rs.length:=(Vp (fun T=>fdI T (nmL rs)) rs []).2.1.1;have Z:=o.opw U Y;have aa:rule<(pgG rs).1.length:=by rw[t];exact hr
 have ab:(pgG rs).1[rule]=x:=(List.getElem?_eq_some_iff.1 hx).2;obtain⟨ag,ah⟩:=Z.rt _ (List.getElem_mem aa);rw[ab]at ag ah;obtain⟨h,rfl⟩:∃h:Nat,x=(h:Int):=⟨x.toNat,by omega⟩;have ai:h<(pgG rs).2.length:=by omega
 have aj:(pgG rs).1.length<=64:=by rw[t];exact o.len
 subst ac;rw[<-Uy rs]at G;subst G;rw[<-t]at I;subst I;exact y6a (ns:=nmL rs) (hid (y6c rs oso nso rso oc nc rc E w o U V hz Y hT hF ad)) rule at' aa ha ae af aj V Z h ab ai r q hq
structure PgV (rs:List Rr) (oso nso rso:Option Addr) (ol oc nl nc rl rc:Nat) (fp:Addr) (w:World):Prop where
 hol:ol=(pgG rs).2.length
 hnl:nl=rs.length
 hrl:rl=rs.length
 hs:Snd rs
 hp:PrG rs
 hM:PgM (pgG rs).2 (nmL rs) (pgG rs).1 oso nso rso w
 hz:RgZ rs
 hu:RgU rs
 hT:TabIs w
 hF:w.cell? ⟨1,0,none⟩=some (.iface 363 (.pointer (some fp)))
 hPw:Xm w
theorem PgV.below{rs:List Rr}{oso nso rso:Option Addr}{r oc t nc y rc:Nat}{A:Addr}{w W:World}(h:PgV rs oso nso rso r oc t nc y rc A w)(o:zB w W):PgV rs oso nso rso r oc t nc y rc A W:=
 ⟨h.hol,h.hnl,h.hrl,h.hs,h.hp,h.hM.below o,h.hz,h.hu,h.hT.below o h.hT.lt,(o.cell (World.block_lt_of_cell? w _ h.hF)).trans h.hF,h.hPw.below o⟩
structure MaI (rs:List Rr) (T:zA) (rule at':Nat) (e1:Option Nat) (c:Nat) (x:Int) (N':Nt):Prop where
 hx:(pgG rs).1[rule]? =some x
 mt:∃n,(∃hr:rule<rs.length,Mt (bdQ rs) T (.one rs[rule].2.1) at' e1 n)/\c<=n
 c1:c<=(pgG rs).2.length*(T.size+1)
 c2:1<=c
 yes:∀mo,c<=mo->∃q,Mch (pgG rs).2 (pgG rs).1 T mo N0 0 [] (.beg x at') (some (e1,c,N')) q
 no:∀mo,mo<c->∃q,Mch (pgG rs).2 (pgG rs).1 T mo N0 0 [] (.beg x at') none q
theorem y6d{rs:List Rr}(h:Snd rs)(T:zA){rule at':Nat}(y:rule<rs.length)(ha:at'<=T.size):∃o c x t,MaI rs T rule at' o c x t:=by
 obtain⟨o,n,t,c,r,D,E,V,G,I,U,A⟩:=y6b h T rule at' y ha;exact⟨o,c,r,t,E,⟨n,⟨y,D⟩,G⟩,I,U,fun mo h=>(A mo).1 h,fun mo h=>(A mo).2 h⟩
theorem PgV.match{rs:List Rr}{t y A:Nat}{E:Addr}(h:PgV rs oso nso rso t oc y nc A rc E w){T:zA}{rule at':Nat}{I:Option Nat}{x:Int}{Z:Nt}(D:MaI rs T rule at' I c x Z)(U:rule<rs.length)(ha:at'<=T.size)(V:T.size<=4096)(mo:Nat)(Y:mo<=1048576):
  Calls prog 10 #[.agg #[.slice oso t oc,.slice nso y nc,.slice rso A rc],zI rule,zT T,zI at',zI mo] w fun e w'=>((c<=mo/\e=.returned (.tuple #[zI (enE I),zI (c:Int),.nilIface]))∨(mo<c/\e=.returned (.tuple #[zI 0,zI 0,.iface 36 (zI 50)])))/\zB w w':=by
 rcases Nat.lt_or_ge mo c with o|o
 ·obtain⟨q,G⟩:=D.no mo o
  exact(z0l rs oso nso rso t oc y nc A rc E w h.hol h.hnl h.hrl h.hs h.hp h.hM h.hz h.hu h.hT h.hF h.hPw T rule at' mo U ha Y V x D.hx none q G).mono fun e w' r=>⟨.inr ⟨o,r.1⟩,r.2⟩
 ·obtain⟨q,G⟩:=D.yes mo o
  exact(z0l rs oso nso rso t oc y nc A rc E w h.hol h.hnl h.hrl h.hs h.hp h.hM h.hz h.hu h.hT h.hF h.hPw T rule at' mo U ha Y V x D.hx _ q G).mono fun e w' r=>⟨.inl ⟨o,r.1⟩,r.2⟩
mutual
def rkB:Nd->Bool
 | .mk kd T C s p=>decide (((kd=1/\T={data:=#[]}/\C=0/\s.length=0)∨(kd=2/\C=0/\s.length=0)∨(kd=3/\T={data:=#[]}/\s.length=0)∨(kd=4/\T={data:=#[]}/\C=0/\s.length=0)∨(kd=5/\C=0/\s.length=0)∨
    ((kd=6∨kd=7)/\T={data:=#[]}/\C=0/\2<=s.length)∨(8<=kd/\kd<=12/\T={data:=#[]}/\C=0/\s.length=1))/\(kd=2->T.size<=255)/\(kd=5->nmS T=true)/\C<2^256/\s.length<=1000000)&&rkM s
def rkM:List Nd->Bool
 |[]=>true
 |n::r=>rkB n&&rkM r
end
mutual
theorem Kc:∀n:Nd,rkB n=true->Vk n/\Wf Nmq n/\Sm n n
 | .mk kd T C s p,h=>by
   rw[rkB,Bool.and_eq_true,decide_eq_true_eq]at h;obtain⟨⟨r,t,y,A,D⟩,E⟩:=h;have o:=z6p s E;rw[Vk,Wf,Sm];simp only[List.length_eq_zero_iff]at r;exact⟨⟨r,o.1⟩,⟨t,y,A,o.2.1⟩,rfl,rfl,rfl,o.2.2,D⟩
theorem z6p:∀s:List Nd,rkM s=true->VkL s/\WfL Nmq s/\SmL s s
 |[],_=>by rw[VkL,WfL,SmL];exact⟨trivial,trivial,trivial⟩
 |n::r,h=>by
  rw[rkM,Bool.and_eq_true]at h;have o:=Kc n h.1;have t:=z6p r h.2;rw[VkL,WfL,SmL];exact⟨⟨o.1,t.1⟩,⟨o.2.1,t.2.1⟩,o.2.2,t.2.2⟩
end
def rkG(rs:List Rl):Bool:=decide (1<=rs.length/\rs.length<=64/\sz (pR qT cT rs)<=8192/\dR rs<=24)&&rs.all fun x=>nmS x.1&&rkB x.2.1
theorem z6q{rs:List Rl}(h:rkG rs=true):PrG (toG rs):=by
 unfold rkG at h;rw[Bool.and_eq_true,decide_eq_true_eq,List.all_eq_true]at h;obtain⟨⟨r,t,y,A⟩,D⟩:=h;have hx:∀x∈rs,Ruk Nmq x:=fun x hx=>by
  have o:=D x hx;rw[Bool.and_eq_true]at o;exact⟨o.1,(Kc _ o.2).1,(Kc _ o.2).2.1⟩
 exact⟨y0p (Eh rs) hx r t,rs,Eh rs,hx,y,A⟩
theorem y6e{rs:List Rl}(h:rkG rs=true)(E:ckR (toG rs)=none)(B g n r:Nat)(W:World)(G:RoR B (zS g n r) rs W)(I:TabIs W):
  Qb W W.heap.size (some ⟨g,0,none⟩) n (toG rs)/\RgZ (toG rs)/\CkX (toG rs) none/\CkC (some ⟨g,0,none⟩) n r (toG rs) none W:=by
 have U:=z6q h;unfold rkG at h;rw[Bool.and_eq_true,decide_eq_true_eq,List.all_eq_true]at h;obtain⟨⟨Z,V,h3,h4⟩,Y⟩:=h;have o:∀x∈rs,nmS x.1=true/\rkB x.2.1=true:=fun x hx=>by
  have t:=Y x hx;rw[Bool.and_eq_true]at t;exact t
 have y:=y0o G (fun x hx=>(Kc _ (o x hx).2).2.2) V;have A:=(Ry (Eh rs) (fun x hx=>⟨(o x hx).1,(Kc _ (o x hx).2).1,(Kc _ (o x hx).2).2.1⟩)).2;have D:=Sk _ n r (toG rs) W.heap.size W A y L0q I U E;exact⟨y,A,D.1,D.2⟩
end Go.Proofs.YtgnkkgcgbeianaaGreatDoor
