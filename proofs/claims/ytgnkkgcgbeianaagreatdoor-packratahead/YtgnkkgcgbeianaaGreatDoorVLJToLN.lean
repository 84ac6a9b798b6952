/- Lemmas for the last text. Conditions: those that each names. -/
import Derived.Test.YtgnkkgcgbeianaaGreatDoorVLI
set_option linter.unusedVariables false
set_option maxRecDepth 100000
set_option maxHeartbeats 32000000
namespace Go.Proofs.YtgnkkgcgbeianaaGreatDoor
open Go.Proofs.Tryz
open Go.RowKit Go.Shelf Go.Maps
variable {ro:List Int} {T:ByteArray} {c mo nc oc rc:Nat} {nso oso rso:Option Addr} {W w:World}
theorem Np(l n:Int)(w:World):Calls prog 19 #[.int .i64 l,.int .i64 n] w fun e w'=>e=.returned (.bool (decide (0<=n/\n<=l)))/\Below w.heap.size w w':=by
 by_cases h0:0<=n
 ·by_cases h1:n<=l
  ·have h:decide (0<=n/\n<=l)=true:=by simp;omega
   rw[h];go_enter func19,ntmps19
   go_wp2_with fail
   refine bodyPost_ret (v:=.bool true) (by simp[results,Tryz.results19,go_sem]) rfl ?_;exact⟨rfl,Below.refl _ w⟩
  ·have h:decide (0<=n/\n<=l)=false:=by simp;omega
   have o:decide (n<=l)=false:=by simp;omega
   rw[h];go_enter func19,ntmps19
   go_wp2_with fail
   refine bodyPost_ret (v:=.bool false) (by simp[results,Tryz.results19,go_sem]) rfl ?_;exact⟨rfl,Below.refl _ w⟩
 ·have h:decide (0<=n/\n<=l)=false:=by simp;omega
  have o:decide (0<=n)=false:=by simp;omega
  rw[h];go_enter func19,ntmps19
  go_wp2_with fail
  refine bodyPost_ret (v:=.bool false) (by simp[results,Tryz.results19,go_sem]) rfl ?_;exact⟨rfl,Below.refl _ w⟩
def MRo(r:Option (Option Nat×Nat×Nt))(e:Ending):Prop:=match r with
 |none=>e=.returned (.tuple #[.int .i64 0,.int .i64 0,.iface 36 (.int .i64 50)])
 |some (e1,c1,_)=>e=.returned (.tuple #[.int .i64 (enE e1),.int .i64 c1,.nilIface])
theorem Tryz.infoNtes:(Tryz.prog.info? 158).map (fun i=>(i.zero,i.size,i.bytes))=some (some (.slice none 0 0),1,24):=by kernel_rfl
theorem y8y(n:Nat)(A:n<=1048576)(W:World):(Instr.makeSlice 96 (.int .i64 n) (.int .i64 n)).run prog W=.ok (.slice (some ⟨W.heap.size,0,none⟩) n n) (W.alloc (.cells (madeCells #[.slice none 0 0] n) 158)):=by
 obtain⟨h,o,r,t,y⟩:=info_parts Tryz.infoNtes;rw[run_make W 96 158 h _ Tryz.underlying96 o r .i64 .i64 n n (by omega) (by omega) (by rw[y];omega) (by omega),t];simp[Value.cells]
def ndE(x:Option (Option Nat)):Int:=match x with|none=> -1|some e=>enE e
theorem y8z{o:Ox}{w w':Wq}{e:Option Nat}(h:nxt o w e=some w'):w'.1=w.1/\w'.2.1=w.2.1:=by
 unfold nxt at h;split at h
 ·cases e with
  |none=>cases h
  |some x=>
   dsimp only at h;split at h
   ·cases h
   ·cases h;exact⟨rfl,rfl⟩
 ·split at h
  ·cases e with
   |some x=>cases h
   |none=>
    dsimp only at h;split at h
    ·cases h
    ·cases h;exact⟨rfl,rfl⟩
  ·split at h
   ·cases e with
    |none=>cases h
    |some x=>cases h;exact⟨rfl,rfl⟩
   ·cases h
def EdP(S:List Wq)(m:Mde)(N:Nt)(e:Option Nat)(N':Nt):Prop:=match S.getLast? with
 |some w=>N' w.1 w.2.1=some e
 |none=>match m with
  | .beg k i=>N' k i=some e
  | .ret e0=>e=e0/\N'=N
theorem y8A{ops:List Ox}{N:Nt}{S:List Wq}{m:Mde}{r:Option (Option Nat×Nat×Nt)}{q:Nat}(h:Mch ops ro T mo N c S m r q):∀{e:Option Nat} {y:Nat} {t:Nt},r=some (e,y,t)->EdP S m N e t:=by
 induction h with
 |done=>intro e y t h;cases h;exact⟨rfl,rfl⟩
 |bud _=>intro e y t h;cases h
 | @noted N c S k i e0 r q h1 _ ih=>
   intro e y t h;have:=ih h;unfold EdP at this ⊢;cases hS:S.getLast? with
   |some w=>rw[hS]at this;exact this
   |none=>rw[hS]at this;obtain⟨rfl,rfl⟩:=this;exact h1
 | @leaf N c S k i o r q h1 _ _ _ _ ih=>
   intro e y t h;have:=ih h;unfold EdP at this ⊢;cases hS:S.getLast? with
   |some w=>rw[hS]at this;exact this
   |none=>rw[hS]at this;obtain⟨rfl,rfl⟩:=this;exact Bd _ _ _ _
 | @push N c S k i o r q h1 _ _ _ _ ih=>
   intro e y t h;have:=ih h;unfold EdP at this ⊢;cases S with
   |nil=>exact this
   |cons x r=>rw[List.getLast?_cons_cons]at this;exact this
 | @next N c S w w' o e0 r q h1 h2 _ ih=>
   intro e y t h;have:=ih h;obtain⟨A,D⟩:=y8z h2;unfold EdP at this ⊢;cases S with
   |nil=>rw[List.getLast?_singleton]at this ⊢;dsimp only at this ⊢;rw[<-A,<-D];exact this
   |cons x r=>rw[List.getLast?_cons_cons]at this ⊢;exact this
 | @pop N c S w o e0 r q h1 h2 _ ih=>
   intro e y t h;have:=ih h;unfold EdP at this ⊢;cases S with
   |nil=>rw[List.getLast?_singleton];obtain⟨rfl,rfl⟩:=this;exact Bd _ _ _ _
   |cons x r=>rw[List.getLast?_cons_cons];exact this
theorem y8B{ops:List Ox}{ns:List ByteArray}{M NB:Nat}{w0:World}{N:Nt}{S:List Wq}{v:Value}(h:MtM ops ns ro T mo oso nso rso oc nc rc M NB w0 N c S v W)(y:T.size<=4096)(A:∀k i e,N k i=some (some e)->e<=T.size)(k i:Nat)(D:k<ops.length)(E:i<=T.size):
  Calls prog 21 #[.pointer (some ⟨M,0,none⟩),.int .i64 k,.int .i64 i] W fun e w'=>e=.returned (.int .i64 (ndE (N k i)))/\Below W.heap.size W w':=by
 have o:=hid (h.noted y A k i D E);clear h A D E y;cases hx:N k i with
 |none=>
  rw[hx]at o;dsimp only[ntc]at o;dsimp only[ndE];clear hx;go_enter func21,ntmps21
  go_wp2_with fail
  refine o.out.mono ?_;rintro e G ⟨rfl,r⟩;have t:=hid r;clear r o
  go_wp2_with fail
  refine bodyPost_ret (v:=.int .i64 (-1)) (by simp[results,Tryz.results21,go_sem]) rfl ?_;exact⟨rfl,t.out⟩
 |some x=>
  rw[hx]at o;dsimp only[ntc]at o;dsimp only[ndE];clear hx;go_enter func21,ntmps21
  go_wp2_with fail
  refine o.out.mono ?_;rintro e G ⟨rfl,r⟩;have t:=hid r;clear r o
  go_wp2_with fail
  refine bodyPost_ret (v:=.int .i64 (enE x)) (by simp[results,Tryz.results21,go_sem]) rfl ?_;exact⟨rfl,t.out⟩
theorem y8C{M:Nat}(h:W.cell? ⟨M,5,none⟩=some (.int .i64 c)):
  Calls prog 22 #[.pointer (some ⟨M,0,none⟩)] W fun e w'=>e=.returned (.int .i64 c)/\Below W.heap.size W w':=by
 have l:=World.block_lt_of_cell? W _ h;go_enter func22,ntmps22
 go_wp2_with fail
 refine bodyPost_ret (v:=.int .i64 c) (by simp[results,Tryz.results22,go_sem]) rfl ?_;exact⟨rfl,Below.refl _ _⟩
theorem y8D{W':World}{p0 p1 p2 o:Addr}{v0 v1 v2 v3:Value}(h:W.cell? p0=some v0/\W.cell? p1=some v1/\W.cell? p2=some v2/\W.cell? o=some v3)(r:Below W.heap.size W W'):W'.cell? p0=some v0/\W'.cell? p1=some v1/\W'.cell? p2=some v2/\W'.cell? o=some v3:=⟨(Bh ⟨h.1,h.2.1,h.2.2.1⟩ r).1,Bh h.2 r⟩
def OfQ(ops:List Ox)(ns:List ByteArray)(ro:List Int)(T:ByteArray)(mo:Nat)(oso nso rso:Option Addr)(oc nc rc:Nat)(r:Option (Option Nat×Nat×Nt))(w0:World)(e':Ending)(W':World):Prop:=∃M NB pv ev,e'=.returned (.tuple #[pv,ev])/\Below w0.heap.size w0 W'/\Hid (match r with
 |none=>pv=.pointer none/\ev=.iface 36 (.int .i64 50)
 |some (e,c,N)=>pv=.pointer (some ⟨M,0,none⟩)/\ev=.nilIface/\(∀k i e,N k i=some (some e)->e<=T.size)/\∃w1 v,Below w0.heap.size w0 w1/\MtM ops ns ro T mo oso nso rso oc nc rc M NB w1 N c [] v W')
theorem y8E{ops:List Ox}{ns:List ByteArray}(at':Nat)(ha:at'<=T.size)(ai:mo<=1048576)(hT:T.size<=4096)(ab:PgM ops ns ro oso nso rso w)(ac:OpW ops ro)(A:Nat)(aj:A<ops.length)(r:Option (Option Nat×Nat×Nt))(q:Nat)(hq:Mch ops ro T mo N0 0 [] (.beg (A:Int) at') r q):
  Calls prog 20 #[.agg #[.slice oso ops.length oc,.slice nso ns.length nc,.slice rso ro.length rc],.int .i64 A,.string T,.int .i64 at',.int .i64 mo] w (OfQ ops ns ro T mo oso nso rso oc nc rc r w):=by
 obtain⟨o,U⟩:∃o,o=w.alloc (.cells #[.slice oso ops.length oc,.slice nso ns.length nc,.slice rso ro.length rc] 26):=⟨_,rfl⟩;have Y:Below w.heap.size w o:=by rw[U];exact(Below.refl _ w).alloc L0q _
 have D:o.heap[w.heap.size]? =some (.cells #[.slice oso ops.length oc,.slice nso ns.length nc,.slice rso ro.length rc] 26):=by rw[U];exact Qx w _ rfl
 have E:=hid Y;have ad:=hid U;have ak:=hid (ab.below Y);have al:=hid ac;have Hq:=hid hq;have q0:=(Qj D 0 _ rfl).1;have q1:=(Qj D 1 _ rfl).1;have q2:=(Qj D 2 _ rfl).1;have ar:=Qq D;have am:IntKind.i64.wrap ((T.size:Int)+1)=((T.size+1:Nat):Int):=by rw[IntKind.wrap_i64];omega
 have ao:=y8y (T.size+1) (by omega);rw[show((T.size+1:Nat):Int)=(T.size:Int)+1 by omega]at ao am;obtain⟨X,G⟩:∃X,X=((o.alloc (.cells (madeCells #[.slice none 0 0] (T.size+1)) 158)).alloc (mtO ops ns ro T mo oso nso rso oc nc rc o.heap.size (.slice none 0 0) 0)).drew:=⟨_,rfl⟩;have y:Hid (MtM ops ns ro T mo oso nso rso oc nc rc (o.heap.size+1) o.heap.size o N0 0 [] (.slice none 0 0) X):=by
  have V:Below o.heap.size o X:=by rw[G];exact(((Below.refl _ o).alloc L0q _).alloc (by simp) _).drew
  have hn:X.heap[o.heap.size]? =some (.cells (madeCells #[.slice none 0 0] (T.size+1)) 158):=by rw[G];exact(Below.heap_alloc _ _ _ (by simp)).trans (Qx o _ rfl)
  refine⟨ak.out,V,by omega,Nat.le_refl _,by omega,by rw[G];exact Qx _ _ (by simp),World.ownsRow_nil _ _ _ _,(fun h=>by cases h),(fun h=>by cases h),(fun _=>none),⟨_,hn,fun i Z=> ?_⟩,(fun i Z _ k=>rfl),(fun i Z g hg=>by cases hg),(fun i j g Z hj h1 h2=>by cases h1)⟩;show(madeCells #[.slice none 0 0] (T.size+1))[i]? =some (.slice none 0 0);have e1:=toList_madeCells_one (.slice none 0 0) (T.size+1);rw[<-Array.getElem?_toList,e1,List.getElem?_replicate];simp;omega
 have ae:Hid (MJs ops ns ro T mo oso nso rso oc nc rc (o.heap.size+1) o.heap.size o r q A at' N0 0 [] (.slice none 0 0) X):=⟨aj,ha,(fun k i e h=>by cases h),(fun x hx=>by cases hx),Nat.zero_le _,Nat.le_refl _,y.out,Hq.out⟩;have af:=hid (y8x al.out hT ai r q A at' N0 0 (.slice none 0 0) X ae.out);have HS:Hid (o.drew.cell? ⟨w.heap.size,0,none⟩=some (.slice oso ops.length oc)/\o.drew.cell? ⟨w.heap.size,1,none⟩=some (.slice nso ns.length nc)/\o.drew.cell? ⟨w.heap.size,2,none⟩=some (.slice rso ro.length rc)):=⟨q0,q1,q2⟩;have HX:=hid G;have au:Hid (((T.size+1:Nat):Int)=(T.size:Int)+1):=by show _=_;omega
 clear Y G q0 q1 q2 Hq U D ab ac hq;go_enter func20,ntmps20
 go_wp2_with fail
 rw[<-ad.out];clear ad;refine Zj 99 (fun X:World=>X.cell? ⟨w.heap.size,0,none⟩=some (.slice oso ops.length oc)/\X.cell? ⟨w.heap.size,1,none⟩=some (.slice nso ns.length nc)/\X.cell? ⟨w.heap.size,2,none⟩=some (.slice rso ro.length rc)) (by kernel_rfl) HS.out (fun t=> ?_);refine Qz 0 t ?_;refine Qz 1 t ?_;refine Qz 2 t ?_;refine Qz 3 t ?_;refine Qz 4 t ?_;refine Qz 6 t ?_
 (refine Qg 5 (fun K I=> ?_);go_simp;replace t:=Bh t ((Below.refl _ o.drew).alloc L0q (.cells (madeCells #[.slice none 0 0] (T.size+1)) 158));refine I.out _ _ t ?_;clear I K)
 (try simp only[Act.put,List.setIfInBounds_toArray,List.set_cons_zero,List.set_cons_succ])
 refine Qz 7 t ?_
 (refine Qg 8 (fun K I=> ?_);go_simp)
 have eX:X=((o.alloc (.cells (madeCells #[.slice none 0 0] (T.size+1)) 158)).alloc (.cells #[.slice oso ops.length oc,.slice nso ns.length nc,.slice rso ro.length rc,.string T,.slice (some ⟨o.heap.size,0,none⟩) (T.size+1) (T.size+1),.int .i64 0,.int .i64 mo,.slice none 0 0] 99)).drew:=HX.out;rw[<-eX];replace t:=Bh HS.out (⟨y.out.be.os,y.out.be.tape,y.out.be.output,y.out.be.size,y.out.be.block⟩:Below o.drew.heap.size o.drew X);refine I.out _ _ t ?_;clear I K
 (try simp only[Act.put,List.setIfInBounds_toArray,List.set_cons_zero,List.set_cons_succ])
 refine Qz 9 t ?_;refine⟨by kernel_rfl,?_⟩;clear t eX HX HS
 go_wp2_with fail
 refine af.out.mono ?_;intro e5 w5 h5;clear af ae;cases r with
 |none=>
  obtain⟨rfl,V⟩:=h5;have ap:=hid (E.out.trans (V.mono E.out.size));clear V
  go_wp2_with fail
  refine bodyPost_ret (v:=.tuple #[.pointer none,.iface 36 (.int .i64 50)]) (by simp[results,Tryz.results20,go_sem]) rfl ?_;exact⟨0,0,_,_,rfl,ap.out,hid ⟨rfl,rfl⟩⟩
 |some r3=>
  obtain⟨e1,c1,N1⟩:=r3;obtain⟨rfl,ag,v1,aa⟩:=h5;have aq:=hid (E.out.trans (aa.be.mono E.out.size));have ah:=hid (And.intro ag aa);clear aa ag
  go_wp2_with fail
  refine bodyPost_ret (v:=.tuple #[.pointer (some ⟨o.heap.size+1,0,none⟩),.nilIface]) (by simp[results,Tryz.results20,go_sem]) rfl ?_;exact⟨_,_,_,_,rfl,aq.out,hid ⟨rfl,rfl,ah.out.1,o,v1,E.out,ah.out.2⟩⟩
theorem y8F{ops:List Ox}{ns:List ByteArray}(HG:Hid (∀W:World,Below w.heap.size w W->Calls prog 18 #[.agg #[.slice oso ops.length oc,.slice nso ns.length nc,.slice rso ro.length rc]] W fun e w'=>∃so n af,e=.returned (.tuple #[.agg #[.slice so n af],.nilIface])/\Hid (Below W.heap.size W w')))(rule at':Nat)(hr:rule<ro.length)(ha:at'<=T.size)(ax:mo<=1048576)(hT:T.size<=4096)(aV:ro.length<=64)(ay:PgM ops ns ro oso nso rso w)(az:OpW ops ro)(t:Nat)(aM:ro[rule]=(t:Int))(ag:t<ops.length)(r:Option (Option Nat×Nat×Nt))(q:Nat)(hq:Mch ops ro T mo N0 0 [] (.beg (t:Int) at') r q):
  Calls prog 10 #[.agg #[.slice oso ops.length oc,.slice nso ns.length nc,.slice rso ro.length rc],.int .i64 rule,.string T,.int .i64 at',.int .i64 mo] w fun e w'=>MRo r e/\Below w.heap.size w w':=by
 obtain⟨I,Z⟩:∃I,I=w.alloc (.cells #[.slice oso ops.length oc,.slice nso ns.length nc,.slice rso ro.length rc] 26):=⟨_,rfl⟩;have ah:Below w.heap.size w I:=by rw[Z];exact(Below.refl _ w).alloc L0q _
 have aA:=hid (HG.out I ah);have aB:=hid Z;have aC:I.heap[w.heap.size]? =some (.cells #[.slice oso ops.length oc,.slice nso ns.length nc,.slice rso ro.length rc] 26):=by rw[Z];exact Qx w _ rfl
 have aD:=hid aC;have aE:=hid ah;have aN:Hid (∀W:World,Calls prog 19 #[.int .i64 ((ro.length:Int)-1),.int .i64 rule] W fun e w'=>e=.returned (.bool true)/\Below W.heap.size W w'):=fun W=>by
  have:=Np ((ro.length:Int)-1) (rule:Int) W;rw[show decide (0<=(rule:Int)/\(rule:Int)<=(ro.length:Int)-1)=true by simp;omega]at this;exact this
 have aO:Hid (∀W:World,Calls prog 19 #[.int .i64 (T.size:Int),.int .i64 at'] W fun e w'=>e=.returned (.bool true)/\Below W.heap.size W w'):=fun W=>by
  have:=Np (T.size:Int) (at':Int) W;rw[show decide (0<=(at':Int)/\(at':Int)<=(T.size:Int))=true by simp;omega]at this;exact this
 have aP:Hid (∀W:World,Calls prog 19 #[.int .i64 1048576,.int .i64 mo] W fun e w'=>e=.returned (.bool true)/\Below W.heap.size W w'):=fun W=>by
  have:=Np 1048576 (mo:Int) W;rw[show decide (0<=(mo:Int)/\(mo:Int)<=1048576)=true by simp;omega]at this;exact this
 have aW:IntKind.i64.wrap ((ro.length:Int)-1)=(ro.length:Int)-1:=by rw[IntKind.wrap_i64];omega
 have aQ:=hid ay;have aR:=hid az;have Hq:=hid hq;have aS:=hid aM;have Hr:=hid hr;have aX:=hid (And.intro ax (And.intro hT (And.intro ha ag)));clear Z ah HG aC ay az hq;go_enter func10,ntmps10
 go_wp2_with fail
 rw[<-aB.out];clear aB;refine aA.out.mono ?_;rintro e w1 ⟨so,n,af,rfl,y⟩;have aa:=(y.out.block _ (Qq aD.out)).trans aD.out;have A:=hid (aE.out.trans (y.out.mono aE.out.size));have c2:=(Qj aa 2 _ rfl).1;have l2:=Qq aa;have D:=hid aa;obtain⟨U,hU⟩:∃U,U=w1.alloc (.cells #[.slice so n af] 43):=⟨_,rfl⟩;have ai:Below w1.heap.size w1 U:=by rw[hU];exact(Below.refl _ w1).alloc L0q _
 have aj:=hid (A.out.trans (ai.mono A.out.size));have ak:=hid ((ai.block _ (Qq D.out)).trans D.out);have HU:=hid hU;clear aA aa y hU ai A D
 go_wp2_with fail
 rw[<-HU.out];clear HU;refine(aN.out U).mono ?_;rintro e2 w2 ⟨rfl,al⟩;have y:=hid (aj.out.trans (al.mono aj.out.size));have D:=hid ((al.block _ (Qq ak.out)).trans ak.out);clear al aj ak
 go_wp2_with fail
 refine(aO.out w2).mono ?_;rintro e3 w3 ⟨rfl,am⟩;have A:=hid (y.out.trans (am.mono y.out.size));have ao:=hid ((am.block _ (Qq D.out)).trans D.out);clear am y D
 go_wp2_with fail
 refine(aP.out w3).mono ?_;rintro e4 E ⟨rfl,ap⟩;have aq:=hid (A.out.trans (ap.mono A.out.size));have ab:=(ap.block _ (Qq ao.out)).trans ao.out;have q0:=(Qj ab 0 _ rfl).1;have q1:=(Qj ab 1 _ rfl).1;have q2:=(Qj ab 2 _ rfl).1;have aY:=Qq ab;have aZ:decide (4096<T.size)=false:=by simp;omega
 have a0:¬(4096:Int)<(T.size:Int):=by omega
 have aF:=hid (aQ.out.below aq.out);obtain⟨gr,rfl,a1,ar⟩:=aF.out.r rule hr;rw[aS.out]at ar;have aG:=hid (y8E (nc:=nc) (oc:=oc) (rc:=rc) at' ha ax hT (aF.out.below (Below.refl _ E).drew) aR.out t ag r q Hq.out);have aH:=hid (fun V c1 N1 (h:r=some (V,c1,N1))=>y8A Hq.out h);have HS:Hid (E.drew.cell? ⟨w.heap.size,0,none⟩=some (.slice oso ops.length oc)/\E.drew.cell? ⟨w.heap.size,1,none⟩=some (.slice nso ns.length nc)/\E.drew.cell? ⟨w.heap.size,2,none⟩=some (.slice (some ⟨gr,0,none⟩) ro.length rc)/\E.drew.cell? ⟨gr,rule,none⟩=some (.int .i64 t)):=⟨q0,q1,q2,ar⟩;have a2:(rule:Int)<(ro.length:Int):=by omega
 clear ap A ao c2 l2 q0 q1 q2 Hq ar
 go_wp2_with fail
 refine Zj 99 (fun X:World=>X.cell? ⟨w.heap.size,0,none⟩=some (.slice oso ops.length oc)/\X.cell? ⟨w.heap.size,1,none⟩=some (.slice nso ns.length nc)/\X.cell? ⟨w.heap.size,2,none⟩=some (.slice (some ⟨gr,0,none⟩) ro.length rc)/\X.cell? ⟨gr,rule,none⟩=some (.int .i64 t)) (by kernel_rfl) HS.out (fun o=> ?_);refine Qz 0 o ?_;refine Qz 1 o ?_;refine Qz 2 o ?_;refine Qz 3 o ?_;refine Qz 4 o ?_;refine Qz 5 o ?_;refine Qz 6 o ?_;refine Qz 7 o ?_;refine Qz 8 o ?_
 (refine Qg 9 (fun K hK=> ?_);go_simp;refine aG.out.mono ?_;rintro e5 Y ⟨M,NB,pv,ev,rfl,au,HQ⟩;go_simp;replace o:=y8D o au;have G:=hid au;clear au;refine hK.out _ _ o ?_;clear hK K)
 (try simp only[Act.put,List.setIfInBounds_toArray,List.set_cons_zero,List.set_cons_succ])
 refine Qz 10 o ?_;refine Qz 11 o ?_;refine Qz 12 o ?_;refine Qz 13 o ?_;refine Qz 14 o ?_;refine⟨by kernel_rfl,?_⟩;have ac:=hid (aq.out.trans ((⟨G.out.os,G.out.tape,G.out.output,G.out.size,G.out.block⟩:Below E.heap.size E Y).mono aq.out.size));clear aG G HS;cases r with
 |none=>
  obtain⟨rfl,rfl⟩:=HQ.out;clear o
  go_wp2_with fail
  refine bodyPost_ret (v:=.tuple #[.int .i64 0,.int .i64 0,.iface 36 (.int .i64 50)]) (by simp[results,Tryz.results10,go_sem]) rfl ?_;exact⟨rfl,ac.out⟩
 |some r3=>
  obtain⟨V,c1,N1⟩:=r3;obtain⟨rfl,rfl,aI,a3,v1,aT,ad⟩:=HQ.out;obtain⟨_,_,z2,z3⟩:=o;have lz:=World.block_lt_of_cell? Y _ z2;have a4:=World.block_lt_of_cell? Y _ z3;have ae:=hid (y8B ad hT aI t at' ag ha);rw[show N1 (t:Int) at'=some V from aH.out V c1 N1 rfl]at ae;dsimp only[ndE]at ae;have aJ:=hid (fun(W:World) (hb:Below Y.heap.size Y W)=>y8C ((hb.cell (p:=⟨M,5,none⟩) (Qq ad.m)).trans (Qj ad.m 5 _ rfl).1));clear ad aT aI HQ aH
  go_wp2_with fail
  refine ae.out.mono ?_;rintro e6 w6 ⟨rfl,av⟩;have aK:=hid (aJ.out w6 av);have aw:=hid (ac.out.trans (av.mono ac.out.size));clear av aJ ae ac
  go_wp2_with fail
  refine aK.out.mono ?_;rintro e7 w7 ⟨rfl,aL⟩;have aU:=hid (aw.out.trans (aL.mono aw.out.size));clear aL aK aw
  go_wp2_with fail
  refine bodyPost_ret (v:=.tuple #[.int .i64 (enE V),.int .i64 c1,.nilIface]) (by simp[results,Tryz.results10,go_sem]) rfl ?_;exact⟨rfl,aU.out⟩
def OxU(o:Ox):Prop:=(0<=o.2.2.1.1/\o.2.2.1.1<18446744073709551616)/\(0<=o.2.2.1.2.1/\o.2.2.1.2.1<18446744073709551616)/\(0<=o.2.2.1.2.2.1/\o.2.2.1.2.2.1<18446744073709551616)/\(0<=o.2.2.1.2.2.2/\o.2.2.1.2.2.2<18446744073709551616)
theorem z64:(0:Int)<=0/\(0:Int)<18446744073709551616:=by decide
theorem z8i{o:Ox}{ops:List Ox}(h:∀x∈ops,OxU x)(r:OxU o):∀x∈(plO o ops).2,OxU x:=by
 unfold plO;split
 ·exact h
 ·intro x hx
  rcases List.mem_append.1 hx with hx|hx
  ·exact h x hx
  ·rw[List.mem_singleton.1 hx];exact r
mutual
theorem z8j(ix:ByteArray->Int):∀(t:RT) (ops:List Ox),RtU t->(∀x∈ops,OxU x)->∀x∈(mkT ix t ops).2,OxU x
 | .mk k T a b c d s p,ops,ht,h=>by
   rw[RtU]at ht;rw[mkT];split
   ·exact z8i h ⟨z64,z64,z64,z64⟩
   ·exact z8i (z8k ix s ops ht.2.2.2.2 h) ⟨ht.1,ht.2.1,ht.2.2.1,ht.2.2.2.1⟩
theorem z8k(ix:ByteArray->Int):∀(s:List RT) (ops:List Ox),Yz s->(∀x∈ops,OxU x)->∀x∈(mkL ix s ops).2,OxU x
 |[],ops,_,h=>by rw[mkL];exact h
 |t::r,ops,hs,h=>by
  rw[Yz]at hs;rw[mkL];exact z8k ix r _ hs.2 (z8j ix t ops hs.1 h)
end
theorem z8l(ix:ByteArray->Int):∀(rs:List Rr) (ops:List Ox),RgU rs->(∀x∈ops,OxU x)->∀x∈(mkG ix rs ops).2,OxU x
 |[],ops,_,h=>by rw[mkG];exact h
 |y::r,ops,hs,h=>by
  rw[mkG];exact z8l ix r _ (fun x hx=>hs x (List.mem_cons_of_mem _ hx)) (z8j ix y.2.1 ops (hs y (List.mem_cons_self ..)) h)
theorem Snd.opw{rs:List Rr}(h:Snd rs)(E:PrG rs)(G:RgU rs):OpW (pgG rs).2 (pgG rs).1:=by
 have t:=h.unf E;have I:(pgG rs).1.length=rs.length:=(Uv (fun T=>fdI T (nmL rs)) rs []).2.1.1;refine⟨fun k o y x hx=> ?_,fun k o y x hx=> ?_,t.rt,fun k o _=>z8l _ rs [] G (fun x hx=>by cases hx) _ (List.getElem_mem o)⟩
 ·obtain⟨r,e,A,D⟩:=t.rf k o y
  rw[e]at hx;rw[List.mem_singleton.1 hx,I];rw[Um]at D;exact⟨A,D⟩
 ·obtain⟨A,D⟩:=(t.ot k o y).1 x hx
  exact⟨A,by omega⟩
theorem y8G{rs:List Rr}(h:Snd rs)(T:ByteArray)(j i:Nat)(D:j<rs.length)(E:i<=T.size):∃e n o c r,Mt (bdQ rs) T (.one rs[j].2.1) i e n/\(pgG rs).1[j]? =some r/\0<=r/\c<=n/\c<=(pgG rs).2.length*(T.size+1)/\1<=c/\∀mo,(c<=mo->∃q,Mch (pgG rs).2 (pgG rs).1 T mo N0 0 [] (.beg r i) (some (e,c,o)) q)/\(mo<c->∃q,Mch (pgG rs).2 (pgG rs).1 T mo N0 0 [] (.beg r i) none q):=by
 obtain⟨G,n,o,c,r,I,U,V,Y,A,Z,h7⟩:=y6T h T ((pgG rs).2.length*(T.size+1)) j i D E;obtain⟨q,t⟩:=Z A;exact⟨G,n,o,c,r,I,U,V,Y,A,by have:=y6U t rfl;omega,fun mo=>⟨fun y=>⟨q,y6V t rfl y⟩,fun y=>y6W t rfl (Nat.zero_le _) y⟩⟩
theorem z8m(rs:List Rr)(oso nso rso:Option Addr)(oc nc rc:Nat)(t:Addr)(w:World)(D:Snd rs)(E:PrG rs)(G:PgM (pgG rs).2 (nmL rs) (pgG rs).1 oso nso rso w)(I:RgZ rs)(U:RgU rs)(y:TabIs w)(A:w.cell? ⟨1,0,none⟩=some (.iface 363 (.pointer (some t))))(V:Xp w):∀W:World,Below w.heap.size w W->Calls prog 18 #[.agg #[.slice oso (pgG rs).2.length oc,.slice nso (nmL rs).length nc,.slice rso (pgG rs).1.length rc]] W fun e w'=>∃o n r,e=.returned (.tuple #[.agg #[.slice o n r],.nilIface])/\Hid (Below W.heap.size W w'):=fun W h=>by
 have Y:(pgG rs).1.length=rs.length:=(Uv (fun T=>fdI T (nmL rs)) rs []).2.1.1;refine(y7F rs oso nso rso (pgG rs).2.length oc (nmL rs).length nc (pgG rs).1.length rc t W rfl (Um rs) Y D E (G.below h) I U (y.below h y.lt) ((h.cell (World.block_lt_of_cell? w _ A)).trans A) (V.below h)).mono fun e w' Z=> ?_
 obtain⟨o,r,e1,hb⟩:=Z;exact⟨o,_,r,e1,hb⟩
theorem Ov(rs:List Rr)(oso nso rso:Option Addr)(y oc A nc D rc:Nat)(E:Addr)(w:World)(ac:y=(pgG rs).2.length)(G:A=rs.length)(I:D=rs.length)(o:Snd rs)(U:PrG rs)(V:PgM (pgG rs).2 (nmL rs) (pgG rs).1 oso nso rso w)(hz:RgZ rs)(Y:RgU rs)(hT:TabIs w)(hF:w.cell? ⟨1,0,none⟩=some (.iface 363 (.pointer (some E))))(ad:Xp w)(T:ByteArray)(rule at' mo:Nat)(hr:rule<rs.length)(ha:at'<=T.size)(ae:mo<=1048576)(af:T.size<=4096)(x:Int)(hx:(pgG rs).1[rule]? =some x)(r:Option (Option Nat×Nat×Nt))(q:Nat)(hq:Mch (pgG rs).2 (pgG rs).1 T mo N0 0 [] (.beg x at') r q):
  Calls prog 10 #[.agg #[.slice oso y oc,.slice nso A nc,.slice rso D rc],.int .i64 rule,.string T,.int .i64 at',.int .i64 mo] w fun e w'=>MRo r e/\Below w.heap.size w w':=by
 have t:(pgG rs).1.length=rs.length:=(Uv (fun T=>fdI T (nmL rs)) rs []).2.1.1;have Z:=o.opw U Y;have aa:rule<(pgG rs).1.length:=by rw[t];exact hr
 have ab:(pgG rs).1[rule]=x:=(List.getElem?_eq_some_iff.1 hx).2;obtain⟨ag,ah⟩:=Z.rt _ (List.getElem_mem aa);rw[ab]at ag ah;obtain⟨h,rfl⟩:∃h:Nat,x=(h:Int):=⟨x.toNat,by omega⟩;have ai:h<(pgG rs).2.length:=by omega
 have aj:(pgG rs).1.length<=64:=by rw[t];exact o.len
 subst ac;rw[<-Um rs]at G;subst G;rw[<-t]at I;subst I;exact y8F (ns:=nmL rs) (hid (z8m rs oso nso rso oc nc rc E w o U V hz Y hT hF ad)) rule at' aa ha ae af aj V Z h ab ai r q hq
structure PgV (rs:List Rr) (oso nso rso:Option Addr) (ol oc nl nc rl rc:Nat) (fp:Addr) (w:World):Prop where
 hol:ol=(pgG rs).2.length
 hnl:nl=rs.length
 hrl:rl=rs.length
 hs:Snd rs
 hp:PrG rs
 hM:PgM (pgG rs).2 (nmL rs) (pgG rs).1 oso nso rso w
 hz:RgZ rs
 hu:RgU rs
 hT:TabIs w
 hF:w.cell? ⟨1,0,none⟩=some (.iface 363 (.pointer (some fp)))
 hPw:Xp w
theorem PgV.below{rs:List Rr}{oso nso rso:Option Addr}{r oc t nc y rc:Nat}{A:Addr}{w W:World}(h:PgV rs oso nso rso r oc t nc y rc A w)(o:Below w.heap.size w W):PgV rs oso nso rso r oc t nc y rc A W:=
 ⟨h.hol,h.hnl,h.hrl,h.hs,h.hp,h.hM.below o,h.hz,h.hu,h.hT.below o h.hT.lt,(o.cell (World.block_lt_of_cell? w _ h.hF)).trans h.hF,h.hPw.below o⟩
structure MaI (rs:List Rr) (T:ByteArray) (rule at':Nat) (e1:Option Nat) (c:Nat) (x:Int) (N':Nt):Prop where
 hx:(pgG rs).1[rule]? =some x
 mt:∃n,(∃hr:rule<rs.length,Mt (bdQ rs) T (.one rs[rule].2.1) at' e1 n)/\c<=n
 c1:c<=(pgG rs).2.length*(T.size+1)
 c2:1<=c
 yes:∀mo,c<=mo->∃q,Mch (pgG rs).2 (pgG rs).1 T mo N0 0 [] (.beg x at') (some (e1,c,N')) q
 no:∀mo,mo<c->∃q,Mch (pgG rs).2 (pgG rs).1 T mo N0 0 [] (.beg x at') none q
theorem z8n{rs:List Rr}(h:Snd rs)(T:ByteArray){rule at':Nat}(y:rule<rs.length)(ha:at'<=T.size):∃o c x t,MaI rs T rule at' o c x t:=by
 obtain⟨o,n,t,c,r,D,E,V,G,I,U,A⟩:=y8G h T rule at' y ha;exact⟨o,c,r,t,E,⟨n,⟨y,D⟩,G⟩,I,U,fun mo h=>(A mo).1 h,fun mo h=>(A mo).2 h⟩
theorem PgV.match{rs:List Rr}{t y A:Nat}{E:Addr}(h:PgV rs oso nso rso t oc y nc A rc E w){rule at':Nat}{I:Option Nat}{x:Int}{Z:Nt}(D:MaI rs T rule at' I c x Z)(U:rule<rs.length)(ha:at'<=T.size)(V:T.size<=4096)(mo:Nat)(Y:mo<=1048576):
  Calls prog 10 #[.agg #[.slice oso t oc,.slice nso y nc,.slice rso A rc],.int .i64 rule,.string T,.int .i64 at',.int .i64 mo] w fun e w'=>((c<=mo/\e=.returned (.tuple #[.int .i64 (enE I),.int .i64 c,.nilIface]))∨(mo<c/\e=.returned (.tuple #[.int .i64 0,.int .i64 0,.iface 36 (.int .i64 50)])))/\Below w.heap.size w w':=by
 rcases Nat.lt_or_ge mo c with o|o
 ·obtain⟨q,G⟩:=D.no mo o
  exact(Ov rs oso nso rso t oc y nc A rc E w h.hol h.hnl h.hrl h.hs h.hp h.hM h.hz h.hu h.hT h.hF h.hPw T rule at' mo U ha Y V x D.hx none q G).mono fun e w' r=>⟨.inr ⟨o,r.1⟩,r.2⟩
 ·obtain⟨q,G⟩:=D.yes mo o
  exact(Ov rs oso nso rso t oc y nc A rc E w h.hol h.hnl h.hrl h.hs h.hp h.hM h.hz h.hu h.hT h.hF h.hPw T rule at' mo U ha Y V x D.hx _ q G).mono fun e w' r=>⟨.inl ⟨o,r.1⟩,r.2⟩
def Jl(ops:List Ox)(ro:List Int)(T:ByteArray)(mo:Nat):Nat->Nt->Nat->List Wq->Mde->Option (Option Nat×Nat)
 |0,_,_,_,_=>none
 |n+1,N,c,S,.beg k i=>match N k i with
  |some e=>Jl ops ro T mo n N c S (.ret e)
  |none=>if c=mo then none else match ops[k.toNat]? with
   |none=>none
   |some o=>match o.2.2.2 with
    |[]=>Jl ops ro T mo n (Zv N k i (aln T o i)) (c+1) S (.ret (aln T o i))
    |_::_=>Jl ops ro T mo n N (c+1) ((k,i,0,i)::S) (.beg (prt ro o 0) i)
 |n+1,N,c,[],.ret e=>some (e,c)
 |n+1,N,c,w::S,.ret e=>match ops[w.1.toNat]? with
  |none=>none
  |some o=>match nxt o w e with
   |some w'=>Jl ops ro T mo n N c (w'::S) (.beg (prt ro o w'.2.2.1) w'.2.2.2)
   |none=>Jl ops ro T mo n (Zv N w.1 w.2.1 (otc o w e)) c S (.ret (otc o w e))
theorem Nc{ops:List Ox}{ro:List Int}{T:ByteArray}{mo:Nat}:∀(n:Nat) (N:Nt) (c:Nat) (S:List Wq) (m:Mde) (e:Option Nat) (y:Nat),Jl ops ro T mo n N c S m=some (e,y)->∃r q,Mch ops ro T mo N c S m (some (e,y,r)) q
 |0,_,_,_,_,_,_,h=>by rw[Jl]at h;cases h
 |n+1,N,c,S,.beg k i,e,y,h=>by
  rw[Jl]at h;cases hN:N k i with
  |some e0=>
   rw[hN]at h;obtain⟨r,q,t⟩:=Nc n _ _ _ _ _ _ h;exact⟨r,_,.noted hN t⟩
  |none=>
   rw[hN]at h;dsimp only at h;split at h
   ·cases h
   ·rename_i A
    cases ho:ops[k.toNat]? with
    |none=>rw[ho]at h;cases h
    |some o=>
     rw[ho]at h;dsimp only at h;cases hs:o.2.2.2 with
     |nil=>
      rw[hs]at h;obtain⟨r,q,t⟩:=Nc n _ _ _ _ _ _ h;exact⟨r,_,.leaf hN A ho hs t⟩
     |cons a b=>
      rw[hs]at h;obtain⟨r,q,t⟩:=Nc n _ _ _ _ _ _ h;exact⟨r,_,.push hN A ho (by rw[hs];simp) t⟩
 |n+1,N,c,[],.ret e0,e,y,h=>by
  rw[Jl]at h;cases h;exact⟨N,_,.done⟩
 |n+1,N,c,w::S,.ret e0,e,y,h=>by
  rw[Jl]at h;cases ho:ops[w.1.toNat]? with
  |none=>rw[ho]at h;cases h
  |some o=>
   rw[ho]at h;dsimp only at h;cases hx:nxt o w e0 with
   |some w'=>
    rw[hx]at h;obtain⟨r,q,t⟩:=Nc n _ _ _ _ _ _ h;exact⟨r,_,.next ho hx t⟩
   |none=>
    rw[hx]at h;obtain⟨r,q,t⟩:=Nc n _ _ _ _ _ _ h;exact⟨r,_,.pop ho hx t⟩
@[reducible] def smL:ByteArray:={data:=#[97,32,60,45,32,39,120,39,32,97,32,47,32,39,121,39]}
@[reducible] def Ow:ByteArray:={data:=#[120,120,121]}
theorem y8H:∀p,p<16->bt smL p≠some 91:=by decide
theorem y8I(p:Nat):bt smL p≠some 91:=fun h=>y8H p (Qp h).1 h
def z8o(x:Nat):Bool:=match Vb smL with
 | .inr rs=>decide (sz (pR qT cT rs)<=8192)&&(decide (dR rs<=24)&&(decide (ckR (toG rs)=none)&&((toG rs).all (fun x=>decide (ofT (itr (toG rs) 6) x.2.1=itr (toG rs) 6 x.1))&&(decide (flG (itr (toG rs) 6) (toG rs)=none)&&(decide ((toG rs).map (fun x=>(fbT (itr (toG rs) 6) x.2.1).map fun s=>fdI s (nmL (toG rs)))=[[]])&&(decide ((pgG (toG rs)).1=[4])&&(decide (Jl (pgG (toG rs)).2 (pgG (toG rs)).1 Ow 100 200 N0 0 [] (.beg 4 0)=some (some 3,12))&&decide ((pgG (toG rs)).2.length<=200))))))))
 | .inl _=>false
theorem y8J:∀x,x<1->z8o x=true:=by decide+kernel
theorem y8K:∃rs,Vb smL=.inr rs/\sz (pR qT cT rs)<=8192/\dR rs<=24/\ckR (toG rs)=none/\soZ (toG rs) none=none/\(toG rs).length=1/\(pgG (toG rs)).1=[4]/\(pgG (toG rs)).2.length<=200/\∃D q,Mch (pgG (toG rs)).2 (pgG (toG rs)).1 Ow 100 N0 0 [] (.beg 4 0) (some (some 3,12,D)) q:=by
 have h:=y8J 0 (by decide);unfold z8o at h;cases hp:Vb smL with
 |inl c=>rw[hp]at h;cases h
 |inr rs=>
  rw[hp]at h;simp only[Bool.and_eq_true,decide_eq_true_eq]at h;obtain⟨E,G,I,U,y,t,V,Y,Z⟩:=h;have hf:Xy (itr (toG rs) 6) (toG rs):=fun x hx=>by simpa using List.all_eq_true.1 U x hx
  have aa:(toG rs).length=1:=by have:=congrArg List.length t;simpa using this
  rw[z0s hf]at y t;refine⟨rs,rfl,E,G,I,?_,aa,V,Z,Nc _ _ _ _ _ _ _ Y⟩;have hb:∀i,i<(toG rs).length->¬Bck (bgU (toG rs)) i:=fun i _=>y6u (fun i x hx=>by
   rw[List.getD_eq_getElem?_getD]at hx;unfold bgU at hx;rcases Nat.lt_or_ge i (toG rs).length with r|r
   ·rw[List.getElem?_map,List.getElem?_eq_getElem r]at hx
    have hx:(x:Int)∈bgR (toG rs) (kG (toG rs)) (toG rs)[i]:=hx;obtain⟨s,hs,e⟩:=z0n.1 hx;have A:(x:Int)∈(fbT (kG (toG rs)) (toG rs)[i].2.1).map (fun s=>fdI s (nmL (toG rs))):=List.mem_map.2 ⟨s,hs,e⟩;have o:=congrArg (fun l=>l[i]?) t;simp only[List.getElem?_map,List.getElem?_eq_getElem r,Option.map_some]at o;obtain rfl:i=0:=by omega
    rw[show([[]]:List (List Int))[0]? =some []from rfl]at o;have o:=Option.some.inj o;rw[o]at A;simp at A
   ·rw[List.getElem?_eq_none (by simpa using r)]at hx
    simp at hx) i
  unfold soZ flX;simp only;rw[y,z6b hb];rfl
theorem y8L{S:ByteArray}{rs:List Rl}(hS:S.size<=8192)(U:Vb S=.inr rs)(V:sz (pR qT cT rs)<=8192)(Y:dR rs<=24)(aa:ckR (toG rs)=none)(hZ:soZ (toG rs) none=none)(hl:(pgG (toG rs)).2.length<=200)(B g n o:Nat)(G:Addr)(W:World)(hr:RoR B (.slice (some ⟨g,0,none⟩) n o) rs W)(r:TabIs W)(I:W.cell? ⟨1,0,none⟩=some (.iface 363 (.pointer (some G))))(Z:Xp W):
  Calls prog 15 #[.agg #[.slice (some ⟨g,0,none⟩) n o]] W fun e w'=>∃oso t oc nso A nc rso D rc,e=.returned (.tuple #[.agg #[.slice oso t oc,.slice nso A nc,.slice rso D rc],.nilIface])/\Hid (Below W.heap.size W w')/\Hid (PgV (toG rs) oso nso rso t oc A nc D rc G w'):=by
 obtain⟨hi,hz,hX,hC⟩:=y2T hS U V Y B g n o W hr r;have e0:xOf (toG rs)=none:=by unfold xOf;rw[aa];rfl
 rw[e0]at hX hC;have hU:RgU (toG rs):=fun x hx=>by
  obtain⟨y,_,rfl⟩:=List.mem_map.1 hx;exact z6A y.2.1
 refine(z0W _ n o (toG rs) none W.heap.size G W hX (fun _=>y6s U V Y) hC hz hU hi L0q r I Z W B0q).mono ?_;rintro e w' ⟨oso,t,oc,nso,A,nc,rso,D,rc,ev,rfl,E,⟨tt,uu,rfl,_,_,_,_,_,_,_,_,_,h|h⟩|⟨rfl,H⟩⟩
 ·exact absurd hZ h
 ·omega
 ·obtain⟨a,b,c,_,d,e,f⟩:=H.out
  exact⟨oso,t,oc,nso,A,nc,rso,D,rc,rfl,E,hid ⟨a,b,c,d,e,f,hz,hU,r.below E.out r.lt,(E.out.cell (World.block_lt_of_cell? W _ I)).trans I,Z.below E.out⟩⟩
theorem y8M(n:Nat)(rs:List Rl)(w:World)
  (ac:Hid (Calls prog 17 #[.string smL] w fun e w'=>∃g h,e=.returned (.tuple #[.agg #[.slice (some ⟨g,0,none⟩) n h],.nilIface])/\Hid (RoR w.heap.size (.slice (some ⟨g,0,none⟩) n h) rs w')/\Hid (Below w.heap.size w w')))
  (HM:Hid (∀(g h:Nat) (W:World),RoR w.heap.size (.slice (some ⟨g,0,none⟩) n h) rs W->Below w.heap.size w W->Calls prog 15 #[.agg #[.slice (some ⟨g,0,none⟩) n h]] W fun e w'=>∃oso o oc nso r nc rso t rc,e=.returned (.tuple #[.agg #[.slice oso o oc,.slice nso r nc,.slice rso t rc],.nilIface])/\Hid (Below W.heap.size W w')/\
    Hid (∀y:World,Below w'.heap.size w' y->Calls prog 10 #[.agg #[.slice oso o oc,.slice nso r nc,.slice rso t rc],.int .i64 0,.string Ow,.int .i64 0,.int .i64 100] y fun e w3=>e=.returned (.tuple #[.int .i64 3,.int .i64 12,.nilIface])/\Below y.heap.size y w3))):
  Calls prog 8 #[] w fun e w'=>e=.returned (.bool true)/\Hid (Below w.heap.size w w'):=by
 go_enter func8,ntmps8
 go_wp2_with fail
 refine ac.out.mono ?_;rintro e A ⟨g,h,rfl,ad,HB⟩;obtain⟨D,U⟩:∃D,D=A.alloc (.cells #[.slice (some ⟨g,0,none⟩) n h] 43):=⟨_,rfl⟩;have V:Below A.heap.size A D:=by rw[U];exact(Below.refl _ A).alloc L0q _
 have E:=hid (HB.out.trans (V.mono HB.out.size));have ae:=hid (HM.out g h D (ad.out.below V) E.out);have af:=hid U;clear ac ad V U HM
 go_wp2_with fail
 rw[<-af.out];refine ae.out.mono ?_;rintro e G ⟨oso,o,oc,nso,r,nc,rso,t,rc,rfl,Y,ag⟩;obtain⟨I,Z⟩:∃I,I=G.alloc (.cells #[.slice oso o oc,.slice nso r nc,.slice rso t rc] 26):=⟨_,rfl⟩;have aa:Below G.heap.size G I:=by rw[Z];exact(Below.refl _ G).alloc L0q _
 have ah:=hid (ag.out I aa);have ab:=hid (E.out.trans ((Y.out.trans (aa.mono Y.out.size)).mono E.out.size));have ai:=hid Z;clear ae af ag aa Z Y E
 go_wp2_with fail
 rw[<-ai.out];refine ah.out.mono ?_;rintro e w3 ⟨rfl,aj⟩;have ak:=hid (ab.out.trans (aj.mono ab.out.size));clear aj ah ab ai
 go_wp2_with fail
 go_ret;exact⟨rfl,ak⟩
theorem z1h(r:Addr)(w:World)(h:Yg w)(A:TabIs w)(D:w.cell? ⟨1,0,none⟩=some (.iface 363 (.pointer (some r))))(V:Xp w):Calls prog 8 #[] w fun e w'=>e=.returned (.bool true)/\Hid (Below w.heap.size w w'):=by
 obtain⟨rs,E,Y,Z,aa,hZ,hl,p1,ab,N',q,hq⟩:=y8K;have y:=y6r smL rs w (by decide) y8I E;unfold Nz at y;simp only at y;have ac:∀{W:World},Below w.heap.size w W->W.cell? ⟨1,0,none⟩=some (.iface 363 (.pointer (some r))):=fun o=>(o.cell (p:=⟨1,0,none⟩) (World.block_lt_of_cell? w _ D)).trans D
 refine y8M rs.length rs w (hid y) (hid fun g ad W hr o=> ?_);refine(y8L (by decide) E Y Z aa hZ ab _ g rs.length ad r W hr (A.below o A.lt) (ac o) (V.below o)).mono fun e w' t=> ?_
 obtain⟨oso,G,oc,nso,I,nc,rso,U,rc,rfl,HB,HP⟩:=t;refine⟨oso,G,oc,nso,I,nc,rso,U,rc,rfl,HB,hid fun W2 ae=> ?_⟩;have P:=HP.out.below ae;exact(Ov (toG rs) oso nso rso G oc I nc U rc r W2 P.hol P.hnl P.hrl P.hs P.hp P.hM P.hz P.hu P.hT P.hF P.hPw Ow 0 0 100 (by rw[hl];decide) (Nat.zero_le _) (by decide) (by decide) 4 (by rw[p1];rfl) _ q hq).mono fun e w3 t=>⟨t.1,t.2⟩
theorem z1i(A:Option Addr)(n D:Nat)(rs:List Rr)(X:Option (Int ⊕ (Int×Int)))(E:Addr)(w:World)(hX:CkX rs X)(hP:X=none->PrG rs)(hC:CkC A n D rs X w)(hz:RgZ rs)(hu:RgU rs)(h:Qf w w.heap.size A n rs)(G:TabIs w)(I:w.cell? ⟨1,0,none⟩=some (.iface 363 (.pointer (some E))))(aa:Xp w)(W:World)(U:Below w.heap.size w W):
  Calls prog 15 #[.agg #[.slice A n D]] W fun e w'=>∃oso o oc nso r nc rso t rc y,e=.returned (.tuple #[.agg #[.slice oso o oc,.slice nso r nc,.slice rso t rc],y])/\Hid (Below W.heap.size W w')/\((∃V Y,y=.iface V Y/\oso=none/\o=0/\oc=0/\nso=none/\r=0/\nc=0/\rso=none/\t=0/\rc=0)∨(y=.nilIface/\Hid (PgV rs oso nso rso o oc r nc t rc E w'))):=by
 refine(z0W A n D rs X w.heap.size E w hX hP hC hz hu h L0q G I aa W U).mono ?_;rintro e w' ⟨oso,o,oc,nso,r,nc,rso,t,rc,y,rfl,Z,⟨V,Y,h1,h2,h3,h4,h5,h6,h7,h8,h9,ab,_⟩|⟨h1,H⟩⟩
 ·exact⟨oso,o,oc,nso,r,nc,rso,t,rc,y,rfl,Z,.inl ⟨V,Y,h1,h2,h3,h4,h5,h6,h7,h8,h9,ab⟩⟩
 ·obtain⟨a,b,c,_,d,e,f⟩:=H.out
  have hb:Below w.heap.size w w':=U.trans (Z.out.mono U.size);exact⟨oso,o,oc,nso,r,nc,rso,t,rc,y,rfl,Z,.inr ⟨h1,hid ⟨a,b,c,d,e,f,hz,hu,G.below hb G.lt,(hb.cell (World.block_lt_of_cell? w _ I)).trans I,aa.below hb⟩⟩⟩
theorem y8N(A:Option Addr)(n G:Nat)(rs:List Rr)(V:Addr)(T:ByteArray)(w:World)(hE:Yg w)(I:TabIs w)(Y:w.cell? ⟨1,0,none⟩=some (.iface 363 (.pointer (some V))))(ae:Xp w)(hz:RgZ rs)(hu:RgU rs)(h:Qf w w.heap.size A n rs):
  Calls prog 5 #[.agg #[.slice A n G],.string T] w fun e w'=>e=.returned (.bool true)/\Below w.heap.size w w':=by
 obtain⟨X,hX,ap,hC⟩:=If A n G rs w.heap.size w hz hu h L0q I;obtain⟨D,Z⟩:∃D,D=w.alloc (.cells #[.slice A n G] 43):=⟨_,rfl⟩;have y:Below w.heap.size w D:=by rw[Z];exact(Below.refl _ w).alloc L0q _
 have gu:D.heap[w.heap.size]? =some (.cells #[.slice A n G] 43):=by rw[Z];exact Qx w _ rfl
 have aq:1<w.heap.size:=World.block_lt_of_cell? w _ Y;have ar:Hid (∀W:World,Below w.heap.size w W->W.cell? ⟨1,0,none⟩=some (.iface 363 (.pointer (some V)))):=hid fun W hb=>(hb.cell (p:=⟨1,0,none⟩) aq).trans Y
 have HS:=hid (z1h V D (hE.below y hE.lt) (I.below y I.lt) (ar.out D y) (ae.below y));have au:=hid (fun(W:World) (hb:Below w.heap.size w W)=>z1i A n G rs X V w hX ap hC hz hu h I Y ae W hb);have aF:Hid (n=rs.length):=h.1;clear hE I hz hu h hC hX ap Y ae aq ar;go_enter func5,ntmps5
 go_wp2_with fail
 rw[<-Z];refine HS.out.mono ?_;rintro e w1 ⟨rfl,af⟩;have ag:=hid (y.trans (af.out.mono y.size));have aa:=hid ((af.out.block _ (Qq gu)).trans gu);obtain⟨x1,f1⟩:=Qw aa.out;clear HS af Z y gu
 go_wp2_with fail
 refine(au.out w1 ag.out).mono ?_;rintro e t ⟨oso,o,oc,nso,nl,nc,rso,rl,rc,ev,rfl,ah,aG⟩;have ai:Below t.heap.size t (t.alloc (.cells #[.slice oso o oc,.slice nso nl nc,.slice rso rl rc] 26)):=(Below.refl _ t).alloc L0q _;have ab:Below w1.heap.size w1 (t.alloc (.cells #[.slice oso o oc,.slice nso nl nc,.slice rso rl rc] 26)):=ah.out.trans (ai.mono ah.out.size);have U:=hid (ag.out.trans (ab.mono ag.out.size));clear x1 f1;rcases aG with⟨te,ue,rfl,rfl,rfl,rfl,rfl,rfl,rfl,rfl,rfl,rfl⟩|⟨rfl,r⟩
 ·go_wp2_with fail
  go_ret;exact⟨rfl,U.out⟩
 have r:=hid (r.out.below ai);have ac:=hid (Qx t (.cells #[.slice oso o oc,.slice nso nl nc,.slice rso rl rc] 26) rfl);obtain⟨pB,aj⟩:∃pB,pB=t.heap.size:=⟨_,rfl⟩;obtain⟨w2,ak⟩:∃w2,w2=t.alloc (.cells #[.slice oso o oc,.slice nso nl nc,.slice rso rl rc] 26):=⟨_,rfl⟩;rw[<-ak]at ab r ac U;rw[<-aj]at ac;have av:=hid ((ab.block _ (Qq aa.out)).trans aa.out);have al:=hid ak;have aw:=hid aj;clear au ab ai aa ah ak aj;by_cases hl:500<T.size
 ·have a0:decide (500<T.size)=true:=by simpa using hl
  have a1:(500:Int)<(T.size:Int):=by omega
  go_wp2_with fail
  rw[<-al.out];go_ret;exact⟨rfl,U.out⟩
 have a0:decide (500<T.size)=false:=by simpa using hl
 have a1:¬(500:Int)<(T.size:Int):=by omega
 go_wp2_with fail
 rw[<-al.out,<-aw.out];clear al aw
 go_loopw [8] (fun i wr=>∃j:Nat,i=.int .i64 j/\j<=n/\Hid (Below w2.heap.size w2 wr)) (fun i _=>n-(intOf i).toNat)
 case atStart=>exact⟨0,rfl,Nat.zero_le _,hid B0q⟩
 case round=>
  obtain⟨j,rfl,hj,E⟩:=hrel;have ax:=hid ((E.out.block _ (Qq av.out)).trans av.out);have ad:=hid ((E.out.block _ (Qq ac.out)).trans ac.out);obtain⟨y0,yf⟩:=Qw ax.out;obtain⟨p0,p1,p2,_⟩:=Uy ad.out;have ly:=Qq ax.out;have lp:=Qq ad.out;by_cases hjn:j<n
  ·have aJ:(j:Int)<(n:Int):=by omega
   have b0:decide ((j:Int)<(n:Int))=true:=by simp;omega
   have ay:j<rs.length:=by rw[<-aF.out];exact hjn
   obtain⟨e1,c,x,N',hm⟩:=z8n r.out.hs T (rule:=j) (at':=0) ay (Nat.zero_le _);have az:o<=200:=by rw[r.out.hol];exact r.out.hM.l2
   have aA:c<=o*(T.size+1):=by rw[r.out.hol];exact hm.c1
   have aB:o*(T.size+1)<=200*501:=Nat.mul_le_mul az (by omega);obtain⟨mo,am⟩:∃mo,mo=o*(T.size+1):=⟨_,rfl⟩;rw[<-am]at aA aB;have aK:IntKind.i64.wrap ((o:Int)*((T.size:Int)+1))=(mo:Int):=by
    have e:(o:Int)*((T.size:Int)+1)=(mo:Int):=by rw[am];simp
    rw[e,IntKind.wrap_i64];omega
   have aL:IntKind.i64.wrap ((T.size:Int)+1)=(T.size:Int)+1:=by rw[IntKind.wrap_i64];omega
   have aC:=hid ((r.out.below E.out).match hm ay (Nat.zero_le _) (by omega) mo (by omega));have aD:¬mo<c:=by omega
   have aM:¬(mo:Int)<(c:Int):=by omega
   have aN:(j:Int)<=9223372036854775806:=by have:=r.out.hs.len;omega
   have d0:decide (mo<c)=false:=by simpa using aD
   have aO:IntKind.i64.wrap ((j:Int)+1)=(j:Int)+1:=by rw[IntKind.wrap_i64];omega
   clear hm am aB az aA
   go_wp2_with fail
   refine aC.out.mono ?_;rintro e wz ⟨⟨_,rfl⟩|⟨aH,_⟩,ao⟩
   rotate_left
   ·exact absurd aH aD
   have aI:=hid (E.out.trans (ao.mono E.out.size));have aE:=hid ((ao.block _ (Qq ad.out)).trans ad.out);obtain⟨r0,r1,r2,_⟩:=Uy aE.out;have lz:=Qq aE.out;clear aC ao y0 yf p0 p1 p2
   go_wp2_with fail
   refine⟨⟨j+1,by go_num,by omega,aI⟩,?_⟩;simp[intOf];omega
  ·have b0:decide ((j:Int)<(n:Int))=false:=by simp;omega
   go_wp2_with fail
   go_ret;exact⟨rfl,U.out.trans (E.out.mono U.out.size)⟩
end Go.Proofs.YtgnkkgcgbeianaaGreatDoor
