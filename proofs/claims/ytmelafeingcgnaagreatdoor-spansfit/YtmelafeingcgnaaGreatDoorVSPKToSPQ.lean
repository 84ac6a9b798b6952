/- Lemmas for the last text. Conditions: those that each names. -/
import Derived.Test.YtmelafeingcgnaaGreatDoorVSPEToSPJ
import Derived.Test.YtmelafeingcgnaaGreatDoorVU15ToT11
set_option linter.unusedVariables false
set_option maxRecDepth 100000
set_option maxHeartbeats 32000000
namespace Go.Proofs.YtmelafeingcgnaaGreatDoor
open Go.Proofs.Tryz
open Go.RowKit Go.Shelf Go.Maps
variable {a b d:Value} {mo nc oc rc:Nat} {w:World} {c:Int} {nso oso rso:Option Addr}
theorem z6A{T:zA}{E:Int}(A:Hid (∀W:World,zB w W->Calls prog 20 #[.agg #[a,b,d],zI 0,zT T,zI 0,zI mo] W (zR W (.tuple #[zI E,zI c,.nilIface])))):
  Calls prog 21 #[.agg #[a,b,d],zT T,zI mo] w fun e w'=>e=.returned (.tuple #[.bool (E == (T.size:Int)),zI c,.nilIface])/\zB w w':=by
 obtain⟨h,o⟩:∃h,h=w.alloc (.cells #[a,b,d] 26):=⟨_,rfl⟩;have r:zB w h:=by rw[o];exact(Below.refl _ w).alloc L0q _
 have D:=hid (A.out h r);have G:=hid o;have y:=hid r;clear o r A;go_enter func21,ntmps21
 go_wp2_with fail
 rw[<-G.out];refine D.out.mono ?_;rintro e Y ⟨rfl,U⟩;have V:=hid (y.out.trans (U.mono y.out.size));clear U D G y
 go_wp2_with fail
 refine bodyPost_ret (v:=.tuple #[.bool (E == (T.size:Int)),zI c,.nilIface]) (by simp[results,Tryz.results21,go_sem]) rfl ?_;exact⟨rfl,V.out⟩
theorem z6B{T:zA}{E:Int}{o:TypeId}{r:Value}(G:Hid (∀W:World,zB w W->Calls prog 20 #[.agg #[a,b,d],zI 0,zT T,zI 0,zI mo] W (zR W (.tuple #[zI E,zI c,.iface o r])))):
  Calls prog 21 #[.agg #[a,b,d],zT T,zI mo] w fun e w'=>e=.returned (.tuple #[.bool false,zI 0,.iface o r])/\zB w w':=by
 obtain⟨h,y⟩:∃h,h=w.alloc (.cells #[a,b,d] 26):=⟨_,rfl⟩;have A:zB w h:=by rw[y];exact(Below.refl _ w).alloc L0q _
 have U:=hid (G.out h A);have V:=hid y;have D:=hid A;clear y A G;go_enter func21,ntmps21
 go_wp2_with fail
 rw[<-V.out];refine U.out.mono ?_;rintro e w2 ⟨rfl,Y⟩;have Z:=hid (D.out.trans (Y.mono D.out.size));clear Y U V D
 go_wp2_with fail
 refine bodyPost_ret (v:=.tuple #[.bool false,zI 0,.iface o r]) (by simp[results,Tryz.results21,go_sem]) rfl ?_;exact⟨rfl,Z.out⟩
theorem y6z{b o e size n:Nat}{v:Value}{xs:List Value}(h:w.ownsRow b e size v n xs)(E:o<=b):w.ownsRow o e size v n xs:=by
 obtain⟨r,h|⟨g,y,A,D,G,rest⟩⟩:=h
 ·exact⟨r,.inl h⟩
 ·exact⟨r,.inr ⟨g,y,A,D,by omega,rest⟩⟩
theorem z6C{T:zA}{o:TypeId}{r:Value}(E:Hid (∀W:World,zB w W->Calls prog 21 #[.agg #[a,b,d],zT T,zI mo] W (zR W (.tuple #[.bool false,zI c,.iface o r])))):
  Calls prog 10 #[.agg #[a,b,d],zT T,zI mo] w fun e w'=>e=.returned (.tuple #[.slice none 0 0,.bool false,.iface o r])/\zB w w':=by
 obtain⟨h,y⟩:∃h,h=w.alloc (.cells #[a,b,d] 26):=⟨_,rfl⟩;have A:zB w h:=by rw[y];exact(Below.refl _ w).alloc L0q _
 have G:=hid (E.out h A);have U:=hid y;have D:=hid A;clear y A E;go_enter func10,ntmps10
 go_wp2_with fail
 rw[<-U.out];refine G.out.mono ?_;rintro e Z ⟨rfl,V⟩;have Y:=hid (D.out.trans (V.mono D.out.size));clear V G U D
 go_wp2_with fail
 refine bodyPost_ret (v:=.tuple #[.slice none 0 0,.bool false,.iface o r]) (by simp[results,Tryz.results10,go_sem]) rfl ?_;exact⟨rfl,Y.out⟩
theorem y6A{T:zA}(A:Hid (∀W:World,zB w W->Calls prog 21 #[.agg #[a,b,d],zT T,zI mo] W (zR W (.tuple #[.bool false,zI c,.nilIface])))):
  Calls prog 10 #[.agg #[a,b,d],zT T,zI mo] w fun e w'=>e=.returned (.tuple #[.slice none 0 0,.bool false,.nilIface])/\zB w w':=by
 obtain⟨h,o⟩:∃h,h=w.alloc (.cells #[a,b,d] 26):=⟨_,rfl⟩;have r:zB w h:=by rw[o];exact(Below.refl _ w).alloc L0q _
 have D:=hid (A.out h r);have E:=hid o;have y:=hid r;clear o r A;go_enter func10,ntmps10
 go_wp2_with fail
 rw[<-E.out];refine D.out.mono ?_;rintro e V ⟨rfl,G⟩;have U:=hid (y.out.trans (G.mono y.out.size));clear G D E y
 go_wp2_with fail
 refine bodyPost_ret (v:=.tuple #[.slice none 0 0,.bool false,.nilIface]) (by simp[results,Tryz.results10,go_sem]) rfl ?_;exact⟨rfl,U.out⟩
def TrQ(w:World)(r:Option (List Sp4))(e:Ending)(w':World):Prop:=zB w w'/\match r with
 |none=>e=.returned (.tuple #[.slice none 0 0,.bool false,.iface 34 (zI 50)])
 |some ts=>∃tv,e=.returned (.tuple #[tv,.bool true,.nilIface])/\w'.ownsRow w.heap.size 40 4 tv ts.length (sp4 ts)
theorem z6D{ops:List Ox}{ns:List ByteArray}{ro:List Int}{T:zA}{c0:Int}(HM:Hid (∀W:World,zB w W->Calls prog 21 #[.agg #[.slice oso ops.length oc,.slice nso ns.length nc,.slice rso ro.length rc],zT T,zI mo] W (zR W (.tuple #[.bool true,zI c0,.nilIface]))))(aB:mo<=1048576)(hT:T.size<=4096)(ad:PgM ops ns ro oso nso rso w)(Y:OpW ops ro)(Z:0<ro.length)(o:Nat)(ae:ro[0]=(o:Int))(af:o<ops.length)(e1:Option Nat)(c:Nat)(N:Nt)(q:Nat)(hq:Mch ops ro T mo N0 0 [] (.beg (o:Int) 0) (some (e1,c,N)) q)(l:List (Int×Nat))(hl:Vz ops N (.nd (o:Int)) 0 l)(r:Option (List Sp4))(hR:TlR ops ro T N [((0:Int),(0:Int),ndE (N o 0),(0:Int))] [l.take 4096] (1+(l.take 4096).length) r):
  Calls prog 10 #[.agg #[.slice oso ops.length oc,.slice nso ns.length nc,.slice rso ro.length rc],zT T,zI mo] w (TrQ w r):=by
 obtain⟨E,aa⟩:∃E,E=w.alloc (.cells #[.slice oso ops.length oc,.slice nso ns.length nc,.slice rso ro.length rc] 26):=⟨_,rfl⟩;have ag:zB w E:=by rw[aa];exact(Below.refl _ w).alloc L0q _
 have am:E.heap[w.heap.size]? =some (.cells #[.slice oso ops.length oc,.slice nso ns.length nc,.slice rso ro.length rc] 26):=by rw[aa];exact Qx w _ rfl
 have HC:=hid (HM.out E ag);have ao:=hid aa;have ah:=hid ag;have ai:=hid am;have aC:=hid ad;have aJ:=hid Y;have ap:=hid (fun(W:World) (hP:PgM ops ns ro oso nso rso W)=>z6n (oc:=oc) (nc:=nc) (rc:=rc) 0 (Nat.zero_le T.size) aB hT hP Y o af _ q hq);have aK:=hid hl;have HR:=hid hR;have aL:=hid (And.intro hT (And.intro af Z));have aM:=hid ae;have aq:=hid (fun(w1 wk:World) (M NB:Nat) (v:Value) (mt:MtM ops ns ro T mo oso nso rso oc nc rc M NB w1 N c [] v wk) (hN:∀k i e,N k i=some (some e)->e<=T.size) (t:Nat) (aD:wk.heap.size<=t) (W:World) (hb:zB wk W) (aE:zH W t (tlO ops.length oc ns.length nc ro.length rc oso nso rso M (.slice none 0 0) (.slice none 0 0) 0))=>y6y mt hT hN Y aD hb aE Z o ae af l hl r hR);clear aa ag HM am Y hq hl hR;obtain⟨A,rfl,aN,-⟩:=ad.r 0 Z;clear ad;go_enter func10,ntmps10
 go_wp2_with fail
 rw[<-ao.out];refine HC.out.mono ?_;rintro e D ⟨rfl,aj⟩;have ab:=hid (ah.out.trans (aj.mono ah.out.size));have G:=(aj.block _ (Qq ai.out)).trans ai.out;have aF:=hid G;clear aj HC ao ah ai;have p2:=aC.out.below ab.out;obtain⟨aG,U,-,ak⟩:=p2.r 0 Z;have U:A=aG:=by injection U with U;injection U
 subst U;rw[ae]at ak;have HS:Hid (zC D.drew w.heap.size 0 (.slice oso ops.length oc)/\zC D.drew w.heap.size 1 (.slice nso ns.length nc)/\zC D.drew w.heap.size 2 (zS A ro.length rc)/\zC D.drew A 0 (zI (o:Int))):=⟨(Qj G 0 _ rfl).1,(Qj G 1 _ rfl).1,(Qj G 2 _ rfl).1,ak⟩;have ar:=hid (ap.out D.drew (p2.below (Below.refl _ D).drew));have aO:(0:Int)<(ro.length:Int):=by omega
 clear G p2 ak ap
 go_wp2_with fail
 refine Qc 99 (fun X:World=>zC X w.heap.size 0 (.slice oso ops.length oc)/\zC X w.heap.size 1 (.slice nso ns.length nc)/\zC X w.heap.size 2 (zS A ro.length rc)/\zC X A 0 (zI (o:Int))) (by kernel_rfl) HS.out (fun h=> ?_);refine Qz 0 h ?_;refine Qz 1 h ?_;refine Qz 2 h ?_;refine Qz 3 h ?_;refine Qz 4 h ?_;refine Qz 5 h ?_;refine Qz 6 h ?_
 (refine Qv 7 (fun K hK=> ?_);go_simp;refine ar.out.mono ?_;rintro e y ⟨M,NB,pv,ev,rfl,al,H3⟩;obtain⟨rfl,rfl,hN,wx,v,aH,mt⟩:=H3.out;clear H3;go_simp;replace h:=z0i h al;have au:=hid al;clear al;refine hK.out _ _ h ?_;clear hK K)
 (try simp only[Act.put,zY])
 refine Qz 8 h ?_;refine Qz 9 h ?_;refine Qz 10 h ?_;refine Qz 11 h ?_;refine Qz 12 h ?_;refine⟨by kernel_rfl,?_⟩;have av:=hid mt;have HN:=hid hN;have c0:=h.1;have c1:=h.2.1;have c2:=h.2.2.1;have l3:=World.block_lt_of_cell? y _ c0;have ac:Hid (zB w y):=ab.out.drew.trans (au.out.mono ab.out.drew.size);clear mt hN h ar HS au ab aF aH;obtain⟨V,hV⟩:∃V,V=y.alloc (.cells #[.slice oso ops.length oc,.slice nso ns.length nc,zS A ro.length rc,zP M 0,.slice none 0 0,.slice none 0 0,zI 0] 74):=⟨_,rfl⟩;have aw:zB y V:=by rw[hV];exact(Below.refl _ y).alloc L0q _
 have ax:=hid (aq.out wx y M NB v av.out HN.out y.heap.size L0q V aw (by rw[hV];exact Qx y _ rfl));have HV:=hid hV;clear hV aw aq av HN
 go_wp2_with fail
 rw[<-HV.out];refine ax.out.mono ?_;rintro e w4 ⟨ay,h4⟩;have az:zB w w4:=ac.out.trans (ay.mono ac.out.size);have aA:=hid az;have aI:=ac.out.size;clear ay az HV ax ac c0 c1 c2 l3;cases r with
 |none=>
  have h4:e=.returned (.tuple #[.slice none 0 0,.iface 34 (zI 50)]):=h4;subst h4
  go_wp2_with fail
  refine bodyPost_ret (v:=.tuple #[.slice none 0 0,.bool false,.iface 34 (zI 50)]) (by simp[results,Tryz.results10,go_sem]) rfl ?_;exact⟨aA.out,rfl⟩
 |some ts=>
  obtain⟨tv,rfl,ho⟩:=h4;have HO:=hid (y6z ho aI);clear ho
  go_wp2_with fail
  refine bodyPost_ret (v:=.tuple #[tv,.bool true,.nilIface]) (by simp[results,Tryz.results10,go_sem]) rfl ?_;exact⟨aA.out,_,rfl,HO.out⟩
theorem y6B{ops:List Ox}{N:Nt}(D:∀o∈ops,∀x∈o.2.2.2,0<=x){j:Jo}{i:Nat}{l:List (Int×Nat)}(h:Vz ops N j i l):(∀kd M A s,j=.wk kd M A s->∀x∈s,0<=x)->∀y∈l,0<=y.1:=by
 induction h with
 |nd h1 _ ih=>
  exact fun _=>ih fun kd M A s e=>by cases e;exact D _ (List.mem_of_getElem? h1)
 |none=>exact fun _ y r=>by cases r
 |ref=>exact fun h y r=>by rw[List.mem_singleton.1 r];exact h _ _ _ _ rfl _ (by simp)
 |seq _ ih=>exact fun _=>ih fun _ _ _ _ e=>by cases e
 |cho _ _ ih=>exact fun _=>ih fun _ _ _ _ e=>by cases e
 |rep _ _ ih=>exact fun _=>ih fun _ _ _ _ e=>by cases e
 |row_nil=>exact fun _ y r=>by cases r
 |row_on _ _ _ ih1 ih2=>exact fun _ y r=>(List.mem_append.1 r).elim (ih1 (fun _ _ _ _ e=>by cases e) y) (ih2 (fun _ _ _ _ e=>by cases e) y)
 |alt_nil=>exact fun _ y r=>by cases r
 |alt_ok _ _ ih=>exact fun _=>ih fun _ _ _ _ e=>by cases e
 |alt_no _ _ ih=>exact fun _=>ih fun _ _ _ _ e=>by cases e
 |rep_end=>exact fun _ y r=>by cases r
 |rep_on _ _ _ _ ih1 ih2=>exact fun _ y r=>(List.mem_append.1 r).elim (ih1 (fun _ _ _ _ e=>by cases e) y) (ih2 (fun _ _ _ _ e=>by cases e) y)
theorem Snd.goes{rs:List Rr}(h:Snd rs)(T:zA)(k kd:Int)(M:zA)(cl:Int×Int×Int×Int)(k':Int)(l:List Int)(D:(pgG rs).2[k.toNat]? =some (kd,M,cl,k'::l))(U:kd=9∨kd=10)(i x n:Nat)(hi:i<=T.size)(hM:Mo (pgG rs).2 (pgG rs).1 T (.nd k') i (some x) n):i<x:=by
 have hs:=h.src.1;obtain⟨t,E,V⟩:=hs.2 k.toNat (List.getElem?_eq_some_iff.1 D).1;obtain⟨ad,N,a,b,c,d,s,p⟩:=t;rw[Dn,Int.toNat_natCast]at V;rcases V.2 with⟨_,o⟩|⟨_,l',o,Y⟩
 ·rw[D]at o;cases o;omega
 ·rw[D]at o
  cases o;have Z:=E.1;rw[okT,Bool.and_eq_true]at Z;have r:=Z.1;unfold okN at r;have r:Qb s=1:=by rcases U with e|e<;>rw[e]at r<;>simp at r<;>omega
  obtain⟨A,rfl⟩:=Hm (s:=s) r;rw[DnL]at Y;obtain⟨n',ae,e1,ab,_⟩:=Y;cases e1;have ac:=Aw _ _ _ _ _ _ _ _ E A (by simp);obtain⟨e,n2,aa⟩:=h.tot T ac hi;have hB:∀N t,bdQ rs N=some t->ofT (kG rs) t=kG rs N:=fun N t y=>by
   obtain⟨x,hx,rfl,rfl⟩:=Dx y;exact Iz h.ck x hx
  obtain⟨rfl,_⟩:=Ij hM (Wy h.roots aa k' ab);have ho:okO (ofT (kG rs) A) i (some x):=Mv hB aa;have G:(ofT (kG rs) A).1=false:=by
   cases G:(ofT (kG rs) A).1 with
   |false=>rfl
   |true=>
    have h5:=E.2.1;rw[flT,if_pos ⟨U,by rw[ofH];exact G⟩]at h5;cases h5
  rcases Nat.lt_or_ge i x with y|y
  ·exact y
  ·have:=ho.2.1 (Nat.le_antisymm y ho.1)
   rw[G]at this;cases this
theorem Snd.opts{rs:List Rr}(h:Snd rs)(k:Int)(M:zA)(U:Int×Int×Int×Int)(k':Int)(l:List Int)(r:(pgG rs).2[k.toNat]? =some (8,M,U,k'::l)):l=[]:=by
 have V:=h.src.1;obtain⟨t,Y,y⟩:=V.2 k.toNat (List.getElem?_eq_some_iff.1 r).1;obtain⟨aa,N,a,b,c,d,s,p⟩:=t;rw[Dn,Int.toNat_natCast]at y;rcases y.2 with⟨_,o⟩|⟨_,l',o,A⟩
 ·rw[r]at o;cases o
 ·rw[r]at o
  cases o;have D:=Y.1;rw[okT,Bool.and_eq_true]at D;have E:=D.1;unfold okN at E;simp at E;obtain⟨t',rfl⟩:=Hm (s:=s) (by omega);rw[DnL]at A;obtain⟨n',ab,Z,ac,G⟩:=A;cases Z;rw[DnL]at G;exact G
theorem y6C{rs:List Rr}(h:Snd rs)(hw:OpW (pgG rs).2 (pgG rs).1)(T:zA){N:Nt}(hc:Clo (pgG rs).2 (pgG rs).1 T N)(hv:Val (pgG rs).2 (pgG rs).1 T N)(hr:0<(pgG rs).1.length)(o:Nat)(ae:(pgG rs).1[0]=(o:Int))(z:Nat)(G:N o 0=some (some z)):
  ∃l,Vz (pgG rs).2 N (.nd (o:Int)) 0 l/\∃r,TlR (pgG rs).2 (pgG rs).1 T N [((0:Int),(0:Int),ndE (N o 0),(0:Int))] [l.take 4096] (1+(l.take 4096).length) r/\∀D,r=some D->1<=D.length/\D.length<=4096:=by
 have ad:∀(k kd:Int) (M:zA) (E:Int×Int×Int×Int) (k':Int) (l:List Int),(pgG rs).2[k.toNat]? =some (kd,M,E,k'::l)->kd=9∨kd=10->∀i x,i<=T.size->N k' i=some (some x)->i<x:=fun k kd M E k' l U h9 i x V hx=>by
  obtain⟨n,hn⟩:=hv k' i _ hx;exact h.goes T k kd M E k' l U h9 i x n V hn
 have aa:∀(k:Nat) (i z:Nat),i<=T.size->N k i=some (some z)->∃l,Vz (pgG rs).2 N (.nd (k:Int)) i l/\∀y∈l,GoP (pgG rs).2 (pgG rs).1 T N y:=fun k i z V G=>by
  obtain⟨_,_,h3⟩:=y6m ad (fun k M E k' l U=>h.opts k M E k' l U) (hc _ _ _ G) V z rfl;obtain⟨l,hl,A⟩:=h3 (fun k' e=>by cases e) (fun _ _ _ _ e=>by cases e);refine⟨l,hl,fun y hm=> ?_⟩;obtain⟨q,Y,e1,Z,e3⟩:=A y hm;have hp:0<=y.1:=y6B (h.wfo T).sub hl (fun _ _ _ _ e=>by cases e) y hm;obtain⟨ab,hq⟩:=List.getElem?_eq_some_iff.1 e1;obtain⟨q0,q1⟩:=hw.rt _ (List.getElem_mem ab);rw[hq]at q0 q1;exact⟨y.1.toNat,q.toNat,Y,ab,by omega,by rw[hq];omega,by omega,e3,by rw[show((q.toNat:Nat):Int)=q by omega];exact Z⟩
 obtain⟨l,hl,hg⟩:=aa o 0 z (Nat.zero_le _) G;obtain⟨r,h1,h2⟩:=z0l (ops:=(pgG rs).2) (ro:=(pgG rs).1) (T:=T) (N:=N) (fun y A r o hr e1 Z=>by
  obtain⟨r',ac,Y,af,e3,e4,e5,e6,e7⟩:=A;have:r'=r:=by omega
  subst this;have:ac=o:=by rw[e4]at Z;omega
  subst this;exact aa ac y.2 Y e6 e7) _ [((0:Int),(0:Int),ndE (N o 0),(0:Int))] [l.take 4096] (1+(l.take 4096).length) L0q (by rfl) (fun p hp y A=>by
  rw[List.mem_singleton.1 hp]at A;exact hg y (List.mem_of_mem_take A))
 exact⟨l,hl,r,h1,fun D e=>h2 D e⟩
theorem y6D(r:Option Addr)(n y:Nat)(rs:List Rr)(X:Option (Int ⊕ (Int×Int)))(A:Addr)(w:World)(hX:CkX rs X)(hP:X=none->PrG rs)(hC:CkC r n y rs X w)(hz:RgZ rs)(hu:RgU rs)(h:Qg w w.heap.size r n rs)(D:TabIs w)(E:zC w (1) 0 (.iface 405 (.pointer (some A))))(aa:Xm w)(W:World)(G:zB w W):
  Calls prog 19 #[.agg #[.slice r n y]] W fun e w'=>∃oso ol oc nso nl nc rso rl rc o,e=.returned (.tuple #[.agg #[.slice oso ol oc,.slice nso nl nc,.slice rso rl rc],o])/\Hid (zB W w')/\((∃U V,o=.iface U V/\oso=none/\ol=0/\oc=0/\nso=none/\nl=0/\nc=0/\rso=none/\rl=0/\rc=0)∨(o=.nilIface/\Hid (PgV rs oso nso rso ol oc nl nc rl rc A w'))):=by
 refine(Wc r n y rs X w.heap.size A w hX hP hC hz hu h L0q D E aa W G).mono ?_;rintro e w' ⟨oso,ol,oc,nso,nl,nc,rso,rl,rc,o,rfl,Y,⟨U,V,Z,h2,h3,h4,h5,h6,h7,h8,h9,ab,_⟩|⟨Z,H⟩⟩
 ·exact⟨oso,ol,oc,nso,nl,nc,rso,rl,rc,o,rfl,Y,.inl ⟨U,V,Z,h2,h3,h4,h5,h6,h7,h8,h9,ab⟩⟩
 ·obtain⟨a,b,c,_,d,e,f⟩:=H.out
  have hb:zB w w':=G.trans (Y.out.mono G.size);exact⟨oso,ol,oc,nso,nl,nc,rso,rl,rc,o,rfl,Y,.inr ⟨Z,hid ⟨a,b,c,d,e,f,hz,hu,D.below hb D.lt,(hb.cell (World.block_lt_of_cell? w _ E)).trans E,aa.below hb⟩⟩⟩
theorem y6E{ol nl rl:Nat}{T:zA}(Z:Hid (∀W:World,zB w W->Calls prog 34 #[.agg #[.slice oso ol oc,.slice nso nl nc,.slice rso rl rc]] W fun e w'=>∃A n D,e=.returned (.tuple #[.agg #[.slice A n D],.nilIface])/\Hid (zB W w')))(ap:mo<=1048576)(aq:rl<=64)(ar:0<rl)(am:4096<T.size):
  Calls prog 20 #[.agg #[.slice oso ol oc,.slice nso nl nc,.slice rso rl rc],zI 0,zT T,zI 0,zI mo] w fun e w'=>e=.returned (.tuple #[zI 0,zI 0,.iface 34 (zI 2)])/\zB w w':=by
 obtain⟨r,y⟩:∃r,r=w.alloc (.cells #[.slice oso ol oc,.slice nso nl nc,.slice rso rl rc] 26):=⟨_,rfl⟩;have E:zB w r:=by rw[y];exact(Below.refl _ w).alloc L0q _
 have aa:=hid (Z.out r E);have ab:=hid y;have ac:r.heap[w.heap.size]? =some (.cells #[.slice oso ol oc,.slice nso nl nc,.slice rso rl rc] 26):=by rw[y];exact Qx w _ rfl
 have ad:=hid ac;have ae:=hid E;have af:Hid (∀W:World,Calls prog 47 #[zI ((rl:Int)-1),zI 0] W (zR W (.bool true))):=fun W=>by
  have:=Km ((rl:Int)-1) 0 W;rw[show decide ((0:Int)<=0/\(0:Int)<=(rl:Int)-1)=true from decide_eq_true (by omega)]at this;exact this
 have ag:Hid (∀W:World,Calls prog 47 #[zI (T.size:Int),zI 0] W (zR W (.bool true))):=fun W=>by
  have:=Km (T.size:Int) 0 W;rw[show decide ((0:Int)<=0/\(0:Int)<=(T.size:Int))=true from decide_eq_true (by omega)]at this;exact this
 have ah:Hid (∀W:World,Calls prog 47 #[zI 1048576,zI (mo:Int)] W (zR W (.bool true))):=fun W=>by
  have:=Km 1048576 (mo:Int) W;rw[show decide (0<=(mo:Int)/\(mo:Int)<=1048576)=true by simp;omega]at this;exact this
 have au:IntKind.i64.wrap ((rl:Int)-1)=(rl:Int)-1:=by rw[IntKind.wrap_i64];omega
 have av:decide (4096<T.size)=true:=by simpa using am
 have aw:(4096:Int)<(T.size:Int):=by omega
 clear y E Z ac;go_enter func20,ntmps20
 go_wp2_with fail
 rw[<-ab.out];clear ab;refine aa.out.mono ?_;rintro e w1 ⟨A,n,D,rfl,h⟩;have G:=(h.out.block _ (Qq ad.out)).trans ad.out;have o:=hid (ae.out.trans (h.out.mono ae.out.size));have c2:=(Qj G 2 _ rfl).1;have l2:=Qq G;obtain⟨U,V⟩:∃U,U=w1.alloc (.cells #[.slice A n D] 51):=⟨_,rfl⟩;have ai:zB w1 U:=by rw[V];exact(Below.refl _ w1).alloc L0q _
 have Y:=hid (o.out.trans (ai.mono o.out.size));have HU:=hid V;clear aa G h V ai o
 go_wp2_with fail
 rw[<-HU.out];clear HU;refine(af.out U).mono ?_;rintro e2 w2 ⟨rfl,aj⟩;have h:=hid (Y.out.trans (aj.mono Y.out.size));clear aj Y c2 l2 af
 go_wp2_with fail
 refine(ag.out w2).mono ?_;rintro e3 w3 ⟨rfl,ak⟩;have o:=hid (h.out.trans (ak.mono h.out.size));clear ak h ag
 go_wp2_with fail
 refine(ah.out w3).mono ?_;rintro e4 w4 ⟨rfl,al⟩;have ao:=hid (o.out.trans (al.mono o.out.size));clear al o ah
 go_wp2_with fail
 refine bodyPost_ret (v:=.tuple #[zI 0,zI 0,.iface 34 (zI 2)]) (by simp[results,Tryz.results20,go_sem]) rfl ?_;exact⟨rfl,ao.out⟩
theorem Snd.pos{rs:List Rr}(h:Snd rs):0<rs.length:=by
 cases rs with
 |nil=>exact absurd h.ok (by decide)
 |cons=>simp
theorem PgV.just{rs:List Rr}{ol nl rl:Nat}{fp:Addr}(h:PgV rs oso nso rso ol oc nl nc rl rc fp w)(T:zA):
  (∃cc:Int,∀W:World,zB w W->(Calls prog 21 #[.agg #[.slice oso ol oc,.slice nso nl nc,.slice rso rl rc],zT T,zI 20000] W (zR W (.tuple #[.bool false,zI 0,.iface 34 (zI cc)])))/\Calls prog 10 #[.agg #[.slice oso ol oc,.slice nso nl nc,.slice rso rl rc],zT T,zI 20000] W (zR W (.tuple #[.slice none 0 0,.bool false,.iface 34 (zI cc)])))∨
  (∃c:Int,∀W:World,zB w W->(Calls prog 21 #[.agg #[.slice oso ol oc,.slice nso nl nc,.slice rso rl rc],zT T,zI 20000] W (zR W (.tuple #[.bool false,zI c,.nilIface])))/\Calls prog 10 #[.agg #[.slice oso ol oc,.slice nso nl nc,.slice rso rl rc],zT T,zI 20000] W (zR W (.tuple #[.slice none 0 0,.bool false,.nilIface])))∨
  (∃(c:Int) (r:Option (List Sp4)),(∀ts,r=some ts->1<=ts.length/\ts.length<=4096)/\∀W:World,zB w W->(Calls prog 21 #[.agg #[.slice oso ol oc,.slice nso nl nc,.slice rso rl rc],zT T,zI 20000] W (zR W (.tuple #[.bool true,zI c,.nilIface])))/\Calls prog 10 #[.agg #[.slice oso ol oc,.slice nso nl nc,.slice rso rl rc],zT T,zI 20000] W (TrQ W r)):=by
 have Y:0<rs.length:=h.hs.pos;have aa:(pgG rs).1.length=rs.length:=(Vv (fun T=>fdI T (nmL rs)) rs []).2.1.1;by_cases hTz:T.size<=4096
 ·obtain⟨U,n,N',c,x,-,hx,ao,-,-,-,ag,ah,ad⟩:=y6l h.hs T 0 0 Y (Nat.zero_le _)
  have ab:0<(pgG rs).1.length:=by rw[aa];exact Y
  have ac:(pgG rs).1[0]=x:=(List.getElem?_eq_some_iff.1 hx).2;have hw:=h.hs.opw h.hp h.hu;obtain⟨_,ai⟩:=hw.rt _ (List.getElem_mem ab);rw[ac]at ai;have HM:∀(r:Option (Option Nat×Nat×Nt)) (q:Nat),Mch (pgG rs).2 (pgG rs).1 T 20000 N0 0 [] (.beg x 0) r q->∀W:World,zB w W->Calls prog 20 #[.agg #[.slice oso ol oc,.slice nso nl nc,.slice rso rl rc],zI 0,zT T,zI 0,zI 20000] W fun e w'=>MRo r e/\zB W w':=fun r q G W o=>by
   have h:=h.below o;exact z6t rs oso nso rso ol oc nl nc rl rc fp W h.hol h.hnl h.hrl h.hs h.hp h.hM h.hz h.hu h.hT h.hF h.hPw T 0 0 20000 Y (Nat.zero_le _) (by decide) hTz x hx r q G
  by_cases hc:c<=20000
  ·obtain⟨q,G⟩:=(ad 20000).1 hc
   have D:∀W:World,zB w W->Calls prog 21 #[.agg #[.slice oso ol oc,.slice nso nl nc,.slice rso rl rc],zT T,zI 20000] W fun e w'=>e=.returned (.tuple #[.bool (enE U == (T.size:Int)),zI c,.nilIface])/\zB W w':=fun W o=>z6A (mo:=20000) (hid fun y A=>HM _ q G y (o.trans (A.mono o.size)))
   by_cases Z:enE U=(T.size:Int)
   ·rw[show(enE U == (T.size:Int))=true by simpa using Z]at D
    obtain⟨z,rfl⟩:∃z,U=some z:=by
     cases U with
     |none=>have Z:(-1:Int)=(T.size:Int):=Z;omega
     |some z=>exact⟨z,rfl⟩
    obtain⟨V,rfl⟩:∃V:Nat,x=(V:Int):=⟨x.toNat,by omega⟩;have hz:N' (V:Int) 0=some (some z):=z6m G rfl;obtain⟨l,hl,r,hR,aj⟩:=y6C h.hs hw T ag ah ab V ac z hz;refine .inr (.inr ⟨c,r,aj,fun W o=>⟨D W o,?_⟩⟩);have h9:=h.below o;obtain⟨ak,ae,af,hs,hp,hM,ap,hu,hT,hF,aq⟩:=h9;clear h;subst ak;rw[<-Vj rs]at ae;subst ae;rw[<-aa]at af;subst af;exact z6D (mo:=20000) (hid fun y A=>D y (o.trans (A.mono o.size))) (by decide) hTz hM hw ab V ac (by omega) (some z) c N' q G l hl r hR
   ·rw[show(enE U == (T.size:Int))=false by simpa using Z]at D
    exact .inr (.inl ⟨c,fun W o=>⟨D W o,y6A (mo:=20000) (hid fun y A=>D y (o.trans (A.mono o.size)))⟩⟩)
  ·obtain⟨q,G⟩:=(ad 20000).2 (by omega)
   have D:∀W:World,zB w W->Calls prog 21 #[.agg #[.slice oso ol oc,.slice nso nl nc,.slice rso rl rc],zT T,zI 20000] W fun e w'=>e=.returned (.tuple #[.bool false,zI 0,.iface 34 (zI 50)])/\zB W w':=fun W o=>z6B (mo:=20000) (hid fun y A=>HM _ q G y (o.trans (A.mono o.size)))
   exact .inl ⟨50,fun W o=>⟨D W o,z6C (mo:=20000) (hid fun y A=>D y (o.trans (A.mono o.size)))⟩⟩
 ·have al:rl<=64:=by rw[h.hrl];exact h.hs.len
  have D:∀W:World,zB w W->Calls prog 21 #[.agg #[.slice oso ol oc,.slice nso nl nc,.slice rso rl rc],zT T,zI 20000] W fun e w'=>e=.returned (.tuple #[.bool false,zI 0,.iface 34 (zI 2)])/\zB W w':=fun W o=>z6B (mo:=20000) (hid fun y A=>by
   have E:=h.below (o.trans (A.mono o.size));refine y6E (mo:=20000) (hid fun W3 am=> ?_) (by decide) al (by rw[h.hrl];exact Y) (by omega);have:=z6s rs oso nso rso oc nc rc fp y E.hs E.hp E.hM E.hz E.hu E.hT E.hF E.hPw W3 am;rw[<-E.hol,Vj,<-E.hnl,aa,<-E.hrl]at this;exact this)
  exact .inl ⟨2,fun W o=>⟨D W o,z6C (mo:=20000) (hid fun y A=>D y (o.trans (A.mono o.size)))⟩⟩
theorem y6F(so:Option Addr)(n ae:Nat)(rs:List Rr)(fp:Addr)(T:zA)(w:World)(ar:Hid (∀W:World,zB w W->Calls prog 8 #[] W fun e w'=>e=.returned (.bool true)/\Hid (zB W w')))(hE:Vg w)(hT:TabIs w)(hF:zC w (1) 0 (.iface 405 (.pointer (some fp))))(au:Xm w)(hz:RgZ rs)(hu:RgU rs)(h:Qg w w.heap.size so n rs):
  Calls prog 6 #[.agg #[.slice so n ae],zT T] w fun e w'=>e=.returned (.bool true)/\zB w w':=by
 obtain⟨X,hX,av,hC⟩:=y2g so n ae rs w.heap.size w hz hu h L0q hT;obtain⟨u1,ah⟩:∃u1,u1=w.alloc (.cells #[.slice so n ae] 51):=⟨_,rfl⟩;have ai:zB w u1:=by rw[ah];exact(Below.refl _ w).alloc L0q _
 have gu:u1.heap[w.heap.size]? =some (.cells #[.slice so n ae] 51):=by rw[ah];exact Qx w _ rfl
 have HS:=hid (ar.out u1 ai);have aw:=hid (fun(W:World) (hb:zB w W)=>y6D so n ae rs X fp w hX av hC hz hu h hT hF au W hb);have al:Hid (∀W:World,zB w W->Vg W):=fun W hb=>hE.below hb hE.lt
 clear hE hT hz hu h hC hX av hF au ar;go_enter func6,ntmps6
 go_wp2_with fail
 rw[<-ah];refine HS.out.mono ?_;rintro e w1 ⟨rfl,am⟩;have aj:=hid (ai.trans (am.out.mono ai.size));have ax:=hid ((am.out.block _ (Qq gu)).trans gu);obtain⟨x1,f1⟩:=Qy ax.out;clear HS am ah ai gu
 go_wp2_with fail
 refine(aw.out w1 aj.out).mono ?_;rintro e wp ⟨oso,ol,oc,nso,nl,nc,rso,rl,rc,ev,rfl,ao,aB⟩;obtain⟨Y,ak⟩:∃Y,Y=wp.alloc (.cells #[.slice oso ol oc,.slice nso nl nc,.slice rso rl rc] 26):=⟨_,rfl⟩;have ap:zB wp Y:=by rw[ak];exact(Below.refl _ wp).alloc L0q _
 have ay:zB w1 Y:=ao.out.trans (ap.mono ao.out.size);have aa:=hid (aj.out.trans (ay.mono aj.out.size));have G:Hid (Y.heap[wp.heap.size]? =some (.cells #[.slice oso ol oc,.slice nso nl nc,.slice rso rl rc] 26)):=by rw[ak];exact Qx wp _ rfl
 obtain⟨pB,aq⟩:∃pB,pB=wp.heap.size:=⟨_,rfl⟩;rw[<-aq]at G;have ab:=hid ak;have ac:=hid aq;have az:=hid ap;clear aw ay ap ax ao ak aq x1 f1 aj;rcases aB with⟨te,ue,rfl,rfl,rfl,rfl,rfl,rfl,rfl,rfl,rfl,rfl⟩|⟨rfl,ad⟩
 ·go_wp2_with fail
  rw[<-ab.out];go_ret;exact⟨rfl,aa.out⟩
 have ad:=hid (ad.out.below az.out);clear az;rcases ad.out.just T with⟨cc,A⟩|⟨c,A⟩|⟨c,r,aC,A⟩
 ·have Z:=hid A
  have HT:=hid (A Y B0q).2;clear A ad
  go_wp2_with fail
  rw[<-ab.out,<-ac.out];clear ab ac;refine HT.out.mono ?_;rintro e w3 ⟨rfl,o⟩;have U:=hid (Z.out w3 o).1;have V:=hid (aa.out.trans (o.mono aa.out.size));have y:=hid ((o.block _ (Qq G.out)).trans G.out);obtain⟨p0,p1,p2,_⟩:=Fz y.out;have lp:=Qq y.out;clear o HT Z G
  go_wp2_with fail
  refine U.out.mono ?_;rintro e w4 ⟨rfl,D⟩;have E:=hid (V.out.trans (D.mono V.out.size));clear D U p0 p1 p2 lp y
  go_wp2_with fail
  refine(Rm cc w4 (al.out w4 E.out)).mono ?_;rintro e w5 ⟨rfl,af⟩;have ag:=hid (E.out.trans (af.mono E.out.size));clear af
  go_wp2_with fail
  refine(Rm cc w5 (al.out w5 ag.out)).mono ?_;rintro e w6 ⟨rfl,aA⟩;have aD:=hid (ag.out.trans (aA.mono ag.out.size));clear aA
  go_wp2_with fail
  go_ret;exact⟨by simp,aD.out⟩
 ·have Z:=hid A
  have HT:=hid (A Y B0q).2;clear A ad
  go_wp2_with fail
  rw[<-ab.out,<-ac.out];clear ab ac;refine HT.out.mono ?_;rintro e w3 ⟨rfl,o⟩;have U:=hid (Z.out w3 o).1;have V:=hid (aa.out.trans (o.mono aa.out.size));have y:=hid ((o.block _ (Qq G.out)).trans G.out);obtain⟨p0,p1,p2,_⟩:=Fz y.out;have lp:=Qq y.out;clear o HT Z G
  go_wp2_with fail
  refine U.out.mono ?_;rintro e w4 ⟨rfl,D⟩;have E:=hid (V.out.trans (D.mono V.out.size));clear D U p0 p1 p2 lp y
  go_wp2_with fail
  go_ret;exact⟨by simp,E.out⟩
 ·have Z:=hid A
  have HT:=hid (A Y B0q).2;clear A ad
  go_wp2_with fail
  rw[<-ab.out,<-ac.out];clear ab ac;refine HT.out.mono ?_;rintro e w3 ⟨o,h3⟩;have U:=hid (Z.out w3 o).1;have V:=hid (aa.out.trans (o.mono aa.out.size));have y:=hid ((o.block _ (Qq G.out)).trans G.out);obtain⟨p0,p1,p2,_⟩:=Fz y.out;have lp:=Qq y.out;clear o HT Z G;cases r with
  |none=>
   have h3:e=.returned (.tuple #[.slice none 0 0,.bool false,.iface 34 (zI 50)]):=h3;subst h3
   go_wp2_with fail
   refine U.out.mono ?_;rintro e w4 ⟨rfl,D⟩;have E:=hid (V.out.trans (D.mono V.out.size));clear D U p0 p1 p2 lp y
   go_wp2_with fail
   refine(Rm 50 w4 (al.out w4 E.out)).mono ?_;rintro e w5 ⟨rfl,af⟩;have ag:=hid (E.out.trans (af.mono E.out.size));clear af
   go_wp2_with fail
   go_ret;exact⟨by simp,ag.out⟩
  |some ts=>
   obtain⟨tv,rfl,ho⟩:=h3;obtain⟨ta,aE,rfl⟩:=Yd ho;obtain⟨h1,h2⟩:=aC ts rfl;have d1:decide ((0:Int)<(ts.length:Int))=true:=decide_eq_true (by omega);have d2:decide ((ts.length:Int)<=4096)=true:=decide_eq_true (by omega);clear ho
   go_wp2_with fail
   refine U.out.mono ?_;rintro e w4 ⟨rfl,D⟩;have E:=hid (V.out.trans (D.mono V.out.size));clear D U p0 p1 p2 lp y
   go_wp2_with fail
   go_ret;exact⟨by simp,E.out⟩
mutual
def rkB:Nd->Bool
 | .mk kd T C s p=>decide (((kd=1/\T={data:=#[]}/\C=0/\s.length=0)∨(kd=2/\C=0/\s.length=0)∨(kd=3/\T={data:=#[]}/\s.length=0)∨(kd=4/\T={data:=#[]}/\C=0/\s.length=0)∨(kd=5/\C=0/\s.length=0)∨
    ((kd=6∨kd=7)/\T={data:=#[]}/\C=0/\2<=s.length)∨(8<=kd/\kd<=12/\T={data:=#[]}/\C=0/\s.length=1))/\(kd=2->T.size<=255)/\(kd=5->nmS T=true)/\C<2^256/\s.length<=1000000)&&rkM s
def rkM:List Nd->Bool
 |[]=>true
 |n::r=>rkB n&&rkM r
end
mutual
theorem Kp:∀n:Nd,rkB n=true->Vk n/\Wf Nmq n/\Sm n n
 | .mk kd T C s p,h=>by
   rw[rkB,Bool.and_eq_true,decide_eq_true_eq]at h;obtain⟨⟨r,y,A,D,E⟩,G⟩:=h;have o:=z6E s G;rw[Vk,Wf,Sm];simp only[List.length_eq_zero_iff]at r;exact⟨⟨r,o.1⟩,⟨y,A,D,o.2.1⟩,rfl,rfl,rfl,o.2.2,E⟩
theorem z6E:∀s:List Nd,rkM s=true->VkL s/\WfL Nmq s/\SmL s s
 |[],_=>by rw[VkL,WfL,SmL];exact⟨trivial,trivial,trivial⟩
 |n::r,h=>by
  rw[rkM,Bool.and_eq_true]at h;have o:=Kp n h.1;have y:=z6E r h.2;rw[VkL,WfL,SmL];exact⟨⟨o.1,y.1⟩,⟨o.2.1,y.2.1⟩,o.2.2,y.2.2⟩
end
def rkG(rs:List Rl):Bool:=decide (1<=rs.length/\rs.length<=64/\sz (pR qT cT rs)<=8192/\dR rs<=24)&&rs.all fun x=>nmS x.1&&rkB x.2.1
theorem z6F{rs:List Rl}(h:rkG rs=true):PrG (toG rs):=by
 unfold rkG at h;rw[Bool.and_eq_true,decide_eq_true_eq,List.all_eq_true]at h;obtain⟨⟨r,y,A,D⟩,E⟩:=h;have hx:∀x∈rs,Ruk Nmq x:=fun x hx=>by
  have o:=E x hx;rw[Bool.and_eq_true]at o;exact⟨o.1,(Kp _ o.2).1,(Kp _ o.2).2.1⟩
 exact⟨y0H (Em rs) hx r y,rs,Em rs,hx,A,D⟩
theorem y6G{rs:List Rl}(h:rkG rs=true)(G:ckR (toG rs)=none)(B g n r:Nat)(W:World)(U:RoR B (zS g n r) rs W)(V:TabIs W):
  Qg W W.heap.size (some ⟨g,0,none⟩) n (toG rs)/\RgZ (toG rs)/\CkX (toG rs) none/\CkC (some ⟨g,0,none⟩) n r (toG rs) none W:=by
 have Y:=z6F h;unfold rkG at h;rw[Bool.and_eq_true,decide_eq_true_eq,List.all_eq_true]at h;obtain⟨⟨h1,Z,h3,h4⟩,h5⟩:=h;have o:∀x∈rs,nmS x.1=true/\rkB x.2.1=true:=fun x hx=>by
  have y:=h5 x hx;rw[Bool.and_eq_true]at y;exact y
 have A:=y0G U (fun x hx=>(Kp _ (o x hx).2).2.2) Z;have D:=(Rj (Em rs) (fun x hx=>⟨(o x hx).1,(Kp _ (o x hx).2).1,(Kp _ (o x hx).2).2.1⟩)).2;have E:=Sx _ n r (toG rs) W.heap.size W D A L0q V Y G;exact⟨A,D,E.1,E.2⟩
def Jy(ops:List Ox)(ro:List Int)(T:zA)(mo:Nat):Nat->Nt->Nat->List Wq->Mde->Option (Option Nat×Nat×Nt)
 |0,_,_,_,_=>none
 |n+1,N,c,S,.beg k i=>match N k i with
  |some e=>Jy ops ro T mo n N c S (.ret e)
  |none=>if c=mo then none else match ops[k.toNat]? with
   |none=>none
   |some o=>match o.2.2.2 with
    |[]=>Jy ops ro T mo n (Zk N k i (aln T o i)) (c+1) S (.ret (aln T o i))
    |_::_=>Jy ops ro T mo n N (c+1) ((k,i,0,i)::S) (.beg (prt ro o 0) i)
 |n+1,N,c,[],.ret e=>some (e,c,N)
 |n+1,N,c,w::S,.ret e=>match ops[w.1.toNat]? with
  |none=>none
  |some o=>match nxt o w e with
   |some w'=>Jy ops ro T mo n N c (w'::S) (.beg (prt ro o w'.2.2.1) w'.2.2.2)
   |none=>Jy ops ro T mo n (Zk N w.1 w.2.1 (otc o w e)) c S (.ret (otc o w e))
theorem Kc{ops:List Ox}{ro:List Int}{T:zA}{mo:Nat}:∀(n:Nat) (N:Nt) (c:Nat) (S:List Wq) (m:Mde) (e:Option Nat) (y:Nat) (A:Nt),Jy ops ro T mo n N c S m=some (e,y,A)->∃q,Mch ops ro T mo N c S m (some (e,y,A)) q
 |0,_,_,_,_,_,_,_,h=>by rw[Jy]at h;cases h
 |n+1,N,c,S,.beg k i,e,y,A,h=>by
  rw[Jy]at h;cases hN:N k i with
  |some e0=>
   rw[hN]at h;obtain⟨q,r⟩:=Kc n _ _ _ _ _ _ _ h;exact⟨_,.noted hN r⟩
  |none=>
   rw[hN]at h;dsimp only at h;split at h
   ·cases h
   ·rename_i D
    cases ho:ops[k.toNat]? with
    |none=>rw[ho]at h;cases h
    |some o=>
     rw[ho]at h;dsimp only at h;cases hs:o.2.2.2 with
     |nil=>
      rw[hs]at h;obtain⟨q,r⟩:=Kc n _ _ _ _ _ _ _ h;exact⟨_,.leaf hN D ho hs r⟩
     |cons a b=>
      rw[hs]at h;obtain⟨q,r⟩:=Kc n _ _ _ _ _ _ _ h;exact⟨_,.push hN D ho (by rw[hs];simp) r⟩
 |n+1,N,c,[],.ret e0,e,y,A,h=>by
  rw[Jy]at h;cases h;exact⟨_,.done⟩
 |n+1,N,c,w::S,.ret e0,e,y,A,h=>by
  rw[Jy]at h;cases ho:ops[w.1.toNat]? with
  |none=>rw[ho]at h;cases h
  |some o=>
   rw[ho]at h;dsimp only at h;cases hx:nxt o w e0 with
   |some w'=>
    rw[hx]at h;obtain⟨q,r⟩:=Kc n _ _ _ _ _ _ _ h;exact⟨_,.next ho hx r⟩
   |none=>
    rw[hx]at h;obtain⟨q,r⟩:=Kc n _ _ _ _ _ _ _ h;exact⟨_,.pop ho hx r⟩
def vzR(ops:List Ox)(N:Nt):Nat->Jo->Nat->Option (List (Int×Nat))
 |0,_,_=>none
 |n+1,.nd k,i=>match ops[k.toNat]? with
  |some (kd,M,cl,s)=>vzR ops N n (.wk kd M cl s) i
  |none=>none
 |n+1,.wk kd M cl s,i=>if kd=5 then(match s with
   |r::_=>some [(r,i)]
   |[]=>none)else if kd=6 then vzR ops N n (.row s) i else if kd=7∨kd=8 then vzR ops N n (.alt s) i else if kd=9∨kd=10 then(match s with
   |k::_=>vzR ops N n (.rep k) i
   |[]=>none)else some []
 |n+1,.row [],i=>some []
 |n+1,.row (k::r),i=>match N k i with
  |some (some x)=>match vzR ops N n (.nd k) i,vzR ops N n (.row r) x with
   |some a,some b=>some (a++b)
   |_,_=>none
  |_=>none
 |n+1,.alt [],i=>some []
 |n+1,.alt (k::r),i=>match N k i with
  |some (some x)=>vzR ops N n (.nd k) i
  |some .none=>vzR ops N n (.alt r) i
  | .none=>none
 |n+1,.rep k,i=>match N k i with
  |some (some x)=>if i<x then(match vzR ops N n (.nd k) i,vzR ops N n (.rep k) x with
   |some a,some b=>some (a++b)
   |_,_=>none)else none
  |some .none=>some []
  | .none=>none
theorem Ud{ops:List Ox}{N:Nt}:∀(n:Nat) (j:Jo) (i:Nat) (l:List (Int×Nat)),vzR ops N n j i=some l->Vz ops N j i l
 |0,_,_,_,h=>by rw[vzR]at h;cases h
 |n+1,.nd k,i,l,h=>by
  rw[vzR]at h;cases ho:ops[k.toNat]? with
  |none=>rw[ho]at h;cases h
  |some o=>
   obtain⟨kd,M,A,s⟩:=o;rw[ho]at h;exact .nd ho (Ud n _ _ _ h)
 |n+1,.wk kd M A s,i,l,h=>by
  rw[vzR.eq_def]at h;dsimp only at h;split at h
  ·rename_i D
   subst D;cases s with
   |nil=>cases h
   |cons r s=>cases h;exact .ref
  ·split at h
   ·rename_i E
    subst E;exact .seq (Ud n _ _ _ h)
   ·split at h
    ·rename_i G
     exact .cho G (Ud n _ _ _ h)
    ·split at h
     ·rename_i U
      cases s with
      |nil=>cases h
      |cons k s=>exact .rep U (Ud n _ _ _ h)
     ·cases h
      exact .none (by assumption) (by assumption) (by omega) (by omega) (by omega) (by omega)
 |n+1,.row [],i,l,h=>by
  rw[vzR]at h;cases h;exact .row_nil
 |n+1,.row (k::r),i,l,h=>by
  rw[vzR]at h;split at h
  ·rename_i x hx
   split at h
   ·rename_i a b ha y
    cases h;exact .row_on hx (Ud n _ _ _ ha) (Ud n _ _ _ y)
   ·cases h
  ·cases h
 |n+1,.alt [],i,l,h=>by
  rw[vzR]at h;cases h;exact .alt_nil
 |n+1,.alt (k::r),i,l,h=>by
  rw[vzR]at h;split at h
  ·rename_i x hx
   exact .alt_ok hx (Ud n _ _ _ h)
  ·rename_i hx
   exact .alt_no hx (Ud n _ _ _ h)
  ·cases h
 |n+1,.rep k,i,l,h=>by
  rw[vzR]at h;split at h
  ·rename_i x hx
   split at h
   ·rename_i V
    split at h
    ·rename_i a b ha y
     cases h;exact .rep_on hx V (Ud n _ _ _ ha) (Ud n _ _ _ y)
    ·cases h
   ·cases h
  ·rename_i hx
   cases h;exact .rep_end hx
  ·cases h
def tlF(ops:List Ox)(ro:List Int)(T:zA)(N:Nt):Nat->List Sp4->List (List (Int×Nat))->Nat->Option (List Sp4)
 |0,_,_,_=>none
 |n+1,told,op,fd=>if 4096<fd then none else match op.reverse with
  |[]=>some told
  |[]::o=>tlF ops ro T N n told o.reverse fd
  |((rr,f)::rest)::o=>match ro[rr.toNat]? with
   |none=>none
   |some x=>if 0<=rr/\0<=x/\x.toNat<ops.length/\f<=T.size then(match vzR ops N 40 (.nd x) f with
    |none=>none
    |some l=>tlF ops ro T N n (told++[(rr,(f:Int),ndE (N x f),(o.reverse.length:Int)+1)]) (o.reverse++[rest]++[l.take (4097-fd)]) (fd+(l.take (4097-fd)).length))else none
theorem z0n{ops:List Ox}{ro:List Int}{T:zA}{N:Nt}:∀(n:Nat) (told:List Sp4) (op:List (List (Int×Nat))) (fd:Nat) (E:List Sp4),tlF ops ro T N n told op fd=some E->TlR ops ro T N told op fd (some E)
 |0,_,_,_,_,h=>by rw[tlF]at h;cases h
 |n+1,told,op,fd,E,h=>by
  rw[tlF]at h;split at h
  ·cases h
  rename_i A;have A:fd<=4096:=by omega
  split at h
  ·rename_i y
   cases h;rw[show op=[] by simpa using y];exact .fin A
  ·rename_i o y
   have e:op=o.reverse++[[]]:=by have:=congrArg List.reverse y;simpa using this
   rw[e];exact .pop A (z0n n _ _ _ _ h)
  ·rename_i D f rest o y
   have e:op=o.reverse++[(D,f)::rest]:=by have:=congrArg List.reverse y;simpa using this
   rw[e];cases hx:ro[D.toNat]? with
   |none=>rw[hx]at h;cases h
   |some x=>
    rw[hx]at h;dsimp only at h;split at h
    ·rename_i G
     obtain⟨c1,c2,c3,U⟩:=G;cases hv:vzR ops N 40 (.nd x) f with
     |none=>rw[hv]at h;cases h
     |some l=>
      rw[hv]at h;dsimp only at h;obtain⟨r,rfl⟩:∃r:Nat,D=(r:Int):=⟨D.toNat,by omega⟩;obtain⟨k,rfl⟩:∃k:Nat,x=(k:Int):=⟨x.toNat,by omega⟩;rw[Int.toNat_natCast]at hx c3;obtain⟨V,Y⟩:=List.getElem?_eq_some_iff.1 hx;exact .on V A Y c3 U (Ud _ _ _ _ hv) (z0n n _ _ _ _ h)
    ·cases h
@[reducible] def smS:zA:={data:=#[115,32,60,45,32,101,32,33,46,32,101,32,60,45,32,116,32,40,39,43,39,32,116,41,42,32,116,32,60,45,32,91,48,45,57,93,43,32,47,32,39,40,39,32,101,32,39,41,39]}
@[reducible] def Dh:zA:={data:=#[49,43,50,51]}
@[reducible] def ts4:List Sp4:=[(0,0,4,0),(1,0,4,1),(2,0,1,2),(2,2,4,2)]
def Ip(ops:List Ox)(ro:List Int):Bool:=match ro with
 |[]=>false
 |x::_=>decide (0<=x/\x.toNat<ops.length)&&(match Jy ops ro Dh 1000 400 N0 0 [] (.beg x 0)with
  |some (some 4,c,N)=>decide (c<=1000)&&(match vzR ops N 40 (.nd x) 0 with
   |some l=>decide (tlF ops ro Dh N 40 [((0:Int),(0:Int),ndE (N x 0),(0:Int))] [l.take 4096] (1+(l.take 4096).length)=some ts4)
   |none=>false)
  |_=>false)
def z6G(x:Nat):Bool:=match Nf smS with
 | .inr rs=>rkG rs&&((decide (ckR (toG rs)=none)&&((toG rs).all (fun x=>decide (ofT (itr (toG rs) 6) x.2.1=itr (toG rs) 6 x.1))&&(decide (flG (itr (toG rs) 6) (toG rs)=none)&&(decide ((toG rs).map (fun x=>(fbT (itr (toG rs) 6) x.2.1).map fun s=>fdI s (nmL (toG rs)))=[[1],[2],[]])&&(decide ((pgG (toG rs)).2.length<=200)&&Ip (pgG (toG rs)).2 (pgG (toG rs)).1))))))
 | .inl _=>false
theorem y6H:∀x,x<1->z6G x=true:=by decide+kernel
theorem y6I{ops:List Ox}{ro:List Int}(h:Ip ops ro=true):∃(o:Nat) (G:0<ro.length) (c:Nat) (N:Nt) (q:Nat) (l:List (Int×Nat)),ro[0]=(o:Int)/\o<ops.length/\c<=1000/\Mch ops ro Dh 1000 N0 0 [] (.beg (o:Int) 0) (some (some 4,c,N)) q/\Vz ops N (.nd (o:Int)) 0 l/\TlR ops ro Dh N [((0:Int),(0:Int),ndE (N o 0),(0:Int))] [l.take 4096] (1+(l.take 4096).length) (some ts4):=by
 unfold Ip at h;cases ro with
 |nil=>cases h
 |cons x ro=>
  dsimp only at h;rw[Bool.and_eq_true,decide_eq_true_eq]at h;obtain⟨⟨U,r⟩,h⟩:=h;obtain⟨k,rfl⟩:∃k:Nat,x=(k:Int):=⟨x.toNat,by omega⟩;rw[Int.toNat_natCast]at r;split at h
  ·rename_i c N y
   rw[Bool.and_eq_true,decide_eq_true_eq]at h;obtain⟨A,h⟩:=h;split at h
   ·rename_i l D
    obtain⟨q,E⟩:=Kc _ _ _ _ _ _ _ _ y;exact⟨k,by simp,c,N,q,l,rfl,r,A,E,Ud _ _ _ _ D,z0n _ _ _ _ _ (of_decide_eq_true h)⟩
   ·cases h
  ·cases h
theorem y6J:∃rs,Nf smS=.inr rs/\rkG rs=true/\ckR (toG rs)=none/\soZ (toG rs) none=none/\(pgG (toG rs)).2.length<=200/\Ip (pgG (toG rs)).2 (pgG (toG rs)).1=true:=by
 have h:=y6H 0 (by decide);unfold z6G at h;cases hp:Nf smS with
 |inl c=>rw[hp]at h;cases h
 |inr rs=>
  rw[hp]at h;simp only[Bool.and_eq_true,decide_eq_true_eq]at h;obtain⟨E,G,U,D,A,V,Y⟩:=h;have Z:Xq (itr (toG rs) 6) (toG rs):=fun x hx=>by simpa using List.all_eq_true.1 U x hx
  have aa:(toG rs).length=3:=by have:=congrArg List.length A;simpa using this
  rw[Sb Z]at D A;refine⟨rs,rfl,E,G,?_,V,Y⟩;have hb:∀i,i<(toG rs).length->¬Bck (bgU (toG rs)) i:=fun i _=>y4t (fun i x hx=>by
   rw[List.getD_eq_getElem?_getD]at hx;unfold bgU at hx;rcases Nat.lt_or_ge i (toG rs).length with y|y
   ·rw[List.getElem?_map,List.getElem?_eq_getElem y]at hx
    have hx:(x:Int)∈bgR (toG rs) (kG (toG rs)) (toG rs)[i]:=hx;obtain⟨s,hs,e⟩:=Sv.1 hx;have r:(x:Int)∈(fbT (kG (toG rs)) (toG rs)[i].2.1).map (fun s=>fdI s (nmL (toG rs))):=List.mem_map.2 ⟨s,hs,e⟩;have o:=congrArg (fun l=>l[i]?) A;simp only[List.getElem?_map,List.getElem?_eq_getElem y,Option.map_some]at o;rcases(by omega:i=0∨i=1∨i=2)with rfl|rfl|rfl
    ·rw[show([[1],[2],[]]:List (List Int))[0]? =some [1]from rfl]at o
     have o:=Option.some.inj o;rw[o]at r;simp at r;omega
    ·rw[show([[1],[2],[]]:List (List Int))[1]? =some [2]from rfl]at o
     have o:=Option.some.inj o;rw[o]at r;simp at r;omega
    ·rw[show([[1],[2],[]]:List (List Int))[2]? =some []from rfl]at o
     have o:=Option.some.inj o;rw[o]at r;simp at r
   ·rw[List.getElem?_eq_none (by simpa using y)]at hx
    simp at hx) i
  unfold soZ flX;simp only;rw[D,z4j hb];rfl
end Go.Proofs.YtmelafeingcgnaaGreatDoor
