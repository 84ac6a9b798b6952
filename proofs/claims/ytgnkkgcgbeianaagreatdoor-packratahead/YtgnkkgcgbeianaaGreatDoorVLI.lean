/- Lemmas for the last text. Conditions: those that each names. -/
import Derived.Test.YtgnkkgcgbeianaaGreatDoorVLEToLH
import Derived.Deep.AppendLies
import Derived.Deep.RegionLaw
set_option linter.unusedVariables false
set_option maxRecDepth 100000
set_option maxHeartbeats 64000000
namespace Go.Proofs.YtgnkkgcgbeianaaGreatDoor
open Go.Proofs.Tryz
section
open Go.RowKit Go.Shelf Go.Maps
theorem y8v{P:Program}{a:Act}{w:World}{Q:Exit->Act->World->Prop}{X:Code}(l:Nat)(J:Nat->Act->World->Prop)(r:Nat)(A:J r a w)
  (t:∀q a w,J q a w->X.wp P (Exit.jump l (fun y w'=>∃o,o<q/\J o y w') Q) a w):(Code.scope ((Code.label l).seq X)).wp P Q a w:=by
 have D:findLabel ((Code.label l).seq X) l=some (Code.skip.seq X):=by simp[findLabel]
 refine y8r l J D ?_ (fun q a w h=>wp_seq (wp_skip (t q a w h)));refine wp_seq (wp_label ?_);refine Code.wp_mono (fun e y w' h=> ?_) (t r a w A);cases e with
 |goto l'=>obtain⟨rfl,o,_,E⟩:=h;exact⟨rfl,o,E⟩
 |normal=>exact h
 |exit id=>exact h
 |ret=>exact h
 |panic ch=>exact h
 |outgrown=>exact h
theorem y8w{P:Program}{a:Act}{w:World}{Q:Exit->Act->World->Prop}{x y z:Code}(R:Act->World->Prop)(r:∀a w,R a w->z.wp P Q a w)(h:x.wp P (Exit.then (fun a w=>y.wp P (Exit.then R Q) a w) Q) a w):(x.seq (y.seq z)).wp P Q a w:=by
 refine wp_seq (Code.wp_mono (fun e a w o=> ?_) h);cases e with
 |normal=>
  refine wp_seq (Code.wp_mono (fun e a w o=> ?_) o);cases e with
  |normal=>exact r a w o
  |_=>exact o
 |_=>exact o
theorem Tryz.infoWtr:(Tryz.prog.info? 153).map (fun i=>(i.zero,i.size,i.bytes))=some (some (.agg #[.int .i64 0,.int .i64 0,.int .i64 0,.int .i64 0]),4,32):=by kernel_rfl
def z8h(W:World)(b o:Nat)(x0 x1 x2 x3:Int):World:=(((W.setCell ⟨b,o,none⟩ (.int .i64 x0)).setCell ⟨b,o+1,none⟩ (.int .i64 x1)).setCell ⟨b,o+2,none⟩ (.int .i64 x2)).setCell ⟨b,o+3,none⟩ (.int .i64 x3)
theorem Bp{F:(Nat->Value)->Act}{A:Act}(h:A=F (fun j=>A.tmps.getD j undef)):∃u,A=F u:=⟨_,h⟩
section
variable (ops:List Ox) (ns:List ByteArray) (ro:List Int) (T:ByteArray) (mo:Nat) (oso nso rso:Option Addr) (oc nc rc M NB:Nat) (w0:World)
@[reducible] def mF (k i:Nat) (u:Nat->Value):Act:={tmps:=#[.pointer (some ⟨M,0,none⟩),.int .i64 k,.int .i64 i,u 3,u 4,u 5,u 6,u 7,u 8,u 9,u 10,u 11,u 12,u 13,u 14,u 15,u 16,u 17,u 18,u 19,u 20,u 21,u 22,u 23,u 24,u 25,u 26,u 27,u 28,u 29,u 30,u 31,u 32,u 33,u 34,u 35,u 36,u 37,u 38,u 39,u 40,u 41,u 42,u 43,u 44,u 45,u 46,u 47,u 48,u 49,u 50,u 51,u 52,u 53,u 54,u 55,u 56,u 57,u 58,u 59,u 60,u 61,u 62,u 63,u 64,u 65,u 66,u 67,u 68,u 69,u 70,u 71,u 72,u 73,u 74,u 75,u 76,u 77,u 78,u 79,u 80,u 81,u 82,u 83,u 84,u 85,u 86,u 87,u 88,u 89,u 90,u 91,u 92,u 93,u 94,u 95,u 96,u 97,u 98,u 99,u 100,u 101,u 102,u 103,u 104,u 105,u 106,u 107,u 108,u 109,u 110,u 111,u 112,u 113,u 114,u 115,u 116,u 117,u 118,u 119,u 120,u 121,u 122,u 123,u 124,u 125,u 126,u 127,u 128,u 129,u 130,u 131,u 132,u 133,u 134],defers:=[]}
structure MJs (r:Option (Option Nat×Nat×Nt)) (q k i:Nat) (N:Nt) (c:Nat) (S:List Wq) (v:Value) (W:World):Prop where
 hk:k<ops.length
 hi:i<=T.size
 hN:∀k i e,N k i=some (some e)->e<=T.size
 hS:∀x∈S,WqR ops T.size x
 hc:c<=mo
 hl:S.length<=c
 hM:MtM ops ns ro T mo oso nso rso oc nc rc M NB w0 N c S v W
 hR:Mch ops ro T mo N c S (.beg k i) r q
def MJ(r:Option (Option Nat×Nat×Nt))(q:Nat)(a:Act)(W:World):Prop:=∃(k i:Nat) (N:Nt) (c:Nat) (S:List Wq) (v:Value),(∃u,a=mF M k i u)/\Hid (MJs ops ns ro T mo oso nso rso oc nc rc M NB w0 r q k i N c S v W)
@[reducible] def mG (e:Option Nat) (u:Nat->Value):Act:={tmps:=#[.pointer (some ⟨M,0,none⟩),u 1,u 2,u 3,u 4,u 5,u 6,.int .i64 (enE e),u 8,u 9,u 10,u 11,u 12,u 13,u 14,u 15,u 16,u 17,u 18,u 19,u 20,u 21,u 22,u 23,u 24,u 25,u 26,u 27,u 28,u 29,u 30,u 31,u 32,u 33,u 34,u 35,u 36,u 37,u 38,u 39,u 40,u 41,u 42,u 43,u 44,u 45,u 46,u 47,u 48,u 49,u 50,u 51,u 52,u 53,u 54,u 55,u 56,u 57,u 58,u 59,u 60,u 61,u 62,u 63,u 64,u 65,u 66,u 67,u 68,u 69,u 70,u 71,u 72,u 73,u 74,u 75,u 76,u 77,u 78,u 79,u 80,u 81,u 82,u 83,u 84,u 85,u 86,u 87,u 88,u 89,u 90,u 91,u 92,u 93,u 94,u 95,u 96,u 97,u 98,u 99,u 100,u 101,u 102,u 103,u 104,u 105,u 106,u 107,u 108,u 109,u 110,u 111,u 112,u 113,u 114,u 115,u 116,u 117,u 118,u 119,u 120,u 121,u 122,u 123,u 124,u 125,u 126,u 127,u 128,u 129,u 130,u 131,u 132,u 133,u 134],defers:=[]}
structure RJs (r:Option (Option Nat×Nat×Nt)) (q:Nat) (e:Option Nat) (N:Nt) (c:Nat) (S:List Wq) (v:Value) (W:World):Prop where
 he:∀x,e=some x->x<=T.size
 hN:∀k i e,N k i=some (some e)->e<=T.size
 hS:∀x∈S,WqR ops T.size x
 hc:c<=mo
 hl:S.length<=c
 hM:MtM ops ns ro T mo oso nso rso oc nc rc M NB w0 N c S v W
 hR:Mch ops ro T mo N c S (.ret e) r q
def RJ(r:Option (Option Nat×Nat×Nt))(q:Nat)(a:Act)(W:World):Prop:=∃(e:Option Nat) (N:Nt) (c:Nat) (S:List Wq) (v:Value),(∃u,a=mG M e u)/\Hid (RJs ops ns ro T mo oso nso rso oc nc rc M NB w0 r q e N c S v W)
def MPo(r:Option (Option Nat×Nat×Nt))(e':Ending)(W':World):Prop:=match r with
 |none=>e'=.returned (.iface 36 (.int .i64 50))/\Below w0.heap.size w0 W'
 |some (e,c,N)=>e'=.returned .nilIface/\(∀k i e,N k i=some (some e)->e<=T.size)/\∃v,MtM ops ns ro T mo oso nso rso oc nc rc M NB w0 N c [] v W'
end
theorem y8x{ops:List Ox}{ns:List ByteArray}{ro:List Int}{T:ByteArray}{mo:Nat}{oso nso rso:Option Addr}{oc nc rc M NB:Nat}{w0:World}(hw:OpW ops ro)(hT:T.size<=4096)(ai:mo<=1048576)(r:Option (Option Nat×Nat×Nt))(q0 k0 i0:Nat)(N0:Nt)(c0:Nat)(v0:Value)(w:World)(h:MJs ops ns ro T mo oso nso rso oc nc rc M NB w0 r q0 k0 i0 N0 c0 [] v0 w):
  Calls prog 40 #[.pointer (some ⟨M,0,none⟩),.int .i64 k0,.int .i64 i0] w (MPo ops ns ro T mo oso nso rso oc nc rc M NB w0 r):=by
 have bd:=hid h;have HW:=hid hw;have HT:=hid hT;have aF:=hid ai;clear h hw hT ai;go_enter func40,ntmps40
 go_wp2_with fail
 refine y8v 0 (MJ ops ns ro T mo oso nso rso oc nc rc M NB w0 r) q0 ⟨k0,i0,N0,c0,[],v0,Bp (by rfl),bd⟩ ?_;clear bd;rintro q a W ⟨k,i,N,c,S,v,⟨u,rfl⟩,A⟩;refine y8w (fun a w=>∃q',q'<q/\RJ ops ns ro T mo oso nso rso oc nc rc M NB w0 r q' a w) ?_ ?_
 ·rintro a w ⟨q',b8,e,N',c',S',v',⟨u',rfl⟩,HR⟩
  clear A;obtain⟨sa,bI,rfl⟩:=Mw HR.out.hM.ow;have m7:w.cell? ⟨M,7,none⟩=some (.slice sa S'.length bI):=(Qj HR.out.hM.m 7 _ rfl).1;have lm:=Qq HR.out.hM.m;have aG:=HR.out.hl;have ag:=HR.out.hc;have ai:=aF.out;have bJ:IntKind.i64.wrap ((S'.length:Int)-1)=(S'.length:Int)-1:=by rw[IntKind.wrap_i64];omega
  go_wp2_with fail
  clear m7 bJ
  go_loopw [7,9] (fun ev lv wr=>∃(e:Option Nat) (N:Nt) (c:Nat) (S:List Wq) (v:Value) (q1:Nat),ev=.int .i64 (enE e)/\lv=.int .i64 ((S.length:Int)-1)/\q1<=q'/\Hid (RJs ops ns ro T mo oso nso rso oc nc rc M NB w0 r q1 e N c S v wr)) (fun _ lv _=>(intOf lv+1).toNat)
  case atStart=>exact⟨e,N',c',S',_,q',rfl,rfl,Nat.le_refl _,HR⟩
  case round=>
   obtain⟨e,N,c,S,v,q1,rfl,rfl,b9,Y⟩:=hrel;clear HR aG ag;cases S with
   |nil=>
    have bK:=Y.out.hR;cases bK;have bf:=hid (And.intro Y.out.hN Y.out.hM)
    go_wp2_with fail
    refine bodyPost_ret (v:=.nilIface) (by simp[results,Tryz.results40,go_sem]) rfl ?_;exact⟨rfl,bf.out.1,_,bf.out.2⟩
   |cons x rr=>
    obtain⟨g,ae,rfl,gM,gN,lg,ax,ca⟩:=Y.out.hM.shape;obtain⟨k,hk,ek,hf,hj,ha⟩:=Y.out.hS x (List.mem_cons_self ..);obtain⟨kx,f,j,a⟩:=x;dsimp only at ek hf hj ha;subst ek;have z0:=ax 0 _ rfl;have z1:=ax 1 _ rfl;have z2:=ax 2 _ rfl;have z3:=ax 3 _ rfl;dsimp only[Nat.add_zero]at z0 z1 z2 z3;have m7:wr.cell? ⟨M,7,none⟩=some (.slice (some ⟨g,0,none⟩) (rr.length+1) ae):=(Qj Y.out.hM.m 7 _ rfl).1;have lm:=Qq Y.out.hM.m;have aG:=Y.out.hl;have ag:=Y.out.hc;have cb:(rr.length:Int)<((rr.length+1:Nat):Int):=by omega
    have cc:(rr.length:Int)<(rr.length:Int)+1:=by omega
    have e1:(((((k:Int),f,j,a)::rr:List Wq).length:Int)-1)=(rr.length:Int):=by rw[List.length_cons];omega
    rw[e1];obtain⟨W1,aH⟩:∃W1,W1=wr.alloc (.cells #[.int .i64 k,.int .i64 f,.int .i64 j,.int .i64 a] 153):=⟨_,rfl⟩;have ad:Below wr.heap.size wr W1:=by rw[aH];exact(Below.refl _ wr).alloc L0q _
    have bg:W1.heap[wr.heap.size]? =some (.cells #[.int .i64 k,.int .i64 f,.int .i64 j,.int .i64 a] 153):=by rw[aH];exact Qx wr _ rfl
    have I:=hid (Y.out.hM.below ad);have bh:=hid (y7W ops ns ro oso nso rso ops.length oc M W1 rfl I.out.pgw (Qj I.out.m 0 _ rfl).1 k hk f j a hj e);have bi:=hid aH;have aR:=hid bg;have Hj:=hid hj;have Hx:Hid (WqR ops T.size ((k:Int),f,j,a)):=Y.out.hS _ (List.mem_cons_self ..);have ak:=hid (And.intro aG ag);clear ax aH ad bg hj aG ag
    go_wp2_with fail
    rw[<-bi.out];clear bi z0 z1 z2 z3 m7;refine bh.out.mono ?_;rintro e' G ⟨x0,x1,x2,x3,ok,rfl,al,HQ⟩;have aa:=hid (I.out.below al);have aI:=(al.block _ (Qq aR.out)).trans aR.out;obtain⟨⟨t0,t1,t2,t3⟩,_⟩:=Nh aI;have aS:=Qq aI;have bj:=hid aI;clear al bh I aR aI;obtain⟨W3,aJ⟩:∃W3,W3=G.alloc (.cells #[.int .i64 x0,.int .i64 x1,.int .i64 x2,.int .i64 x3] 153):=⟨_,rfl⟩;have aT:Below G.heap.size G W3:=by rw[aJ];exact(Below.refl _ G).alloc L0q _
    have bk:W3.heap[G.heap.size]? =some (.cells #[.int .i64 x0,.int .i64 x1,.int .i64 x2,.int .i64 x3] 153):=by rw[aJ];exact Qx G _ rfl
    have ac:=hid (aa.out.below aT);have aU:=hid ((aT.block _ aS).trans bj.out);have am:=hid bk;have aK:=hid aJ;have ao:ops[((k:Int)).toNat]? =some ops[k]:=by rw[Int.toNat_natCast];exact List.getElem?_eq_getElem hk
    clear aJ aT bk aa bj;cases ok with
    |false=>
     have bl:=HQ.out.1 rfl;obtain⟨E,hE⟩:∃E,E=otc ops[k] ((k:Int),f,j,a) e:=⟨_,rfl⟩;obtain⟨q2,ay,az⟩:∃q2,q2+1=q1/\Mch ops ro T mo (Zv N k f E) c rr (.ret E) r q2:=by
      have hR:=Y.out.hR;cases hR with
      |next D Z h3=>
       rw[ao]at D;cases D;rw[bl]at Z;cases Z
      |pop D Z h3=>
       rw[ao]at D;cases D;rw[hE];exact⟨_,rfl,h3⟩
     have aj:∀x,E=some x->x<=T.size:=fun x hx=>y8t (w:=((k:Int),f,j,a)) hf ha Y.out.he (by rw[<-hE];exact hx)
     have aV:=hid (y8b ops ns ro oso nso rso ops.length oc M W3 rfl ac.out.pgw (Qj ac.out.m 0 _ rfl).1 k hk f j a e);rw[<-hE]at aV;have ap:=hid (fun(W':World) (hb:Below W3.heap.size W3 W')=>(ac.out.below hb).note HT.out k f hk hf E (fun x hx=>Nat.le_trans (aj x hx) HT.out));have bm:Hid (∀w5,MtM ops ns ro T mo oso nso rso oc nc rc M NB w0 (Zv N k f E) c (((k:Int),f,j,a)::rr) (.slice (some ⟨g,0,none⟩) (rr.length+1) ae) w5->RJs ops ns ro T mo oso nso rso oc nc rc M NB w0 r q2 E (Zv N k f E) c rr (.slice (some ⟨g,0,none⟩) rr.length ae) (w5.setCell ⟨M,7,none⟩ (.slice (some ⟨g,0,none⟩) rr.length ae))):=fun w5 hm=>by
      have D:=ak.out.1;rw[List.length_cons]at D;refine⟨aj,fun k' i' e' h'=> ?_,fun x hx=>Y.out.hS x (List.mem_cons_of_mem _ hx),ak.out.2,by omega,hm.pop,az⟩;by_cases hq:k'=(k:Int)/\i'=f
      ·obtain⟨rfl,rfl⟩:=hq
       rw[Bd]at h';exact aj _ (Option.some.inj h')
      ·rw[Kw hq]at h'
       exact Y.out.hN k' i' e' h'
     have aW:=hid ay;clear bl ao hE az aj ay HQ
     go_wp2_with fail
     rw[<-aK.out];clear aK t0 t1 t2 t3;refine aV.out.mono ?_;rintro e4 w4 ⟨rfl,aX⟩;have bn:=hid (ap.out w4 aX);have aY:=(aX.block _ (Qq aU.out)).trans aU.out;obtain⟨⟨t0,t1,t2,t3⟩,_⟩:=Nh aY;have bL:=Qq aY;clear aX aY aV ap am ac aU
     go_wp2_with fail
     clear t0 t1 t2 t3 bL aS;refine bn.out.mono ?_;rintro e5 w5 ⟨rfl,_,aA⟩;have bM:=hid (bm.out w5 aA);obtain⟨m7,f7⟩:=Qj aA.m 7 _ rfl;have cd:=Qq aA.m;have ce:rr.length<=ae:=by
      obtain⟨_,_,_,h',_,_,cf,_⟩:=aA.ow.2.resolve_left (fun h=>by cases h.1);injection h' with _ _ h3
      omega
     have cg:IntKind.i64.wrap ((rr.length:Int)-1)=(rr.length:Int)-1:=by
      have D:=ak.out.1;have Z:=ak.out.2;have h3:=aF.out;rw[List.length_cons]at D;rw[IntKind.wrap_i64];omega
     have ch:(rr.length:Int)<=(ae:Int):=by omega
     clear aA bn bm
     go_wp2_with fail
     refine⟨⟨E,Zv N k f E,c,rr,_,q2,rfl,rfl,by have:=aW.out;omega,bM⟩,?_⟩;simp only[intOf];omega
    |true=>
     obtain⟨j',a',aL,rfl,rfl,rfl,rfl⟩:=HQ.out.2 rfl;obtain⟨aZ,_,aq⟩:=y8u hk Hx.out Y.out.he aL;have aq:j'<ops[k].2.2.2.length:=aq;have bo:a'<=T.size:=by
      obtain⟨_,_,_,_,_,h⟩:=aZ;exact h
     obtain⟨k',ar,aM⟩:=HW.out.part hk aq;obtain⟨q2,ay,az⟩:∃q2,q2+1=q1/\Mch ops ro T mo N c (((k:Int),f,j',a')::rr) (.beg (k':Int) a') r q2:=by
      have hR:=Y.out.hR;cases hR with
      |next D Z h3=>
       rw[ao]at D;cases D;rw[aL]at Z;cases Z;rw[<-ar];exact⟨_,rfl,h3⟩
      |pop D Z h3=>
       rw[ao]at D;cases D;rw[aL]at Z;cases Z
     obtain⟨V,hV⟩:∃V,V=(z8h W3 g (rr.length*4) (k:Int) (f:Int) (j':Int) (a':Int)).drew:=⟨_,rfl⟩;have aN:Hid (MtM ops ns ro T mo oso nso rso oc nc rc M NB w0 N c (((k:Int),f,j',a')::rr) (.slice (some ⟨g,0,none⟩) (rr.length+1) ae) V):=by rw[hV];exact(ac.out.swap (x':=((k:Int),f,j',a'))).below B0q.drew
     have gn:G.heap.size≠g:=fun e=>by
      have Z:=(Y.out.hM.ow.lt g rfl).2;have h3:=aS;omega
     have aO:V.heap[G.heap.size]? =some (.cells #[.int .i64 k,.int .i64 f,.int .i64 j',.int .i64 a'] 153):=by
      rw[hV];exact(Below.heap_setCell _ _ _ _ gn).trans ((Below.heap_setCell _ _ _ _ gn).trans ((Below.heap_setCell _ _ _ _ gn).trans ((Below.heap_setCell _ _ _ _ gn).trans am.out)))
     have HS:Hid (W3.drew.cell? ⟨M,7,none⟩=some (.slice (some ⟨g,0,none⟩) (rr.length+1) ae)/\W3.drew.cell? ⟨G.heap.size,0,none⟩=some (.int .i64 k)/\W3.drew.cell? ⟨G.heap.size,1,none⟩=some (.int .i64 f)/\W3.drew.cell? ⟨G.heap.size,2,none⟩=some (.int .i64 j')/\W3.drew.cell? ⟨G.heap.size,3,none⟩=some (.int .i64 a')):=⟨(Qj ac.out.m 7 _ rfl).1,(Qj am.out 0 _ rfl).1,(Qj am.out 1 _ rfl).1,(Qj am.out 2 _ rfl).1,(Qj am.out 3 _ rfl).1⟩;obtain⟨g',ci,eg,_,_,cj,aB,bp⟩:=ac.out.shape;injection eg with eg _ _
     injection eg with eg
     injection eg with eg _ _
     subst eg;have y0:=aB 0 _ rfl;have y1:=aB 1 _ rfl;have y2:=aB 2 _ rfl;have y3:=aB 3 _ rfl;dsimp only[Nat.add_zero]at y0 y1 y2 y3;have HY:=hid (And.intro y0 (And.intro y1 (And.intro y2 y3)));have aP:=hid bp;have au:=hid (z8b ops ns ro oso nso rso ops.length oc ns.length nc ro.length rc M V.drew rfl rfl (aN.out.below (Below.refl _ V).drew).pgw (Qj aN.out.m 0 _ rfl).1 (Qj aN.out.m 2 _ rfl).1 k hk j' aq (fun h=>HW.out.rf k hk h _ (List.getElem_mem aq)));rw[ar]at au;have aQ:Hid (∀w7,Below V.drew.heap.size V.drew w7->MJs ops ns ro T mo oso nso rso oc nc rc M NB w0 r q2 k' a' N c (((k:Int),f,j',a')::rr) (.slice (some ⟨g,0,none⟩) (rr.length+1) ae) w7):=fun w7 hb=>⟨aM,bo,Y.out.hN,fun x hx=>by
      rcases List.mem_cons.1 hx with rfl|hx
      ·exact aZ
      ·exact Y.out.hS x (List.mem_cons_of_mem _ hx),ak.out.2,by have:=ak.out.1;rw[List.length_cons]at this ⊢;exact this,(aN.out.below (Below.refl _ V).drew).below hb,az⟩
     have bN:Hid (V.drew.cell? ⟨G.heap.size,0,none⟩=some (.int .i64 k)/\V.drew.cell? ⟨G.heap.size,2,none⟩=some (.int .i64 j')/\V.drew.cell? ⟨G.heap.size,3,none⟩=some (.int .i64 a')):=⟨(Qj aO 0 _ rfl).1,(Qj aO 2 _ rfl).1,(Qj aO 3 _ rfl).1⟩;have HV:=hid hV;have aW:=hid ay;clear aL aZ aq bo ar aM az ay hV gn aO aB bp y0 y1 y2 y3 ao HQ
     go_wp2_with fail
     rw[<-aK.out];clear aK t0 t1 t2 t3;refine Zj 7 (fun X:World=>X.cell? ⟨M,7,none⟩=some (.slice (some ⟨g,0,none⟩) (rr.length+1) ae)/\X.cell? ⟨G.heap.size,0,none⟩=some (.int .i64 k)/\X.cell? ⟨G.heap.size,1,none⟩=some (.int .i64 f)/\X.cell? ⟨G.heap.size,2,none⟩=some (.int .i64 j')/\X.cell? ⟨G.heap.size,3,none⟩=some (.int .i64 a')) (by kernel_rfl) HS.out (fun t=> ?_);refine Qz 0 t ?_;refine Qz 1 t ?_;refine Qz 2 t ?_;refine Qz 3 t ?_;refine Qz 4 t ?_;refine Qz 5 t ?_;refine Qz 6 t ?_;refine Vw (fun K hK=> ?_);obtain⟨y0,y1,y2,y3⟩:=HY.out;have bO:=aP.out (rr.length*4);have bP:=aP.out (rr.length*4+1);have bQ:=aP.out (rr.length*4+2);have bR:=aP.out (rr.length*4+3);clear t
     go_simp
     refine hK.out _ _ ?_;clear hK K y0 y1 y2 y3 bO bP bQ bR;rw[<-z8h,<-HV.out]
     go_wp2_with fail
     refine Zj 99 (fun X:World=>X.cell? ⟨G.heap.size,0,none⟩=some (.int .i64 k)/\X.cell? ⟨G.heap.size,2,none⟩=some (.int .i64 j')/\X.cell? ⟨G.heap.size,3,none⟩=some (.int .i64 a')) (by kernel_rfl) bN.out (fun t=> ?_);refine Qz 0 t ?_;refine Qz 1 t ?_;refine Qz 2 t ?_;refine Qz 3 t ?_;refine Qz 4 t ?_;refine Qz 6 t ?_;refine Qz 7 t ?_
     (refine Qg 5 (fun K hK=> ?_);go_simp;refine au.out.mono ?_;rintro e7 w7 ⟨rfl,av⟩;go_simp;replace t:=Bh t av;have a1:=hid (aQ.out w7 av);clear av;refine hK.out _ _ t ?_;clear hK K)
     (try simp only[Act.put,List.setIfInBounds_toArray,List.set_cons_zero,List.set_cons_succ])
     refine Qz 8 t ?_;refine Qz 9 t ?_;refine⟨by kernel_rfl,?_⟩;clear t
     go_wp2_with fail
     go_step3
     (try simp only[Exit.inBlock,Exit.then])
     exact⟨rfl,q2,by have:=aW.out;omega,k',a',N,c,_,_,Bp (by rfl),a1⟩
 have ab:=hid (A.out.hM.noted HT.out A.out.hN k i A.out.hk A.out.hi);have bS:=A.out.hR;cases bS with
 |bud D=>
  rw[D]at ab;dsimp only[ntc]at ab
  go_wp2_with fail
  refine ab.out.mono ?_;rintro e U ⟨rfl,ad⟩;have I:=hid (A.out.hM.below ad);clear ad ab
  go_wp2_with fail
  refine Zj 99 (fun X:World=>X.cell? ⟨M,5,none⟩=some (.int .i64 mo)/\X.cell? ⟨M,6,none⟩=some (.int .i64 mo)) (by kernel_rfl) (show _/\_ from⟨(Qj I.out.m 5 _ rfl).1,(Qj I.out.m 6 _ rfl).1⟩) (fun t=> ?_);refine Qz 0 t ?_;refine Qz 1 t ?_;refine Qz 2 t ?_;refine Qz 3 t ?_;refine Qz 4 t ?_;refine Qz 5 t ?_;refine Qz 6 t ?_;refine Qz 7 t ?_;refine Qz 8 t ?_;refine⟨by kernel_rfl,?_⟩;clear t
  go_wp2_with fail
  refine bodyPost_ret (v:=.iface 36 (.int .i64 50)) (by simp[results,Tryz.results40,go_sem]) rfl ?_;exact⟨rfl,I.out.be.drew⟩
 | @noted _ _ _ _ _ e _ q' D Z=>
   rw[D]at ab;dsimp only[ntc]at ab;have HR:Hid (∀w',Below W.heap.size W w'->RJs ops ns ro T mo oso nso rso oc nc rc M NB w0 r q' e N c S v w'):=fun w' hb=>⟨fun x hx=>A.out.hN k i x (by rw[D,hx]),A.out.hN,A.out.hS,A.out.hc,A.out.hl,A.out.hM.below hb,Z⟩
   clear D Z
   go_wp2_with fail
   refine ab.out.mono ?_;rintro e1 U ⟨rfl,ad⟩;have bT:=hid (HR.out U ad);clear ad ab HR
   go_wp2_with fail
   exact⟨q',Nat.lt_succ_self _,e,N,c,S,v,Bp (by rfl),bT⟩
 | @leaf _ _ _ _ _ o _ q' D Z h3 h4 h5=>
   rw[Int.toNat_natCast]at h3;obtain⟨hk,ho⟩:=List.getElem?_eq_some_iff.1 h3;rw[D]at ab;dsimp only[ntc]at ab
   go_wp2_with fail
   refine ab.out.mono ?_;rintro e U ⟨rfl,ad⟩;have I:=hid (A.out.hM.below ad);clear ad ab;have a0:((c:Int) == (mo:Int))=false:=by simp;omega
   have ag:=A.out.hc;have ai:=aF.out;have bU:IntKind.i64.wrap ((c:Int)+1)=(c:Int)+1:=by rw[IntKind.wrap_i64];omega
   obtain⟨V,hV⟩:∃V,V=(U.setCell ⟨M,5,none⟩ (.int .i64 ((c:Int)+1))).drew:=⟨_,rfl⟩;have aa:Hid (MtM ops ns ro T mo oso nso rso oc nc rc M NB w0 N (c+1) S v V):=by
    have:=(I.out.count (c+1)).below B0q.drew;rw[show((c+1:Nat):Int)=(c:Int)+1 by omega]at this;rw[hV];exact this
   obtain⟨g,rfl,hg,so,ae,⟨a2,a3,a4,a5,a6,a7,af⟩,a8,a9⟩:=aa.out.pgw.o k hk;rw[ho,h4]at af;dsimp only[List.length_nil]at af;have ba:=hid (y8j ops ns ro (some ⟨g,0,none⟩) nso rso ops.length oc M T V rfl aa.out.pgw HT.out (Qj aa.out.m 0 _ rfl).1 (Qj aa.out.m 3 _ rfl).1 k hk i A.out.hi (HW.out.cl k hk));have ap:=hid (fun(W':World) (hb:Below V.heap.size V W')=>(aa.out.below hb).note HT.out k i hk A.out.hi (aln T ops[k] i) (fun x hx=>Nat.le_trans (z8g A.out.hi hx) HT.out));obtain⟨E,hE⟩:∃E,E=aln T ops[k] i:=⟨_,rfl⟩;have HR:Hid (∀w',MtM ops ns ro T mo (some ⟨g,0,none⟩) nso rso oc nc rc M NB w0 (Zv N k i E) (c+1) S v w'->RJs ops ns ro T mo (some ⟨g,0,none⟩) nso rso oc nc rc M NB w0 r q' E (Zv N k i E) (c+1) S v w'):=fun w' hm=>by
    have aj:∀x,E=some x->x<=T.size:=fun x hx=>by rw[hE]at hx;exact z8g A.out.hi hx
    refine⟨aj,fun k' i' e' h'=> ?_,A.out.hS,by omega,Nat.le_succ_of_le A.out.hl,hm,by rw[hE,ho];exact h5⟩;by_cases hq:k'=(k:Int)/\i'=i
    ·obtain⟨rfl,rfl⟩:=hq
     rw[Bd]at h';exact aj _ (Option.some.inj h')
    ·rw[Kw hq]at h'
     exact A.out.hN k' i' e' h'
   rw[<-hE]at ba ap;have m5:=Qj I.out.m 5 _ rfl;have lm:M<U.heap.size:=Qq I.out.m;have x5:U.drew.cell? ⟨M,5,none⟩=some (.int .i64 c):=m5.1;have y5:U.drew.frozen? ⟨M,5,none⟩=false:=m5.2;have aC:V.cell? ⟨M,0,none⟩=some (.slice (some ⟨g,0,none⟩) ops.length oc):=(Qj aa.out.m 0 _ rfl).1;have bV:(k:Int)<(ops.length:Int):=by omega
   have lV:M<V.heap.size:=Qq aa.out.m;rw[hV]at aC af lV;have HV:=hid hV;clear D Z h3 h4 h5 hV hE a2 a3 a4 a5 a6 a7 a8 a9 ho ag ai m5
   go_wp2_with fail
   refine Zj 99 (fun X:World=>X.cell? ⟨M,5,none⟩=some (.int .i64 c)/\X.cell? ⟨M,6,none⟩=some (.int .i64 mo)) (by kernel_rfl) (show _/\_ from⟨(Qj I.out.m 5 _ rfl).1,(Qj I.out.m 6 _ rfl).1⟩) (fun t=> ?_);refine Qz 0 t ?_;refine Qz 1 t ?_;refine Qz 2 t ?_;refine Qz 3 t ?_;refine Qz 4 t ?_;refine Qz 5 t ?_;refine Qz 6 t ?_;refine Qz 7 t ?_;refine Qz 8 t ?_;refine⟨by kernel_rfl,?_⟩;clear t
   go_wp2_with fail
   rw[<-HV.out];clear x5 y5 aC af lV lm HV;refine ba.out.mono ?_;rintro e1 G ⟨rfl,al⟩;have bq:=hid (ap.out G al);clear al ba ap
   go_wp2_with fail
   refine bq.out.mono ?_;rintro e2 w3 ⟨rfl,_,br⟩;have bW:=hid (HR.out w3 br);clear br bq HR
   go_wp2_with fail
   exact⟨q',Nat.lt_succ_self _,E,Zv N k i E,c+1,S,v,Bp (by rfl),bW⟩
 | @push _ _ _ _ _ o _ q' D Z h3 h4 h5=>
   rw[Int.toNat_natCast]at h3;obtain⟨hk,ho⟩:=List.getElem?_eq_some_iff.1 h3;rw[D]at ab;dsimp only[ntc]at ab
   go_wp2_with fail
   refine ab.out.mono ?_;rintro e U ⟨rfl,ad⟩;have I:=hid (A.out.hM.below ad);clear ad ab;have a0:((c:Int) == (mo:Int))=false:=by simp;omega
   have ag:=A.out.hc;have ai:=aF.out;have bU:IntKind.i64.wrap ((c:Int)+1)=(c:Int)+1:=by rw[IntKind.wrap_i64];omega
   obtain⟨V,hV⟩:∃V,V=(U.setCell ⟨M,5,none⟩ (.int .i64 ((c:Int)+1))).drew:=⟨_,rfl⟩;have aa:Hid (MtM ops ns ro T mo oso nso rso oc nc rc M NB w0 N (c+1) S v V):=by
    have:=(I.out.count (c+1)).below B0q.drew;rw[show((c+1:Nat):Int)=(c:Int)+1 by omega]at this;rw[hV];exact this
   obtain⟨g,rfl,hg,so,ae,⟨a2,a3,a4,a5,a6,a7,af⟩,a8,a9⟩:=aa.out.pgw.o k hk;rw[ho]at af;obtain⟨L,hL⟩:∃L,L=o.2.2.2.length:=⟨_,rfl⟩;have bs:0<L:=by
    rw[hL];cases ho':o.2.2.2 with
    |nil=>exact absurd ho' h4
    |cons y z=>simp
   rw[<-hL]at af;have ck:(0:Int)<(L:Int):=by omega
   have cm:decide (0<L)=true:=by simpa using bs
   have m5:=Qj I.out.m 5 _ rfl;have lm:M<U.heap.size:=Qq I.out.m;have x5:U.drew.cell? ⟨M,5,none⟩=some (.int .i64 c):=m5.1;have y5:U.drew.frozen? ⟨M,5,none⟩=false:=m5.2;have aC:V.cell? ⟨M,0,none⟩=some (.slice (some ⟨g,0,none⟩) ops.length oc):=(Qj aa.out.m 0 _ rfl).1;have bV:(k:Int)<(ops.length:Int):=by omega
   have lV:M<V.heap.size:=Qq aa.out.m;have bt:V.cell? ⟨M,7,none⟩=some v:=(Qj aa.out.m 7 _ rfl).1;have bu:V.frozen? ⟨M,7,none⟩=false:=(Qj aa.out.m 7 _ rfl).2;rw[hV]at aC af lV bt bu;have HV:=hid hV;obtain⟨iT,bX,bY,bZ,b0⟩:=info_parts Tryz.infoWtr;have b1:Hid (MtM ops ns ro T mo (some ⟨g,0,none⟩) nso rso oc nc rc M NB w0 N (c+1) S v (U.setCell ⟨M,5,none⟩ (.int .i64 ((c:Int)+1)))):=by
    have:=I.out.count (c+1);rw[show((c+1:Nat):Int)=(c:Int)+1 by omega]at this;exact this
   obtain⟨Wn,aD⟩:∃Wn,Wn=((U.setCell ⟨M,5,none⟩ (.int .i64 ((c:Int)+1))).alloc (.cells #[.int .i64 k,.int .i64 i,.int .i64 0,.int .i64 i] 153)).drew:=⟨_,rfl⟩;have ac:Hid (MtM ops ns ro T mo (some ⟨g,0,none⟩) nso rso oc nc rc M NB w0 N (c+1) S v Wn):=by rw[aD];exact b1.out.below (B0q.alloc L0q _).drew
   have bv:Wn.heap[U.heap.size]? =some (.cells #[.int .i64 k,.int .i64 i,.int .i64 0,.int .i64 i] 153):=by rw[aD];exact Qx (U.setCell ⟨M,5,none⟩ (.int .i64 ((c:Int)+1))) _ (by simp)
   have bw:∀j u,([.int .i64 k,.int .i64 i,.int .i64 0,.int .i64 i]:List Value)[j]? =some u->Wn.cell? ((⟨U.heap.size,0,none⟩:Addr).add j)=some u:=World.news_of_block bv;have bx:=hid bw;have b2:=A.out.hl;have bz:Hid (S.length+1<=maxLen/\(S.length+1)*32<=140737488355328):=⟨by unfold maxLen;omega,by omega⟩;have bb:Wn.heap.size=U.heap.size+1:=by rw[aD];simp
   have bA:=hid bb;have bC:=hid aD;have b3:Hid (w0.heap.size<=Wn.heap.size):=ac.out.be.size;have bD:Hid (∀g6 ah w6,w6.ownsRow w0.heap.size 153 4 (.slice (some ⟨g6,0,none⟩) (S.length+1) ah) (S.length+1) (wqV S++[.int .i64 k,.int .i64 i,.int .i64 0,.int .i64 i])->Wn.grownBy w6 v.ownBlock->(v.ownBlock=some g6∨g6=U.heap.size+1)->MtM ops ns ro T mo (some ⟨g,0,none⟩) nso rso oc nc rc M NB w0 N (c+1) (((k:Int),i,0,i)::S) (.slice (some ⟨g6,0,none⟩) (S.length+1) ah) (w6.setCell ⟨M,7,none⟩ (.slice (some ⟨g6,0,none⟩) (S.length+1) ah))):=fun g6 ah w6 D Z h3=>ac.out.push D Z (h3.imp id (fun e=>by rw[e,bb];exact Nat.le_refl _))
   have bE:Hid (∀w6:World,Wn.grownBy w6 v.ownBlock->w6.cell? ⟨M,7,none⟩=some v/\w6.frozen? ⟨M,7,none⟩=false/\M<w6.heap.size):=fun w6 b4=>by
    have e:=(b4.block M (Qq ac.out.m) (fun e=>ac.out.nm e.symm)).trans ac.out.m;exact⟨(Qj e 7 _ rfl).1,(Qj e 7 _ rfl).2,Qq e⟩
   have b5:Hid (0<o.2.2.2.length):=by rw[<-hL];exact bs
   have Ho:=hid ho;have b6:Hid (c+1<=mo):=by show _<=_;omega
   have H5:=hid h5;clear h5 ho hL aD bb bv bw b2;clear D Z h3 h4 hV a2 a3 a4 a5 a6 a7 a8 a9 ag ai m5
   go_wp2_with fail
   refine Zj 99 (fun X:World=>X.cell? ⟨M,5,none⟩=some (.int .i64 c)/\X.cell? ⟨M,6,none⟩=some (.int .i64 mo)) (by kernel_rfl) (show _/\_ from⟨(Qj I.out.m 5 _ rfl).1,(Qj I.out.m 6 _ rfl).1⟩) (fun t=> ?_);refine Qz 0 t ?_;refine Qz 1 t ?_;refine Qz 2 t ?_;refine Qz 3 t ?_;refine Qz 4 t ?_;refine Qz 5 t ?_;refine Qz 6 t ?_;refine Qz 7 t ?_;refine Qz 8 t ?_;refine⟨by kernel_rfl,?_⟩;clear t
   go_wp2_with(first
    |(at_builtin;rw[<-bC.out];refine wpList_append_lies _ rfl (.tmp 54) (.tmp 59) 97 rfl w0.heap.size 153 iT (.agg #[.int .i64 0,.int .i64 0,.int .i64 0,.int .i64 0]) 4 32 Tryz.underlying97 bX bY bZ b0 rfl (by decide) v S.length (wqV S) rfl ac.out.ow ⟨U.heap.size,0,none⟩ 1 1 [.int .i64 k,.int .i64 i,.int .i64 0,.int .i64 i] rfl rfl bx.out (by simp[Value.oneCell']) (by decide) bz.out.1 bz.out.2 b3.out (U.heap.size+1) bA.out ?_;intro g6 ah w6 bF bc bG cn;have aw:=hid (bD.out g6 ah w6 bF bc bG);obtain⟨x7,y7,l7⟩:=bE.out w6 bc;clear bF bc bG bD bE bx ac))
   obtain⟨W6,bH⟩:∃W6,W6=w6.setCell ⟨M,7,none⟩ (.slice (some ⟨g6,0,none⟩) (S.length+1) ah):=⟨_,rfl⟩;rw[<-bH]at aw ⊢;have aE:0<ops[k].2.2.2.length:=by rw[Ho.out];exact b5.out
   obtain⟨k',ar,aM⟩:=HW.out.part hk aE;have au:=hid (z8b ops ns ro (some ⟨g,0,none⟩) nso rso ops.length oc ns.length nc ro.length rc M W6 rfl rfl aw.out.pgw (Qj aw.out.m 0 _ rfl).1 (Qj aw.out.m 2 _ rfl).1 k hk 0 aE (fun h=>HW.out.rf k hk h _ (List.getElem_mem aE)));have b7:Hid (Mch ops ro T mo N (c+1) (((k:Int),i,0,i)::S) (.beg (k':Int) i) r q'):=by rw[<-ar,Ho.out];exact H5.out
   rw[ar]at au;have aQ:Hid (∀w7,Below W6.heap.size W6 w7->MJs ops ns ro T mo (some ⟨g,0,none⟩) nso rso oc nc rc M NB w0 r q' k' i N (c+1) (((k:Int),i,0,i)::S) (.slice (some ⟨g6,0,none⟩) (S.length+1) ah) w7):=fun w7 hb=>by
    refine⟨aM,A.out.hi,A.out.hN,fun x hx=> ?_,b6.out,Nat.succ_le_succ A.out.hl,aw.out.below hb,b7.out⟩;rcases List.mem_cons.1 hx with rfl|hx
    ·exact⟨k,hk,rfl,A.out.hi,aE,A.out.hi⟩
    ·exact A.out.hS x hx
   clear bH aE x7 y7 l7 x5 y5 aC af lV lm bt bu bC bA;refine au.out.mono ?_;rintro e7 w7 ⟨rfl,av⟩;have a1:=hid (aQ.out w7 av);clear av au aQ aw
   go_wp2_with fail
   go_step3
   (try simp only[Exit.then])
   exact⟨rfl,q',Nat.lt_succ_self _,k',i,N,c+1,((k:Int),i,0,i)::S,_,Bp (by rfl),a1⟩
end
end Go.Proofs.YtgnkkgcgbeianaaGreatDoor
