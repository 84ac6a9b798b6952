/- Lemmas for the last text. Conditions: those that each names. -/
import Derived.Test.YtmelafeingcgnaaGreatDoorVLJToSPD
import Derived.Maps.AppendAt
import Derived.Deep.AppendLies
set_option linter.unusedVariables false
set_option maxRecDepth 100000
set_option maxHeartbeats 32000000
namespace Go.Proofs.YtmelafeingcgnaaGreatDoor
open Go.Proofs.Tryz
section
open Go.RowKit Go.Shelf Go.Maps
structure Kx (P:Nat->Prop) (W W':World):Prop where
 os:W'.os=W.os
 tape:W'.tape=W.tape
 output:W'.output=W.output
 size:W.heap.size<=W'.heap.size
 block:∀g,g<W.heap.size->¬P g->W'.heap[g]? =W.heap[g]?
theorem Kx.refl(P:Nat->Prop)(W:World):Kx P W W:=⟨rfl,rfl,rfl,Nat.le_refl _,fun _ _ _=>rfl⟩
theorem Kx.trans{P:Nat->Prop}{a b c:World}(h:Kx P a b)(k:Kx P b c):Kx P a c:=
 ⟨k.os.trans h.os,k.tape.trans h.tape,k.output.trans h.output,Nat.le_trans h.size k.size,fun g o r=>(k.block g (Nat.lt_of_lt_of_le o h.size) r).trans (h.block g o r)⟩
theorem Kx.below{P:Nat->Prop}{W W':World}(h:zB W W'):Kx P W W':=⟨h.os,h.tape,h.output,h.size,fun g o _=>h.block g o⟩
theorem Kx.set{P:Nat->Prop}{a:Addr}(W:World)(h:P a.block)(v:Value):Kx P W (W.setCell a v):=by
 have o:=(Below.refl a.block W).setCell (p:=a) L0q v;exact⟨o.os,o.tape,o.output,o.size,fun g y r=>Below.heap_setCell _ _ _ _ (fun e=>r (by rw[e];exact h))⟩
theorem Kx.grow{P:Nat->Prop}{w W W':World}{r:Option Nat}(h:Kx P w W)(o:W.grownBy W' r)(A:∀g,r=some g->w.heap.size<=g):Kx P w W':=
 ⟨o.os.trans h.os,o.tape.trans h.tape,o.output.trans h.output,Nat.le_trans h.size o.size,fun g y D=>(o.block g (Nat.lt_of_lt_of_le y h.size) (fun e=>by have:=A g e.symm;omega)).trans (h.block g y D)⟩
theorem Kx.to{P:Nat->Prop}{W W':World}{n:Nat}(h:Kx P W W')(o:n<=W.heap.size)(r:∀g,P g->n<=g):Below n W W':=⟨h.os,h.tape,h.output,h.size,fun g y=>h.block g (Nat.lt_of_lt_of_le y o) fun e=>by have:=r g e;omega⟩
def Uh:List (Int×Nat)->List Value
 |[]=>[]
 |x::r=>zI x.1::zI (x.2:Int)::Uh r
theorem z6v:∀a b,Uh (a++b)=Uh a++Uh b
 |[],b=>rfl
 |x::r,b=>by rw[List.cons_append,Uh,Uh,z6v r b];rfl
theorem Tryz.infoPart:(Tryz.prog.info? 136).map (fun i=>(i.zero,i.size,i.bytes))=some (some (.agg #[zI 0,zI 0]),2,16):=by kernel_rfl
@[reducible] def tlO (ol oc nl nc rl rc:Nat) (oso nso rso:Option Addr) (M:Nat) (tv ov:Value) (fd:Nat):Obj:=.cells #[.slice oso ol oc,.slice nso nl nc,.slice rso rl rc,zP M 0,tv,ov,zI (fd:Int)] 74
section
variable (ol oc nl nc rl rc:Nat) (oso nso rso:Option Addr) (M:Nat) (tv ov:Value) (fd t cw ct:Nat) (wb:World)
structure BgI (st:List (Int×Nat)) (W:World):Prop where
 kx:Kx (fun g=>g=t∨g=cw) wb W
 tl:W.heap[t]? =some (tlO ol oc nl nc rl rc oso nso rso M tv ov (fd+st.length))
 bx:∃wv,W.heap[cw]? =some (.cells #[wv] 137)/\W.ownsRow wb.heap.size 136 2 wv st.length (Uh st)
end
section
variable {ol oc nl nc rl rc:Nat} {oso nso rso:Option Addr} {M:Nat} {tv ov:Value} {fd t cw ct:Nat} {wb:World}
theorem BgI.below{r:List (Int×Nat)}{W W':World}(h:BgI ol oc nl nc rl rc oso nso rso M tv ov fd t cw wb r W)(o:zB W W'):BgI ol oc nl nc rl rc oso nso rso M tv ov fd t cw wb r W':=by
 obtain⟨A,y,D⟩:=h.bx;exact⟨h.kx.trans (.below o),(o.block _ (Qq h.tl)).trans h.tl,A,(o.block _ (Qq y)).trans y,Xf D o⟩
theorem y6t(U:zH wb ct (.cells #[zP t 0] 69))(ht:t<wb.heap.size)(aq:cw<wb.heap.size)(h1:t≠cw)(h2:ct≠t)(h3:ct≠cw)(aD:fd<=4096)(q:Nat)(hq:q=4097-fd)(y:List (Int×Nat))(W:World)(r:Int)(f:Nat)(E:BgI ol oc nl nc rl rc oso nso rso M tv ov fd t cw wb y W)(hl:y.length<q):
  Calls prog 94 #[zI r,zI f,zP cw 0,zP ct 0] W fun e w'=>e=.returned (.bool (decide (y.length+1<q)))/\BgI ol oc nl nc rl rc oso nso rso M tv ov fd t cw wb (y++[(r,f)]) w':=by
 obtain⟨iT,ar,au,av,aw⟩:=info_parts Tryz.infoPart;obtain⟨wv,V,Y⟩:=E.bx;obtain⟨sa,ab,rfl⟩:=Yd Y;have b0:=(Qy V).1;have lb:=Qq V;have ax:=E.kx.size;have ai:=(E.kx.block ct (Qq U) (fun h=>by rcases h with h|h;exact h2 h;exact h3 h)).trans U;have ac:∀g,(Value.slice sa y.length ab).ownBlock=some g->wb.heap.size<=g:=fun g h=>(Y.lt g h).1
 obtain⟨D,Z⟩:∃D,D=W.alloc (.cells #[zI r,zI (f:Int)] 136):=⟨_,rfl⟩;have G:zB W D:=by rw[Z];exact(Below.refl _ W).alloc L0q _
 have aj:D.heap[W.heap.size]? =some (.cells #[zI r,zI (f:Int)] 136):=by rw[Z];exact Qx W _ rfl
 have ak:∀j u,([zI r,zI (f:Int)]:List Value)[j]? =some u->D.cell? ((⟨W.heap.size,0,none⟩:Addr).add j)=some u:=World.news_of_block aj;have aa:Hid (∀v4 A,A.ownsRow wb.heap.size 136 2 v4 (y.length+1) (Uh y++[zI r,zI (f:Int)])->D.grownBy A (Value.slice sa y.length ab).ownBlock->(zH A cw (.cells #[.slice sa y.length ab] 137)/\zH A t (tlO ol oc nl nc rl rc oso nso rso M tv ov (fd+y.length))/\zH A ct (.cells #[zP t 0] 69))/\BgI ol oc nl nc rl rc oso nso rso M tv ov fd t cw wb (y++[(r,f)]) ((A.setCell ⟨cw,0,none⟩ v4).setCell ⟨t,6,none⟩ (zI ((fd+y.length:Nat)+1:Int)))):=fun v4 A ho hg=>by
  have ad:∀g o,g<wb.heap.size->zH W g o->zH A g o:=fun g o al h=>(hg.block g (by have:=G.size;omega) (fun e=>by have:=ac g e.symm;omega)).trans ((G.block g (by omega)).trans h)
  have e1:=ad cw _ aq V;have e2:=ad t _ ht E.tl;have e3:=ad ct _ (Qq U) ai;refine⟨⟨e1,e2,e3⟩,?_⟩;have ae:∀g,v4.ownBlock=some g->wb.heap.size<=g:=fun g h=>(ho.lt g h).1
  have e4:(A.setCell ⟨cw,0,none⟩ v4).heap[t]? =some (tlO ol oc nl nc rl rc oso nso rso M tv ov (fd+y.length)):=(Below.heap_setCell _ ⟨cw,0,none⟩ _ _ h1).trans e2;refine⟨((E.kx.trans (.below G)).grow hg ac).trans ((Kx.set (a:=⟨cw,0,none⟩) _ (.inr rfl) _).trans (Kx.set (a:=⟨t,6,none⟩) _ (.inl rfl) _)),?_,v4,?_,?_⟩
  ·rw[List.length_append]
   have:=Qk e4 6 (zI (((fd+y.length:Nat):Int)+1));exact this
  ·exact(Below.heap_setCell _ ⟨t,6,none⟩ _ _ (Ne.symm h1)).trans (Qk e1 0 v4)
  ·rw[List.length_append,z6v]
   exact Xp ho (fun g al=>by
    have h5:=ae g al;have n1:g≠t:=by omega
    have n2:g≠cw:=by omega
    exact(Below.heap_setCell _ ⟨t,6,none⟩ _ _ n1).trans (Below.heap_setCell _ ⟨cw,0,none⟩ _ _ n2))
 have ay:Hid (wb.heap.size<=D.heap.size):=Nat.le_trans ax G.size;have af:=hid (Xf Y G);have am:=hid ak;have az:=hid Z;have aA:y.length<=4096:=by omega
 have ag:Hid (y.length+1<=maxLen/\(y.length+1)*16<=140737488355328):=⟨by unfold maxLen;omega,by omega⟩;obtain⟨F,hF⟩:∃F,F=fd+y.length:=⟨_,rfl⟩;rw[<-hF]at aa;have aE:IntKind.i64.wrap ((F:Int)+1)=(F:Int)+1:=by rw[IntKind.wrap_i64];omega
 have HD:Hid (decide (y.length+1<q)=decide ((F:Int)+1<=4096)):=by
  show _=_;have:(y.length+1<q)↔((F:Int)+1<=4096):=by omega
  simp only[this]
 obtain⟨m,hm⟩:∃m,m=y.length:=⟨_,rfl⟩;rw[<-hm]at af b0 ag;rw[<-hm]at aa;rw[HD.out];have HM:=hid hm;clear V Y Z G aj ak E hF hm aA hl hq ai ac U;have aF:cw≠t:=Ne.symm h1;go_enter func94,ntmps94
 go_wp2_with(first|(at_builtin;rw[<-az.out];refine wpList_append_own_at _ rfl (.tmp 7) (.tmp 11) 137 rfl wb.heap.size 136 iT (.agg #[zI 0,zI 0]) 2 16 Tryz.underlying137 ar au av aw rfl (by decide) _ _ _ rfl af.out ⟨W.heap.size,0,none⟩ 1 1 [zI r,zI (f:Int)] rfl rfl am.out (by simp[Value.oneCell']) ag.out.1 ag.out.2 ay.out ?_;intro v4 A ah ao aB aC;have ap:=hid (aa.out v4 A ah ao);obtain⟨g4,c4,ae⟩:=Vc ah (Nat.succ_pos _);subst ae;obtain⟨⟨d1,d2,d3⟩,_⟩:=ap.out;obtain⟨aG,aH⟩:=Qy d1;obtain⟨aI,aJ⟩:=Qj d2 6 _ rfl;have aK:=(Qy d3).1;have dl:=Qq d1;have aL:=Qq d2;have aM:=Qq d3;clear ah ao aB aC aa am af d1 d2 d3))
 (try simp only[Exit.inBlock,Exit.then])
 refine bodyPost_ret (v:=.bool (decide ((F:Int)+1<=4096))) (by simp[results,Tryz.results94,go_sem]) rfl ?_;exact⟨rfl,ap.out.2⟩
end
end
open Go.RowKit Go.Shelf Go.Maps
theorem Dg{t n o:Nat}{r:Option Addr}{W:World}(h:zC W t 5 (.slice r n o)):
  Calls prog 54 #[zP t 5] W fun e w'=>e=.returned (zI (n:Int))/\w'=W:=by
 have l:=World.block_lt_of_cell? W _ h;go_enter func54,ntmps54
 go_wp2_with fail
 refine bodyPost_ret (v:=zI (n:Int)) (by simp[results,Tryz.results54,go_sem]) rfl ?_;exact⟨rfl,rfl⟩
theorem y6u{t n o:Nat}{r:Option Addr}{W:World}(h:zC W t 5 (.slice r n o))(y:W.frozen? ⟨t,5,none⟩=false)(k:Nat)(A:k<=o):
  Calls prog 56 #[zP t 5,zI (k:Int)] W fun e w'=>e=.returned (.tuple #[])/\w'=W.setCell ⟨t,5,none⟩ (.slice r k o):=by
 have l:=World.block_lt_of_cell? W _ h;have D:(k:Int)<=(o:Int):=by omega
 go_enter func56,ntmps56
 go_wp2_with fail
 (try simp only[Exit.inBlock,Exit.then])
 exact bodyPost_end (v:=.tuple #[]) (by simp[results,Tryz.results56,go_sem]) rfl ⟨rfl,rfl⟩
theorem z0j{t n r g:Nat}{W:World}(h:zC W t 5 (zS g (n+1) r))(A:n<=1048576):
  Calls prog 55 #[zP t 5] W fun e w'=>e=.returned (zP g n)/\zB W w':=by
 have l:=World.block_lt_of_cell? W _ h;have D:IntKind.i64.wrap (((n+1:Nat):Int)-1)=(n:Int):=by rw[IntKind.wrap_i64];omega
 have E:IntKind.i64.wrap ((n:Int)+1-1)=(n:Int):=by rw[IntKind.wrap_i64];omega
 have G:IntKind.i64.wrap (n:Int)=(n:Int):=by rw[IntKind.wrap_i64];omega
 have U:(n:Int)<((n+1:Nat):Int):=by omega
 have V:(n:Int)<(n:Int)+1:=by omega
 have y:Hid (zC W.drew t 5 (zS g (n+1) r)):=h;go_enter func55,ntmps55
 go_wp2_with fail
 refine Qc 99 (fun X:World=>zC X t 5 (zS g (n+1) r)) (by kernel_rfl) y.out (fun o=> ?_);refine Qz 0 o ?_;refine Qz 1 o ?_;refine Qz 2 o ?_;refine Qz 3 o ?_;refine Qz 4 o ?_;refine Qz 5 o ?_;refine Qz 6 o ?_;refine Qz 7 o ?_;refine Qz 8 o ?_;refine Qz 9 o ?_;refine Qz 10 o ?_;refine Qz 11 o ?_;refine⟨by kernel_rfl,?_⟩;clear o
 go_wp2_with fail
 refine bodyPost_ret (v:=zP g n) (by simp[results,Tryz.results55,go_sem]) rfl ?_;exact⟨rfl,(Below.refl _ W).drew⟩
theorem Tryz.infoParts:(Tryz.prog.info? 137).map (fun i=>(i.zero,i.size,i.bytes))=some (some (.slice none 0 0),1,24):=by kernel_rfl
theorem y6v{t n base:Nat}{ov:Value}{xs:List Value}{W:World}(h:zC W t 5 ov)(hf:W.frozen? ⟨t,5,none⟩=false)(Y:W.ownsRow base 137 1 ov n xs)(hn:n<=1048576)(hb:base<=W.heap.size)(aj:ov.ownBlock≠some t)(D:Option Addr)(E G:Nat):
  Calls prog 95 #[zP t 5,.slice D E G] W fun e w'=>e=.returned (.tuple #[])/\∃o r y V,zB W o/\o.grownBy r ov.ownBlock/\r.ownsRow base 137 1 (zS y (n+1) V) (n+1) (xs++[.slice D E G])/\(ov.ownBlock=some y∨o.heap.size<=y)/\w'=r.setCell ⟨t,5,none⟩ (zS y (n+1) V):=by
 obtain⟨iT,ak,al,am,ao⟩:=info_parts Tryz.infoParts;obtain⟨sa,ab,rfl⟩:=Yd Y;have l:t<W.heap.size:=World.block_lt_of_cell? W _ h;obtain⟨o,U⟩:∃o,o=W.alloc (.cells #[.slice D E G] 137):=⟨_,rfl⟩;have A:zB W o:=by rw[U];exact(Below.refl _ W).alloc L0q _
 have ac:o.heap[W.heap.size]? =some (.cells #[.slice D E G] 137):=by rw[U];exact Qx W _ rfl
 have ad:Hid (∀j u,([.slice D E G]:List Value)[j]? =some u->o.cell? ((⟨W.heap.size,0,none⟩:Addr).add j)=some u):=World.news_of_block ac;have ae:=hid (Xf Y A);have ap:Hid (base<=o.heap.size):=Nat.le_trans hb A.size;have af:Hid (n+1<=maxLen/\(n+1)*24<=140737488355328):=⟨by unfold maxLen;omega,by omega⟩;have ag:Hid (∀r:World,o.grownBy r (Value.slice sa n ab).ownBlock->zC r t 5 (.slice sa n ab)/\r.frozen? ⟨t,5,none⟩=false/\t<r.heap.size):=fun r hg=>by
  have e:r.heap[t]? =W.heap[t]? :=(hg.block t (by have:=A.size;omega) (fun e=>aj e.symm)).trans (A.block t l);exact⟨(Vl e).trans h,(by unfold World.frozen? at hf ⊢;rw[e];exact hf),by have:=hg.size;have:=A.size;omega⟩
 have aq:=hid A;have ar:=hid U;have ah:o.heap.size=W.heap.size+1:=by rw[U];simp
 have aw:=hid ah;clear Y U A ac ah;go_enter func95,ntmps95
 go_wp2_with(first|(at_builtin;rw[<-ar.out];refine wpList_append_own_at _ rfl (.tmp 8) (.tmp 10) 70 rfl base 137 iT (.slice none 0 0) 1 24 Tryz.underlying70 ak al am ao rfl (by decide) _ _ _ rfl ae.out ⟨W.heap.size,0,none⟩ 1 1 [.slice D E G] rfl rfl ad.out (by simp[Value.oneCell']) af.out.1 af.out.2 ap.out ?_;intro v4 r Z aa au ai;obtain⟨y,V,av⟩:=Vc Z (Nat.succ_pos _);subst av;obtain⟨d0,d1,d2⟩:=ag.out r aa;have HQ:=hid (And.intro Z (And.intro aa ai));clear Z aa au ai ag ad ae))
 (try simp only[Exit.inBlock,Exit.then])
 refine bodyPost_end (v:=.tuple #[]) (by simp[results,Tryz.results95,go_sem]) rfl ⟨rfl,o,r,y,V,aq.out,HQ.out.2.1,HQ.out.1,?_,rfl⟩;rcases HQ.out.2.2 with e|e
 ·exact .inl e.symm
 ·have e:some y=some o.heap.size:=e
  have:=Option.some.inj e;exact .inr (by omega)
section
abbrev Sp4:=Int×Int×Int×Int
def sp4:List Sp4->List Value
 |[]=>[]
 |x::r=>zI x.1::zI x.2.1::zI x.2.2.1::zI x.2.2.2::sp4 r
theorem z6w:∀a b,sp4 (a++b)=sp4 a++sp4 b
 |[],b=>rfl
 |x::r,b=>by rw[List.cons_append,sp4,sp4,z6w r b];rfl
def Yf(W:World)(B:Nat)(X:Nat->Prop)(e:Value)(l:List (Int×Nat)):Prop:=
 ∃so cap,e=.slice so l.length cap/\l.length<=cap/\(l≠[]->∃g off,so=some ⟨g,off,none⟩/\B<=g/\¬X g/\g<W.heap.size/\∀i (hi:i<l.length),W.cell? ⟨g,off+i*2,none⟩=some (zI l[i].1)/\W.cell? ⟨g,off+i*2+1,none⟩=some (zI (l[i].2:Int)))
theorem Yf.keep{W W':World}{B:Nat}{X o:Nat->Prop}{e:Value}{l:List (Int×Nat)}(h:Yf W B X e l)(G:W.heap.size<=W'.heap.size)(U:∀g,g<W.heap.size->B<=g->¬X g->W'.heap[g]? =W.heap[g]? /\¬o g):Yf W' B o e l:=by
 obtain⟨V,Y,Z,e2,h3⟩:=h;refine⟨V,Y,Z,e2,fun hl=> ?_⟩;obtain⟨g,aa,e4,r,h6,y,A⟩:=h3 hl;obtain⟨D,k2⟩:=U g y r h6;exact⟨g,aa,e4,r,k2,Nat.lt_of_lt_of_le y G,fun i E=>⟨(Vl D).trans (A i E).1,(Vl D).trans (A i E).2⟩⟩
section
variable (B t:Nat)
structure TlC (tv ov:Value) (told:List Sp4) (op:List (List (Int×Nat))) (W:World):Prop where
 bs:B<=W.heap.size
 tw:W.ownsRow B 40 4 tv told.length (sp4 told)
 nt:tv.ownBlock≠some t
 no:ov.ownBlock≠some t
 nn:∀g,tv.ownBlock=some g->ov.ownBlock≠some g
 ex:∃es,W.ownsRow B 137 1 ov op.length es/\∀j (hj:j<op.length),∃e,es[j]? =some e/\Yf W B (fun g=>g=t∨tv.ownBlock=some g∨ov.ownBlock=some g) e op[j]
end
section
variable {B t:Nat} {tv ov:Value} {told:List Sp4} {op:List (List (Int×Nat))} {W W':World}
theorem TlC.kx{P:Nat->Prop}(h:TlC B t tv ov told op W)(r:Kx P W W')(D:∀g,g<W.heap.size->P g->g=t):TlC B t tv ov told op W':=by
 have y:∀g,g<W.heap.size->g≠t->W'.heap[g]? =W.heap[g]? :=fun g o E=>r.block g o fun G=>E (D g o G)
 obtain⟨U,A,V⟩:=h.ex;refine⟨Nat.le_trans h.bs r.size,Xp h.tw (fun g o=>y g (h.tw.lt g o).2 (fun e=>h.nt (by rw[o,e]))),h.nt,h.no,h.nn,U,Xp A (fun g o=>y g (A.lt g o).2 (fun e=>h.no (by rw[o,e]))),fun j Y=> ?_⟩;obtain⟨e,Z,e2⟩:=V j Y;exact⟨e,Z,e2.keep r.size fun g o _ hx=>⟨y g o fun e=>hx (.inl e),hx⟩⟩
theorem TlC.below(h:TlC B t tv ov told op W)(o:zB W W'):TlC B t tv ov told op W':=h.kx (P:=fun _=>False) (.below o) (fun _ _ h=>h.elim)
theorem TlC.tell{y:Value}(h:TlC B t tv ov told op W)(Y:t<W.heap.size)(x:Sp4)(Z:W'.ownsRow B 40 4 y (told.length+1) (sp4 told++sp4 [x]))(D:W.grownBy W' tv.ownBlock)(hw:∀g,y.ownBlock=some g->tv.ownBlock=some g∨W.heap.size<=g):TlC B t y ov (told++[x]) op W':=by
 obtain⟨es,E,h2⟩:=h.ex;have V:∀g,g<W.heap.size->tv.ownBlock≠some g->W'.heap[g]? =W.heap[g]? :=fun g o G=>D.block g o (fun e=>G e.symm)
 have U:∀g,g<W.heap.size->tv.ownBlock≠some g->y.ownBlock≠some g:=fun g o G e=>by
  rcases hw g e with r|r
  ·exact G r
  ·omega
 refine⟨Nat.le_trans h.bs D.size,by rw[List.length_append,z6w];exact Z,U t Y h.nt,h.no,fun g e A=> ?_,es,Xp E (fun g o=>V g (E.lt g o).2 (fun e=>h.nn g e o)),fun j hj=> ?_⟩
 ·exact U g (E.lt g A).2 (fun e3=>h.nn g e3 A) e
 ·obtain⟨e,e1,A⟩:=h2 j hj
  exact⟨e,e1,A.keep D.size fun g o _ hx=>⟨V g o fun e=>hx (.inr (.inl e)),fun aa=>by
   rcases aa with r|r|r
   ·exact hx (.inl r)
   ·exact U g o (fun e=>hx (.inr (.inl e))) r
   ·exact hx (.inr (.inr r))⟩⟩
theorem TlC.push{y:Value}{e:Value}{l:List (Int×Nat)}(h:TlC B t tv ov told op W)(Z:t<W.heap.size)(he:Yf W B (fun g=>g=t∨tv.ownBlock=some g∨ov.ownBlock=some g) e l)(A:List Value)(aa:W.ownsRow B 137 1 ov op.length A/\∀j (D:j<op.length),∃e,A[j]? =some e/\Yf W B (fun g=>g=t∨tv.ownBlock=some g∨ov.ownBlock=some g) e op[j])(ho:W'.ownsRow B 137 1 y (op.length+1) (A++[e]))(E:W.grownBy W' ov.ownBlock)(hw:∀g,y.ownBlock=some g->ov.ownBlock=some g∨W.heap.size<=g):TlC B t tv y told (op++[l]) W':=by
 obtain⟨h1,h2⟩:=aa;have V:∀g,g<W.heap.size->ov.ownBlock≠some g->W'.heap[g]? =W.heap[g]? :=fun g o G=>E.block g o (fun e=>G e.symm)
 have U:∀g,g<W.heap.size->ov.ownBlock≠some g->y.ownBlock≠some g:=fun g o G e=>by
  rcases hw g e with r|r
  ·exact G r
  ·omega
 have Y:∀{e:Value} {l:List (Int×Nat)},Yf W B (fun g=>g=t∨tv.ownBlock=some g∨ov.ownBlock=some g) e l->Yf W' B (fun g=>g=t∨tv.ownBlock=some g∨y.ownBlock=some g) e l:=fun hx=>hx.keep E.size fun g o _ hx=>⟨V g o fun e=>hx (.inr (.inr e)),fun ab=>by
  rcases ab with r|r|r
  ·exact hx (.inl r)
  ·exact hx (.inr (.inl r))
  ·exact U g o (fun e=>hx (.inr (.inr e))) r⟩
 have ac:A.length=op.length:=by have:=h1.1;simpa using this
 refine⟨Nat.le_trans h.bs E.size,Xp h.tw (fun g o=>V g (h.tw.lt g o).2 (h.nn g o)),h.nt,U t Z h.no,fun g e=>U g (h.tw.lt g e).2 (h.nn g e),A++[e],by rw[List.length_append];exact ho,fun j D=> ?_⟩;rw[List.length_append]at D;by_cases hjn:j<op.length
 ·obtain⟨e',e1,e2⟩:=h2 j hjn
  exact⟨e',by rw[List.getElem?_append_left (by omega)];exact e1,by rw[List.getElem_append_left hjn];exact Y e2⟩
 ·obtain rfl:j=op.length:=by simp at D;omega
  exact⟨e,by rw[List.getElem?_append_right (by omega)];simp[ac],by simp;exact Y he⟩
end
end
section
theorem Tryz.infoSpan:(Tryz.prog.info? 40).map (fun i=>(i.zero,i.size,i.bytes))=some (some (.agg #[zI 0,zI 0,zI 0,zI 0]),4,32):=by kernel_rfl
theorem z6x{W W':World}{p0 p1 p2 r y A:Addr}{v0 v1 v2 v3 v4 v5:Value}(h:W.cell? p0=some v0/\W.cell? p1=some v1/\W.cell? p2=some v2/\W.cell? r=some v3/\W.cell? y=some v4/\W.cell? A=some v5)(o:zB W W'):W'.cell? p0=some v0/\W'.cell? p1=some v1/\W'.cell? p2=some v2/\W'.cell? r=some v3/\W'.cell? y=some v4/\W'.cell? A=some v5:=
 ⟨(Dy ⟨h.1,h.2.1,h.2.2.1⟩ o).1,(Dy ⟨h.1,h.2.1,h.2.2.1⟩ o).2.1,z0i h.2.2 o⟩
theorem y6w{W W':World}{p0 p1 p2 o r y:Addr}{v0 v1 v2 v3 v4 v5:Value}{row:Option Nat}(h:W.cell? p0=some v0/\W.cell? p1=some v1/\W.cell? p2=some v2/\W.cell? o=some v3/\W.cell? r=some v4/\W.cell? y=some v5)(A:W.grownBy W' row)(D:some p0.block≠row)(E:some p1.block≠row)(G:some p2.block≠row)(U:some o.block≠row)(V:some r.block≠row)(Y:some y.block≠row):W'.cell? p0=some v0/\W'.cell? p1=some v1/\W'.cell? p2=some v2/\W'.cell? o=some v3/\W'.cell? r=some v4/\W'.cell? y=some v5:=by
 have e:∀{a:Addr} {u:Value},some a.block≠row->W.cell? a=some u->W'.cell? a=some u:=fun{a u} Z h=>(A.cell_far a (World.block_lt_of_cell? W _ h) Z).trans h
 exact⟨e D h.1,e E h.2.1,e G h.2.2.1,e U h.2.2.2.1,e V h.2.2.2.2.1,e Y h.2.2.2.2.2⟩
theorem z6y{w:World}{g:Nat}{a b:Value}{t:TypeId}(h:zH w g (.cells #[a,b] t)):zC w g 0 a/\zC w g 1 b:=⟨(Qj h 0 _ rfl).1,(Qj h 1 _ rfl).1⟩
theorem z0k:∀(l:List (Int×Nat)) (i:Nat) (h:i<l.length),(Uh l)[i*2]? =some (zI l[i].1)/\(Uh l)[i*2+1]? =some (zI (l[i].2:Int))
 |x::r,0,_=>⟨rfl,rfl⟩
 |x::r,i+1,h=>by
  have:=z0k r i (by simpa using h);rw[show(i+1)*2=i*2+1+1 by omega,Uh];exact this
theorem y6x{W:World}{B B':Nat}{X:Nat->Prop}{o:Option Addr}{r:Nat}{l:List (Int×Nat)}(h:W.ownsRow B' 136 2 (.slice o l.length r) l.length (Uh l))(E:B<=B')(G:∀g,B'<=g->¬X g):Yf W B X (.slice o l.length r) l:=by
 refine⟨o,r,rfl,Wk h rfl,fun hl=> ?_⟩;obtain⟨g,c,e,y,U,A⟩:=Kg h (List.length_pos_iff.2 hl);injection e with e _ _
 refine⟨g,0,e,Nat.le_trans E y,G g y,U,fun i D=> ?_⟩;rw[Nat.zero_add];exact⟨A _ _ (z0k l i D).1,A _ _ (z0k l i D).2⟩
section
variable (B:Nat) (wk:World) (ol oc nl nc rl rc:Nat) (oso nso rso:Option Addr) (M t:Nat)
def TlS(told:List Sp4)(op:List (List (Int×Nat)))(fd:Nat)(W:World):Prop:=∃tv ov,zB wk W/\TlC wk.heap.size t tv ov told op W/\W.heap[t]? =some (tlO ol oc nl nc rl rc oso nso rso M tv ov fd)
end
theorem z6z{ops:List Ox}{ns:List ByteArray}{ro:List Int}{T:zA}{mo:Nat}{oso nso rso:Option Addr}{oc nc rc M NB:Nat}{w1 wk:World}{N:Nt}{c:Nat}{v:Value}(mt:MtM ops ns ro T mo oso nso rso oc nc rc M NB w1 N c [] v wk)(a3:T.size<=4096)(hN:∀k i e,N k i=some (some e)->e<=T.size)(hw:OpW ops ro){t:Nat}(aq:wk.heap.size<=t){told:List Sp4}{op:List (List (Int×Nat))}{fd:Nat}{W:World}(hS:TlS wk ops.length oc ns.length nc ro.length rc oso nso rso M t told op fd W)(a4:fd<=4096)(a5:told.length<=4096)(a6:op.length<=4096)(r f:Nat)(hr:r<ro.length)(hf:f<=T.size)(kr:Nat)(bU:ro[r]=(kr:Int))(a7:kr<ops.length)(l:List (Int×Nat))(hl:Vz ops N (.nd (kr:Int)) f l):
  Calls prog 53 #[zP t 0,.agg #[zI r,zI f]] W fun e w'=>e=.returned (.tuple #[])/\TlS wk ops.length oc ns.length nc ro.length rc oso nso rso M t (told++[((r:Int),(f:Int),ndE (N kr f),(op.length:Int))]) (op++[l.take (4097-fd)]) (fd+(l.take (4097-fd)).length) w':=by
 obtain⟨iT,bW,bX,bY,bZ⟩:=info_parts Tryz.infoSpan;obtain⟨tv,ov,aE,hC,aF⟩:=hS;obtain⟨ta,ab,rfl⟩:=Yd hC.tw;obtain⟨b1,a8,-⟩:=hC.ex;obtain⟨V,Y,rfl⟩:=Yd a8;clear a8 b1;have aG:=Qq aF;have ar:Hid (∀g,(Value.slice ta told.length ab).ownBlock=some g->g<W.heap.size):=fun g h=>(hC.tw.lt g h).2
 obtain⟨D,af⟩:∃D,D=(W.alloc (.cells #[zP t 0] 69)).alloc (.cells #[zI (r:Int),zI (f:Int)] 136):=⟨_,rfl⟩;have au:zB W D:=by rw[af];exact((Below.refl _ W).alloc L0q _).alloc (by simp) _
 have e0:D.heap[W.heap.size]? =some (.cells #[zP t 0] 69):=by rw[af];exact(Below.heap_alloc _ _ _ (by simp)).trans (Qx W _ rfl)
 have e1:D.heap[W.heap.size+1]? =some (.cells #[zI (r:Int),zI (f:Int)] 136):=by rw[af];exact Qx _ _ (by simp)
 have aH:D.heap.size=W.heap.size+2:=by rw[af];simp
 have ae:=(au.block _ aG).trans aF;have a9:=hC.below au;have av:=aE.trans (au.mono aE.size);obtain⟨y,aw⟩:∃y,y=W.heap.size:=⟨_,rfl⟩;rw[<-aw]at e0 e1 aH ar;have b2:t<y:=by rw[aw];exact aG
 obtain⟨Z,rfl,b3,aI⟩:=(mt.below av).pgw.r r hr;rw[bU]at aI;have k0:=(Qy e0).1;obtain⟨k1,k2⟩:=z6y e1;have t2:=(Qj ae 2 _ rfl).1;have t3:=(Qj ae 3 _ rfl).1;have t4:=(Qj ae 4 _ rfl).1;have t5:=(Qj ae 5 _ rfl).1;have ba:Hid (zC D.drew y 0 (zP t 0)/\zC D.drew t 2 (zS Z ro.length rc)/\zC D.drew (y+1) 0 (zI (r:Int))/\zC D.drew Z r (zI (kr:Int))):=⟨k0,t2,k1,aI⟩;have bc:Hid (zC D.drew.drew y 0 (zP t 0)/\zC D.drew.drew t 4 (.slice ta told.length ab)/\zC D.drew.drew (y+1) 0 (zI (r:Int))/\zC D.drew.drew (y+1) 1 (zI (f:Int))/\zC D.drew.drew t 3 (zP M 0)/\zC D.drew.drew t 5 (.slice V op.length Y)):=⟨k0,t4,k1,k2,t3,t5⟩;have cc:(r:Int)<(ro.length:Int):=by omega
 obtain⟨Wd,aJ⟩:∃Wd,Wd=D.drew.drew:=⟨_,rfl⟩;have ag:zB D Wd:=by rw[aJ];exact(Below.refl _ D).drew.drew
 have bd:=a9.below ag;have be:=hid bd;have aK:Hid (zH Wd t (tlO ops.length oc ns.length nc ro.length rc oso nso (some ⟨Z,0,none⟩) M (.slice ta told.length ab) (.slice V op.length Y) fd)):=(ag.block t (Qq ae)).trans ae;have aL:Hid (zH Wd y (.cells #[zP t 0] 69)):=(ag.block y (Qq e0)).trans e0;have aM:Hid (Wd.heap[y+1]? =some (.cells #[zI (r:Int),zI (f:Int)] 136)):=(ag.block (y+1) (Qq e1)).trans e1;have aN:=av.trans (ag.mono av.size);have ax:=hid aN;obtain⟨E,hE⟩:∃E,E=ndE (N (kr:Int) f):=⟨_,rfl⟩;obtain⟨l',ak⟩:∃l',l'=l.take (4097-fd):=⟨_,rfl⟩;have bf:=hid ak;rw[<-ak];clear ak;have aO:=hid (Ap (mt.below aN) a3 hN kr f a7 hf);rw[<-hE]at aO ⊢;have bg:=hid af;have bh:=hid aJ;have bi:=hid aw;have aP:=hid (And.intro aH (And.intro b2 (And.intro a5 a6)));have bj:=hid mt;have HN:=hid hN;have bk:=hid hw;have bl:=hid hl;have bm:=hid (And.intro a4 (And.intro hf a7));clear hE af aJ aw aH au e0 e1 ae hC a9 bd aE av aN ag aF k0 k1 k2 t2 t3 t4 t5 aI b3 hl mt hN hw a5 a6 a4 aG;go_enter func53,ntmps53
 go_wp2_with fail
 rw[<-bg.out,<-bi.out];clear bg bi;refine Qc 99 (fun X:World=>zC X y 0 (zP t 0)/\zC X t 2 (zS Z ro.length rc)/\zC X (y+1) 0 (zI (r:Int))/\zC X Z r (zI (kr:Int))) (by kernel_rfl) ba.out (fun o=> ?_);refine Qz 0 o ?_;refine Qz 1 o ?_;refine Qz 2 o ?_;refine Qz 3 o ?_;refine Qz 4 o ?_;refine Qz 5 o ?_;refine Qz 6 o ?_;refine Qz 7 o ?_;refine Qz 8 o ?_;refine Qz 9 o ?_;refine⟨by kernel_rfl,?_⟩;clear o ba
 go_wp2_with fail
 refine Qc 26 (fun X:World=>zC X y 0 (zP t 0)/\zC X t 4 (.slice ta told.length ab)/\zC X (y+1) 0 (zI (r:Int))/\zC X (y+1) 1 (zI (f:Int))/\zC X t 3 (zP M 0)/\zC X t 5 (.slice V op.length Y)) (by kernel_rfl) bc.out (fun o=> ?_);rw[<-bh.out]at o ⊢;clear bc bh;refine Qz 0 o ?_;refine Qz 1 o ?_;refine Qz 2 o ?_;refine Qz 3 o ?_;refine Qz 4 o ?_;refine Qz 5 o ?_;refine Qz 6 o ?_;refine Qz 7 o ?_;refine Qz 8 o ?_;refine Qz 9 o ?_;refine Qz 10 o ?_;refine Qz 11 o ?_;refine Qz 12 o ?_;refine Qz 13 o ?_;refine Qz 14 o ?_;refine Qz 15 o ?_;refine Qz 17 o ?_;refine Qz 18 o ?_;refine Qz 19 o ?_
 (refine Qv 16 (fun K A=> ?_);go_simp;refine aO.out.mono ?_;rintro e w3 ⟨rfl,aQ⟩;go_simp;replace o:=z6x o aQ;have ac:=hid aQ;clear aQ;refine A.out _ _ o ?_;clear A K)
 (try simp only[Act.put,zY])
 (refine Qv 20 (fun K A=> ?_);go_simp;refine(Dg o.2.2.2.2.2).mono ?_;rintro e w4 ⟨rfl,bn⟩;rw[bn];clear bn;go_simp;refine A.out _ _ o ?_;clear A K)
 (try simp only[Act.put,zY])
 refine Qz 21 o ?_;have b4:=ac.out.size;have bo:=hid (be.out.below ac.out);have aR:=(ac.out.block t (Qq aK.out)).trans aK.out;have aS:=(ac.out.block y (Qq aL.out)).trans aL.out;have aT:=(ac.out.block (y+1) (Qq aM.out)).trans aM.out;obtain⟨Wn,al⟩:∃Wn,Wn=w3.alloc (.cells #[zI (r:Int),zI (f:Int),zI E,zI (op.length:Int)] 40):=⟨_,rfl⟩;have ah:zB w3 Wn:=by rw[al];exact(Below.refl _ w3).alloc L0q _
 have bp:Wn.heap.size=w3.heap.size+1:=by rw[al];simp
 have ai:=bo.out.below ah;have bq:Hid (∀j u,([zI (r:Int),zI (f:Int),zI E,zI (op.length:Int)]:List Value)[j]? =some u->Wn.cell? ((⟨w3.heap.size,0,none⟩:Addr).add j)=some u):=World.news_of_block (by rw[al];exact Qx w3 _ rfl);have br:told.length+1<=maxLen:=by have:=aP.out.2.2.1;unfold maxLen;omega
 have bt:(told.length+1)*32<=140737488355328:=by have:=aP.out.2.2.1;omega
 have bu:=hid ai.tw;have aU:Hid (wk.heap.size<=Wn.heap.size):=ai.bs;have ay:=(ah.block t (Qq aR)).trans aR;have aV:=(ah.block y (Qq aS)).trans aS;have aW:=(ah.block (y+1) (Qq aT)).trans aT;have aX:some y≠(Value.slice ta told.length ab).ownBlock:=fun e=>by have:=ar.out _ e.symm;omega
 have az:some (y+1)≠(Value.slice ta told.length ab).ownBlock:=fun e=>by have:=ar.out _ e.symm;omega
 have am:some t≠(Value.slice ta told.length ab).ownBlock:=fun e=>ai.nt e.symm
 have bv:Hid (∀U aa w9,w9.ownsRow wk.heap.size 40 4 (zS U (told.length+1) aa) (told.length+1) (sp4 told++[zI (r:Int),zI (f:Int),zI E,zI (op.length:Int)])->Wn.grownBy w9 (Value.slice ta told.length ab).ownBlock->((Value.slice ta told.length ab).ownBlock=some U∨U=w3.heap.size+1)->TlC wk.heap.size t (zS U (told.length+1) aa) (.slice V op.length Y) (told++[((r:Int),(f:Int),E,(op.length:Int))]) op w9/\zH w9 t (tlO ops.length oc ns.length nc ro.length rc oso nso (some ⟨Z,0,none⟩) M (.slice ta told.length ab) (.slice V op.length Y) fd)/\zH w9 y (.cells #[zP t 0] 69)/\w9.heap[y+1]? =some (.cells #[zI (r:Int),zI (f:Int)] 136)/\zB wk w9):=fun U aa w9 ho hg ha=>by
  refine⟨ai.tell (Qq ay) ((r:Int),(f:Int),E,(op.length:Int)) ho hg (fun g e=> ?_),(hg.block t (Qq ay) am).trans ay,(hg.block y (Qq aV) aX).trans aV,(hg.block (y+1) (Qq aW) az).trans aW,?_⟩
  ·have e:U=g:=Option.some.inj e
   subst e;rcases ha with h|h
   ·exact .inl h
   ·exact .inr (by omega)
  ·exact((ax.out.trans (ac.out.mono ax.out.size)).trans (ah.mono (Nat.le_trans ax.out.size ac.out.size))).grown hg aU.out (fun g e=>(ai.tw.lt g e).1)
 have aY:=hid al;have bw:=hid bp;clear al ah ai ay aV aW aR aS aT bo aO be aK aL aM ax ac b4 bp
 (refine Qv 22 (fun K A=> ?_);go_simp;rw[<-aY.out];replace o:=z6x o (by rw[aY.out];exact(Below.refl _ w3).alloc L0q _:zB w3 Wn);refine A.out _ _ o ?_;clear A K)
 (try simp only[Act.put,zY])
 (refine Qv 23 (fun K A=> ?_);refine step_append_lies _ rfl (.tmp 19) (.tmp 37) 29 rfl wk.heap.size 40 iT (.agg #[zI 0,zI 0,zI 0,zI 0]) 4 32 Tryz.underlying29 bW bX bY bZ rfl (by decide) (.slice ta told.length ab) told.length (sp4 told) (by rfl) bu.out ⟨w3.heap.size,0,none⟩ 1 1 [zI (r:Int),zI (f:Int),zI E,zI (op.length:Int)] (by rfl) rfl bq.out (by simp[Value.oneCell']) (by decide) br bt aU.out (w3.heap.size+1) bw.out ?_;intro U aa w9 bz aZ bA cd;replace o:=y6w o aZ aX am az az am am;have aA:=hid (bv.out U aa w9 bz aZ bA);clear bz aZ bA bv;refine A.out _ _ o ?_;clear A K)
 (try simp only[Act.put,zY])
 (refine Qv 24 (fun K A=> ?_);go_simp;refine A.out _ _ o ?_;clear A K)
 (try simp only[Act.put,zY])
 refine Qz 25 o ?_;refine Yj (fun K A=> ?_);obtain⟨s4,f4⟩:=Qj aA.out.2.1 4 _ rfl;have ls:=Qq aA.out.2.1;clear o
 go_simp
 refine A.out _ _ ?_;clear A K s4 f4 ls bq bu aU aY bw br bt aX az am;obtain⟨G,aB⟩:∃G,G=w9.setCell ⟨t,4,none⟩ (zS U (told.length+1) aa):=⟨_,rfl⟩;rw[<-aB];obtain⟨c9,t9,z0,z1,a0⟩:=aA.out;have kV:Kx (fun g=>g=t) w9 G:=by rw[aB];exact Kx.set (P:=fun g=>g=t) (a:=⟨t,4,none⟩) w9 rfl _
 have cV:=c9.kx kV (fun g _ h=>h);have tV:zH G t (tlO ops.length oc ns.length nc ro.length rc oso nso (some ⟨Z,0,none⟩) M (zS U (told.length+1) aa) (.slice V op.length Y) fd):=by rw[aB];exact Qk t9 4 _
 have ad:=(kV.block y (Qq z0) (by omega)).trans z0;have aj:=(kV.block (y+1) (Qq z1) (by omega)).trans z1;have bV:zB wk G:=a0.trans (kV.to a0.size (fun g h=>by rw[h];exact aq));obtain⟨W5,aC⟩:∃W5,W5=G.alloc (.cells #[.slice none 0 0] 137):=⟨_,rfl⟩;have b5:zB G W5:=by rw[aC];exact(Below.refl _ G).alloc L0q _
 have n5:W5.heap[G.heap.size]? =some (.cells #[.slice none 0 0] 137):=by rw[aC];exact Qx G _ rfl
 have lV:=Qq tV;have bC:=Qq ad;have bD:=(b5.block y bC).trans ad;have hI:BgI ops.length oc ns.length nc ro.length rc oso nso (some ⟨Z,0,none⟩) M (zS U (told.length+1) aa) (.slice V op.length Y) fd t G.heap.size W5 [] W5:=⟨.refl _ _,(b5.block t lV).trans tV,.slice none 0 0,n5,World.ownsRow_nil _ _ _ _⟩;have l5:=Qq n5;have b7:G.heap.size<=W5.heap.size:=b5.size;have bE:ShI ops ns ro T mo oso nso (some ⟨Z,0,none⟩) oc nc rc M NB w1 N c v t (4097-fd) G.heap.size y (BgI ops.length oc ns.length nc ro.length rc oso nso (some ⟨Z,0,none⟩) M (zS U (told.length+1) aa) (.slice V op.length Y) fd t G.heap.size W5):=by
  refine⟨fun st W' h=>⟨(Qj h.tl 0 _ rfl).1,(Qj h.tl 3 _ rfl).1,bj.out.below ?_⟩,fun st W' ce h hb=>h.below hb,fun st W' r' f' h ak=>y6t bD (by omega) l5 (by omega) (by omega) (by omega) bm.out.1 _ rfl st W' r' f' h ak⟩;have b6:=bV.trans (b5.mono bV.size);exact b6.trans (h.kx.to b6.size (fun g h'=>by rcases h' with h'|h'<;>rw[h'];exact aq;exact bV.size))
 have hV:=y6s bE bj.out.pg a3 HN.out bk.out bl.out hf (by omega) [] W5 hI (by have:=bm.out.1;simp;omega);have HV:=hid hV;have bF:=hid (And.intro cV (And.intro tV (And.intro ad (And.intro aj (And.intro bV b5)))));have bG:=hid aC;have k0:=(Qy ad).1;have k1:=(z6y aj).2;have b8:=Qq aj;clear hV bE hI aB kV cV tV ad aj bV b5 n5 c9 t9 z0 z1 a0 aA aC bD HN bk bl ar
 go_wp2_with fail
 rw[<-bG.out];refine HV.out.mono ?_;rintro e w6 ⟨bb,rfl,H6⟩;have ao:Hid (BgI ops.length oc ns.length nc ro.length rc oso nso (some ⟨Z,0,none⟩) M (zS U (told.length+1) aa) (.slice V op.length Y) fd t G.heap.size W5 (l.take (4097-fd)) w6):=by
  rcases H6.out with⟨_,h1,h2⟩|⟨_,h1,h2⟩
  ·rw[List.nil_append]at h2
   show BgI _ _ _ _ _ _ _ _ _ _ _ _ _ _ _ _ _ _;rw[List.take_of_length_le (by simp at h1;omega)];exact h2
  ·exact hid (by simpa using h2)
 clear H6 HV k0 k1 b8;obtain⟨cV,tV,ad,aj,bV,b5⟩:=bF.out;rw[<-bf.out]at ao;have aD:Kx (fun g=>g=t∨g=G.heap.size) G w6:=(Kx.below b5).trans ao.out.kx;have c6:=(cV.kx aD (fun g hg h=>h.resolve_right (by omega))).below (Below.refl _ w6).drew;have b6:zB wk w6:=bV.trans (aD.to bV.size (fun g h=>by rcases h with h|h<;>rw[h];exact aq;exact bV.size));have bH:=(aD.block y bC (fun h=>by rcases h with h|h<;>omega)).trans ad;obtain⟨es,a1,bI⟩:=c6.ex;obtain⟨wv,bJ,a2⟩:=ao.out.bx;obtain⟨wa,ap,rfl⟩:=Yd a2;have t6:=ao.out.tl;obtain⟨bK,bL⟩:=Qj t6 5 _ rfl;have bM:Yf w6 wk.heap.size (fun g=>g=t∨(Value.slice (some ⟨U,0,none⟩) (told.length+1) aa).ownBlock=some g∨(Value.slice V op.length Y).ownBlock=some g) (.slice wa l'.length ap) l':=by
  refine y6x a2 (Nat.le_trans bV.size b7) fun g hg hx=> ?_
  obtain⟨cf,b9,_⟩:=cV.ex;rcases hx with hx|hx|hx
  ·omega
  ·have:=(cV.tw.lt g hx).2;omega
  ·have:=(b9.lt g hx).2;omega
 have HP:=hid (y6v (W:=w6.drew) (t:=t) bK bL a1 (by have:=aP.out.2.2.2;omega) c6.bs c6.no wa l'.length ap);have bN:Hid (∀(W2 w8:World) (g4 c4:Nat),Below w6.drew.heap.size w6.drew W2->W2.grownBy w8 (Value.slice V op.length Y).ownBlock->w8.ownsRow wk.heap.size 137 1 (zS g4 (op.length+1) c4) (op.length+1) (es++[.slice wa l'.length ap])->((Value.slice V op.length Y).ownBlock=some g4∨W2.heap.size<=g4)->TlS wk ops.length oc ns.length nc ro.length rc oso nso (some ⟨Z,0,none⟩) M t (told++[((r:Int),(f:Int),E,(op.length:Int))]) (op++[l']) (fd+l'.length) (w8.setCell ⟨t,5,none⟩ (zS g4 (op.length+1) c4))):=fun W2 w8 g4 c4 h1 h2 h3 h4=>by
  have bO:=c6.below h1;have ca:=bM.keep (W':=W2) h1.size (fun g hg _ hx=>⟨h1.block g hg,hx⟩);have bP:W2.ownsRow wk.heap.size 137 1 (.slice V op.length Y) op.length es/\∀j (hj:j<op.length),∃e,es[j]? =some e/\Yf W2 wk.heap.size (fun g=>g=t∨(Value.slice (some ⟨U,0,none⟩) (told.length+1) aa).ownBlock=some g∨(Value.slice V op.length Y).ownBlock=some g) e op[j]:=⟨Xf a1 h1,fun j hj=>by
   obtain⟨e,e1,e2⟩:=bI j hj;exact⟨e,e1,e2.keep h1.size fun g hg _ hx=>⟨h1.block g hg,hx⟩⟩⟩
  have bQ:t<w6.drew.heap.size:=Qq t6;have bR:t<W2.heap.size:=Nat.lt_of_lt_of_le bQ h1.size;have c8:=bO.push bR ca es bP h3 h2 (fun g e=>by
   have e:g4=g:=Option.some.inj e;subst e;exact h4)
  have t8:zH w8 t (tlO ops.length oc ns.length nc ro.length rc oso nso (some ⟨Z,0,none⟩) M (zS U (told.length+1) aa) (.slice V op.length Y) (fd+l'.length)):=(h2.block t bR (fun e=>bO.no e.symm)).trans ((h1.block t bQ).trans t6);have bS:zB wk W2:=b6.drew.trans (h1.mono b6.drew.size);exact⟨_,_,(bS.grown h2 bS.size (fun g e=>(bP.1.lt g e).1)).setCell (p:=⟨t,5,none⟩) aq _,c8.kx (Kx.set (P:=fun g=>g=t) (a:=⟨t,5,none⟩) w8 rfl _) (fun g _ h=>h),Qk t8 5 _⟩
 have cb:Hid (zC w6.drew y 0 (zP t 0)/\zC w6.drew G.heap.size 0 (.slice wa l'.length ap)):=⟨(Qy bH).1,(Qy bJ).1⟩;clear bF cV tV ad aj bV b5 bf aD c6 b6 bH a1 bI bJ a2 t6 bK bL bM ao bG
 go_wp2_with fail
 refine Qc 4 (fun X:World=>zC X y 0 (zP t 0)/\zC X G.heap.size 0 (.slice wa l'.length ap)) (by kernel_rfl) cb.out (fun o=> ?_);refine Qz 3 o ?_
 (refine Qv 0 (fun K A=> ?_);go_simp;refine A.out _ _ o ?_;clear A K)
 (try simp only[Act.put,zY])
 (refine Qv 1 (fun K A=> ?_);go_simp;refine A.out _ _ o ?_;clear A K)
 (try simp only[Act.put,zY])
 refine Qz 2 o ?_;refine Yj (fun K A=> ?_);clear o
 go_simp
 refine HP.out.mono ?_;rintro e w7 ⟨rfl,W2,w8,g4,c4,q1,q2,q3,q4,bT⟩;have HF:=hid (bN.out W2 w8 g4 c4 q1 q2 q3 q4);rw[<-bT]at HF;clear q1 q2 q3 q4 bT bN HP
 go_simp
 refine A.out _ _ ?_;clear A K
 go_wp2_with fail
 (try simp only[Exit.inBlock,Exit.then])
 exact bodyPost_end (v:=.tuple #[]) (by simp[results,Tryz.results53,go_sem]) rfl ⟨rfl,HF.out⟩
end
section
section
variable (ops:List Ox) (ro:List Int) (T:ByteArray) (N:Nt)
def GoP(y:Int×Nat):Prop:=∃(r kr z:Nat) (hr:r<ro.length),y.1=(r:Int)/\ro[r]=(kr:Int)/\kr<ops.length/\y.2<=T.size/\N kr y.2=some (some z)
inductive TlR:List Sp4->List (List (Int×Nat))->Nat->Option (List Sp4)->Prop
 |over {told op fd}:4096<fd->TlR told op fd none
 |fin {told fd}:fd<=4096->TlR told [] fd (some told)
 |pop {told op fd r}:fd<=4096->TlR told op fd r->TlR told (op++[[]]) fd r
 |on {told op fd r} {rr kr:Nat} {f:Nat} {rest l:List (Int×Nat)} (hr:rr<ro.length):fd<=4096->ro[rr]=(kr:Int)->kr<ops.length->f<=T.size->Vz ops N (.nd (kr:Int)) f l->TlR (told++[((rr:Int),(f:Int),ndE (N kr f),(op.length:Int)+1)]) (op++[rest]++[l.take (4097-fd)]) (fd+(l.take (4097-fd)).length) r->TlR told (op++[((rr:Int),f)::rest]) fd r
end
def Jw(op:List (List (Int×Nat))):Nat:=(op.map List.length).sum
theorem Db(a b:List (List (Int×Nat))):Jw (a++b)=Jw a+Jw b:=by unfold Jw;rw[List.map_append,List.sum_append]
section
variable {ops:List Ox} {ro:List Int} {T:ByteArray} {N:Nt}
theorem z0l(hP:∀y,GoP ops ro T N y->∀(r E:Nat) (Z:r<ro.length),y.1=(r:Int)->ro[r]=(E:Int)->∃l,Vz ops N (.nd (E:Int)) y.2 l/\∀y'∈l,GoP ops ro T N y'):∀(m:Nat) (told:List Sp4) (op:List (List (Int×Nat))) (fd:Nat),2*(4097-told.length)+op.length<=m->fd=told.length+Jw op->(∀p∈op,∀y∈p,GoP ops ro T N y)->∃r,TlR ops ro T N told op fd r/\∀A,r=some A->told.length<=A.length/\A.length<=4096
 |m,told,op,fd,hm,hf,hg=>by
  by_cases U:4096<fd
  ·exact⟨none,.over U,fun A h=>by cases h⟩
  have U:fd<=4096:=by omega
  rcases List.eq_nil_or_concat op with rfl|⟨G,p,rfl⟩
  ·exact⟨_,.fin U,fun A h=>by cases h;have:Jw []=0:=rfl;omega⟩
  rw[List.concat_eq_append]at hm hf hg ⊢;have hs:Jw (G++[p])=Jw G+p.length:=by rw[Db];rfl
  rw[List.length_append]at hm;simp only[List.length_cons,List.length_nil]at hm;cases m with
  |zero=>omega
  |succ m=>
   cases p with
   |nil=>
    obtain⟨r,h1,h2⟩:=z0l hP m told G fd (by omega) (by rw[hf,hs];rfl) (fun p o=>hg p (by simp[o]));exact⟨r,.pop U h1,h2⟩
   |cons y rest=>
    have D:=hg (y::rest) (by simp) y (by simp);obtain⟨V,E,z,Z,Y,e2,e3,e4,e5⟩:=D;obtain⟨l,hl,aa⟩:=hP y ⟨V,E,z,Z,Y,e2,e3,e4,e5⟩ V E Z Y e2;obtain⟨y1,f⟩:=y;have Y:y1=(V:Int):=Y;subst Y;rw[List.length_cons]at hs;obtain⟨r,h1,h2⟩:=z0l hP m (told++[((V:Int),(f:Int),ndE (N E f),(G.length:Int)+1)]) (G++[rest]++[l.take (4097-fd)]) (fd+(l.take (4097-fd)).length) (by simp;omega) (by
     rw[Db,Db,List.length_append];show _=_+1+(Jw G+(rest.length+0)+((l.take (4097-fd)).length+0));omega) (fun p o y D=>by
     rcases List.mem_append.1 o with o|o
     ·rcases List.mem_append.1 o with o|o
      ·exact hg p (by simp[o]) y D
      ·rw[List.mem_singleton.1 o]at D
       exact hg ((((V:Int),f))::rest) (by simp) y (by simp[D])
     ·rw[List.mem_singleton.1 o]at D
      exact aa y (List.mem_of_mem_take D))
    refine⟨r,.on Z U e2 e3 e4 hl h1,fun A h=> ?_⟩;obtain⟨h3,h4⟩:=h2 A h;rw[List.length_append]at h3;simp at h3;exact⟨by omega,h4⟩
end
section
variable {B t:Nat} {tv ov:Value} {told:List Sp4} {op:List (List (Int×Nat))} {W W':World}
theorem TlC.last{p:List (Int×Nat)}(h:TlC B t tv ov told (op++[p]) W):∃g y o e,ov=.slice (some ⟨g,0,none⟩) (op.length+1) y/\g≠t/\g<W.heap.size/\op.length+1<=y/\B<=g/\W.ownsRow B 137 1 ov (op.length+1) (o++[e])/\o.length=op.length/\W.cell? ⟨g,op.length,none⟩=some e/\W.frozen? ⟨g,op.length,none⟩=false/\Yf W B (fun g=>g=t∨tv.ownBlock=some g∨ov.ownBlock=some g) e p/\∀j (A:j<op.length),∃e,o[j]? =some e/\Yf W B (fun g=>g=t∨tv.ownBlock=some g∨ov.ownBlock=some g) e op[j]:=by
 obtain⟨o,r,G⟩:=h.ex;have hl:(op++[p]).length=op.length+1:=by simp
 rw[hl]at r;obtain⟨g,y,rfl⟩:=Vc r (Nat.succ_pos _);have aa:o.length=op.length+1:=by have:=r.1;simpa using this
 obtain⟨e,D,Y⟩:=G op.length (by simp);have Z:o=o.take op.length++[e]:=by
  have U:op.length<o.length:=by omega
  have E:o[op.length]=e:=by rw[List.getElem?_eq_getElem U]at D;exact Option.some.inj D
  conv=>lhs;rw[<-List.take_append_drop op.length o,List.drop_eq_getElem_cons U,E,List.drop_eq_nil_of_le (by omega)]
 have hc:W.cell? ⟨g,op.length,none⟩=some e:=by rw[r.cellAt op.length (by omega)];exact D
 refine⟨g,y,o.take op.length,e,rfl,fun e=>h.no (by rw[e];rfl),(r.lt g rfl).2,Wk r rfl,(r.lt g rfl).1,by rw[<-Z];exact r,by rw[List.length_take];omega,hc,r.frozenAt _,?_,fun j A=> ?_⟩
 ·have:(op++[p])[op.length]'(by simp)=p:=by simp
  rw[<-this];exact Y
 ·obtain⟨e',E,V⟩:=G j (by simp;omega)
  rw[List.getElem_append_left A]at V;exact⟨e',by rw[List.getElem?_take_of_lt A];exact E,V⟩
end
end
section
section
variable {B t:Nat} {tv ov:Value} {told:List Sp4} {op:List (List (Int×Nat))} {W W':World}
theorem TlC.drop{p:List (Int×Nat)}{g o:Nat}(h:TlC B t tv (zS g (op.length+1) o) told (op++[p]) W):TlC B t tv (zS g op.length o) told op W:=by
 obtain⟨D,E,r,e,G,U,V,Y,Z,y,h7,h8,h9,aa,A⟩:=h.last;exact⟨h.bs,h.tw,h.nt,h.no,h.nn,r,ownsRow_pop (by omega) y,A⟩
theorem TlC.tail{p E:List (Int×Nat)}{g A:Nat}{r:Value}(h:TlC B t tv (zS g (op.length+1) A) told (op++[p]) W)(he:Yf W B (fun o=>o=t∨tv.ownBlock=some o∨(Value.slice (some ⟨g,0,none⟩) (op.length+1) A).ownBlock=some o) r E):TlC B t tv (zS g (op.length+1) A) told (op++[E]) (W.setCell ⟨g,op.length,none⟩ r):=by
 obtain⟨o,ac,D,e,h1,h2,h3,h4,h5,h6,G,h8,h9,ad,aa⟩:=h.last;have U:W.heap.size<=(W.setCell ⟨g,op.length,none⟩ r).heap.size:=((Below.refl g W).setCell (p:=⟨g,op.length,none⟩) L0q _).size;have V:∀b,b≠g->(W.setCell ⟨g,op.length,none⟩ r).heap[b]? =W.heap[b]? :=fun b y=>Below.heap_setCell _ ⟨g,op.length,none⟩ _ _ y
 have Y:∀{x:Value} {l:List (Int×Nat)},Yf W B (fun o=>o=t∨tv.ownBlock=some o∨(Value.slice (some ⟨g,0,none⟩) (op.length+1) A).ownBlock=some o) x l->Yf (W.setCell ⟨g,op.length,none⟩ r) B (fun o=>o=t∨tv.ownBlock=some o∨(Value.slice (some ⟨g,0,none⟩) (op.length+1) A).ownBlock=some o) x l:=fun hx=>hx.keep U fun b _ _ y=>⟨V b fun e=>y (.inr (.inr (by rw[e];rfl))),y⟩
 have Z:=(h6.stored op.length r).1;have ab:(D++[e]).set op.length r=D++[r]:=by rw[<-G,List.set_append_right _ _ L0q];simp
 rw[ab]at Z;refine⟨Nat.le_trans h.bs U,Xp h.tw (fun b y=>V b fun e=>h.nn b y (by rw[e];rfl)),h.nt,h.no,h.nn,D++[r],by simpa using Z,fun j hj=> ?_⟩;by_cases hjn:j<op.length
 ·obtain⟨x,e1,e2⟩:=aa j hjn
  exact⟨x,by rw[List.getElem?_append_left (by omega)];exact e1,by rw[List.getElem_append_left hjn];exact Y e2⟩
 ·obtain rfl:j=op.length:=by simp at hj;omega
  exact⟨r,by rw[List.getElem?_append_right (by omega)];simp[G],by simp;exact Y he⟩
end
def slL(v:Value):Nat:=match v with| .slice _ n _=>n|_=>0
def tlm(t:Nat)(w:World):Nat:=2*(4097-slL ((w.cell? ⟨t,4,none⟩).getD (zI 0)))+slL ((w.cell? ⟨t,5,none⟩).getD (zI 0))
def TeQ(wk:World)(r:Option (List Sp4))(e:Ending)(w':World):Prop:=zB wk w'/\match r with
 |none=>e=.returned (.tuple #[.slice none 0 0,.iface 34 (zI 50)])
 |some ts=>∃tv,e=.returned (.tuple #[tv,.nilIface])/\w'.ownsRow wk.heap.size 40 4 tv ts.length (sp4 ts)
section
variable {wk:World} {ol oc nl nc rl rc:Nat} {oso nso rso:Option Addr} {M t:Nat} {told:List Sp4} {op:List (List (Int×Nat))} {fd:Nat} {W:World}
theorem z0m(h:TlS wk ol oc nl nc rl rc oso nso rso M t told op fd W):tlm t W=2*(4097-told.length)+op.length:=by
 obtain⟨tv,ov,_,o,r⟩:=h;obtain⟨A,D,rfl⟩:=Yd o.tw;obtain⟨E,y,_⟩:=o.ex;obtain⟨G,U,rfl⟩:=Yd y;unfold tlm;rw[(Qj r 4 _ rfl).1,(Qj r 5 _ rfl).1];rfl
end
theorem y6y{ops:List Ox}{ns:List ByteArray}{ro:List Int}{T:zA}{mo:Nat}{oso nso rso:Option Addr}{oc nc rc M NB:Nat}{w1 wk:World}{N:Nt}{c:Nat}{v:Value}(mt:MtM ops ns ro T mo oso nso rso oc nc rc M NB w1 N c [] v wk)(ay:T.size<=4096)(hN:∀k i e,N k i=some (some e)->e<=T.size)(hw:OpW ops ro){t:Nat}(ap:wk.heap.size<=t){W:World}(hb:zB wk W)(y:zH W t (tlO ops.length oc ns.length nc ro.length rc oso nso rso M (.slice none 0 0) (.slice none 0 0) 0))(hr:0<ro.length)(kr:Nat)(aZ:ro[0]=(kr:Int))(a0:kr<ops.length)(l:List (Int×Nat))(hl:Vz ops N (.nd (kr:Int)) 0 l)(r:Option (List Sp4))(hR:TlR ops ro T N [((0:Int),(0:Int),ndE (N kr 0),(0:Int))] [l.take 4096] (1+(l.take 4096).length) r):
  Calls prog 24 #[zP t 0] W (TeQ wk r):=by
 obtain⟨W1,az⟩:∃W1,W1=W.setCell ⟨t,6,none⟩ (zI 1):=⟨_,rfl⟩;have aJ:TlS wk ops.length oc ns.length nc ro.length rc oso nso rso M t [] [] 1 W1:=by
  rw[az];have aK:=hb.setCell (p:=⟨t,6,none⟩) ap (zI 1);exact⟨.slice none 0 0,.slice none 0 0,aK,⟨aK.size,World.ownsRow_nil _ _ _ _,(fun h=>by cases h),(fun h=>by cases h),(fun g h=>by cases h),[],World.ownsRow_nil _ _ _ _,(fun j hj=>by simp at hj)⟩,Qk y 6 _⟩
 have HB:=hid (z6z mt ay hN hw ap aJ (by decide) (by decide) (by decide) 0 0 hr (Nat.zero_le _) kr aZ a0 l hl);have ai:=hid (fun(told:List Sp4) (op:List (List (Int×Nat))) (fd:Nat) (W':World) (h:TlS wk ops.length oc ns.length nc ro.length rc oso nso rso M t told op fd W') (Y:fd<=4096) (h2:told.length<=4096) (h3:op.length<=4096) (rr f aq:Nat) (a1:rr<ro.length) (hf:f<=T.size) (e1:ro[rr]=(aq:Int)) (e2:aq<ops.length) (l':List (Int×Nat)) (a2:Vz ops N (.nd (aq:Int)) f l')=>z6z mt ay hN hw ap h Y h2 h3 rr f a1 hf aq e1 e2 l' a2);obtain⟨t6,f6⟩:=Qj y 6 _ rfl;have a3:=Qq y;have aL:=hid az;have HR:=hid hR;clear az aJ mt hN hw hb hR hl y ay;go_enter func24,ntmps24
 go_wp2_with fail
 rw[<-aL.out];clear aL t6 f6 a3;refine HB.out.mono ?_;rintro e w2 ⟨rfl,h2⟩;have H2:=hid h2;clear h2 HB
 go_wp2_with fail
 go_loopw [4] (fun rv wr=>∃(told:List Sp4) (op:List (List (Int×Nat))) (fd:Nat),op.length<=told.length/\Hid (fd=told.length+Jw op)/\Hid (TlS wk ops.length oc ns.length nc ro.length rc oso nso rso M t told op fd wr)/\Hid (TlR ops ro T N told op fd r)) (fun _ wr=>tlm t wr)
 case atStart=>exact⟨[((0:Int),(0:Int),ndE (N kr 0),(0:Int))],[l.take 4096],1+(l.take 4096).length,Nat.le_refl _,rfl,H2,HR⟩
 case round=>
  obtain⟨told,op,fd,aM,af,HS,aj⟩:=hrel;clear H2 HR;have aN:=z0m HS.out;obtain⟨tv,ov,ab,E,y⟩:=HS.out;obtain⟨ta,aA,rfl⟩:=Yd E.tw;obtain⟨a4,aO,-⟩:=E.ex;obtain⟨oa,ak,rfl⟩:=Yd aO;clear aO a4;have t4:zC wr t 4 (.slice ta told.length aA):=(Qj y 4 _ rfl).1;have A:zC wr t 5 (.slice oa op.length ak):=(Qj y 5 _ rfl).1;have f5:=(Qj y 5 _ rfl).2;have t6:zC wr t 6 (zI (fd:Int)):=(Qj y 6 _ rfl).1;have ar:=Qq y;have a5:=aj.out;cases a5 with
  |over au=>
   have b6:decide ((fd:Int)<=4096)=false:=by simp;omega
   have b7:decide (4096<(fd:Int))=true:=by simp;omega
   have U:=hid ab;clear E aj HS y af ab ai;cases op with
   |nil=>
    go_wp2_with fail
    refine(Dg A).mono ?_;rintro e w3 ⟨rfl,rfl⟩;have b8:decide ((0:Int)<(([]:List (List (Int×Nat))).length:Int))=false:=rfl
    go_wp2_with fail
    refine bodyPost_ret (v:=.tuple #[.slice none 0 0,.iface 34 (zI 50)]) (by simp[results,Tryz.results24,go_sem]) rfl ?_;exact⟨U.out,rfl⟩
   |cons p op=>
    go_wp2_with fail
    refine(Dg A).mono ?_;rintro e w3 ⟨rfl,rfl⟩;have b8:decide ((0:Int)<((p::op).length:Int))=true:=by simp
    go_wp2_with fail
    refine bodyPost_ret (v:=.tuple #[.slice none 0 0,.iface 34 (zI 50)]) (by simp[results,Tryz.results24,go_sem]) rfl ?_;exact⟨U.out,rfl⟩
  |fin au=>
   have b6:decide ((fd:Int)<=4096)=true:=by simp;omega
   have b7:decide (4096<(fd:Int))=false:=by simp;omega
   have U:=hid ab;have a6:=hid E.tw;clear E aj HS y af ab ai
   go_wp2_with fail
   refine(Dg A).mono ?_;rintro e w3 ⟨rfl,rfl⟩;have b8:decide ((0:Int)<(([]:List (List (Int×Nat))).length:Int))=false:=rfl
   go_wp2_with fail
   refine bodyPost_ret (v:=.tuple #[.slice ta told.length aA,.nilIface]) (by simp[results,Tryz.results24,go_sem]) rfl ?_;exact⟨U.out,_,rfl,a6.out⟩
  | @pop _ op _ _ _ hr2=>
    obtain⟨g,a7,es,e,Y,h2,h3,h4,h5,h6,h7,h8,h9,aB,aC⟩:=E.last;injection Y with Y hn1 h1c
    subst Y h1c;have ad:=E;rw[hn1]at A ad y;obtain⟨so,cp,rfl,-,-⟩:=aB;have a8:op.length+1<=told.length:=by rw[<-hn1];exact aM
    have au:fd<=4096:=by assumption
    have aP:told.length<=4096:=by have:=af.out;omega
    have b6:decide ((fd:Int)<=4096)=true:=by simp;omega
    have b8:decide ((0:Int)<((op.length+1:Nat):Int))=true:=by simp
    have b9:decide ((0:Int)<(op.length:Int)+1)=true:=decide_eq_true (by omega);have U:=hid ab;have a9:=hid hr2;have al:=hid ad;have am:=hid y;clear E ad aj HS y ab ai h6 h7 aC hr2
    go_wp2_with fail
    refine(Dg A).mono ?_;rintro e w3 ⟨rfl,rfl⟩
    go_wp2_with fail
    refine(z0j A (by omega)).mono ?_;rintro e w4 ⟨rfl,Z⟩;have aD:=(Vl (Z.block g h3)).trans h8;have aE:=Nat.lt_of_lt_of_le h3 Z.size;have aa:=hid Z;clear Z
    go_wp2_with fail
    have ag:zC w4.drew t 5 (zS g (op.length+1) ak):=(Vl (aa.out.block t ar)).trans A;have aF:=(aa.out.block t ar).trans am.out;have aQ:w4.drew.frozen? ⟨t,5,none⟩=false:=(Qj aF 5 _ rfl).2;have hw:IntKind.i64.wrap (((op.length+1:Nat):Int)-1)=(op.length:Int):=by rw[IntKind.wrap_i64];omega
    have bl:IntKind.i64.wrap ((op.length:Int)+1-1)=(op.length:Int):=by rw[IntKind.wrap_i64];omega
    have bm:IntKind.i64.wrap (op.length:Int)=(op.length:Int):=by rw[IntKind.wrap_i64];omega
    refine Qc 99 (fun _:World=>True) (by kernel_rfl) trivial (fun o=> ?_);refine Qz 0 o ?_;refine Qz 1 o ?_;refine Qz 2 o ?_;refine Qz 3 o ?_;refine Qz 4 o ?_;refine Qz 5 o ?_
    (refine Qv 6 (fun K G=> ?_);go_simp;refine(Dg ag).mono ?_;rintro e w5 ⟨rfl,aR⟩;rw[aR];clear aR;go_simp;refine G.out _ _ o ?_;clear G K)
    (try simp only[Act.put,zY])
    refine Qz 7 o ?_;refine Qv 8 (fun K G=> ?_)
    go_simp
    refine(y6u ag aQ op.length (by omega)).mono ?_;rintro e w6 ⟨rfl,aS⟩;have aT:Hid (TlS wk ops.length oc ns.length nc ro.length rc oso nso rso M t told op fd w6):=by
     have ah:zB w3 w4.drew:=aa.out.drew;have c4:=(al.out.below ah).drop;rw[aS];exact⟨_,_,(U.out.trans (ah.mono U.out.size)).setCell (p:=⟨t,5,none⟩) ap _,c4.kx (Kx.set (P:=fun g=>g=t) (a:=⟨t,5,none⟩) _ rfl _) (fun g _ h=>h),Qk (t:=_) aF 5 _⟩
    clear aS ag aF aQ aa al am
    go_simp
    refine G.out _ _ o ?_;clear G K;refine⟨by kernel_rfl,?_⟩
    go_wp2_with fail
    refine⟨⟨told,op,fd,by omega,?_,aT,a9⟩,?_⟩
    ·show fd=_
     rw[af.out,Db];rfl
    ·rw[z0m aT.out,aN,hn1]
     omega
  | @on _ op _ _ rr kr2 f rest l2 hr2 au e1 e2 e3 hl2 hr3=>
    obtain⟨g,a7,es,e,Y,h2,h3,h4,h5,h6,h7,h8,h9,aB,aC⟩:=E.last;injection Y with Y hn1 h1c
    subst Y h1c;have ad:=E;rw[hn1]at A ad y;obtain⟨so,cp,rfl,ba,av⟩:=aB;obtain⟨D,ae,rfl,bb,aU,aw,av⟩:=av (by simp);rw[List.length_cons]at ba h8;have a8:op.length+1<=told.length:=by rw[<-hn1];exact aM
    have aP:told.length<=4096:=by have:=af.out;omega
    have b6:decide ((fd:Int)<=4096)=true:=by simp;omega
    have b8:decide ((0:Int)<((op.length+1:Nat):Int))=true:=by simp
    have b9:decide ((0:Int)<(op.length:Int)+1)=true:=decide_eq_true (by omega);have bn:(((rest.length+1:Nat):Int) == 0)=false:=by simp;omega
    have bo:((rest.length:Int)+1 == 0)=false:=by simp;omega
    have U:=hid ab;have bc:=hid hr3;have al:=hid ad;have am:=hid y;have bd:=hid hl2;have aG:=hid av;have aV:=hid aU;clear E ad aj HS y ab h6 h7 aC hr3 hl2 av aU
    go_wp2_with fail
    refine(Dg A).mono ?_;rintro e w3 ⟨rfl,rfl⟩
    go_wp2_with fail
    refine(z0j A (by omega)).mono ?_;rintro e w4 ⟨rfl,Z⟩;have aD:=(Vl (Z.block g h3)).trans h8;have aE:=Nat.lt_of_lt_of_le h3 Z.size;have aa:=hid Z;clear Z
    go_wp2_with fail
    have ag:zC w4.drew t 5 (zS g (op.length+1) ak):=(Vl (aa.out.block t ar)).trans A;have hw:IntKind.i64.wrap (((op.length+1:Nat):Int)-1)=(op.length:Int):=by rw[IntKind.wrap_i64];omega
    have k1:(1:Int)<=((rest.length+1:Nat):Int):=by omega
    have k2:(1:Int)<=(rest.length:Int)+1:=by omega
    have k3:(rest.length:Int)+1<=(cp:Int):=by omega
    obtain⟨ao,aW⟩:∃ao,ao=(if cp=1 then some (⟨D,ae,none⟩:Addr)else some ⟨D,ae+2,none⟩):=⟨_,rfl⟩;have aH:=hid aW;clear aW;refine Qc 99 (fun _:World=>True) (by kernel_rfl) trivial (fun o=> ?_);refine Qz 0 o ?_;refine Qz 1 o ?_;refine Qz 2 o ?_;refine Qz 4 o ?_;refine Qz 5 o ?_
    (try rw[<-aH.out])
    (refine Qv 3 (fun K G=> ?_);go_simp;refine(z0j ag (by omega)).mono ?_;rintro e w5 ⟨rfl,ax⟩;go_simp;refine G.out _ _ o ?_;clear G K)
    (try simp only[Act.put,zY])
    refine Qz 6 o ?_;refine Qv 7 (fun K G=> ?_);have be:=(Vl (ax.block g aE)).trans aD;have bp:=Nat.lt_of_lt_of_le aE ax.size;have ah:zB w3 w5:=(aa.out.drew).trans (ax.mono (by exact aa.out.size));have bf:w5.frozen? ⟨g,op.length,none⟩=false:=by have e:=ah.block g h3;unfold World.frozen? at h9 ⊢;rw[e];exact h9
    have ac:=hid ah;clear ax ah
    go_simp
    refine G.out _ _ o ?_;clear G K;refine⟨by kernel_rfl,?_⟩;obtain⟨V,hV⟩:∃V,V=w5.setCell ⟨g,op.length,none⟩ (.slice ao rest.length (cp-1)):=⟨_,rfl⟩;rw[<-hV];have ng:D≠g:=fun e=>aV.out (.inr (.inr (by rw[e];rfl)))
    have bg:D<w5.heap.size:=Nat.lt_of_lt_of_le aw ac.out.size;have aI:V.heap[D]? =w3.heap[D]? :=by rw[hV];exact(Below.heap_setCell _ _ _ _ ng).trans (ac.out.block D aw)
    have q1:zC V D ae (zI (rr:Int)):=(Vl aI).trans (by have:=(aG.out 0 (by simp)).1;simpa using this);have q2:zC V D (ae+1) (zI (f:Int)):=(Vl aI).trans (by have:=(aG.out 0 (by simp)).2;simpa using this);have aX:Hid (TlS wk ops.length oc ns.length nc ro.length rc oso nso rso M t told (op++[rest]) fd V):=by
     have c5:=al.out.below ac.out;have bh:=(ac.out.block t ar).trans am.out;have hp:Yf w5 wk.heap.size (fun g'=>g'=t∨(Value.slice ta told.length aA).ownBlock=some g'∨(Value.slice (some ⟨g,0,none⟩) (op.length+1) ak).ownBlock=some g') (.slice ao rest.length (cp-1)) rest:=by
      refine⟨ao,cp-1,rfl,by omega,fun bi=> ?_⟩;have:=List.length_pos_iff.2 bi;refine⟨D,ae+2,by rw[aH.out,if_neg (by omega)],bb,fun h=>aV.out (by rw[hn1];exact h),bg,fun i hi=> ?_⟩;have h:=aG.out (i+1) (by simp;omega);rw[show ae+2+i*2=ae+(i+1)*2 by omega];exact⟨(Vl (ac.out.block D aw)).trans (by simpa using h.1),(Vl (ac.out.block D aw)).trans (by simpa using h.2)⟩
     have c6:=c5.tail hp;rw[<-hV]at c6;have bq:(op++[rest]).length=op.length+1:=by simp
     refine⟨_,zS g (op.length+1) ak,?_,c6,?_⟩
     ·rw[hV]
      exact(U.out.trans (ac.out.mono U.out.size)).setCell (p:=⟨g,op.length,none⟩) h5 _
     ·rw[hV]
      exact(Below.heap_setCell _ ⟨g,op.length,none⟩ _ _ (Ne.symm h2)).trans bh
    have aY:=hid (ai.out told (op++[rest]) fd V aX.out au aP (by simp;omega) rr f kr2 hr2 e3 e1 e2 l2 bd.out);have bj:=World.block_lt_of_cell? V _ q1;clear hV aI aX ai al am ac aa ag be bf aH t4 A f5 t6 aD h8 h9 o
    go_wp2_with fail
    refine aY.out.mono ?_;rintro e w8 ⟨rfl,h8⟩;have H8:=hid h8;clear h8 aY q1 q2 bj
    go_wp2_with fail
    have bk:((op++[rest]).length:Int)=(op.length:Int)+1:=by simp
    refine⟨⟨_,_,_,?_,?_,H8,?_⟩,?_⟩
    ·simp;omega
    ·show fd+_=_
     have e9:∀(x:List (Int×Nat)),Jw [x]=x.length:=fun x=>rfl
     have:=af.out;rw[Db,e9,List.length_cons]at this;rw[Db,Db,e9,e9,List.length_append];simp only[List.length_cons,List.length_nil];omega
    ·show TlR _ _ _ _ _ _ _ _
     rw[bk];exact bc.out
    ·rw[z0m H8.out,aN]
     simp;omega
end
end Go.Proofs.YtmelafeingcgnaaGreatDoor
