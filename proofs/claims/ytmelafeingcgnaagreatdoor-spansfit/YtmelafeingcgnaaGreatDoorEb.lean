/- Lemmas. Conditions: as each names. -/
import Derived.Test.YtmelafeingcgnaaGreatDoorEa
set_option linter.unusedVariables false
set_option maxRecDepth 100000
set_option maxHeartbeats 32000000
namespace Go.Proofs.YtmelafeingcgnaaGreatDoor
open Go.Proofs.Tryz
open Go.RowKit Go.Shelf Go.Maps
variable {w:World} {base cap g:Nat}
def rv2:List (Int×Int)->List Value
 |[]=>[]
 |p::r=>zI p.1::zI p.2::rv2 r
theorem y7e:∀a b:List (Int×Int),rv2 (a++b)=rv2 a++rv2 b
 |[],b=>rfl
 |p::r,b=>by rw[List.cons_append,rv2,rv2,y7e r b];rfl
theorem y7g:∀a:List (Int×Int),(rv2 a).length=a.length*2
 |[]=>rfl
 |p::r=>by rw[rv2,List.length_cons,List.length_cons,y7g r,List.length_cons];omega
theorem y7n{w:World}{base g cap:Nat}:∀(k:Nat) (a b:List (Int×Int)),b.length=k->w.ownsRow base 93 2 (zS g (a.length+k) cap) (a.length+k) (rv2 (a++b))->w.ownsRow base 93 2 (zS g a.length cap) a.length (rv2 a)
 |0,a,b,hk,h=>by
  obtain rfl:=List.length_eq_zero_iff.1 hk;simpa using h
 |k+1,a,b,hk,h=>by
  rcases List.eq_nil_or_concat b with rfl|⟨c,p,rfl⟩
  ·simp at hk
  ·rw[List.concat_eq_append]at hk h
   rw[List.length_append]at hk;simp only[List.length_cons,List.length_nil]at hk;refine y7n k a c (by omega) ?_;rw[<-List.append_assoc,y7e]at h;exact ownsRow_pop (n:=a.length+k) (by rw[y7g,List.length_append];omega) h
theorem y7z{d:Nat}{rm:List (Int×Int)}(h:w.ownsRow base 93 2 (zS g rm.length cap) rm.length (rv2 rm))(b:d<=rm.length):w.ownsRow base 93 2 (zS g d cap) d (rv2 (rm.take d)):=by
 have e:(rm.take d).length=d:=by rw[List.length_take];omega
 have a:=y7n (w:=w) (base:=base) (g:=g) (cap:=cap) (rm.length-d) (rm.take d) (rm.drop d) (List.length_drop) (by rw[List.take_append_drop,e,show d+(rm.length-d)=rm.length by omega];exact h);rw[e]at a;exact a
theorem y7o{e size n j:Nat}{u:Value}{xs:List Value}(h:w.ownsRow base e size (zS g n cap) n xs)(b:xs[j]? =some u):zC w g j u:=by
 have a:=h.cells (g:=g) rfl j u b;have c:(⟨g,0,none⟩:Addr).add j=⟨g,j,none⟩:=by unfold Addr.add;split<;>simp_all
 rw[c]at a;exact a
structure RmS (w:World) (o:Nat) (rm:List (Int×Int)) (W:World):Prop where
 be:zB w W
 ex:∃g cap,W.heap[o]? =some (.cells #[zS g rm.length cap] 90)/\W.ownsRow (o+1) 93 2 (zS g rm.length cap) rm.length (rv2 rm)
theorem RmS.of_push{W i d:World}{o c j:Nat}{ov:Value}{rm:List (Int×Int)}{a b:Int}(k:zB w W)(m:zH W o (.cells #[ov] 90))(s:w.heap.size<=o)(f:zB W i)(n:i.grownBy d ov.ownBlock)(q:ov.ownBlock≠some o)(t:∀y,ov.ownBlock=some y->w.heap.size<=y)(u:d.ownsRow (o+1) 93 2 (zS c (rm.length+1) j) (rm.length+1) (rv2 rm++[zI a,zI b]))(v:ov.ownBlock=some c∨i.heap.size<=c):RmS w o (rm++[(a,b)]) (d.setCell ⟨o,0,none⟩ (zS c (rm.length+1) j)):=by
 have l:=Qq m;have e:zH d o (.cells #[ov] 90):=((n.block o (by have:=f.size;omega) (fun e=>q e.symm)).trans (f.block o l)).trans m;have x:c≠o:=fun e=>by
  rcases v with h|h
  ·rw[e]at h;exact q h
  ·have:=f.size;omega
 have r:=k.trans (f.mono k.size);refine⟨(r.grown n r.size t).setCell (p:=⟨o,0,none⟩) s _,c,j,?_,?_⟩
 ·rw[List.length_append]
  exact Qk e 0 _
 ·rw[List.length_append,y7e]
  exact ownsRow_setCell_other u (a:=⟨o,0,none⟩) (fun e=>x (Option.some.inj e)) _
theorem y7h:∀(l:List Sp4) (i:Nat) (a:i<l.length),(sp4 l)[i*4]? =some (zI l[i].1)/\(sp4 l)[i*4+1]? =some (zI l[i].2.1)/\(sp4 l)[i*4+2]? =some (zI l[i].2.2.1)/\(sp4 l)[i*4+3]? =some (zI l[i].2.2.2)
 |[],i,a=>by simp at a
 |s::r,0,a=>⟨rfl,rfl,rfl,rfl⟩
 |s::r,i+1,a=>by
  have h:=y7h r i (by simpa using a);have e:∀k,(sp4 (s::r))[(i+1)*4+k]? =(sp4 r)[i*4+k]? :=fun k=>by
   rw[show(i+1)*4+k=(i*4+k)+4 by omega];rfl
  refine⟨?_,?_,?_,?_⟩
  ·have:=e 0;rw[Nat.add_zero,Nat.add_zero]at this;rw[this];exact h.1
  ·rw[e 1];exact h.2.1
  ·rw[e 2];exact h.2.2.1
  ·rw[e 3];exact h.2.2.2
theorem y7B(D:Int)(v:List Sp4)(x cap:Nat)(w:World)(h0:0<=D)(hl:v.length<=4096)(lt:x<w.heap.size)(a8:v.length+1<=cap)(H:∀j u,(sp4 (((0:Int),(0:Int),D,(0:Int))::v))[j]? =some u->zC w x j u)(hr:rtF [((0:Int),D)] v=true):
  Calls prog 15 #[zS x (v.length+1) cap] w fun e w'=>e=.returned (.bool true)/\zB w w':=by
 obtain⟨L,hL⟩:∃L,L=v.length:=⟨_,rfl⟩;have HL:Hid (L=v.length):=hL;rw[<-hL]at hl a8 ⊢;clear hL;have q0:zC w x 0 (zI 0):=H 0 _ rfl;have q1:zC w x 1 (zI 0):=H 1 _ rfl;have q2:zC w x 2 (zI D):=H 2 _ rfl;have q3:zC w x 3 (zI 0):=H 3 _ rfl;have HC:=hid H;have HR:=hid hr;have d0:decide (D<0)=false:=by simp;omega
 obtain⟨S,ad⟩:∃S,S=w.alloc (.cells #[qN] 90):=⟨_,rfl⟩;have G:zB w S:=by rw[ad];exact(Below.refl _ w).alloc L0q _
 have U:S.heap[w.heap.size]? =some (.cells #[qN] 90):=by rw[ad];exact Qx w _ rfl
 have aw:=hid ad;have hp:=y7l (t:=w.heap.size) (n:=0) (base:=w.heap.size+1) (ov:=qN) (xs:=[]) (W:=S) (Qj U 0 _ rfl).1 (Qj U 0 _ rfl).2 (World.ownsRow_nil _ _ _ _) (by omega) (Qq U) (by intro e;cases e) 0 D;have HP:=hid hp;have ax:=hid G;have ay:=hid U;clear hp ad G U H hr;go_enter func15,ntmps15
 go_wp2_with fail
 rw[<-aw.out];refine HP.out.mono ?_;rintro e w2 ⟨rfl,V,w4,I,c4,az,aA,aB,aC,aa⟩;have h2:RmS w w.heap.size [((0:Int),D)] w2:=by
  rw[aa];exact RmS.of_push (rm:=[]) (a:=0) (b:=D) ax.out ay.out L0q az aA (by intro e;cases e) (fun y e=>by cases e) aB aC
 have H2:=hid h2;clear h2 aa az aA aB aC HP aw ax ay q0 q1 q2 q3 d0;by_cases h1:cap=1
 ·obtain rfl:L=0:=by omega
  subst h1;have HB:=hid H2.out.be
  go_wp2_with fail
  go_loopw [47] (fun a wr=>a=zI 0/\Hid (zB w wr)) (fun a _=>0)
  case atStart=>exact⟨rfl,HB⟩
  case round=>
   obtain⟨rfl,a9⟩:=hrel
   go_wp2_with fail
   (try simp only[Exit.inBlock,Exit.then])
   go_ret;exact⟨rfl,a9.out⟩
 have bm:¬(cap:Int)=1:=by omega
 have bn:(1:Int)<=(L:Int)+1:=by omega
 have bo:(L:Int)+1<=(cap:Int):=by omega
 have bp:(0:Int)<=(L:Int)+1:=by omega
 go_wp2_with fail
 go_loopw [47] (fun a wr=>∃(k:Nat) (rm:List (Int×Int)),a=zI (k:Int)/\k<=L/\rm.length<=k+1/\Hid (rtF rm (v.drop k)=true)/\Hid (RmS w w.heap.size rm wr)) (fun a _=>L-(intOf a).toNat)
 case atStart=>exact⟨0,[((0:Int),D)],rfl,Nat.zero_le _,Nat.le_refl _,HR,H2⟩
 case round=>
  obtain⟨k,rm,rfl,hk,bq,aD,HS⟩:=hrel;by_cases hkn:k<L
  rotate_left
  ·have a0:decide ((k:Int)<(L:Int))=false:=by simp;omega
   have HB:=hid HS.out.be
   go_wp2_with fail
   (try simp only[Exit.inBlock,Exit.then])
   go_ret;exact⟨rfl,HB.out⟩
  have br:(k:Int)<(L:Int):=by omega
  have a0:decide ((k:Int)<(L:Int))=true:=by simp;omega
  have ba:k<v.length:=by rw[<-HL.out];exact hkn
  obtain⟨⟨r,f,t,d⟩,hs⟩:∃s,s=v[k]:=⟨_,rfl⟩;have aE:v.drop k=(r,f,t,d)::v.drop (k+1):=by rw[hs];exact List.drop_eq_getElem_cons ba
  obtain⟨x0,x1,x2,x3⟩:=y7h (((0:Int),(0:Int),D,(0:Int))::v) (k+1) (by simp;omega);rw[List.getElem_cons_succ,<-hs]at x0 x1 x2 x3;have cl:∀j u,(sp4 (((0:Int),(0:Int),D,(0:Int))::v))[(k+1)*4+j]? =some u->zC wr x (4+k*4+j) u:=fun j u h=>(HS.out.be.cell (p:=⟨x,4+k*4+j,none⟩) lt).trans (by rw[show 4+k*4+j=(k+1)*4+j by omega];exact HC.out _ _ h)
  have c0:zC wr x (4+k*4) (zI r):=cl 0 _ x0;have c1:zC wr x (4+k*4+1) (zI f):=cl 1 _ x1;have c2:zC wr x (4+k*4+2) (zI t):=cl 2 _ x2;have c3:zC wr x (4+k*4+3) (zI d):=cl 3 _ x3;have aF:=aD.out;rw[aE,rtF,Bool.and_eq_true,decide_eq_true_eq]at aF;obtain⟨⟨b1,b2,b3,b4⟩,E⟩:=aF;dsimp only at b1 b2 b3 b4 E;obtain⟨o,rfl⟩:∃o:Nat,d=(o:Int):=⟨d.toNat,by omega⟩;rw[Int.toNat_natCast]at E;have bb:o<=rm.length:=by omega
  obtain⟨C,q,ab,b6,b7,b8⟩:∃C q,(rm.take o).getLast?=some (C,q)/\C<=f/\t<=q/\rtF ((rm.take o).dropLast++[(t,q)]++[(f,t)]) (v.drop (k+1))=true:=by
   cases ab:(rm.take o).getLast? with
   |none=>rw[ab]at E;cases E
   |some p=>
    rw[ab]at E;simp only[Bool.and_eq_true,decide_eq_true_eq]at E;exact⟨p.1,p.2,rfl,E.1.1,E.1.2,E.2⟩
  obtain⟨i,ak⟩:∃i,i=(rm.take o).dropLast:=⟨_,rfl⟩;have al:rm.take o=i++[(C,q)]:=by obtain⟨ys,hy⟩:=List.getLast?_eq_some_iff.1 ab;rw[ak,hy,List.dropLast_concat]
  have am:i.length+1=o:=by have h9:=congrArg List.length al;rw[List.length_take,List.length_append]at h9;simp at h9;omega
  rw[<-ak]at b8;obtain⟨ao,g,z,hO,ae⟩:=HS.out;obtain⟨bc,bd⟩:=ae.lt g rfl;obtain⟨m,hm⟩:∃m,m=rm.length:=⟨_,rfl⟩;have bs:m<=z:=by rw[hm];exact Wk ae rfl
  obtain⟨X0,af⟩:∃X0,X0=wr.alloc (.cells #[zI r,zI f,zI t,zI (o:Int)] 40):=⟨_,rfl⟩;have aG:zB wr X0:=by rw[af];exact(Below.refl _ wr).alloc L0q _
  have aH:X0.heap[wr.heap.size]? =some (.cells #[zI r,zI f,zI t,zI (o:Int)] 40):=by rw[af];exact Qx wr _ rfl
  obtain⟨A,ag⟩:∃A,A=X0.drew:=⟨_,rfl⟩;have G:zB wr A:=by rw[ag];exact aG.drew
  have M:A.heap[wr.heap.size]? =some (.cells #[zI r,zI f,zI t,zI (o:Int)] 40):=by rw[ag];exact aH
  have lo:=Qq hO;have ah:A.heap[w.heap.size]? =some (.cells #[zS g rm.length z] 90):=(G.block _ lo).trans hO;have aI:=Xf ae G;have ap:Hid (zC A wr.heap.size 0 (zI r)/\zC A wr.heap.size 1 (zI f)/\zC A wr.heap.size 2 (zI t)/\zC A wr.heap.size 3 (zI (o:Int))/\zC A w.heap.size 0 (zS g m z)):=⟨(Qj M 0 _ rfl).1,(Qj M 1 _ rfl).1,(Qj M 2 _ rfl).1,(Qj M 3 _ rfl).1,by rw[hm];exact(Qj ah 0 _ rfl).1⟩;obtain⟨F,O⟩:∃F,F=A.setCell ⟨w.heap.size,0,none⟩ (zS g o z):=⟨_,rfl⟩;have aJ:wr.heap.size≠w.heap.size:=by omega
  have aK:F.heap[wr.heap.size]? =some (.cells #[zI r,zI f,zI t,zI (o:Int)] 40):=by rw[O];exact(Below.heap_setCell _ ⟨w.heap.size,0,none⟩ _ _ aJ).trans M
  have aq:F.heap[w.heap.size]? =some (.cells #[zS g o z] 90):=by rw[O];exact Qk ah 0 _
  have aa:F.ownsRow (w.heap.size+1) 93 2 (zS g o z) o (rv2 (i++[(C,q)])):=by
   rw[O,<-al];exact y7z (ownsRow_setCell_other aI (a:=⟨w.heap.size,0,none⟩) (fun e=>by have:=Option.some.inj e;have:g=w.heap.size:=this;omega) _) bb
  have aL:zB w F:=by rw[O];exact(ao.trans (G.mono ao.size)).setCell (p:=⟨w.heap.size,0,none⟩) L0q _
  have aM:=hid (y7y (t:=w.heap.size) (n:=i.length) (cap:=z) (g:=g) (W:=F) (by rw[am];exact(Qj aq 0 _ rfl).1) (by omega));have ar:=hid (y7x (t:=w.heap.size) (n:=m) (cap:=z) (so:=some ⟨g,0,none⟩) (W:=A) ap.out.2.2.2.2 (Qj ah 0 _ rfl).2 o (by omega));rw[<-O]at ar;have e1:decide (r<0)=false:=by simp;omega
  have e2:decide (t<f)=false:=by simp;omega
  have e3:decide ((o:Int)<1)=false:=by simp;omega
  have e4:decide ((m:Int)<(o:Int))=false:=by simp;omega
  have e5:decide (m<o)=false:=by simp;omega
  have e6:decide (o<1)=false:=by simp;omega
  have aN:=hid af;have au:=hid ag;have HF:=hid (And.intro aK (And.intro aq (And.intro aa aL)));have HG:=hid (And.intro bc bd);have bf:=hid b8;have aO:=hid am;have bt:IntKind.i64.wrap ((k:Int)+1)=(k:Int)+1:=by rw[IntKind.wrap_i64];omega
  clear aD HS cl x0 x1 x2 x3 aE hs E ab al ak ae hO ao af ag O aH M ah aI aK aq aa aL aG G b8 hm aJ am
  go_wp2_with fail
  rw[<-aN.out];clear c0 c1 c2 c3;refine Qc 99 (fun X:World=>zC X wr.heap.size 0 (zI r)/\zC X wr.heap.size 1 (zI f)/\zC X wr.heap.size 2 (zI t)/\zC X wr.heap.size 3 (zI (o:Int))/\zC X w.heap.size 0 (zS g m z)) (by kernel_rfl) (by rw[<-au.out];exact ap.out) (fun c=> ?_);rw[<-au.out]at c ⊢;clear ap au aN;refine Qz 0 c ?_;refine Qz 1 c ?_;refine Qz 2 c ?_;refine Qz 3 c ?_;refine Qz 4 c ?_;refine Qz 5 c ?_;refine Qz 6 c ?_;refine Qz 7 c ?_;refine Qz 8 c ?_;refine Qz 9 c ?_;refine Qz 10 c ?_;refine Qz 11 c ?_;refine Qz 12 c ?_;refine Qz 13 c ?_;refine Qz 14 c ?_;refine Qz 15 c ?_;refine Qz 16 c ?_;refine Qz 17 c ?_
  (refine Qv 18 (fun K hK=> ?_);go_simp;refine(y7w c.2.2.2.2).mono ?_;rintro e w5 ⟨rfl,aP⟩;rw[aP];clear aP;go_simp;refine hK.out _ _ c ?_;clear hK K)
  (try simp only[Act.put,zY])
  refine Qz 19 c ?_;refine Qz 20 c ?_;refine⟨by kernel_rfl,?_⟩;have p3:=c.2.2.2.1;have l3:=World.block_lt_of_cell? A _ p3;clear c
  go_wp2_with fail
  refine ar.out.mono ?_;rintro e w6 ⟨rfl,aQ⟩;rw[aQ];clear aQ ar p3 l3
  go_wp2_with fail
  refine aM.out.mono ?_;rintro e X3 ⟨rfl,aR⟩;obtain⟨Y,hY⟩:∃Y,Y=X3.drew:=⟨_,rfl⟩;obtain⟨f1,f2,f3,f4⟩:=HF.out;have ac:zB F Y:=by rw[hY];exact aR.drew
  have ai:=(ac.block _ (Qq f1)).trans f1;have aS:=(ac.block _ (Qq f2)).trans f2;have P:=Xf f3 ac;have aT:=f4.trans (ac.mono f4.size);have aj:(rv2 i).length=i.length*2:=y7g i;have v0:(rv2 (i++[(C,q)]))[2*i.length]? =some (zI C):=by rw[y7e,List.getElem?_append_right (by omega),aj,show 2*i.length-i.length*2=0 by omega];rfl
  have v1:(rv2 (i++[(C,q)]))[2*i.length+1]? =some (zI q):=by rw[y7e,List.getElem?_append_right (by omega),aj,show 2*i.length+1-i.length*2=1 by omega];rfl
  have aU:zC Y wr.heap.size 1 (zI f)/\zC Y wr.heap.size 2 (zI t)/\zC Y g (2*i.length) (zI C)/\zC Y g (2*i.length+1) (zI q):=⟨(Qj ai 1 _ rfl).1,(Qj ai 2 _ rfl).1,y7o P v0,y7o P v1⟩;have bu:=P.frozenAt (2*i.length);obtain⟨Z,Q⟩:∃Z,Z=Y.setCell ⟨g,2*i.length,none⟩ (zI t):=⟨_,rfl⟩;have bg:wr.heap.size≠g:=by have:=HG.out.2;omega
  have bh:w.heap.size≠g:=by have:=HG.out.1;omega
  have aV:Z.heap[wr.heap.size]? =some (.cells #[zI r,zI f,zI t,zI (o:Int)] 40):=by rw[Q];exact(Below.heap_setCell _ ⟨g,2*i.length,none⟩ _ _ bg).trans ai
  have R:Z.heap[w.heap.size]? =some (.cells #[zS g o z] 90):=by rw[Q];exact(Below.heap_setCell _ ⟨g,2*i.length,none⟩ _ _ bh).trans aS
  have aW:(rv2 (i++[(C,q)])).set (2*i.length) (zI t)=rv2 (i++[(t,q)]):=by
   rw[y7e,y7e,List.set_append_right _ _ (by omega),aj,show 2*i.length-i.length*2=0 by omega];rfl
  have aX:Z.ownsRow (w.heap.size+1) 93 2 (zS g o z) o (rv2 (i++[(t,q)])):=by
   rw[Q,<-aW];exact(P.stored (2*i.length) (zI t)).1
  have av:zB w Z:=by rw[Q];exact aT.setCell (p:=⟨g,2*i.length,none⟩) (by show w.heap.size<=g;have:=HG.out.1;omega) _
  obtain⟨oZ,aY⟩:=Qj R 0 _ rfl;have aZ:=hid (y7l (t:=w.heap.size) (n:=o) (base:=w.heap.size+1) (W:=Z) oZ aY aX (by omega) (Qq R) (by intro e;have:g=w.heap.size:=Option.some.inj e;omega) f t);have HY:=hid hY;have HZ:=hid Q;have e7:decide (f<C)=false:=by simp;omega
  have e8:decide (q<t)=false:=by simp;omega
  have bi:=hid (And.intro aV (And.intro R av));have a6:=hid aU;have bj:g<Y.heap.size:=(P.lt g rfl).2;have a7:Hid (∀w',(∃V w4 I c4,zB Z V/\V.grownBy w4 (Value.slice (some ⟨g,0,none⟩) o z).ownBlock/\w4.ownsRow (w.heap.size+1) 93 2 (zS I (o+1) c4) (o+1) (rv2 (i++[(t,q)])++[zI f,zI t])/\((Value.slice (some ⟨g,0,none⟩) o z).ownBlock=some I∨V.heap.size<=I)/\w'=w4.setCell ⟨w.heap.size,0,none⟩ (zS I (o+1) c4))->RmS w w.heap.size (i++[(t,q)]++[(f,t)]) w'):=fun w' ⟨V,w4,I,c4,a1,a2,a3,a4,a5⟩=>by
   have bk:(i++[(t,q)]).length=o:=by rw[List.length_append];exact aO.out
   rw[a5];rw[<-bk]at a2 a3 a4 R ⊢;exact RmS.of_push av R L0q a1 a2 (by intro e;have:g=w.heap.size:=Option.some.inj e;omega) (fun y e=>by have:g=y:=Option.some.inj e;have:=HG.out.1;omega) a3 a4
  have bl:(i++[(t,q)]++[(f,t)]).length<=k+1+1:=by have:=aO.out;simp;omega
  clear hY Q ai aS P aT aV R aX av ac aR f1 f2 f3 f4 aW v0 v1 aU aj aM HF oZ aY
  go_wp2_with fail
  refine Qc 99 (fun X:World=>zC X wr.heap.size 1 (zI f)/\zC X wr.heap.size 2 (zI t)/\zC X g (2*i.length) (zI C)/\zC X g (2*i.length+1) (zI q)) (by kernel_rfl) (by rw[<-HY.out];exact a6.out) (fun c=> ?_);rw[<-HY.out]at c ⊢;clear a6 HY;refine Qz 0 c ?_;refine Qz 1 c ?_;refine Qz 2 c ?_;refine Qz 3 c ?_;refine Qz 4 c ?_;refine Qz 5 c ?_;refine Qz 6 c ?_;refine Qz 7 c ?_;refine Qz 8 c ?_;refine Qz 9 c ?_;refine Qz 10 c ?_;refine Qz 11 c ?_;refine Qz 12 c ?_;refine Qz 13 c ?_;refine Qz 14 c ?_;refine Qz 15 c ?_;refine⟨by kernel_rfl,?_⟩;obtain⟨p1,p2,p3,p4⟩:=c;have l1:=World.block_lt_of_cell? Y _ p1
  go_wp2_with fail
  rw[<-HZ.out];refine aZ.out.mono ?_;rintro e w9 ⟨rfl,hq⟩;have HN:=hid (a7.out w9 hq);clear hq aZ a7 HZ bi p1 p2 p3 p4 l1 bj
  go_wp2_with fail
  refine⟨⟨k+1,i++[(t,q)]++[(f,t)],by go_num,by omega,bl,bf,HN⟩,?_⟩;simp[intOf];omega
open Go.RowKit Go.Shelf Go.Maps
theorem y7C(c:Int)(w:World)(h:Vg w):Calls prog 66 #[.iface 34 (zI c)] w fun e w'=>e=.returned (.iface 34 (zI 60))/\zB w w':=by
 have f:=h.lt;have a:=y0Q c ⟨w.heap.size,0,none⟩ (zI 0) (w.alloc (.cells #[zI 0] 34)) (by rw[World.cell?_alloc_lt _ _ ⟨0,0,none⟩ f];exact h) (by simp) (by simp);clear h;go_enter func66,ntmps66
 go_wp2_with fail
 refine a.mono ?_;rintro e b ⟨rfl,d⟩;have i:Hid (zB w b):=by
  show zB w b;rw[d];exact(((((B0q.alloc L0q _).alloc (by simp) _).alloc (by simp<;>omega) _).alloc (by simp<;>omega) _).alloc (by simp<;>omega) _).setCell L0q _
 clear d a
 go_wp2_with fail
 go_ret;exact⟨rfl,i.out⟩
theorem y7D(so:Option Addr)(n cap:Nat)(c:TypeId)(d:Value)(w:World)(o:Hid (∀W:World,zB w W->Calls prog 44 #[.agg #[.slice so n cap]] W (zR W (.iface c d)))):
  Calls prog 19 #[.agg #[.slice so n cap]] w fun e w'=>e=.returned (.tuple #[qP none none none 0 0 0 0 0 0,.iface c d])/\zB w w':=by
 obtain⟨a,b,f⟩:=Dj w (.cells #[.slice so n cap] 51) (.cells #[qN,qN,qN] 26);obtain⟨h,i⟩:∃h,h=(w.alloc (.cells #[.slice so n cap] 51)).alloc (.cells #[qN,qN,qN] 26):=⟨_,rfl⟩;rw[<-i]at a b f;have p:=hid (o.out h a);have q:=hid a;have j:=hid f;have r:=hid i;have s:=(Qy b).1;have t:=Qq b;clear a b f i;go_enter func19,ntmps19
 go_wp2_with fail
 rw[<-r.out];clear r;refine p.out.mono ?_;rintro e C ⟨rfl,k⟩;have u:=hid (q.out.trans (k.mono q.out.size));have m:=hid ((k.block _ (Qq j.out)).trans j.out);clear s t p o j k;obtain⟨D,E,F,G,H,I⟩:=Fz m.out;have K:=Qq m.out
 go_wp2_with fail
 have x:=Wz (v0:=qN) (v1:=qN) (v2:=qN) m.out;obtain⟨y,z,A,_⟩:=Fz x;exact bodyPost_ret (v:=.tuple #[qP none none none 0 0 0 0 0 0,.iface c d]) (by simp[results,Tryz.results19,go_sem,y,z,A]) rfl ⟨rfl,Wj u.out (by omega)⟩
theorem PgM.nil(w:World):PgM [] [] [] none none none w:=⟨by decide,by decide,rfl,(fun i a=>by cases a),(fun i a=>by cases a),(fun i a=>by cases a)⟩
theorem y7E:Unf [] [] []:=⟨(fun i a=>by cases a),(fun i a=>by cases a),(fun i a=>by cases a),(fun x b=>by cases b),(by decide),(fun x b=>by cases b)⟩
theorem y7F{X:Option (Int ⊕ (Int×Int))}(h:CkX [] X):∃c,X=some (.inl c):=by
 match X,h with
 |none,h=>exact absurd h.1 (by decide)
 |some (.inl c),_=>exact⟨c,rfl⟩
 |some (.inr q),h=>exact absurd h.1 (by decide)
theorem y7G(w:World)
  (y:Hid (∀W:World,zB w W->Calls prog 64 #[qP none none none 0 0 0 0 0 0] W (zR W (.bool true))))
  (z:Hid (∀W:World,zB w W->Calls prog 65 #[qP none none none 0 0 0 0 0 0] W fun e w'=>∃so cap,e=.returned (.agg #[.slice so 0 cap])/\Hid (zB W w')/\
    Hid (∀a:World,zB w' a->Calls prog 19 #[.agg #[.slice so 0 cap]] a fun e f=>∃c,e=.returned (.tuple #[qP none none none 0 0 0 0 0 0,.iface 34 (zI c)])/\Hid (zB a f))))
  (A:Hid (∀(c:Int) (W:World),zB w W->Calls prog 66 #[.iface 34 (zI c)] W (zR W (.iface 34 (zI 60))))):
  Calls prog 34 #[qP none none none 0 0 0 0 0 0] w fun e w'=>e=.returned (.tuple #[.agg #[qN],.iface 34 (zI 60)])/\Hid (zB w w'):=by
 obtain⟨j,C⟩:∃j,j=Obj.cells #[qN,qN,qN] 26:=⟨_,rfl⟩;obtain⟨b,h⟩:∃b,b=(w.alloc j).alloc (.cells #[qN] 51):=⟨_,rfl⟩;have q:zB w b:=by rw[h];exact((Below.refl _ w).alloc L0q _).alloc (by simp) _
 obtain⟨p,k⟩:∃p,p=w.heap.size:=⟨_,rfl⟩;have D:Hid (b.heap[p+1]? =some (.cells #[qN] 51)):=by rw[h,k];exact Qx _ _ (by simp)
 have E:Hid (zH b p j):=by rw[h,k];exact(Below.heap_alloc _ _ _ (by simp)).trans (Qx w _ rfl)
 have d:=hid q;have F:=hid h;have G:=hid k;have H:=hid C;have I:=hid (y.out b q);have K:=hid (fun(W:World) (L:zB b W)=>show(zC W p 0 (qN)/\zC W p 1 (qN)/\zC W p 2 (qN)/\p<W.heap.size/\W.heap[p+1]? =some (.cells #[qN] 51))from by
  have i:=(L.block _ (Qq E.out)).trans E.out;rw[H.out]at i;exact⟨(Qj i 0 _ rfl).1,(Qj i 1 _ rfl).1,(Qj i 2 _ rfl).1,Qq i,(L.block _ (Qq D.out)).trans D.out⟩)
 clear C h q k y;go_enter func34,ntmps34
 go_wp2_with fail
 rw[<-H.out,<-F.out,<-G.out];refine I.out.mono ?_;rintro e M ⟨rfl,m⟩;obtain⟨q0,q1,q2,O,_⟩:=K.out M m;have P:=hid m;have Q:=hid (z.out M (d.out.trans (m.mono d.out.size)));clear m I z F
 go_wp2_with fail
 refine Q.out.mono ?_;rintro e r ⟨so,cap,rfl,R,S⟩;have U:=hid (P.out.trans (R.out.mono P.out.size));obtain⟨a,s⟩:∃a,a=r.alloc (.cells #[.slice so 0 cap] 51):=⟨_,rfl⟩;have t:zB r a:=by rw[s];exact(Below.refl _ r).alloc L0q _
 have V:=hid (S.out a t);have X:=hid (U.out.trans (t.mono U.out.size));have Y:=hid s;clear t s q0 q1 q2 O Q S R
 go_wp2_with fail
 rw[<-Y.out];clear Y;refine V.out.mono ?_;rintro e f ⟨c,rfl,Z⟩;have aa:=hid (X.out.trans (Z.out.mono X.out.size));obtain⟨n,u⟩:∃n,n=f.alloc (.cells #[qN,qN,qN] 26):=⟨_,rfl⟩;have ab:zB f n:=by rw[u];exact(Below.refl _ f).alloc L0q _
 have x:=hid (aa.out.trans (ab.mono aa.out.size));have ac:=hid (A.out c n (d.out.trans (x.out.mono d.out.size)));have ad:=hid u;clear u ab V Z
 go_wp2_with fail
 rw[<-ad.out];clear ad;refine ac.out.mono ?_;rintro e w4 ⟨rfl,ae⟩;have af:=hid (x.out.trans (ae.mono x.out.size));obtain⟨_,_,_,O,o⟩:=K.out w4 af.out;obtain⟨u0,f0⟩:=Qy o;have lr:=Qq o;have ag:=hid o;have ah:Hid (zB w (w4.setCell ⟨p+1,0,none⟩ (qN))):=by
  have h1:=d.out.trans (af.out.mono d.out.size);exact h1.setCell (p:=⟨p+1,0,none⟩) (by show w.heap.size<=p+1;have:=G.out;omega) _
 clear ae o ac A
 go_wp2_with fail
 have r0:=(Qy (Qk ag.out 0 (qN))).1;refine bodyPost_ret (v:=.tuple #[.agg #[qN],.iface 34 (zI 60)]) (by simp[results,Tryz.results34,go_sem,r0]) rfl ?_;exact⟨rfl,ah⟩
theorem y7H(h:Addr)(w:World)(k:Vg w)(m:TabIs w)(n:zC w (1) 0 (.iface 405 (.pointer (some h)))):
  Calls prog 34 #[qP none none none 0 0 0 0 0 0] w fun e w'=>e=.returned (.tuple #[.agg #[qN],.iface 34 (zI 60)])/\Hid (zB w w'):=by
 refine y7G w (hid fun W b=>y5a [] [] [] none none none 0 0 0 0 0 0 W rfl rfl rfl (PgM.nil W) y7E) (hid fun W b=> ?_) (hid fun c W b=>y7C c W (k.below b k.lt));refine(y5p [] [] [] none none none 0 0 0 0 0 0 W rfl rfl (PgM.nil W) (fun x d=>by cases d) (hid fun j y=>by cases y)).mono ?_;rintro e a ⟨so,cap,rfl,o,p⟩;refine⟨so,cap,rfl,p,hid fun z q=> ?_⟩;have r:zB w a:=b.trans (p.out.mono b.size);have s:=m.below r m.lt;have A:zC a (1) 0 (.iface 405 (.pointer (some h))):=(r.cell (World.block_lt_of_cell? w _ n)).trans n;have t:RgZ []:=fun x d=>by cases d
 obtain⟨X,u,C,D⟩:=y2g so 0 cap [] a.heap.size a t (fun x d=>by cases d) o.out L0q s;obtain⟨c,rfl⟩:=y7F u;refine(y7D so 0 cap 34 (zI c) z (hid fun E F=> ?_)).mono fun e H f=>⟨c,f.1,hid f.2⟩
 refine(y3z so 0 cap [] (some (.inl c)) a.heap.size h a u C D t o.out L0q s A E (q.trans (F.mono q.size))).mono fun e w' f=> ?_
 obtain⟨v,rfl,i,G⟩:=f;have i:v=.iface 34 (zI c):=i;rw[i];exact⟨rfl,G⟩
theorem y7I{T:zA}{o p mo:Int}{c:TypeId}{d:Value}{w:World}(j:Hid (∀W:World,zB w W->Calls prog 34 #[qP none none none 0 0 0 0 0 0] W fun e w'=>∃so n cap,e=.returned (.tuple #[.agg #[.slice so n cap],.iface c d])/\Hid (zB W w'))):
  Calls prog 20 #[qP none none none 0 0 0 0 0 0,zI o,zT T,zI p,zI mo] w fun e w'=>e=.returned (.tuple #[zI 0,zI 0,.iface c d])/\zB w w':=by
 obtain⟨a,f⟩:∃a,a=w.alloc (.cells #[qN,qN,qN] 26):=⟨_,rfl⟩;have h:zB w a:=by rw[f];exact(Below.refl _ w).alloc L0q _
 have k:=hid (j.out a h);have m:=hid f;have b:=hid h;clear f h j;go_enter func20,ntmps20
 go_wp2_with fail
 rw[<-m.out];clear m;refine k.out.mono ?_;rintro e q ⟨so,n,cap,rfl,i⟩;have r:Hid (zB w (q.alloc (.cells #[.slice so n cap] 51))):=(b.out.trans (i.out.mono b.out.size)).alloc (b.out.trans (i.out.mono b.out.size)).size _;clear k i
 go_wp2_with fail
 refine bodyPost_ret (v:=.tuple #[zI 0,zI 0,.iface c d]) (by simp[results,Tryz.results20,go_sem]) rfl ?_;exact⟨rfl,r.out⟩
def Sfm(rs:List Rr)(T:zA)(s:Sp4):Prop:=∃(rule at' z c:Nat) (x:Int) (N':Nt),s.1=(rule:Int)/\s.2.1=(at':Int)/\s.2.2.1=(z:Int)/\rule<rs.length/\at'<=T.size/\c<=20000/\MaI rs T rule at' (some z) c x N'
theorem y7J{rs:List Rr}(h:Snd rs){T:zA}{N:Nt}{c:Nat}(n:Clo (pgG rs).2 (pgG rs).1 T N)(o:Val (pgG rs).2 (pgG rs).1 T N)(p:c=crd (pgG rs).2.length (T.size+1) N)(O:c<=20000){s:Sp4}(r:Sok (pgG rs).1 T N s):Sfm rs T s:=by
 have t:(pgG rs).1.length=rs.length:=(Vv (fun T=>fdI T (nmL rs)) rs []).2.1.1;obtain⟨a,f,z,q,u,v,x,b,e,i⟩:=r;have d:a<rs.length:=by rw[<-t];exact(List.getElem?_eq_some_iff.1 b).1
 obtain⟨P,y,A,j,Q,C,k,R,D,E,F,S,G,⟨H,I,K⟩,m⟩:=y7i h T a f d e;rw[b]at k;obtain rfl:=Option.some.inj k;obtain⟨U,L⟩:=G _ _ _ I;obtain⟨V,M⟩:=o _ _ _ i;obtain rfl:=(Ij L M).1;have W:j<=c:=by rw[H,p];exact y7t (K N (n _ _ _ i))
 exact⟨a,f,z,j,q,A,u,v,x,d,e,by omega,b,⟨y,⟨d,C⟩,D⟩,E,F,fun mo h=>(m mo).1 h,fun mo h=>(m mo).2 h⟩
theorem PgV.fit{rs:List Rr}{j m o:Option Addr}{y p A t u v:Nat}{Q:Addr}{w:World}(h:PgV rs j m o y p A t u v Q w)(T:zA):
  (∃R,(R=.nilIface∨∃tt uu,R=.iface tt uu)/\∀W:World,zB w W->Calls prog 10 #[qP j m o y p A t u v,zT T,zI 20000] W (zR W (.tuple #[qN,.bool false,R])))∨
  (∃E:List Sp4,T.size<=4096/\E.length<=4095/\rtF [((0:Int),(T.size:Int))] E=true/\(∀s∈((0:Int),(0:Int),(T.size:Int),(0:Int))::E,Sfm rs T s)/\∀W:World,zB w W->Calls prog 10 #[qP j m o y p A t u v,zT T,zI 20000] W (TrQ W (some (((0:Int),(0:Int),(T.size:Int),(0:Int))::E)))):=by
 have I:0<rs.length:=h.hs.pos;have S:(pgG rs).1.length=rs.length:=(Vv (fun T=>fdI T (nmL rs)) rs []).2.1.1;by_cases hTz:T.size<=4096
 rotate_left
 ·have ag:u<=64:=by rw[h.hrl];exact h.hs.len
  have D:∀W:World,zB w W->Calls prog 21 #[qP j m o y p A t u v,zT T,zI 20000] W fun e w'=>e=.returned (.tuple #[.bool false,zI 0,.iface 34 (zI 2)])/\zB W w':=fun W a=>z6B (mo:=20000) (hid fun b f=>by
   have i:=h.below (a.trans (f.mono a.size));refine y6E (mo:=20000) (hid fun W3 ah=> ?_) (by decide) ag (by rw[h.hrl];exact I) (by omega);have:=z6s rs j m o p t v Q b i.hs i.hp i.hM i.hz i.hu i.hT i.hF i.hPw W3 ah;rw[<-i.hol,Vj,<-i.hnl,S,<-i.hrl]at this;exact this)
  exact .inl ⟨_,.inr ⟨_,_,rfl⟩,fun W a=>z6C (mo:=20000) (hid fun b f=>D b (a.trans (f.mono a.size)))⟩
 obtain⟨G,n,U,c,x,-,V,aq,-,-,-,K,ab,⟨ai,L,-⟩,ac⟩:=y7i h.hs T 0 0 I (Nat.zero_le _);have X:0<(pgG rs).1.length:=by rw[S];exact I
 have Y:(pgG rs).1[0]=x:=(List.getElem?_eq_some_iff.1 V).2;have Z:=h.hs.opw h.hp h.hu;obtain⟨_,aj⟩:=Z.rt _ (List.getElem_mem X);rw[Y]at aj;have HM:∀(r:Option (Option Nat×Nat×Nt)) (q:Nat),Mch (pgG rs).2 (pgG rs).1 T 20000 N0 0 [] (.beg x 0) r q->∀W:World,zB w W->Calls prog 20 #[qP j m o y p A t u v,zI 0,zT T,zI 0,zI 20000] W fun e w'=>MRo r e/\zB W w':=fun r q H W a=>by
  have h:=h.below a;exact z6t rs j m o y p A t u v Q W h.hol h.hnl h.hrl h.hs h.hp h.hM h.hz h.hu h.hT h.hF h.hPw T 0 0 20000 I (Nat.zero_le _) (by decide) hTz x V r q H
 by_cases hc:c<=20000
 ·obtain⟨q,H⟩:=(ac 20000).1 hc
  have D:∀W:World,zB w W->Calls prog 21 #[qP j m o y p A t u v,zT T,zI 20000] W fun e w'=>e=.returned (.tuple #[.bool (enE G == (T.size:Int)),zI c,.nilIface])/\zB W w':=fun W a=>z6A (mo:=20000) (hid fun b f=>HM _ q H b (a.trans (f.mono a.size)))
  by_cases C:enE G=(T.size:Int)
  ·rw[show(enE G == (T.size:Int))=true by simpa using C]at D
   obtain⟨z,rfl⟩:∃z,G=some z:=by
    cases G with
    |none=>have C:(-1:Int)=(T.size:Int):=C;omega
    |some z=>exact⟨z,rfl⟩
   have aa:z=T.size:=by have C:(z:Int)=(T.size:Int):=C;omega
   obtain⟨F,rfl⟩:∃F:Nat,x=(F:Int):=⟨x.toNat,by omega⟩;obtain⟨l,hl,r,hR,ak⟩:=y6C h.hs Z T K ab X F Y z L;have HT:∀W:World,zB w W->Calls prog 10 #[qP j m o y p A t u v,zT T,zI 20000] W (TrQ W r):=fun W a=>by
    have h9:=h.below a;obtain⟨al,ad,ae,O,hp,hM,ar,hu,hT,hF,au⟩:=h9;clear h;subst al;rw[<-Vj rs]at ad;subst ad;rw[<-S]at ae;subst ae;exact z6D (mo:=20000) (hid fun b f=>D b (a.trans (f.mono a.size))) (by decide) hTz hM Z X F Y (by omega) (some z) c U q H l hl r hR
   cases r with
   |none=>exact .inl ⟨_,.inr ⟨_,_,rfl⟩,fun W a=>(HT W a).mono fun e w' C=>⟨C.2,C.1⟩⟩
   |some ts=>
    have am:Mn (pgG rs).2 (pgG rs).1 T U (.nd (F:Int)) 0 (some z):=K _ _ _ L;have af:=fun(k:Int) (M:zA) (cl:q4) (k':Int) (l:List Int) (hk:(pgG rs).2[k.toNat]? =some (8,M,cl,k'::l))=>h.hs.opts k M cl k' l hk
    have ao:=(y7k (T:=T) (h.hs.wfo T).sub af hl z (Nat.zero_le _) (fun _ _ _ _ e=>by cases e) am).take 4096;obtain⟨E,P,g2,g3⟩:=y7u (h.hs.wfo T).sub af K hR [((0:Int),(z:Int))] ts rfl (fun d hd=>by
     obtain rfl:d=0:=by simp at hd;omega
     exact⟨0,z,rfl,ao⟩)
    have ap:ndE (U F 0)=(T.size:Int):=by rw[L,<-aa];rfl
    rw[ap]at P;rw[aa]at g2;have P:ts=((0:Int),(0:Int),(T.size:Int),(0:Int))::E:=P;subst P;refine .inr ⟨E,hTz,by have:=(ak _ rfl).2;simp at this;omega,g2,fun s O=>y7J h.hs K ab ai hc ?_,HT⟩;rcases List.mem_cons.1 O with rfl|O
    ·exact⟨0,0,z,F,rfl,rfl,by rw[aa],V,Nat.zero_le _,L⟩
    ·exact g3 s O
  ·rw[show(enE G == (T.size:Int))=false by simpa using C]at D
   exact .inl ⟨_,.inl rfl,fun W a=>y6A (mo:=20000) (hid fun b f=>D b (a.trans (f.mono a.size)))⟩
 ·obtain⟨q,H⟩:=(ac 20000).2 (by omega)
  have D:∀W:World,zB w W->Calls prog 21 #[qP j m o y p A t u v,zT T,zI 20000] W fun e w'=>e=.returned (.tuple #[.bool false,zI 0,.iface 34 (zI 50)])/\zB W w':=fun W a=>z6B (mo:=20000) (hid fun b f=>HM _ q H b (a.trans (f.mono a.size)))
  exact .inl ⟨_,.inr ⟨_,_,rfl⟩,fun W a=>z6C (mo:=20000) (hid fun b f=>D b (a.trans (f.mono a.size)))⟩
theorem y7K(T:zA)(b:Addr)(w:World)(d:Vg w)(f:TabIs w)(h:zC w (1) 0 (.iface 405 (.pointer (some b)))):
  Calls prog 10 #[qP none none none 0 0 0 0 0 0,zT T,zI 20000] w fun e w'=>e=.returned (.tuple #[qN,.bool false,.iface 34 (zI 60)])/\zB w w':=by
 refine z6C (mo:=20000) (c:=0) (hid fun W i=>z6B (mo:=20000) (E:=0) (c:=0) (hid fun p m=> ?_));have j:=i.trans (m.mono i.size);refine y7I (mo:=20000) (hid fun n o=> ?_);have a:=j.trans (o.mono j.size);exact(y7H b n (d.below a d.lt) (f.below a f.lt) ((a.cell (World.block_lt_of_cell? w _ h)).trans h)).mono fun e w' k=>⟨none,0,0,k.1,k.2⟩
theorem y7L(so:Option Addr)(n cap:Nat)(rs:List Rr)(fp:Addr)(T:zA)(w:World)(aA:Hid (∀W:World,zB w W->Calls prog 8 #[] W fun e w'=>e=.returned (.bool true)/\Hid (zB W w')))(A:Vg w)(C:TabIs w)(Z:zC w (1) 0 (.iface 405 (.pointer (some fp))))(aB:Xm w)(hz:RgZ rs)(hu:RgU rs)(h:Qg w w.heap.size so n rs):
  Calls prog 5 #[.agg #[.slice so n cap],zT T] w fun e w'=>e=.returned (.bool true)/\zB w w':=by
 obtain⟨X,hX,aC,hC⟩:=y2g so n cap rs w.heap.size w hz hu h L0q C;obtain⟨D,aa⟩:∃D,D=w.alloc (.cells #[.slice so n cap] 51):=⟨_,rfl⟩;have ab:zB w D:=by rw[aa];exact(Below.refl _ w).alloc L0q _
 have gu:D.heap[w.heap.size]? =some (.cells #[.slice so n cap] 51):=by rw[aa];exact Qx w _ rfl
 have HS:=hid (aA.out D ab);have aD:=hid (fun(W:World) (i:zB w W)=>y6D so n cap rs X fp w hX aC hC hz hu h C Z aB W i);have aS:Hid (∀W:World,zB w W->Vg W):=fun W i=>A.below i A.lt
 have aj:=hid (fun(W:World) (i:zB w W)=>y7K T fp W (A.below i A.lt) (C.below i C.lt) ((i.cell (World.block_lt_of_cell? w _ Z)).trans Z));clear A C hz hu h hC hX aC Z aB aA aS;go_enter func5,ntmps5
 go_wp2_with fail
 rw[<-aa];refine HS.out.mono ?_;rintro e w1 ⟨rfl,ak⟩;have ac:=hid (ab.trans (ak.out.mono ab.size));have aE:=hid ((ak.out.block _ (Qq gu)).trans gu);obtain⟨x1,f1⟩:=Qy aE.out;clear HS ak aa ab gu
 go_wp2_with fail
 refine(aD.out w1 ac.out).mono ?_;rintro e t ⟨E,F,G,H,I,M,O,P,Q,ev,rfl,al,am⟩;obtain⟨o,ad⟩:∃o,o=t.alloc (.cells #[.slice E F G,.slice H I M,.slice O P Q] 26):=⟨_,rfl⟩;have ao:zB t o:=by rw[ad];exact(Below.refl _ t).alloc L0q _
 have aF:zB w1 o:=al.out.trans (ao.mono al.out.size);have r:=hid (ac.out.trans (aF.mono ac.out.size));have ae:Hid (o.heap[t.heap.size]? =some (.cells #[.slice E F G,.slice H I M,.slice O P Q] 26)):=by rw[ad];exact Qx t _ rfl
 obtain⟨q,ap⟩:∃q,q=t.heap.size:=⟨_,rfl⟩;rw[<-ap]at ae;have R:=hid ad;have af:=hid ap;have aG:=hid ao;clear aD aF ao aE al ad ap x1 f1 ac;rcases am with⟨te,ue,rfl,rfl,rfl,rfl,rfl,rfl,rfl,rfl,rfl,rfl⟩|⟨rfl,v⟩
 ·have aH:=hid (aj.out o r.out)
  clear aj
  go_wp2_with fail
  rw[<-R.out];refine aH.out.mono ?_;rintro e w3 ⟨rfl,f⟩;have s:=hid (r.out.trans (f.mono r.out.size));clear f aH
  go_wp2_with fail
  go_ret;exact⟨rfl,s.out⟩
 have v:=hid (v.out.below aG.out);clear aG aj;rcases v.out.fit T with⟨ev,am,S⟩|⟨U,aT,aU,aI,aJ,S⟩
 ·have V:=hid (S o B0q)
  clear S v;rcases am with rfl|⟨tt,uu,rfl⟩
  all_goals
   go_wp2_with fail
   rw[<-R.out,<-af.out];clear R af;refine V.out.mono ?_;rintro e w3 ⟨rfl,f⟩;have s:=hid (r.out.trans (f.mono r.out.size));clear f V
   go_wp2_with fail
   go_ret;exact⟨rfl,s.out⟩
 have V:=hid (S o B0q);have aV:=hid aJ;have aW:=hid aI;clear S aJ aI
 go_wp2_with fail
 rw[<-R.out,<-af.out];clear R af;refine V.out.mono ?_;rintro e w3 ⟨f,tv,rfl,ho⟩;obtain⟨d,ct,rfl,-,lt,hc⟩:=Kg ho (by simp);have aq:=Wk ho rfl;rw[List.length_cons]at aq ⊢;have s:=hid (r.out.trans (f.mono r.out.size));have aK:=hid (v.out.below f);have ar:=hid ((f.block _ (Qq ae.out)).trans ae.out);have au:=hid (y7B (T.size:Int) U d ct w3 (by omega) (by omega) lt aq hc aW.out);have HC:=hid hc;obtain⟨L,hL⟩:∃L,L=U.length:=⟨_,rfl⟩;have HL:=hid hL;rw[<-hL]at au aU aq ⊢;clear f ho hc V v ae hL
 go_wp2_with fail
 refine au.out.mono ?_;rintro e w4 ⟨rfl,y⟩;have aL:Hid (∀j u,(sp4 (((0:Int),(0:Int),(T.size:Int),(0:Int))::U))[j]? =some u->zC w4 d j u):=fun j u h=>(y.cell (p:=⟨d,j,none⟩) lt).trans (HC.out j u h)
 have aX:=hid (aK.out.below y);have ag:=hid (s.out.trans (y.mono s.out.size));have aM:=hid ((y.block _ (Qq ar.out)).trans ar.out);have aN:d<w4.heap.size:=Nat.lt_of_lt_of_le lt y.size;have q2:zC w4 d 2 (zI (T.size:Int)):=aL.out 2 _ rfl;clear y au HC aK s ar lt
 go_wp2_with fail
 clear q2
 go_loopw [12] (fun a wr=>∃k:Nat,a=zI (k:Int)/\k<=L+1/\k<=40/\Hid (zB w4 wr)) (fun a _=>L+1-(intOf a).toNat)
 case atStart=>exact⟨0,rfl,Nat.zero_le _,Nat.zero_le _,hid B0q⟩
 case round=>
  obtain⟨k,rfl,aZ,a4,m⟩:=hrel;by_cases hkL:k<L+1
  rotate_left
  ·have a0:decide ((k:Int)<(L:Int)+1)=false:=by simp;omega
   have a1:decide (k<L+1)=false:=by simp;omega
   have av:=hid (ag.out.trans (m.out.mono ag.out.size))
   go_wp2_with fail
   go_ret;exact⟨rfl,av.out⟩
  have a0:decide ((k:Int)<(L:Int)+1)=true:=by simp;omega
  have a1:decide (k<L+1)=true:=by simp;omega
  have a5:(k:Int)<(L:Int)+1:=by omega
  by_cases hk4:k<40
  rotate_left
  ·have a2:decide ((k:Int)<40)=false:=by simp;omega
   have a3:decide (k<40)=false:=by simp;omega
   have av:=hid (ag.out.trans (m.out.mono ag.out.size))
   go_wp2_with fail
   go_ret;exact⟨rfl,av.out⟩
  have a2:decide ((k:Int)<40)=true:=by simp;omega
  have a3:decide (k<40)=true:=by simp;omega
  have aw:k<(((0:Int),(0:Int),(T.size:Int),(0:Int))::U).length:=by rw[List.length_cons,<-HL.out];omega
  obtain⟨ah,ai,z,c,x,N',e1,e2,e3,hr,ha,hc,hm⟩:=aV.out _ (List.getElem_mem aw);obtain⟨y0,y1,y2,-⟩:=y7h _ k aw;rw[e1]at y0;rw[e2]at y1;rw[e3]at y2;have cl:∀j u,(sp4 (((0:Int),(0:Int),(T.size:Int),(0:Int))::U))[j]? =some u->zC wr d j u:=fun j u h=>(m.out.cell (p:=⟨d,j,none⟩) aN).trans (aL.out j u h)
  have c0:zC wr d (k*4) (zI (ah:Int)):=cl _ _ y0;have c1:zC wr d (k*4+1) (zI (ai:Int)):=cl _ _ y1;have c2:zC wr d (k*4+2) (zI (z:Int)):=cl _ _ y2;have aO:Hid (∀W:World,zB wr W->Calls prog 20 #[qP E H O F G I M P Q,zI (ah:Int),zT T,zI (ai:Int),zI 20000] W (zR W (.tuple #[zI (z:Int),zI (c:Int),.nilIface]))):=fun W i=>by
   refine((aX.out.below (m.out.trans (i.mono m.out.size))).match hm hr ha aT 20000 (by omega)).mono fun e w' he=> ?_
   obtain⟨⟨_,h1⟩|⟨h1,_⟩,h2⟩:=he
   ·exact⟨h1,h2⟩
   ·omega
  have aP:=hid ((m.out.block _ (Qq aM.out)).trans aM.out);obtain⟨p0,p1,p2,_⟩:=Fz aP.out;have lp:=Qq aP.out;have a6:d<wr.heap.size:=Nat.lt_of_lt_of_le aN m.out.size;have a7:IntKind.i64.wrap ((k:Int)+1)=(k:Int)+1:=by rw[IntKind.wrap_i64];omega
  clear y0 y1 y2 e1 e2 e3 cl hm aw;obtain⟨Y,hY⟩:∃Y,Y=wr.drew:=⟨_,rfl⟩;have ax:zB wr Y:=by rw[hY];exact(Below.refl _ wr).drew
  have aQ:Hid (zC Y q 0 (.slice E F G)/\zC Y q 1 (.slice H I M)/\zC Y q 2 (.slice O P Q)/\zC Y d (k*4) (zI (ah:Int))/\zC Y d (k*4+1) (zI (ai:Int))/\zC Y d (k*4+2) (zI (z:Int))):=by rw[hY];exact⟨p0,p1,p2,c0,c1,c2⟩
  have aR:=hid (aO.out Y ax);have HY:=hid hY;have ay:=hid ax;clear aO hY ax
  go_wp2_with fail
  refine Qc 99 (fun X:World=>zC X q 0 (.slice E F G)/\zC X q 1 (.slice H I M)/\zC X q 2 (.slice O P Q)/\zC X d (k*4) (zI (ah:Int))/\zC X d (k*4+1) (zI (ai:Int))/\zC X d (k*4+2) (zI (z:Int))) (by kernel_rfl) (by rw[<-HY.out];exact aQ.out) (fun b=> ?_);rw[<-HY.out]at b ⊢;clear aQ HY p0 p1 p2 c0 c1 c2;refine Qz 0 b ?_;refine Qz 1 b ?_;refine Qz 2 b ?_;refine Qz 3 b ?_;refine Qz 4 b ?_;refine Qz 5 b ?_;refine Qz 6 b ?_;refine Qz 7 b ?_;refine Qz 8 b ?_;refine Qz 9 b ?_;refine Qz 10 b ?_;refine Qz 11 b ?_
  (refine Qv 12 (fun K hK=> ?_);go_simp;refine aR.out.mono ?_;rintro e wz ⟨rfl,az⟩;go_simp;replace b:=z6x b az;have aY:=hid (m.out.trans ((ay.out.trans (az.mono ay.out.size)).mono m.out.size));clear az aR ay;refine hK.out _ _ b ?_;clear hK K)
  (try simp only[Act.put,zY])
  refine Qz 13 b ?_;refine Qz 14 b ?_;refine Qz 15 b ?_;refine Qz 16 b ?_;refine Qz 17 b ?_;refine Qz 18 b ?_;refine Qz 19 b ?_;refine⟨by kernel_rfl,?_⟩;have c2:=b.2.2.2.2.2;have lz:=World.block_lt_of_cell? wz _ c2;clear b
  go_wp2_with fail
  refine⟨⟨k+1,by go_num,by omega,by omega,aY⟩,?_⟩;simp[intOf];omega
theorem y7M(so:Option Addr)(n cap:Nat)(rs:List Rr)(T:zA)(b:Addr)(w:World)(c:Vg w)(d:TabIs w)(f:zC w (1) 0 (.iface 405 (.pointer (some b))))(i:Xm w)(j:RgZ rs)(k:RgU rs)(h:Qg w w.heap.size so n rs):
  Calls prog 5 #[.agg #[.slice so n cap],zT T] w fun e w'=>e=.returned (.bool true)/\zB w w':=
 y7L so n cap rs b T w (hid fun W a=>y6Z b W (c.below a c.lt) (d.below a d.lt) ((a.cell (World.block_lt_of_cell? w _ f)).trans f) (i.below a)) c d f i j k h
theorem y7V:True:=trivial
end Go.Proofs.YtmelafeingcgnaaGreatDoor
