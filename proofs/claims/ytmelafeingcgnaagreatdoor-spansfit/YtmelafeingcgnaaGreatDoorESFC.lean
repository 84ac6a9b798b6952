/- Lemmas. Conditions: as each names. -/
import Derived.Test.YtmelafeingcgnaaGreatDoorESFAToSFB
set_option linter.unusedVariables false
set_option maxRecDepth 100000
set_option maxHeartbeats 16000000
namespace Go.Proofs.YtmelafeingcgnaaGreatDoor
open Go.Proofs.Tryz
open Go.RowKit Go.Shelf Go.Maps
variable {w:World} {base cap g:Nat}
def rv2:List (Int×Int)->List Value
 |[]=>[]
 |p::r=>zI p.1::zI p.2::rv2 r
theorem y7e:∀a b:List (Int×Int),rv2 (a++b)=rv2 a++rv2 b
 |[],b=>rfl
 |p::r,b=>by rw[List.cons_append,rv2,rv2,y7e r b];rfl
theorem y7g:∀a:List (Int×Int),(rv2 a).length=a.length*2
 |[]=>rfl
 |p::r=>by rw[rv2,List.length_cons,List.length_cons,y7g r,List.length_cons];omega
theorem y7n{w:World}{base g cap:Nat}:∀(k:Nat) (a b:List (Int×Int)),b.length=k->w.ownsRow base 93 2 (zS g (a.length+k) cap) (a.length+k) (rv2 (a++b))->w.ownsRow base 93 2 (zS g a.length cap) a.length (rv2 a)
 |0,a,b,hk,h=>by
  obtain rfl:=List.length_eq_zero_iff.1 hk;simpa using h
 |k+1,a,b,hk,h=>by
  rcases List.eq_nil_or_concat b with rfl|⟨c,p,rfl⟩
  ·simp at hk
  ·rw[List.concat_eq_append]at hk h
   rw[List.length_append]at hk;simp only[List.length_cons,List.length_nil]at hk;refine y7n k a c (by omega) ?_;rw[<-List.append_assoc,y7e]at h;exact ownsRow_pop (n:=a.length+k) (by rw[y7g,List.length_append];omega) h
theorem y7z{d:Nat}{rm:List (Int×Int)}(h:w.ownsRow base 93 2 (zS g rm.length cap) rm.length (rv2 rm))(b:d<=rm.length):w.ownsRow base 93 2 (zS g d cap) d (rv2 (rm.take d)):=by
 have e:(rm.take d).length=d:=by rw[List.length_take];omega
 have a:=y7n (w:=w) (base:=base) (g:=g) (cap:=cap) (rm.length-d) (rm.take d) (rm.drop d) (List.length_drop) (by rw[List.take_append_drop,e,show d+(rm.length-d)=rm.length by omega];exact h);rw[e]at a;exact a
theorem y7A{e size n:Nat}{xs:List Value}(h:w.ownsRow base e size (zS g n cap) n xs):n<=cap:=by
 obtain⟨c,⟨a,_⟩|⟨d,f,i,a,j,k,b,m,o,p⟩⟩:=h
 ·cases a
 ·cases a;exact b
theorem y7o{e size n j:Nat}{u:Value}{xs:List Value}(h:w.ownsRow base e size (zS g n cap) n xs)(b:xs[j]? =some u):zC w g j u:=by
 have a:=h.cells (g:=g) rfl j u b;have c:(⟨g,0,none⟩:Addr).add j=⟨g,j,none⟩:=by unfold Addr.add;split<;>simp_all
 rw[c]at a;exact a
structure RmS (w:World) (o:Nat) (rm:List (Int×Int)) (W:World):Prop where
 be:zB w W
 ex:∃g cap,W.heap[o]? =some (.cells #[zS g rm.length cap] 90)/\W.ownsRow (o+1) 93 2 (zS g rm.length cap) rm.length (rv2 rm)
theorem RmS.of_push{W i d:World}{o c j:Nat}{ov:Value}{rm:List (Int×Int)}{a b:Int}(k:zB w W)(m:zH W o (.cells #[ov] 90))(s:w.heap.size<=o)(f:zB W i)(n:i.grownBy d ov.ownBlock)(q:ov.ownBlock≠some o)(t:∀y,ov.ownBlock=some y->w.heap.size<=y)(u:d.ownsRow (o+1) 93 2 (zS c (rm.length+1) j) (rm.length+1) (rv2 rm++[zI a,zI b]))(v:ov.ownBlock=some c∨i.heap.size<=c):RmS w o (rm++[(a,b)]) (d.setCell ⟨o,0,none⟩ (zS c (rm.length+1) j)):=by
 have l:=Qq m;have e:zH d o (.cells #[ov] 90):=((n.block o (by have:=f.size;omega) (fun e=>q e.symm)).trans (f.block o l)).trans m;have x:c≠o:=fun e=>by
  rcases v with h|h
  ·rw[e]at h;exact q h
  ·have:=f.size;omega
 have r:=k.trans (f.mono k.size);refine⟨(r.grown n r.size t).setCell (p:=⟨o,0,none⟩) s _,c,j,?_,?_⟩
 ·rw[List.length_append]
  exact Qk e 0 _
 ·rw[List.length_append,y7e]
  exact ownsRow_setCell_other u (a:=⟨o,0,none⟩) (fun e=>x (Option.some.inj e)) _
theorem y7h:∀(l:List Sp4) (i:Nat) (a:i<l.length),(sp4 l)[i*4]? =some (zI l[i].1)/\(sp4 l)[i*4+1]? =some (zI l[i].2.1)/\(sp4 l)[i*4+2]? =some (zI l[i].2.2.1)/\(sp4 l)[i*4+3]? =some (zI l[i].2.2.2)
 |[],i,a=>by simp at a
 |s::r,0,a=>⟨rfl,rfl,rfl,rfl⟩
 |s::r,i+1,a=>by
  have h:=y7h r i (by simpa using a);have e:∀k,(sp4 (s::r))[(i+1)*4+k]? =(sp4 r)[i*4+k]? :=fun k=>by
   rw[show(i+1)*4+k=(i*4+k)+4 by omega];rfl
  refine⟨?_,?_,?_,?_⟩
  ·have:=e 0;rw[Nat.add_zero,Nat.add_zero]at this;rw[this];exact h.1
  ·rw[e 1];exact h.2.1
  ·rw[e 2];exact h.2.2.1
  ·rw[e 3];exact h.2.2.2
theorem y7B(D:Int)(v:List Sp4)(x cap:Nat)(w:World)(h0:0<=D)(hl:v.length<=4096)(lt:x<w.heap.size)(a8:v.length+1<=cap)(H:∀j u,(sp4 (((0:Int),(0:Int),D,(0:Int))::v))[j]? =some u->zC w x j u)(hr:rtF [((0:Int),D)] v=true):
  Calls prog 15 #[zS x (v.length+1) cap] w fun e w'=>e=.returned (.bool true)/\zB w w':=by
 obtain⟨L,hL⟩:∃L,L=v.length:=⟨_,rfl⟩;have HL:Hid (L=v.length):=hL;rw[<-hL]at hl a8 ⊢;clear hL;have q0:zC w x 0 (zI 0):=H 0 _ rfl;have q1:zC w x 1 (zI 0):=H 1 _ rfl;have q2:zC w x 2 (zI D):=H 2 _ rfl;have q3:zC w x 3 (zI 0):=H 3 _ rfl;have HC:=hid H;have HR:=hid hr;have d0:decide (D<0)=false:=by simp;omega
 obtain⟨S,ad⟩:∃S,S=w.alloc (.cells #[.slice none 0 0] 90):=⟨_,rfl⟩;have G:zB w S:=by rw[ad];exact(Below.refl _ w).alloc L0q _
 have U:S.heap[w.heap.size]? =some (.cells #[.slice none 0 0] 90):=by rw[ad];exact Qx w _ rfl
 have aw:=hid ad;have hp:=y7l (t:=w.heap.size) (n:=0) (base:=w.heap.size+1) (ov:=.slice none 0 0) (xs:=[]) (W:=S) (Qj U 0 _ rfl).1 (Qj U 0 _ rfl).2 (World.ownsRow_nil _ _ _ _) (by omega) (Qq U) (by intro e;cases e) 0 D;have HP:=hid hp;have ax:=hid G;have ay:=hid U;clear hp ad G U H hr;go_enter func15,ntmps15
 go_wp2_with fail
 rw[<-aw.out];refine HP.out.mono ?_;rintro e w2 ⟨rfl,V,w4,I,c4,az,aA,aB,aC,aa⟩;have h2:RmS w w.heap.size [((0:Int),D)] w2:=by
  rw[aa];exact RmS.of_push (rm:=[]) (a:=0) (b:=D) ax.out ay.out L0q az aA (by intro e;cases e) (fun y e=>by cases e) aB aC
 have H2:=hid h2;clear h2 aa az aA aB aC HP aw ax ay q0 q1 q2 q3 d0;by_cases h1:cap=1
 ·obtain rfl:L=0:=by omega
  subst h1;have HB:=hid H2.out.be
  go_wp2_with fail
  go_loopw [47] (fun a wr=>a=zI 0/\Hid (zB w wr)) (fun a _=>0)
  case atStart=>exact⟨rfl,HB⟩
  case round=>
   obtain⟨rfl,a9⟩:=hrel
   go_wp2_with fail
   (try simp only[Exit.inBlock,Exit.then])
   go_ret;exact⟨rfl,a9.out⟩
 have bm:¬(cap:Int)=1:=by omega
 have bn:(1:Int)<=(L:Int)+1:=by omega
 have bo:(L:Int)+1<=(cap:Int):=by omega
 have bp:(0:Int)<=(L:Int)+1:=by omega
 go_wp2_with fail
 go_loopw [47] (fun a wr=>∃(k:Nat) (rm:List (Int×Int)),a=zI (k:Int)/\k<=L/\rm.length<=k+1/\Hid (rtF rm (v.drop k)=true)/\Hid (RmS w w.heap.size rm wr)) (fun a _=>L-(intOf a).toNat)
 case atStart=>exact⟨0,[((0:Int),D)],rfl,Nat.zero_le _,Nat.le_refl _,HR,H2⟩
 case round=>
  obtain⟨k,rm,rfl,hk,bq,aD,HS⟩:=hrel;by_cases hkn:k<L
  rotate_left
  ·have a0:decide ((k:Int)<(L:Int))=false:=by simp;omega
   have HB:=hid HS.out.be
   go_wp2_with fail
   (try simp only[Exit.inBlock,Exit.then])
   go_ret;exact⟨rfl,HB.out⟩
  have br:(k:Int)<(L:Int):=by omega
  have a0:decide ((k:Int)<(L:Int))=true:=by simp;omega
  have ba:k<v.length:=by rw[<-HL.out];exact hkn
  obtain⟨⟨r,f,t,d⟩,hs⟩:∃s,s=v[k]:=⟨_,rfl⟩;have aE:v.drop k=(r,f,t,d)::v.drop (k+1):=by rw[hs];exact List.drop_eq_getElem_cons ba
  obtain⟨x0,x1,x2,x3⟩:=y7h (((0:Int),(0:Int),D,(0:Int))::v) (k+1) (by simp;omega);rw[List.getElem_cons_succ,<-hs]at x0 x1 x2 x3;have cl:∀j u,(sp4 (((0:Int),(0:Int),D,(0:Int))::v))[(k+1)*4+j]? =some u->zC wr x (4+k*4+j) u:=fun j u h=>(HS.out.be.cell (p:=⟨x,4+k*4+j,none⟩) lt).trans (by rw[show 4+k*4+j=(k+1)*4+j by omega];exact HC.out _ _ h)
  have c0:zC wr x (4+k*4) (zI r):=cl 0 _ x0;have c1:zC wr x (4+k*4+1) (zI f):=cl 1 _ x1;have c2:zC wr x (4+k*4+2) (zI t):=cl 2 _ x2;have c3:zC wr x (4+k*4+3) (zI d):=cl 3 _ x3;have aF:=aD.out;rw[aE,rtF,Bool.and_eq_true,decide_eq_true_eq]at aF;obtain⟨⟨b1,b2,b3,b4⟩,E⟩:=aF;dsimp only at b1 b2 b3 b4 E;obtain⟨o,rfl⟩:∃o:Nat,d=(o:Int):=⟨d.toNat,by omega⟩;rw[Int.toNat_natCast]at E;have bb:o<=rm.length:=by omega
  obtain⟨C,q,ab,b6,b7,b8⟩:∃C q,(rm.take o).getLast?=some (C,q)/\C<=f/\t<=q/\rtF ((rm.take o).dropLast++[(t,q)]++[(f,t)]) (v.drop (k+1))=true:=by
   cases ab:(rm.take o).getLast? with
   |none=>rw[ab]at E;cases E
   |some p=>
    rw[ab]at E;simp only[Bool.and_eq_true,decide_eq_true_eq]at E;exact⟨p.1,p.2,rfl,E.1.1,E.1.2,E.2⟩
  obtain⟨i,ak⟩:∃i,i=(rm.take o).dropLast:=⟨_,rfl⟩;have al:rm.take o=i++[(C,q)]:=by obtain⟨ys,hy⟩:=List.getLast?_eq_some_iff.1 ab;rw[ak,hy,List.dropLast_concat]
  have am:i.length+1=o:=by have h9:=congrArg List.length al;rw[List.length_take,List.length_append]at h9;simp at h9;omega
  rw[<-ak]at b8;obtain⟨ao,g,z,hO,ae⟩:=HS.out;obtain⟨bc,bd⟩:=ae.lt g rfl;obtain⟨m,hm⟩:∃m,m=rm.length:=⟨_,rfl⟩;have bs:m<=z:=by rw[hm];exact y7A ae
  obtain⟨X0,af⟩:∃X0,X0=wr.alloc (.cells #[zI r,zI f,zI t,zI (o:Int)] 40):=⟨_,rfl⟩;have aG:zB wr X0:=by rw[af];exact(Below.refl _ wr).alloc L0q _
  have aH:X0.heap[wr.heap.size]? =some (.cells #[zI r,zI f,zI t,zI (o:Int)] 40):=by rw[af];exact Qx wr _ rfl
  obtain⟨A,ag⟩:∃A,A=X0.drew:=⟨_,rfl⟩;have G:zB wr A:=by rw[ag];exact aG.drew
  have M:A.heap[wr.heap.size]? =some (.cells #[zI r,zI f,zI t,zI (o:Int)] 40):=by rw[ag];exact aH
  have lo:=Qq hO;have ah:A.heap[w.heap.size]? =some (.cells #[zS g rm.length z] 90):=(G.block _ lo).trans hO;have aI:=Xf ae G;have ap:Hid (zC A wr.heap.size 0 (zI r)/\zC A wr.heap.size 1 (zI f)/\zC A wr.heap.size 2 (zI t)/\zC A wr.heap.size 3 (zI (o:Int))/\zC A w.heap.size 0 (zS g m z)):=⟨(Qj M 0 _ rfl).1,(Qj M 1 _ rfl).1,(Qj M 2 _ rfl).1,(Qj M 3 _ rfl).1,by rw[hm];exact(Qj ah 0 _ rfl).1⟩;obtain⟨F,O⟩:∃F,F=A.setCell ⟨w.heap.size,0,none⟩ (zS g o z):=⟨_,rfl⟩;have aJ:wr.heap.size≠w.heap.size:=by omega
  have aK:F.heap[wr.heap.size]? =some (.cells #[zI r,zI f,zI t,zI (o:Int)] 40):=by rw[O];exact(Below.heap_setCell _ ⟨w.heap.size,0,none⟩ _ _ aJ).trans M
  have aq:F.heap[w.heap.size]? =some (.cells #[zS g o z] 90):=by rw[O];exact Qk ah 0 _
  have aa:F.ownsRow (w.heap.size+1) 93 2 (zS g o z) o (rv2 (i++[(C,q)])):=by
   rw[O,<-al];exact y7z (ownsRow_setCell_other aI (a:=⟨w.heap.size,0,none⟩) (fun e=>by have:=Option.some.inj e;have:g=w.heap.size:=this;omega) _) bb
  have aL:zB w F:=by rw[O];exact(ao.trans (G.mono ao.size)).setCell (p:=⟨w.heap.size,0,none⟩) L0q _
  have aM:=hid (y7y (t:=w.heap.size) (n:=i.length) (cap:=z) (g:=g) (W:=F) (by rw[am];exact(Qj aq 0 _ rfl).1) (by omega));have ar:=hid (y7x (t:=w.heap.size) (n:=m) (cap:=z) (so:=some ⟨g,0,none⟩) (W:=A) ap.out.2.2.2.2 (Qj ah 0 _ rfl).2 o (by omega));rw[<-O]at ar;have e1:decide (r<0)=false:=by simp;omega
  have e2:decide (t<f)=false:=by simp;omega
  have e3:decide ((o:Int)<1)=false:=by simp;omega
  have e4:decide ((m:Int)<(o:Int))=false:=by simp;omega
  have e5:decide (m<o)=false:=by simp;omega
  have e6:decide (o<1)=false:=by simp;omega
  have aN:=hid af;have au:=hid ag;have HF:=hid (And.intro aK (And.intro aq (And.intro aa aL)));have HG:=hid (And.intro bc bd);have bf:=hid b8;have aO:=hid am;have bt:IntKind.i64.wrap ((k:Int)+1)=(k:Int)+1:=by rw[IntKind.wrap_i64];omega
  clear aD HS cl x0 x1 x2 x3 aE hs E ab al ak ae hO ao af ag O aH M ah aI aK aq aa aL aG G b8 hm aJ am
  go_wp2_with fail
  rw[<-aN.out];clear c0 c1 c2 c3;refine Qc 99 (fun X:World=>zC X wr.heap.size 0 (zI r)/\zC X wr.heap.size 1 (zI f)/\zC X wr.heap.size 2 (zI t)/\zC X wr.heap.size 3 (zI (o:Int))/\zC X w.heap.size 0 (zS g m z)) (by kernel_rfl) (by rw[<-au.out];exact ap.out) (fun c=> ?_);rw[<-au.out]at c ⊢;clear ap au aN;refine Qz 0 c ?_;refine Qz 1 c ?_;refine Qz 2 c ?_;refine Qz 3 c ?_;refine Qz 4 c ?_;refine Qz 5 c ?_;refine Qz 6 c ?_;refine Qz 7 c ?_;refine Qz 8 c ?_;refine Qz 9 c ?_;refine Qz 10 c ?_;refine Qz 11 c ?_;refine Qz 12 c ?_;refine Qz 13 c ?_;refine Qz 14 c ?_;refine Qz 15 c ?_;refine Qz 16 c ?_;refine Qz 17 c ?_
  (refine Qv 18 (fun K hK=> ?_);go_simp;refine(y7w c.2.2.2.2).mono ?_;rintro e w5 ⟨rfl,aP⟩;rw[aP];clear aP;go_simp;refine hK.out _ _ c ?_;clear hK K)
  (try simp only[Act.put,zY])
  refine Qz 19 c ?_;refine Qz 20 c ?_;refine⟨by kernel_rfl,?_⟩;have p3:=c.2.2.2.1;have l3:=World.block_lt_of_cell? A _ p3;clear c
  go_wp2_with fail
  refine ar.out.mono ?_;rintro e w6 ⟨rfl,aQ⟩;rw[aQ];clear aQ ar p3 l3
  go_wp2_with fail
  refine aM.out.mono ?_;rintro e X3 ⟨rfl,aR⟩;obtain⟨Y,hY⟩:∃Y,Y=X3.drew:=⟨_,rfl⟩;obtain⟨f1,f2,f3,f4⟩:=HF.out;have ac:zB F Y:=by rw[hY];exact aR.drew
  have ai:=(ac.block _ (Qq f1)).trans f1;have aS:=(ac.block _ (Qq f2)).trans f2;have P:=Xf f3 ac;have aT:=f4.trans (ac.mono f4.size);have aj:(rv2 i).length=i.length*2:=y7g i;have v0:(rv2 (i++[(C,q)]))[2*i.length]? =some (zI C):=by rw[y7e,List.getElem?_append_right (by omega),aj,show 2*i.length-i.length*2=0 by omega];rfl
  have v1:(rv2 (i++[(C,q)]))[2*i.length+1]? =some (zI q):=by rw[y7e,List.getElem?_append_right (by omega),aj,show 2*i.length+1-i.length*2=1 by omega];rfl
  have aU:zC Y wr.heap.size 1 (zI f)/\zC Y wr.heap.size 2 (zI t)/\zC Y g (2*i.length) (zI C)/\zC Y g (2*i.length+1) (zI q):=⟨(Qj ai 1 _ rfl).1,(Qj ai 2 _ rfl).1,y7o P v0,y7o P v1⟩;have bu:=P.frozenAt (2*i.length);obtain⟨Z,Q⟩:∃Z,Z=Y.setCell ⟨g,2*i.length,none⟩ (zI t):=⟨_,rfl⟩;have bg:wr.heap.size≠g:=by have:=HG.out.2;omega
  have bh:w.heap.size≠g:=by have:=HG.out.1;omega
  have aV:Z.heap[wr.heap.size]? =some (.cells #[zI r,zI f,zI t,zI (o:Int)] 40):=by rw[Q];exact(Below.heap_setCell _ ⟨g,2*i.length,none⟩ _ _ bg).trans ai
  have R:Z.heap[w.heap.size]? =some (.cells #[zS g o z] 90):=by rw[Q];exact(Below.heap_setCell _ ⟨g,2*i.length,none⟩ _ _ bh).trans aS
  have aW:(rv2 (i++[(C,q)])).set (2*i.length) (zI t)=rv2 (i++[(t,q)]):=by
   rw[y7e,y7e,List.set_append_right _ _ (by omega),aj,show 2*i.length-i.length*2=0 by omega];rfl
  have aX:Z.ownsRow (w.heap.size+1) 93 2 (zS g o z) o (rv2 (i++[(t,q)])):=by
   rw[Q,<-aW];exact(P.stored (2*i.length) (zI t)).1
  have av:zB w Z:=by rw[Q];exact aT.setCell (p:=⟨g,2*i.length,none⟩) (by show w.heap.size<=g;have:=HG.out.1;omega) _
  obtain⟨oZ,aY⟩:=Qj R 0 _ rfl;have aZ:=hid (y7l (t:=w.heap.size) (n:=o) (base:=w.heap.size+1) (W:=Z) oZ aY aX (by omega) (Qq R) (by intro e;have:g=w.heap.size:=Option.some.inj e;omega) f t);have HY:=hid hY;have HZ:=hid Q;have e7:decide (f<C)=false:=by simp;omega
  have e8:decide (q<t)=false:=by simp;omega
  have bi:=hid (And.intro aV (And.intro R av));have a6:=hid aU;have bj:g<Y.heap.size:=(P.lt g rfl).2;have a7:Hid (∀w',(∃V w4 I c4,zB Z V/\V.grownBy w4 (Value.slice (some ⟨g,0,none⟩) o z).ownBlock/\w4.ownsRow (w.heap.size+1) 93 2 (zS I (o+1) c4) (o+1) (rv2 (i++[(t,q)])++[zI f,zI t])/\((Value.slice (some ⟨g,0,none⟩) o z).ownBlock=some I∨V.heap.size<=I)/\w'=w4.setCell ⟨w.heap.size,0,none⟩ (zS I (o+1) c4))->RmS w w.heap.size (i++[(t,q)]++[(f,t)]) w'):=fun w' ⟨V,w4,I,c4,a1,a2,a3,a4,a5⟩=>by
   have bk:(i++[(t,q)]).length=o:=by rw[List.length_append];exact aO.out
   rw[a5];rw[<-bk]at a2 a3 a4 R ⊢;exact RmS.of_push av R L0q a1 a2 (by intro e;have:g=w.heap.size:=Option.some.inj e;omega) (fun y e=>by have:g=y:=Option.some.inj e;have:=HG.out.1;omega) a3 a4
  have bl:(i++[(t,q)]++[(f,t)]).length<=k+1+1:=by have:=aO.out;simp;omega
  clear hY Q ai aS P aT aV R aX av ac aR f1 f2 f3 f4 aW v0 v1 aU aj aM HF oZ aY
  go_wp2_with fail
  refine Qc 99 (fun X:World=>zC X wr.heap.size 1 (zI f)/\zC X wr.heap.size 2 (zI t)/\zC X g (2*i.length) (zI C)/\zC X g (2*i.length+1) (zI q)) (by kernel_rfl) (by rw[<-HY.out];exact a6.out) (fun c=> ?_);rw[<-HY.out]at c ⊢;clear a6 HY;refine Qz 0 c ?_;refine Qz 1 c ?_;refine Qz 2 c ?_;refine Qz 3 c ?_;refine Qz 4 c ?_;refine Qz 5 c ?_;refine Qz 6 c ?_;refine Qz 7 c ?_;refine Qz 8 c ?_;refine Qz 9 c ?_;refine Qz 10 c ?_;refine Qz 11 c ?_;refine Qz 12 c ?_;refine Qz 13 c ?_;refine Qz 14 c ?_;refine Qz 15 c ?_;refine⟨by kernel_rfl,?_⟩;obtain⟨p1,p2,p3,p4⟩:=c;have l1:=World.block_lt_of_cell? Y _ p1
  go_wp2_with fail
  rw[<-HZ.out];refine aZ.out.mono ?_;rintro e w9 ⟨rfl,hq⟩;have HN:=hid (a7.out w9 hq);clear hq aZ a7 HZ bi p1 p2 p3 p4 l1 bj
  go_wp2_with fail
  refine⟨⟨k+1,i++[(t,q)]++[(f,t)],by go_num,by omega,bl,bf,HN⟩,?_⟩;simp[intOf];omega
end Go.Proofs.YtmelafeingcgnaaGreatDoor
