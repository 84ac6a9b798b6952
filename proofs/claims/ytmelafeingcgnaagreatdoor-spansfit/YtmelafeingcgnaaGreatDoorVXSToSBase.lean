/- Lemmas for the last text. Conditions: those that each names. -/
import Derived.Test.YtmelafeingcgnaaGreatDoorVY15ToX17
import Derived.Test.YtmelafeingcgnaaGreatDoorVSPKToSPQ
import Derived.Test.YtmelafeingcgnaaGreatDoorVX6ToX16
import Derived.Test.YtmelafeingcgnaaGreatDoorRows
import Derived.ProofKit
import Derived.OpenShut
import Derived.Carry
import Derived.Test.YtmelafeingcgnaaGreatDoorCards
import Derived.Test.YtmelafeingcgnaaGreatDoorTie
import Derived.LaidMore
import Derived.LaidHandle
import Derived.Stop.Joined
import Derived.SizedLaws
import Derived.Lib.LaidTab
import Derived.Test.YtmelafeingcgnaaGreatDoorVQ1ToQ3
import Derived.Stop.LaidErr
import Derived.LaidLaws
import Derived.Test.YtmelafeingcgnaaGreatDoorVPDnToC4
set_option linter.unusedVariables false
set_option maxRecDepth 100000
set_option maxHeartbeats 8000000
namespace Go.Proofs.YtmelafeingcgnaaGreatDoor
open Go.Proofs.Tryz
open Go.RowKit
variable {W:World}
def Sim(S:zA):Prop:=∀k x,bt S k=some x->x≠92/\x≠35/\x≠34/\x≠94
def z6H(S:zA):Bool:=(List.range S.size).all fun k=>match bt S k with
 |some x=>decide (x≠92/\x≠35/\x≠34/\x≠94)
 |none=>true
theorem y6K{S:zA}(h:z6H S=true):Sim S:=fun k x o=>by
 have r:=List.all_eq_true.1 h k (List.mem_range.2 (Zq o).1);rw[o]at r;exact of_decide_eq_true r
theorem Sim.cut{S:zA}(h:Sim S)(p:Nat):Sim (S.extract p S.size):=fun k x r=>by
 obtain⟨y,o⟩:=Xy r;have A:(S.extract p S.size).size=S.size-p:=by rw[ByteArray.size_extract];omega
 refine h (p+k) x (z6S ⟨by omega,?_⟩);rw[ByteArray.getElem_extract]at o;exact o
theorem z6I{S:zA}(D:Sim S)(k b n:Nat)(w:World)(h:sg S k=.inr (b,n))(E:S.size<=9007199254740992):
  Calls prog 222 #[zT S,zI (k:Int)] w fun e w'=>e=.returned (.tuple #[.int .u8 b,zI (n:Int),.nilIface])/\zB w w':=by
 unfold sg at h;cases hx0:bt S k with
 |none=>rw[hx0]at h;cases h
 |some x=>
  rw[hx0]at h;simp only at h;have r:=(Zq hx0).2;obtain⟨Z,hx⟩:=Xy hx0;have aa:(k:Int)<(S.size:Int):=by omega
  have o:x≠92:=(D k x hx0).1;rw[if_neg o]at h;cases hp:Lx x with
  |false=>rw[hp]at h;simp at h
  |true=>
   rw[hp,if_pos rfl]at h;simp only[Sum.inr.injEq,Prod.mk.injEq]at h;obtain⟨rfl,rfl⟩:=h;unfold Lx at hp;simp only[Bool.and_eq_true,Bool.not_eq_true']at hp;have G:Hid (∀w:World,Calls prog 185 #[zT S,zI (k:Int),.int .u8 92] w (zR w (.bool false))):=fun w=>Bc S k 92 w (by omega) (by rw[hx0];simpa using o) E
   have U:=z7a x false r hp.1;have V:=z7b x true r (by rw[Bool.and_eq_true];exact hp.2);have a0:decide ((S.size:Int)<=(k:Int))=false:=by simp;omega
   have y:((k+1:Nat):Int)=(k:Int)+1:=by omega
   rw[y];clear hp o hx0 y;go_enter func222,ntmps222
   go_wp2_with fail
   refine(G.out _).mono ?_;rintro e w1 ⟨rfl,A⟩;have Y:Hid (zB w w1):=A;clear A
   go_wp2_with fail
   refine(U.out _).mono ?_;rintro e w2 ⟨rfl,rfl⟩
   go_wp2_with fail
   refine(V.out _).mono ?_;rintro e w3 ⟨rfl,rfl⟩
   go_wp2_with fail
   go_ret3
   exact⟨rfl,Y.out⟩
theorem y6L{S:zA}(hQ:Sim S)(k X N:Nat)(w:World)(h:mbr S k=.inr (X,N))(hS:S.size<=9007199254740992):
  Calls prog 187 #[zT S,zI (k:Int)] w fun e w'=>e=.returned (.tuple #[cv X,zI (N:Int),.nilIface])/\zB w w':=by
 unfold mbr at h;cases hs:sg S k with
 |inl c=>rw[hs]at h;cases h
 |inr q=>
  obtain⟨lo,M⟩:=q;rw[hs]at h;simp only at h;have ab:=Bm hs;have ai:Hid (∀w:World,Calls prog 222 #[zT S,zI (k:Int)] w (zR w (.tuple #[.int .u8 lo,zI (M:Int),.nilIface]))):=fun w=>z6I hQ k lo M w hs hS
  by_cases hm:bt S M=some 45
  ·rw[if_pos hm]at h
   cases hs2:sg S (M+1)with
   |inl c=>rw[hs2]at h;cases h
   |inr q2=>
    obtain⟨o,N2⟩:=q2;rw[hs2]at h;simp only at h;have aj:=Bm hs2;by_cases hlt:o<lo
    ·rw[if_pos hlt]at h;cases h
    ·rw[if_neg hlt]at h
     simp only[Sum.inr.injEq,Prod.mk.injEq]at h;obtain⟨V,rfl⟩:=h;have ac:Hid (∀w:World,Calls prog 185 #[zT S,zI (M:Int),.int .u8 45] w (zR w (.bool true))):=fun w=>Lv S M 45 w hm hS
     have al:Hid (∀w:World,Calls prog 222 #[zT S,zI ((M:Int)+1)] w (zR w (.tuple #[.int .u8 o,zI (N2:Int),.nilIface]))):=fun w=>by
      have ht:=z6I hQ (M+1) o N2 w hs2 hS;rw[show((M+1:Nat):Int)=(M:Int)+1 by omega]at ht;exact ht
     have ad:Hid (∀w:World,Calls prog 223 #[zI (lo:Int),zI (o:Int)] w (zR w (cv X))):=by rw[<-V];exact fun w=>Bb lo o w (by omega) aj.1
     have am:IntKind.i64.wrap (lo:Int)=(lo:Int):=by rw[IntKind.wrap_i64];omega
     have ao:IntKind.i64.wrap (o:Int)=(o:Int):=by rw[IntKind.wrap_i64];omega
     have d1:decide ((o:Int)<(lo:Int))=false:=by simp;omega
     have d2:decide (o<lo)=false:=by simp;omega
     have ap:M<S.size:=z7c hm;clear hm hs hs2 V hlt ab aj;go_enter func187,ntmps187
     go_wp2_with fail
     refine(ai.out _).mono ?_;rintro e w1 ⟨rfl,y⟩;have Y:Hid (zB w w1):=(B0q.alloc L0q _).trans (y.mono (by simp));have A:Hid (Blk w1 w.heap.size 0):=(Blk.new0 w).below y (by simp);clear y
     go_wp2_with fail
     refine(ac.out _).mono ?_;rintro e Z ⟨rfl,D⟩;have aa:Hid (zB w Z):=Y.out.trans (D.mono Y.out.size);have E:Hid (Blk Z w.heap.size 0):=A.out.below D A.out.lt;clear D A
     go_wp2_with fail
     refine(al.out _).mono ?_;rintro e w5 ⟨rfl,ae⟩;have ak:Hid (zB w w5):=aa.out.trans (ae.mono aa.out.size);have af:Hid (Blk w5 w.heap.size 0):=E.out.below ae E.out.lt;clear ae E
     go_wp2_with fail
     refine(ad.out _).mono ?_;rintro e G ⟨rfl,U⟩;have ag:Hid (zB w G):=ak.out.trans (U.mono ak.out.size);have r:Hid (Blk G w.heap.size 0):=af.out.below U af.out.lt;clear U af;obtain⟨c0,c1,c2,c3⟩:=r.out.cells;obtain⟨f0,f1,f2,f3⟩:=r.out.thaw;obtain⟨r0,r1,r2,r3⟩:=(r.out.st4 X).cells;have ah:Hid (zB w (st4 G w.heap.size X)):=Below.st4 ag.out L0q _;unfold st4 at r0 r1 r2 r3;clear r;dsimp only[cv]
     go_wp2_with fail
     refine bodyPost_ret (v:=.tuple #[cv X,zI (N2:Int),.nilIface]) (by simp[results,Tryz.results187,go_sem,r0,r1,r2,r3]) rfl ⟨rfl,ah.out⟩
  ·rw[if_neg hm]at h
   simp only[Sum.inr.injEq,Prod.mk.injEq]at h;obtain⟨V,rfl⟩:=h;have ac:Hid (∀w:World,Calls prog 185 #[zT S,zI (M:Int),.int .u8 45] w (zR w (.bool false))):=fun w=>Bc S M 45 w (by omega) hm hS
   have ad:Hid (∀w:World,Calls prog 223 #[zI (lo:Int),zI (lo:Int)] w (zR w (cv X))):=by rw[<-V];exact fun w=>Bb lo lo w L0q ab.1
   have am:IntKind.i64.wrap (lo:Int)=(lo:Int):=by rw[IntKind.wrap_i64];omega
   clear hm hs V ab;go_enter func187,ntmps187
   go_wp2_with fail
   refine(ai.out _).mono ?_;rintro e w1 ⟨rfl,y⟩;have Y:Hid (zB w w1):=(B0q.alloc L0q _).trans (y.mono (by simp));have A:Hid (Blk w1 w.heap.size 0):=(Blk.new0 w).below y (by simp);clear y
   go_wp2_with fail
   refine(ac.out _).mono ?_;rintro e Z ⟨rfl,D⟩;have aa:Hid (zB w Z):=Y.out.trans (D.mono Y.out.size);have E:Hid (Blk Z w.heap.size 0):=A.out.below D A.out.lt;clear D A
   go_wp2_with fail
   refine(ad.out _).mono ?_;rintro e G ⟨rfl,U⟩;have ag:Hid (zB w G):=aa.out.trans (U.mono aa.out.size);have r:Hid (Blk G w.heap.size 0):=E.out.below U E.out.lt;clear U E;obtain⟨c0,c1,c2,c3⟩:=r.out.cells;obtain⟨f0,f1,f2,f3⟩:=r.out.thaw;obtain⟨r0,r1,r2,r3⟩:=(r.out.st4 X).cells;have ah:Hid (zB w (st4 G w.heap.size X)):=Below.st4 ag.out L0q _;unfold st4 at r0 r1 r2 r3;clear r;dsimp only[cv]
   go_wp2_with fail
   refine bodyPost_ret (v:=.tuple #[cv X,zI (M:Int),.nilIface]) (by simp[results,Tryz.results187,go_sem,r0,r1,r2,r3]) rfl ⟨rfl,ah.out⟩
theorem y6M{S:zA}(hQ:Sim S)(C n:Nat)(w:World)(D:Fq S=.inr (C,n))(Y:S.size<=9007199254740992):
  Calls prog 163 #[zT S] w fun e w'=>e=.returned (.tuple #[cv C,zI (n:Int),.nilIface])/\zB w w':=by
 unfold Fq at D;by_cases h0:bt S 0=some 91
 case neg=>rw[if_neg h0]at D;cases D
 have h1:¬bt S 1=some 94:=fun e=>(hQ 1 94 e).2.2.2 rfl
 rw[if_pos h0,if_neg h1]at D;have H1:Hid (∀w:World,Calls prog 185 #[zT S,zI 0,.int .u8 91] w (zR w (.bool true))):=fun w=>Lv S 0 91 w h0 Y
 have H2:Hid (∀w:World,Calls prog 185 #[zT S,zI 1,.int .u8 94] w (zR w (.bool false))):=fun w=>Bc S 1 94 w (by omega) h1 Y
 have ar:1<=S.size:=(Zq h0).1;have HR:Hid (mm S 1 0=.inr (C,n)):=D;clear h0 h1 D;go_enter func163,ntmps163
 go_wp2_with fail
 refine(H1.out _).mono ?_;rintro e w1 ⟨rfl,af⟩;have ag:Hid (zB w w1):=(B0q.alloc L0q _).trans (af.mono (by simp));have ah:Hid (Blk w1 w.heap.size 0):=(Blk.new0 w).below af (by simp);clear af
 go_wp2_with fail
 refine(H2.out _).mono ?_;rintro e o ⟨rfl,ai⟩;have am:Hid (zB w o):=ag.out.trans (ai.mono ag.out.size);have ao:Hid (Blk o w.heap.size 0):=ah.out.below ai ah.out.lt;have aB:w.heap.size<o.heap.size:=ao.out.lt;clear ai ah ag
 go_wp2_with fail
 go_loopw [5] (fun a wr=>∃(k acc:Nat),a=zI (k:Int)/\k<=S.size/\Hid (mm S k acc=.inr (C,n))/\Hid (acc<2^256)/\Hid (zB w wr)/\Hid (Blk wr w.heap.size 0)/\Hid (Blk wr o.heap.size acc)) (fun a _=>S.size-(intOf a).toNat)
 case atStart=>exact⟨1,0,rfl,ar,HR,hid (by decide+kernel),hid (am.out.alloc am.out.size _),hid (ao.out.alloc _),hid (Blk.new0 o)⟩
 case round=>
  obtain⟨k,acc,rfl,aC,Z,HA,E,G,U⟩:=hrel;by_cases h93:bt S k=some 93
  ·have aD:k<S.size:=(Zq h93).1
   have HE:Hid (∀w:World,Calls prog 185 #[zT S,zI (k:Int),.int .u8 93] w (zR w (.bool true))):=fun w=>Lv S k 93 w h93 Y
   have ap:Hid (acc=C/\k+1=n):=by have h:=Z.out;rw[z6W h93]at h;cases h;exact⟨rfl,rfl⟩
   have hn:((k+1:Nat):Int)=(k:Int)+1:=by omega
   have HN:Hid (((k+1:Nat):Int)=(k:Int)+1):=hn;clear h93 Z hn
   go_wp2_with fail
   refine(HE.out _).mono ?_;rintro e y ⟨rfl,r⟩;have aa:Hid (zB w y):=E.out.trans (r.mono E.out.size);have A:Hid (Blk y w.heap.size 0):=G.out.below r G.out.lt;have V:Hid (Blk y o.heap.size acc):=U.out.below r U.out.lt;clear r E G U;obtain⟨c0,c1,c2,c3⟩:=V.out.cells;obtain⟨d0,d1,d2,d3⟩:=A.out.cells;obtain⟨f0,f1,f2,f3⟩:=A.out.thaw;obtain⟨r0,r1,r2,r3⟩:=(A.out.st4 acc).cells;have au:Hid (zB w (st4 y w.heap.size acc)):=Below.st4 aa.out L0q _;unfold st4 at r0 r1 r2 r3;clear A V
   go_wp2_with fail
   refine bodyPost_ret (v:=.tuple #[cv acc,zI ((k:Int)+1),.nilIface]) (by simp[results,Tryz.results163,go_sem,r0,r1,r2,r3]) rfl ?_;rw[<-ap.out.1,<-ap.out.2];exact⟨by rw[HN.out],au.out⟩
  ·have HE:Hid (∀w:World,Calls prog 185 #[zT S,zI (k:Int),.int .u8 93] w (zR w (.bool false))):=fun w=>Bc S k 93 w (by omega) h93 Y
   cases hm:mbr S k with
   |inl c=>
    have h:=Z.out;rw[z6X h93 hm]at h;cases h
   |inr q=>
    obtain⟨X,M⟩:=q;have ac:=Bp hm;have aE:k<M:=ac.2.1;have av:M<=S.size:=ac.2.2;have aw:Hid (mm S M (acc|||X)=.inr (C,n)):=by show _=_;rw[<-Z.out,z6Y h93 hm]
    have ax:Hid (acc|||X<2^256):=Nat.or_lt_two_pow HA.out ac.1;have ay:Hid (∀w:World,Calls prog 187 #[zT S,zI (k:Int)] w (zR w (.tuple #[cv X,zI (M:Int),.nilIface]))):=fun w=>y6L hQ k X M w hm Y
    clear h93 Z hm ac HA
    go_wp2_with fail
    refine(HE.out _).mono ?_;rintro e y ⟨rfl,r⟩;have aa:Hid (zB w y):=E.out.trans (r.mono E.out.size);have A:Hid (Blk y w.heap.size 0):=G.out.below r G.out.lt;have V:Hid (Blk y o.heap.size acc):=U.out.below r U.out.lt;clear r E G U
    go_wp2_with fail
    refine(ay.out _).mono ?_;rintro e w4 ⟨rfl,ad⟩;have aj:Hid (zB w w4):=aa.out.trans (ad.mono aa.out.size);have ak:Hid (Blk w4 w.heap.size 0):=A.out.below ad A.out.lt;have ab:Hid (Blk w4 o.heap.size acc):=V.out.below ad V.out.lt;clear ad aa A V;obtain⟨c0,c1,c2,c3⟩:=ab.out.cells;have aF:o.heap.size<w4.heap.size:=ab.out.lt;dsimp only[cv]
    go_wp2_with fail
    refine(z6N _ _ _).mono ?_;rintro e w5 ⟨rfl,aq⟩;have ae:zB w4 w5:=(B0q.alloc L0q _).trans (aq.mono (by simp));have az:Hid (zB w w5):=aj.out.trans (ae.mono aj.out.size);have aA:Hid (Blk w5 w.heap.size 0):=ak.out.below ae ak.out.lt;have al:Hid (Blk w5 o.heap.size acc):=ab.out.below ae ab.out.lt;clear aq ae aj ak ab c0 c1 c2 c3;obtain⟨c0,c1,c2,c3⟩:=al.out.cells;obtain⟨f0,f1,f2,f3⟩:=al.out.thaw;dsimp only[cv]
    go_wp2_with fail
    go_roundw
    case rel=>exact⟨M,acc|||X,rfl,av,aw,ax,hid (Below.st4 az.out (by omega) (acc|||X)),hid (aA.out.other (by omega)),hid (al.out.st4 _)⟩
    case measure=>simp[intOf];omega
theorem y6N{S:zA}(y:Sim S)(k b n:Nat)(w:World)(h:lsg S k=.inr (b,n))(E:S.size<=9007199254740992):
  Calls prog 162 #[zT S,zI (k:Int)] w fun e w'=>e=.returned (.tuple #[.int .u8 b,zI (n:Int),.nilIface])/\zB w w':=by
 unfold lsg at h;cases hx0:bt S k with
 |none=>rw[hx0]at h;cases h
 |some x=>
  rw[hx0]at h;simp only at h;have A:=(Zq hx0).2;obtain⟨G,hx⟩:=Xy hx0;have U:(k:Int)<(S.size:Int):=by omega
  have V:decide ((S.size:Int)<=(k:Int))=false:=by simp;omega
  cases hp:plB x with
  |false=>rw[hp,if_pos rfl]at h;cases h
  |true=>
   rw[hp]at h;simp only[Bool.true_eq_false,if_false]at h;have D:Hid (∀w:World,Calls prog 115 #[.int .u8 x] w fun e w'=>e=.returned (.bool true)/\w'=w):=fun w=>z0A x true hp w A
   have o:x≠92:=(y k x hx0).1;rw[if_neg o]at h;simp only[Sum.inr.injEq,Prod.mk.injEq]at h;obtain⟨rfl,rfl⟩:=h;have Y:((x:Int) == 92)=false:=by simp;omega
   have r:((k+1:Nat):Int)=(k:Int)+1:=by omega
   rw[r];clear hx0 o hp r;go_enter func162,ntmps162
   go_wp2_with fail
   refine(D.out _).mono ?_;rintro e w1 ⟨rfl,rfl⟩
   go_wp2_with fail
   go_ret3
   exact⟨rfl,Below.refl _ _⟩
theorem y6O{S:zA}(hQ:Sim S)(q p:Nat)(l:List Nat)(N:Nat)(w:World)(hl:ll S q p (p+1) []=.inr (l,N))(U:bt S p=some q)(hS:S.size<=9007199254740992):
  Calls prog 127 #[zT S,zI (p:Int)] w fun e w'=>e=.returned (tk7 3 (nb l) 0 0 0 0 p N .nilIface)/\zB w w':=by
 obtain⟨i0,ad,ae,af,ag⟩:=info_parts Tryz.infoByte;have aE:=(Zq U).2;obtain⟨aF,ah⟩:=Xy U;have aG:(p:Int)<(S.size:Int):=by omega
 have HR:Hid (ll S q p (p+1) []=.inr (l,N)):=hl;clear hl U;go_enter func127,ntmps127
 go_wp2_with fail
 go_loopw [8,9] (fun v a wr=>∃(k:Nat) (acc:List Nat),a=zI (k:Int)/\k<=S.size/\acc.length<=255/\Hid (∀x∈acc,x<256)/\Hid (ll S q p k acc=.inr (l,N))/\Hid (Lr w v acc wr)) (fun _ a _=>S.size-(intOf a).toNat)
 case atStart=>exact⟨p+1,[],by go_num,by omega,by simp,hid (fun x hx=>by simp at hx),HR,hid ⟨hid (B0q.alloc L0q _),hid (World.ownsRow_nil _ _ _ _),hid (Tk.new w 0 {data:=#[]} 0 0 0 0 0)⟩⟩
 case round=>
  obtain⟨k,acc,rfl,aH,aI,V,D,o⟩:=hrel;clear ah;by_cases hend:bt S k=some q
  ·obtain⟨ai,aj⟩:=Xy hend
   have ak:(k:Int)<(S.size:Int):=by omega
   have a0:decide ((S.size:Int)<=(k:Int))=false:=by simp;omega
   have aa:Hid (acc=l/\k+1=N):=by have h:=D.out;rw[z7i hend]at h;cases h;exact⟨rfl,rfl⟩
   have HN:Hid (((k+1:Nat):Int)=(k:Int)+1):=by show _=_;omega
   have al:=Cx o.out.2.1.out V.out;obtain⟨c0,c1,c2,c3,c4,c5,c6⟩:=o.out.2.2.out.cells;obtain⟨f0,f1,f2,f3,f4,f5,f6⟩:=o.out.2.2.out.thaw;obtain⟨E,Y⟩:∃E,E=nb acc:=⟨_,rfl⟩;rw[<-Y]at al;have am:Hid (Tk wr w.heap.size 0 {data:=#[]} 0 0 0 0 0):=o.out.2.2;have ao:Hid (zB w wr):=o.out.1;have ap:Hid (E=nb acc):=Y;clear hend D o Y
   go_wp2_with fail
   obtain⟨r0,r1,r2,r3,r4,r5,r6⟩:=(am.out.st7 3 E 0 0 0 0 (p:Int)).cells;unfold st7 at r0 r1 r2 r3 r4 r5 r6;refine bodyPost_ret (v:=.tuple #[.agg #[zI 3,zT E,zU 0,zU 0,zU 0,zU 0,zI (p:Int)],zI ((k:Int)+1),.nilIface]) (by simp[results,Tryz.results127,go_sem,r0,r1,r2,r3,r4,r5,r6]) rfl ?_;rw[<-aa.out.1,<-aa.out.2,HN.out,<-ap.out];exact⟨rfl,Below.st7 ao.out L0q _ _ _ _ _ _ _⟩
  ·have aq:decide ((S.size:Int)<=(k:Int))=true/\S.size<=k∨(∃x:Nat,k<S.size/\At S k x/\x≠q/\x<256):=by
    cases hb:bt S k with
    |none=>exact .inl ⟨by have:=Yg hb;simp;omega,Yg hb⟩
    |some x=>exact .inr ⟨x,(Zq hb).1,Xy hb,fun e=>hend (by rw[hb,e]),(Zq hb).2⟩
   cases hm:lsg S k with
   |inl c=>
    have h:=D.out;rw[z7j hend hm]at h;cases h
   |inr r=>
    obtain⟨b,n⟩:=r;have G:=Bl hm;rcases aq with⟨a0,aJ⟩|⟨x,ai,⟨_,aj⟩,ar,aK⟩
    ·omega
    ·have ak:(k:Int)<(S.size:Int):=by omega
     have a0:decide ((S.size:Int)<=(k:Int))=false:=by simp;omega
     have n0:((x:Int) != (q:Int))=true:=by rw[bne_iff_ne];omega
     have au:Hid (∀w:World,Calls prog 162 #[zT S,zI (k:Int)] w (zR w (.tuple #[.int .u8 b,zI (n:Int),.nilIface]))):=fun w=>y6N hQ k b n w hm hS
     have aw:∃a c,u8=.slice a acc.length c:=by
      obtain⟨_,⟨h1,h2⟩|⟨g,ax,aL,e,_⟩⟩:=o.out.2.1.out
      ·exact⟨none,0,by rw[h1,h2]⟩
      ·exact⟨_,ax,e⟩
     obtain⟨av,cv,rfl⟩:=aw;by_cases hl5:acc.length=255
     ·have h:=D.out
      rw[z7k hend hm hl5]at h;cases h
     ·have ay:Hid (ll S q p n (acc++[b])=.inr (l,N)):=by show _=_;rw[<-D.out,z7l hend hm hl5]
      have az:Hid (∀y∈acc++[b],y<256):=fun y hy=>by
       rcases List.mem_append.1 hy with h|h
       ·exact V.out y h
       ·simp at h;omega
      have d5:((acc.length:Int) == 255)=false:=by rw[beq_eq_false_iff_ne];omega
      have aM:b<256:=G.1;have aN:k<n:=G.2.1;have aA:n<=S.size:=G.2.2;have aO:acc.length<=254:=by omega
      clear hend D hm V ar G hl5
      go_wp2_with fail
      refine(au.out _).mono ?_;rintro e w1 ⟨rfl,ab⟩;have A:=hid (o.out.keep ab);have aB:w.heap.size<=w1.heap.size:=A.out.1.out.size;have aP:w.heap.size<w1.heap.size:=A.out.2.2.out.lt;clear ab o
      go_wp2_with(first|(at_builtin;refine wpList_append_own _ rfl (.tmp 48) (.tmp 50) 102 rfl (w.heap.size+1) 5 i0 (.int .u8 0) 1 1 Tryz.underlying102 ad ae af ag rfl (by decide) _ _ _ rfl (A.out.2.1.out.alloc _) ⟨w1.heap.size,0,none⟩ 1 1 [.int .u8 b] rfl rfl (Vy _ _ _) (Xk [(b:Int)]) (by unfold maxLen;omega) (by omega) (by simp;omega) ?_;intro v2 w2 ac Z aC))
      have aD:Hid (Lr w v2 (acc++[b]) w2):=by
       refine⟨hid ((A.out.1.out.alloc aB _).grown Z (by simp;omega) (fun y e=>by have:=(A.out.2.1.out.lt y e).1;omega)),hid ?_,hid ?_⟩
       ·rw[Fj,List.length_append];exact ac
       ·refine(Z.block _ (by simp;omega) ?_).trans (A.out.2.2.out.alloc _)
        intro e;have:=(A.out.2.1.out.lt _ e.symm).1;omega
      clear ac Z aC A
      go_roundw
      case rel=>exact⟨n,acc++[b],rfl,aA,by simp;omega,az,ay,aD⟩
      case measure=>simp[intOf];omega
theorem y6P{S:zA}(E:Sim S)(p:Nat)(w:World)(G:p<=S.size)(hS:S.size<=9007199254740992):
  Calls prog 83 #[zT S,zI (p:Int)] w fun e w'=>e=.returned (zI (sb S p:Int))/\w'=w:=by
 obtain⟨R,r⟩:∃R,R=sb S p:=⟨_,rfl⟩;rw[<-r];have U:Hid (sb S p=R):=r.symm;clear r;go_enter func83,ntmps83
 go_wp2_with fail
 go_loopw [1] (fun a wr=>∃k:Nat,a=zI (k:Int)/\k<=S.size/\Hid (sb S k=R)/\wr=w) (fun a _=>S.size-(intOf a).toNat)
 case atStart=>exact⟨p,rfl,G,U,rfl⟩
 case round=>
  obtain⟨k,rfl,ab,o,rfl⟩:=hrel;cases hb:bt S k with
  |none=>
   have ac:=Yg hb;have V:decide ((k:Int)<(S.size:Int))=false:=by simp;omega
   have y:Hid (R=k):=by show _=_;rw[<-o.out,Ld hb]
   clear hb
   go_wp2_with fail
   go_ret;rw[y.out];exact⟨rfl,rfl⟩
  |some x=>
   have ad:=(Zq hb).2;obtain⟨hk,ae⟩:=Xy hb;have af:(k:Int)<(S.size:Int):=by omega
   have V:decide ((k:Int)<(S.size:Int))=true:=by simp;omega
   have A:=(E k x hb).2.1;have Y:(x=9∨x=10∨x=13∨x=32)∨(x≠9/\x≠10/\x≠13/\x≠32/\x≠35):=by omega
   rcases Y with h|⟨Z,h2,h3,h4,D⟩
   ·have aa:Hid (sb S (k+1)=R):=by
     show _=_;rw[<-o.out,Lm hb,if_pos (by unfold blB;rcases h with h|h|h|h<;>rw[h]<;>rfl)]
    clear hb o A;rcases h with h|h|h|h
    all_goals
     subst h
     go_wp2_with fail
     go_roundw
     case rel=>exact⟨k+1,by go_num,by omega,aa,trivial⟩
     case measure=>simp[intOf];omega
   ·have y:Hid (R=k):=by
     show _=_;rw[<-o.out,Lm hb,if_neg (by unfold blB;simp;omega),if_neg D]
    have b1:((x:Int) == 9)=false:=by simp;omega
    have b2:((x:Int) == 10)=false:=by simp;omega
    have b3:((x:Int) == 13)=false:=by simp;omega
    have b4:((x:Int) == 32)=false:=by simp;omega
    have b5:((x:Int) == 35)=false:=by simp;omega
    clear hb o Z h2 h3 h4 D A
    go_wp2_with fail
    (try simp only[Exit.inBlock,Exit.then])
    go_ret;rw[y.out];exact⟨rfl,rfl⟩
theorem y6Q(S:zA)(p:Nat)(w:World)(E:p<=S.size)(hS:S.size<=9007199254740992)(hl:¬32<ne S p-p):
  Calls prog 126 #[zT S,zI (p:Int)] w fun e w'=>e=.returned (tk7 1 (S.extract p (ne S p)) 0 0 0 0 p (ne S p:Nat) .nilIface)/\zB w w':=by
 have G:=z0D E;have U:Hid (∀w:World,Calls prog 161 #[zT S,zI (p:Int)] w fun e w'=>e=.returned (zI (ne S p:Int))/\w'=w):=fun w=>z0E S p w E hS
 obtain⟨N,V⟩:∃N,N=ne S p:=⟨_,rfl⟩;rw[<-V]at U G hl ⊢;clear V;obtain⟨ac,ad⟩:=G;have r:Hid (Tk (w.alloc (.cells #[zI 0,zT {data:=#[]},zU 0,zU 0,zU 0,zU 0,zI 0] 186)) w.heap.size 0 {data:=#[]} 0 0 0 0 0):=Tk.new w 0 {data:=#[]} 0 0 0 0 0;have a0:decide ((32:Int)<(N:Int)-(p:Int))=false:=by simp;omega
 have b1:(p:Int)<=(N:Int):=by omega
 have b2:(N:Int)<=(S.size:Int):=by omega
 obtain⟨T,h⟩:∃T,T=S.extract p N:=⟨_,rfl⟩;have Y:T.size<=281474976710656:=by rw[h,ByteArray.size_extract];omega
 have y:Hid (∀w:World,Calls prog 45 #[zT T] w (zR w (zT T))):=fun w=>Dd T w Y
 rw[h]at y;obtain⟨W,o⟩:∃W,W=w.alloc (.cells #[zI 0,zT {data:=#[]},zU 0,zU 0,zU 0,zU 0,zI 0] 186):=⟨_,rfl⟩;have Z:Hid (zB w W):=by show Below _ _ _;rw[o];exact B0q.alloc L0q _
 rw[<-o]at r;rw[<-h];rw[<-h]at y;have aa:Hid (T=S.extract p N):=h;clear h Y;go_enter func126,ntmps126
 go_wp2_with fail
 rw[<-o];clear o;refine(U.out _).mono ?_;rintro e w1 ⟨rfl,rfl⟩
 go_wp2_with fail
 rw[<-aa.out];refine(y.out _).mono ?_;rintro e w2 ⟨rfl,A⟩;have ab:Hid (zB w w2):=Z.out.trans (A.mono Z.out.size);have D:Hid (Tk w2 w.heap.size 0 {data:=#[]} 0 0 0 0 0):=r.out.below A r.out.lt;clear A;obtain⟨c0,c1,c2,c3,c4,c5,c6⟩:=D.out.cells;obtain⟨f0,f1,f2,f3,f4,f5,f6⟩:=D.out.thaw
 go_wp2_with fail
 obtain⟨r0,r1,r2,r3,r4,r5,r6⟩:=(D.out.st7 1 T 0 0 0 0 (p:Int)).cells;unfold st7 at r0 r1 r2 r3 r4 r5 r6
 (try simp only[Exit.inBlock,Exit.then])
 refine bodyPost_ret (v:=.tuple #[.agg #[zI 1,zT T,zU 0,zU 0,zU 0,zU 0,zI (p:Int)],zI (N:Int),.nilIface]) (by simp[results,Tryz.results126,go_sem,r0,r1,r2,r3,r4,r5,r6]) rfl ?_;exact⟨rfl,Below.st7 ab.out L0q _ _ _ _ _ _ _⟩
theorem y6R{S:zA}(hQ:Sim S)(p C n:Nat)(w:World)(o:Fq (S.extract p S.size)=.inr (C,n))(hp:p<=S.size)(hS:S.size<=9007199254740992):
  Calls prog 128 #[zT S,zI (p:Int)] w fun e w'=>e=.returned (tk7 4 {data:=#[]} (wd C 0:Nat) (wd C 1:Nat) (wd C 2:Nat) (wd C 3:Nat) p ((p+n:Nat):Int) .nilIface)/\zB w w':=by
 have ag:(p:Int)<=(S.size:Int):=by omega
 obtain⟨T,h⟩:∃T,T=S.extract p S.size:=⟨_,rfl⟩;have ah:T.size<=S.size-p:=by rw[h,ByteArray.size_extract];omega
 have ac:Sim T:=by rw[h];exact hQ.cut p
 rw[<-h]at o;have ad:Hid (T=S.extract p S.size):=h;clear h;obtain⟨W,r⟩:∃W,W=w.alloc (.cells #[zI 0,zT {data:=#[]},zU 0,zU 0,zU 0,zU 0,zI 0] 186):=⟨_,rfl⟩;have Y:Hid (zB w W):=by show Below _ _ _;rw[r];exact B0q.alloc L0q _
 have Z:Hid (Tk W w.heap.size 0 {data:=#[]} 0 0 0 0 0):=by show Tk _ _ _ _ _ _ _ _ _;rw[r];exact Tk.new w 0 {data:=#[]} 0 0 0 0 0
 have aa:=z0y o;have hn:n<=T.size:=aa.2.2;have b1:(p:Int)+(n:Int)<9223372036854775808:=by omega
 obtain⟨x0,A⟩:∃x,x=((wd C 0:Nat):Int):=⟨_,rfl⟩;obtain⟨x1,D⟩:∃x,x=((wd C 1:Nat):Int):=⟨_,rfl⟩;obtain⟨x2,E⟩:∃x,x=((wd C 2:Nat):Int):=⟨_,rfl⟩;obtain⟨x3,G⟩:∃x,x=((wd C 3:Nat):Int):=⟨_,rfl⟩;have ae:Hid (∀w:World,Calls prog 163 #[zT T] w (zR w (.tuple #[.agg #[zU x0,zU x1,zU x2,zU x3],zI (n:Int),.nilIface]))):=by
  rw[A,D,E,G];exact fun w=>y6M ac C n w o (by omega)
 have y:Hid ((x0=((wd C 0:Nat):Int)/\x1=((wd C 1:Nat):Int))/\x2=((wd C 2:Nat):Int)/\x3=((wd C 3:Nat):Int)):=⟨⟨A,D⟩,E,G⟩;clear A D E G;clear o aa;go_enter func128,ntmps128
 go_wp2_with fail
 rw[<-r,<-ad.out];clear r;refine(ae.out _).mono ?_;rintro e w1 ⟨rfl,U⟩;have ab:Hid (zB w w1):=Y.out.trans (U.mono Y.out.size);have af:Hid (Tk w1 w.heap.size 0 {data:=#[]} 0 0 0 0 0):=Z.out.below U Z.out.lt;clear U;have V:Hid (Tk (w1.alloc (.cells #[zU x0,zU x1,zU x2,zU x3] 63)) w.heap.size 0 {data:=#[]} 0 0 0 0 0):=af.out.alloc _;obtain⟨c0,c1,c2,c3,c4,c5,c6⟩:=V.out.cells;obtain⟨f0,f1,f2,f3,f4,f5,f6⟩:=V.out.thaw
 go_wp2_with fail
 obtain⟨r0,r1,r2,r3,r4,r5,r6⟩:=(V.out.st7 4 {data:=#[]} x0 x1 x2 x3 (p:Int)).cells;unfold st7 at r0 r1 r2 r3 r4 r5 r6
 (try simp only[Exit.inBlock,Exit.then])
 refine bodyPost_ret (v:=.tuple #[.agg #[zI 4,zT {data:=#[]},zU x0,zU x1,zU x2,zU x3,zI (p:Int)],zI ((p:Int)+(n:Int)),.nilIface]) (by simp[results,Tryz.results128,go_sem,r0,r1,r2,r3,r4,r5,r6]) rfl ?_;rw[<-y.out.1.1,<-y.out.1.2,<-y.out.2.1,<-y.out.2.2,Int.natCast_add];exact⟨rfl,Below.st7 (ab.out.alloc ab.out.size _) L0q _ _ _ _ _ _ _⟩
theorem z0o(S:zA)(p x:Nat)(v:Bool)(F:Nat)(kd:Int)(T:zA)(h o r y D:Int)(w:World)(E:bt S p=some x)(hl:Zp x=v)(hS:S.size<=9007199254740992)
  (hk:(v=true/\F=126)∨(v=false/\x=39/\F=127)∨(v=false/\x=91/\F=128))
  (HC:Hid (∀w:World,Calls prog F #[zT S,zI (p:Int)] w (zR w (tk7 kd T h o r y p D .nilIface)))):
  Calls prog 84 #[zT S,zI (p:Int)] w fun e w'=>e=.returned (tk7 kd T h o r y p D .nilIface)/\zB w w':=by
 have aa:=(Zq E).2;obtain⟨hp,ad⟩:=Xy E;have ae:(p:Int)<(S.size:Int):=by omega
 have af:(p:Int)<=(S.size:Int):=by omega
 have ab:Hid (∀w:World,Calls prog 125 #[.int .u8 x] w fun e w'=>e=.returned (.bool v)/\w'=w):=fun w=>Fx x v hl w aa
 obtain⟨W,A⟩:∃W,W=w.alloc (.cells #[zI 0,zT {data:=#[]},zU 0,zU 0,zU 0,zU 0,zI 0] 186):=⟨_,rfl⟩;have V:Hid (zB w W):=by show Below _ _ _;rw[A];exact B0q.alloc L0q _
 have Y:Hid (Tk W w.heap.size 0 {data:=#[]} 0 0 0 0 0):=by show Tk _ _ _ _ _ _ _ _ _;rw[A];exact Tk.new w 0 {data:=#[]} 0 0 0 0 0
 clear E hl;rcases hk with⟨rfl,rfl⟩|⟨rfl,rfl,rfl⟩|⟨rfl,rfl,rfl⟩
 all_goals
  go_enter func84,ntmps84
  go_wp2_with fail
  rw[<-A];clear A;refine(ab.out _).mono ?_;rintro e w0 ⟨rfl,rfl⟩
  go_wp2_with fail
  refine(HC.out _).mono ?_;rintro e w1 ⟨rfl,G⟩;have ac:Hid (zB w w1):=V.out.trans (G.mono V.out.size);have U:Hid (Tk w1 w.heap.size 0 {data:=#[]} 0 0 0 0 0):=Y.out.below G Y.out.lt;clear G;obtain⟨c0,c1,c2,c3,c4,c5,c6⟩:=U.out.cells;obtain⟨f0,f1,f2,f3,f4,f5,f6⟩:=U.out.thaw
  go_wp2_with fail
  obtain⟨Z,r1,r2,r3,r4,r5,r6⟩:=(U.out.st7 kd T h o r y p).cells;unfold st7 at Z r1 r2 r3 r4 r5 r6
  (try simp only[Exit.inBlock,Exit.then])
  refine bodyPost_ret (v:=tk7 kd T h o r y p D .nilIface) (by simp[results,Tryz.results84,go_sem,Z,r1,r2,r3,r4,r5,r6]) rfl ?_;exact⟨rfl,Below.st7 ac.out L0q _ _ _ _ _ _ _⟩
theorem y6S{S:zA}(D:Sim S)(p x:Nat)(w:World)(y:bt S p=some x)(A:S.size<=9007199254740992)(t:Tok)(n:Nat)(o:Ul S p x=.inr (t,n)):
  Calls prog 84 #[zT S,zI (p:Int)] w fun e w'=>e=.returned (.tuple #[tkv t,zI (n:Int),.nilIface])/\zB w w':=by
 unfold Ul at o;cases hl:Zp x with
 |true=>
  rw[hl]at o;by_cases h3:32<ne S p-p
  ·rw[if_pos h3]at o;cases o
  ·rw[if_neg h3]at o
   have E:=(Zq y).1;cases o;simpa [tkv,Um]using z0o S p x true _ 1 _ 0 0 0 0 _ w y hl A (.inl ⟨rfl,rfl⟩) (hid fun w=>y6Q S p w (by omega) A h3)
 |false=>
  rw[hl]at o;simp only[Bool.false_eq_true,if_false]at o;by_cases hq:x=39∨x=34
  ·rw[if_pos hq]at o
   have G:x=39:=hq.resolve_right (D p x y).2.2.1;cases hm:ll S x p (p+1) []with
   |inl c=>rw[hm]at o;cases o
   |inr r=>
    rw[hm]at o;cases o;simpa [tkv,Um]using z0o S p x false _ 3 _ 0 0 0 0 _ w y hl A (.inr (.inl ⟨rfl,G,rfl⟩)) (hid fun w=>y6O D x p _ _ w hm y A)
  ·rw[if_neg hq]at o
   by_cases h9:x=91
   ·rw[if_pos h9]at o
    have E:=(Zq y).1;cases hm:Fq (S.extract p S.size)with
    |inl c=>rw[hm]at o;cases o
    |inr r=>
     rw[hm]at o;cases o;exact z0o S p x false _ 4 _ _ _ _ _ _ w y hl A (.inr (.inr ⟨rfl,h9,rfl⟩)) (hid fun w=>y6R D p _ _ w hm (by omega) A)
   rw[if_neg h9]at o;cases ha:arB S p with
   |true=>
    rw[ha]at o;have hx:x=60:=by unfold arB at ha;rw[y]at ha;simp at ha;exact ha.1
    refine(z7u S p x w y ha hx A).mono fun e w' h=> ?_
    cases o;simpa [tkv,tk7,Um]using h
   |false=>
    rw[ha]at o;have U:x≠39/\x≠34/\x≠91:=by omega
    cases hm:mkB x with
    |true=>
     rw[hm]at o;refine(z7v S p x w y hl U ha hm A).mono fun e w' h=> ?_
     cases o;simpa [tkv,tk7,Um]using h
    |false=>rw[hm]at o;cases o
theorem y6T{S:zA}(hQ:Sim S)(w:World)(hS:S.size<=8192)(hO:(tkS S).isRight=true):
  Calls prog 50 #[zT S] w fun e w'=>z7C (tkS S) w e w':=by
 obtain⟨iT,aa,ab,ac,ad⟩:=info_parts Tryz.infoTok;have HO:=hid hO;obtain⟨R,G⟩:∃R,R=tks S (sb S 0) []:=⟨_,rfl⟩;have HA:Hid (tkS S=tkE S R):=by show _=_;rw[G];rfl
 have HR:Hid (tks S (sb S 0) []=R):=G.symm;have ak:=Nk (S:=S) (n:=0) (Nat.zero_le _);have HK:Hid (∀(k:Nat) (w:World),k<=S.size->Calls prog 83 #[zT S,zI (k:Int)] w fun e w'=>e=.returned (zI ((sb S k:Nat):Int))/\w'=w):=fun k w hk=>y6P hQ k w hk (by omega)
 have c0:decide ((8192:Int)<(S.size:Int))=false:=by simp;omega
 clear G hO;go_enter func50,ntmps50
 go_wp2_with fail
 refine(HK.out 0 _ (Nat.zero_le _)).mono ?_;rintro e w1 ⟨rfl,ae⟩;rw[ae];clear ae
 go_wp2_with fail
 go_loopw [4,5] (fun v a wr=>∃(k:Nat) (acc:List Tok),a=zI (k:Int)/\k<=S.size/\acc.length<=k/\Hid (tks S k acc=R)/\Hid (Lt w v acc wr)) (fun _ a _=>S.size-(intOf a).toNat)
 case atStart=>exact⟨sb S 0,[],rfl,ak.2,by simp,HR,hid ⟨hid B0q,hid (World.ownsRow_nil _ _ _ _)⟩⟩
 case round=>
  obtain⟨k,acc,rfl,aq,ar,o,h⟩:=hrel;clear HR c0;cases hb:bt S k with
  |none=>
   have al:=Yg hb;have a0:decide ((k:Int)<(S.size:Int))=false:=by simp;omega
   have U:Hid (tkS S=.inr (acc++[(6,{data:=#[]},0,S.size)])):=by
    show _=_;rw[HA.out,<-o.out,z7z al];rfl
   have V:w.heap.size<=wr.heap.size:=h.out.1.out.size;clear hb o
   go_wp2_with(first|(at_builtin;refine wpList_append_own _ rfl (.tmp 39) (.tmp 43) 125 rfl w.heap.size 186 iT (.agg #[zI 0,zT {data:=#[]},zU 0,zU 0,zU 0,zU 0,zI 0]) 7 64 Tryz.underlying125 aa ab ac ad rfl (by decide) _ _ _ rfl (h.out.2.out.alloc _) ⟨wr.heap.size,0,none⟩ 1 1 (tvs [(6,{data:=#[]},0,S.size)]) rfl rfl (by simpa [tvs,Um]using z0P wr _ _ _ _ _ _ _ 186) (z0Q _ _ _ _ _ _ _) (by unfold maxLen;omega) (by omega) (by simp;omega) ?_;intro v3 Y D E af))
   (try simp only[Exit.inBlock,Exit.then])
   refine bodyPost_ret (v:=.tuple #[v3,.nilIface]) (by simp[results,Tryz.results50,go_sem]) rfl ?_;rw[U.out];exact⟨_,rfl,hid (by rw[Nv,List.length_append];exact D),hid ((h.out.1.out.alloc V _).grown E (by simp;omega) (fun y e=>(h.out.2.out.lt y e).1))⟩
  |some x=>
   have au:=(Zq hb).1;have a0:decide ((k:Int)<(S.size:Int))=true:=by simp;omega
   cases ht:Ul S k x with
   |inl b=>
    have U:Hid (tkS S=.inl (wrg k b)):=by
     show _=_;rw[HA.out,<-o.out,z7A hb ht];rfl
    have h1:=HO.out;rw[U.out]at h1;cases h1
   |inr r=>
    obtain⟨t,n⟩:=r;obtain⟨q1,q2,q3,q4,q5,q6,q7⟩:=Nj hb ht;have ag:Hid (tks S (sb S n) (acc++[t])=R):=by show _=_;rw[<-o.out,z7B hb ht]
    have am:=Nk (S:=S) (n:=n) q2;have HT:Hid (∀w:World,Calls prog 84 #[zT S,zI (k:Int)] w (zR w (.tuple #[tkv t,zI (n:Int),.nilIface]))):=fun w=>y6S hQ k x w hb (by omega) t n ht
    clear hb ht o
    go_wp2_with fail
    refine(HT.out _).mono ?_;rintro e Z ⟨rfl,ah⟩;have A:=hid (h.out.keep ah);clear ah h HT;obtain⟨kd,T,C,p⟩:=t;have ai:p=k:=q4;rw[ai]at ag ⊢;clear q4 ai;dsimp only[tkv];have V:w.heap.size<=Z.heap.size:=A.out.1.out.size
    go_wp2_with(first|(at_builtin;refine wpList_append_own _ rfl (.tmp 32) (.tmp 34) 125 rfl w.heap.size 186 iT (.agg #[zI 0,zT {data:=#[]},zU 0,zU 0,zU 0,zU 0,zI 0]) 7 64 Tryz.underlying125 aa ab ac ad rfl (by decide) _ _ _ rfl ((A.out.2.out.alloc _).alloc _) ⟨Z.heap.size+1,0,none⟩ 1 1 (tvs [(kd,T,C,k)]) rfl rfl (by have:=z0P (Z.alloc (.cells #[zI (kd:Int),zT T,zU (wd C 0:Nat),zU (wd C 1:Nat),zU (wd C 2:Nat),zU (wd C 3:Nat),zI (k:Int)] 186));simpa [tvs]using this _ _ _ _ _ _ _ 186) (z0Q _ _ _ _ _ _ _) (by unfold maxLen;omega) (by omega) (by simp;omega) ?_;intro v3 Y D E af))
    have ao:Hid (Lt w v3 (acc++[(kd,T,C,k)]) Y):=by
     refine⟨hid (((A.out.1.out.alloc V _).alloc (by simp;omega) _).grown E (by simp;omega) (fun y e=>(A.out.2.out.lt y e).1)),hid ?_⟩;rw[Nv,List.length_append];exact D
    clear D E af A;have ap:=hid (HK.out n Y q2);refine ap.out.mono ?_;rintro e w4 ⟨rfl,aj⟩;rw[aj];clear aj
    go_wp2_with fail
    go_roundw
    case rel=>exact⟨sb S n,acc++[(kd,T,C,k)],rfl,am.2,by simp;omega,ag,ao⟩
    case measure=>simp[intOf];omega
theorem y6U{S:zA}(hQ:Sim S)(rs:List Rl)(w:World)(hS:S.size<=8192)(h:Nf S=.inr rs):
  Calls prog 22 #[zT S] w fun e w'=>Kz (.inr rs) w e w':=by
 unfold Nf at h;cases hs:tkS S with
 |inl c=>rw[hs]at h;cases h
 |inr L=>
  have D:=hid (y6T hQ (w.alloc Zg) hS (by rw[hs];rfl));rw[hs]at h;have h:Dl L=.inr rs:=h;have E:=z8u hs hS;have HG:Hid (Ql L):=E.1;have U:=E.2;rw[hs]at D;clear hs E;go_enter func22,ntmps22
  go_wp2_with fail
  refine D.out.mono ?_;rintro e w1 ⟨v,rfl,V,HB⟩;obtain⟨g,ad,hv⟩:=Vc V.out U;subst hv;have Y:=hid (z8p _ _ L w1 V.out HG.out U);have Z:Hid (Below (w.heap.size+1) (w.alloc Zg) w1):=by have:=HB.out;simp[zB]at this;exact this
  obtain⟨n,hn⟩:∃n,n=L.length:=⟨_,rfl⟩;rw[<-hn]at Y ⊢;clear hn V HB D U HG
  go_wp2_with fail
  refine Y.out.mono ?_;clear Y;rw[h];have ae:=hid h;clear h;rintro e A ⟨o,r,rfl,aa,ac⟩;obtain⟨m,y⟩:∃m,m=rs.length:=⟨_,rfl⟩;have HM:Hid (m=rs.length):=y;rw[<-y]at aa ⊢;clear y;have af:w.heap.size+1<=w1.heap.size:=by have h2:=Z.out.size;simp at h2;omega
  have ab:Hid (Below (w.heap.size+1) (w.alloc Zg) A):=Z.out.trans (ac.out.mono (by omega));have HA:Hid (Kz (.inr rs) w (.returned (.tuple #[.agg #[zS o m r],.nilIface])) (A.setCell ⟨w.heap.size,0,none⟩ (zS o m r))):=by
   have hr:=aa.out.grown (G.setR (u:=zS o m r) (j:=0) (G.refl A w.heap.size)) (by omega);have y:=HM.out;subst y;exact⟨o,r,rfl,hid (hr.low (by omega)),hid (z1m ab.out).2.2⟩
  have HQ:Hid (A.heap[w.heap.size]? =some Zg):=(z1m (x:=.nilIface) ab.out).1;obtain⟨e0,y0⟩:=Qy HQ.out;have ag:=Qq HQ.out;clear aa Z ab ac
  go_wp2_with fail
  (try simp only[Exit.inBlock,Exit.then])
  refine bodyPost_ret (v:=.tuple #[.agg #[zS o m r],.nilIface]) (by simp[results,Tryz.results22,go_sem,e0]) rfl ?_;exact HA.out
open Go.Shelf Go.Maps
theorem y6V{rs:List Rl}(G:rkG rs=true)(Z:ckR (toG rs)=none)(hZ:soZ (toG rs) none=none)(hl:(pgG (toG rs)).2.length<=200)(B g n o:Nat)(D:Addr)(W:World)(hr:RoR B (zS g n o) rs W)(r:TabIs W)(E:zC W (1) 0 (.iface 405 (.pointer (some D))))(U:Xm W):
  Calls prog 19 #[.agg #[zS g n o]] W fun e w'=>∃oso ol oc nso nl nc rso rl rc,e=.returned (.tuple #[.agg #[.slice oso ol oc,.slice nso nl nc,.slice rso rl rc],.nilIface])/\Hid (zB W w')/\Hid (PgV (toG rs) oso nso rso ol oc nl nc rl rc D w'):=by
 obtain⟨hi,V,hX,hC⟩:=y6G G Z B g n o W hr r;have Y:RgU (toG rs):=fun x hx=>by
  obtain⟨y,_,rfl⟩:=List.mem_map.1 hx;exact z4X y.2.1
 refine(Wc _ n o (toG rs) none W.heap.size D W hX (fun _=>z6F G) hC V Y hi L0q r E U W B0q).mono ?_;rintro e w' ⟨oso,ol,oc,nso,nl,nc,rso,rl,rc,ev,rfl,A,⟨tt,uu,rfl,_,_,_,_,_,_,_,_,_,h|h⟩|⟨rfl,H⟩⟩
 ·exact absurd hZ h
 ·omega
 ·obtain⟨a,b,c,_,d,e,f⟩:=H.out
  exact⟨oso,ol,oc,nso,nl,nc,rso,rl,rc,rfl,A,hid ⟨a,b,c,d,e,f,V,Y,r.below A.out r.lt,(A.out.cell (World.block_lt_of_cell? W _ E)).trans E,U.below A.out⟩⟩
theorem y6W(w:World):Calls prog 15 #[.slice none 0 0] w fun e w'=>e=.returned (.bool false)/\w'=w:=by
 go_enter func15,ntmps15
 go_wp2_with fail
 refine bodyPost_ret (v:=.bool false) (by simp[results,Tryz.results15,go_sem]) rfl ?_;exact⟨rfl,rfl⟩
theorem y6X(n:Nat)(rs:List Rl)(w:World)
  (ad:Hid (Calls prog 22 #[zT smS] w fun e w'=>∃g h,e=.returned (.tuple #[.agg #[zS g n h],.nilIface])/\Hid (RoR w.heap.size (zS g n h) rs w')/\Hid (zB w w')))
  (HM:Hid (∀(g h:Nat) (W:World),RoR w.heap.size (zS g n h) rs W->zB w W->Calls prog 19 #[.agg #[zS g n h]] W fun e w'=>∃oso ol oc nso nl nc rso rl rc,e=.returned (.tuple #[.agg #[.slice oso ol oc,.slice nso nl nc,.slice rso rl rc],.nilIface])/\Hid (zB W w')/\
    Hid (∀G:World,zB w' G->Calls prog 10 #[.agg #[.slice oso ol oc,.slice nso nl nc,.slice rso rl rc],zT Dh,zI 1000] G (TrQ G (some ts4))))):
  Calls prog 8 #[] w fun e w'=>e=.returned (.bool true)/\Hid (zB w w'):=by
 go_enter func8,ntmps8
 go_wp2_with fail
 refine ad.out.mono ?_;rintro e w1 ⟨g,h,rfl,ae,HB⟩;obtain⟨y,U⟩:∃y,y=w1.alloc (.cells #[zS g n h] 51):=⟨_,rfl⟩;have V:zB w1 y:=by rw[U];exact(Below.refl _ w1).alloc L0q _
 have A:=hid (HB.out.trans (V.mono HB.out.size));have af:=hid (HM.out g h y (ae.out.below V) A.out);have ag:=hid U;clear ad ae V U HM
 go_wp2_with fail
 rw[<-ag.out];refine af.out.mono ?_;rintro e Y ⟨oso,ol,oc,nso,nl,nc,rso,rl,rc,rfl,Z,ah⟩;obtain⟨D,aa⟩:∃D,D=Y.alloc (.cells #[.slice oso ol oc,.slice nso nl nc,.slice rso rl rc] 26):=⟨_,rfl⟩;have ab:zB Y D:=by rw[aa];exact(Below.refl _ Y).alloc L0q _
 have ai:=hid (ah.out D ab);have ac:=hid (A.out.trans ((Z.out.trans (ab.mono Z.out.size)).mono A.out.size));have aj:=hid aa;clear af ag ah ab aa Z A
 go_wp2_with fail
 rw[<-aj.out];refine ai.out.mono ?_;rintro e o ⟨ak,tv,rfl,ho⟩;have am:=hid (ac.out.trans (ak.mono ac.out.size));obtain⟨E,ct,rfl,-,lt,r⟩:=Kg ho (by decide);have q0:zC o E 12 (zI 2):=r 12 _ rfl;have q1:zC o E 13 (zI 2):=r 13 _ rfl;have q2:zC o E 14 (zI 4):=r 14 _ rfl;have q3:zC o E 15 (zI 2):=r 15 _ rfl;have al:ts4.length=4:=rfl;rw[al];clear ak ai ac aj ho r al
 go_wp2_with fail
 refine(y6W o).mono ?_;rintro e w4 ⟨rfl,rfl⟩
 go_wp2_with fail
 go_ret;exact⟨rfl,am⟩
theorem y6Y:z6H smS=true:=by decide+kernel
theorem y6Z(r:Addr)(w:World)(h:Vg w)(D:TabIs w)(G:zC w (1) 0 (.iface 405 (.pointer (some r))))(ad:Xm w):Calls prog 8 #[] w fun e w'=>e=.returned (.bool true)/\Hid (zB w w'):=by
 obtain⟨rs,hp,hk,ae,hZ,af,ag⟩:=y6J;obtain⟨U,y,c,N,q,l,V,ah,hc,Y,hl,hR⟩:=y6I ag;have A:=y6U (y6K y6Y) rs w (by decide) hp;unfold Kz at A;simp only at A;have ai:∀{W:World},zB w W->zC W (1) 0 (.iface 405 (.pointer (some r))):=fun o=>(o.cell (p:=⟨1,0,none⟩) (World.block_lt_of_cell? w _ G)).trans G
 refine y6X rs.length rs w (hid A) (hid fun g aj W ak o=> ?_);refine(y6V hk ae hZ af _ g rs.length aj r W ak (D.below o D.lt) (ai o) (ad.below o)).mono fun e w' he=> ?_
 obtain⟨oso,ol,oc,nso,nl,nc,rso,rl,rc,rfl,HB,Z⟩:=he;refine⟨oso,ol,oc,nso,nl,nc,rso,rl,rc,rfl,HB,hid fun W2 al=> ?_⟩;have P:=Z.out.below al;have aa:(pgG (toG rs)).1.length=(toG rs).length:=(Vv (fun T=>fdI T (nmL (toG rs))) (toG rs) []).2.1.1;have HA:∀W:World,zB W2 W->Calls prog 21 #[.agg #[.slice oso ol oc,.slice nso nl nc,.slice rso rl rc],zT Dh,zI 1000] W fun e w'=>e=.returned (.tuple #[.bool true,zI c,.nilIface])/\zB W w':=fun W o=>z6A (mo:=1000) (E:=4) (hid fun W3 am=>by
  have P:=P.below (o.trans (am.mono o.size));exact z6t (toG rs) oso nso rso ol oc nl nc rl rc r W3 P.hol P.hnl P.hrl P.hs P.hp P.hM P.hz P.hu P.hT P.hF P.hPw Dh 0 0 1000 (by rw[<-aa];exact y) (Nat.zero_le _) (by decide) (by decide) U (by rw[List.getElem?_eq_getElem y,V]) (some (some 4,c,N)) q Y)
 have hw:=P.hs.opw P.hp P.hu;obtain⟨ao,ab,ac,hs,ap,hM,aq,hu,ar,au,av⟩:=P;clear Z;subst ao;rw[<-Vj (toG rs)]at ab;subst ab;rw[<-aa]at ac;subst ac;exact z6D (mo:=1000) (hid HA) (by decide) (by decide) hM hw y U V ah (some 4) c N q Y l hl (some ts4) hR
theorem y7a(r:Option Addr)(n G:Nat)(rs:List Rr)(T:zA)(y:Addr)(w:World)(A:Vg w)(D:TabIs w)(E:zC w (1) 0 (.iface 405 (.pointer (some y))))(U:Xm w)(V:RgZ rs)(Y:RgU rs)(h:Qg w w.heap.size r n rs):
  Calls prog 6 #[.agg #[.slice r n G],zT T] w fun e w'=>e=.returned (.bool true)/\zB w w':=
 y6F r n G rs y T w (hid fun W o=>y6Z y W (A.below o A.lt) (D.below o D.lt) ((o.cell (World.block_lt_of_cell? w _ E)).trans E) (U.below o)) A D E U V Y h
open Go.ChangeShapes Go.WideShapes
theorem Tryz.own:ownKnob Tryz.prog.godebug=none:=by kernel_rfl
theorem Tryz.et:Tryz.prog.globalNamed "errors.errorType"=some 0:=by kernel_rfl
theorem Tryz.rt:(Tryz.prog.cutTypes.find? (·.1 == "internal/reflectlite.rtype")).map (·.2)=some 203:=by kernel_rfl
theorem Tryz.oneRow:((List.range 435).filter fun t=>Tryz.prog.rowNamed t [101,114,114,111,114])=[31]:=by kernel_rfl
theorem Tryz.nTypes:Tryz.prog.types.size=435:=by kernel_rfl
theorem y7b{l:List (String×DataW Unit)}(h:handlesMet prog l W)(o:("errors.errorType",Rows.laid_errors_errorType)∈l):Vg W:=by
 obtain⟨y,u,A,D,E,G,U,r⟩:=h _ o;have V:y=[101,114,114,111,114]:=(Option.some.inj D).symm;subst V;obtain rfl:=Option.some.inj (Tryz.rt.symm.trans E);have o:A∈(List.range 435).filter fun t=>Tryz.prog.rowNamed t [101,114,114,111,114]:=List.mem_filter.2 ⟨List.mem_range.2 (by rw[<-Tryz.nTypes];exact G),U⟩
 rw[Tryz.oneRow]at o;obtain rfl:=List.mem_singleton.1 o;have Y:typeHandle prog 31=zP (6) (31):=by kernel_rfl
 rw[Y]at r;have:=World.var?_cell Tryz.et r 0;unfold Vg;simpa using this
theorem Tryz.laidOutW:laidOutB prog=true:=by kernel_rfl
theorem Tryz.gT:Tryz.prog.globalNamed "math/bits.deBruijn64tab"=some 5:=by kernel_rfl
theorem Tryz.gTType:(Tryz.prog.globals[5]?).map (·.type)=some 391:=by kernel_rfl
theorem Tryz.cellsTab:Tryz.prog.cellsOf 391=64:=by kernel_rfl
theorem Tryz.cellsU8:Tryz.prog.cellsOf 5=1:=by kernel_rfl
theorem y7c{rest:List (String×DataW Unit)}(h:laidMet prog (("math/bits.deBruijn64tab",Rows.laid_math_bits_deBruijn64tab)::rest) W):TabIs W:=by
 have o:Lib.TabIs prog W "math/bits.deBruijn64tab" .u8 (Lib.deBruijn64tab.map fun n:Nat=>(n:Int)):=Lib.tabIs_of_head (rest:=rest) Tryz.gT Tryz.gTType Tryz.underlying391 Tryz.underlying5 Tryz.cellsU8 Tryz.cellsTab h;intro i r;have:=o.cell Tryz.gT i (by simp[Lib.deBruijn64tab];omega);rw[this];congr 2;simp only[List.getD,List.getElem?_map];cases Lib.deBruijn64tab[i]? <;>rfl
theorem Tryz.gFo:Tryz.prog.globalNamed "muntin/sound.errFound"=some 1:=by kernel_rfl
theorem Tryz.gFoType:(Tryz.prog.globals[1]?).map (·.type)=some 31:=by kernel_rfl
theorem Tryz.star8:"*"++"errors.errorString"="*errors.errorString":=by decide
theorem Tryz.rowErrStr(u:TypeId)(h:Tryz.prog.typeName? 3 u=some "*errors.errorString"):u=405:=
 typeName_ptr_named (nm:="errors.errorString") (by rw[Tryz.star8];kernel_rfl) (by kernel_rfl) (by decide) u (by rw[Tryz.star8];exact h)
theorem Tryz.cellsErrStr:Tryz.prog.cellsOf 423=1:=by kernel_rfl
theorem Tryz.cellsStr8:Tryz.prog.cellsOf 9=1:=by kernel_rfl
theorem Tryz.gPw:Tryz.prog.globalNamed "internal/strconv.uint64pow10"=some 3:=by kernel_rfl
theorem Tryz.gPwType:(Tryz.prog.globals[3]?).map (·.type)=some 368:=by kernel_rfl
theorem Tryz.cellsPow:Tryz.prog.cellsOf 368=20:=by kernel_rfl
theorem y7d(h:laidMetH prog [("math/bits.deBruijn32tab",Rows.laid_math_bits_deBruijn32tab),("math/bits.deBruijn64tab",Rows.laid_math_bits_deBruijn64tab),("internal/strconv.uint64pow10",Rows.laid_internal_strconv_uint64pow10),("errors.errorType",Rows.laid_errors_errorType),("muntin/sound.errFound",Rows.laid_muntin_sound_errFound)] W):Vg W/\TabIs W/\Xm W/\∃A:Addr,zC W (1) 0 (.iface 405 (.pointer (some A))):=by
 have o:laidMet prog [("math/bits.deBruijn32tab",Rows.laid_math_bits_deBruijn32tab),("math/bits.deBruijn64tab",Rows.laid_math_bits_deBruijn64tab),("internal/strconv.uint64pow10",Rows.laid_internal_strconv_uint64pow10),("muntin/sound.errFound",Rows.laid_muntin_sound_errFound)] W/\handlesMet prog [("errors.errorType",Rows.laid_errors_errorType)] W:=h;have r:=laidMet.tail o.1;have y:=laidMet.tail r;refine⟨y7b o.2 (List.mem_singleton.2 rfl),y7c (rest:=[("internal/strconv.uint64pow10",Rows.laid_internal_strconv_uint64pow10),("muntin/sound.errFound",Rows.laid_muntin_sound_errFound)]) r,?_,?_⟩
 ·exact Lib.tabIs_of_head (rest:=[("muntin/sound.errFound",Rows.laid_muntin_sound_errFound)]) Tryz.gPw Tryz.gPwType Tryz.underlying368 Tryz.underlying61 Tryz.cellsU Tryz.cellsPow y
 ·obtain⟨a,s,D,_⟩:=laid_sentinel (nm:="*errors.errorString") (text:=[102,111,117,110,100]) (laidMet.tail y) Tryz.gFo Tryz.gFoType Tryz.underlying31 Tryz.rowErrStr Tryz.underlying405 Tryz.underlying423 rfl rfl Tryz.underlying9 Tryz.cellsErrStr Tryz.cellsStr8
  exact⟨a,by simpa using World.var?_cell Tryz.gFo D 0⟩
theorem y7m:True:=trivial
end Go.Proofs.YtmelafeingcgnaaGreatDoor
