/- Lemmas for the last text. Conditions: those that each names. -/
import Derived.Test.YtgnkkgcgbeianaaGreatDoorVY15ToX17
import Derived.Test.YtgnkkgcgbeianaaGreatDoorVLJToRK
import Derived.Test.YtgnkkgcgbeianaaGreatDoorVC9ToHA
import Derived.Test.YtgnkkgcgbeianaaGreatDoorVY6ToY8
import Derived.Test.YtgnkkgcgbeianaaGreatDoorVO5ToS4
import Derived.Test.YtgnkkgcgbeianaaGreatDoorVR8ToO4
set_option linter.unusedVariables false
set_option maxRecDepth 100000
set_option maxHeartbeats 8000000
namespace Go.Proofs.YtgnkkgcgbeianaaGreatDoor
open Go.Proofs.Tryz
open Go.RowKit
def Sim(S:zA):Prop:=∀k x,bt S k=some x->x≠92/\x≠35/\x≠34/\x≠91
def z0m(S:zA):Bool:=(List.range S.size).all fun k=>match bt S k with
 |some x=>decide (x≠92/\x≠35/\x≠34/\x≠91)
 |none=>true
theorem y6f{S:zA}(h:z0m S=true):Sim S:=fun k x o=>by
 have r:=List.all_eq_true.1 h k (List.mem_range.2 (Zj o).1);rw[o]at r;exact of_decide_eq_true r
theorem y6g{S:zA}(t:Sim S)(k b n:Nat)(w:World)(h:lsg S k=.inr (b,n))(D:S.size<=9007199254740992):
  Calls prog 139 #[zT S,zI (k:Int)] w fun e w'=>e=.returned (.tuple #[.int .u8 b,zI (n:Int),.nilIface])/\zB w w':=by
 unfold lsg at h;cases hx0:bt S k with
 |none=>rw[hx0]at h;cases h
 |some x=>
  rw[hx0]at h;simp only at h;have y:=(Zj hx0).2;obtain⟨E,hx⟩:=Yz hx0;have G:(k:Int)<(S.size:Int):=by omega
  have I:decide ((S.size:Int)<=(k:Int))=false:=by simp;omega
  cases hp:plB x with
  |false=>rw[hp,if_pos rfl]at h;cases h
  |true=>
   rw[hp]at h;simp only[Bool.true_eq_false,if_false]at h;have A:Hid (∀w:World,Calls prog 172 #[.int .u8 x] w fun e w'=>e=.returned (.bool true)/\w'=w):=fun w=>z0w x true hp w y
   have o:x≠92:=(t k x hx0).1;rw[if_neg o]at h;simp only[Sum.inr.injEq,Prod.mk.injEq]at h;obtain⟨rfl,rfl⟩:=h;have U:((x:Int) == 92)=false:=by simp;omega
   have r:((k+1:Nat):Int)=(k:Int)+1:=by omega
   rw[r];clear hx0 o hp r;go_enter func139,ntmps139
   go_wp2_with fail
   refine(A.out _).mono ?_;rintro e V ⟨rfl,rfl⟩
   go_wp2_with fail
   go_ret3
   exact⟨rfl,Below.refl _ _⟩
theorem y6h{S:zA}(hQ:Sim S)(q p:Nat)(l:List Nat)(N:Nat)(w:World)(hl:ll S q p (p+1) []=.inr (l,N))(G:bt S p=some q)(hS:S.size<=9007199254740992):
  Calls prog 92 #[zT S,zI (p:Int)] w fun e w'=>e=.returned (tk7 3 (nb l) 0 0 0 0 p N .nilIface)/\zB w w':=by
 obtain⟨i0,ad,ae,af,ag⟩:=info_parts Tryz.infoByte;have aE:=(Zj G).2;obtain⟨aF,ah⟩:=Yz G;have aG:(p:Int)<(S.size:Int):=by omega
 have HR:Hid (ll S q p (p+1) []=.inr (l,N)):=hl;clear hl G;go_enter func92,ntmps92
 go_wp2_with fail
 go_loopw [8,9] (fun v a wr=>∃(k:Nat) (acc:List Nat),a=zI (k:Int)/\k<=S.size/\acc.length<=255/\Hid (∀x∈acc,x<256)/\Hid (ll S q p k acc=.inr (l,N))/\Hid (Lr w v acc wr)) (fun _ a _=>S.size-(intOf a).toNat)
 case atStart=>exact⟨p+1,[],by go_num,by omega,by simp,hid (fun x hx=>by simp at hx),HR,hid ⟨hid (B0q.alloc L0q _),hid (World.ownsRow_nil _ _ _ _),hid (Tk.new w 0 {data:=#[]} 0 0 0 0 0)⟩⟩
 case round=>
  obtain⟨k,acc,rfl,aH,aI,I,A,o⟩:=hrel;clear ah;by_cases hend:bt S k=some q
  ·obtain⟨ai,aj⟩:=Yz hend
   have ak:(k:Int)<(S.size:Int):=by omega
   have Z:decide ((S.size:Int)<=(k:Int))=false:=by simp;omega
   have aa:Hid (acc=l/\k+1=N):=by have h:=A.out;rw[z6W hend]at h;cases h;exact⟨rfl,rfl⟩
   have HN:Hid (((k+1:Nat):Int)=(k:Int)+1):=by show _=_;omega
   have al:=Bl o.out.2.1.out I.out;obtain⟨c0,c1,c2,c3,c4,c5,c6⟩:=o.out.2.2.out.cells;obtain⟨f0,f1,f2,f3,f4,f5,f6⟩:=o.out.2.2.out.thaw;obtain⟨D,U⟩:∃D,D=nb acc:=⟨_,rfl⟩;rw[<-U]at al;have am:Hid (Tk wr w.heap.size 0 {data:=#[]} 0 0 0 0 0):=o.out.2.2;have ao:Hid (zB w wr):=o.out.1;have ap:Hid (D=nb acc):=U;clear hend A o U
   go_wp2_with fail
   obtain⟨r0,r1,r2,r3,r4,r5,r6⟩:=(am.out.st7 3 D 0 0 0 0 (p:Int)).cells;unfold st7 at r0 r1 r2 r3 r4 r5 r6;refine bodyPost_ret (v:=.tuple #[.agg #[zI 3,zT D,zU 0,zU 0,zU 0,zU 0,zI (p:Int)],zI ((k:Int)+1),.nilIface]) (by simp[results,Tryz.results92,go_sem,r0,r1,r2,r3,r4,r5,r6]) rfl ?_;rw[<-aa.out.1,<-aa.out.2,HN.out,<-ap.out];exact⟨rfl,Below.st7 ao.out L0q _ _ _ _ _ _ _⟩
  ·have aq:decide ((S.size:Int)<=(k:Int))=true/\S.size<=k∨(∃x:Nat,k<S.size/\At S k x/\x≠q/\x<256):=by
    cases hb:bt S k with
    |none=>exact .inl ⟨by have:=Yy hb;simp;omega,Yy hb⟩
    |some x=>exact .inr ⟨x,(Zj hb).1,Yz hb,fun e=>hend (by rw[hb,e]),(Zj hb).2⟩
   cases hm:lsg S k with
   |inl c=>
    have h:=A.out;rw[z6X hend hm]at h;cases h
   |inr r=>
    obtain⟨b,n⟩:=r;have E:=Bm hm;rcases aq with⟨Z,aJ⟩|⟨x,ai,⟨_,aj⟩,ar,aK⟩
    ·omega
    ·have ak:(k:Int)<(S.size:Int):=by omega
     have Z:decide ((S.size:Int)<=(k:Int))=false:=by simp;omega
     have n0:((x:Int) != (q:Int))=true:=by rw[bne_iff_ne];omega
     have au:Hid (∀w:World,Calls prog 139 #[zT S,zI (k:Int)] w (zR w (.tuple #[.int .u8 b,zI (n:Int),.nilIface]))):=fun w=>y6g hQ k b n w hm hS
     have aw:∃a c,u8=.slice a acc.length c:=by
      obtain⟨_,⟨h1,h2⟩|⟨g,ax,aL,e,_⟩⟩:=o.out.2.1.out
      ·exact⟨none,0,by rw[h1,h2]⟩
      ·exact⟨_,ax,e⟩
     obtain⟨av,cv,rfl⟩:=aw;by_cases hl5:acc.length=255
     ·have h:=A.out
      rw[z6Y hend hm hl5]at h;cases h
     ·have ay:Hid (ll S q p n (acc++[b])=.inr (l,N)):=by show _=_;rw[<-A.out,z6Z hend hm hl5]
      have az:Hid (∀y∈acc++[b],y<256):=fun y hy=>by
       rcases List.mem_append.1 hy with h|h
       ·exact I.out y h
       ·simp at h;omega
      have d5:((acc.length:Int) == 255)=false:=by rw[beq_eq_false_iff_ne];omega
      have aM:b<256:=E.1;have aN:k<n:=E.2.1;have aA:n<=S.size:=E.2.2;have aO:acc.length<=254:=by omega
      clear hend A hm I ar E hl5
      go_wp2_with fail
      refine(au.out _).mono ?_;rintro e V ⟨rfl,ab⟩;have t:=hid (o.out.keep ab);have aB:w.heap.size<=V.heap.size:=t.out.1.out.size;have aP:w.heap.size<V.heap.size:=t.out.2.2.out.lt;clear ab o
      go_wp2_with(first|(at_builtin;refine wpList_append_own _ rfl (.tmp 48) (.tmp 50) 185 rfl (w.heap.size+1) 5 i0 (.int .u8 0) 1 1 Tryz.underlying185 ad ae af ag rfl (by decide) _ _ _ rfl (t.out.2.1.out.alloc _) ⟨V.heap.size,0,none⟩ 1 1 [.int .u8 b] rfl rfl (Vj _ _ _) (Xw [(b:Int)]) (by unfold maxLen;omega) (by omega) (by simp;omega) ?_;intro v2 w2 ac Y aC))
      have aD:Hid (Lr w v2 (acc++[b]) w2):=by
       refine⟨hid ((t.out.1.out.alloc aB _).grown Y (by simp;omega) (fun y e=>by have:=(t.out.2.1.out.lt y e).1;omega)),hid ?_,hid ?_⟩
       ·rw[Fg,List.length_append];exact ac
       ·refine(Y.block _ (by simp;omega) ?_).trans (t.out.2.2.out.alloc _)
        intro e;have:=(t.out.2.1.out.lt _ e.symm).1;omega
      clear ac Y aC t
      go_roundw
      case rel=>exact⟨n,acc++[b],rfl,aA,by simp;omega,az,ay,aD⟩
      case measure=>simp[intOf];omega
theorem y6i{S:zA}(D:Sim S)(p:Nat)(w:World)(E:p<=S.size)(hS:S.size<=9007199254740992):
  Calls prog 56 #[zT S,zI (p:Int)] w fun e w'=>e=.returned (zI (sb S p:Int))/\w'=w:=by
 obtain⟨R,r⟩:∃R,R=sb S p:=⟨_,rfl⟩;rw[<-r];have G:Hid (sb S p=R):=r.symm;clear r;go_enter func56,ntmps56
 go_wp2_with fail
 go_loopw [1] (fun a wr=>∃k:Nat,a=zI (k:Int)/\k<=S.size/\Hid (sb S k=R)/\wr=w) (fun a _=>S.size-(intOf a).toNat)
 case atStart=>exact⟨p,rfl,E,G,rfl⟩
 case round=>
  obtain⟨k,rfl,ab,o,rfl⟩:=hrel;cases hb:bt S k with
  |none=>
   have ac:=Yy hb;have I:decide ((k:Int)<(S.size:Int))=false:=by simp;omega
   have t:Hid (R=k):=by show _=_;rw[<-o.out,Lp hb]
   clear hb
   go_wp2_with fail
   go_ret;rw[t.out];exact⟨rfl,rfl⟩
  |some x=>
   have ad:=(Zj hb).2;obtain⟨hk,ae⟩:=Yz hb;have af:(k:Int)<(S.size:Int):=by omega
   have I:decide ((k:Int)<(S.size:Int))=true:=by simp;omega
   have y:=(D k x hb).2.1;have U:(x=9∨x=10∨x=13∨x=32)∨(x≠9/\x≠10/\x≠13/\x≠32/\x≠35):=by omega
   rcases U with h|⟨V,Y,Z,h4,A⟩
   ·have aa:Hid (sb S (k+1)=R):=by
     show _=_;rw[<-o.out,Lc hb,if_pos (by unfold blB;rcases h with h|h|h|h<;>rw[h]<;>rfl)]
    clear hb o y;rcases h with h|h|h|h
    all_goals
     subst h
     go_wp2_with fail
     go_roundw
     case rel=>exact⟨k+1,by go_num,by omega,aa,trivial⟩
     case measure=>simp[intOf];omega
   ·have t:Hid (R=k):=by
     show _=_;rw[<-o.out,Lc hb,if_neg (by unfold blB;simp;omega),if_neg A]
    have b1:((x:Int) == 9)=false:=by simp;omega
    have b2:((x:Int) == 10)=false:=by simp;omega
    have b3:((x:Int) == 13)=false:=by simp;omega
    have b4:((x:Int) == 32)=false:=by simp;omega
    have b5:((x:Int) == 35)=false:=by simp;omega
    clear hb o V Y Z h4 A y
    go_wp2_with fail
    (try simp only[Exit.inBlock,Exit.then])
    go_ret;rw[t.out];exact⟨rfl,rfl⟩
theorem y6j(S:zA)(p:Nat)(w:World)(D:p<=S.size)(hS:S.size<=9007199254740992)(hl:¬32<ne S p-p):
  Calls prog 91 #[zT S,zI (p:Int)] w fun e w'=>e=.returned (tk7 1 (S.extract p (ne S p)) 0 0 0 0 p (ne S p:Nat) .nilIface)/\zB w w':=by
 have E:=z0z D;have G:Hid (∀w:World,Calls prog 138 #[zT S,zI (p:Int)] w fun e w'=>e=.returned (zI (ne S p:Int))/\w'=w):=fun w=>z0A S p w D hS
 obtain⟨N,I⟩:∃N,N=ne S p:=⟨_,rfl⟩;rw[<-I]at G E hl ⊢;clear I;obtain⟨ac,ad⟩:=E;have r:Hid (Tk (w.alloc (.cells #[zI 0,zT {data:=#[]},zU 0,zU 0,zU 0,zU 0,zI 0] 139)) w.heap.size 0 {data:=#[]} 0 0 0 0 0):=Tk.new w 0 {data:=#[]} 0 0 0 0 0;have a0:decide ((32:Int)<(N:Int)-(p:Int))=false:=by simp;omega
 have b1:(p:Int)<=(N:Int):=by omega
 have b2:(N:Int)<=(S.size:Int):=by omega
 obtain⟨T,h⟩:∃T,T=S.extract p N:=⟨_,rfl⟩;have U:T.size<=281474976710656:=by rw[h,ByteArray.size_extract];omega
 have t:Hid (∀w:World,Calls prog 29 #[zT T] w (zR w (zT T))):=fun w=>Dh T w U
 rw[h]at t;obtain⟨W,o⟩:∃W,W=w.alloc (.cells #[zI 0,zT {data:=#[]},zU 0,zU 0,zU 0,zU 0,zI 0] 139):=⟨_,rfl⟩;have V:Hid (zB w W):=by show Below _ _ _;rw[o];exact B0q.alloc L0q _
 rw[<-o]at r;rw[<-h];rw[<-h]at t;have aa:Hid (T=S.extract p N):=h;clear h U;go_enter func91,ntmps91
 go_wp2_with fail
 rw[<-o];clear o;refine(G.out _).mono ?_;rintro e w1 ⟨rfl,rfl⟩
 go_wp2_with fail
 rw[<-aa.out];refine(t.out _).mono ?_;rintro e Y ⟨rfl,y⟩;have ab:Hid (zB w Y):=V.out.trans (y.mono V.out.size);have A:Hid (Tk Y w.heap.size 0 {data:=#[]} 0 0 0 0 0):=r.out.below y r.out.lt;clear y;obtain⟨c0,c1,c2,c3,c4,c5,c6⟩:=A.out.cells;obtain⟨f0,f1,f2,f3,f4,f5,f6⟩:=A.out.thaw
 go_wp2_with fail
 obtain⟨Z,r1,r2,r3,r4,r5,r6⟩:=(A.out.st7 1 T 0 0 0 0 (p:Int)).cells;unfold st7 at Z r1 r2 r3 r4 r5 r6
 (try simp only[Exit.inBlock,Exit.then])
 refine bodyPost_ret (v:=.tuple #[.agg #[zI 1,zT T,zU 0,zU 0,zU 0,zU 0,zI (p:Int)],zI (N:Int),.nilIface]) (by simp[results,Tryz.results91,go_sem,Z,r1,r2,r3,r4,r5,r6]) rfl ?_;exact⟨rfl,Below.st7 ab.out L0q _ _ _ _ _ _ _⟩
theorem z6r(S:zA)(p x:Nat)(v:Bool)(F:Nat)(kd:Int)(T:zA)(h o r t A:Int)(w:World)(D:bt S p=some x)(hl:Zp x=v)(hS:S.size<=9007199254740992)
  (hk:(v=true/\F=91)∨(v=false/\x=39/\F=92))
  (HC:Hid (∀w:World,Calls prog F #[zT S,zI (p:Int)] w (zR w (tk7 kd T h o r t p A .nilIface)))):
  Calls prog 57 #[zT S,zI (p:Int)] w fun e w'=>e=.returned (tk7 kd T h o r t p A .nilIface)/\zB w w':=by
 have aa:=(Zj D).2;obtain⟨hp,ad⟩:=Yz D;have ae:(p:Int)<(S.size:Int):=by omega
 have af:(p:Int)<=(S.size:Int):=by omega
 have ab:Hid (∀w:World,Calls prog 90 #[.int .u8 x] w fun e w'=>e=.returned (.bool v)/\w'=w):=fun w=>Ff x v hl w aa
 obtain⟨W,y⟩:∃W,W=w.alloc (.cells #[zI 0,zT {data:=#[]},zU 0,zU 0,zU 0,zU 0,zI 0] 139):=⟨_,rfl⟩;have I:Hid (zB w W):=by show Below _ _ _;rw[y];exact B0q.alloc L0q _
 have U:Hid (Tk W w.heap.size 0 {data:=#[]} 0 0 0 0 0):=by show Tk _ _ _ _ _ _ _ _ _;rw[y];exact Tk.new w 0 {data:=#[]} 0 0 0 0 0
 clear D hl;rcases hk with⟨rfl,rfl⟩|⟨rfl,rfl,rfl⟩
 all_goals
  go_enter func57,ntmps57
  go_wp2_with fail
  rw[<-y];clear y;refine(ab.out _).mono ?_;rintro e w0 ⟨rfl,rfl⟩
  go_wp2_with fail
  refine(HC.out _).mono ?_;rintro e V ⟨rfl,E⟩;have ac:Hid (zB w V):=I.out.trans (E.mono I.out.size);have G:Hid (Tk V w.heap.size 0 {data:=#[]} 0 0 0 0 0):=U.out.below E U.out.lt;clear E;obtain⟨c0,c1,c2,c3,c4,c5,c6⟩:=G.out.cells;obtain⟨f0,f1,f2,f3,f4,f5,f6⟩:=G.out.thaw
  go_wp2_with fail
  obtain⟨Y,Z,r2,r3,r4,r5,r6⟩:=(G.out.st7 kd T h o r t p).cells;unfold st7 at Y Z r2 r3 r4 r5 r6
  (try simp only[Exit.inBlock,Exit.then])
  refine bodyPost_ret (v:=tk7 kd T h o r t p A .nilIface) (by simp[results,Tryz.results57,go_sem,Y,Z,r2,r3,r4,r5,r6]) rfl ?_;exact⟨rfl,Below.st7 ac.out L0q _ _ _ _ _ _ _⟩
theorem y6k{S:zA}(D:Sim S)(p x:Nat)(w:World)(y:bt S p=some x)(A:S.size<=9007199254740992)(t:Tok)(n:Nat)(o:Um S p x=.inr (t,n)):
  Calls prog 57 #[zT S,zI (p:Int)] w fun e w'=>e=.returned (.tuple #[tkv t,zI (n:Int),.nilIface])/\zB w w':=by
 unfold Um at o;cases hl:Zp x with
 |true=>
  rw[hl]at o;by_cases h3:32<ne S p-p
  ·rw[if_pos h3]at o;cases o
  ·rw[if_neg h3]at o
   have U:=(Zj y).1;cases o;simpa [tkv,Jk]using z6r S p x true _ 1 _ 0 0 0 0 _ w y hl A (.inl ⟨rfl,rfl⟩) (hid fun w=>y6j S p w (by omega) A h3)
 |false=>
  rw[hl]at o;simp only[Bool.false_eq_true,if_false]at o;by_cases hq:x=39∨x=34
  ·rw[if_pos hq]at o
   have E:x=39:=hq.resolve_right (D p x y).2.2.1;cases hm:ll S x p (p+1) []with
   |inl c=>rw[hm]at o;cases o
   |inr r=>
    rw[hm]at o;cases o;simpa [tkv,Jk]using z6r S p x false _ 3 _ 0 0 0 0 _ w y hl A (.inr ⟨rfl,E,rfl⟩) (hid fun w=>y6h D x p _ _ w hm y A)
  ·rw[if_neg hq]at o
   have G:x≠91:=(D p x y).2.2.2;rw[if_neg G]at o;cases ha:arB S p with
   |true=>
    rw[ha]at o;have hx:x=60:=by unfold arB at ha;rw[y]at ha;simp at ha;exact ha.1
    refine(z7i S p x w y ha hx A).mono fun e w' h=> ?_
    cases o;simpa [tkv,tk7,Jk]using h
   |false=>
    rw[ha]at o;have I:x≠39/\x≠34/\x≠91:=by omega
    cases hm:mkB x with
    |true=>
     rw[hm]at o;refine(z7j S p x w y hl I ha hm A).mono fun e w' h=> ?_
     cases o;simpa [tkv,tk7,Jk]using h
    |false=>rw[hm]at o;cases o
theorem y6l{S:zA}(Z:Sim S)(w:World)(hS:S.size<=8192)(hO:(tkS S).isRight=true):
  Calls prog 34 #[zT S] w fun e w'=>z7r (tkS S) w e w':=by
 obtain⟨iT,aa,ab,ac,ad⟩:=info_parts Tryz.infoTok;have HO:=hid hO;obtain⟨R,G⟩:∃R,R=tks S (sb S 0) []:=⟨_,rfl⟩;have HA:Hid (tkS S=tkE S R):=by show _=_;rw[G];rfl
 have HR:Hid (tks S (sb S 0) []=R):=G.symm;have ak:=Nw (S:=S) (n:=0) (Nat.zero_le _);have HK:Hid (∀(k:Nat) (w:World),k<=S.size->Calls prog 56 #[zT S,zI (k:Int)] w fun e w'=>e=.returned (zI ((sb S k:Nat):Int))/\w'=w):=fun k w hk=>y6i Z k w hk (by omega)
 have c0:decide ((8192:Int)<(S.size:Int))=false:=by simp;omega
 clear G hO;go_enter func34,ntmps34
 go_wp2_with fail
 refine(HK.out 0 _ (Nat.zero_le _)).mono ?_;rintro e w1 ⟨rfl,ae⟩;rw[ae];clear ae
 go_wp2_with fail
 go_loopw [4,5] (fun v a wr=>∃(k:Nat) (acc:List Tok),a=zI (k:Int)/\k<=S.size/\acc.length<=k/\Hid (tks S k acc=R)/\Hid (Lt w v acc wr)) (fun _ a _=>S.size-(intOf a).toNat)
 case atStart=>exact⟨sb S 0,[],rfl,ak.2,by simp,HR,hid ⟨hid B0q,hid (World.ownsRow_nil _ _ _ _)⟩⟩
 case round=>
  obtain⟨k,acc,rfl,aq,ar,o,h⟩:=hrel;clear HR c0;cases hb:bt S k with
  |none=>
   have al:=Yy hb;have a0:decide ((k:Int)<(S.size:Int))=false:=by simp;omega
   have I:Hid (tkS S=.inr (acc++[(6,{data:=#[]},0,S.size)])):=by
    show _=_;rw[HA.out,<-o.out,z7o al];rfl
   have U:w.heap.size<=wr.heap.size:=h.out.1.out.size;clear hb o
   go_wp2_with(first|(at_builtin;refine wpList_append_own _ rfl (.tmp 39) (.tmp 43) 89 rfl w.heap.size 139 iT (.agg #[zI 0,zT {data:=#[]},zU 0,zU 0,zU 0,zU 0,zI 0]) 7 64 Tryz.underlying89 aa ab ac ad rfl (by decide) _ _ _ rfl (h.out.2.out.alloc _) ⟨wr.heap.size,0,none⟩ 1 1 (tvs [(6,{data:=#[]},0,S.size)]) rfl rfl (by simpa [tvs,Jk]using z0J wr _ _ _ _ _ _ _ 139) (z0K _ _ _ _ _ _ _) (by unfold maxLen;omega) (by omega) (by simp;omega) ?_;intro v3 V D E af))
   (try simp only[Exit.inBlock,Exit.then])
   refine bodyPost_ret (v:=.tuple #[v3,.nilIface]) (by simp[results,Tryz.results34,go_sem]) rfl ?_;rw[I.out];exact⟨_,rfl,hid (by rw[Ny,List.length_append];exact D),hid ((h.out.1.out.alloc U _).grown E (by simp;omega) (fun y e=>(h.out.2.out.lt y e).1))⟩
  |some x=>
   have au:=(Zj hb).1;have a0:decide ((k:Int)<(S.size:Int))=true:=by simp;omega
   cases ht:Um S k x with
   |inl b=>
    have I:Hid (tkS S=.inl (wrg k b)):=by
     show _=_;rw[HA.out,<-o.out,z7p hb ht];rfl
    have h1:=HO.out;rw[I.out]at h1;cases h1
   |inr r=>
    obtain⟨t,n⟩:=r;obtain⟨q1,q2,q3,q4,q5,q6,q7⟩:=Nv hb ht;have ag:Hid (tks S (sb S n) (acc++[t])=R):=by show _=_;rw[<-o.out,z7q hb ht]
    have am:=Nw (S:=S) (n:=n) q2;have HT:Hid (∀w:World,Calls prog 57 #[zT S,zI (k:Int)] w (zR w (.tuple #[tkv t,zI (n:Int),.nilIface]))):=fun w=>y6k Z k x w hb (by omega) t n ht
    clear hb ht o
    go_wp2_with fail
    refine(HT.out _).mono ?_;rintro e Y ⟨rfl,ah⟩;have A:=hid (h.out.keep ah);clear ah h HT;obtain⟨kd,T,C,p⟩:=t;have ai:p=k:=q4;rw[ai]at ag ⊢;clear q4 ai;dsimp only[tkv];have U:w.heap.size<=Y.heap.size:=A.out.1.out.size
    go_wp2_with(first|(at_builtin;refine wpList_append_own _ rfl (.tmp 32) (.tmp 34) 89 rfl w.heap.size 139 iT (.agg #[zI 0,zT {data:=#[]},zU 0,zU 0,zU 0,zU 0,zI 0]) 7 64 Tryz.underlying89 aa ab ac ad rfl (by decide) _ _ _ rfl ((A.out.2.out.alloc _).alloc _) ⟨Y.heap.size+1,0,none⟩ 1 1 (tvs [(kd,T,C,k)]) rfl rfl (by have:=z0J (Y.alloc (.cells #[zI (kd:Int),zT T,zU (wd C 0:Nat),zU (wd C 1:Nat),zU (wd C 2:Nat),zU (wd C 3:Nat),zI (k:Int)] 139));simpa [tvs]using this _ _ _ _ _ _ _ 139) (z0K _ _ _ _ _ _ _) (by unfold maxLen;omega) (by omega) (by simp;omega) ?_;intro v3 V D E af))
    have ao:Hid (Lt w v3 (acc++[(kd,T,C,k)]) V):=by
     refine⟨hid (((A.out.1.out.alloc U _).alloc (by simp;omega) _).grown E (by simp;omega) (fun y e=>(A.out.2.out.lt y e).1)),hid ?_⟩;rw[Ny,List.length_append];exact D
    clear D E af A;have ap:=hid (HK.out n V q2);refine ap.out.mono ?_;rintro e w4 ⟨rfl,aj⟩;rw[aj];clear aj
    go_wp2_with fail
    go_roundw
    case rel=>exact⟨sb S n,acc++[(kd,T,C,k)],rfl,am.2,by simp;omega,ag,ao⟩
    case measure=>simp[intOf];omega
theorem y6m{S:zA}(hQ:Sim S)(rs:List Rl)(w:World)(hS:S.size<=8192)(h:Nb S=.inr rs):
  Calls prog 17 #[zT S] w fun e w'=>Kz (.inr rs) w e w':=by
 unfold Nb at h;cases hs:tkS S with
 |inl c=>rw[hs]at h;cases h
 |inr L=>
  have A:=hid (y6l hQ (w.alloc Zg) hS (by rw[hs];rfl));rw[hs]at h;have h:Dl L=.inr rs:=h;have D:=z8j hs hS;have HG:Hid (Ql L):=D.1;have E:=D.2;rw[hs]at A;clear hs D;go_enter func17,ntmps17
  go_wp2_with fail
  refine A.out.mono ?_;rintro e I ⟨v,rfl,U,HB⟩;obtain⟨g,ac,hv⟩:=Jv U.out E;subst hv;have V:=hid (z8e _ _ L I U.out HG.out E);have Y:Hid (Below (w.heap.size+1) (w.alloc Zg) I):=by have:=HB.out;simp[zB]at this;exact this
  obtain⟨n,hn⟩:∃n,n=L.length:=⟨_,rfl⟩;rw[<-hn]at V ⊢;clear hn U HB A E HG
  go_wp2_with fail
  refine V.out.mono ?_;clear V;rw[h];have ad:=hid h;clear h;rintro e y ⟨o,r,rfl,Z,ab⟩;obtain⟨m,t⟩:∃m,m=rs.length:=⟨_,rfl⟩;have HM:Hid (m=rs.length):=t;rw[<-t]at Z ⊢;clear t;have ae:w.heap.size+1<=I.heap.size:=by have h2:=Y.out.size;simp at h2;omega
  have aa:Hid (Below (w.heap.size+1) (w.alloc Zg) y):=Y.out.trans (ab.out.mono (by omega));have HA:Hid (Kz (.inr rs) w (.returned (.tuple #[.agg #[zS o m r],.nilIface])) (y.setCell ⟨w.heap.size,0,none⟩ (zS o m r))):=by
   have hr:=Z.out.grown (G.setR (u:=zS o m r) (j:=0) (G.refl y w.heap.size)) (by omega);have t:=HM.out;subst t;exact⟨o,r,rfl,hid (hr.low (by omega)),hid (z1h aa.out).2.2⟩
  have HQ:Hid (y.heap[w.heap.size]? =some Zg):=(z1h (x:=.nilIface) aa.out).1;obtain⟨e0,y0⟩:=Qk HQ.out;have af:=Qq HQ.out;clear Z Y aa ab
  go_wp2_with fail
  (try simp only[Exit.inBlock,Exit.then])
  refine bodyPost_ret (v:=.tuple #[.agg #[zS o m r],.nilIface]) (by simp[results,Tryz.results17,go_sem,e0]) rfl ?_;exact HA.out
open Go.Shelf Go.Maps
def Jj(ops:List Ox)(ro:List Int)(T:zA)(mo:Nat):Nat->Nt->Nat->List Wq->Mde->Option (Option Nat×Nat)
 |0,_,_,_,_=>none
 |n+1,N,c,S,.beg k i=>match N k i with
  |some e=>Jj ops ro T mo n N c S (.ret e)
  |none=>if c=mo then none else match ops[k.toNat]? with
   |none=>none
   |some o=>match o.2.2.2 with
    |[]=>Jj ops ro T mo n (Zf N k i (aln T o i)) (c+1) S (.ret (aln T o i))
    |_::_=>Jj ops ro T mo n N (c+1) ((k,i,0,i)::S) (.beg (prt ro o 0) i)
 |n+1,N,c,[],.ret e=>some (e,c)
 |n+1,N,c,w::S,.ret e=>match ops[w.1.toNat]? with
  |none=>none
  |some o=>match nxt o w e with
   |some w'=>Jj ops ro T mo n N c (w'::S) (.beg (prt ro o w'.2.2.1) w'.2.2.2)
   |none=>Jj ops ro T mo n (Zf N w.1 w.2.1 (otc o w e)) c S (.ret (otc o w e))
theorem Nz{ops:List Ox}{ro:List Int}{T:zA}{mo:Nat}:∀(n:Nat) (N:Nt) (c:Nat) (S:List Wq) (m:Mde) (e:Option Nat) (y:Nat),Jj ops ro T mo n N c S m=some (e,y)->∃r q,Mch ops ro T mo N c S m (some (e,y,r)) q
 |0,_,_,_,_,_,_,h=>by rw[Jj]at h;cases h
 |n+1,N,c,S,.beg k i,e,y,h=>by
  rw[Jj]at h;cases hN:N k i with
  |some e0=>
   rw[hN]at h;obtain⟨r,q,t⟩:=Nz n _ _ _ _ _ _ h;exact⟨r,_,.noted hN t⟩
  |none=>
   rw[hN]at h;dsimp only at h;split at h
   ·cases h
   ·rename_i A
    cases ho:ops[k.toNat]? with
    |none=>rw[ho]at h;cases h
    |some o=>
     rw[ho]at h;dsimp only at h;cases hs:o.2.2.2 with
     |nil=>
      rw[hs]at h;obtain⟨r,q,t⟩:=Nz n _ _ _ _ _ _ h;exact⟨r,_,.leaf hN A ho hs t⟩
     |cons a b=>
      rw[hs]at h;obtain⟨r,q,t⟩:=Nz n _ _ _ _ _ _ h;exact⟨r,_,.push hN A ho (by rw[hs];simp) t⟩
 |n+1,N,c,[],.ret e0,e,y,h=>by
  rw[Jj]at h;cases h;exact⟨N,_,.done⟩
 |n+1,N,c,w::S,.ret e0,e,y,h=>by
  rw[Jj]at h;cases ho:ops[w.1.toNat]? with
  |none=>rw[ho]at h;cases h
  |some o=>
   rw[ho]at h;dsimp only at h;cases hx:nxt o w e0 with
   |some w'=>
    rw[hx]at h;obtain⟨r,q,t⟩:=Nz n _ _ _ _ _ _ h;exact⟨r,_,.next ho hx t⟩
   |none=>
    rw[hx]at h;obtain⟨r,q,t⟩:=Nz n _ _ _ _ _ _ h;exact⟨r,_,.pop ho hx t⟩
@[reducible] def smL:zA:={data:=#[97,32,60,45,32,39,120,39,32,97,32,47,32,39,121,39]}
@[reducible] def Il:zA:={data:=#[120,120,121]}
def z6s(x:Nat):Bool:=match Nb smL with
 | .inr rs=>rkG rs&&(z0m smL&&(decide (ckR (toG rs)=none)&&((toG rs).all (fun x=>decide (ofT (itr (toG rs) 6) x.2.1=itr (toG rs) 6 x.1))&&(decide (flG (itr (toG rs) 6) (toG rs)=none)&&(decide ((toG rs).map (fun x=>(fbT (itr (toG rs) 6) x.2.1).map fun s=>fdI s (nmL (toG rs)))=[[]])&&(decide ((pgG (toG rs)).1=[4])&&(decide (Jj (pgG (toG rs)).2 (pgG (toG rs)).1 Il 100 200 N0 0 [] (.beg 4 0)=some (some 3,12))&&decide ((pgG (toG rs)).2.length<=200))))))))
 | .inl _=>false
theorem y6n:∀x,x<1->z6s x=true:=by decide+kernel
theorem y6o:∃rs,Nb smL=.inr rs/\rkG rs=true/\z0m smL=true/\ckR (toG rs)=none/\soZ (toG rs) none=none/\(toG rs).length=1/\(pgG (toG rs)).1=[4]/\(pgG (toG rs)).2.length<=200/\∃D q,Mch (pgG (toG rs)).2 (pgG (toG rs)).1 Il 100 N0 0 [] (.beg 4 0) (some (some 3,12,D)) q:=by
 have h:=y6n 0 (by decide);unfold z6s at h;cases hp:Nb smL with
 |inl c=>rw[hp]at h;cases h
 |inr rs=>
  rw[hp]at h;simp only[Bool.and_eq_true,decide_eq_true_eq]at h;obtain⟨E,G,I,U,y,t,V,Y,Z⟩:=h;have hf:Xk (itr (toG rs) 6) (toG rs):=fun x hx=>by simpa using List.all_eq_true.1 U x hx
  have aa:(toG rs).length=1:=by have:=congrArg List.length t;simpa using this
  rw[Sh hf]at y t;refine⟨rs,rfl,E,G,I,?_,aa,V,Z,Nz _ _ _ _ _ _ _ Y⟩;have hb:∀i,i<(toG rs).length->¬Bck (bgU (toG rs)) i:=fun i _=>y3U (fun i x hx=>by
   rw[List.getD_eq_getElem?_getD]at hx;unfold bgU at hx;rcases Nat.lt_or_ge i (toG rs).length with r|r
   ·rw[List.getElem?_map,List.getElem?_eq_getElem r]at hx
    have hx:(x:Int)∈bgR (toG rs) (kG (toG rs)) (toG rs)[i]:=hx;obtain⟨s,hs,e⟩:=Sy.1 hx;have A:(x:Int)∈(fbT (kG (toG rs)) (toG rs)[i].2.1).map (fun s=>fdI s (nmL (toG rs))):=List.mem_map.2 ⟨s,hs,e⟩;have o:=congrArg (fun l=>l[i]?) t;simp only[List.getElem?_map,List.getElem?_eq_getElem r,Option.map_some]at o;obtain rfl:i=0:=by omega
    rw[show([[]]:List (List Int))[0]? =some []from rfl]at o;have o:=Option.some.inj o;rw[o]at A;simp at A
   ·rw[List.getElem?_eq_none (by simpa using r)]at hx
    simp at hx) i
  unfold soZ flX;simp only;rw[y,z4g hb];rfl
theorem y6p{rs:List Rl}(U:rkG rs=true)(aa:ckR (toG rs)=none)(hZ:soZ (toG rs) none=none)(hl:(pgG (toG rs)).2.length<=200)(B g n o:Nat)(G:Addr)(W:World)(hr:RoR B (zS g n o) rs W)(r:TabIs W)(I:zC W (1) 0 (.iface 363 (.pointer (some G))))(V:Xm W):
  Calls prog 15 #[.agg #[zS g n o]] W fun e w'=>∃oso t oc nso A nc rso D rc,e=.returned (.tuple #[.agg #[.slice oso t oc,.slice nso A nc,.slice rso D rc],.nilIface])/\Hid (zB W w')/\Hid (PgV (toG rs) oso nso rso t oc A nc D rc G w'):=by
 obtain⟨hi,Y,hX,hC⟩:=y6e U aa B g n o W hr r;have Z:RgU (toG rs):=fun x hx=>by
  obtain⟨y,_,rfl⟩:=List.mem_map.1 hx;exact z4F y.2.1
 refine(z0a _ n o (toG rs) none W.heap.size G W hX (fun _=>z6q U) hC Y Z hi L0q r I V W B0q).mono ?_;rintro e w' ⟨oso,t,oc,nso,A,nc,rso,D,rc,ev,rfl,E,⟨tt,uu,rfl,_,_,_,_,_,_,_,_,_,h|h⟩|⟨rfl,H⟩⟩
 ·exact absurd hZ h
 ·omega
 ·obtain⟨a,b,c,_,d,e,f⟩:=H.out
  exact⟨oso,t,oc,nso,A,nc,rso,D,rc,rfl,E,hid ⟨a,b,c,d,e,f,Y,Z,r.below E.out r.lt,(E.out.cell (World.block_lt_of_cell? W _ I)).trans I,V.below E.out⟩⟩
theorem y6q(n:Nat)(rs:List Rl)(w:World)
  (aa:Hid (Calls prog 17 #[zT smL] w fun e w'=>∃g h,e=.returned (.tuple #[.agg #[zS g n h],.nilIface])/\Hid (RoR w.heap.size (zS g n h) rs w')/\Hid (zB w w')))
  (HM:Hid (∀(g h:Nat) (W:World),RoR w.heap.size (zS g n h) rs W->zB w W->Calls prog 15 #[.agg #[zS g n h]] W fun e w'=>∃oso o oc nso r nc rso t rc,e=.returned (.tuple #[.agg #[.slice oso o oc,.slice nso r nc,.slice rso t rc],.nilIface])/\Hid (zB W w')/\
    Hid (∀A:World,zB w' A->Calls prog 10 #[.agg #[.slice oso o oc,.slice nso r nc,.slice rso t rc],zI 0,zT Il,zI 0,zI 100] A fun e w3=>e=.returned (.tuple #[zI 3,zI 12,.nilIface])/\zB A w3))):
  Calls prog 8 #[] w fun e w'=>e=.returned (.bool true)/\Hid (zB w w'):=by
 go_enter func8,ntmps8
 go_wp2_with fail
 refine aa.out.mono ?_;rintro e D ⟨g,h,rfl,ab,HB⟩;obtain⟨u1,E⟩:∃u1,u1=D.alloc (.cells #[zS g n h] 43):=⟨_,rfl⟩;have G:zB D u1:=by rw[E];exact(Below.refl _ D).alloc L0q _
 have y:=hid (HB.out.trans (G.mono HB.out.size));have ac:=hid (HM.out g h u1 (ab.out.below G) y.out);have ad:=hid E;clear aa ab G E HM
 go_wp2_with fail
 rw[<-ad.out];refine ac.out.mono ?_;rintro e I ⟨oso,o,oc,nso,r,nc,rso,t,rc,rfl,U,ae⟩;obtain⟨u2,V⟩:∃u2,u2=I.alloc (.cells #[.slice oso o oc,.slice nso r nc,.slice rso t rc] 26):=⟨_,rfl⟩;have Y:zB I u2:=by rw[V];exact(Below.refl _ I).alloc L0q _
 have af:=hid (ae.out u2 Y);have Z:=hid (y.out.trans ((U.out.trans (Y.mono U.out.size)).mono y.out.size));have ag:=hid V;clear ac ad ae Y V U y
 go_wp2_with fail
 rw[<-ag.out];refine af.out.mono ?_;rintro e w3 ⟨rfl,ah⟩;have ai:=hid (Z.out.trans (ah.mono Z.out.size));clear ah af Z ag
 go_wp2_with fail
 go_ret;exact⟨rfl,ai⟩
theorem y6r(r:Addr)(w:World)(h:Ud w)(A:TabIs w)(D:zC w (1) 0 (.iface 363 (.pointer (some r))))(U:Xm w):Calls prog 8 #[] w fun e w'=>e=.returned (.bool true)/\Hid (zB w w'):=by
 obtain⟨rs,V,Y,Z,aa,hZ,hl,p1,ab,N',q,hq⟩:=y6o;have y:=y6m (y6f Z) rs w (by decide) V;unfold Kz at y;simp only at y;have ac:∀{W:World},zB w W->zC W (1) 0 (.iface 363 (.pointer (some r))):=fun o=>(o.cell (p:=⟨1,0,none⟩) (World.block_lt_of_cell? w _ D)).trans D
 refine y6q rs.length rs w (hid y) (hid fun g ad W hr o=> ?_);refine(y6p Y aa hZ ab _ g rs.length ad r W hr (A.below o A.lt) (ac o) (U.below o)).mono fun e w' t=> ?_
 obtain⟨oso,E,oc,nso,G,nc,rso,I,rc,rfl,HB,HP⟩:=t;refine⟨oso,E,oc,nso,G,nc,rso,I,rc,rfl,HB,hid fun W2 ae=> ?_⟩;have P:=HP.out.below ae;exact(z0l (toG rs) oso nso rso E oc G nc I rc r W2 P.hol P.hnl P.hrl P.hs P.hp P.hM P.hz P.hu P.hT P.hF P.hPw Il 0 0 100 (by rw[hl];decide) (Nat.zero_le _) (by decide) (by decide) 4 (by rw[p1];rfl) _ q hq).mono fun e w3 t=>⟨t.1,t.2⟩
theorem y6s(A:Option Addr)(n D:Nat)(rs:List Rr)(X:Option (Int ⊕ (Int×Int)))(E:Addr)(w:World)(hX:CkX rs X)(hP:X=none->PrG rs)(hC:CkC A n D rs X w)(hz:RgZ rs)(hu:RgU rs)(h:Qb w w.heap.size A n rs)(G:TabIs w)(I:zC w (1) 0 (.iface 363 (.pointer (some E))))(aa:Xm w)(W:World)(U:zB w W):
  Calls prog 15 #[.agg #[.slice A n D]] W fun e w'=>∃oso o oc nso r nc rso t rc y,e=.returned (.tuple #[.agg #[.slice oso o oc,.slice nso r nc,.slice rso t rc],y])/\Hid (zB W w')/\((∃V Y,y=.iface V Y/\oso=none/\o=0/\oc=0/\nso=none/\r=0/\nc=0/\rso=none/\t=0/\rc=0)∨(y=.nilIface/\Hid (PgV rs oso nso rso o oc r nc t rc E w'))):=by
 refine(z0a A n D rs X w.heap.size E w hX hP hC hz hu h L0q G I aa W U).mono ?_;rintro e w' ⟨oso,o,oc,nso,r,nc,rso,t,rc,y,rfl,Z,⟨V,Y,h1,h2,h3,h4,h5,h6,h7,h8,h9,ab,_⟩|⟨h1,H⟩⟩
 ·exact⟨oso,o,oc,nso,r,nc,rso,t,rc,y,rfl,Z,.inl ⟨V,Y,h1,h2,h3,h4,h5,h6,h7,h8,h9,ab⟩⟩
 ·obtain⟨a,b,c,_,d,e,f⟩:=H.out
  have hb:zB w w':=U.trans (Z.out.mono U.size);exact⟨oso,o,oc,nso,r,nc,rso,t,rc,y,rfl,Z,.inr ⟨h1,hid ⟨a,b,c,d,e,f,hz,hu,G.below hb G.lt,(hb.cell (World.block_lt_of_cell? w _ I)).trans I,aa.below hb⟩⟩⟩
section
@[reducible] def fq1 (F b1:Nat):Value:=.func (.func F) #[] #[zP b1 0]
@[reducible] def fq2 (F b1 b2:Nat):Value:=.func (.func F) #[] #[zP b1 0,zP b2 0]
@[reducible] def cA (C:Nat):Array Value:=#[zU (wd C 0:Nat),zU (wd C 1:Nat),zU (wd C 2:Nat),zU (wd C 3:Nat)]
structure Hb (w:World) (mB:Nat) (L:Nat->Prop) (b:Nat) (xs:Array Value) (t:TypeId):Prop where
 ne:b≠mB
 hp:w.heap[b]? =some (.cells xs t)
 lo:L b
def Hm(w:World)(mB:Nat)(L:Nat->Prop)(b:Nat):Prop:=Hb w mB L b #[zP mB 0] 86
theorem Hb.keep{w w':World}{mB b:Nat}{L L':Nat->Prop}{xs:Array Value}{t:TypeId}(h:Hb w mB L b xs t)(o:∀b,L b->b<w.heap.size->L' b)(r:∀b,b≠mB->L b->b<w.heap.size->w'.heap[b]? =w.heap[b]?):Hb w' mB L' b xs t:=
 ⟨h.ne,(r b h.ne h.lo (Qq h.hp)).trans h.hp,o b h.lo (Qq h.hp)⟩
theorem Hb.kept{w w':World}{mB b:Nat}{L:Nat->Prop}{xs:Array Value}{t:TypeId}(h:Hb w mB L b xs t)(o:w.grownBy w' (some mB)):Hb w' mB L b xs t:=
 ⟨h.1,(o.block b (Qq h.2) (fun e=>h.1 (Option.some.inj e))).trans h.2,h.3⟩
theorem Hm.kept{w w':World}{mB b:Nat}{L:Nat->Prop}(h:Hm w mB L b)(o:w.grownBy w' (some mB)):Hm w' mB L b:=Hb.kept h o
mutual
def Mv(w:World)(mB:Nat)(L:Nat->Prop)(ix:zA->Nat):RT->Value->Prop
 | .mk k N a b c d s p,v=>∃b1 b2 u,v=fq2 88 b1 b2/\Hm w mB L b1/\Hb w mB L b2 #[u] 132/\
   (if k=2 then ∃c1 c2,u=fq2 161 c1 c2/\Hm w mB L c1/\Hb w mB L c2 #[zT N] 9
    else if k=3 then ∃c1 c2,u=fq2 162 c1 c2/\Hm w mB L c1/\Hb w mB L c2 (cA (cl4 a b c d)) 54
    else if k=4 then ∃c1 c2,u=fq2 162 c1 c2/\Hm w mB L c1/\Hb w mB L c2 (cA Xp) 54
    else if k=5 then ∃c1 c2,u=fq2 163 c1 c2/\Hm w mB L c1/\Hb w mB L c2 #[zI (ix N:Nat)] 3
    else if k=6 then ∃c1 so cap,u=fq1 164 c1/\Hb w mB L c1 #[.slice so (Qv s) cap] 128/\Mvs w mB L ix so 0 s
    else if k=7 then ∃c1 so cap,u=fq1 165 c1/\Hb w mB L c1 #[.slice so (Qv s) cap] 128/\Mvs w mB L ix so 0 s
    else if k=8 then ∃c1 x,u=fq1 166 c1/\Hb w mB L c1 #[x] 132/\MvH w mB L ix s x
    else if k=9 then ∃c1 x,u=fq1 167 c1/\Hb w mB L c1 #[x] 132/\MvH w mB L ix s x
    else if k=10 then ∃c1 c2 c3 x,u=fq2 168 c1 c2/\Hb w mB L c1 #[x] 132/\Hb w mB L c2 #[fq1 167 c3] 132/\Hb w mB L c3 #[x] 132/\MvH w mB L ix s x
    else if k=11 then ∃c1 x,u=fq1 169 c1/\Hb w mB L c1 #[x] 132/\MvH w mB L ix s x
    else if k=12 then ∃c1 x,u=fq1 170 c1/\Hb w mB L c1 #[x] 132/\MvH w mB L ix s x
    else u=.func (.func 137) #[] #[])
def Mvs(w:World)(mB:Nat)(L:Nat->Prop)(ix:zA->Nat)(so:Option Addr):Nat->List RT->Prop
 |_,[]=>True
 |j,t::r=>(∃g o x,so=some ⟨g,o,none⟩/\(g≠mB/\L g)/\w.cell? ⟨g,o+j,none⟩=some x/\Mv w mB L ix t x)/\Mvs w mB L ix so (j+1) r
def MvH(w:World)(mB:Nat)(L:Nat->Prop)(ix:zA->Nat):List RT->Value->Prop
 |[],_=>False
 |t::_,x=>Mv w mB L ix t x
end
variable {w w':World} {mB:Nat} {L L':Nat->Prop} {ix:ByteArray->Nat}
mutual
theorem Jp(r:∀b,L b->b<w.heap.size->L' b)(y:∀b,b≠mB->L b->b<w.heap.size->w'.heap[b]? =w.heap[b]?):∀(t:RT) (v:Value),Mv w mB L ix t v->Mv w' mB L' ix t v
 | .mk k N a b c d s p,v,h=>by
   rw[Mv]at h ⊢;obtain⟨E,G,u,e,I,U,o⟩:=h;refine⟨E,G,u,e,I.keep r y,U.keep r y,?_⟩;by_cases hk2:k=2
   ·rw[if_pos hk2]at o ⊢
    obtain⟨c1,c2,e,x1,x2⟩:=o;exact⟨c1,c2,e,x1.keep r y,x2.keep r y⟩
   rw[if_neg hk2]at o ⊢;by_cases hk3:k=3
   ·rw[if_pos hk3]at o ⊢
    obtain⟨c1,c2,e,x1,x2⟩:=o;exact⟨c1,c2,e,x1.keep r y,x2.keep r y⟩
   rw[if_neg hk3]at o ⊢;by_cases hk4:k=4
   ·rw[if_pos hk4]at o ⊢
    obtain⟨c1,c2,e,x1,x2⟩:=o;exact⟨c1,c2,e,x1.keep r y,x2.keep r y⟩
   rw[if_neg hk4]at o ⊢;by_cases hk5:k=5
   ·rw[if_pos hk5]at o ⊢
    obtain⟨c1,c2,e,x1,x2⟩:=o;exact⟨c1,c2,e,x1.keep r y,x2.keep r y⟩
   rw[if_neg hk5]at o ⊢;by_cases hk6:k=6
   ·rw[if_pos hk6]at o ⊢
    obtain⟨c1,A,D,e,x1,x2⟩:=o;exact⟨c1,A,D,e,x1.keep r y,Lz r y s 0 x2⟩
   rw[if_neg hk6]at o ⊢;by_cases hk7:k=7
   ·rw[if_pos hk7]at o ⊢
    obtain⟨c1,A,D,e,x1,x2⟩:=o;exact⟨c1,A,D,e,x1.keep r y,Lz r y s 0 x2⟩
   rw[if_neg hk7]at o ⊢;by_cases hk8:k=8
   ·rw[if_pos hk8]at o ⊢
    obtain⟨c1,x,e,x1,x2⟩:=o;exact⟨c1,x,e,x1.keep r y,Nx r y s x x2⟩
   rw[if_neg hk8]at o ⊢;by_cases hk9:k=9
   ·rw[if_pos hk9]at o ⊢
    obtain⟨c1,x,e,x1,x2⟩:=o;exact⟨c1,x,e,x1.keep r y,Nx r y s x x2⟩
   rw[if_neg hk9]at o ⊢;by_cases hk10:k=10
   ·rw[if_pos hk10]at o ⊢
    obtain⟨c1,c2,c3,x,e,x1,x2,x3,V⟩:=o;exact⟨c1,c2,c3,x,e,x1.keep r y,x2.keep r y,x3.keep r y,Nx r y s x V⟩
   rw[if_neg hk10]at o ⊢;by_cases hk11:k=11
   ·rw[if_pos hk11]at o ⊢
    obtain⟨c1,x,e,x1,x2⟩:=o;exact⟨c1,x,e,x1.keep r y,Nx r y s x x2⟩
   rw[if_neg hk11]at o ⊢;by_cases hk12:k=12
   ·rw[if_pos hk12]at o ⊢
    obtain⟨c1,x,e,x1,x2⟩:=o;exact⟨c1,x,e,x1.keep r y,Nx r y s x x2⟩
   rw[if_neg hk12]at o ⊢;exact o
theorem Lz(A:∀b,L b->b<w.heap.size->L' b)(D:∀b,b≠mB->L b->b<w.heap.size->w'.heap[b]? =w.heap[b]?){G:Option Addr}:∀(s:List RT) (j:Nat),Mvs w mB L ix G j s->Mvs w' mB L' ix G j s
 |[],j,_=>by rw[Mvs];trivial
 |t::r,j,h=>by
  rw[Mvs]at h ⊢;obtain⟨⟨g,o,x,e,y,E,I⟩,U⟩:=h;exact⟨⟨g,o,x,e,⟨y.1,A g y.2 (World.block_lt_of_cell? w _ E)⟩,(World.cell?_of_block (D g y.1 y.2 (World.block_lt_of_cell? w _ E))).trans E,Jp A D t x I⟩,Lz A D r (j+1) U⟩
theorem Nx(o:∀b,L b->b<w.heap.size->L' b)(r:∀b,b≠mB->L b->b<w.heap.size->w'.heap[b]? =w.heap[b]?):∀(s:List RT) (v:Value),MvH w mB L ix s v->MvH w' mB L' ix s v
 |[],_,h=>by rw[MvH]at h;exact h.elim
 |t::_,x,h=>by
  rw[MvH]at h ⊢;exact Jp o r t x h
end
theorem Vq(o:w.grownBy w' (some mB))(t:RT)(v:Value)(h:Mv w mB L ix t v):Mv w' mB L ix t v:=Jp (fun _ h _=>h) (fun b r _ y=>o.block b y (fun e=>r (Option.some.inj e))) t v h
theorem Dg(r:w.grownBy w' (some mB)){o:Option Addr}(s:List RT)(j:Nat)(h:Mvs w mB L ix o j s):Mvs w' mB L ix o j s:=Lz (fun _ h _=>h) (fun b t _ y=>r.block b y (fun e=>t (Option.some.inj e))) s j h
theorem Ac(o:w.grownBy w' (some mB))(s:List RT)(v:Value)(h:MvH w mB L ix s v):MvH w' mB L ix s v:=Nx (fun _ h _=>h) (fun b r _ t=>o.block b t (fun e=>r (Option.some.inj e))) s v h
theorem Ug{A:Option Addr}:∀{s:List RT} {j:Nat},Mvs w mB L ix A j s->∀(i:Nat) (y:i<s.length),∃g o x,A=some ⟨g,o,none⟩/\g≠mB/\zC w g (o+(j+i)) x/\Mv w mB L ix s[i] x
 |[],j,_,i,y=>by simp at y
 |t::r,j,h,0,_=>by
  rw[Mvs]at h;obtain⟨g,o,x,D,E,G,I⟩:=h.1;exact⟨g,o,x,D,E.1,G,I⟩
 |t::r,j,h,i+1,y=>by
  rw[Mvs]at h;have:=Ug h.2 i (by simpa using y);rw[Nat.add_assoc,Nat.add_comm 1 i]at this;exact this
def Smn(w:World)(mB:Nat)(T:zA)(pv sv:Value)(k M:Nat):Prop:=w.heap[mB]? =some (.cells #[zT T,pv,sv,zI (k:Int),zI (M:Int)] 130)
def bdR(rs:List Rr)(N:zA):Option RT:=(rs[ixN N (nmL rs)]?).map (·.2.1)
def Bd(w:World)(mB:Nat)(L:Nat->Prop)(rs:List Rr)(sv:Value):Prop:=∃so cap,sv=.slice so rs.length cap/\Mvs w mB L (fun N=>ixN N (nmL rs)) so 0 (rs.map (·.2.1))
theorem Bd.kept{rs:List Rr}{sv:Value}(h:Bd w mB L rs sv)(o:w.grownBy w' (some mB)):Bd w' mB L rs sv:=by
 obtain⟨r,t,e,h⟩:=h;exact⟨r,t,e,Dg o _ _ h⟩
def eI:Option Nat->Int
 |some n=>n
 |none=> -1
def bud:List PanicEntry:=[{v:=.iface 36 (zI 50),recovered:=false}]
def Po(rs:List Rr)(T:zA)(mB:Nat)(pv sv:Value)(M:Nat)(j:Jb)(i k:Nat)(w:World)(e:Ending)(w':World):Prop:=w.grownBy w' (some mB)/\
 ((∃x c,Mt (bdR rs) T j i x c/\k+c<=M/\e=.returned (zI (eI x))/\Smn w' mB T pv sv (k+c) M)∨
  ((∀x c,Mt (bdR rs) T j i x c->M<k+c)/\e=.panicked bud/\∃k',Smn w' mB T pv sv k' M))
end
end Go.Proofs.YtgnkkgcgbeianaaGreatDoor
