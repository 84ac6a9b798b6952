/- Lemmas for the last text. Conditions: those that each names. -/
import Derived.Test.YtgnkkgcgbeianaaGreatDoorVX10ToY2
import Derived.Deep.RegionHeld3
import Derived.Laws.Strings
import Derived.WideShapes
set_option linter.unusedVariables false
set_option maxRecDepth 100000
set_option maxHeartbeats 8000000
namespace Go.Proofs.YtgnkkgcgbeianaaGreatDoor
open Go.Proofs.Tryz
open Go.RowKit
def hdB(L:List Tok)(k:Nat):Bool:=match L[k]?,L[k+1]? with
 |some t,some u=>t.1 == 1&&u.1 == 2
 |_,_=>false
theorem Gv{a:ByteArray}{l:List UInt8}(h:¬a={data:=⟨l⟩}):(a.toList == l)=false:=by
 rw[ByteArray.toList_eq,beq_eq_false_iff_ne];exact fun e=>h (WideShapes.bytes_inj e)
theorem z1R{w W w':World}{R b:Nat}{v:Value}{L:List Tok}{k ru ne g K r:Nat}(y:∀w':World,Rd w' R b v L k ru ne->w'.cell? ⟨g,K*7,none⟩=some (.int .i64 r))(t:Below W.heap.size W w')
  (h:Hid (Below w.heap.size w W)/\Hid (Rd W R b v L k ru ne)/\W.cell? ⟨R,0,none⟩=some v/\W.cell? ⟨R,1,none⟩=some (.int .i64 k)/\W.cell? ⟨g,K*7,none⟩=some (.int .i64 r)):
  Hid (Below w.heap.size w w')/\Hid (Rd w' R b v L k ru ne)/\w'.cell? ⟨R,0,none⟩=some v/\w'.cell? ⟨R,1,none⟩=some (.int .i64 k)/\w'.cell? ⟨g,K*7,none⟩=some (.int .i64 r):=
 have o:=h.2.1.out.below t
 ⟨hid (h.1.out.trans (t.mono h.1.out.size)),hid o,o.cells.1,o.cells.2.1,y w' o⟩
theorem z1S(R b:Nat)(v:Value)(L:List Tok)(k ru ne:Nat)(w:World)(h:Rd w R b v L k ru ne)(U:k<L.length)(G:(L[k]).1=1)(V:k+1<L.length)(hl:L.length<=10000):
  Calls prog 246 #[.pointer (some ⟨R,0,none⟩)] w fun e w'=>e=.returned (.bool (hdB L k))/\Below w.heap.size w w':=by
 have ag:=Tryz.fld0;have I:Hid (∀w:World,Rd w R b v L k ru ne->Calls prog 98 #[.pointer (some ⟨R,0,none⟩)] w fun e w'=>e=.returned (tkv L[k])/\Below w.heap.size w w'):=fun w h=>Gb R b v L k ru ne w h U hl
 have HR:Hid (Rd w R b v L k ru ne):=h;have D:Hid (hdB L k=((L[k+1]).1 == 2)):=by
  show _=_;unfold hdB;rw[List.getElem?_eq_getElem U,List.getElem?_eq_getElem V];simp[G]
 obtain⟨g,o,rfl⟩:=Gx h.2 (by omega);have ah:=z1O h.2;have A:Hid (∀w':World,Rd w' R b (.slice (some ⟨g,0,none⟩) L.length o) L k ru ne->w'.cell? ⟨g,(k+1)*7,none⟩=some (.int .i64 ((L[k+1]).1:Int))):=fun w' h'=>(z1N h'.2 (k+1) V rfl).1
 obtain⟨r,ac⟩:∃q,q=(L[k+1]).1:=⟨_,rfl⟩;rw[<-ac]at A D;obtain⟨K,ad⟩:∃K,K=k+1:=⟨_,rfl⟩;rw[<-ad]at A;obtain⟨t,ht⟩:∃t,t=L[k]:=⟨_,rfl⟩;rw[<-ht]at I G;have ai:(k:Int)+1=(K:Int):=by omega
 have aj:IntKind.i64.wrap (K:Int)=(K:Int):=by rw[IntKind.wrap_i64];omega
 have ae:(K:Int)<(L.length:Int):=by omega
 obtain⟨n,hn⟩:∃n,n=L.length:=⟨_,rfl⟩;have y:=hid (HR.out.below (Below.refl _ w).drew);rw[<-hn]at I HR A ae hl y;clear h U V ac ht hn ad;obtain⟨kd,T,C,p⟩:=t;have af:kd=1:=G;have t1:((kd:Int) == 1)=true:=by simp;omega
 clear G af;cases h2:(r == 2)
 ·have t2:((r:Int) == 2)=false:=by simp at h2 ⊢;omega
  rw[h2]at D;clear h2;go_enter func246,ntmps246
  go_wp2_with fail
  have Y:(fun W=>Hid (Below w.heap.size w W)/\Hid (Rd W R b (.slice (some ⟨g,0,none⟩) n o) L k ru ne)/\W.cell? ⟨R,0,none⟩=some (.slice (some ⟨g,0,none⟩) n o)/\W.cell? ⟨R,1,none⟩=some (.int .i64 k)/\W.cell? ⟨g,K*7,none⟩=some (.int .i64 r)) w.drew:=⟨hid (Below.refl _ w).drew,y,y.out.cells.1,y.out.cells.2.1,A.out _ y.out⟩
  go_region_held3 (fun W=>Hid (Below w.heap.size w W)/\Hid (Rd W R b (.slice (some ⟨g,0,none⟩) n o) L k ru ne)/\W.cell? ⟨R,0,none⟩=some (.slice (some ⟨g,0,none⟩) n o)/\W.cell? ⟨R,1,none⟩=some (.int .i64 k)/\W.cell? ⟨g,K*7,none⟩=some (.int .i64 r)) (first|assumption|exact z1R A.out (by assumption) (by assumption)) (first|(go_at_call 98;refine(I.out _ ?hh).mono ?_;(case hh=>first|assumption|(have Z:(fun W=>Hid (Below w.heap.size w W)/\Hid (Rd W R b (.slice (some ⟨g,0,none⟩) n o) L k ru ne)/\W.cell? ⟨R,0,none⟩=some (.slice (some ⟨g,0,none⟩) n o)/\W.cell? ⟨R,1,none⟩=some (.int .i64 k)/\W.cell? ⟨g,K*7,none⟩=some (.int .i64 r)) _:=by assumption;exact Z.2.1.out));rintro e wr ⟨rfl,aa⟩;dsimp only[tkv]))
  have E:(fun W=>Hid (Below w.heap.size w W)/\Hid (Rd W R b (.slice (some ⟨g,0,none⟩) n o) L k ru ne)/\W.cell? ⟨R,0,none⟩=some (.slice (some ⟨g,0,none⟩) n o)/\W.cell? ⟨R,1,none⟩=some (.int .i64 k)/\W.cell? ⟨g,K*7,none⟩=some (.int .i64 r)) wr:=by assumption
  have ab:Hid (Below w.heap.size w wr):=E.1;clear E Y aa
  go_wp2_with fail
  go_ret;rw[D.out];exact⟨rfl,ab.out⟩
 ·have t2:((r:Int) == 2)=true:=by simp at h2 ⊢;omega
  rw[h2]at D;clear h2;go_enter func246,ntmps246
  go_wp2_with fail
  have Y:(fun W=>Hid (Below w.heap.size w W)/\Hid (Rd W R b (.slice (some ⟨g,0,none⟩) n o) L k ru ne)/\W.cell? ⟨R,0,none⟩=some (.slice (some ⟨g,0,none⟩) n o)/\W.cell? ⟨R,1,none⟩=some (.int .i64 k)/\W.cell? ⟨g,K*7,none⟩=some (.int .i64 r)) w.drew:=⟨hid (Below.refl _ w).drew,y,y.out.cells.1,y.out.cells.2.1,A.out _ y.out⟩
  go_region_held3 (fun W=>Hid (Below w.heap.size w W)/\Hid (Rd W R b (.slice (some ⟨g,0,none⟩) n o) L k ru ne)/\W.cell? ⟨R,0,none⟩=some (.slice (some ⟨g,0,none⟩) n o)/\W.cell? ⟨R,1,none⟩=some (.int .i64 k)/\W.cell? ⟨g,K*7,none⟩=some (.int .i64 r)) (first|assumption|exact z1R A.out (by assumption) (by assumption)) (first|(go_at_call 98;refine(I.out _ ?hh).mono ?_;(case hh=>first|assumption|(have Z:(fun W=>Hid (Below w.heap.size w W)/\Hid (Rd W R b (.slice (some ⟨g,0,none⟩) n o) L k ru ne)/\W.cell? ⟨R,0,none⟩=some (.slice (some ⟨g,0,none⟩) n o)/\W.cell? ⟨R,1,none⟩=some (.int .i64 k)/\W.cell? ⟨g,K*7,none⟩=some (.int .i64 r)) _:=by assumption;exact Z.2.1.out));rintro e wr ⟨rfl,aa⟩;dsimp only[tkv]))
  have E:(fun W=>Hid (Below w.heap.size w W)/\Hid (Rd W R b (.slice (some ⟨g,0,none⟩) n o) L k ru ne)/\W.cell? ⟨R,0,none⟩=some (.slice (some ⟨g,0,none⟩) n o)/\W.cell? ⟨R,1,none⟩=some (.int .i64 k)/\W.cell? ⟨g,K*7,none⟩=some (.int .i64 r)) wr:=by assumption
  have ab:Hid (Below w.heap.size w wr):=E.1;clear E Y aa
  go_wp2_with fail
  go_ret;rw[D.out];exact⟨rfl,ab.out⟩
def rpK(T:ByteArray):Nat:=if T={data:=#[63]}then 8 else if T={data:=#[42]}then 9 else if T={data:=#[43]}then 10 else 0
theorem z9p(T:ByteArray)(w:World):Calls prog 271 #[.string T] w fun e w'=>e=.returned (.int .i64 (rpK T:Int))/\w'=w:=by
 unfold rpK;by_cases h1:T={data:=#[63]}
 ·rw[if_pos h1]
  subst h1;go_enter func271,ntmps271
  go_wp2_with fail
  go_ret;exact⟨rfl,rfl⟩
 ·rw[if_neg h1]
  have h:(T.toList == [63])=false:=Gv h1;by_cases h2:T={data:=#[42]}
  ·rw[if_pos h2]
   subst h2;clear h1;go_enter func271,ntmps271
   go_wp2_with fail
   go_ret;exact⟨rfl,rfl⟩
  ·rw[if_neg h2]
   have o:(T.toList == [42])=false:=Gv h2;by_cases h3:T={data:=#[43]}
   ·rw[if_pos h3]
    subst h3;clear h1 h2;go_enter func271,ntmps271
    go_wp2_with fail
    go_ret;exact⟨rfl,rfl⟩
   ·rw[if_neg h3]
    have r:(T.toList == [43])=false:=Gv h3;clear h1 h2 h3;go_enter func271,ntmps271
    go_wp2_with fail
    go_ret;exact⟨rfl,rfl⟩
def bgB(x:Nat):Bool:=x == 38||(x == 33||(x == 46||x == 40))
theorem z9q:∀x:Nat,x<256->decide (0<=Lib.indexByte [38,33,46,40] x.toUInt8)=bgB x:=by decide+kernel
theorem z9r(x:Nat)(hx:x<256)(w:World):(Instr.index 9 (.string (nb [x])) (.int .i64 0)).run prog w=.ok (.int .u8 x) w:=by
 have h:∀b:UInt8,(Instr.index 9 (.string {data:=#[b]}) (.int .i64 0)).run prog w=.ok (.int .u8 (b.toNat:Int)) w:=fun b=>by kernel_rfl
 have:=h (UInt8.ofNat x);simp at this;rw[show((x:Int)%256)=(x:Int) by omega]at this;exact this
theorem z9s(x:Nat)(hx:x<256)(w:World):
  Calls prog 247 #[.string {data:=#[38,33,46,40]},.string (nb [x])] w fun e w'=>e=.returned (.bool (bgB x))/\w'=w:=by
 have A:= @run_callFunc_extern prog 178 _ Extern.BytealgIndexByte.indexByte func178 (by kernel_rfl) (by kernel_rfl) (by kernel_rfl) (by kernel_rfl);have o:=Lib.run_indexByteString (P:=prog) {data:=#[38,33,46,40]} (x:Int);simp only[Int.toNat_natCast]at o;have r:=z9r x hx;have t:(nb [x]).size=1:=by rw[Vz];rfl
 have y:((nb [x]).toList == [38,33,46,40])=false:=by
  rw[ByteArray.toList_eq,beq_eq_false_iff_ne];intro e;have:=congrArg List.length e;simp[nb]at this
 have D:=z9q x hx;obtain⟨T,h⟩:∃T,T=nb [x]:=⟨_,rfl⟩;rw[<-h]at r t y ⊢;clear h;go_enter func247,ntmps247
 go_wp2
 go_ret;exact⟨rfl,rfl⟩
def ptB(L:List Tok)(k:Nat)(t:Tok):Bool:=if t.1=1 then !hdB L k else if t.1=3∨t.1=4 then true else if t.1=5 then(match bt t.2.1 0 with|some x=>bgB x|none=>false)else false
theorem z9t(x:Nat)(hx:x<256):bt (nb [x]) 0=some x:=by
 unfold bt;have h:0<(nb [x]).size:=by rw[Vz];exact Nat.one_pos
 rw[dif_pos h];show some (((nb [x]).data[0]'h).toNat)=_;simp[nb];omega
theorem z9u(R b:Nat)(v:Value)(L:List Tok)(k ru ne:Nat)(w:World)(h:Rd w R b v L k ru ne)(hk:k<L.length)(hK:(L[k]).1=1->k+1<L.length)(E:(L[k]).1=5->∃x,x<256/\(L[k]).2.1=nb [x])(hl:L.length<=10000):
  Calls prog 212 #[.pointer (some ⟨R,0,none⟩)] w fun e w'=>e=.returned (.bool (ptB L k L[k]))/\Below w.heap.size w w':=by
 have af:=Tryz.fld0;have U:Hid (∀w:World,Rd w R b v L k ru ne->Calls prog 98 #[.pointer (some ⟨R,0,none⟩)] w fun e w'=>e=.returned (tkv L[k])/\Below w.heap.size w w'):=fun w h=>Gb R b v L k ru ne w h hk hl
 have D:Hid (Rd w R b v L k ru ne):=h;have G:Hid ((L[k]).1=1->∀w:World,Rd w R b v L k ru ne->Calls prog 246 #[.pointer (some ⟨R,0,none⟩)] w fun e w'=>e=.returned (.bool (hdB L k))/\Below w.heap.size w w'):=fun y w h=>z1S R b v L k ru ne w h hk y (hK y) hl
 have I:Hid (∀w:World,Rd w R b v L k ru ne->Calls prog 180 #[.pointer (some ⟨R,0,none⟩)] w fun e w'=>e=.returned (.string (sgT L[k]))/\Below w.heap.size w w'):=fun w h=>Ph R b v L k ru ne w h hk hl
 obtain⟨t,ht⟩:∃t,t=L[k]:=⟨_,rfl⟩;rw[<-ht]at U G I E ⊢;clear ht h hk hK;obtain⟨kd,T,C,p⟩:=t;unfold ptB;simp only;by_cases y:kd=1
 ·rw[if_pos y]
  have ac:=hid (G.out y);obtain⟨B,hB⟩:∃B,B=hdB L k:=⟨_,rfl⟩;rw[<-hB]at ac ⊢;have t1:((kd:Int) == 1)=true:=by simp;omega
  clear y hB G E I;go_enter func212,ntmps212
  go_wp2_with fail
  refine(U.out w D.out).mono ?_;rintro e r ⟨rfl,o⟩;have A:Hid (Below w.heap.size w r):=o;have Y:Hid (Rd r R b v L k ru ne):=D.out.below o;clear o;dsimp only[tkv]
  go_wp2_with fail
  refine(ac.out r Y.out).mono ?_;rintro e w2 ⟨rfl,Z⟩;have aa:Hid (Below w.heap.size w w2):=A.out.trans (Z.mono A.out.size);clear Z
  go_wp2_with fail
  go_ret;exact⟨rfl,aa.out⟩
 rw[if_neg y];have t1:((kd:Int) == 1)=false:=by simp;omega
 by_cases h3:kd=3
 ·rw[if_pos (.inl h3)]
  have t3:((kd:Int) == 3)=true:=by simp;omega
  clear y h3 G E I;go_enter func212,ntmps212
  go_wp2_with fail
  refine(U.out w D.out).mono ?_;rintro e r ⟨rfl,o⟩;have A:Hid (Below w.heap.size w r):=o;have Y:Hid (Rd r R b v L k ru ne):=D.out.below o;clear o;dsimp only[tkv]
  go_wp2_with fail
  go_ret;exact⟨rfl,A.out⟩
 have t3:((kd:Int) == 3)=false:=by simp;omega
 by_cases h4:kd=4
 ·rw[if_pos (.inr h4)]
  have t4:((kd:Int) == 4)=true:=by simp;omega
  clear y h3 h4 G E I;go_enter func212,ntmps212
  go_wp2_with fail
  refine(U.out w D.out).mono ?_;rintro e r ⟨rfl,o⟩;have A:Hid (Below w.heap.size w r):=o;have Y:Hid (Rd r R b v L k ru ne):=D.out.below o;clear o;dsimp only[tkv]
  go_wp2_with fail
  go_ret;exact⟨rfl,A.out⟩
 rw[if_neg (by omega)];have t4:((kd:Int) == 4)=false:=by simp;omega
 by_cases h5:kd=5
 ·rw[if_pos h5]
  obtain⟨x,hx,hT⟩:=E h5;have ab:T=nb [x]:=hT;rw[ab,z9t x hx];have ad:Hid (∀w:World,Rd w R b v L k ru ne->Calls prog 180 #[.pointer (some ⟨R,0,none⟩)] w fun e w'=>e=.returned (.string (nb [x]))/\Below w.heap.size w w'):=fun w h=>by
   have:=I.out w h;unfold sgT at this;simp only[h5,if_true,ab]at this;exact this
  have HC:=hid (fun w=>z9s x hx w);obtain⟨V,hV⟩:∃V,V=nb [x]:=⟨_,rfl⟩;rw[<-hV]at ad HC;have t5:((kd:Int) == 5)=true:=by simp;omega
  clear y h3 h4 h5 G E I hT ab hV;go_enter func212,ntmps212
  go_wp2_with fail
  refine(U.out w D.out).mono ?_;rintro e r ⟨rfl,o⟩;have A:Hid (Below w.heap.size w r):=o;have Y:Hid (Rd r R b v L k ru ne):=D.out.below o;clear o;dsimp only[tkv]
  go_wp2_with fail
  refine(ad.out r Y.out).mono ?_;rintro e w2 ⟨rfl,Z⟩;have aa:Hid (Below w.heap.size w w2):=A.out.trans (Z.mono A.out.size);clear Z
  go_wp2_with fail
  refine(HC.out w2).mono ?_;rintro e w3 ⟨rfl,ae⟩;rw[ae];clear ae
  go_wp2_with fail
  go_ret;exact⟨rfl,aa.out⟩
 ·rw[if_neg h5]
  have t5:((kd:Int) == 5)=false:=by simp;omega
  clear y h3 h4 h5 G E I;go_enter func212,ntmps212
  go_wp2_with fail
  refine(U.out w D.out).mono ?_;rintro e r ⟨rfl,o⟩;have A:Hid (Below w.heap.size w r):=o;have Y:Hid (Rd r R b v L k ru ne):=D.out.below o;clear o;dsimp only[tkv]
  go_wp2_with fail
  go_ret;exact⟨rfl,A.out⟩
theorem Pd(kd p B:Nat)(n:Nd)(c:List Value)(w:World)(h:Qh w (fun g=>B<=g) n c)(A:B<=w.heap.size):
  Calls prog 248 #[.int .i64 kd,.agg c.toArray,.int .i64 p] w fun e w'=>∃o:List Value,e=.returned (.agg o.toArray)/\Hid (Qh w' (fun g=>B<=g) (.mk kd {data:=#[]} 0 [n] p) o)/\Hid (Below w.heap.size w w'):=by
 have y:Hid (Qh w (fun g=>B<=g) n c):=h;obtain⟨r,T,C,D,p'⟩:=n;rw[Qh]at h;obtain⟨sv,rfl,_⟩:=h;dsimp only[n8];go_enter func248,ntmps248
 go_wp2_with fail
 (try simp only[Exit.inBlock,Exit.then])
 refine bodyPost_ret (v:=.agg #[.int .i64 kd,.string ⟨#[]⟩,.int .u64 0,.int .u64 0,.int .u64 0,.int .u64 0,.slice (some ⟨w.heap.size+1+1,0,none⟩) 1 1,.int .i64 p]) (by simp[results,Tryz.results248,go_sem]) rfl ?_;have t:∀a b c:Obj,Below w.heap.size w (((w.alloc a).alloc b).alloc c):=fun a b c=>((B0q.alloc L0q _).alloc (by simp) _).alloc (by simp<;>omega) _
 refine⟨n8 kd {data:=#[]} 0 (.slice (some ⟨w.heap.size+1+1,0,none⟩) 1 1) p,by simp[Gz],hid ?_,hid (t _ _ _)⟩;rw[Qh];refine⟨_,rfl,.inr ⟨rfl,w.heap.size+1+1,1,(n8 r T C sv p').toArray,rfl,by omega,Qx _ _ (by simp),by unfold maxLen;omega,?_⟩⟩;rw[Qc];exact⟨n8 r T C sv p',[],by simp,y.out.below (t _ _ _),by rw[Qc];trivial⟩
theorem Qc.weak{w:World}{P Q:Nat->Prop}{l:List Nd}{c:List Value}(h:Qc w P l c)(o:∀g,P g->Q g):Qc w Q l c:=Qc.kept (fun g cur r _=>⟨rfl,o g r⟩) l c h
def Nd.at':Nd->Nat
 | .mk _ _ _ _ p=>p
def Vq(kd:Nat)(l:List Nd):Nd:=match l with
 |[n]=>n
 |n::r=>.mk kd {data:=#[]} 0 (n::r) n.at'
 |[]=>.mk kd {data:=#[]} 0 [] 0
theorem z9v(kd B g y:Nat)(n:Nd)(r:List Nd)(xs:List Value)(w:World)(V:w.ownsRow B 81 8 (.slice (some ⟨g,0,none⟩) (r.length+1) y) (r.length+1) xs)(Y:Qc w (fun g=>B<=g) (n::r) xs)(hB:B<=w.heap.size)(hr:r.length<=100000):
  Calls prog 181 #[.int .i64 kd,.slice (some ⟨g,0,none⟩) (r.length+1) y] w fun e w'=>∃cs:List Value,e=.returned (.agg cs.toArray)/\Hid (Qh w' (fun g=>B<=g) (Vq kd (n::r)) cs)/\Hid (Below w.heap.size w w'):=by
 have Z:Hid (w.ownsRow B 81 8 (.slice (some ⟨g,0,none⟩) (r.length+1) y) (r.length+1) xs):=V;have HN:Hid (Qc w (fun g=>B<=g) (n::r) xs):=Y;have hg:=V.lt g rfl;rw[Qc]at Y;obtain⟨c,rest,rfl,U,h2⟩:=Y;have H1:Hid (Qh w (fun g=>B<=g) n c):=U;have ae:=U.len;obtain⟨t,T,C,G,p'⟩:=n;rw[Qh]at U;obtain⟨sv,rfl,aa⟩:=U;obtain⟨A,D,E,rfl⟩:∃A D E,sv=.slice A D E:=by
  rcases aa with⟨_,h⟩|⟨_,g1,c1,_,h,_⟩
  ·exact⟨_,_,_,h⟩
  ·exact⟨_,_,_,h⟩
 clear aa;have e:∀j u,(n8 t T C (.slice A D E) p')[j]? =some u->w.cell? ⟨g,j,none⟩=some u:=fun j u hj=>by
  have ab:j<(n8 t T C (.slice A D E) p').length:=by
   rcases Nat.lt_or_ge j (n8 t T C (.slice A D E) p').length with h|h
   ·exact h
   ·rw[List.getElem?_eq_none h]at hj;cases hj
  have af:j<8:=ab;rw[Z.out.cellAt j (by omega),List.getElem?_append_left ab];exact hj
 have e0:=e 0 _ rfl;have e1:=e 1 _ rfl;have e2:=e 2 _ rfl;have e3:=e 3 _ rfl;have e4:=e 4 _ rfl;have e5:=e 5 _ rfl;have e6:=e 6 _ rfl;have e7:=e 7 _ rfl;clear e h2 V;obtain⟨m,hm⟩:∃m,m=r.length:=⟨_,rfl⟩;have HM:Hid (m=r.length):=hm;rw[<-hm]at Z hr ⊢;clear hm;by_cases hm0:m=0
 ·have ac:r=[]:=List.eq_nil_of_length_eq_zero (by rw[<-HM.out];exact hm0)
  have HJ:Hid (Vq kd (.mk t T C G p'::r)=.mk t T C G p'):=by show _=_;rw[ac];rfl
  clear ac;subst hm0;go_enter func181,ntmps181
  go_wp2_with fail
  (try simp only[Exit.inBlock,Exit.then])
  refine bodyPost_ret (v:=.agg (n8 t T C (.slice A D E) p').toArray) (by simp[results,Tryz.results181,go_sem]) rfl ?_;have I:∀o:Obj,Below w.heap.size w (w.alloc o):=fun o=>B0q.alloc L0q _
  exact⟨_,rfl,hid (by rw[HJ.out];exact H1.out.below (I _)),hid (I _)⟩
 ·have t1:((m:Int)+1 == 1)=false:=by simp;omega
  have HJ:Hid (Vq kd (.mk t T C G p'::r)=.mk kd {data:=#[]} 0 (.mk t T C G p'::r) p'):=by
   show _=_;cases r with
   |nil=>exact absurd HM.out hm0
   |cons a b=>rfl
  go_enter func181,ntmps181
  go_wp2_with fail
  (try simp only[Exit.inBlock,Exit.then])
  refine bodyPost_ret (v:=.agg #[.int .i64 kd,.string ⟨#[]⟩,.int .u64 0,.int .u64 0,.int .u64 0,.int .u64 0,.slice (some ⟨g,0,none⟩) (m+1) y,.int .i64 p']) (by simp[results,Tryz.results181,go_sem]) rfl ?_;have I:∀o:Obj,Below w.heap.size w (w.alloc o):=fun o=>B0q.alloc L0q _
  refine⟨n8 kd {data:=#[]} 0 (.slice (some ⟨g,0,none⟩) (m+1) y) p',by simp[Gz],hid ?_,hid (I _)⟩;rw[HJ.out,Qh];obtain⟨_,⟨hq,_⟩|⟨g',ag,cur,hq,_,hh,_,hc,_,ht⟩⟩:=Z.out
  ·cases hq
  ·cases hq
   refine⟨_,rfl,.inr ⟨rfl,g,y,cur,by rw[Km,HM.out];rfl,hg.1,(Below.heap_alloc w _ g hg.2).trans hh,hc,?_⟩⟩;have hx:Qc w (fun g=>B<=g) (.mk t T C G p'::r) cur.toList:=by
    rw[<-List.take_append_drop ((m+1)*8) cur.toList,ht];exact Qc.more _ _ _ HN.out
   exact Qc.kept (fun g2 ah hp ad=>⟨(I _).block g2 (by
    rcases Nat.lt_or_ge g2 w.heap.size with h|h
    ·exact h
    ·rw[Array.getElem?_eq_none h]at ad;cases ad),hp⟩) _ _ hx
end Go.Proofs.YtgnkkgcgbeianaaGreatDoor
