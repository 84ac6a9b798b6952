/- Lemmas for the last text. Conditions: those that each names. -/
import Derived.Test.YtlogolpcipiceaaGreatDoorVX10ToY2
import Derived.Deep.RegionHeld3
import Derived.Laws.Strings
import Derived.WideShapes
set_option linter.unusedVariables false
set_option maxRecDepth 100000
set_option maxHeartbeats 8000000
namespace Go.Proofs.YtlogolpcipiceaaGreatDoor
open Go.Proofs.Tryz
open Go.RowKit
def hdB(L:List Tok)(k:Nat):Bool:=match L[k]?,L[k+1]? with
 |some t,some u=>t.1 == 1&&u.1 == 2
 |_,_=>false
theorem Jw{a:ByteArray}{l:List UInt8}(h:¬a={data:=⟨l⟩}):(a.toList == l)=false:=by
 rw[ByteArray.toList_eq,beq_eq_false_iff_ne];exact fun e=>h (WideShapes.bytes_inj e)
theorem z0r{w W w':World}{R b:Nat}{v:Value}{L:List Tok}{k ru ne g K kd2:Nat}(hc:∀w':World,Rd w' R b v L k ru ne->w'.cell? ⟨g,K*7,none⟩=some (.int .i64 kd2))(hb:Below W.heap.size W w')
  (h:Hid (Below w.heap.size w W)/\Hid (Rd W R b v L k ru ne)/\W.cell? ⟨R,0,none⟩=some v/\W.cell? ⟨R,1,none⟩=some (.int .i64 k)/\W.cell? ⟨g,K*7,none⟩=some (.int .i64 kd2)):
  Hid (Below w.heap.size w w')/\Hid (Rd w' R b v L k ru ne)/\w'.cell? ⟨R,0,none⟩=some v/\w'.cell? ⟨R,1,none⟩=some (.int .i64 k)/\w'.cell? ⟨g,K*7,none⟩=some (.int .i64 kd2):=
 have h2:=h.2.1.out.below hb
 ⟨hid (h.1.out.trans (hb.mono h.1.out.size)),hid h2,h2.cells.1,h2.cells.2.1,hc w' h2⟩
theorem z0s(R b:Nat)(v:Value)(L:List Tok)(k ru ne:Nat)(w:World)(h:Rd w R b v L k ru ne)(hk:k<L.length)(h1:(L[k]).1=1)(hK:k+1<L.length)(hl:L.length<=10000):
  Calls prog 263 #[.pointer (some ⟨R,0,none⟩)] w fun e w'=>e=.returned (.bool (hdB L k))/\Below w.heap.size w w':=by
 have fd0:=Tryz.fld0;have HT:Hid (∀w:World,Rd w R b v L k ru ne->Calls prog 132 #[.pointer (some ⟨R,0,none⟩)] w fun e w'=>e=.returned (tkv L[k])/\Below w.heap.size w w'):=fun w h=>Jp R b v L k ru ne w h hk hl
 have HR:Hid (Rd w R b v L k ru ne):=h;have HF:Hid (hdB L k=((L[k+1]).1 == 2)):=by
  show _=_;unfold hdB;rw[List.getElem?_eq_getElem hk,List.getElem?_eq_getElem hK];simp[h1]
 obtain⟨g,cap,rfl⟩:=Jk h.2 (by omega);have hcap:=z0o h.2;have HC2:Hid (∀w':World,Rd w' R b (.slice (some ⟨g,0,none⟩) L.length cap) L k ru ne->w'.cell? ⟨g,(k+1)*7,none⟩=some (.int .i64 ((L[k+1]).1:Int))):=fun w' h'=>(z0n h'.2 (k+1) hK rfl).1
 obtain⟨kd2,hkd2⟩:∃q,q=(L[k+1]).1:=⟨_,rfl⟩;rw[<-hkd2]at HC2 HF;obtain⟨K,hKd⟩:∃K,K=k+1:=⟨_,rfl⟩;rw[<-hKd]at HC2;obtain⟨t,ht⟩:∃t,t=L[k]:=⟨_,rfl⟩;rw[<-ht]at HT h1;have hKI:(k:Int)+1=(K:Int):=by omega
 have hwK:IntKind.i64.wrap (K:Int)=(K:Int):=by rw[IntKind.wrap_i64];omega
 have hKl:(K:Int)<(L.length:Int):=by omega
 obtain⟨n,hn⟩:∃n,n=L.length:=⟨_,rfl⟩;have HRd:=hid (HR.out.below (Below.refl _ w).drew);rw[<-hn]at HT HR HC2 hKl hl HRd;clear h hk hK hkd2 ht hn hKd;obtain⟨kd,T,C,p⟩:=t;have h1':kd=1:=h1;have t1:((kd:Int) == 1)=true:=by simp;omega
 clear h1 h1';cases h2:(kd2 == 2)
 ·have t2:((kd2:Int) == 2)=false:=by simp at h2 ⊢;omega
  rw[h2]at HF;clear h2;go_enter func263,ntmps263
  go_wp2_with fail
  have S1:(fun W=>Hid (Below w.heap.size w W)/\Hid (Rd W R b (.slice (some ⟨g,0,none⟩) n cap) L k ru ne)/\W.cell? ⟨R,0,none⟩=some (.slice (some ⟨g,0,none⟩) n cap)/\W.cell? ⟨R,1,none⟩=some (.int .i64 k)/\W.cell? ⟨g,K*7,none⟩=some (.int .i64 kd2)) w.drew:=⟨hid (Below.refl _ w).drew,HRd,HRd.out.cells.1,HRd.out.cells.2.1,HC2.out _ HRd.out⟩
  go_region_held3 (fun W=>Hid (Below w.heap.size w W)/\Hid (Rd W R b (.slice (some ⟨g,0,none⟩) n cap) L k ru ne)/\W.cell? ⟨R,0,none⟩=some (.slice (some ⟨g,0,none⟩) n cap)/\W.cell? ⟨R,1,none⟩=some (.int .i64 k)/\W.cell? ⟨g,K*7,none⟩=some (.int .i64 kd2)) (first|assumption|exact z0r HC2.out (by assumption) (by assumption)) (first|(go_at_call 132;refine(HT.out _ ?hh).mono ?_;(case hh=>first|assumption|(have S2:(fun W=>Hid (Below w.heap.size w W)/\Hid (Rd W R b (.slice (some ⟨g,0,none⟩) n cap) L k ru ne)/\W.cell? ⟨R,0,none⟩=some (.slice (some ⟨g,0,none⟩) n cap)/\W.cell? ⟨R,1,none⟩=some (.int .i64 k)/\W.cell? ⟨g,K*7,none⟩=some (.int .i64 kd2)) _:=by assumption;exact S2.2.1.out));rintro e wr ⟨rfl,hbr⟩;dsimp only[tkv]))
  have S3:(fun W=>Hid (Below w.heap.size w W)/\Hid (Rd W R b (.slice (some ⟨g,0,none⟩) n cap) L k ru ne)/\W.cell? ⟨R,0,none⟩=some (.slice (some ⟨g,0,none⟩) n cap)/\W.cell? ⟨R,1,none⟩=some (.int .i64 k)/\W.cell? ⟨g,K*7,none⟩=some (.int .i64 kd2)) wr:=by assumption
  have HB3:Hid (Below w.heap.size w wr):=S3.1;clear S3 S1 hbr
  go_wp2_with fail
  go_ret;rw[HF.out];exact⟨rfl,HB3.out⟩
 ·have t2:((kd2:Int) == 2)=true:=by simp at h2 ⊢;omega
  rw[h2]at HF;clear h2;go_enter func263,ntmps263
  go_wp2_with fail
  have S1:(fun W=>Hid (Below w.heap.size w W)/\Hid (Rd W R b (.slice (some ⟨g,0,none⟩) n cap) L k ru ne)/\W.cell? ⟨R,0,none⟩=some (.slice (some ⟨g,0,none⟩) n cap)/\W.cell? ⟨R,1,none⟩=some (.int .i64 k)/\W.cell? ⟨g,K*7,none⟩=some (.int .i64 kd2)) w.drew:=⟨hid (Below.refl _ w).drew,HRd,HRd.out.cells.1,HRd.out.cells.2.1,HC2.out _ HRd.out⟩
  go_region_held3 (fun W=>Hid (Below w.heap.size w W)/\Hid (Rd W R b (.slice (some ⟨g,0,none⟩) n cap) L k ru ne)/\W.cell? ⟨R,0,none⟩=some (.slice (some ⟨g,0,none⟩) n cap)/\W.cell? ⟨R,1,none⟩=some (.int .i64 k)/\W.cell? ⟨g,K*7,none⟩=some (.int .i64 kd2)) (first|assumption|exact z0r HC2.out (by assumption) (by assumption)) (first|(go_at_call 132;refine(HT.out _ ?hh).mono ?_;(case hh=>first|assumption|(have S2:(fun W=>Hid (Below w.heap.size w W)/\Hid (Rd W R b (.slice (some ⟨g,0,none⟩) n cap) L k ru ne)/\W.cell? ⟨R,0,none⟩=some (.slice (some ⟨g,0,none⟩) n cap)/\W.cell? ⟨R,1,none⟩=some (.int .i64 k)/\W.cell? ⟨g,K*7,none⟩=some (.int .i64 kd2)) _:=by assumption;exact S2.2.1.out));rintro e wr ⟨rfl,hbr⟩;dsimp only[tkv]))
  have S3:(fun W=>Hid (Below w.heap.size w W)/\Hid (Rd W R b (.slice (some ⟨g,0,none⟩) n cap) L k ru ne)/\W.cell? ⟨R,0,none⟩=some (.slice (some ⟨g,0,none⟩) n cap)/\W.cell? ⟨R,1,none⟩=some (.int .i64 k)/\W.cell? ⟨g,K*7,none⟩=some (.int .i64 kd2)) wr:=by assumption
  have HB3:Hid (Below w.heap.size w wr):=S3.1;clear S3 S1 hbr
  go_wp2_with fail
  go_ret;rw[HF.out];exact⟨rfl,HB3.out⟩
def rpK(T:ByteArray):Nat:=if T={data:=#[63]}then 8 else if T={data:=#[42]}then 9 else if T={data:=#[43]}then 10 else 0
theorem z6m(T:ByteArray)(w:World):Calls prog 283 #[.string T] w fun e w'=>e=.returned (.int .i64 (rpK T:Int))/\w'=w:=by
 unfold rpK;by_cases h1:T={data:=#[63]}
 ·rw[if_pos h1]
  subst h1;go_enter func283,ntmps283
  go_wp2_with fail
  go_ret;exact⟨rfl,rfl⟩
 ·rw[if_neg h1]
  have e1:(T.toList == [63])=false:=Jw h1;by_cases h2:T={data:=#[42]}
  ·rw[if_pos h2]
   subst h2;clear h1;go_enter func283,ntmps283
   go_wp2_with fail
   go_ret;exact⟨rfl,rfl⟩
  ·rw[if_neg h2]
   have e2:(T.toList == [42])=false:=Jw h2;by_cases h3:T={data:=#[43]}
   ·rw[if_pos h3]
    subst h3;clear h1 h2;go_enter func283,ntmps283
    go_wp2_with fail
    go_ret;exact⟨rfl,rfl⟩
   ·rw[if_neg h3]
    have e3:(T.toList == [43])=false:=Jw h3;clear h1 h2 h3;go_enter func283,ntmps283
    go_wp2_with fail
    go_ret;exact⟨rfl,rfl⟩
def bgB(x:Nat):Bool:=x == 38||(x == 33||(x == 46||x == 40))
theorem z6n:∀x:Nat,x<256->decide (0<=Lib.indexByte [38,33,46,40] x.toUInt8)=bgB x:=by decide+kernel
theorem z6o(x:Nat)(hx:x<256)(w:World):(Instr.index 9 (.string (nb [x])) (.int .i64 0)).run prog w=.ok (.int .u8 x) w:=by
 have h:∀b:UInt8,(Instr.index 9 (.string {data:=#[b]}) (.int .i64 0)).run prog w=.ok (.int .u8 (b.toNat:Int)) w:=fun b=>by kernel_rfl
 have:=h (UInt8.ofNat x);simp at this;rw[show((x:Int)%256)=(x:Int) by omega]at this;exact this
theorem z6p(x:Nat)(hx:x<256)(w:World):
  Calls prog 264 #[.string {data:=#[38,33,46,40]},.string (nb [x])] w fun e w'=>e=.returned (.bool (bgB x))/\w'=w:=by
 have hIB:= @run_callFunc_extern prog 195 _ Extern.BytealgIndexByte.indexByte func195 (by kernel_rfl) (by kernel_rfl) (by kernel_rfl) (by kernel_rfl);have hR:=Lib.run_indexByteString (P:=prog) {data:=#[38,33,46,40]} (x:Int);simp only[Int.toNat_natCast]at hR;have hix:=z6o x hx;have hsz:(nb [x]).size=1:=by rw[Yc];rfl
 have hne:((nb [x]).toList == [38,33,46,40])=false:=by
  rw[ByteArray.toList_eq,beq_eq_false_iff_ne];intro e;have:=congrArg List.length e;simp[nb]at this
 have hbg:=z6n x hx;obtain⟨T,hT⟩:∃T,T=nb [x]:=⟨_,rfl⟩;rw[<-hT]at hix hsz hne ⊢;clear hT;go_enter func264,ntmps264
 go_wp2
 go_ret;exact⟨rfl,rfl⟩
def ptB(L:List Tok)(k:Nat)(t:Tok):Bool:=if t.1=1 then !hdB L k else if t.1=3∨t.1=4 then true else if t.1=5 then(match bt t.2.1 0 with|some x=>bgB x|none=>false)else false
theorem z6q(x:Nat)(hx:x<256):bt (nb [x]) 0=some x:=by
 unfold bt;have hi:0<(nb [x]).size:=by rw[Yc];exact Nat.one_pos
 rw[dif_pos hi];show some (((nb [x]).data[0]'hi).toNat)=_;simp[nb];omega
theorem z6r(R b:Nat)(v:Value)(L:List Tok)(k ru ne:Nat)(w:World)(h:Rd w R b v L k ru ne)(hk:k<L.length)(hK:(L[k]).1=1->k+1<L.length)(hs:(L[k]).1=5->∃x,x<256/\(L[k]).2.1=nb [x])(hl:L.length<=10000):
  Calls prog 231 #[.pointer (some ⟨R,0,none⟩)] w fun e w'=>e=.returned (.bool (ptB L k L[k]))/\Below w.heap.size w w':=by
 have fd0:=Tryz.fld0;have HT:Hid (∀w:World,Rd w R b v L k ru ne->Calls prog 132 #[.pointer (some ⟨R,0,none⟩)] w fun e w'=>e=.returned (tkv L[k])/\Below w.heap.size w w'):=fun w h=>Jp R b v L k ru ne w h hk hl
 have HR:Hid (Rd w R b v L k ru ne):=h;have HH:Hid ((L[k]).1=1->∀w:World,Rd w R b v L k ru ne->Calls prog 263 #[.pointer (some ⟨R,0,none⟩)] w fun e w'=>e=.returned (.bool (hdB L k))/\Below w.heap.size w w'):=fun h1 w h=>z0s R b v L k ru ne w h hk h1 (hK h1) hl
 have HS:Hid (∀w:World,Rd w R b v L k ru ne->Calls prog 197 #[.pointer (some ⟨R,0,none⟩)] w fun e w'=>e=.returned (.string (sgT L[k]))/\Below w.heap.size w w'):=fun w h=>Ih R b v L k ru ne w h hk hl
 obtain⟨t,ht⟩:∃t,t=L[k]:=⟨_,rfl⟩;rw[<-ht]at HT HH HS hs ⊢;clear ht h hk hK;obtain⟨kd,T,C,p⟩:=t;unfold ptB;simp only;by_cases h1:kd=1
 ·rw[if_pos h1]
  have HH2:=hid (HH.out h1);obtain⟨B,hB⟩:∃B,B=hdB L k:=⟨_,rfl⟩;rw[<-hB]at HH2 ⊢;have t1:((kd:Int) == 1)=true:=by simp;omega
  clear h1 hB HH hs HS;go_enter func231,ntmps231
  go_wp2_with fail
  refine(HT.out w HR.out).mono ?_;rintro e w1 ⟨rfl,hb1⟩;have HB1:Hid (Below w.heap.size w w1):=hb1;have HR1:Hid (Rd w1 R b v L k ru ne):=HR.out.below hb1;clear hb1;dsimp only[tkv]
  go_wp2_with fail
  refine(HH2.out w1 HR1.out).mono ?_;rintro e w2 ⟨rfl,hb2⟩;have HB2:Hid (Below w.heap.size w w2):=HB1.out.trans (hb2.mono HB1.out.size);clear hb2
  go_wp2_with fail
  go_ret;exact⟨rfl,HB2.out⟩
 rw[if_neg h1];have t1:((kd:Int) == 1)=false:=by simp;omega
 by_cases h3:kd=3
 ·rw[if_pos (.inl h3)]
  have t3:((kd:Int) == 3)=true:=by simp;omega
  clear h1 h3 HH hs HS;go_enter func231,ntmps231
  go_wp2_with fail
  refine(HT.out w HR.out).mono ?_;rintro e w1 ⟨rfl,hb1⟩;have HB1:Hid (Below w.heap.size w w1):=hb1;have HR1:Hid (Rd w1 R b v L k ru ne):=HR.out.below hb1;clear hb1;dsimp only[tkv]
  go_wp2_with fail
  go_ret;exact⟨rfl,HB1.out⟩
 have t3:((kd:Int) == 3)=false:=by simp;omega
 by_cases h4:kd=4
 ·rw[if_pos (.inr h4)]
  have t4:((kd:Int) == 4)=true:=by simp;omega
  clear h1 h3 h4 HH hs HS;go_enter func231,ntmps231
  go_wp2_with fail
  refine(HT.out w HR.out).mono ?_;rintro e w1 ⟨rfl,hb1⟩;have HB1:Hid (Below w.heap.size w w1):=hb1;have HR1:Hid (Rd w1 R b v L k ru ne):=HR.out.below hb1;clear hb1;dsimp only[tkv]
  go_wp2_with fail
  go_ret;exact⟨rfl,HB1.out⟩
 rw[if_neg (by omega)];have t4:((kd:Int) == 4)=false:=by simp;omega
 by_cases h5:kd=5
 ·rw[if_pos h5]
  obtain⟨x,hx,hT⟩:=hs h5;have hT':T=nb [x]:=hT;rw[hT',z6q x hx];have HSg:Hid (∀w:World,Rd w R b v L k ru ne->Calls prog 197 #[.pointer (some ⟨R,0,none⟩)] w fun e w'=>e=.returned (.string (nb [x]))/\Below w.heap.size w w'):=fun w h=>by
   have:=HS.out w h;unfold sgT at this;simp only[h5,if_true,hT']at this;exact this
  have HC:=hid (fun w=>z6p x hx w);obtain⟨V,hV⟩:∃V,V=nb [x]:=⟨_,rfl⟩;rw[<-hV]at HSg HC;have t5:((kd:Int) == 5)=true:=by simp;omega
  clear h1 h3 h4 h5 HH hs HS hT hT' hV;go_enter func231,ntmps231
  go_wp2_with fail
  refine(HT.out w HR.out).mono ?_;rintro e w1 ⟨rfl,hb1⟩;have HB1:Hid (Below w.heap.size w w1):=hb1;have HR1:Hid (Rd w1 R b v L k ru ne):=HR.out.below hb1;clear hb1;dsimp only[tkv]
  go_wp2_with fail
  refine(HSg.out w1 HR1.out).mono ?_;rintro e w2 ⟨rfl,hb2⟩;have HB2:Hid (Below w.heap.size w w2):=HB1.out.trans (hb2.mono HB1.out.size);clear hb2
  go_wp2_with fail
  refine(HC.out w2).mono ?_;rintro e w3 ⟨rfl,hw3⟩;rw[hw3];clear hw3
  go_wp2_with fail
  go_ret;exact⟨rfl,HB2.out⟩
 ·rw[if_neg h5]
  have t5:((kd:Int) == 5)=false:=by simp;omega
  clear h1 h3 h4 h5 HH hs HS;go_enter func231,ntmps231
  go_wp2_with fail
  refine(HT.out w HR.out).mono ?_;rintro e w1 ⟨rfl,hb1⟩;have HB1:Hid (Below w.heap.size w w1):=hb1;have HR1:Hid (Rd w1 R b v L k ru ne):=HR.out.below hb1;clear hb1;dsimp only[tkv]
  go_wp2_with fail
  go_ret;exact⟨rfl,HB1.out⟩
theorem Id(kd p B:Nat)(n:Nd)(c:List Value)(w:World)(hn:Qy w (fun g=>B<=g) n c)(hB:B<=w.heap.size):
  Calls prog 265 #[.int .i64 kd,.agg c.toArray,.int .i64 p] w fun e w'=>∃cs:List Value,e=.returned (.agg cs.toArray)/\Hid (Qy w' (fun g=>B<=g) (.mk kd {data:=#[]} 0 [n] p) cs)/\Hid (Below w.heap.size w w'):=by
 have HN:Hid (Qy w (fun g=>B<=g) n c):=hn;obtain⟨kd',T,C,subs,p'⟩:=n;rw[Qy]at hn;obtain⟨sv,rfl,_⟩:=hn;dsimp only[n8];go_enter func265,ntmps265
 go_wp2_with fail
 (try simp only[Exit.inBlock,Exit.then])
 refine bodyPost_ret (v:=.agg #[.int .i64 kd,.string ⟨#[]⟩,.int .u64 0,.int .u64 0,.int .u64 0,.int .u64 0,.slice (some ⟨w.heap.size+1+1,0,none⟩) 1 1,.int .i64 p]) (by simp[results,Tryz.results265,go_sem]) rfl ?_;have h3:∀a b c:Obj,Below w.heap.size w (((w.alloc a).alloc b).alloc c):=fun a b c=>((B0q.alloc L0q _).alloc (by simp) _).alloc (by simp<;>omega) _
 refine⟨n8 kd {data:=#[]} 0 (.slice (some ⟨w.heap.size+1+1,0,none⟩) 1 1) p,by simp[Jq],hid ?_,hid (h3 _ _ _)⟩;rw[Qy];refine⟨_,rfl,.inr ⟨rfl,w.heap.size+1+1,1,(n8 kd' T C sv p').toArray,rfl,by omega,Qx _ _ (by simp),by unfold maxLen;omega,?_⟩⟩;rw[Qm];exact⟨n8 kd' T C sv p',[],by simp,HN.out.below (h3 _ _ _),by rw[Qm];trivial⟩
theorem Qm.weak{w:World}{P Q:Nat->Prop}{l:List Nd}{c:List Value}(h:Qm w P l c)(hpq:∀g,P g->Q g):Qm w Q l c:=Qm.kept (fun g cur hp _=>⟨rfl,hpq g hp⟩) l c h
def Nd.at':Nd->Nat
 | .mk _ _ _ _ p=>p
def Yy(kd:Nat)(l:List Nd):Nd:=match l with
 |[n]=>n
 |n::r=>.mk kd {data:=#[]} 0 (n::r) n.at'
 |[]=>.mk kd {data:=#[]} 0 [] 0
theorem z6s(kd B g cap:Nat)(n:Nd)(r:List Nd)(xs:List Value)(w:World)(ho:w.ownsRow B 71 8 (.slice (some ⟨g,0,none⟩) (r.length+1) cap) (r.length+1) xs)(hn:Qm w (fun g=>B<=g) (n::r) xs)(hB:B<=w.heap.size)(hr:r.length<=100000):
  Calls prog 198 #[.int .i64 kd,.slice (some ⟨g,0,none⟩) (r.length+1) cap] w fun e w'=>∃cs:List Value,e=.returned (.agg cs.toArray)/\Hid (Qy w' (fun g=>B<=g) (Yy kd (n::r)) cs)/\Hid (Below w.heap.size w w'):=by
 have HO:Hid (w.ownsRow B 71 8 (.slice (some ⟨g,0,none⟩) (r.length+1) cap) (r.length+1) xs):=ho;have HN:Hid (Qm w (fun g=>B<=g) (n::r) xs):=hn;have hg:=ho.lt g rfl;rw[Qm]at hn;obtain⟨c,rest,rfl,h1,h2⟩:=hn;have H1:Hid (Qy w (fun g=>B<=g) n c):=h1;have hc8:=h1.len;obtain⟨kd',T,C,subs,p'⟩:=n;rw[Qy]at h1;obtain⟨sv,rfl,hsv⟩:=h1;obtain⟨so,sl,sc,rfl⟩:∃so sl sc,sv=.slice so sl sc:=by
  rcases hsv with⟨_,h⟩|⟨_,g1,c1,_,h,_⟩
  ·exact⟨_,_,_,h⟩
  ·exact⟨_,_,_,h⟩
 clear hsv;have e:∀j u,(n8 kd' T C (.slice so sl sc) p')[j]? =some u->w.cell? ⟨g,j,none⟩=some u:=fun j u hj=>by
  have hjl:j<(n8 kd' T C (.slice so sl sc) p').length:=by
   rcases Nat.lt_or_ge j (n8 kd' T C (.slice so sl sc) p').length with h|h
   ·exact h
   ·rw[List.getElem?_eq_none h]at hj;cases hj
  have hjl2:j<8:=hjl;rw[HO.out.cellAt j (by omega),List.getElem?_append_left hjl];exact hj
 have e0:=e 0 _ rfl;have e1:=e 1 _ rfl;have e2:=e 2 _ rfl;have e3:=e 3 _ rfl;have e4:=e 4 _ rfl;have e5:=e 5 _ rfl;have e6:=e 6 _ rfl;have e7:=e 7 _ rfl;clear e h2 ho;obtain⟨m,hm⟩:∃m,m=r.length:=⟨_,rfl⟩;have HM:Hid (m=r.length):=hm;rw[<-hm]at HO hr ⊢;clear hm;by_cases hm0:m=0
 ·have hr0:r=[]:=List.eq_nil_of_length_eq_zero (by rw[<-HM.out];exact hm0)
  have HJ:Hid (Yy kd (.mk kd' T C subs p'::r)=.mk kd' T C subs p'):=by show _=_;rw[hr0];rfl
  clear hr0;subst hm0;go_enter func198,ntmps198
  go_wp2_with fail
  (try simp only[Exit.inBlock,Exit.then])
  refine bodyPost_ret (v:=.agg (n8 kd' T C (.slice so sl sc) p').toArray) (by simp[results,Tryz.results198,go_sem]) rfl ?_;have hb:∀o:Obj,Below w.heap.size w (w.alloc o):=fun o=>B0q.alloc L0q _
  exact⟨_,rfl,hid (by rw[HJ.out];exact H1.out.below (hb _)),hid (hb _)⟩
 ·have t1:((m:Int)+1 == 1)=false:=by simp;omega
  have HJ:Hid (Yy kd (.mk kd' T C subs p'::r)=.mk kd {data:=#[]} 0 (.mk kd' T C subs p'::r) p'):=by
   show _=_;cases r with
   |nil=>exact absurd HM.out hm0
   |cons a b=>rfl
  go_enter func198,ntmps198
  go_wp2_with fail
  (try simp only[Exit.inBlock,Exit.then])
  refine bodyPost_ret (v:=.agg #[.int .i64 kd,.string ⟨#[]⟩,.int .u64 0,.int .u64 0,.int .u64 0,.int .u64 0,.slice (some ⟨g,0,none⟩) (m+1) cap,.int .i64 p']) (by simp[results,Tryz.results198,go_sem]) rfl ?_;have hb:∀o:Obj,Below w.heap.size w (w.alloc o):=fun o=>B0q.alloc L0q _
  refine⟨n8 kd {data:=#[]} 0 (.slice (some ⟨g,0,none⟩) (m+1) cap) p',by simp[Jq],hid ?_,hid (hb _)⟩;rw[HJ.out,Qy];obtain⟨_,⟨hq,_⟩|⟨g',cap',cur,hq,_,hh,_,hc,_,ht⟩⟩:=HO.out
  ·cases hq
  ·cases hq
   refine⟨_,rfl,.inr ⟨rfl,g,cap,cur,by rw[Dh,HM.out];rfl,hg.1,(Below.heap_alloc w _ g hg.2).trans hh,hc,?_⟩⟩;have hx:Qm w (fun g=>B<=g) (.mk kd' T C subs p'::r) cur.toList:=by
    rw[<-List.take_append_drop ((m+1)*8) cur.toList,ht];exact Qm.more _ _ _ HN.out
   exact Qm.kept (fun g2 cur2 hp hg2=>⟨(hb _).block g2 (by
    rcases Nat.lt_or_ge g2 w.heap.size with h|h
    ·exact h
    ·rw[Array.getElem?_eq_none h]at hg2;cases hg2),hp⟩) _ _ hx
end Go.Proofs.YtlogolpcipiceaaGreatDoor
