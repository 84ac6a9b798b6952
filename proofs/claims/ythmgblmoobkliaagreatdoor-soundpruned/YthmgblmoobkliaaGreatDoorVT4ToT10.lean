/- Lemmas for the last text. Conditions: those that each names. -/
import Derived.Test.YthmgblmoobkliaaGreatDoorVO6ToS3
set_option linter.unusedVariables false
set_option maxRecDepth 100000
set_option maxHeartbeats 8000000
namespace Go.Proofs.YthmgblmoobkliaaGreatDoor
open Go.Proofs.Tryz
section
open Go.RowKit Go.Shelf
def rkF(us:List (List Int)):Nat->Nat->Nat
 |0,_=>0
 |f+1,i=>(us.getD i []).foldl (fun o x=>max o (rkF us f x.toNat+1)) 0
def Acy(us:List (List Int)):Prop:=∀i j:Nat,(j:Int)∈us.getD i []->¬Rch us j i
theorem Wl{g:Int->Nat}:∀(l:List Int) (o:Nat),o<=l.foldl (fun o x=>max o (g x)) o/\∀x∈l,g x<=l.foldl (fun o x=>max o (g x)) o
 |[],o=>⟨Nat.le_refl _,fun x hx=>by simp at hx⟩
 |a::r,o=>by
  have h:=Wl (g:=g) r (max o (g a));rw[List.foldl_cons];refine⟨by omega,fun x hx=> ?_⟩;rcases List.mem_cons.1 hx with rfl|hx
  ·omega
  ·exact h.2 x hx
theorem z0a{g:Int->Nat}:∀(l:List Int) (o:Nat),l.foldl (fun o x=>max o (g x)) o=o∨∃x∈l,l.foldl (fun o x=>max o (g x)) o=g x
 |[],o=>.inl rfl
 |a::r,o=>by
  rw[List.foldl_cons];rcases z0a (g:=g) r (max o (g a))with h|⟨x,hx,h⟩
  ·rcases Nat.le_total o (g a)with h1|h1
   ·exact .inr ⟨a,by simp,by rw[h];omega⟩
   ·exact .inl (by rw[h];omega)
  ·exact .inr ⟨x,by simp[hx],h⟩
theorem z5C{g h:Int->Nat}:∀(l:List Int) (o:Nat),(∀x∈l,g x=h x)->l.foldl (fun o x=>max o (g x)) o=l.foldl (fun o x=>max o (h x)) o
 |[],_,_=>rfl
 |a::r,o,e=>by
  rw[List.foldl_cons,List.foldl_cons,e a (by simp)];exact z5C r _ fun x hx=>e x (by simp[hx])
theorem z0b(us:List (List Int)):∀(f i:Nat),rkF us f i<=f
 |0,i=>Nat.le_refl _
 |f+1,i=>by
  rw[rkF];rcases z0a (g:=fun x=>rkF us f x.toNat+1) (us.getD i []) 0 with h|⟨x,hx,h⟩
  ·rw[h];omega
  ·rw[h]
   have:=z0b us f x.toNat;omega
theorem z5D(us:List (List Int)):∀(f i:Nat),rkF us (f+1) i≠rkF us f i->rkF us (f+1) i=f+1
 |0,i,h=>by
  have h1:rkF us (0+1) i<=0+1:=z0b us (0+1) i;have h0:rkF us 0 i=0:=rfl;omega
 |f+1,i,h=>by
  have hle:=z0b us (f+2) i;have hex:∃x∈us.getD i [],rkF us (f+1) x.toNat≠rkF us f x.toNat:=Classical.byContradiction fun hn=>h (by
   rw[rkF,rkF];exact z5C _ _ fun x hx=>Classical.byContradiction fun hne=>hn ⟨x,hx,fun e=>hne (by omega)⟩)
  obtain⟨x,hx,hne⟩:=hex;have h1:=z5D us f x.toNat hne;have h2:=(Wl (g:=fun x=>rkF us (f+1) x.toNat+1) (us.getD i []) 0).2 x hx;rw[rkF];rw[rkF]at hle;omega
inductive Pth (us:List (List Int)):Nat->List Nat->Prop where
 |one (i:Nat):Pth us i [i]
 |more {i j:Nat} {p:List Nat}:(j:Int)∈us.getD i []->Pth us j p->Pth us i (i::p)
theorem Pth.mem{us:List (List Int)}{i:Nat}{p:List Nat}(h:Pth us i p):∀k∈p,Rch us i k:=by
 induction h with
 |one i=>intro k hk;rw[List.mem_singleton]at hk;subst hk;exact .refl
 | @more i j p hj _ ih=>
   intro k hk;rcases List.mem_cons.1 hk with rfl|hk
   ·exact .refl
   ·exact(Rch.step .refl hj).trans (ih k hk)
theorem Pth.nodup{us:List (List Int)}(ha:Acy us){i:Nat}{p:List Nat}(h:Pth us i p):p.Nodup:=by
 induction h with
 |one i=>simp
 | @more i j p hj hp ih=>
   rw[List.nodup_cons];exact⟨fun hi=>ha i j hj (hp.mem i hi),ih⟩
theorem z5E(us:List (List Int))(hx:∀i x,x∈us.getD i []->0<=x):∀(f i:Nat),∃p,Pth us i p/\p.length=rkF us f i+1
 |0,i=>⟨[i],.one i,rfl⟩
 |f+1,i=>by
  rw[rkF];rcases z0a (g:=fun x=>rkF us f x.toNat+1) (us.getD i []) 0 with h|⟨x,hm,h⟩
  ·exact⟨[i],.one i,by rw[h];rfl⟩
  ·obtain⟨p,hp,hl⟩:=z5E us hx f x.toNat
   refine⟨i::p,.more (j:=x.toNat) (by rw[Int.toNat_of_nonneg (hx i x hm)];exact hm) hp,?_⟩;rw[h,List.length_cons,hl]
theorem z5F:∀{n:Nat} {p:List Nat},p.Nodup->(∀k∈p,k<n)->p.length<=n
 |0,[],_,_=>Nat.le_refl _
 |0,k::_,_,h=>absurd (h k (by simp)) (by omega)
 |n+1,p,hn,h=>by
  have h1:=z5F (n:=n) (p:=p.erase n) (hn.erase n) fun k hk=>by
   have h2:=h k (List.mem_of_mem_erase hk);have h3:k≠n:=fun e=>by
    subst e;exact(List.Nodup.not_mem_erase hn) hk
   omega
  have h2:p.length<=(p.erase n).length+1:=by
   rw[List.length_erase];split<;>omega
  omega
def rkP(us:List (List Int))(i:Nat):Nat:=rkF us us.length i
section
variable {us:List (List Int)} (ha:Acy us) (hx:∀i x,x∈us.getD i []->∃m:Nat,m<us.length/\x=(m:Int))
include ha hx
theorem z5G{f i:Nat}(hi:i<us.length):rkF us f i<us.length:=by
 obtain⟨p,hp,hl⟩:=z5E us (fun i x hm=>by obtain⟨m,_,rfl⟩:=hx i x hm;omega) f i;have hin:∀{k:Nat},Rch us i k->k<us.length:=fun{k} hr=>by
  induction hr with
  |refl=>exact hi
  |step _ hm ih=>
   obtain⟨m,h1,h2⟩:=hx _ _ hm;omega
 have:=z5F (hp.nodup ha) (fun k hk=>hin (hp.mem k hk));omega
theorem z0c{i:Nat}(hi:i<us.length):rkP us i=(us.getD i []).foldl (fun o x=>max o (rkP us x.toNat+1)) 0:=by
 have h1:rkF us (us.length+1) i=rkF us us.length i:=Classical.byContradiction fun h=>by
  have h2:=z5D us us.length i h;have h3:=z5G ha hx (f:=us.length+1) hi;omega
 exact h1.symm
theorem z0d{i:Nat}(hi:i<us.length){x:Int}(h:x∈us.getD i []):rkP us x.toNat<rkP us i:=by
 rw[z0c ha hx hi];exact(Wl (g:=fun x=>rkP us x.toNat+1) (us.getD i []) 0).2 x h
theorem y3t{i:Nat}(hi:i<us.length):rkP us i=0↔us.getD i []=[]:=by
 refine⟨fun h=> ?_,fun h=>by rw[z0c ha hx hi,h];rfl⟩;cases e:us.getD i []with
 |nil=>rfl
 |cons x r=>
  have:=z0d ha hx hi (x:=x) (by rw[e];simp);omega
theorem z0e{i:Nat}(hi:i<us.length):rkP us i<us.length:=z5G ha hx hi
end
end
open Go.RowKit Go.Shelf Go.Maps
theorem z0f:Keyed prog 3:=int_keyed Tryz.underlying3
theorem z0g{i:Nat}(h:i<=1048576):keyOf prog 3 (.int .i64 i)=some (.int .i64 i):=keyOf_int_mk Tryz.underlying3 (WalkArith.wf_i64 (by omega))
theorem y3u{i j:Nat}(h:i≠j):Lit.int .i64 i≠Lit.int .i64 j:=fun e=>h (by injection e with _ e;omega)
theorem z5H(a:Int):WideAt.IsKeyLit (.int .i64 a):=trivial
def Im(W:World)(B n:Nat)(us:List (List Int))(km:List Bool):Prop:=∃(D:DataW Unit) (c:Nat),W.ownsMap prog 3 (plainElem prog 3) B c D/\c+unm km<=n/\∀i:Nat,Maps.has D (.int .i64 i)=km.getD i false/\(km.getD i false=true->D.atKey (.int .i64 i) (.lit (.int .i64 0))=.lit (.int .i64 (rkP us i:Nat)))
theorem Im.put{W':World}{B n c p:Nat}{us:List (List Int)}{km:List Bool}{D:DataW Unit}(hm:Maps.IsMap D)(hc:c+unm km<=n)(hD:∀i:Nat,Maps.has D (.int .i64 i)=km.getD i false/\(km.getD i false=true->D.atKey (.int .i64 i) (.lit (.int .i64 0))=.lit (.int .i64 (rkP us i:Nat))))(hp:km[p]? =some false)
  (h:W'.ownsMap prog 3 (plainElem prog 3) B (c+1) (D.put (.int .i64 p) (.lit (.int .i64 (rkP us p:Nat))))):Im W' B n us (km.set p true):=by
 have hl:p<km.length:=(List.getElem?_eq_some_iff.1 hp).1;refine⟨_,_,h,by have:=Hz km p hp;omega,fun i=> ?_⟩;by_cases e:p=i
 ·subst e
  have hs:(km.set p true).getD p false=true:=by rw[List.getD_eq_getElem?_getD,List.getElem?_set_self hl];rfl
  rw[hs];exact⟨Maps.has_put_same hm (z5H _) _,fun _=>Maps.atKey_put_same hm (z5H _) _ _⟩
 ·have hs:(km.set p true).getD i false=km.getD i false:=by rw[List.getD_eq_getElem?_getD,List.getElem?_set_ne e,<-List.getD_eq_getElem?_getD]
  have hne:=y3u (fun h=>e h.symm:i≠p);rw[hs,Maps.has_put_other hne,Maps.atKey_put_other hne];exact hD i
structure Ks (base n kB bB rB M:Nat) (uv:Value) (us:List (List Int)) (w0:World) (km:List Bool) (W:World):Prop where
 kbx:Boxed W kB 100 (.map (some M))
 bbx:Boxed W bB 30 uv
 rbx:Boxed W rB 101 (.func (.func 55) #[] #[.pointer (some ⟨kB,0,none⟩),.pointer (some ⟨bB,0,none⟩),.pointer (some ⟨rB,0,none⟩)])
 im:Im W M n us km
 be:Below base w0 W
 len:km.length=n
structure Kg (us:List (List Int)) (P:Nat->Prop) (km km':List Bool):Prop where
 len:km'.length=km.length
 mono:∀i:Nat,km[i]? =some true->km'[i]? =some true
 new:∀i:Nat,km[i]? =some false->km'[i]? =some true->P i
theorem Kg.refl(us:List (List Int))(P:Nat->Prop)(km:List Bool):Kg us P km km:=⟨rfl,fun _ h=>h,fun i h1 h2=>by rw[h1]at h2;cases h2⟩
theorem Kg.weak{us:List (List Int)}{P Q:Nat->Prop}{a b:List Bool}(h:Kg us P a b)(hq:∀i,P i->Q i):Kg us Q a b:=⟨h.len,h.mono,fun i h1 h2=>hq i (h.new i h1 h2)⟩
theorem Kg.trans{us:List (List Int)}{P:Nat->Prop}{a b c:List Bool}(h:Kg us P a b)(k:Kg us P b c):Kg us P a c:=by
 refine⟨k.len.trans h.len,fun i hi=>k.mono i (h.mono i hi),fun i h1 h3=> ?_⟩;have hl:i<b.length:=by rw[h.len];exact(List.getElem?_eq_some_iff.1 h1).1
 cases e:b[i]with
 |true=>exact h.new i h1 (by rw[List.getElem?_eq_getElem hl,e])
 |false=>exact k.new i (by rw[List.getElem?_eq_getElem hl,e]) h3
theorem Kg.not{us:List (List Int)}{P:Nat->Prop}{a b:List Bool}(h:Kg us P a b){p:Nat}(hp:a[p]? =some false)(hn:¬P p):b[p]? =some false:=by
 have hl:p<b.length:=by rw[h.len];exact(List.getElem?_eq_some_iff.1 hp).1
 cases e:b[p]with
 |true=>exact absurd (h.new p hp (by rw[List.getElem?_eq_getElem hl,e])) hn
 |false=>rw[List.getElem?_eq_getElem hl,e]
theorem y3v{us:List (List Int)}{P:Nat->Prop}{a:List Bool}{p:Nat}(hp:a[p]? =some false)(h:P p):Kg us P a (a.set p true):=by
 have hl:p<a.length:=(List.getElem?_eq_some_iff.1 hp).1;refine⟨List.length_set,fun i hi=> ?_,fun i h1 h2=> ?_⟩
 ·by_cases e:p=i
  ·subst e;exact List.getElem?_set_self hl
  ·rw[List.getElem?_set_ne e];exact hi
 ·by_cases e:p=i
  ·subst e;exact h
  ·rw[List.getElem?_set_ne e,h1]at h2;cases h2
theorem y3w{us:List (List Int)}(u:List Int)(j:Nat)(hj:j<u.length)(nx:Nat)(e:u[j]=(nx:Int)):(u.take (j+1)).foldl (fun o x=>max o (rkP us x.toNat+1)) 0=max ((u.take j).foldl (fun o x=>max o (rkP us x.toNat+1)) 0) (rkP us nx+1):=by
 rw[List.take_add_one,List.getElem?_eq_getElem hj,List.foldl_append];show max _ (rkP us (u[j]).toNat+1)=_;rw[e];rfl
theorem y3x(place n kB bB rB M c r:Nat)(D:DataW Unit)(W:World)(hk:Boxed W kB 100 (.map (some M)))(hown:W.ownsMap prog 3 (plainElem prog 3) M c D)(hh:Maps.has D (.int .i64 place)=true)(hat:D.atKey (.int .i64 place) (.lit (.int .i64 0))=.lit (.int .i64 (r:Nat)))(hp:place<n)(hn:n<=1048576):
  Calls prog 55 #[.int .i64 place,.pointer (some ⟨kB,0,none⟩),.pointer (some ⟨bB,0,none⟩),.pointer (some ⟨rB,0,none⟩)] W fun e w'=>e=.returned (.int .i64 (r:Nat))/\w'=W:=by
 have c1:=hk.cell;go_enter func55,ntmps55
 go_wp2_with(first
  |(at_lookup;refine wpList_lookup_own_ok _ rfl _ _ 100 rfl 3 3 z0f Tryz.underlying100 _ (Db _) (.lit (.int .i64 0)) [] (plainElem_int Tryz.underlying3 (WalkArith.wf_i64 (by omega))) M _ D rfl hown _ _ rfl (z0g (by omega)) ?_;intro v ps hv;obtain⟨cc,rfl,hz,hwc⟩:=plainElem_int_inv Tryz.underlying3 hv;rw[hh]))
 go_ret;rw[hat]at hz;have hz1:=congrArg Prod.fst hz;injection hz1 with hz2
 injection hz2 with _ hz3
 exact⟨by rw[<-hz3];rfl,rfl⟩
def Kp(M:Nat)(W W':World):Prop:=W.heap.size<=W'.heap.size/\∀b,b<W.heap.size->b≠M->W'.heap[b]? =W.heap[b]?
theorem Kp.refl(M:Nat)(W:World):Kp M W W:=⟨Nat.le_refl _,fun _ _ _=>rfl⟩
theorem Kp.trans{M:Nat}{a b c:World}(h:Kp M a b)(k:Kp M b c):Kp M a c:=⟨Nat.le_trans h.1 k.1,fun i hi hne=>(k.2 i (Nat.lt_of_lt_of_le hi h.1) hne).trans (h.2 i hi hne)⟩
theorem z5I(base n kB bB rB M:Nat)(uv:Value)(us:List (List Int))(w0:World)(HU:Hid (UsM w0 base uv us))(HNn:Hid (us.length=n))(HXs:Hid (∀u∈us,∀x∈u,∃m:Nat,m<n/\x=(m:Int)))(HAc:Hid (Acy us))(HXg:Hid (∀i x,x∈us.getD i []->∃m:Nat,m<us.length/\x=(m:Int)))(hM:base<=M)(hw0:base<=w0.heap.size)(hn:n<=1048576):
  ∀(N:Nat) (km:List Bool) (W:World) (place:Nat),rkP us place<N->Ks base n kB bB rB M uv us w0 km W->place<n->
  Calls prog 55 #[.int .i64 place,.pointer (some ⟨kB,0,none⟩),.pointer (some ⟨bB,0,none⟩),.pointer (some ⟨rB,0,none⟩)] W fun e w'=>e=.returned (.int .i64 (rkP us place:Nat))/\∃km',Ks base n kB bB rB M uv us w0 km' w'/\Kg us (Rch us place) km km'/\km'[place]? =some true/\Kp M W w'
 |0,km,W,place,hN,_,_=>by omega
 |N+1,km,W,place,hN,hK,hp=>by
  have hpl:place<km.length:=by rw[hK.len];exact hp
  obtain⟨D,c,hown,hcn,hD⟩:=hK.im;cases hb:km[place]with
  |true=>
   have hs:km[place]? =some true:=by rw[List.getElem?_eq_getElem hpl,hb]
   have hg:km.getD place false=true:=by rw[List.getD_eq_getElem?_getD,hs];rfl
   refine(y3x place n kB bB rB M c (rkP us place) D W hK.kbx hown ((hD place).1.trans hg) ((hD place).2 hg) hp hn).mono fun e w' he=> ?_
   rw[he.2];exact⟨he.1,km,hK,Kg.refl _ _ _,hs,Kp.refl _ _⟩
  |false=>
   have hs:km[place]? =some false:=by rw[List.getElem?_eq_getElem hpl,hb]
   have hh:Maps.has D (.int .i64 place)=false:=by rw[(hD place).1,List.getD_eq_getElem?_getD,hs];rfl
   have hpu:place<us.length:=by rw[HNn.out];exact hp
   have c1:=hK.kbx.cell;have c2:=hK.bbx.cell;obtain⟨uso,ucap,rfl,hul,hur⟩:=HU.out;obtain⟨ug,uo,rv,rfl,hug,huc,rso,rcap,rfl,hrl,hrc⟩:=hur place hpu;have cr:=(hK.be.cell (p:=⟨ug,uo+place,none⟩) hug).trans huc;have HUu:Hid (us.getD place []=us[place]):=by
    show _=_;rw[List.getD_eq_getElem?_getD,List.getElem?_eq_getElem hpu];rfl
   have HXu:Hid (∀x∈us[place],∃m:Nat,m<n/\x=(m:Int)):=HXs.out us[place] (List.getElem_mem hpu);have HRC:=hid hrc;obtain⟨u,hu⟩:∃u,u=us[place]:=⟨_,rfl⟩;have HRC2:Hid (∀j (hj:j<u.length),∃g o,rso=some ⟨g,o,none⟩/\g<base/\w0.cell? ⟨g,o+j,none⟩=some (.int .i64 u[j])):=by subst hu;exact HRC.out
   rw[<-hu]at HUu HXu cr hrl;obtain⟨k,hk⟩:∃k,k=u.length:=⟨_,rfl⟩;rw[<-hk]at cr hrl;have HKu:Hid (k=u.length):=hk;have HK:=hid hK;have HS:=hid hs;have HNN:Hid (rkP us place<N+1):=hN;have HOwn:=hid hown;clear hur hrc huc hu hk hD hcn hb hs hK hN HRC;go_enter func55,ntmps55
   go_wp2_with(first
    |(at_lookup;refine wpList_lookup_own_ok _ rfl _ _ 100 rfl 3 3 z0f Tryz.underlying100 _ (Db _) (.lit (.int .i64 0)) [] (plainElem_int Tryz.underlying3 (WalkArith.wf_i64 (by omega))) M _ D rfl HOwn.out _ _ rfl (z0g (by omega)) ?_;intro v ps hv;obtain⟨cc,rfl,hz,hwc⟩:=plainElem_int_inv Tryz.underlying3 hv;rw[hh]))
   go_loopw [8,24] (fun o i wr=>∃j:Nat,i=.int .i64 j/\j<=k/\o=.int .i64 (((u.take j).foldl (fun o x=>max o (rkP us x.toNat+1)) 0:Nat):Int)/\Hid (∃kmj,Ks base n kB bB rB M (.slice (some ⟨ug,uo,none⟩) us.length ucap) us w0 kmj wr/\Kg us (fun i=>∃x:Nat,(x:Int)∈us.getD place []/\Rch us x i) km kmj/\Kp M W wr)) (fun _ i _=>k-(intOf i).toNat)
   case atStart=>exact⟨0,rfl,Nat.zero_le _,rfl,km,HK.out,Kg.refl _ _ _,Kp.refl _ _⟩
   case round=>
    obtain⟨j,rfl,hj,rfl,HJ⟩:=hrel;by_cases hjn:j<k
    ·have hjI:(j:Int)<(k:Int):=by omega
     have a0:decide ((j:Int)<(k:Int))=true:=by simp;omega
     have hju:j<u.length:=by rw[<-HKu.out];exact hjn
     obtain⟨kmj,vj,gj,pj⟩:=HJ.out;have HPj:=hid pj;obtain⟨rg,ro,rfl,hrg,hrcell⟩:=HRC2.out j hju;have cr:=(vj.be.cell (p:=⟨rg,ro+j,none⟩) hrg).trans hrcell;obtain⟨nx,hnx,enx⟩:=HXu.out u[j] (List.getElem_mem hju);rw[enx]at cr;have cv:=vj.rbx.cell;have hmem:(nx:Int)∈us.getD place []:=by rw[HUu.out,<-enx];exact List.getElem_mem hju
     have hlt:=z0d HAc.out HXg.out hpu hmem;rw[Int.toNat_natCast]at hlt;have hrn:=z0e HAc.out HXg.out (i:=nx) (by rw[HNn.out];exact hnx);rw[HNn.out]at hrn;have HC:=hid (z5I base n kB bB rB M _ us w0 HU HNn HXs HAc HXg hM hw0 hn N kmj wr nx (by have:=HNN.out;omega) vj hnx);have HG:=hid gj;have HE:Hid (u[j]=(nx:Int)):=enx;have HMm:Hid ((nx:Int)∈us.getD place []):=hmem;obtain⟨f,hf⟩:∃f,f=(u.take j).foldl (fun o x=>max o (rkP us x.toNat+1)) 0:=⟨_,rfl⟩;rw[<-hf];have HF:Hid (f=(u.take j).foldl (fun o x=>max o (rkP us x.toNat+1)) 0):=hf;obtain⟨rn,hrq⟩:∃rn,rn=rkP us nx:=⟨_,rfl⟩;rw[<-hrq]at HC hrn;have HRn:Hid (rn=rkP us nx):=hrq;clear vj gj pj hrcell enx hlt hmem HJ hf hrq
     go_wp2_with(first
      |(go_at_call 55;refine HC.out.mono ?_;clear HC;rintro e w5 ⟨rfl,km5,v5,g5,m5,p5⟩))
     refine⟨⟨j+1,by go_num,by omega,?_,hid ⟨km5,v5,HG.out.trans (g5.weak fun i hi=>⟨nx,HMm.out,hi⟩),HPj.out.trans p5⟩⟩,by simp[intOf];omega⟩;rw[y3w u j hju nx HE.out,<-HF.out,<-HRn.out];exact congrArg (Value.int .i64) (by omega)
    ·have a0:decide ((j:Int)<(k:Int))=false:=by simp;omega
     obtain rfl:j=k:=by omega
     obtain⟨kmj,vj,gj,pj⟩:=HJ.out;have HPj:=hid pj;have hfull:(u.take j).foldl (fun o x=>max o (rkP us x.toNat+1)) 0=rkP us place:=by
      rw[List.take_of_length_le (by rw[<-HKu.out];exact Nat.le_refl _),z0c HAc.out HXg.out hpu,HUu.out]
     rw[hfull];have hrn:=z0e HAc.out HXg.out hpu;rw[HNn.out]at hrn;have cv:=vj.kbx.cell;obtain⟨D2,c2',hown2,hcn2,hD2⟩:=vj.im;have hs2:kmj[place]? =some false:=gj.not HS.out fun⟨x,hx,hr⟩=>HAc.out place x hx hr
     have HOwn2:=hid hown2;have hc2m:c2'<maxLen:=by unfold maxLen;omega
     obtain⟨rp,hrp⟩:∃rp,rp=rkP us place:=⟨_,rfl⟩;rw[<-hrp]at hrn ⊢;have HV:=hid vj;have HG:=hid gj;have HD2:=hid hD2;have HS2:=hid hs2;have HRp:Hid (rp=rkP us place):=hrp;clear vj gj pj hD2 hs2 HJ hfull hown2 hrp
     go_wp2_with(first
      |(at_mapUpdate;refine wpList_mapUpdate_own _ rfl _ _ _ 100 rfl 3 3 z0f Tryz.underlying100 _ M _ D2 rfl HOwn2.out hc2m _ _ _ rfl rfl (z0g (by omega)) _ [] (plainElem_int Tryz.underlying3 (WalkArith.wf_i64 (by omega))) ?_;intro w1 hown3 hgr))
     go_ret;have him:Im w1 M n us (kmj.set place true):=Im.put HOwn2.out.isMap hcn2 HD2.out HS2.out (by rw[<-HRp.out];exact hown3);have keep:∀{b:Nat} {y:Array Value} {t:TypeId},wr.heap[b]? =some (.cells y t)->w1.heap[b]? =some (.cells y t):=fun{b y t} hb=>by
      have hne:some b≠some M:=fun e=>by
       obtain rfl:b=M:=Option.some.inj e;obtain⟨es,ck,h1,_⟩:=HOwn2.out;rw[h1]at hb;cases hb
      exact(hgr.block b (Array.getElem?_eq_some_iff.1 hb).1 hne).trans hb
     refine⟨by rw[<-HRp.out];rfl,kmj.set place true,⟨keep HV.out.kbx,keep HV.out.bbx,keep HV.out.rbx,him,HV.out.be.grown hgr (Nat.le_trans hw0 HV.out.be.size) (fun g e=>by cases e;exact hM),by rw[List.length_set,HV.out.len]⟩,?_,?_,HPj.out.trans ⟨hgr.size,fun b hb hne=>hgr.block b hb (fun e=>hne (Option.some.inj e))⟩⟩
     ·exact(HG.out.weak fun i ⟨x,hx,hr⟩=>(Rch.refl.step hx).trans hr).trans (y3v HS2.out .refl)
     ·exact List.getElem?_set_self (List.getElem?_eq_some_iff.1 HS2.out).1
def rkL(us:List (List Int))(n j:Nat):List Value:=(List.range n).map fun i=>.int .i64 (((if i<j then rkP us i else 0:Nat)):Int)
theorem z5J(us:List (List Int))(n j:Nat):(rkL us n j).length=n:=by simp[rkL]
theorem y3y(us:List (List Int))(n j:Nat)(hj:j<n):(rkL us n j).set j (.int .i64 ((rkP us j:Nat):Int))=rkL us n (j+1):=by
 apply List.ext_getElem?;intro i;by_cases e:j=i
 ·subst e
  rw[List.getElem?_set_self (by rw[z5J];exact hj)];simp[rkL,List.getElem?_range hj]
 ·rw[List.getElem?_set_ne e]
  simp only[rkL,List.getElem?_map];by_cases hi:i<n
  ·rw[List.getElem?_range hi]
   have:(if i<j then rkP us i else 0)=(if i<j+1 then rkP us i else 0):=by
    by_cases h:i<j
    ·rw[if_pos h,if_pos (by omega)]
    ·rw[if_neg h,if_neg (by omega)]
   exact congrArg some (congrArg (fun x:Nat=>Value.int .i64 x) this)
  ·rw[List.getElem?_eq_none (by simp;omega)];rfl
theorem y3z(us:List (List Int))(n:Nat):rkL us n 0=List.replicate n (.int .i64 0):=by
 apply List.ext_getElem?;intro i;simp only[rkL,List.getElem?_map];by_cases hi:i<n
 ·rw[List.getElem?_range hi,List.getElem?_replicate,if_pos hi];rfl
 ·rw[List.getElem?_eq_none (by simp;omega),List.getElem?_replicate,if_neg hi];rfl
theorem y3A(us:List (List Int))(n:Nat):rkL us n n=(List.range n).map fun i=>.int .i64 ((rkP us i:Nat):Int):=List.map_congr_left fun i hi=>by rw[if_pos (List.mem_range.1 hi)]
theorem y3B(n:Int)(w:World):(Instr.makeMap 100 (some (.int .i64 n))).run prog w=.ok (.map (some w.heap.size)) (w.alloc (.map #[] 0)):=by kernel_rfl
theorem y3C(n:Nat)(hn:n<=1048576)(W:World):(Instr.makeSlice 33 (.int .i64 n) (.int .i64 n)).run prog W=.ok (.slice (some ⟨W.heap.size,0,none⟩) n n) (W.alloc (.cells (Array.replicate n (Value.int .i64 0)) 3)):=by
 obtain⟨i0,hi0,hz0,hz1,hz2⟩:=info_parts Tryz.infoInt;rw[run_make W 33 3 i0 (.int .i64 0) Tryz.underlying33 hi0 hz0 .i64 .i64 n n (by omega) (by omega) (by rw[hz2];omega) (by omega),hz1,Tz _ rfl];simp
theorem Ks.set{base n kB bB rB M g:Nat}{uv:Value}{us:List (List Int)}{w0 W:World}{km:List Bool}(h:Ks base n kB bB rB M uv us w0 km W)(h1:kB≠g)(h2:bB≠g)(h3:rB≠g)(h4:M≠g)(hg:base<=g)(o:Nat)(v:Value):Ks base n kB bB rB M uv us w0 km (W.setCell ⟨g,o,none⟩ v):=by
 obtain⟨D,c,k1,k2⟩:=h.im;exact⟨(Below.heap_setCell _ _ _ _ h1).trans h.kbx,(Below.heap_setCell _ _ _ _ h2).trans h.bbx,(Below.heap_setCell _ _ _ _ h3).trans h.rbx,⟨D,c,k1.setCell (a:=⟨g,o,none⟩) h4 v,k2⟩,h.be.setCell (p:=⟨g,o,none⟩) hg v,h.len⟩
theorem y3D(uv:Value)(us:List (List Int))(n:Nat)(w:World)(hU:UsM w w.heap.size uv us)(hN:us.length=n)(hX:∀u∈us,∀x∈u,∃m:Nat,m<n/\x=(m:Int))(hA:Acy us)(hn:n<=1048576):
  Calls prog 29 #[uv] w fun e w'=>∃v,e=.returned v/\w'.ownsRow w.heap.size 3 1 v n ((List.range n).map fun i=>.int .i64 ((rkP us i:Nat):Int))/\Below w.heap.size w w':=by
 have hmk:=y3C n hn;have hmm:=y3B;have HU:=hid hU;have HXg:Hid (∀i x,x∈us.getD i []->∃m:Nat,m<us.length/\x=(m:Int)):=fun i x hx=>by
  rw[List.getD_eq_getElem?_getD]at hx;cases e:us[i]? with
  |none=>rw[e]at hx;simp at hx
  |some u=>
   rw[e]at hx;rw[hN];exact hX u (List.mem_of_getElem? e) x hx
 obtain⟨uso,ucap,rfl,hul,hur⟩:=hU;rw[hN]at HU ⊢;clear hur;obtain⟨W5,hW5⟩:∃W5,W5=((((w.alloc (.cells #[.slice uso n ucap] 30)).alloc (.map #[] 0)).alloc (.cells #[.map (some (w.heap.size+1))] 100)).alloc (.cells #[.func (.func 55) #[] #[.pointer (some ⟨w.heap.size+1+1,0,none⟩),.pointer (some ⟨w.heap.size,0,none⟩),.pointer (some ⟨w.heap.size+1+1+1,0,none⟩)]] 101)).alloc (.cells (Array.replicate n (Value.int .i64 0)) 3):=⟨_,rfl⟩;have hV:Ks w.heap.size n (w.heap.size+1+1) w.heap.size (w.heap.size+1+1+1) (w.heap.size+1) (.slice uso n ucap) us w (List.replicate n false) W5:=by
  rw[hW5];refine⟨?_,?_,?_,?_,?_,List.length_replicate⟩
  ·have:=((Boxed.new ((w.alloc (.cells #[.slice uso n ucap] 30)).alloc (.map #[] 0)) 100 (.map (some (w.heap.size+1)))).alloc (.cells #[.func (.func 55) #[] #[.pointer (some ⟨w.heap.size+1+1,0,none⟩),.pointer (some ⟨w.heap.size,0,none⟩),.pointer (some ⟨w.heap.size+1+1+1,0,none⟩)]] 101)).alloc (.cells (Array.replicate n (Value.int .i64 0)) 3)
   simpa only[World.size_alloc]using this
  ·exact((((Boxed.new w 30 (.slice uso n ucap)).alloc _).alloc _).alloc _).alloc _
  ·have:=(Boxed.new (((w.alloc (.cells #[.slice uso n ucap] 30)).alloc (.map #[] 0)).alloc (.cells #[.map (some (w.heap.size+1))] 100)) 101 (.func (.func 55) #[] #[.pointer (some ⟨w.heap.size+1+1,0,none⟩),.pointer (some ⟨w.heap.size,0,none⟩),.pointer (some ⟨w.heap.size+1+1+1,0,none⟩)])).alloc (.cells (Array.replicate n (Value.int .i64 0)) 3)
   simpa only[World.size_alloc]using this
  ·have h0:=World.ownsMap_made (H:=Unit) (w.alloc (.cells #[.slice uso n ucap] 30)) prog 3 (plainElem prog 3)
   rw[World.size_alloc]at h0;refine⟨.map [],0,?_,by simp[unm],fun i=>⟨?_,fun h=> ?_⟩⟩
   ·obtain⟨es,ck,h1,h2,h3,h4⟩:=h0
    exact⟨es,ck,(Below.heap_alloc _ _ _ (by simp only[World.size_alloc];omega)).trans ((Below.heap_alloc _ _ _ (by simp only[World.size_alloc];omega)).trans ((Below.heap_alloc _ _ _ (by simp only[World.size_alloc];omega)).trans h1)),h2,h3,h4⟩
   ·rw[List.getD_eq_getElem?_getD,List.getElem?_replicate]
    by_cases h:i<n
    ·rw[if_pos h];rfl
    ·rw[if_neg h];rfl
   ·rw[List.getD_eq_getElem?_getD,List.getElem?_replicate]at h
    by_cases h1:i<n
    ·rw[if_pos h1]at h;cases h
    ·rw[if_neg h1]at h;cases h
  ·exact(((((Below.refl _ w).alloc L0q _).alloc (by simp) _).alloc (by simp;omega) _).alloc (by simp;omega) _).alloc (by simp;omega) _
 have HB0:Hid (W5.heap[w.heap.size+1+1+1+1]? =some (.cells (rkL us n 0).toArray 3)):=by
  show _=_;rw[hW5,Qx _ _ (by simp),y3z];simp
 have HV:=hid hV;have HN:Hid (us.length=n):=hN;have HX:=hid hX;have HA:=hid hA;have hs5:W5.heap.size=w.heap.size+1+1+1+1+1:=by rw[hW5];simp
 clear hV hX hA hN;go_enter func29,ntmps29
 go_wp2_with fail
 rw[<-hW5];clear hW5 hmk hmm
 go_loopw [16] (fun i wr=>∃j:Nat,i=.int .i64 j/\j<=n/\Hid (∃kmj,Ks w.heap.size n (w.heap.size+1+1) w.heap.size (w.heap.size+1+1+1) (w.heap.size+1) (.slice uso n ucap) us w kmj wr)/\Hid (wr.heap[w.heap.size+1+1+1+1]? =some (.cells (rkL us n j).toArray 3))) (fun i _=>n-(intOf i).toNat)
 case atStart=>exact⟨0,rfl,Nat.zero_le _,⟨_,HV.out⟩,HB0.out⟩
 case round=>
  obtain⟨j,rfl,hj,HJ,HBj⟩:=hrel;by_cases hjn:j<n
  ·have hjI:(j:Int)<(n:Int):=by omega
   have a0:decide ((j:Int)<(n:Int))=true:=by simp;omega
   obtain⟨kmj,vj⟩:=HJ.out;have cv:=vj.rbx.cell;have HC:=hid (z5I w.heap.size n _ _ _ _ _ us w HU HN HX HA HXg (by omega) L0q hn (rkP us j+1) kmj wr j (by omega) vj hjn);have hlt:=(Array.getElem?_eq_some_iff.1 HBj.out).1;clear vj HJ
   go_wp2_with(first
    |(go_at_call 55;refine HC.out.mono ?_;clear HC;rintro e w5 ⟨rfl,km5,v5,g5,m5,p5⟩;have hb5:=(p5.2 _ hlt (by omega)).trans HBj.out;obtain⟨x5,f5⟩:=Zx hb5 j (.int .i64 ((0:Nat):Int)) (by simp[rkL,List.getElem?_range hjn])))
   refine⟨⟨j+1,by go_num,by omega,hid ⟨km5,v5.set (by omega) (by omega) (by omega) (by omega) (by omega) _ _⟩,hid ?_⟩,by simp[intOf];omega⟩;show _=_;rw[Qf hb5,<-y3y us n j hjn];congr 2;apply Array.ext';simp
  ·have a0:decide ((j:Int)<(n:Int))=false:=by simp;omega
   obtain rfl:j=n:=by omega
   go_wp2_with fail
   go_ret;obtain⟨kmj,vj⟩:=HJ.out;refine⟨_,rfl,⟨by simp,.inr ⟨_,_,_,rfl,by omega,HBj.out,Nat.le_refl _,by unfold maxLen;omega,by simp[z5J],?_⟩⟩,vj.be⟩;rw[y3A,Nat.mul_one];exact List.take_of_length_le (by simp)
end Go.Proofs.YthmgblmoobkliaaGreatDoor
