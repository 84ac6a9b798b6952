/- Lemmas for the last text. Conditions: those that each names. -/
import Derived.Test.YtgmcjddjdidpjabGreatDoorVT21ToGBase
import Derived.Deep.AppendLies
import Derived.Deep.RegionLaw
import Derived.Deep.DeepCutAuto
set_option linter.unusedVariables false
set_option maxRecDepth 100000
set_option maxHeartbeats 16000000
namespace Go.Proofs.YtgmcjddjdidpjabGreatDoor
open Go.Proofs.Tryz
section
open Go.RowKit Go.Shelf Go.Maps
def frJ(q:ByteArray):Jb->Prop
 | .one t=>∀y∈rfT t,y.1≠q
 | .row s=>∀y∈rfL s,y.1≠q
 | .alt s=>∀y∈rfL s,y.1≠q
 | .rep t=>∀y∈rfT t,y.1≠q
theorem Fw{q:ByteArray}{k:Int}{N:ByteArray}{a b c d p:Int}{s:List RT}(h:frJ q (.one (.mk k N a b c d s p)))(hk:k≠5):∀y∈rfL s,y.1≠q:=fun y hy=>by
 refine h y ?_;rw[rfT,if_neg hk];exact hy
theorem Jm{q:ByteArray}{t:RT}{r:List RT}(h:∀y∈rfL (t::r),y.1≠q):frJ q (.one t):=fun y hy=>h y (by rw[rfL];exact List.mem_append.2 (.inl hy))
theorem z5t{q:ByteArray}{t:RT}{r:List RT}(h:∀y∈rfL (t::r),y.1≠q):∀y∈rfL r,y.1≠q:=fun y hy=>h y (by rw[rfL];exact List.mem_append.2 (.inr hy))
theorem z5u{q T:ByteArray}{B B':ByteArray->Option RT}(hB:∀N,N≠q->B N=B' N)(hF:∀N t,N≠q->B N=some t->frJ q (.one t)){j:Jb}{i:Nat}{e:Option Nat}{n:Nat}(h:Mt B T j i e n):frJ q j->Mt B' T j i e n:=by
 induction h with
 |emp=>exact fun _=>.emp
 |lit=>exact fun _=>.lit
 |set=>exact fun _=>.set
 |any=>exact fun _=>.any
 | @ref N a b c d s p i t e n h1 _ ih=>
   intro hf;have hN:N≠q:=hf (N,p) (by rw[rfT,if_pos rfl];simp);exact .ref ((hB N hN).symm.trans h1) (ih (hF N t hN h1))
 |seq _ ih=>exact fun hf=>.seq (ih (Fw hf (by decide)))
 |cho _ ih=>exact fun hf=>.cho (ih (Fw hf (by decide)))
 |opt _ ih=>exact fun hf=>.opt (ih (Jm (Fw hf (by decide))))
 |star _ ih=>exact fun hf=>.star (ih (Jm (Fw hf (by decide))))
 |plus_no _ ih=>exact fun hf=>.plus_no (ih (Jm (Fw hf (by decide))))
 |plus_ok _ _ ih1 ih2=>exact fun hf=>.plus_ok (ih1 (Jm (Fw hf (by decide)))) (ih2 (Jm (Fw hf (by decide))))
 |and _ ih=>exact fun hf=>.and (ih (Jm (Fw hf (by decide))))
 |not _ ih=>exact fun hf=>.not (ih (Jm (Fw hf (by decide))))
 |row_nil=>exact fun _=>.row_nil
 |row_no _ ih=>exact fun hf=>.row_no (ih (Jm hf))
 |row_ok _ _ ih1 ih2=>exact fun hf=>.row_ok (ih1 (Jm hf)) (ih2 (z5t hf))
 |alt_nil=>exact fun _=>.alt_nil
 |alt_ok _ ih=>exact fun hf=>.alt_ok (ih (Jm hf))
 |alt_no _ _ ih1 ih2=>exact fun hf=>.alt_no (ih1 (Jm hf)) (ih2 (z5t hf))
 |rep_end _ ih=>exact fun hf=>.rep_end (ih hf)
 |rep_go _ _ ih1 ih2=>exact fun hf=>.rep_go (ih1 hf) (ih2 hf)
def wiG(q:ByteArray)(t:RT)(rs:List Rr):List Rr:=(q,t,0)::rs
theorem Mj{q N:ByteArray}{t:RT}{rs:List Rr}(h:N≠q):bdR (wiG q t rs) N=bdR rs N:=by
 unfold bdR wiG nmL;rw[List.map_cons,ixN,if_neg (fun e=>h e.symm),List.getElem?_cons_succ]
theorem Gb{q T:ByteArray}{t t' u:RT}{rs:List Rr}(hr:∀x∈rs,frJ q (.one x.2.1)){i:Nat}{e:Option Nat}{n:Nat}(hu:frJ q (.one u))(h:Mt (bdR (wiG q t rs)) T (.one u) i e n):Mt (bdR (wiG q t' rs)) T (.one u) i e n:=by
 refine z5u (q:=q) (fun N hN=>by rw[Mj hN,Mj hN]) (fun N x hN hx=> ?_) h hu;rw[Mj hN]at hx;unfold bdR at hx;cases e2:rs[ixN N (nmL rs)]? with
 |none=>rw[e2]at hx;cases hx
 |some y=>
  rw[e2]at hx;obtain rfl:=Option.some.inj hx;exact hr y (List.mem_of_getElem? e2)
section
variable {q T:ByteArray} {rs:List Rr} {t u:RT} {N:ByteArray} {a b c d p:Int} {i:Nat}
theorem y5x(hr:∀x∈rs,frJ q (.one x.2.1))(ht:frJ q (.one t))(hu:frJ q (.one u)){e e1:Option Nat}{n n1:Nat}(h:Mt (bdR (wiG q (.mk 6 N a b c d [t,u] p) rs)) T (.one (.mk 6 N a b c d [t,u] p)) i e n)(h1:Mt (bdR (wiG q t rs)) T (.one t) i e1 n1):(e1=none->e=none)/\∀x,e1=some x->∀e2 n2,Mt (bdR (wiG q u rs)) T (.one u) x e2 n2->e=e2:=by
 have h1:=Gb (t':=.mk 6 N a b c d [t,u] p) hr ht h1;cases h with
 |seq h=>
  cases h with
  |row_no h=>
   obtain⟨rfl,_⟩:=Zm h1 h;exact⟨fun _=>rfl,fun x hx=>by cases hx⟩
  |row_ok h h2=>
   obtain⟨rfl,_⟩:=Zm h1 h;refine⟨fun hx=>(by cases hx),fun x hx e2 n2 h3=> ?_⟩;cases hx;have h3:=Gb (t':=.mk 6 N a b c d [t,u] p) hr hu h3;cases h2 with
   |row_no h2=>exact(Zm h2 h3).1
   |row_ok h2 h4=>
    cases h4;exact(Zm h2 h3).1
theorem y5y(hr:∀x∈rs,frJ q (.one x.2.1))(ht:frJ q (.one t))(hu:frJ q (.one u)){e e1 e2:Option Nat}{n n1 n2:Nat}(h:Mt (bdR (wiG q (.mk 7 N a b c d [t,u] p) rs)) T (.one (.mk 7 N a b c d [t,u] p)) i e n)(h1:Mt (bdR (wiG q t rs)) T (.one t) i e1 n1)(h2:Mt (bdR (wiG q u rs)) T (.one u) i e2 n2):(∀x,e1=some x->e=some x)/\(e1=none->e=e2):=by
 have h1:=Gb (t':=.mk 7 N a b c d [t,u] p) hr ht h1;have h2:=Gb (t':=.mk 7 N a b c d [t,u] p) hr hu h2;cases h with
 |cho h=>
  cases h with
  |alt_ok h=>
   obtain⟨rfl,_⟩:=Zm h1 h;exact⟨fun x hx=>hx,fun hx=>by cases hx⟩
  |alt_no h h3=>
   obtain⟨rfl,_⟩:=Zm h1 h;refine⟨fun x hx=>(by cases hx),fun _=> ?_⟩;cases h3 with
   |alt_ok h3=>exact(Zm h3 h2).1
   |alt_no h3 h4=>cases h4;exact(Zm h3 h2).1
theorem z0a(hr:∀x∈rs,frJ q (.one x.2.1))(ht:frJ q (.one t)){e e1:Option Nat}{n n1:Nat}(h:Mt (bdR (wiG q (.mk 11 N a b c d [t] p) rs)) T (.one (.mk 11 N a b c d [t] p)) i e n)(h1:Mt (bdR (wiG q t rs)) T (.one t) i e1 n1):e=Xb e1.isSome i:=by
 have h1:=Gb (t':=.mk 11 N a b c d [t] p) hr ht h1;cases h with
 |and h=>obtain⟨rfl,_⟩:=Zm h1 h;rfl
theorem z0b(hr:∀x∈rs,frJ q (.one x.2.1))(ht:frJ q (.one t)){e e1:Option Nat}{n n1:Nat}(h:Mt (bdR (wiG q (.mk 12 N a b c d [t] p) rs)) T (.one (.mk 12 N a b c d [t] p)) i e n)(h1:Mt (bdR (wiG q t rs)) T (.one t) i e1 n1):e=Xb e1.isNone i:=by
 have h1:=Gb (t':=.mk 12 N a b c d [t] p) hr ht h1;cases h with
 |not h=>obtain⟨rfl,_⟩:=Zm h1 h;rfl
theorem z5v(hr:∀x∈rs,frJ q (.one x.2.1))(ht:frJ q (.one t)){e e1:Option Nat}{n n1:Nat}(h:Mt (bdR (wiG q (.mk 8 N a b c d [t] p) rs)) T (.one (.mk 8 N a b c d [t] p)) i e n)(h1:Mt (bdR (wiG q t rs)) T (.one t) i e1 n1):e=some (e1.getD i):=by
 have h1:=Gb (t':=.mk 8 N a b c d [t] p) hr ht h1;cases h with
 |opt h=>obtain⟨rfl,_⟩:=Zm h1 h;rfl
theorem z5w(hr:∀x∈rs,frJ q (.one x.2.1))(ht:frJ q (.one t)){e e1:Option Nat}{n n1:Nat}(h:Mt (bdR (wiG q (.mk 9 N a b c d [t] p) rs)) T (.one (.mk 9 N a b c d [t] p)) i e n)(h1:Mt (bdR (wiG q t rs)) T (.one t) i e1 n1):(e1=none->e=some i)/\∀x,e1=some x->∀e2 n2,Mt (bdR (wiG q (.mk 9 N a b c d [t] p) rs)) T (.one (.mk 9 N a b c d [t] p)) x e2 n2->e2=e:=by
 have h1:=Gb (t':=.mk 9 N a b c d [t] p) hr ht h1;cases h with
 |star h=>
  cases h with
  |rep_end h=>
   obtain⟨rfl,_⟩:=Zm h1 h;exact⟨fun _=>rfl,fun x hx=>by cases hx⟩
  |rep_go h h2=>
   obtain⟨rfl,_⟩:=Zm h1 h;refine⟨fun hx=>(by cases hx),fun x hx e2 n2 h3=> ?_⟩;cases hx;cases h3 with
   |star h3=>exact(Zm h3 h2).1
theorem z5x(hr:∀x∈rs,frJ q (.one x.2.1))(ht:frJ q (.one t)){N':ByteArray}{a' b' c' d' p':Int}{e e1 e2:Option Nat}{n n1 n2:Nat}(h:Mt (bdR (wiG q (.mk 10 N a b c d [t] p) rs)) T (.one (.mk 10 N a b c d [t] p)) i e n)(h1:Mt (bdR (wiG q t rs)) T (.one t) i e1 n1)(h2:Mt (bdR (wiG q (.mk 9 N' a' b' c' d' [t] p') rs)) T (.one (.mk 9 N' a' b' c' d' [t] p')) i e2 n2):(e1=none->e=none)/\∀x,e1=some x->e=e2:=by
 have g1:=Gb (t':=.mk 10 N a b c d [t] p) hr ht h1;have g2:=Gb (t':=.mk 9 N' a' b' c' d' [t] p') hr ht h1;have hF:∀{t9:RT} (M:ByteArray) (x:RT),M≠q->bdR (wiG q t9 rs) M=some x->frJ q (.one x):=fun{t9} M x hM hx=>by
  rw[Mj hM]at hx;unfold bdR at hx;cases e2:rs[ixN M (nmL rs)]? with
  |none=>rw[e2]at hx;cases hx
  |some y=>
   rw[e2]at hx;obtain rfl:=Option.some.inj hx;exact hr y (List.mem_of_getElem? e2)
 cases h with
 |plus_no h=>
  obtain⟨rfl,_⟩:=Zm g1 h;exact⟨fun _=>rfl,fun x hx=>by cases hx⟩
 |plus_ok h h3=>
  obtain⟨rfl,_⟩:=Zm g1 h;refine⟨fun hx=>(by cases hx),fun x hx=> ?_⟩;cases hx;have h3:=z5u (q:=q) (B':=bdR (wiG q (.mk 9 N' a' b' c' d' [t] p') rs)) (fun M hM=>by rw[Mj hM,Mj hM]) hF h3 ht;cases h2 with
  |star h2=>
   cases h2 with
   |rep_end h2=>cases(Zm g2 h2).1
   |rep_go h2 h4=>
    obtain⟨h5,_⟩:=Zm g2 h2;cases h5;exact(Zm h3 h4).1
end
end
open Go.RowKit Go.Shelf Go.Maps
def fsS:ByteArray:={data:=⟨[102,111,114,100,95,115,116,97,114,116]⟩}
theorem y4R{s:List RT}{y:ByteArray×Int}(h:y∈rfL s):∃j,∃hj:j<s.length,y∈rfT s[j]:=by
 induction s with
 |nil=>rw[rfL]at h;cases h
 |cons t r ih=>
  rw[rfL,List.mem_append]at h;rcases h with h|h
  ·exact⟨0,Nat.zero_lt_succ _,h⟩
  ·obtain⟨j,hj,h1⟩:=ih h
   exact⟨j+1,Nat.succ_lt_succ hj,h1⟩
theorem z5y{k:Int}{T:ByteArray}{a b c d p:Int}{s:List RT}{q:ByteArray}(hk:k=5->T≠q)(h:∀i (hi:i<s.length),∀y∈rfT s[i],y.1≠q):∀y∈rfT (.mk k T a b c d s p),y.1≠q:=by
 intro y hy;rw[rfT]at hy;split at hy
 ·rename_i h5
  obtain rfl:y=(T,p):=by simpa using hy
  exact hk h5
 ·obtain⟨j,hj,h1⟩:=y4R hy
  exact h j hj y h1
theorem y4S(T:ByteArray)(a b c d p:Int)(so:Option Addr)(n cap:Nat)(w:World)(hT:T=fsS):
  Calls prog 11 #[.agg (r8 5 T a b c d so n cap p).toArray] w fun e w'=>e=.returned (.bool false)/\Below w.heap.size w w':=by
 have t1:(T.toList == [102,111,114,100,95,115,116,97,114,116])=true:=by rw[hT,ByteArray.toList_eq];rfl
 have HB1:Hid (Below w.heap.size w (w.alloc (.cells #[.int .i64 5,.string T,.int .u64 a,.int .u64 b,.int .u64 c,.int .u64 d,.slice so n cap,.int .i64 p] 30))):=(Below.refl _ w).alloc L0q _;have HC1:Hid ((w.alloc (.cells #[.int .i64 5,.string T,.int .u64 a,.int .u64 b,.int .u64 c,.int .u64 d,.slice so n cap,.int .i64 p] 30)).heap[w.heap.size]? =some (.cells #[.int .i64 5,.string T,.int .u64 a,.int .u64 b,.int .u64 c,.int .u64 d,.slice so n cap,.int .i64 p] 30)):=Qx w _ rfl;clear hT
 (try dsimp only[r8])
 go_enter func11,ntmps11;obtain⟨⟨m0,m1,m2,m3,m4,m5,m6,m7⟩,_⟩:=Qv HC1.out
 go_wp2_with fail
 all_goals(go_ret;exact⟨rfl,HB1.out⟩)
theorem y4T(k:Int)(T:ByteArray)(a b c d p:Int)(so:Option Addr)(n cap:Nat)(s:List RT)(w:World)(hk:k=5->T≠fsS)(hn:n<=9223372036854775807)(HN:Hid (n=s.length))
  (HC:Hid (∀j (hj:j<s.length),∃g o,so=some ⟨g,o,none⟩/\g<w.heap.size/\∃k1 T1 a1 b1 c1 d1 so1 n1 cap1 p1,Rc w g (o+j*8) k1 T1 a1 b1 c1 d1 (.slice so1 n1 cap1) p1/\
    ∀W:World,Below w.heap.size w W->Calls prog 11 #[.agg (r8 k1 T1 a1 b1 c1 d1 so1 n1 cap1 p1).toArray] W fun e w'=>∃x,e=.returned (.bool x)/\(x=true->∀y∈rfT s[j],y.1≠fsS)/\Below W.heap.size W w')):
  Calls prog 11 #[.agg (r8 k T a b c d so n cap p).toArray] w fun e w'=>∃x,e=.returned (.bool x)/\(x=true->∀y∈rfT (.mk k T a b c d s p),y.1≠fsS)/\Below w.heap.size w w':=by
 have q5:(k == 5&&T.toList == [102,111,114,100,95,115,116,97,114,116])=false:=by
  by_cases h5:k=5
  ·rw[Jv (hk h5),Bool.and_false]
  ·have:(k == 5)=false:=by simpa using h5
   rw[this,Bool.false_and]
 have HK:=hid hk;have HB1:Hid (Below w.heap.size w (w.alloc (.cells #[.int .i64 k,.string T,.int .u64 a,.int .u64 b,.int .u64 c,.int .u64 d,.slice so n cap,.int .i64 p] 30))):=(Below.refl _ w).alloc L0q _;have HC1:Hid ((w.alloc (.cells #[.int .i64 k,.string T,.int .u64 a,.int .u64 b,.int .u64 c,.int .u64 d,.slice so n cap,.int .i64 p] 30)).heap[w.heap.size]? =some (.cells #[.int .i64 k,.string T,.int .u64 a,.int .u64 b,.int .u64 c,.int .u64 d,.slice so n cap,.int .i64 p] 30)):=Qx w _ rfl;clear hk
 (try dsimp only[r8])
 rcases hkv:(k == 5)with _|_
 ·clear q5
  go_enter func11,ntmps11;obtain⟨⟨m0,m1,m2,m3,m4,m5,m6,m7⟩,_⟩:=Qv HC1.out
  go_wp2_with fail
  clear m0 m1 m2 m3 m4 m5 m6 m7
  go_loopw [3] (fun i wr=>∃j:Nat,i=.int .i64 j/\j<=n/\Hid (Below w.heap.size w wr)/\Hid (wr.heap[w.heap.size]? =some (.cells #[.int .i64 k,.string T,.int .u64 a,.int .u64 b,.int .u64 c,.int .u64 d,.slice so n cap,.int .i64 p] 30))/\Hid (∀i (hi:i<s.length),i<j->∀y∈rfT s[i],y.1≠fsS)) (fun i _=>n-(intOf i).toNat)
  case atStart=>exact⟨0,rfl,Nat.zero_le _,HB1,HC1,fun i _ h=>absurd h (by omega)⟩
  case round=>
   obtain⟨j,rfl,hj,HB,HCb,HO⟩:=hrel;clear HB1 HC1;obtain⟨⟨m0,m1,m2,m3,m4,m5,m6,m7⟩,_⟩:=Qv HCb.out;have hwl:w.heap.size<wr.heap.size:=Qz HCb.out;by_cases hjn:j<n
   ·have hjI:(j:Int)<(n:Int):=by omega
    have a0:decide ((j:Int)<(n:Int))=true:=by simp;omega
    have hjs:j<s.length:=by rw[<-HN.out];exact hjn
    obtain⟨g,o,rfl,hg,k1,T1,a1,b1,c1,d1,so1,n1,cap1,p1,rc,hc⟩:=HC.out j hjs;obtain⟨z0,z1,z2,z3,z4,z5,z6,z7⟩:=rc.below HB.out hg;have HG:=hid (hc wr HB.out);clear hc rc HC;dsimp only[r8]at HG
    go_wp2_with(first|(go_at_call 11;refine HG.out.mono ?_;rintro e wz ⟨x,rfl,hx,hbz⟩))
    ·rename_i hq
     have hb2:=HB.out.trans (hbz.mono HB.out.size);go_ret;exact⟨false,rfl,fun h=>(by cases h),hb2⟩
    ·rename_i hq
     have hb2:=HB.out.trans (hbz.mono HB.out.size);refine⟨⟨j+1,by go_num,by omega,hb2,hid ((hbz.block _ hwl).trans HCb.out),fun i hi hij=> ?_⟩,?_⟩
     ·rcases Nat.lt_or_ge i j with h1|h1
      ·exact HO.out i hi h1
      ·obtain rfl:i=j:=by omega
       exact hx (by simpa using hq)
     ·simp[intOf];omega
   ·have a0:decide ((j:Int)<(n:Int))=false:=by simp;omega
    go_wp2_with fail
    all_goals(go_ret;exact⟨true,rfl,fun _=>z5y HK.out fun i hi=>HO.out i hi (by have:=HN.out;omega),HB.out⟩)
 ·have t1:(T.toList == [102,111,114,100,95,115,116,97,114,116])=false:=by rw[hkv,Bool.true_and]at q5;exact q5
  clear q5;go_enter func11,ntmps11;obtain⟨⟨m0,m1,m2,m3,m4,m5,m6,m7⟩,_⟩:=Qv HC1.out
  go_wp2_with fail
  clear m0 m1 m2 m3 m4 m5 m6 m7
  go_loopw [3] (fun i wr=>∃j:Nat,i=.int .i64 j/\j<=n/\Hid (Below w.heap.size w wr)/\Hid (wr.heap[w.heap.size]? =some (.cells #[.int .i64 k,.string T,.int .u64 a,.int .u64 b,.int .u64 c,.int .u64 d,.slice so n cap,.int .i64 p] 30))/\Hid (∀i (hi:i<s.length),i<j->∀y∈rfT s[i],y.1≠fsS)) (fun i _=>n-(intOf i).toNat)
  case atStart=>exact⟨0,rfl,Nat.zero_le _,HB1,HC1,fun i _ h=>absurd h (by omega)⟩
  case round=>
   obtain⟨j,rfl,hj,HB,HCb,HO⟩:=hrel;clear HB1 HC1;obtain⟨⟨m0,m1,m2,m3,m4,m5,m6,m7⟩,_⟩:=Qv HCb.out;have hwl:w.heap.size<wr.heap.size:=Qz HCb.out;by_cases hjn:j<n
   ·have hjI:(j:Int)<(n:Int):=by omega
    have a0:decide ((j:Int)<(n:Int))=true:=by simp;omega
    have hjs:j<s.length:=by rw[<-HN.out];exact hjn
    obtain⟨g,o,rfl,hg,k1,T1,a1,b1,c1,d1,so1,n1,cap1,p1,rc,hc⟩:=HC.out j hjs;obtain⟨z0,z1,z2,z3,z4,z5,z6,z7⟩:=rc.below HB.out hg;have HG:=hid (hc wr HB.out);clear hc rc HC;dsimp only[r8]at HG
    go_wp2_with(first|(go_at_call 11;refine HG.out.mono ?_;rintro e wz ⟨x,rfl,hx,hbz⟩))
    ·rename_i hq
     have hb2:=HB.out.trans (hbz.mono HB.out.size);go_ret;exact⟨false,rfl,fun h=>(by cases h),hb2⟩
    ·rename_i hq
     have hb2:=HB.out.trans (hbz.mono HB.out.size);refine⟨⟨j+1,by go_num,by omega,hb2,hid ((hbz.block _ hwl).trans HCb.out),fun i hi hij=> ?_⟩,?_⟩
     ·rcases Nat.lt_or_ge i j with h1|h1
      ·exact HO.out i hi h1
      ·obtain rfl:i=j:=by omega
       exact hx (by simpa using hq)
     ·simp[intOf];omega
   ·have a0:decide ((j:Int)<(n:Int))=false:=by simp;omega
    go_wp2_with fail
    all_goals(go_ret;exact⟨true,rfl,fun _=>z5y HK.out fun i hi=>HO.out i hi (by have:=HN.out;omega),HB.out⟩)
theorem Im:∀(N:Nat) (t:RT) (cs:List Value) (B:Nat) (w:World),SizeOf.sizeOf t<N->Qk w B t cs->B<=w.heap.size->
  Calls prog 11 #[.agg cs.toArray] w fun e w'=>∃x,e=.returned (.bool x)/\(x=true->∀y∈rfT t,y.1≠fsS)/\Below w.heap.size w w'
 |0,t,_,_,_,h,_,_=>by omega
 |N+1,.mk k T a b c d s p,cs,B,w,hN,ht,hB=>by
  rw[Qk]at ht;obtain⟨so,cap,rfl,ht⟩:=ht;have hrow:Qw s<=9223372036854775807/\(∀j (hj:j<s.length),∃g o,so=some ⟨g,o,none⟩/\g<w.heap.size/\∃k1 T1 a1 b1 c1 d1 so1 n1 cap1 p1,Rc w g (o+j*8) k1 T1 a1 b1 c1 d1 (.slice so1 n1 cap1) p1/\
    ∀W:World,Below w.heap.size w W->Calls prog 11 #[.agg (r8 k1 T1 a1 b1 c1 d1 so1 n1 cap1 p1).toArray] W fun e w'=>∃x,e=.returned (.bool x)/\(x=true->∀y∈rfT s[j],y.1≠fsS)/\Below W.heap.size W w'):=by
   rcases ht with h1|⟨h1,g,o,rfl,hg,hm,hs⟩
   ·have hs0:s=[]:=by simpa using h1
    subst hs0;exact⟨by rw[Qw];omega,fun j hj=>by simp at hj⟩
   ·refine⟨by unfold maxLen at hm;omega,fun j hj=> ?_⟩
    obtain⟨k1,T1,a1,b1,c1,d1,so1,n1,cap1,p1,r1,r2⟩:=Ab hs j hj;refine⟨g,o,rfl,by omega,k1,T1,a1,b1,c1,d1,so1,n1,cap1,p1,r2,fun W hW=> ?_⟩;have hsz:=List.sizeOf_lt_of_mem (List.getElem_mem hj);simp only[RT.mk.sizeOf_spec]at hN;exact Im N s[j] _ B W (by omega) (r1.below (hW.mono hB)) (Nat.le_trans hB hW.size)
  by_cases h5:k=5/\T=fsS
  ·obtain⟨rfl,h5⟩:=h5
   refine(y4S T a b c d p so _ cap w h5).mono ?_;rintro e w' ⟨rfl,hb⟩;exact⟨false,rfl,fun h=>(by cases h),hb⟩
  ·exact y4T k T a b c d p so _ cap s w (fun h1 h2=>h5 ⟨h1,h2⟩) hrow.1 (hid (Xk s)) (hid hrow.2)
theorem z5z(w:World)(A B C:Obj):Below w.heap.size w (((w.alloc A).alloc B).alloc C)/\(((w.alloc A).alloc B).alloc C).heap[w.heap.size]? =some A/\(((w.alloc A).alloc B).alloc C).heap[w.heap.size+1]? =some B/\(((w.alloc A).alloc B).alloc C).heap[w.heap.size+1+1]? =some C:=by
 have s1:(w.alloc A).heap.size=w.heap.size+1:=by simp
 have s2:((w.alloc A).alloc B).heap.size=w.heap.size+1+1:=by simp
 have b1:Below w.heap.size w (w.alloc A):=(Below.refl _ w).alloc L0q _;have b2:Below (w.heap.size+1) (w.alloc A) ((w.alloc A).alloc B):=B0q.alloc (Nat.le_of_eq s1.symm) _;have b3:Below (w.heap.size+1+1) ((w.alloc A).alloc B) (((w.alloc A).alloc B).alloc C):=B0q.alloc (Nat.le_of_eq s2.symm) _;refine⟨b1.trans ((b2.mono (by omega)).trans (b3.mono (by omega))),?_,?_,?_⟩
 ·rw[b3.block _ (by omega),b2.block _ (by omega)];exact Qx w _ rfl
 ·rw[b3.block _ (by omega)];exact Qx (w.alloc A) _ s1.symm
 ·exact Qx ((w.alloc A).alloc B) _ s2.symm
def ApP(rs:List Rr)(t u:RT)(w:World)(e:Ending)(w':World):Prop:=∃x,e=.returned (.bool x)/\(x=true->(∀y∈rfT t,y.1≠fsS)/\(∀y∈rfT u,y.1≠fsS)/\∀r∈rs,∀y∈rfT r.2.1,y.1≠fsS)/\Below w.heap.size w w'
theorem y4U(so:Option Addr)(n cap:Nat)(rs:List Rr)(kx:Int)(Tx:ByteArray)(ax bx cx dx:Int)(sox:Option Addr)(nx capx:Nat)(px:Int)(kY:Int)(TY:ByteArray)(aY bY cY dY:Int)(soY:Option Addr)(nY capY:Nat)(pY:Int)(B0:Nat)(w:World)(t u:RT)(hn:n<=9223372036854775807)(HG:Hid (Qy w B0 so n rs))(hB:B0<=w.heap.size)
  (H1:Hid (∀W:World,Below w.heap.size w W->Calls prog 11 #[.agg #[.int .i64 kx,.string Tx,.int .u64 ax,.int .u64 bx,.int .u64 cx,.int .u64 dx,.slice sox nx capx,.int .i64 px]] W fun e w'=>∃x,e=.returned (.bool x)/\(x=true->∀y∈rfT t,y.1≠fsS)/\Below W.heap.size W w'))
  (H2:Hid (∀W:World,Below w.heap.size w W->Calls prog 11 #[.agg #[.int .i64 kY,.string TY,.int .u64 aY,.int .u64 bY,.int .u64 cY,.int .u64 dY,.slice soY nY capY,.int .i64 pY]] W fun e w'=>∃x,e=.returned (.bool x)/\(x=true->∀y∈rfT u,y.1≠fsS)/\Below W.heap.size W w')):
  Calls prog 6 #[.agg #[.slice so n cap],.agg #[.int .i64 kx,.string Tx,.int .u64 ax,.int .u64 bx,.int .u64 cx,.int .u64 dx,.slice sox nx capx,.int .i64 px],.agg #[.int .i64 kY,.string TY,.int .u64 aY,.int .u64 bY,.int .u64 cY,.int .u64 dY,.slice soY nY capY,.int .i64 pY]] w (ApP rs t u w):=by
 obtain⟨hB3,e0,e1,e2⟩:=z5z w (.cells #[.slice so n cap] 24) (.cells #[.int .i64 kx,.string Tx,.int .u64 ax,.int .u64 bx,.int .u64 cx,.int .u64 dx,.slice sox nx capx,.int .i64 px] 30) (.cells #[.int .i64 kY,.string TY,.int .u64 aY,.int .u64 bY,.int .u64 cY,.int .u64 dY,.slice soY nY capY,.int .i64 pY] 30);have HB3:=hid hB3;have E0:=hid e0;have E2:=hid e2;obtain⟨⟨m0,m1,m2,m3,m4,m5,m6,m7⟩,_⟩:=Qv e1;clear hB3 e0 e1 e2;have hB32:=hid (Qz E2.out);go_enter func6,ntmps6
 go_wp2_with(first|(go_at_call 11;refine(H1.out _ HB3.out).mono ?_;rintro e wq ⟨x1,rfl,hx1,hbq⟩;have EQ:=hid ((hbq.block _ hB32.out).trans E2.out);have EG:=hid ((hbq.block _ (Nat.lt_trans (Nat.lt_succ_self _) (Nat.lt_trans (Nat.lt_succ_self _) hB32.out))).trans E0.out);have HBq:=hid (HB3.out.trans (hbq.mono HB3.out.size));have hgq:=hid (Qz EG.out);clear hbq HB3 E0 E2 hB32 m0 m1 m2 m3 m4 m5 m6 m7 H1;obtain⟨⟨r0,r1,r2,r3,r4,r5,r6,r7⟩,_⟩:=Qv EQ.out)|(go_at_call 11;refine(H2.out _ HBq.out).mono ?_;rintro e wz ⟨x2,rfl,hx2,hbz⟩;have HBz:=hid (HBq.out.trans (hbz.mono HBq.out.size));have EZ:=hid ((hbz.block _ hgq.out).trans EG.out);clear hbz HBq EG EQ hgq r0 r1 r2 r3 r4 r5 r6 r7 H2))
 go_loopw [7,9] (fun o i wr=>∃(j:Nat) (x:Bool),o=.bool x/\i=.int .i64 j/\j<=n/\Hid (Below w.heap.size w wr)/\Hid (wr.heap[w.heap.size]? =some (.cells #[.slice so n cap] 24))/\Hid (x=true->(∀y∈rfT t,y.1≠fsS)/\∀i (hi:i<rs.length),i<j->∀y∈rfT rs[i].2.1,y.1≠fsS)) (fun _ i _=>n-(intOf i).toNat)
 case atStart=>exact⟨0,x1,rfl,rfl,Nat.zero_le _,HBz,EZ,fun h=>⟨hx1 h,fun i _ h=>absurd h (by omega)⟩⟩
 case round=>
  obtain⟨j,x,rfl,rfl,hj,HB,HCb,HO⟩:=hrel;clear HBz EZ;have m0:=(Qj HCb.out).1;have hwl:w.heap.size<wr.heap.size:=Qz HCb.out;have HGr:=hid (HG.out.below (HB.out.mono hB));have HN:=hid HG.out.1;by_cases hjn:j<n
  ·have hjI:(j:Int)<(n:Int):=by omega
   have a0:decide ((j:Int)<(n:Int))=true:=by simp;omega
   have hjs:j<rs.length:=by rw[<-HN.out];exact hjn
   obtain⟨g,o,rfl,hg,k1,T1,a1,b1,c1,d1,so1,n1,cap1,p1,rt,z0,z1,z2,z3,z4,z5,z6,z7,z8,z9⟩:=HGr.out.2.2 j hjs;have HE:=hid (Im (SizeOf.sizeOf rs[j].2.1+1) rs[j].2.1 _ B0 wr (Nat.lt_succ_self _) rt (Nat.le_trans hB HB.out.size));clear rt HGr z0 z9 HG;dsimp only[r8]at HE;rcases x with _|_
   all_goals go_wp2_with(first|(go_at_call 11;refine HE.out.mono ?_;rintro e wy ⟨x3,rfl,hx3,hby⟩))
   ·refine⟨⟨j+1,false,rfl,by go_num,by omega,hid (HB.out.trans (hby.mono HB.out.size)),hid ((hby.block _ hwl).trans HCb.out),fun h=>by cases h⟩,?_⟩
    simp[intOf];omega
   ·refine⟨⟨j+1,x3,rfl,by go_num,by omega,hid (HB.out.trans (hby.mono HB.out.size)),hid ((hby.block _ hwl).trans HCb.out),fun h=>⟨(HO.out (by first|rfl|trivial)).1,fun i hi hij=> ?_⟩⟩,?_⟩
    ·rcases Nat.lt_or_ge i j with h1|h1
     ·exact(HO.out (by first|rfl|trivial)).2 i hi h1
     ·obtain rfl:i=j:=by omega
      exact hx3 h
    ·simp[intOf];omega
  ·have a0:decide ((j:Int)<(n:Int))=false:=by simp;omega
   clear HG HGr;rcases x with _|_
   ·go_wp2_with fail
    all_goals(go_ret;exact⟨false,rfl,fun h=>(by cases h),HB.out⟩)
   ·rcases x2 with _|_
    ·go_wp2_with fail
     all_goals(go_ret;exact⟨false,rfl,fun h=>(by cases h),HB.out⟩)
    ·go_wp2_with fail
     all_goals(
      go_ret;refine⟨true,rfl,fun h=>⟨(HO.out (by first|rfl|trivial)).1,hx2 (by first|rfl|trivial),fun r hr=> ?_⟩,HB.out⟩;obtain⟨i,hi,rfl⟩:=List.getElem_of_mem hr;exact(HO.out (by first|rfl|trivial)).2 i hi (by have:=HN.out;omega))
theorem z5A(so:Option Addr)(n cap:Nat)(rs:List Rr)(t u:RT)(kx:Int)(Tx:ByteArray)(ax bx cx dx:Int)(sox:Option Addr)(nx capx:Nat)(px:Int)(kY:Int)(TY:ByteArray)(aY bY cY dY:Int)(soY:Option Addr)(nY capY:Nat)(pY:Int)(B:Nat)(w:World)(h:Qy w B so n rs)(ht:Qk w B t (r8 kx Tx ax bx cx dx sox nx capx px))(hu:Qk w B u (r8 kY TY aY bY cY dY soY nY capY pY))(hB:B<=w.heap.size)(W:World)(hW:Below w.heap.size w W):
  Calls prog 6 #[.agg #[.slice so n cap],.agg (r8 kx Tx ax bx cx dx sox nx capx px).toArray,.agg (r8 kY TY aY bY cY dY soY nY capY pY).toArray] W (ApP rs t u W):=
 y4U so n cap rs kx Tx ax bx cx dx sox nx capx px kY TY aY bY cY dY soY nY capY pY B W t u (Nat.le_trans h.2.1 (by unfold maxLen;omega)) (hid (h.below (hW.mono hB))) (Nat.le_trans hB hW.size)
  (hid fun W' hW'=>Im _ t _ B W' (Nat.lt_succ_self _) (ht.below ((hW.trans (hW'.mono hW.size)).mono hB)) (Nat.le_trans hB (Nat.le_trans hW.size hW'.size)))
  (hid fun W' hW'=>Im _ u _ B W' (Nat.lt_succ_self _) (hu.below ((hW.trans (hW'.mono hW.size)).mono hB)) (Nat.le_trans hB (Nat.le_trans hW.size hW'.size)))
theorem Ip(w:World)(A B:Obj):Below w.heap.size w ((w.alloc A).alloc B)/\((w.alloc A).alloc B).heap[w.heap.size]? =some A/\((w.alloc A).alloc B).heap[w.heap.size+1]? =some B:=by
 have s1:(w.alloc A).heap.size=w.heap.size+1:=by simp
 have b1:Below w.heap.size w (w.alloc A):=(Below.refl _ w).alloc L0q _;have b2:Below (w.heap.size+1) (w.alloc A) ((w.alloc A).alloc B):=B0q.alloc (Nat.le_of_eq s1.symm) _;refine⟨b1.trans (b2.mono (by omega)),?_,?_⟩
 ·rw[b2.block _ (by omega)];exact Qx w _ rfl
 ·exact Qx (w.alloc A) _ s1.symm
def AtP(M:Int->Value->Prop)(w:World)(e:Ending)(w':World):Prop:=∃x v r,M x v/\(v=.nilIface->r=x)/\(v≠.nilIface->r= -2)/\e=.returned (.int .i64 r)/\Below w.heap.size w w'
theorem y4V(so:Option Addr)(n cap:Nat)(kx:Int)(Tx:ByteArray)(ax bx cx dx:Int)(sox:Option Addr)(nx capx:Nat)(px:Int)(T:ByteArray)(f:Int)(w:World)(M:Int->Value->Prop)(hM:∀x v,M x v->v=.nilIface∨∃ty u,v=.iface ty u)
  (H1:Hid (∀W:World,Below w.heap.size w W->Calls prog 12 #[.agg #[.slice so n cap],.agg #[.int .i64 kx,.string Tx,.int .u64 ax,.int .u64 bx,.int .u64 cx,.int .u64 dx,.slice sox nx capx,.int .i64 px]] W fun e w'=>∃so' n' cap',e=.returned (.agg #[.slice so' n' cap'])/\Below W.heap.size W w'/\
    ∀W2:World,Below w'.heap.size w' W2->Calls prog 10 #[.agg #[.slice so' n' cap'],.int .i64 0,.string T,.int .i64 f,.int .i64 50000] W2 fun e w3=>∃x y v,e=.returned (.tuple #[.int .i64 x,.int .i64 y,v])/\M x v/\Below W2.heap.size W2 w3)):
  Calls prog 7 #[.agg #[.slice so n cap],.agg #[.int .i64 kx,.string Tx,.int .u64 ax,.int .u64 bx,.int .u64 cx,.int .u64 dx,.slice sox nx capx,.int .i64 px],.string T,.int .i64 f] w (AtP M w):=by
 obtain⟨hB3,e0,e1⟩:=Ip w (.cells #[.slice so n cap] 24) (.cells #[.int .i64 kx,.string Tx,.int .u64 ax,.int .u64 bx,.int .u64 cx,.int .u64 dx,.slice sox nx capx,.int .i64 px] 30);have HB3:=hid hB3;have HM:=hid hM;obtain⟨⟨m0,m1,m2,m3,m4,m5,m6,m7⟩,_⟩:=Qv e1;have m8:=(Qj e0).1;clear hB3 e0 e1 hM;go_enter func7,ntmps7
 go_wp2_with(first|(go_at_call 12;refine(H1.out _ HB3.out).mono ?_;rintro e wq ⟨soQ,nQ,capQ,rfl,hbq,H2⟩;clear m0 m1 m2 m3 m4 m5 m6 m7 m8 H1;have HH:=hid H2;have HBq:=hid (HB3.out.trans (hbq.mono HB3.out.size));clear hbq H2 HB3)|(go_at_call 10;refine(HH.out _ B0q).mono ?_;rintro e wz ⟨x,y,v,rfl,hxv,hbz⟩;have HV:=hid (HM.out x v hxv);have HX:=hid hxv;have HBz:=hid (HBq.out.trans (hbz.mono HBq.out.size));clear hbz HH HBq hxv;rcases HV.out with rfl|⟨ty,u,rfl⟩))
 ·go_ret
  exact⟨x,_,_,HX.out,fun _=>rfl,fun h=>absurd rfl h,rfl,HBz.out⟩
 ·go_ret
  exact⟨x,_,_,HX.out,fun h=>(by cases h),fun _=>rfl,rfl,HBz.out⟩
theorem y4W{P:Program}(w:World){ops:Array Oper}{o:Oper}{a:Act}{K:Act->World->Prop}{Q:Exit->Act->World->Prop}{E:Prop}(hgd:o.guard=none)(s x:Operand)(t:TypeId)
  (ho:o.op=.call {callee:=.builtin .append,args:=#[s,x],argTypes:=#[t,t]})
  (base:Nat)(e:TypeId)(i:TypeInfo)(z:Value)(size bytes:Nat)(ht:P.underlying t=some (.slice e))(hi:P.info? e=some i)(hz:i.zero=some z)
  (hsize:i.size=size)(hby:i.bytes=bytes)(hzs:z.cells.size=size)(hsz:0<size)
  (g n cap:Nat)(xs:List Value)(hs:a.eval s=.slice (some ⟨g,0,none⟩) n cap)(hown:w.ownsRow base e size (.slice (some ⟨g,0,none⟩) n cap) n xs)(hn:0<n)
  (so:Option Addr)(m c:Nat)(news:List Value)(hx:a.eval x=.slice so m c)(hl:news.length=m*size)(hnews:(so=none/\m=0)∨∃ad,so=some ad/\∀j u,news[j]? =some u->w.cell? (ad.add j)=some u)(h1:∀u∈news,u.oneCell'=true)
  (h63:n+m<=maxLen)(hbytes:(n+m)*bytes<=140737488355328)(hbase:base<=w.heap.size)
  (h:∀g' cap' w',w'.ownsRow base e size (.slice (some ⟨g',0,none⟩) (n+m) cap') (n+m) (xs++news)->w.grownBy w' (some g)->K (a.put o.dst (.slice (some ⟨g',0,none⟩) (n+m) cap')) w'):
  if Region.wanted o (yielded ops a.tmps)=true then Oper.wp P o a w K Q else E:=by
 have hw:Region.wanted o (yielded ops a.tmps)=true:=by simp[Region.wanted,hgd]
 rw[if_pos hw];have hr:∃g' cap' w',(Builtin.append_ #[t,t] o.type #[.slice (some ⟨g,0,none⟩) n cap,.slice so m c]).run P w=.ok (.slice (some ⟨g',0,none⟩) (n+m) cap') w'/\w'.ownsRow base e size (.slice (some ⟨g',0,none⟩) (n+m) cap') (n+m) (xs++news)/\w.grownBy w' (some g):=by
  rcases hnews with⟨rfl,rfl⟩|⟨ad,rfl,hnews⟩
  ·have hnil:news=[]:=List.eq_nil_of_length_eq_zero (by simpa using hl)
   subst hnil;rcases hown.2 with⟨h0,_⟩|⟨g',cap',cur,hv,hbg,hg,hnc,hcm,hcs,htake⟩
   ·cases h0
   ·injection hv with e1 e2 e3
    injection e1 with e1
    injection e1 with e1
    subst e1 e3;refine⟨g,cap,w,?_,by simpa using hown,⟨rfl,rfl,rfl,Nat.le_refl _,fun _ _ _=>rfl⟩⟩;simp[Builtin.append_,run_underlying ht,sizeOf,typeInfo,hi,Builtin.lenOf,hnc,Builtin.firstCells,storeCells]
  ·obtain⟨v',w',hr,h2,h3,_,_⟩:=run_append_own_at (P:=P) w base t o.type e i z size bytes ht hi hz hsize hby hzs hsz _ n xs hown ad m c news hl hnews h1 h63 hbytes hbase
   obtain⟨g',cap',rfl,_,hlt⟩:=h2.form (by omega);exact⟨g',cap',w',hr,h2,h3⟩
 obtain⟨g',cap',w',hr,h2,h3⟩:=hr;unfold Oper.wp execOp;simp only[ho,resolve,invoke,builtin,Sem.run_bind,Sem.run_pure,Result.andThen_ok,List.map_toArray,List.map_cons,List.map_nil,hs,hx,hr];exact h g' cap' w' h2 h3
theorem z5B(g o j:Nat):(⟨g,o,none⟩:Addr).add j=⟨g,o+j,none⟩:=by unfold Addr.add;split<;>simp_all
theorem Rk.moved{w w':World}{B B' g o g' o':Nat}{x:Rr}(h:Rk w B g o x)(hc:∀q,q<10->w'.cell? ⟨g',o'+q,none⟩=w.cell? ⟨g,o+q,none⟩)(hb:Below B w w')(hB:B<=B'):Rk w' B' g' o' x:=by
 obtain⟨k,T,a,b,c,d,so,n,cap,p,h1,z0,z1,z2,z3,z4,z5,z6,z7,z8,z9⟩:=h;exact⟨k,T,a,b,c,d,so,n,cap,p,Qk.upto hB _ _ (h1.below hb),(hc 0 (by omega)).trans z0,(hc 1 (by omega)).trans z1,(hc 2 (by omega)).trans z2,(hc 3 (by omega)).trans z3,(hc 4 (by omega)).trans z4,(hc 5 (by omega)).trans z5,(hc 6 (by omega)).trans z6,(hc 7 (by omega)).trans z7,(hc 8 (by omega)).trans z8,(hc 9 (by omega)).trans z9⟩
theorem Rk.okay{w:World}{B g o:Nat}{x:Rr}(h:Rk w B g o x)(q:Nat)(hq:q<10):∃v,w.cell? ⟨g,o+q,none⟩=some v/\v.oneCell'=true:=by
 obtain⟨k,T,a,b,c,d,so,n,cap,p,h1,z0,z1,z2,z3,z4,z5,z6,z7,z8,z9⟩:=h
 match q,hq with
 |0,_=>exact⟨_,z0,rfl⟩
 |1,_=>exact⟨_,z1,rfl⟩
 |2,_=>exact⟨_,z2,rfl⟩
 |3,_=>exact⟨_,z3,rfl⟩
 |4,_=>exact⟨_,z4,rfl⟩
 |5,_=>exact⟨_,z5,rfl⟩
 |6,_=>exact⟨_,z6,rfl⟩
 |7,_=>exact⟨_,z7,rfl⟩
 |8,_=>exact⟨_,z8,rfl⟩
 |9,_=>exact⟨_,z9,rfl⟩
theorem y4X{w:World}{B n:Nat}{so:Option Addr}{rs:List Rr}(h:Qy w B so n rs):∃xs:List Value,xs.length=n*10/\(∀u∈xs,u.oneCell'=true)/\((n=0/\xs=[])∨∃g o,so=some ⟨g,o,none⟩/\g<B/\∀i u,xs[i]? =some u->w.cell? ⟨g,o+i,none⟩=some u):=by
 rcases Nat.eq_zero_or_pos n with rfl|hn
 ·refine⟨[],rfl,?_,.inl ⟨rfl,rfl⟩⟩
  intro u hu;cases hu
 obtain⟨g,o,rfl,hg,_⟩:=h.2.2 0 (by have:=h.1;omega);have hk:∀i,i<n*10->∃v,w.cell? ⟨g,o+i,none⟩=some v/\v.oneCell'=true:=fun i hi=>by
  obtain⟨g',o',e,_,hr⟩:=h.2.2 (i/10) (by have:=h.1;omega);simp only[Option.some.injEq,Addr.mk.injEq,and_true]at e;obtain⟨rfl,rfl⟩:=e;have:=hr.okay (i%10) (by omega);rw[Nat.add_assoc,show i/10*10+i%10=i by omega]at this;exact this
 refine⟨(List.range (n*10)).map fun i=>(w.cell? ⟨g,o+i,none⟩).getD .nilIface,by simp,fun u hu=> ?_,.inr ⟨g,o,rfl,hg,fun i u hu=> ?_⟩⟩
 ·obtain⟨i,hi,rfl⟩:=List.mem_map.1 hu
  obtain⟨v,hv,ho⟩:=hk i (List.mem_range.1 hi);rw[hv];exact ho
 ·rw[List.getElem?_map]at hu
  rcases Nat.lt_or_ge i (n*10)with hi|hi
  ·rw[List.getElem?_range hi]at hu
   obtain⟨v,hv,_⟩:=hk i hi;have hu':(w.cell? ⟨g,o+i,none⟩).getD .nilIface=u:=Option.some.inj hu;rw[hv]at hu' ⊢;exact congrArg some hu'
  ·rw[List.getElem?_eq_none (by simpa using hi)]at hu
   cases hu
theorem y4Y{w w':World}{B B' base n g6 cap6:Nat}{so:Option Addr}{rs:List Rr}{xs news:List Value}{q:ByteArray}{t:RT}(h:Qy w B so n rs)(hl:xs.length=n*10)(hx:(n=0/\xs=[])∨∃g o,so=some ⟨g,o,none⟩/\g<B/\∀i u,xs[i]? =some u->w.cell? ⟨g,o+i,none⟩=some u)(hb:Below B w w')(hB:B<=B')(hn:n+1<=maxLen)(hg6:g6<B')(hnl:news.length=10)
  (hown:w'.ownsRow base 46 10 (.slice (some ⟨g6,0,none⟩) (n+1) cap6) (n+1) (news++xs))(hR:(∀q u,news[q]? =some u->w'.cell? ⟨g6,0+q,none⟩=some u)->Rk w' B' g6 0 (q,t,0)):Qy w' B' (some ⟨g6,0,none⟩) (n+1) (wiG q t rs):=by
 have hc:=hown.cells (g:=g6) rfl;have hc2:∀j u,(news++xs)[j]? =some u->w'.cell? ⟨g6,0+j,none⟩=some u:=fun j u hj=>by
  have:=hc j u hj;rw[z5B]at this;exact this
 refine⟨by unfold wiG;rw[List.length_cons,<-h.1],hn,fun j hj=>⟨g6,0,rfl,hg6,?_⟩⟩;rcases j with _|j
 ·show Rk w' B' g6 (0+0*10) (q,t,0)
  rw[Nat.zero_mul];refine hR fun q u hq=>hc2 q u ?_
  rw[List.getElem?_append_left (by rw[List.getElem?_eq_some_iff]at hq;exact hq.1)];exact hq
 ·have hjn:j<rs.length:=by unfold wiG at hj;simpa using hj
  show Rk w' B' g6 (0+(j+1)*10) rs[j];rcases hx with⟨h0,_⟩|⟨g0,o0,rfl,hg0,hx⟩
  ·have:=h.1;omega
  obtain⟨g',o',e,_,hr⟩:=h.2.2 j hjn;simp only[Option.some.injEq,Addr.mk.injEq,and_true]at e;obtain⟨rfl,rfl⟩:=e;refine hr.moved (fun q hq=> ?_) hb hB;have hlt:j*10+q<xs.length:=by rw[hl,h.1];omega
  have e1:=hx (j*10+q) _ (List.getElem?_eq_getElem hlt);have e2:=hc2 ((j+1)*10+q) xs[j*10+q] (by rw[List.getElem?_append_right (by omega),hnl,show(j+1)*10+q-10=j*10+q by omega,List.getElem?_eq_getElem hlt]);rw[Nat.add_assoc,Nat.add_assoc,e1,e2]
theorem y4Z(w:World)(A B C D:Obj):Below w.heap.size w ((((w.alloc A).alloc B).alloc C).alloc D)/\((((w.alloc A).alloc B).alloc C).alloc D).heap[w.heap.size]? =some A/\((((w.alloc A).alloc B).alloc C).alloc D).heap[w.heap.size+1]? =some B/\((((w.alloc A).alloc B).alloc C).alloc D).heap[w.heap.size+1+1]? =some C/\((((w.alloc A).alloc B).alloc C).alloc D).heap[w.heap.size+1+1+1]? =some D/\((((w.alloc A).alloc B).alloc C).alloc D).heap.size=w.heap.size+1+1+1+1:=by
 obtain⟨h1,h2,h3,h4⟩:=z5z w A B C;have s3:(((w.alloc A).alloc B).alloc C).heap.size=w.heap.size+1+1+1:=by simp
 have b4:Below (w.heap.size+1+1+1) (((w.alloc A).alloc B).alloc C) ((((w.alloc A).alloc B).alloc C).alloc D):=B0q.alloc (Nat.le_of_eq s3.symm) _;refine⟨h1.trans (b4.mono (by omega)),?_,?_,?_,?_,by simp⟩
 ·rw[b4.block _ (by omega)];exact h2
 ·rw[b4.block _ (by omega)];exact h3
 ·rw[b4.block _ (by omega)];exact h4
 ·exact Qx (((w.alloc A).alloc B).alloc C) _ s3.symm
theorem y5a{w Wz w5:World}{X:Obj}(hb:Below w.heap.size w Wz)(h5:(Wz.alloc X).drew.grownBy w5 none):Below w.heap.size w w5/\(∀g,g<Wz.heap.size->w5.heap[g]? =Wz.heap[g]?)/\Wz.heap.size+1<=w5.heap.size:=by
 have s5:(Wz.alloc X).heap.size<=w5.heap.size:=h5.size;rw[World.size_alloc]at s5;have hk:∀g,g<Wz.heap.size->w5.heap[g]? =Wz.heap[g]? :=fun g hg=>(h5.block g (by show _<(Wz.alloc X).heap.size;rw[World.size_alloc];omega) (fun e=>by cases e)).trans (Below.heap_alloc _ _ _ hg)
 exact⟨(hb.alloc hb.size X).drew.grown h5 (Nat.le_trans hb.size (by show _<=(Wz.alloc X).heap.size;rw[World.size_alloc];omega)) (fun k e=>by cases e),hk,s5⟩
theorem y5b{w Wz w5 w6:World}{M g5 n cap5:Nat}{xs:List Value}(hZ:Wz.heap.size=M+1)(hw:w.heap.size<=M)(hb:Below w.heap.size w w5)(hk:∀g,g<Wz.heap.size->w5.heap[g]? =Wz.heap[g]?)(hs:Wz.heap.size+1<=w5.heap.size)(hown:w5.ownsRow (M+1) 46 10 (.slice (some ⟨g5,0,none⟩) n cap5) n xs)(h6:w5.grownBy w6 (some g5)):Below w.heap.size w w6/\∀g,g<Wz.heap.size->w6.heap[g]? =Wz.heap[g]? :=by
 have hg:M+1<=g5:=(hown.lt g5 rfl).1;refine⟨hb.grown h6 (by omega) (fun k e=>by have:=Option.some.inj e;omega),fun g hg'=>(h6.block g (by omega) (fun e=>by have:=Option.some.inj e;omega)).trans (hk g hg')⟩
theorem y5c{w w6:World}{M R B g6 cap6 n:Nat}{so:Option Addr}{rs:List Rr}{k a1 b1 c1 d1 p:Int}{T:ByteArray}{so1:Option Addr}{n1 cap1:Nat}{t:RT}{xs:List Value}(hM:w.heap.size<=M)(hR:w.heap.size<=R)(hRM:R<=M)(h:Qy w B so n rs)(hB:B<=w.heap.size)(hw:Below w.heap.size w w6)
  (ht:Qk w B t (r8 k T a1 b1 c1 d1 so1 n1 cap1 p))(hn:n+1<=maxLen)(hl:xs.length=n*10)(hx:(n=0/\xs=[])∨∃g o,so=some ⟨g,o,none⟩/\g<B/\∀i u,xs[i]? =some u->w.cell? ⟨g,o+i,none⟩=some u)
  (hown:w6.ownsRow (M+1) 46 10 (.slice (some ⟨g6,0,none⟩) (n+1) cap6) (n+1) ([.string {data:=#[102,111,114,100,95,115,116,97,114,116]},.int .i64 k,.string T,.int .u64 a1,.int .u64 b1,.int .u64 c1,.int .u64 d1,.slice so1 n1 cap1,.int .i64 p,.int .i64 0]++xs))(v v':Value):
  Qy ((w6.setCell ⟨M,0,none⟩ v).setCell ⟨R,0,none⟩ v') ((w6.setCell ⟨M,0,none⟩ v).setCell ⟨R,0,none⟩ v').heap.size (some ⟨g6,0,none⟩) (n+1) (wiG fsS t rs)/\Below w.heap.size w ((w6.setCell ⟨M,0,none⟩ v).setCell ⟨R,0,none⟩ v'):=by
 have hB7:Below w.heap.size w ((w6.setCell ⟨M,0,none⟩ v).setCell ⟨R,0,none⟩ v'):=(hw.setCell (p:=⟨M,0,none⟩) hM v).setCell (p:=⟨R,0,none⟩) hR v';refine⟨?_,hB7⟩;have hg6:M+1<=g6/\g6<w6.heap.size:=hown.lt g6 rfl;have hown7:=ownsRow_setCell_below (ownsRow_setCell_below hown (a:=⟨M,0,none⟩) (Nat.lt_succ_self M) v) (a:=⟨R,0,none⟩) (Nat.lt_succ_of_le hRM) v';have hs7:((w6.setCell ⟨M,0,none⟩ v).setCell ⟨R,0,none⟩ v').heap.size=w6.heap.size:=by rw[World.size_setCell,World.size_setCell]
 obtain⟨W7,hW7⟩:∃W7,W7=(w6.setCell ⟨M,0,none⟩ v).setCell ⟨R,0,none⟩ v':=⟨_,rfl⟩;rw[<-hW7]at hB7 hown7 hs7 ⊢;refine y4Y h hl hx (hB7.mono hB) (Nat.le_trans hB hB7.size) hn (by omega) rfl hown7 fun hc=> ?_
 exact⟨k,T,a1,b1,c1,d1,so1,n1,cap1,p,Qk.upto (Nat.le_trans hB hB7.size) _ _ (ht.below (hB7.mono hB)),hc 0 _ rfl,hc 1 _ rfl,hc 2 _ rfl,hc 3 _ rfl,hc 4 _ rfl,hc 5 _ rfl,hc 6 _ rfl,hc 7 _ rfl,hc 8 _ rfl,hc 9 _ rfl⟩
def WiP(rs:List Rr)(t:RT)(n:Nat)(w:World)(e:Ending)(w':World):Prop:=∃g6 cap6,e=.returned (.agg #[.slice (some ⟨g6,0,none⟩) (n+1) cap6])/\Qy w' w'.heap.size (some ⟨g6,0,none⟩) (n+1) (wiG fsS t rs)/\Below w.heap.size w w'
theorem y5d(so:Option Addr)(n cap:Nat)(rs:List Rr)(k:Int)(T:ByteArray)(a1 b1 c1 d1:Int)(so1:Option Addr)(n1 cap1:Nat)(p:Int)(t:RT)(B:Nat)(w:World)(h:Qy w B so n rs)(hB:B<=w.heap.size)(hn:n*112<=140737488351232)(ht:Qk w B t (r8 k T a1 b1 c1 d1 so1 n1 cap1 p)):
  Calls prog 12 #[.agg #[.slice so n cap],.agg #[.int .i64 k,.string T,.int .u64 a1,.int .u64 b1,.int .u64 c1,.int .u64 d1,.slice so1 n1 cap1,.int .i64 p]] w (WiP rs t n w):=by
 obtain⟨xs,hxl,hxo,hxc⟩:=y4X h;obtain⟨Wz,hWz⟩:∃Wz,Wz=(((w.alloc (.cells #[.slice so n cap] 24)).alloc (.cells #[.int .i64 k,.string T,.int .u64 a1,.int .u64 b1,.int .u64 c1,.int .u64 d1,.slice so1 n1 cap1,.int .i64 p] 30)).alloc Zg).alloc Zg:=⟨_,rfl⟩;obtain⟨M,hM⟩:∃M,M=w.heap.size+1+1+1:=⟨_,rfl⟩;obtain⟨hBz,e0,e1,e2,e3,hZz⟩:=y4Z w (.cells #[.slice so n cap] 24) (.cells #[.int .i64 k,.string T,.int .u64 a1,.int .u64 b1,.int .u64 c1,.int .u64 d1,.slice so1 n1 cap1,.int .i64 p] 30) Zg Zg;rw[<-hWz]at hBz e0 e1 e2 e3 hZz;rw[<-hM]at e3 hZz;have HBz:=hid hBz;have HR:=hid e2;have HMz:=hid e3;have HM:=hid hM;have HRg:=hid h;have HTr:=hid ht;have HXl:=hid hxl;have HXc:=hid hxc;have HXo:=hid hxo;have HWz:=hid hWz;obtain⟨iT,hiT,hzT0,hzT1,hzT2⟩:=info_parts Tryz.infoRl;have H0:=hid e0;have H1:=hid e1;clear hBz e2 e3 hM hWz h ht hxl hxc hxo e0 e1;go_enter func12,ntmps12
 go_wp2_with fail
 rw[<-HWz.out];clear HWz
 (try rw[<-HM.out])
 go_cut [14] (fun c wx=>∃(g6 cap6:Nat) (w6:World),wx=w6.setCell ⟨M,0,none⟩ (.slice (some ⟨g6,0,none⟩) (n+1) cap6)/\Hid (w6.heap[M]? =some Zg)/\Hid (w6.heap[w.heap.size+1+1]? =some Zg)/\Hid (Below w.heap.size w w6)/\Hid (w6.ownsRow (M+1) 46 10 (.slice (some ⟨g6,0,none⟩) (n+1) cap6) (n+1) ([.string {data:=#[102,111,114,100,95,115,116,97,114,116]},.int .i64 k,.string T,.int .u64 a1,.int .u64 b1,.int .u64 c1,.int .u64 d1,.slice so1 n1 cap1,.int .i64 p,.int .i64 0]++xs)))
 case first=>
  have HZz:Hid (Wz.heap.size=M+1):=hZz;obtain⟨y0,yf⟩:=Qj H0.out;obtain⟨⟨q0,q1,q2,q3,q4,q5,q6,q7⟩,qf⟩:=Qv H1.out;obtain⟨mz,mf⟩:=Qj HMz.out;have lM:M<Wz.heap.size:=by omega
  have lG:w.heap.size<Wz.heap.size:=Qz H0.out;have lN:w.heap.size+1<Wz.heap.size:=Qz H1.out;have HLR:=hid (Qz HR.out);have HLG:=hid lG;have HLM:=hid lM;have hwM:w.heap.size<=M:=by have:=HM.out;omega
  have m0:0<(10:Nat):=by decide
  have m9:0<(1:Nat):=by decide
  have HNw:Hid (∀u∈([.string {data:=#[102,111,114,100,95,115,116,97,114,116]},.int .i64 k,.string T,.int .u64 a1,.int .u64 b1,.int .u64 c1,.int .u64 d1,.slice so1 n1 cap1,.int .i64 p,.int .i64 0]:List Value),u.oneCell'=true):=Om _ _ _ _ _ _ _ _ _ _ _ _;have HTn:Hid (∀j x,([.string {data:=#[102,111,114,100,95,115,116,97,114,116]},.int .i64 k,.string T,.int .u64 a1,.int .u64 b1,.int .u64 c1,.int .u64 d1,.slice so1 n1 cap1,.int .i64 p,.int .i64 0]:List Value)[j]? =some x->(Wz.alloc (.cells ([.string {data:=#[102,111,114,100,95,115,116,97,114,116]},.int .i64 k,.string T,.int .u64 a1,.int .u64 b1,.int .u64 c1,.int .u64 d1,.slice so1 n1 cap1,.int .i64 p,.int .i64 0]:List Value).toArray 46)).drew.cell? ((⟨Wz.heap.size,0,none⟩:Addr).add j)=some x):=by
   have h1:=Od Wz (.string {data:=#[102,111,114,100,95,115,116,97,114,116]}) (.int .i64 k) (.string T) (.int .u64 a1) (.int .u64 b1) (.int .u64 c1) (.int .u64 d1) (.slice so1 n1 cap1) (.int .i64 p) (.int .i64 0) 46;exact h1
  have m6:M+1<=(Wz.alloc (.cells ([.string {data:=#[102,111,114,100,95,115,116,97,114,116]},.int .i64 k,.string T,.int .u64 a1,.int .u64 b1,.int .u64 c1,.int .u64 d1,.slice so1 n1 cap1,.int .i64 p,.int .i64 0]:List Value).toArray 46)).drew.heap.size:=by show _<=(Wz.alloc _).heap.size;rw[World.size_alloc];omega
  have m1:0+1<=maxLen:=by decide
  have m2:(0+1)*112<=140737488355328:=by decide
  have m3:0+1+n<=maxLen:=by unfold maxLen;omega
  have m4:(0+1+n)*112<=140737488355328:=by omega
  have m5:0<0+1:=by decide
  have HXW:Hid (∀W,Below w.heap.size w W->(so=none/\n=0)∨∃ad,so=some ad/\∀j u,xs[j]? =some u->W.cell? (ad.add j)=some u):=fun W hW=>by
   rcases HXc.out with⟨h0,hx⟩|⟨g,o,e,hg,hc⟩
   ·cases so with
    |none=>exact .inl ⟨rfl,h0⟩
    |some ad=>exact .inr ⟨ad,rfl,fun j u hj=>by rw[hx]at hj;simp at hj⟩
   ·refine .inr ⟨_,e,fun j u hj=> ?_⟩
    rw[z5B];exact(hW.cell (p:=⟨g,o+j,none⟩) (by show g<_;omega)).trans (hc j u hj)
  have HMS:Hid (∀w5:World,Wz.heap.size+1<=w5.heap.size->M+1<=w5.heap.size):=fun w5 h5=>by have:=HZz.out;omega
  clear hZz
  go_region_law (first
   |(refine step_append_lies _ rfl (.tmp 7) (.tmp 10) 22 rfl (M+1) 46 iT (.agg #[.string ⟨#[]⟩,.int .i64 0,.string ⟨#[]⟩,.int .u64 0,.int .u64 0,.int .u64 0,.int .u64 0,.slice none 0 0,.int .i64 0,.int .i64 0]) 10 112 Tryz.underlying22 hiT hzT0 hzT1 hzT2 rfl m0 (.slice none 0 0) 0 [] (by rfl) (World.ownsRow_nil _ _ _ _) ⟨Wz.heap.size,0,none⟩ 1 1 [.string {data:=#[102,111,114,100,95,115,116,97,114,116]},.int .i64 k,.string T,.int .u64 a1,.int .u64 b1,.int .u64 c1,.int .u64 d1,.slice so1 n1 cap1,.int .i64 p,.int .i64 0] (by rfl) rfl HTn.out HNw.out m9 m1 m2 m6 _ rfl ?_;intro g5 cap5 w5 hown5 hgr5 hat5 hlt5;have H5:=hid (y5a HBz.out hgr5);have K0:=(H5.out.2.1 _ HLG.out).trans H0.out;have t0:=(Qj K0).1;have t1:=Qz K0)
   |(refine y4W _ rfl (.tmp 11) (.tmp 13) 22 rfl (M+1) 46 iT (.agg #[.string ⟨#[]⟩,.int .i64 0,.string ⟨#[]⟩,.int .u64 0,.int .u64 0,.int .u64 0,.int .u64 0,.slice none 0 0,.int .i64 0,.int .i64 0]) 10 112 Tryz.underlying22 hiT hzT0 hzT1 hzT2 rfl m0 g5 (0+1) cap5 ([]++[.string {data:=#[102,111,114,100,95,115,116,97,114,116]},.int .i64 k,.string T,.int .u64 a1,.int .u64 b1,.int .u64 c1,.int .u64 d1,.slice so1 n1 cap1,.int .i64 p,.int .i64 0]) (by first|rfl|simp[Act.eval]) hown5 m5 so n cap xs (by rfl) HXl.out (HXW.out _ H5.out.1) HXo.out m3 m4 (HMS.out _ H5.out.2.2) ?_;intro g6 cap6 w6 hown6 hgr6;have H6:=hid (y5b HZz.out hwM H5.out.1 H5.out.2.1 H5.out.2.2 hown5 hgr6);have k6:=(H6.out.2 _ HLM.out).trans HMz.out;obtain⟨z0,z1⟩:=Qj k6;have z2:=Qz k6))
  all_goals(
   go_wp2_with fail
   go_meet
   case rel=>exact⟨g6,cap6,w6,(by first|rfl|simp only[Nat.add_comm]),hid k6,hid ((H6.out.2 _ HLR.out).trans HR.out),hid H6.out.1,hid (by simpa only[Nat.zero_add,List.nil_append,Nat.add_comm]using hown6)⟩)
 case rest=>
  obtain⟨g6,cap6,w6,hwx,HMx,HRx,HB6,HO6⟩:=hcut;subst hwx;have hk7:(w6.setCell ⟨M,0,none⟩ (.slice (some ⟨g6,0,none⟩) (n+1) cap6)).heap[M]? =some (.cells #[.slice (some ⟨g6,0,none⟩) (n+1) cap6] 24):=Zz HMx.out 0 _;have hne:M≠w.heap.size+1+1:=by have:=HM.out;omega
  have hr7:(w6.setCell ⟨M,0,none⟩ (.slice (some ⟨g6,0,none⟩) (n+1) cap6)).heap[w.heap.size+1+1]? =some Zg:=(Below.heap_setCell _ _ _ _ (fun e=>hne e.symm)).trans HRx.out;have HEnd:=hid (y5c (R:=w.heap.size+1+1) (by have:=HM.out;omega) (by omega) (by have:=HM.out;omega) HRg.out hB HB6.out HTr.out (by unfold maxLen;omega) HXl.out HXc.out HO6.out (.slice (some ⟨g6,0,none⟩) (n+1) cap6) (.slice (some ⟨g6,0,none⟩) (n+1) cap6));obtain⟨wx,hwx⟩:∃wx,wx=w6.setCell ⟨M,0,none⟩ (.slice (some ⟨g6,0,none⟩) (n+1) cap6):=⟨_,rfl⟩;rw[<-hwx]at hk7 hr7 HEnd;rw[<-hwx];obtain⟨x7,f7⟩:=Qj hk7;obtain⟨x8,f8⟩:=Qj hr7;have HR7:=hid hr7;have l7:=Qz hk7;have l8:=Qz hr7;clear hwx HMx HRx HB6 HO6 hne HRg HTr HXl HXc HXo HBz HMz HR H0 H1 hiT hzT0 hzT1 hzT2 hk7 hr7 hZz
  go_wp2_with fail
  have r0:(wx.setCell ⟨w.heap.size+1+1,0,none⟩ (.slice (some ⟨g6,0,none⟩) (n+1) cap6)).cell? ⟨w.heap.size+1+1,0,none⟩=some (.slice (some ⟨g6,0,none⟩) (n+1) cap6):=(Qj (Zz HR7.out 0 _)).1;refine bodyPost_ret (v:=.agg #[.slice (some ⟨g6,0,none⟩) (n+1) cap6]) (by simp[results,Tryz.results12,go_sem,r0]) rfl ⟨g6,cap6,rfl,HEnd.out.1,HEnd.out.2⟩
end Go.Proofs.YtgmcjddjdidpjabGreatDoor
