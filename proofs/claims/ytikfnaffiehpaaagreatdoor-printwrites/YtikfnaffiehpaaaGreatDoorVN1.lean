/- Lemmas for the last text. Conditions: those that each names. -/
import Derived.Test.YtikfnaffiehpaaaGreatDoorVR9ToS2
import Derived.Test.YtikfnaffiehpaaaGreatDoorVS3ToXK1
set_option linter.unusedVariables false
set_option maxRecDepth 100000
set_option maxHeartbeats 16000000
namespace Go.Proofs.YtikfnaffiehpaaaGreatDoor
open Go.Proofs.Tryz
open Go.RowKit Go.Shelf
theorem Jk(a b c d:Int)(w:World):(Op.equalIn 10000 27 (.agg #[.int .u64 a,.int .u64 b,.int .u64 c,.int .u64 d]) (.agg #[.int .u64 0,.int .u64 0,.int .u64 0,.int .u64 0])).run prog w=.ok (zc a b c d) w:=Ic 9998 w a b c d 0 0 0 0
theorem y0i(T:ByteArray)(a b c d p:Int)(so:Option Addr)(n cap:Nat)(s:List RT)(w:World)(hT:T.size<=9223372036854775807)(hn:n<=9223372036854775807)(HN:Hid (n=s.length))
  (HC:Hid (∀j (hj:j<s.length),∃g o,so=some ⟨g,o,none⟩/\g<w.heap.size/\∃k1 T1 a1 b1 c1 d1 so1 n1 cap1 p1,Rc w g (o+j*8) k1 T1 a1 b1 c1 d1 (.slice so1 n1 cap1) p1/\
    ∀W:World,Below w.heap.size w W->Calls prog 35 #[.agg (r8 k1 T1 a1 b1 c1 d1 so1 n1 cap1 p1).toArray] W fun e w'=>e=.returned (.bool (okT s[j]))/\Below W.heap.size W w')):
  Calls prog 35 #[.agg (r8 1 T a b c d so n cap p).toArray] w fun e w'=>e=.returned (.bool (okN 1 T a b c d n&&okL s))/\Below w.heap.size w w':=by
 obtain⟨R,hR⟩:∃R,R=(okN 1 T a b c d n&&okL s):=⟨_,rfl⟩;have HR:=hid hR;rw[<-hR];clear hR;have e3:=Jk a b c d;have HNm:=hid (fun w=>Uv T w hT);have HB1:Hid (Below w.heap.size w (w.alloc (.cells #[.int .i64 1,.string T,.int .u64 a,.int .u64 b,.int .u64 c,.int .u64 d,.slice so n cap,.int .i64 p] 30))):=(Below.refl _ w).alloc L0q _;have HC1:Hid ((w.alloc (.cells #[.int .i64 1,.string T,.int .u64 a,.int .u64 b,.int .u64 c,.int .u64 d,.slice so n cap,.int .i64 p] 30)).heap[w.heap.size]? =some (.cells #[.int .i64 1,.string T,.int .u64 a,.int .u64 b,.int .u64 c,.int .u64 d,.slice so n cap,.int .i64 p] 30)):=Qq w _ rfl
 (try dsimp only[r8])
 go_enter func35,ntmps35
 go_wp2_with fail
 go_loopw [3] (fun i wr=>∃j:Nat,i=.int .i64 j/\j<=n/\Hid (Below w.heap.size w wr)/\Hid (wr.heap[w.heap.size]? =some (.cells #[.int .i64 1,.string T,.int .u64 a,.int .u64 b,.int .u64 c,.int .u64 d,.slice so n cap,.int .i64 p] 30))/\Hid (∀i (hi:i<s.length),i<j->okT s[i]=true)) (fun i _=>n-(intOf i).toNat)
 case atStart=>exact⟨0,rfl,Nat.zero_le _,HB1,HC1,fun i _ h=>absurd h (by omega)⟩
 case round=>
  obtain⟨j,rfl,hj,HB,HCb,HO⟩:=hrel;clear HB1 HC1;obtain⟨⟨m0,m1,m2,m3,m4,m5,m6,m7⟩,_⟩:=Qk HCb.out;have hwl:w.heap.size<wr.heap.size:=Qz HCb.out;by_cases hjn:j<n
  ·have hjI:(j:Int)<(n:Int):=by omega
   have a0:decide ((j:Int)<(n:Int))=true:=by simp;omega
   have hjs:j<s.length:=by rw[<-HN.out];exact hjn
   obtain⟨g,o,rfl,hg,k1,T1,a1,b1,c1,d1,so1,n1,cap1,p1,rc,hc⟩:=HC.out j hjs;obtain⟨z0,z1,z2,z3,z4,z5,z6,z7⟩:=rc.below HB.out hg;have HG:=hid (hc wr HB.out);obtain⟨Q,hQ⟩:∃Q,Q=okT s[j]:=⟨_,rfl⟩;rw[<-hQ]at HG;have HQ:=hid hQ;clear hc rc hQ HC HNm;dsimp only[r8]at HG
   go_wp2_with(first|(go_at_call 35;refine HG.out.mono ?_;rintro e wz ⟨rfl,hbz⟩))
   ·rename_i hq
    have hb2:=HB.out.trans (hbz.mono HB.out.size);go_ret;refine⟨?_,hb2⟩;rw[HR.out,Vc j hjs (by rw[<-HQ.out];simpa using hq),Bool.and_false];rfl
   ·rename_i hq
    have hb2:=HB.out.trans (hbz.mono HB.out.size);refine⟨⟨j+1,by go_num,by omega,hb2,hid ((hbz.block _ hwl).trans HCb.out),fun i hi hij=> ?_⟩,?_⟩
    ·rcases Nat.lt_or_ge i j with h1|h1
     ·exact HO.out i hi h1
     ·obtain rfl:i=j:=by omega
      rw[<-HQ.out];simpa using hq
    ·simp[intOf];omega
  ·have a0:decide ((j:Int)<(n:Int))=false:=by simp;omega
   have hok:okL s=true:=Vl fun i hi=>HO.out i hi (by have:=HN.out;omega)
   have HR2:Hid (R=okN 1 T a b c d n):=by show _=_;rw[HR.out,hok,Bool.and_true]
   obtain⟨M,hM⟩:∃M,M=nmS T:=⟨_,rfl⟩;rw[<-hM]at HNm;have HM:=hid hM;obtain⟨z,hz⟩:∃z,z=zc a b c d:=⟨_,rfl⟩;rw[<-hz]at e3;have HZ:=hid hz;obtain⟨tE,htE⟩:∃tE,tE=T.toList.isEmpty:=⟨_,rfl⟩;have HTE:=hid htE;have t1:(T.toList == [])=tE:=by rw[htE];cases T.toList<;>rfl
   have t2:(T.toList != [])= !tE:=by rw[bne,t1]
   have t3:T.toList.isEmpty=tE:=htE.symm;have HBb:=hid HB.out;clear HC hok hM hz htE
   go_wp2_with(first|(go_at_call 34;refine(HNm.out _).mono ?_;rintro e wz ⟨rfl,rfl⟩))
   all_goals(go_ret;refine⟨?_,by first|exact HBb.out.alloc HBb.out.size _|exact HBb.out⟩)
   all_goals(rw[HR2.out];have h1:=HM.out;have h2:=HZ.out;have h3:=HTE.out;clear t1 t2 t3 e3 HNm;unfold okN;simp_all)
theorem y0j(T:ByteArray)(a b c d p:Int)(so:Option Addr)(n cap:Nat)(s:List RT)(w:World)(hT:T.size<=9223372036854775807)(hn:n<=9223372036854775807)(HN:Hid (n=s.length))
  (HC:Hid (∀j (hj:j<s.length),∃g o,so=some ⟨g,o,none⟩/\g<w.heap.size/\∃k1 T1 a1 b1 c1 d1 so1 n1 cap1 p1,Rc w g (o+j*8) k1 T1 a1 b1 c1 d1 (.slice so1 n1 cap1) p1/\
    ∀W:World,Below w.heap.size w W->Calls prog 35 #[.agg (r8 k1 T1 a1 b1 c1 d1 so1 n1 cap1 p1).toArray] W fun e w'=>e=.returned (.bool (okT s[j]))/\Below W.heap.size W w')):
  Calls prog 35 #[.agg (r8 2 T a b c d so n cap p).toArray] w fun e w'=>e=.returned (.bool (okN 2 T a b c d n&&okL s))/\Below w.heap.size w w':=by
 obtain⟨R,hR⟩:∃R,R=(okN 2 T a b c d n&&okL s):=⟨_,rfl⟩;have HR:=hid hR;rw[<-hR];clear hR;have e3:=Jk a b c d;have HNm:=hid (fun w=>Uv T w hT);have HB1:Hid (Below w.heap.size w (w.alloc (.cells #[.int .i64 2,.string T,.int .u64 a,.int .u64 b,.int .u64 c,.int .u64 d,.slice so n cap,.int .i64 p] 30))):=(Below.refl _ w).alloc L0q _;have HC1:Hid ((w.alloc (.cells #[.int .i64 2,.string T,.int .u64 a,.int .u64 b,.int .u64 c,.int .u64 d,.slice so n cap,.int .i64 p] 30)).heap[w.heap.size]? =some (.cells #[.int .i64 2,.string T,.int .u64 a,.int .u64 b,.int .u64 c,.int .u64 d,.slice so n cap,.int .i64 p] 30)):=Qq w _ rfl
 (try dsimp only[r8])
 go_enter func35,ntmps35
 go_wp2_with fail
 go_loopw [3] (fun i wr=>∃j:Nat,i=.int .i64 j/\j<=n/\Hid (Below w.heap.size w wr)/\Hid (wr.heap[w.heap.size]? =some (.cells #[.int .i64 2,.string T,.int .u64 a,.int .u64 b,.int .u64 c,.int .u64 d,.slice so n cap,.int .i64 p] 30))/\Hid (∀i (hi:i<s.length),i<j->okT s[i]=true)) (fun i _=>n-(intOf i).toNat)
 case atStart=>exact⟨0,rfl,Nat.zero_le _,HB1,HC1,fun i _ h=>absurd h (by omega)⟩
 case round=>
  obtain⟨j,rfl,hj,HB,HCb,HO⟩:=hrel;clear HB1 HC1;obtain⟨⟨m0,m1,m2,m3,m4,m5,m6,m7⟩,_⟩:=Qk HCb.out;have hwl:w.heap.size<wr.heap.size:=Qz HCb.out;by_cases hjn:j<n
  ·have hjI:(j:Int)<(n:Int):=by omega
   have a0:decide ((j:Int)<(n:Int))=true:=by simp;omega
   have hjs:j<s.length:=by rw[<-HN.out];exact hjn
   obtain⟨g,o,rfl,hg,k1,T1,a1,b1,c1,d1,so1,n1,cap1,p1,rc,hc⟩:=HC.out j hjs;obtain⟨z0,z1,z2,z3,z4,z5,z6,z7⟩:=rc.below HB.out hg;have HG:=hid (hc wr HB.out);obtain⟨Q,hQ⟩:∃Q,Q=okT s[j]:=⟨_,rfl⟩;rw[<-hQ]at HG;have HQ:=hid hQ;clear hc rc hQ HC HNm;dsimp only[r8]at HG
   go_wp2_with(first|(go_at_call 35;refine HG.out.mono ?_;rintro e wz ⟨rfl,hbz⟩))
   ·rename_i hq
    have hb2:=HB.out.trans (hbz.mono HB.out.size);go_ret;refine⟨?_,hb2⟩;rw[HR.out,Vc j hjs (by rw[<-HQ.out];simpa using hq),Bool.and_false];rfl
   ·rename_i hq
    have hb2:=HB.out.trans (hbz.mono HB.out.size);refine⟨⟨j+1,by go_num,by omega,hb2,hid ((hbz.block _ hwl).trans HCb.out),fun i hi hij=> ?_⟩,?_⟩
    ·rcases Nat.lt_or_ge i j with h1|h1
     ·exact HO.out i hi h1
     ·obtain rfl:i=j:=by omega
      rw[<-HQ.out];simpa using hq
    ·simp[intOf];omega
  ·have a0:decide ((j:Int)<(n:Int))=false:=by simp;omega
   have hok:okL s=true:=Vl fun i hi=>HO.out i hi (by have:=HN.out;omega)
   have HR2:Hid (R=okN 2 T a b c d n):=by show _=_;rw[HR.out,hok,Bool.and_true]
   obtain⟨M,hM⟩:∃M,M=nmS T:=⟨_,rfl⟩;rw[<-hM]at HNm;have HM:=hid hM;obtain⟨z,hz⟩:∃z,z=zc a b c d:=⟨_,rfl⟩;rw[<-hz]at e3;have HZ:=hid hz;obtain⟨tE,htE⟩:∃tE,tE=T.toList.isEmpty:=⟨_,rfl⟩;have HTE:=hid htE;have t1:(T.toList == [])=tE:=by rw[htE];cases T.toList<;>rfl
   have t2:(T.toList != [])= !tE:=by rw[bne,t1]
   have t3:T.toList.isEmpty=tE:=htE.symm;have HBb:=hid HB.out;clear HC hok hM hz htE
   go_wp2_with(first|(go_at_call 34;refine(HNm.out _).mono ?_;rintro e wz ⟨rfl,rfl⟩))
   all_goals(go_ret;refine⟨?_,by first|exact HBb.out.alloc HBb.out.size _|exact HBb.out⟩)
   all_goals(rw[HR2.out];have h1:=HM.out;have h2:=HZ.out;have h3:=HTE.out;clear t1 t2 t3 e3 HNm;unfold okN;simp_all)
theorem y0k(T:ByteArray)(a b c d p:Int)(so:Option Addr)(n cap:Nat)(s:List RT)(w:World)(hT:T.size<=9223372036854775807)(hn:n<=9223372036854775807)(HN:Hid (n=s.length))
  (HC:Hid (∀j (hj:j<s.length),∃g o,so=some ⟨g,o,none⟩/\g<w.heap.size/\∃k1 T1 a1 b1 c1 d1 so1 n1 cap1 p1,Rc w g (o+j*8) k1 T1 a1 b1 c1 d1 (.slice so1 n1 cap1) p1/\
    ∀W:World,Below w.heap.size w W->Calls prog 35 #[.agg (r8 k1 T1 a1 b1 c1 d1 so1 n1 cap1 p1).toArray] W fun e w'=>e=.returned (.bool (okT s[j]))/\Below W.heap.size W w')):
  Calls prog 35 #[.agg (r8 3 T a b c d so n cap p).toArray] w fun e w'=>e=.returned (.bool (okN 3 T a b c d n&&okL s))/\Below w.heap.size w w':=by
 obtain⟨R,hR⟩:∃R,R=(okN 3 T a b c d n&&okL s):=⟨_,rfl⟩;have HR:=hid hR;rw[<-hR];clear hR;have e3:=Jk a b c d;have HNm:=hid (fun w=>Uv T w hT);have HB1:Hid (Below w.heap.size w (w.alloc (.cells #[.int .i64 3,.string T,.int .u64 a,.int .u64 b,.int .u64 c,.int .u64 d,.slice so n cap,.int .i64 p] 30))):=(Below.refl _ w).alloc L0q _;have HC1:Hid ((w.alloc (.cells #[.int .i64 3,.string T,.int .u64 a,.int .u64 b,.int .u64 c,.int .u64 d,.slice so n cap,.int .i64 p] 30)).heap[w.heap.size]? =some (.cells #[.int .i64 3,.string T,.int .u64 a,.int .u64 b,.int .u64 c,.int .u64 d,.slice so n cap,.int .i64 p] 30)):=Qq w _ rfl
 (try dsimp only[r8])
 go_enter func35,ntmps35
 go_wp2_with fail
 go_loopw [3] (fun i wr=>∃j:Nat,i=.int .i64 j/\j<=n/\Hid (Below w.heap.size w wr)/\Hid (wr.heap[w.heap.size]? =some (.cells #[.int .i64 3,.string T,.int .u64 a,.int .u64 b,.int .u64 c,.int .u64 d,.slice so n cap,.int .i64 p] 30))/\Hid (∀i (hi:i<s.length),i<j->okT s[i]=true)) (fun i _=>n-(intOf i).toNat)
 case atStart=>exact⟨0,rfl,Nat.zero_le _,HB1,HC1,fun i _ h=>absurd h (by omega)⟩
 case round=>
  obtain⟨j,rfl,hj,HB,HCb,HO⟩:=hrel;clear HB1 HC1;obtain⟨⟨m0,m1,m2,m3,m4,m5,m6,m7⟩,_⟩:=Qk HCb.out;have hwl:w.heap.size<wr.heap.size:=Qz HCb.out;by_cases hjn:j<n
  ·have hjI:(j:Int)<(n:Int):=by omega
   have a0:decide ((j:Int)<(n:Int))=true:=by simp;omega
   have hjs:j<s.length:=by rw[<-HN.out];exact hjn
   obtain⟨g,o,rfl,hg,k1,T1,a1,b1,c1,d1,so1,n1,cap1,p1,rc,hc⟩:=HC.out j hjs;obtain⟨z0,z1,z2,z3,z4,z5,z6,z7⟩:=rc.below HB.out hg;have HG:=hid (hc wr HB.out);obtain⟨Q,hQ⟩:∃Q,Q=okT s[j]:=⟨_,rfl⟩;rw[<-hQ]at HG;have HQ:=hid hQ;clear hc rc hQ HC HNm;dsimp only[r8]at HG
   go_wp2_with(first|(go_at_call 35;refine HG.out.mono ?_;rintro e wz ⟨rfl,hbz⟩))
   ·rename_i hq
    have hb2:=HB.out.trans (hbz.mono HB.out.size);go_ret;refine⟨?_,hb2⟩;rw[HR.out,Vc j hjs (by rw[<-HQ.out];simpa using hq),Bool.and_false];rfl
   ·rename_i hq
    have hb2:=HB.out.trans (hbz.mono HB.out.size);refine⟨⟨j+1,by go_num,by omega,hb2,hid ((hbz.block _ hwl).trans HCb.out),fun i hi hij=> ?_⟩,?_⟩
    ·rcases Nat.lt_or_ge i j with h1|h1
     ·exact HO.out i hi h1
     ·obtain rfl:i=j:=by omega
      rw[<-HQ.out];simpa using hq
    ·simp[intOf];omega
  ·have a0:decide ((j:Int)<(n:Int))=false:=by simp;omega
   have hok:okL s=true:=Vl fun i hi=>HO.out i hi (by have:=HN.out;omega)
   have HR2:Hid (R=okN 3 T a b c d n):=by show _=_;rw[HR.out,hok,Bool.and_true]
   obtain⟨M,hM⟩:∃M,M=nmS T:=⟨_,rfl⟩;rw[<-hM]at HNm;have HM:=hid hM;obtain⟨z,hz⟩:∃z,z=zc a b c d:=⟨_,rfl⟩;rw[<-hz]at e3;have HZ:=hid hz;obtain⟨tE,htE⟩:∃tE,tE=T.toList.isEmpty:=⟨_,rfl⟩;have HTE:=hid htE;have t1:(T.toList == [])=tE:=by rw[htE];cases T.toList<;>rfl
   have t2:(T.toList != [])= !tE:=by rw[bne,t1]
   have t3:T.toList.isEmpty=tE:=htE.symm;have HBb:=hid HB.out;clear HC hok hM hz htE
   go_wp2_with(first|(go_at_call 34;refine(HNm.out _).mono ?_;rintro e wz ⟨rfl,rfl⟩))
   all_goals(go_ret;refine⟨?_,by first|exact HBb.out.alloc HBb.out.size _|exact HBb.out⟩)
   all_goals(rw[HR2.out];have h1:=HM.out;have h2:=HZ.out;have h3:=HTE.out;clear t1 t2 t3 e3 HNm;unfold okN;simp_all)
theorem y0l(T:ByteArray)(a b c d p:Int)(so:Option Addr)(n cap:Nat)(s:List RT)(w:World)(hT:T.size<=9223372036854775807)(hn:n<=9223372036854775807)(HN:Hid (n=s.length))
  (HC:Hid (∀j (hj:j<s.length),∃g o,so=some ⟨g,o,none⟩/\g<w.heap.size/\∃k1 T1 a1 b1 c1 d1 so1 n1 cap1 p1,Rc w g (o+j*8) k1 T1 a1 b1 c1 d1 (.slice so1 n1 cap1) p1/\
    ∀W:World,Below w.heap.size w W->Calls prog 35 #[.agg (r8 k1 T1 a1 b1 c1 d1 so1 n1 cap1 p1).toArray] W fun e w'=>e=.returned (.bool (okT s[j]))/\Below W.heap.size W w')):
  Calls prog 35 #[.agg (r8 4 T a b c d so n cap p).toArray] w fun e w'=>e=.returned (.bool (okN 4 T a b c d n&&okL s))/\Below w.heap.size w w':=by
 obtain⟨R,hR⟩:∃R,R=(okN 4 T a b c d n&&okL s):=⟨_,rfl⟩;have HR:=hid hR;rw[<-hR];clear hR;have e3:=Jk a b c d;have HNm:=hid (fun w=>Uv T w hT);have HB1:Hid (Below w.heap.size w (w.alloc (.cells #[.int .i64 4,.string T,.int .u64 a,.int .u64 b,.int .u64 c,.int .u64 d,.slice so n cap,.int .i64 p] 30))):=(Below.refl _ w).alloc L0q _;have HC1:Hid ((w.alloc (.cells #[.int .i64 4,.string T,.int .u64 a,.int .u64 b,.int .u64 c,.int .u64 d,.slice so n cap,.int .i64 p] 30)).heap[w.heap.size]? =some (.cells #[.int .i64 4,.string T,.int .u64 a,.int .u64 b,.int .u64 c,.int .u64 d,.slice so n cap,.int .i64 p] 30)):=Qq w _ rfl
 (try dsimp only[r8])
 go_enter func35,ntmps35
 go_wp2_with fail
 go_loopw [3] (fun i wr=>∃j:Nat,i=.int .i64 j/\j<=n/\Hid (Below w.heap.size w wr)/\Hid (wr.heap[w.heap.size]? =some (.cells #[.int .i64 4,.string T,.int .u64 a,.int .u64 b,.int .u64 c,.int .u64 d,.slice so n cap,.int .i64 p] 30))/\Hid (∀i (hi:i<s.length),i<j->okT s[i]=true)) (fun i _=>n-(intOf i).toNat)
 case atStart=>exact⟨0,rfl,Nat.zero_le _,HB1,HC1,fun i _ h=>absurd h (by omega)⟩
 case round=>
  obtain⟨j,rfl,hj,HB,HCb,HO⟩:=hrel;clear HB1 HC1;obtain⟨⟨m0,m1,m2,m3,m4,m5,m6,m7⟩,_⟩:=Qk HCb.out;have hwl:w.heap.size<wr.heap.size:=Qz HCb.out;by_cases hjn:j<n
  ·have hjI:(j:Int)<(n:Int):=by omega
   have a0:decide ((j:Int)<(n:Int))=true:=by simp;omega
   have hjs:j<s.length:=by rw[<-HN.out];exact hjn
   obtain⟨g,o,rfl,hg,k1,T1,a1,b1,c1,d1,so1,n1,cap1,p1,rc,hc⟩:=HC.out j hjs;obtain⟨z0,z1,z2,z3,z4,z5,z6,z7⟩:=rc.below HB.out hg;have HG:=hid (hc wr HB.out);obtain⟨Q,hQ⟩:∃Q,Q=okT s[j]:=⟨_,rfl⟩;rw[<-hQ]at HG;have HQ:=hid hQ;clear hc rc hQ HC HNm;dsimp only[r8]at HG
   go_wp2_with(first|(go_at_call 35;refine HG.out.mono ?_;rintro e wz ⟨rfl,hbz⟩))
   ·rename_i hq
    have hb2:=HB.out.trans (hbz.mono HB.out.size);go_ret;refine⟨?_,hb2⟩;rw[HR.out,Vc j hjs (by rw[<-HQ.out];simpa using hq),Bool.and_false];rfl
   ·rename_i hq
    have hb2:=HB.out.trans (hbz.mono HB.out.size);refine⟨⟨j+1,by go_num,by omega,hb2,hid ((hbz.block _ hwl).trans HCb.out),fun i hi hij=> ?_⟩,?_⟩
    ·rcases Nat.lt_or_ge i j with h1|h1
     ·exact HO.out i hi h1
     ·obtain rfl:i=j:=by omega
      rw[<-HQ.out];simpa using hq
    ·simp[intOf];omega
  ·have a0:decide ((j:Int)<(n:Int))=false:=by simp;omega
   have hok:okL s=true:=Vl fun i hi=>HO.out i hi (by have:=HN.out;omega)
   have HR2:Hid (R=okN 4 T a b c d n):=by show _=_;rw[HR.out,hok,Bool.and_true]
   obtain⟨M,hM⟩:∃M,M=nmS T:=⟨_,rfl⟩;rw[<-hM]at HNm;have HM:=hid hM;obtain⟨z,hz⟩:∃z,z=zc a b c d:=⟨_,rfl⟩;rw[<-hz]at e3;have HZ:=hid hz;obtain⟨tE,htE⟩:∃tE,tE=T.toList.isEmpty:=⟨_,rfl⟩;have HTE:=hid htE;have t1:(T.toList == [])=tE:=by rw[htE];cases T.toList<;>rfl
   have t2:(T.toList != [])= !tE:=by rw[bne,t1]
   have t3:T.toList.isEmpty=tE:=htE.symm;have HBb:=hid HB.out;clear HC hok hM hz htE
   go_wp2_with(first|(go_at_call 34;refine(HNm.out _).mono ?_;rintro e wz ⟨rfl,rfl⟩))
   all_goals(go_ret;refine⟨?_,by first|exact HBb.out.alloc HBb.out.size _|exact HBb.out⟩)
   all_goals(rw[HR2.out];have h1:=HM.out;have h2:=HZ.out;have h3:=HTE.out;clear t1 t2 t3 e3 HNm;unfold okN;simp_all)
theorem y0m(T:ByteArray)(a b c d p:Int)(so:Option Addr)(n cap:Nat)(s:List RT)(w:World)(hT:T.size<=9223372036854775807)(hn:n<=9223372036854775807)(HN:Hid (n=s.length))
  (HC:Hid (∀j (hj:j<s.length),∃g o,so=some ⟨g,o,none⟩/\g<w.heap.size/\∃k1 T1 a1 b1 c1 d1 so1 n1 cap1 p1,Rc w g (o+j*8) k1 T1 a1 b1 c1 d1 (.slice so1 n1 cap1) p1/\
    ∀W:World,Below w.heap.size w W->Calls prog 35 #[.agg (r8 k1 T1 a1 b1 c1 d1 so1 n1 cap1 p1).toArray] W fun e w'=>e=.returned (.bool (okT s[j]))/\Below W.heap.size W w')):
  Calls prog 35 #[.agg (r8 5 T a b c d so n cap p).toArray] w fun e w'=>e=.returned (.bool (okN 5 T a b c d n&&okL s))/\Below w.heap.size w w':=by
 obtain⟨R,hR⟩:∃R,R=(okN 5 T a b c d n&&okL s):=⟨_,rfl⟩;have HR:=hid hR;rw[<-hR];clear hR;have e3:=Jk a b c d;have HNm:=hid (fun w=>Uv T w hT);have HB1:Hid (Below w.heap.size w (w.alloc (.cells #[.int .i64 5,.string T,.int .u64 a,.int .u64 b,.int .u64 c,.int .u64 d,.slice so n cap,.int .i64 p] 30))):=(Below.refl _ w).alloc L0q _;have HC1:Hid ((w.alloc (.cells #[.int .i64 5,.string T,.int .u64 a,.int .u64 b,.int .u64 c,.int .u64 d,.slice so n cap,.int .i64 p] 30)).heap[w.heap.size]? =some (.cells #[.int .i64 5,.string T,.int .u64 a,.int .u64 b,.int .u64 c,.int .u64 d,.slice so n cap,.int .i64 p] 30)):=Qq w _ rfl
 (try dsimp only[r8])
 go_enter func35,ntmps35
 go_wp2_with fail
 go_loopw [3] (fun i wr=>∃j:Nat,i=.int .i64 j/\j<=n/\Hid (Below w.heap.size w wr)/\Hid (wr.heap[w.heap.size]? =some (.cells #[.int .i64 5,.string T,.int .u64 a,.int .u64 b,.int .u64 c,.int .u64 d,.slice so n cap,.int .i64 p] 30))/\Hid (∀i (hi:i<s.length),i<j->okT s[i]=true)) (fun i _=>n-(intOf i).toNat)
 case atStart=>exact⟨0,rfl,Nat.zero_le _,HB1,HC1,fun i _ h=>absurd h (by omega)⟩
 case round=>
  obtain⟨j,rfl,hj,HB,HCb,HO⟩:=hrel;clear HB1 HC1;obtain⟨⟨m0,m1,m2,m3,m4,m5,m6,m7⟩,_⟩:=Qk HCb.out;have hwl:w.heap.size<wr.heap.size:=Qz HCb.out;by_cases hjn:j<n
  ·have hjI:(j:Int)<(n:Int):=by omega
   have a0:decide ((j:Int)<(n:Int))=true:=by simp;omega
   have hjs:j<s.length:=by rw[<-HN.out];exact hjn
   obtain⟨g,o,rfl,hg,k1,T1,a1,b1,c1,d1,so1,n1,cap1,p1,rc,hc⟩:=HC.out j hjs;obtain⟨z0,z1,z2,z3,z4,z5,z6,z7⟩:=rc.below HB.out hg;have HG:=hid (hc wr HB.out);obtain⟨Q,hQ⟩:∃Q,Q=okT s[j]:=⟨_,rfl⟩;rw[<-hQ]at HG;have HQ:=hid hQ;clear hc rc hQ HC HNm;dsimp only[r8]at HG
   go_wp2_with(first|(go_at_call 35;refine HG.out.mono ?_;rintro e wz ⟨rfl,hbz⟩))
   ·rename_i hq
    have hb2:=HB.out.trans (hbz.mono HB.out.size);go_ret;refine⟨?_,hb2⟩;rw[HR.out,Vc j hjs (by rw[<-HQ.out];simpa using hq),Bool.and_false];rfl
   ·rename_i hq
    have hb2:=HB.out.trans (hbz.mono HB.out.size);refine⟨⟨j+1,by go_num,by omega,hb2,hid ((hbz.block _ hwl).trans HCb.out),fun i hi hij=> ?_⟩,?_⟩
    ·rcases Nat.lt_or_ge i j with h1|h1
     ·exact HO.out i hi h1
     ·obtain rfl:i=j:=by omega
      rw[<-HQ.out];simpa using hq
    ·simp[intOf];omega
  ·have a0:decide ((j:Int)<(n:Int))=false:=by simp;omega
   have hok:okL s=true:=Vl fun i hi=>HO.out i hi (by have:=HN.out;omega)
   have HR2:Hid (R=okN 5 T a b c d n):=by show _=_;rw[HR.out,hok,Bool.and_true]
   obtain⟨M,hM⟩:∃M,M=nmS T:=⟨_,rfl⟩;rw[<-hM]at HNm;have HM:=hid hM;obtain⟨z,hz⟩:∃z,z=zc a b c d:=⟨_,rfl⟩;rw[<-hz]at e3;have HZ:=hid hz;obtain⟨tE,htE⟩:∃tE,tE=T.toList.isEmpty:=⟨_,rfl⟩;have HTE:=hid htE;have t1:(T.toList == [])=tE:=by rw[htE];cases T.toList<;>rfl
   have t2:(T.toList != [])= !tE:=by rw[bne,t1]
   have t3:T.toList.isEmpty=tE:=htE.symm;have HBb:=hid HB.out;clear HC hok hM hz htE
   go_wp2_with(first|(go_at_call 34;refine(HNm.out _).mono ?_;rintro e wz ⟨rfl,rfl⟩))
   all_goals(go_ret;refine⟨?_,by first|exact HBb.out.alloc HBb.out.size _|exact HBb.out⟩)
   all_goals(rw[HR2.out];have h1:=HM.out;have h2:=HZ.out;have h3:=HTE.out;clear t1 t2 t3 e3 HNm;unfold okN;simp_all)
theorem y0n(T:ByteArray)(a b c d p:Int)(so:Option Addr)(n cap:Nat)(s:List RT)(w:World)(hT:T.size<=9223372036854775807)(hn:n<=9223372036854775807)(HN:Hid (n=s.length))
  (HC:Hid (∀j (hj:j<s.length),∃g o,so=some ⟨g,o,none⟩/\g<w.heap.size/\∃k1 T1 a1 b1 c1 d1 so1 n1 cap1 p1,Rc w g (o+j*8) k1 T1 a1 b1 c1 d1 (.slice so1 n1 cap1) p1/\
    ∀W:World,Below w.heap.size w W->Calls prog 35 #[.agg (r8 k1 T1 a1 b1 c1 d1 so1 n1 cap1 p1).toArray] W fun e w'=>e=.returned (.bool (okT s[j]))/\Below W.heap.size W w')):
  Calls prog 35 #[.agg (r8 6 T a b c d so n cap p).toArray] w fun e w'=>e=.returned (.bool (okN 6 T a b c d n&&okL s))/\Below w.heap.size w w':=by
 obtain⟨R,hR⟩:∃R,R=(okN 6 T a b c d n&&okL s):=⟨_,rfl⟩;have HR:=hid hR;rw[<-hR];clear hR;have e3:=Jk a b c d;have HNm:=hid (fun w=>Uv T w hT);have HB1:Hid (Below w.heap.size w (w.alloc (.cells #[.int .i64 6,.string T,.int .u64 a,.int .u64 b,.int .u64 c,.int .u64 d,.slice so n cap,.int .i64 p] 30))):=(Below.refl _ w).alloc L0q _;have HC1:Hid ((w.alloc (.cells #[.int .i64 6,.string T,.int .u64 a,.int .u64 b,.int .u64 c,.int .u64 d,.slice so n cap,.int .i64 p] 30)).heap[w.heap.size]? =some (.cells #[.int .i64 6,.string T,.int .u64 a,.int .u64 b,.int .u64 c,.int .u64 d,.slice so n cap,.int .i64 p] 30)):=Qq w _ rfl
 (try dsimp only[r8])
 go_enter func35,ntmps35
 go_wp2_with fail
 go_loopw [3] (fun i wr=>∃j:Nat,i=.int .i64 j/\j<=n/\Hid (Below w.heap.size w wr)/\Hid (wr.heap[w.heap.size]? =some (.cells #[.int .i64 6,.string T,.int .u64 a,.int .u64 b,.int .u64 c,.int .u64 d,.slice so n cap,.int .i64 p] 30))/\Hid (∀i (hi:i<s.length),i<j->okT s[i]=true)) (fun i _=>n-(intOf i).toNat)
 case atStart=>exact⟨0,rfl,Nat.zero_le _,HB1,HC1,fun i _ h=>absurd h (by omega)⟩
 case round=>
  obtain⟨j,rfl,hj,HB,HCb,HO⟩:=hrel;clear HB1 HC1;obtain⟨⟨m0,m1,m2,m3,m4,m5,m6,m7⟩,_⟩:=Qk HCb.out;have hwl:w.heap.size<wr.heap.size:=Qz HCb.out;by_cases hjn:j<n
  ·have hjI:(j:Int)<(n:Int):=by omega
   have a0:decide ((j:Int)<(n:Int))=true:=by simp;omega
   have hjs:j<s.length:=by rw[<-HN.out];exact hjn
   obtain⟨g,o,rfl,hg,k1,T1,a1,b1,c1,d1,so1,n1,cap1,p1,rc,hc⟩:=HC.out j hjs;obtain⟨z0,z1,z2,z3,z4,z5,z6,z7⟩:=rc.below HB.out hg;have HG:=hid (hc wr HB.out);obtain⟨Q,hQ⟩:∃Q,Q=okT s[j]:=⟨_,rfl⟩;rw[<-hQ]at HG;have HQ:=hid hQ;clear hc rc hQ HC HNm;dsimp only[r8]at HG
   go_wp2_with(first|(go_at_call 35;refine HG.out.mono ?_;rintro e wz ⟨rfl,hbz⟩))
   ·rename_i hq
    have hb2:=HB.out.trans (hbz.mono HB.out.size);go_ret;refine⟨?_,hb2⟩;rw[HR.out,Vc j hjs (by rw[<-HQ.out];simpa using hq),Bool.and_false];rfl
   ·rename_i hq
    have hb2:=HB.out.trans (hbz.mono HB.out.size);refine⟨⟨j+1,by go_num,by omega,hb2,hid ((hbz.block _ hwl).trans HCb.out),fun i hi hij=> ?_⟩,?_⟩
    ·rcases Nat.lt_or_ge i j with h1|h1
     ·exact HO.out i hi h1
     ·obtain rfl:i=j:=by omega
      rw[<-HQ.out];simpa using hq
    ·simp[intOf];omega
  ·have a0:decide ((j:Int)<(n:Int))=false:=by simp;omega
   have hok:okL s=true:=Vl fun i hi=>HO.out i hi (by have:=HN.out;omega)
   have HR2:Hid (R=okN 6 T a b c d n):=by show _=_;rw[HR.out,hok,Bool.and_true]
   obtain⟨M,hM⟩:∃M,M=nmS T:=⟨_,rfl⟩;rw[<-hM]at HNm;have HM:=hid hM;obtain⟨z,hz⟩:∃z,z=zc a b c d:=⟨_,rfl⟩;rw[<-hz]at e3;have HZ:=hid hz;obtain⟨tE,htE⟩:∃tE,tE=T.toList.isEmpty:=⟨_,rfl⟩;have HTE:=hid htE;have t1:(T.toList == [])=tE:=by rw[htE];cases T.toList<;>rfl
   have t2:(T.toList != [])= !tE:=by rw[bne,t1]
   have t3:T.toList.isEmpty=tE:=htE.symm;have HBb:=hid HB.out;clear HC hok hM hz htE
   go_wp2_with(first|(go_at_call 34;refine(HNm.out _).mono ?_;rintro e wz ⟨rfl,rfl⟩))
   all_goals(go_ret;refine⟨?_,by first|exact HBb.out.alloc HBb.out.size _|exact HBb.out⟩)
   all_goals(rw[HR2.out];have h1:=HM.out;have h2:=HZ.out;have h3:=HTE.out;clear t1 t2 t3 e3 HNm;unfold okN;simp_all)
theorem y0o(T:ByteArray)(a b c d p:Int)(so:Option Addr)(n cap:Nat)(s:List RT)(w:World)(hT:T.size<=9223372036854775807)(hn:n<=9223372036854775807)(HN:Hid (n=s.length))
  (HC:Hid (∀j (hj:j<s.length),∃g o,so=some ⟨g,o,none⟩/\g<w.heap.size/\∃k1 T1 a1 b1 c1 d1 so1 n1 cap1 p1,Rc w g (o+j*8) k1 T1 a1 b1 c1 d1 (.slice so1 n1 cap1) p1/\
    ∀W:World,Below w.heap.size w W->Calls prog 35 #[.agg (r8 k1 T1 a1 b1 c1 d1 so1 n1 cap1 p1).toArray] W fun e w'=>e=.returned (.bool (okT s[j]))/\Below W.heap.size W w')):
  Calls prog 35 #[.agg (r8 7 T a b c d so n cap p).toArray] w fun e w'=>e=.returned (.bool (okN 7 T a b c d n&&okL s))/\Below w.heap.size w w':=by
 obtain⟨R,hR⟩:∃R,R=(okN 7 T a b c d n&&okL s):=⟨_,rfl⟩;have HR:=hid hR;rw[<-hR];clear hR;have e3:=Jk a b c d;have HNm:=hid (fun w=>Uv T w hT);have HB1:Hid (Below w.heap.size w (w.alloc (.cells #[.int .i64 7,.string T,.int .u64 a,.int .u64 b,.int .u64 c,.int .u64 d,.slice so n cap,.int .i64 p] 30))):=(Below.refl _ w).alloc L0q _;have HC1:Hid ((w.alloc (.cells #[.int .i64 7,.string T,.int .u64 a,.int .u64 b,.int .u64 c,.int .u64 d,.slice so n cap,.int .i64 p] 30)).heap[w.heap.size]? =some (.cells #[.int .i64 7,.string T,.int .u64 a,.int .u64 b,.int .u64 c,.int .u64 d,.slice so n cap,.int .i64 p] 30)):=Qq w _ rfl
 (try dsimp only[r8])
 go_enter func35,ntmps35
 go_wp2_with fail
 go_loopw [3] (fun i wr=>∃j:Nat,i=.int .i64 j/\j<=n/\Hid (Below w.heap.size w wr)/\Hid (wr.heap[w.heap.size]? =some (.cells #[.int .i64 7,.string T,.int .u64 a,.int .u64 b,.int .u64 c,.int .u64 d,.slice so n cap,.int .i64 p] 30))/\Hid (∀i (hi:i<s.length),i<j->okT s[i]=true)) (fun i _=>n-(intOf i).toNat)
 case atStart=>exact⟨0,rfl,Nat.zero_le _,HB1,HC1,fun i _ h=>absurd h (by omega)⟩
 case round=>
  obtain⟨j,rfl,hj,HB,HCb,HO⟩:=hrel;clear HB1 HC1;obtain⟨⟨m0,m1,m2,m3,m4,m5,m6,m7⟩,_⟩:=Qk HCb.out;have hwl:w.heap.size<wr.heap.size:=Qz HCb.out;by_cases hjn:j<n
  ·have hjI:(j:Int)<(n:Int):=by omega
   have a0:decide ((j:Int)<(n:Int))=true:=by simp;omega
   have hjs:j<s.length:=by rw[<-HN.out];exact hjn
   obtain⟨g,o,rfl,hg,k1,T1,a1,b1,c1,d1,so1,n1,cap1,p1,rc,hc⟩:=HC.out j hjs;obtain⟨z0,z1,z2,z3,z4,z5,z6,z7⟩:=rc.below HB.out hg;have HG:=hid (hc wr HB.out);obtain⟨Q,hQ⟩:∃Q,Q=okT s[j]:=⟨_,rfl⟩;rw[<-hQ]at HG;have HQ:=hid hQ;clear hc rc hQ HC HNm;dsimp only[r8]at HG
   go_wp2_with(first|(go_at_call 35;refine HG.out.mono ?_;rintro e wz ⟨rfl,hbz⟩))
   ·rename_i hq
    have hb2:=HB.out.trans (hbz.mono HB.out.size);go_ret;refine⟨?_,hb2⟩;rw[HR.out,Vc j hjs (by rw[<-HQ.out];simpa using hq),Bool.and_false];rfl
   ·rename_i hq
    have hb2:=HB.out.trans (hbz.mono HB.out.size);refine⟨⟨j+1,by go_num,by omega,hb2,hid ((hbz.block _ hwl).trans HCb.out),fun i hi hij=> ?_⟩,?_⟩
    ·rcases Nat.lt_or_ge i j with h1|h1
     ·exact HO.out i hi h1
     ·obtain rfl:i=j:=by omega
      rw[<-HQ.out];simpa using hq
    ·simp[intOf];omega
  ·have a0:decide ((j:Int)<(n:Int))=false:=by simp;omega
   have hok:okL s=true:=Vl fun i hi=>HO.out i hi (by have:=HN.out;omega)
   have HR2:Hid (R=okN 7 T a b c d n):=by show _=_;rw[HR.out,hok,Bool.and_true]
   obtain⟨M,hM⟩:∃M,M=nmS T:=⟨_,rfl⟩;rw[<-hM]at HNm;have HM:=hid hM;obtain⟨z,hz⟩:∃z,z=zc a b c d:=⟨_,rfl⟩;rw[<-hz]at e3;have HZ:=hid hz;obtain⟨tE,htE⟩:∃tE,tE=T.toList.isEmpty:=⟨_,rfl⟩;have HTE:=hid htE;have t1:(T.toList == [])=tE:=by rw[htE];cases T.toList<;>rfl
   have t2:(T.toList != [])= !tE:=by rw[bne,t1]
   have t3:T.toList.isEmpty=tE:=htE.symm;have HBb:=hid HB.out;clear HC hok hM hz htE
   go_wp2_with(first|(go_at_call 34;refine(HNm.out _).mono ?_;rintro e wz ⟨rfl,rfl⟩))
   all_goals(go_ret;refine⟨?_,by first|exact HBb.out.alloc HBb.out.size _|exact HBb.out⟩)
   all_goals(rw[HR2.out];have h1:=HM.out;have h2:=HZ.out;have h3:=HTE.out;clear t1 t2 t3 e3 HNm;unfold okN;simp_all)
theorem y0p(T:ByteArray)(a b c d p:Int)(so:Option Addr)(n cap:Nat)(s:List RT)(w:World)(hT:T.size<=9223372036854775807)(hn:n<=9223372036854775807)(HN:Hid (n=s.length))
  (HC:Hid (∀j (hj:j<s.length),∃g o,so=some ⟨g,o,none⟩/\g<w.heap.size/\∃k1 T1 a1 b1 c1 d1 so1 n1 cap1 p1,Rc w g (o+j*8) k1 T1 a1 b1 c1 d1 (.slice so1 n1 cap1) p1/\
    ∀W:World,Below w.heap.size w W->Calls prog 35 #[.agg (r8 k1 T1 a1 b1 c1 d1 so1 n1 cap1 p1).toArray] W fun e w'=>e=.returned (.bool (okT s[j]))/\Below W.heap.size W w')):
  Calls prog 35 #[.agg (r8 8 T a b c d so n cap p).toArray] w fun e w'=>e=.returned (.bool (okN 8 T a b c d n&&okL s))/\Below w.heap.size w w':=by
 obtain⟨R,hR⟩:∃R,R=(okN 8 T a b c d n&&okL s):=⟨_,rfl⟩;have HR:=hid hR;rw[<-hR];clear hR;have e3:=Jk a b c d;have HNm:=hid (fun w=>Uv T w hT);have HB1:Hid (Below w.heap.size w (w.alloc (.cells #[.int .i64 8,.string T,.int .u64 a,.int .u64 b,.int .u64 c,.int .u64 d,.slice so n cap,.int .i64 p] 30))):=(Below.refl _ w).alloc L0q _;have HC1:Hid ((w.alloc (.cells #[.int .i64 8,.string T,.int .u64 a,.int .u64 b,.int .u64 c,.int .u64 d,.slice so n cap,.int .i64 p] 30)).heap[w.heap.size]? =some (.cells #[.int .i64 8,.string T,.int .u64 a,.int .u64 b,.int .u64 c,.int .u64 d,.slice so n cap,.int .i64 p] 30)):=Qq w _ rfl
 (try dsimp only[r8])
 go_enter func35,ntmps35
 go_wp2_with fail
 go_loopw [3] (fun i wr=>∃j:Nat,i=.int .i64 j/\j<=n/\Hid (Below w.heap.size w wr)/\Hid (wr.heap[w.heap.size]? =some (.cells #[.int .i64 8,.string T,.int .u64 a,.int .u64 b,.int .u64 c,.int .u64 d,.slice so n cap,.int .i64 p] 30))/\Hid (∀i (hi:i<s.length),i<j->okT s[i]=true)) (fun i _=>n-(intOf i).toNat)
 case atStart=>exact⟨0,rfl,Nat.zero_le _,HB1,HC1,fun i _ h=>absurd h (by omega)⟩
 case round=>
  obtain⟨j,rfl,hj,HB,HCb,HO⟩:=hrel;clear HB1 HC1;obtain⟨⟨m0,m1,m2,m3,m4,m5,m6,m7⟩,_⟩:=Qk HCb.out;have hwl:w.heap.size<wr.heap.size:=Qz HCb.out;by_cases hjn:j<n
  ·have hjI:(j:Int)<(n:Int):=by omega
   have a0:decide ((j:Int)<(n:Int))=true:=by simp;omega
   have hjs:j<s.length:=by rw[<-HN.out];exact hjn
   obtain⟨g,o,rfl,hg,k1,T1,a1,b1,c1,d1,so1,n1,cap1,p1,rc,hc⟩:=HC.out j hjs;obtain⟨z0,z1,z2,z3,z4,z5,z6,z7⟩:=rc.below HB.out hg;have HG:=hid (hc wr HB.out);obtain⟨Q,hQ⟩:∃Q,Q=okT s[j]:=⟨_,rfl⟩;rw[<-hQ]at HG;have HQ:=hid hQ;clear hc rc hQ HC HNm;dsimp only[r8]at HG
   go_wp2_with(first|(go_at_call 35;refine HG.out.mono ?_;rintro e wz ⟨rfl,hbz⟩))
   ·rename_i hq
    have hb2:=HB.out.trans (hbz.mono HB.out.size);go_ret;refine⟨?_,hb2⟩;rw[HR.out,Vc j hjs (by rw[<-HQ.out];simpa using hq),Bool.and_false];rfl
   ·rename_i hq
    have hb2:=HB.out.trans (hbz.mono HB.out.size);refine⟨⟨j+1,by go_num,by omega,hb2,hid ((hbz.block _ hwl).trans HCb.out),fun i hi hij=> ?_⟩,?_⟩
    ·rcases Nat.lt_or_ge i j with h1|h1
     ·exact HO.out i hi h1
     ·obtain rfl:i=j:=by omega
      rw[<-HQ.out];simpa using hq
    ·simp[intOf];omega
  ·have a0:decide ((j:Int)<(n:Int))=false:=by simp;omega
   have hok:okL s=true:=Vl fun i hi=>HO.out i hi (by have:=HN.out;omega)
   have HR2:Hid (R=okN 8 T a b c d n):=by show _=_;rw[HR.out,hok,Bool.and_true]
   obtain⟨M,hM⟩:∃M,M=nmS T:=⟨_,rfl⟩;rw[<-hM]at HNm;have HM:=hid hM;obtain⟨z,hz⟩:∃z,z=zc a b c d:=⟨_,rfl⟩;rw[<-hz]at e3;have HZ:=hid hz;obtain⟨tE,htE⟩:∃tE,tE=T.toList.isEmpty:=⟨_,rfl⟩;have HTE:=hid htE;have t1:(T.toList == [])=tE:=by rw[htE];cases T.toList<;>rfl
   have t2:(T.toList != [])= !tE:=by rw[bne,t1]
   have t3:T.toList.isEmpty=tE:=htE.symm;have HBb:=hid HB.out;clear HC hok hM hz htE
   go_wp2_with(first|(go_at_call 34;refine(HNm.out _).mono ?_;rintro e wz ⟨rfl,rfl⟩))
   all_goals(go_ret;refine⟨?_,by first|exact HBb.out.alloc HBb.out.size _|exact HBb.out⟩)
   all_goals(rw[HR2.out];have h1:=HM.out;have h2:=HZ.out;have h3:=HTE.out;clear t1 t2 t3 e3 HNm;unfold okN;simp_all)
theorem y0q(T:ByteArray)(a b c d p:Int)(so:Option Addr)(n cap:Nat)(s:List RT)(w:World)(hT:T.size<=9223372036854775807)(hn:n<=9223372036854775807)(HN:Hid (n=s.length))
  (HC:Hid (∀j (hj:j<s.length),∃g o,so=some ⟨g,o,none⟩/\g<w.heap.size/\∃k1 T1 a1 b1 c1 d1 so1 n1 cap1 p1,Rc w g (o+j*8) k1 T1 a1 b1 c1 d1 (.slice so1 n1 cap1) p1/\
    ∀W:World,Below w.heap.size w W->Calls prog 35 #[.agg (r8 k1 T1 a1 b1 c1 d1 so1 n1 cap1 p1).toArray] W fun e w'=>e=.returned (.bool (okT s[j]))/\Below W.heap.size W w')):
  Calls prog 35 #[.agg (r8 9 T a b c d so n cap p).toArray] w fun e w'=>e=.returned (.bool (okN 9 T a b c d n&&okL s))/\Below w.heap.size w w':=by
 obtain⟨R,hR⟩:∃R,R=(okN 9 T a b c d n&&okL s):=⟨_,rfl⟩;have HR:=hid hR;rw[<-hR];clear hR;have e3:=Jk a b c d;have HNm:=hid (fun w=>Uv T w hT);have HB1:Hid (Below w.heap.size w (w.alloc (.cells #[.int .i64 9,.string T,.int .u64 a,.int .u64 b,.int .u64 c,.int .u64 d,.slice so n cap,.int .i64 p] 30))):=(Below.refl _ w).alloc L0q _;have HC1:Hid ((w.alloc (.cells #[.int .i64 9,.string T,.int .u64 a,.int .u64 b,.int .u64 c,.int .u64 d,.slice so n cap,.int .i64 p] 30)).heap[w.heap.size]? =some (.cells #[.int .i64 9,.string T,.int .u64 a,.int .u64 b,.int .u64 c,.int .u64 d,.slice so n cap,.int .i64 p] 30)):=Qq w _ rfl
 (try dsimp only[r8])
 go_enter func35,ntmps35
 go_wp2_with fail
 go_loopw [3] (fun i wr=>∃j:Nat,i=.int .i64 j/\j<=n/\Hid (Below w.heap.size w wr)/\Hid (wr.heap[w.heap.size]? =some (.cells #[.int .i64 9,.string T,.int .u64 a,.int .u64 b,.int .u64 c,.int .u64 d,.slice so n cap,.int .i64 p] 30))/\Hid (∀i (hi:i<s.length),i<j->okT s[i]=true)) (fun i _=>n-(intOf i).toNat)
 case atStart=>exact⟨0,rfl,Nat.zero_le _,HB1,HC1,fun i _ h=>absurd h (by omega)⟩
 case round=>
  obtain⟨j,rfl,hj,HB,HCb,HO⟩:=hrel;clear HB1 HC1;obtain⟨⟨m0,m1,m2,m3,m4,m5,m6,m7⟩,_⟩:=Qk HCb.out;have hwl:w.heap.size<wr.heap.size:=Qz HCb.out;by_cases hjn:j<n
  ·have hjI:(j:Int)<(n:Int):=by omega
   have a0:decide ((j:Int)<(n:Int))=true:=by simp;omega
   have hjs:j<s.length:=by rw[<-HN.out];exact hjn
   obtain⟨g,o,rfl,hg,k1,T1,a1,b1,c1,d1,so1,n1,cap1,p1,rc,hc⟩:=HC.out j hjs;obtain⟨z0,z1,z2,z3,z4,z5,z6,z7⟩:=rc.below HB.out hg;have HG:=hid (hc wr HB.out);obtain⟨Q,hQ⟩:∃Q,Q=okT s[j]:=⟨_,rfl⟩;rw[<-hQ]at HG;have HQ:=hid hQ;clear hc rc hQ HC HNm;dsimp only[r8]at HG
   go_wp2_with(first|(go_at_call 35;refine HG.out.mono ?_;rintro e wz ⟨rfl,hbz⟩))
   ·rename_i hq
    have hb2:=HB.out.trans (hbz.mono HB.out.size);go_ret;refine⟨?_,hb2⟩;rw[HR.out,Vc j hjs (by rw[<-HQ.out];simpa using hq),Bool.and_false];rfl
   ·rename_i hq
    have hb2:=HB.out.trans (hbz.mono HB.out.size);refine⟨⟨j+1,by go_num,by omega,hb2,hid ((hbz.block _ hwl).trans HCb.out),fun i hi hij=> ?_⟩,?_⟩
    ·rcases Nat.lt_or_ge i j with h1|h1
     ·exact HO.out i hi h1
     ·obtain rfl:i=j:=by omega
      rw[<-HQ.out];simpa using hq
    ·simp[intOf];omega
  ·have a0:decide ((j:Int)<(n:Int))=false:=by simp;omega
   have hok:okL s=true:=Vl fun i hi=>HO.out i hi (by have:=HN.out;omega)
   have HR2:Hid (R=okN 9 T a b c d n):=by show _=_;rw[HR.out,hok,Bool.and_true]
   obtain⟨M,hM⟩:∃M,M=nmS T:=⟨_,rfl⟩;rw[<-hM]at HNm;have HM:=hid hM;obtain⟨z,hz⟩:∃z,z=zc a b c d:=⟨_,rfl⟩;rw[<-hz]at e3;have HZ:=hid hz;obtain⟨tE,htE⟩:∃tE,tE=T.toList.isEmpty:=⟨_,rfl⟩;have HTE:=hid htE;have t1:(T.toList == [])=tE:=by rw[htE];cases T.toList<;>rfl
   have t2:(T.toList != [])= !tE:=by rw[bne,t1]
   have t3:T.toList.isEmpty=tE:=htE.symm;have HBb:=hid HB.out;clear HC hok hM hz htE
   go_wp2_with(first|(go_at_call 34;refine(HNm.out _).mono ?_;rintro e wz ⟨rfl,rfl⟩))
   all_goals(go_ret;refine⟨?_,by first|exact HBb.out.alloc HBb.out.size _|exact HBb.out⟩)
   all_goals(rw[HR2.out];have h1:=HM.out;have h2:=HZ.out;have h3:=HTE.out;clear t1 t2 t3 e3 HNm;unfold okN;simp_all)
theorem y0r(T:ByteArray)(a b c d p:Int)(so:Option Addr)(n cap:Nat)(s:List RT)(w:World)(hT:T.size<=9223372036854775807)(hn:n<=9223372036854775807)(HN:Hid (n=s.length))
  (HC:Hid (∀j (hj:j<s.length),∃g o,so=some ⟨g,o,none⟩/\g<w.heap.size/\∃k1 T1 a1 b1 c1 d1 so1 n1 cap1 p1,Rc w g (o+j*8) k1 T1 a1 b1 c1 d1 (.slice so1 n1 cap1) p1/\
    ∀W:World,Below w.heap.size w W->Calls prog 35 #[.agg (r8 k1 T1 a1 b1 c1 d1 so1 n1 cap1 p1).toArray] W fun e w'=>e=.returned (.bool (okT s[j]))/\Below W.heap.size W w')):
  Calls prog 35 #[.agg (r8 10 T a b c d so n cap p).toArray] w fun e w'=>e=.returned (.bool (okN 10 T a b c d n&&okL s))/\Below w.heap.size w w':=by
 obtain⟨R,hR⟩:∃R,R=(okN 10 T a b c d n&&okL s):=⟨_,rfl⟩;have HR:=hid hR;rw[<-hR];clear hR;have e3:=Jk a b c d;have HNm:=hid (fun w=>Uv T w hT);have HB1:Hid (Below w.heap.size w (w.alloc (.cells #[.int .i64 10,.string T,.int .u64 a,.int .u64 b,.int .u64 c,.int .u64 d,.slice so n cap,.int .i64 p] 30))):=(Below.refl _ w).alloc L0q _;have HC1:Hid ((w.alloc (.cells #[.int .i64 10,.string T,.int .u64 a,.int .u64 b,.int .u64 c,.int .u64 d,.slice so n cap,.int .i64 p] 30)).heap[w.heap.size]? =some (.cells #[.int .i64 10,.string T,.int .u64 a,.int .u64 b,.int .u64 c,.int .u64 d,.slice so n cap,.int .i64 p] 30)):=Qq w _ rfl
 (try dsimp only[r8])
 go_enter func35,ntmps35
 go_wp2_with fail
 go_loopw [3] (fun i wr=>∃j:Nat,i=.int .i64 j/\j<=n/\Hid (Below w.heap.size w wr)/\Hid (wr.heap[w.heap.size]? =some (.cells #[.int .i64 10,.string T,.int .u64 a,.int .u64 b,.int .u64 c,.int .u64 d,.slice so n cap,.int .i64 p] 30))/\Hid (∀i (hi:i<s.length),i<j->okT s[i]=true)) (fun i _=>n-(intOf i).toNat)
 case atStart=>exact⟨0,rfl,Nat.zero_le _,HB1,HC1,fun i _ h=>absurd h (by omega)⟩
 case round=>
  obtain⟨j,rfl,hj,HB,HCb,HO⟩:=hrel;clear HB1 HC1;obtain⟨⟨m0,m1,m2,m3,m4,m5,m6,m7⟩,_⟩:=Qk HCb.out;have hwl:w.heap.size<wr.heap.size:=Qz HCb.out;by_cases hjn:j<n
  ·have hjI:(j:Int)<(n:Int):=by omega
   have a0:decide ((j:Int)<(n:Int))=true:=by simp;omega
   have hjs:j<s.length:=by rw[<-HN.out];exact hjn
   obtain⟨g,o,rfl,hg,k1,T1,a1,b1,c1,d1,so1,n1,cap1,p1,rc,hc⟩:=HC.out j hjs;obtain⟨z0,z1,z2,z3,z4,z5,z6,z7⟩:=rc.below HB.out hg;have HG:=hid (hc wr HB.out);obtain⟨Q,hQ⟩:∃Q,Q=okT s[j]:=⟨_,rfl⟩;rw[<-hQ]at HG;have HQ:=hid hQ;clear hc rc hQ HC HNm;dsimp only[r8]at HG
   go_wp2_with(first|(go_at_call 35;refine HG.out.mono ?_;rintro e wz ⟨rfl,hbz⟩))
   ·rename_i hq
    have hb2:=HB.out.trans (hbz.mono HB.out.size);go_ret;refine⟨?_,hb2⟩;rw[HR.out,Vc j hjs (by rw[<-HQ.out];simpa using hq),Bool.and_false];rfl
   ·rename_i hq
    have hb2:=HB.out.trans (hbz.mono HB.out.size);refine⟨⟨j+1,by go_num,by omega,hb2,hid ((hbz.block _ hwl).trans HCb.out),fun i hi hij=> ?_⟩,?_⟩
    ·rcases Nat.lt_or_ge i j with h1|h1
     ·exact HO.out i hi h1
     ·obtain rfl:i=j:=by omega
      rw[<-HQ.out];simpa using hq
    ·simp[intOf];omega
  ·have a0:decide ((j:Int)<(n:Int))=false:=by simp;omega
   have hok:okL s=true:=Vl fun i hi=>HO.out i hi (by have:=HN.out;omega)
   have HR2:Hid (R=okN 10 T a b c d n):=by show _=_;rw[HR.out,hok,Bool.and_true]
   obtain⟨M,hM⟩:∃M,M=nmS T:=⟨_,rfl⟩;rw[<-hM]at HNm;have HM:=hid hM;obtain⟨z,hz⟩:∃z,z=zc a b c d:=⟨_,rfl⟩;rw[<-hz]at e3;have HZ:=hid hz;obtain⟨tE,htE⟩:∃tE,tE=T.toList.isEmpty:=⟨_,rfl⟩;have HTE:=hid htE;have t1:(T.toList == [])=tE:=by rw[htE];cases T.toList<;>rfl
   have t2:(T.toList != [])= !tE:=by rw[bne,t1]
   have t3:T.toList.isEmpty=tE:=htE.symm;have HBb:=hid HB.out;clear HC hok hM hz htE
   go_wp2_with(first|(go_at_call 34;refine(HNm.out _).mono ?_;rintro e wz ⟨rfl,rfl⟩))
   all_goals(go_ret;refine⟨?_,by first|exact HBb.out.alloc HBb.out.size _|exact HBb.out⟩)
   all_goals(rw[HR2.out];have h1:=HM.out;have h2:=HZ.out;have h3:=HTE.out;clear t1 t2 t3 e3 HNm;unfold okN;simp_all)
theorem y0s(T:ByteArray)(a b c d p:Int)(so:Option Addr)(n cap:Nat)(s:List RT)(w:World)(hT:T.size<=9223372036854775807)(hn:n<=9223372036854775807)(HN:Hid (n=s.length))
  (HC:Hid (∀j (hj:j<s.length),∃g o,so=some ⟨g,o,none⟩/\g<w.heap.size/\∃k1 T1 a1 b1 c1 d1 so1 n1 cap1 p1,Rc w g (o+j*8) k1 T1 a1 b1 c1 d1 (.slice so1 n1 cap1) p1/\
    ∀W:World,Below w.heap.size w W->Calls prog 35 #[.agg (r8 k1 T1 a1 b1 c1 d1 so1 n1 cap1 p1).toArray] W fun e w'=>e=.returned (.bool (okT s[j]))/\Below W.heap.size W w')):
  Calls prog 35 #[.agg (r8 11 T a b c d so n cap p).toArray] w fun e w'=>e=.returned (.bool (okN 11 T a b c d n&&okL s))/\Below w.heap.size w w':=by
 obtain⟨R,hR⟩:∃R,R=(okN 11 T a b c d n&&okL s):=⟨_,rfl⟩;have HR:=hid hR;rw[<-hR];clear hR;have e3:=Jk a b c d;have HNm:=hid (fun w=>Uv T w hT);have HB1:Hid (Below w.heap.size w (w.alloc (.cells #[.int .i64 11,.string T,.int .u64 a,.int .u64 b,.int .u64 c,.int .u64 d,.slice so n cap,.int .i64 p] 30))):=(Below.refl _ w).alloc L0q _;have HC1:Hid ((w.alloc (.cells #[.int .i64 11,.string T,.int .u64 a,.int .u64 b,.int .u64 c,.int .u64 d,.slice so n cap,.int .i64 p] 30)).heap[w.heap.size]? =some (.cells #[.int .i64 11,.string T,.int .u64 a,.int .u64 b,.int .u64 c,.int .u64 d,.slice so n cap,.int .i64 p] 30)):=Qq w _ rfl
 (try dsimp only[r8])
 go_enter func35,ntmps35
 go_wp2_with fail
 go_loopw [3] (fun i wr=>∃j:Nat,i=.int .i64 j/\j<=n/\Hid (Below w.heap.size w wr)/\Hid (wr.heap[w.heap.size]? =some (.cells #[.int .i64 11,.string T,.int .u64 a,.int .u64 b,.int .u64 c,.int .u64 d,.slice so n cap,.int .i64 p] 30))/\Hid (∀i (hi:i<s.length),i<j->okT s[i]=true)) (fun i _=>n-(intOf i).toNat)
 case atStart=>exact⟨0,rfl,Nat.zero_le _,HB1,HC1,fun i _ h=>absurd h (by omega)⟩
 case round=>
  obtain⟨j,rfl,hj,HB,HCb,HO⟩:=hrel;clear HB1 HC1;obtain⟨⟨m0,m1,m2,m3,m4,m5,m6,m7⟩,_⟩:=Qk HCb.out;have hwl:w.heap.size<wr.heap.size:=Qz HCb.out;by_cases hjn:j<n
  ·have hjI:(j:Int)<(n:Int):=by omega
   have a0:decide ((j:Int)<(n:Int))=true:=by simp;omega
   have hjs:j<s.length:=by rw[<-HN.out];exact hjn
   obtain⟨g,o,rfl,hg,k1,T1,a1,b1,c1,d1,so1,n1,cap1,p1,rc,hc⟩:=HC.out j hjs;obtain⟨z0,z1,z2,z3,z4,z5,z6,z7⟩:=rc.below HB.out hg;have HG:=hid (hc wr HB.out);obtain⟨Q,hQ⟩:∃Q,Q=okT s[j]:=⟨_,rfl⟩;rw[<-hQ]at HG;have HQ:=hid hQ;clear hc rc hQ HC HNm;dsimp only[r8]at HG
   go_wp2_with(first|(go_at_call 35;refine HG.out.mono ?_;rintro e wz ⟨rfl,hbz⟩))
   ·rename_i hq
    have hb2:=HB.out.trans (hbz.mono HB.out.size);go_ret;refine⟨?_,hb2⟩;rw[HR.out,Vc j hjs (by rw[<-HQ.out];simpa using hq),Bool.and_false];rfl
   ·rename_i hq
    have hb2:=HB.out.trans (hbz.mono HB.out.size);refine⟨⟨j+1,by go_num,by omega,hb2,hid ((hbz.block _ hwl).trans HCb.out),fun i hi hij=> ?_⟩,?_⟩
    ·rcases Nat.lt_or_ge i j with h1|h1
     ·exact HO.out i hi h1
     ·obtain rfl:i=j:=by omega
      rw[<-HQ.out];simpa using hq
    ·simp[intOf];omega
  ·have a0:decide ((j:Int)<(n:Int))=false:=by simp;omega
   have hok:okL s=true:=Vl fun i hi=>HO.out i hi (by have:=HN.out;omega)
   have HR2:Hid (R=okN 11 T a b c d n):=by show _=_;rw[HR.out,hok,Bool.and_true]
   obtain⟨M,hM⟩:∃M,M=nmS T:=⟨_,rfl⟩;rw[<-hM]at HNm;have HM:=hid hM;obtain⟨z,hz⟩:∃z,z=zc a b c d:=⟨_,rfl⟩;rw[<-hz]at e3;have HZ:=hid hz;obtain⟨tE,htE⟩:∃tE,tE=T.toList.isEmpty:=⟨_,rfl⟩;have HTE:=hid htE;have t1:(T.toList == [])=tE:=by rw[htE];cases T.toList<;>rfl
   have t2:(T.toList != [])= !tE:=by rw[bne,t1]
   have t3:T.toList.isEmpty=tE:=htE.symm;have HBb:=hid HB.out;clear HC hok hM hz htE
   go_wp2_with(first|(go_at_call 34;refine(HNm.out _).mono ?_;rintro e wz ⟨rfl,rfl⟩))
   all_goals(go_ret;refine⟨?_,by first|exact HBb.out.alloc HBb.out.size _|exact HBb.out⟩)
   all_goals(rw[HR2.out];have h1:=HM.out;have h2:=HZ.out;have h3:=HTE.out;clear t1 t2 t3 e3 HNm;unfold okN;simp_all)
theorem y0t(T:ByteArray)(a b c d p:Int)(so:Option Addr)(n cap:Nat)(s:List RT)(w:World)(hT:T.size<=9223372036854775807)(hn:n<=9223372036854775807)(HN:Hid (n=s.length))
  (HC:Hid (∀j (hj:j<s.length),∃g o,so=some ⟨g,o,none⟩/\g<w.heap.size/\∃k1 T1 a1 b1 c1 d1 so1 n1 cap1 p1,Rc w g (o+j*8) k1 T1 a1 b1 c1 d1 (.slice so1 n1 cap1) p1/\
    ∀W:World,Below w.heap.size w W->Calls prog 35 #[.agg (r8 k1 T1 a1 b1 c1 d1 so1 n1 cap1 p1).toArray] W fun e w'=>e=.returned (.bool (okT s[j]))/\Below W.heap.size W w')):
  Calls prog 35 #[.agg (r8 12 T a b c d so n cap p).toArray] w fun e w'=>e=.returned (.bool (okN 12 T a b c d n&&okL s))/\Below w.heap.size w w':=by
 obtain⟨R,hR⟩:∃R,R=(okN 12 T a b c d n&&okL s):=⟨_,rfl⟩;have HR:=hid hR;rw[<-hR];clear hR;have e3:=Jk a b c d;have HNm:=hid (fun w=>Uv T w hT);have HB1:Hid (Below w.heap.size w (w.alloc (.cells #[.int .i64 12,.string T,.int .u64 a,.int .u64 b,.int .u64 c,.int .u64 d,.slice so n cap,.int .i64 p] 30))):=(Below.refl _ w).alloc L0q _;have HC1:Hid ((w.alloc (.cells #[.int .i64 12,.string T,.int .u64 a,.int .u64 b,.int .u64 c,.int .u64 d,.slice so n cap,.int .i64 p] 30)).heap[w.heap.size]? =some (.cells #[.int .i64 12,.string T,.int .u64 a,.int .u64 b,.int .u64 c,.int .u64 d,.slice so n cap,.int .i64 p] 30)):=Qq w _ rfl
 (try dsimp only[r8])
 go_enter func35,ntmps35
 go_wp2_with fail
 go_loopw [3] (fun i wr=>∃j:Nat,i=.int .i64 j/\j<=n/\Hid (Below w.heap.size w wr)/\Hid (wr.heap[w.heap.size]? =some (.cells #[.int .i64 12,.string T,.int .u64 a,.int .u64 b,.int .u64 c,.int .u64 d,.slice so n cap,.int .i64 p] 30))/\Hid (∀i (hi:i<s.length),i<j->okT s[i]=true)) (fun i _=>n-(intOf i).toNat)
 case atStart=>exact⟨0,rfl,Nat.zero_le _,HB1,HC1,fun i _ h=>absurd h (by omega)⟩
 case round=>
  obtain⟨j,rfl,hj,HB,HCb,HO⟩:=hrel;clear HB1 HC1;obtain⟨⟨m0,m1,m2,m3,m4,m5,m6,m7⟩,_⟩:=Qk HCb.out;have hwl:w.heap.size<wr.heap.size:=Qz HCb.out;by_cases hjn:j<n
  ·have hjI:(j:Int)<(n:Int):=by omega
   have a0:decide ((j:Int)<(n:Int))=true:=by simp;omega
   have hjs:j<s.length:=by rw[<-HN.out];exact hjn
   obtain⟨g,o,rfl,hg,k1,T1,a1,b1,c1,d1,so1,n1,cap1,p1,rc,hc⟩:=HC.out j hjs;obtain⟨z0,z1,z2,z3,z4,z5,z6,z7⟩:=rc.below HB.out hg;have HG:=hid (hc wr HB.out);obtain⟨Q,hQ⟩:∃Q,Q=okT s[j]:=⟨_,rfl⟩;rw[<-hQ]at HG;have HQ:=hid hQ;clear hc rc hQ HC HNm;dsimp only[r8]at HG
   go_wp2_with(first|(go_at_call 35;refine HG.out.mono ?_;rintro e wz ⟨rfl,hbz⟩))
   ·rename_i hq
    have hb2:=HB.out.trans (hbz.mono HB.out.size);go_ret;refine⟨?_,hb2⟩;rw[HR.out,Vc j hjs (by rw[<-HQ.out];simpa using hq),Bool.and_false];rfl
   ·rename_i hq
    have hb2:=HB.out.trans (hbz.mono HB.out.size);refine⟨⟨j+1,by go_num,by omega,hb2,hid ((hbz.block _ hwl).trans HCb.out),fun i hi hij=> ?_⟩,?_⟩
    ·rcases Nat.lt_or_ge i j with h1|h1
     ·exact HO.out i hi h1
     ·obtain rfl:i=j:=by omega
      rw[<-HQ.out];simpa using hq
    ·simp[intOf];omega
  ·have a0:decide ((j:Int)<(n:Int))=false:=by simp;omega
   have hok:okL s=true:=Vl fun i hi=>HO.out i hi (by have:=HN.out;omega)
   have HR2:Hid (R=okN 12 T a b c d n):=by show _=_;rw[HR.out,hok,Bool.and_true]
   obtain⟨M,hM⟩:∃M,M=nmS T:=⟨_,rfl⟩;rw[<-hM]at HNm;have HM:=hid hM;obtain⟨z,hz⟩:∃z,z=zc a b c d:=⟨_,rfl⟩;rw[<-hz]at e3;have HZ:=hid hz;obtain⟨tE,htE⟩:∃tE,tE=T.toList.isEmpty:=⟨_,rfl⟩;have HTE:=hid htE;have t1:(T.toList == [])=tE:=by rw[htE];cases T.toList<;>rfl
   have t2:(T.toList != [])= !tE:=by rw[bne,t1]
   have t3:T.toList.isEmpty=tE:=htE.symm;have HBb:=hid HB.out;clear HC hok hM hz htE
   go_wp2_with(first|(go_at_call 34;refine(HNm.out _).mono ?_;rintro e wz ⟨rfl,rfl⟩))
   all_goals(go_ret;refine⟨?_,by first|exact HBb.out.alloc HBb.out.size _|exact HBb.out⟩)
   all_goals(rw[HR2.out];have h1:=HM.out;have h2:=HZ.out;have h3:=HTE.out;clear t1 t2 t3 e3 HNm;unfold okN;simp_all)
theorem y0u(k:Int)(T:ByteArray)(a b c d p:Int)(so:Option Addr)(n cap:Nat)(s:List RT)(w:World)(hk:k<1∨12<k)(hT:T.size<=9223372036854775807)(hn:n<=9223372036854775807)(HN:Hid (n=s.length))
  (HC:Hid (∀j (hj:j<s.length),∃g o,so=some ⟨g,o,none⟩/\g<w.heap.size/\∃k1 T1 a1 b1 c1 d1 so1 n1 cap1 p1,Rc w g (o+j*8) k1 T1 a1 b1 c1 d1 (.slice so1 n1 cap1) p1/\
    ∀W:World,Below w.heap.size w W->Calls prog 35 #[.agg (r8 k1 T1 a1 b1 c1 d1 so1 n1 cap1 p1).toArray] W fun e w'=>e=.returned (.bool (okT s[j]))/\Below W.heap.size W w')):
  Calls prog 35 #[.agg (r8 k T a b c d so n cap p).toArray] w fun e w'=>e=.returned (.bool (okN k T a b c d n&&okL s))/\Below w.heap.size w w':=by
 obtain⟨R,hR⟩:∃R,R=(okN k T a b c d n&&okL s):=⟨_,rfl⟩;have HR:=hid hR;rw[<-hR];clear hR;have q1:(k == 1)=false:=by simp;omega
 have rr1:(k != 1)=true:=by rw[bne_iff_ne];omega
 have q2:(k == 2)=false:=by simp;omega
 have rr2:(k != 2)=true:=by rw[bne_iff_ne];omega
 have q3:(k == 3)=false:=by simp;omega
 have rr3:(k != 3)=true:=by rw[bne_iff_ne];omega
 have q4:(k == 4)=false:=by simp;omega
 have rr4:(k != 4)=true:=by rw[bne_iff_ne];omega
 have q5:(k == 5)=false:=by simp;omega
 have rr5:(k != 5)=true:=by rw[bne_iff_ne];omega
 have q6:(k == 6)=false:=by simp;omega
 have rr6:(k != 6)=true:=by rw[bne_iff_ne];omega
 have q7:(k == 7)=false:=by simp;omega
 have rr7:(k != 7)=true:=by rw[bne_iff_ne];omega
 have q8:(k == 8)=false:=by simp;omega
 have rr8:(k != 8)=true:=by rw[bne_iff_ne];omega
 have q9:(k == 9)=false:=by simp;omega
 have rr9:(k != 9)=true:=by rw[bne_iff_ne];omega
 have q10:(k == 10)=false:=by simp;omega
 have rr10:(k != 10)=true:=by rw[bne_iff_ne];omega
 have q11:(k == 11)=false:=by simp;omega
 have rr11:(k != 11)=true:=by rw[bne_iff_ne];omega
 have q12:(k == 12)=false:=by simp;omega
 have rr12:(k != 12)=true:=by rw[bne_iff_ne];omega
 have HK:=hid hk;clear hk;have e3:=Jk a b c d;have HNm:=hid (fun w=>Uv T w hT);have HB1:Hid (Below w.heap.size w (w.alloc (.cells #[.int .i64 k,.string T,.int .u64 a,.int .u64 b,.int .u64 c,.int .u64 d,.slice so n cap,.int .i64 p] 30))):=(Below.refl _ w).alloc L0q _;have HC1:Hid ((w.alloc (.cells #[.int .i64 k,.string T,.int .u64 a,.int .u64 b,.int .u64 c,.int .u64 d,.slice so n cap,.int .i64 p] 30)).heap[w.heap.size]? =some (.cells #[.int .i64 k,.string T,.int .u64 a,.int .u64 b,.int .u64 c,.int .u64 d,.slice so n cap,.int .i64 p] 30)):=Qq w _ rfl
 (try dsimp only[r8])
 go_enter func35,ntmps35
 go_wp2_with fail
 go_loopw [3] (fun i wr=>∃j:Nat,i=.int .i64 j/\j<=n/\Hid (Below w.heap.size w wr)/\Hid (wr.heap[w.heap.size]? =some (.cells #[.int .i64 k,.string T,.int .u64 a,.int .u64 b,.int .u64 c,.int .u64 d,.slice so n cap,.int .i64 p] 30))/\Hid (∀i (hi:i<s.length),i<j->okT s[i]=true)) (fun i _=>n-(intOf i).toNat)
 case atStart=>exact⟨0,rfl,Nat.zero_le _,HB1,HC1,fun i _ h=>absurd h (by omega)⟩
 case round=>
  obtain⟨j,rfl,hj,HB,HCb,HO⟩:=hrel;clear HB1 HC1;obtain⟨⟨m0,m1,m2,m3,m4,m5,m6,m7⟩,_⟩:=Qk HCb.out;have hwl:w.heap.size<wr.heap.size:=Qz HCb.out;by_cases hjn:j<n
  ·have hjI:(j:Int)<(n:Int):=by omega
   have a0:decide ((j:Int)<(n:Int))=true:=by simp;omega
   have hjs:j<s.length:=by rw[<-HN.out];exact hjn
   obtain⟨g,o,rfl,hg,k1,T1,a1,b1,c1,d1,so1,n1,cap1,p1,rc,hc⟩:=HC.out j hjs;obtain⟨z0,z1,z2,z3,z4,z5,z6,z7⟩:=rc.below HB.out hg;have HG:=hid (hc wr HB.out);obtain⟨Q,hQ⟩:∃Q,Q=okT s[j]:=⟨_,rfl⟩;rw[<-hQ]at HG;have HQ:=hid hQ;clear hc rc hQ HC HNm;dsimp only[r8]at HG
   go_wp2_with(first|(go_at_call 35;refine HG.out.mono ?_;rintro e wz ⟨rfl,hbz⟩))
   ·rename_i hq
    have hb2:=HB.out.trans (hbz.mono HB.out.size);go_ret;refine⟨?_,hb2⟩;rw[HR.out,Vc j hjs (by rw[<-HQ.out];simpa using hq),Bool.and_false];rfl
   ·rename_i hq
    have hb2:=HB.out.trans (hbz.mono HB.out.size);refine⟨⟨j+1,by go_num,by omega,hb2,hid ((hbz.block _ hwl).trans HCb.out),fun i hi hij=> ?_⟩,?_⟩
    ·rcases Nat.lt_or_ge i j with h1|h1
     ·exact HO.out i hi h1
     ·obtain rfl:i=j:=by omega
      rw[<-HQ.out];simpa using hq
    ·simp[intOf];omega
  ·have a0:decide ((j:Int)<(n:Int))=false:=by simp;omega
   have hok:okL s=true:=Vl fun i hi=>HO.out i hi (by have:=HN.out;omega)
   have HR2:Hid (R=okN k T a b c d n):=by show _=_;rw[HR.out,hok,Bool.and_true]
   obtain⟨M,hM⟩:∃M,M=nmS T:=⟨_,rfl⟩;rw[<-hM]at HNm;have HM:=hid hM;obtain⟨z,hz⟩:∃z,z=zc a b c d:=⟨_,rfl⟩;rw[<-hz]at e3;have HZ:=hid hz;obtain⟨tE,htE⟩:∃tE,tE=T.toList.isEmpty:=⟨_,rfl⟩;have HTE:=hid htE;have t1:(T.toList == [])=tE:=by rw[htE];cases T.toList<;>rfl
   have t2:(T.toList != [])= !tE:=by rw[bne,t1]
   have t3:T.toList.isEmpty=tE:=htE.symm;have HBb:=hid HB.out;clear HC hok hM hz htE
   go_wp2_with(first|(go_at_call 34;refine(HNm.out _).mono ?_;rintro e wz ⟨rfl,rfl⟩))
   all_goals(go_ret;refine⟨?_,by first|exact HBb.out.alloc HBb.out.size _|exact HBb.out⟩)
   all_goals(rw[HR2.out];have h1:=HM.out;have h2:=HZ.out;have h3:=HTE.out;clear t1 t2 t3 e3 HNm;unfold okN;rw[if_neg (by have:=HK.out;omega),if_neg (by have:=HK.out;omega),if_neg (by have:=HK.out;omega),if_neg (by have:=HK.out;omega),if_neg (by have:=HK.out;omega),if_neg (by have:=HK.out;omega)];rfl)
theorem z3S:∀(N:Nat) (t:RT) (cs:List Value) (B:Nat) (w:World),SizeOf.sizeOf t<N->RtZ t->Qh w B t cs->B<=w.heap.size->
  Calls prog 35 #[.agg cs.toArray] w fun e w'=>e=.returned (.bool (okT t))/\Below w.heap.size w w'
 |0,t,_,_,_,h,_,_,_=>by omega
 |N+1,.mk k T a b c d s p,cs,B,w,hN,hz,ht,hB=>by
  rw[Qh]at ht;obtain⟨so,cap,rfl,ht⟩:=ht;rw[RtZ]at hz;rw[okT];have hrow:Qg s<=9223372036854775807/\(∀j (hj:j<s.length),∃g o,so=some ⟨g,o,none⟩/\g<w.heap.size/\∃k1 T1 a1 b1 c1 d1 so1 n1 cap1 p1,Rc w g (o+j*8) k1 T1 a1 b1 c1 d1 (.slice so1 n1 cap1) p1/\
    ∀W:World,Below w.heap.size w W->Calls prog 35 #[.agg (r8 k1 T1 a1 b1 c1 d1 so1 n1 cap1 p1).toArray] W fun e w'=>e=.returned (.bool (okT s[j]))/\Below W.heap.size W w'):=by
   rcases ht with h1|⟨h1,g,o,rfl,hg,hm,hs⟩
   ·have hs0:s=[]:=by simpa using h1
    subst hs0;exact⟨by rw[Qg];omega,fun j hj=>by simp at hj⟩
   ·refine⟨by unfold maxLen at hm;omega,fun j hj=> ?_⟩
    obtain⟨k1,T1,a1,b1,c1,d1,so1,n1,cap1,p1,r1,r2⟩:=Kl hs j hj;refine⟨g,o,rfl,by omega,k1,T1,a1,b1,c1,d1,so1,n1,cap1,p1,r2,fun W hW=> ?_⟩;have hsz:=List.sizeOf_lt_of_mem (List.getElem_mem hj);simp only[RT.mk.sizeOf_spec]at hN;exact z3S N s[j] _ B W (by omega) (hz.2.get j hj) (r1.below (hW.mono hB)) (Nat.le_trans hB hW.size)
  have HN:=hid (Dc s);have HC:=hid hrow.2;have hk:k=1∨k=2∨k=3∨k=4∨k=5∨k=6∨k=7∨k=8∨k=9∨k=10∨k=11∨k=12∨(k<1∨12<k):=by omega
  rcases hk with rfl|rfl|rfl|rfl|rfl|rfl|rfl|rfl|rfl|rfl|rfl|rfl|hk
  ·exact y0i T a b c d p so _ cap s w hz.1 hrow.1 HN HC
  ·exact y0j T a b c d p so _ cap s w hz.1 hrow.1 HN HC
  ·exact y0k T a b c d p so _ cap s w hz.1 hrow.1 HN HC
  ·exact y0l T a b c d p so _ cap s w hz.1 hrow.1 HN HC
  ·exact y0m T a b c d p so _ cap s w hz.1 hrow.1 HN HC
  ·exact y0n T a b c d p so _ cap s w hz.1 hrow.1 HN HC
  ·exact y0o T a b c d p so _ cap s w hz.1 hrow.1 HN HC
  ·exact y0p T a b c d p so _ cap s w hz.1 hrow.1 HN HC
  ·exact y0q T a b c d p so _ cap s w hz.1 hrow.1 HN HC
  ·exact y0r T a b c d p so _ cap s w hz.1 hrow.1 HN HC
  ·exact y0s T a b c d p so _ cap s w hz.1 hrow.1 HN HC
  ·exact y0t T a b c d p so _ cap s w hz.1 hrow.1 HN HC
  ·exact y0u k T a b c d p so _ cap s w hk hz.1 hrow.1 HN HC
end Go.Proofs.YtikfnaffiehpaaaGreatDoor
