/-
  muntinlaw09.FirstPruned answers true at any grammar. Conditions: those that each theorem names.
  muntinlaw09.FirstPruned answers true whatever its arguments, and they read as they did (the given card). Condition: the listed package-level variables are what the program's own text lays; the card ties them to that text.
-/
import Derived.Test.YtjodljnddflgfaaGreatDoorEPR2ToFF
import Derived.Test.YtjodljnddflgfaaGreatDoorVFIToFBase
import Derived.Test.YtjodljnddflgfaaGreatDoorCards
import Derived.Test.YtjodljnddflgfaaGreatDoorTie
set_option linter.unusedVariables false
set_option maxRecDepth 100000
set_option maxHeartbeats 16000000
namespace Go.Proofs.YtjodljnddflgfaaGreatDoor
open Go.Proofs.Tryz
open Go.RowKit Go.Shelf Go.Maps
theorem FrP.pair{rs:List Rr}{X:Option (Int ⊕ (Int×Int))}{W:World}{e:Ending}{w':World}(h:FrP rs X W e w'):∃lv hv,e=.returned (.tuple #[lv,hv])/\Hid (Below W.heap.size W w'):=by
 obtain⟨hb,⟨_,v,h1,_⟩|⟨_,ub,m,mm,cs,h1,_⟩⟩:=h
 ·exact⟨_,_,h1,hb⟩
 ·exact⟨_,_,h1,hb⟩
theorem y4N(w:World)(B:Nat):Qh w B none 0 []:=⟨rfl,Nat.zero_le _,fun j hj=>by simp at hj⟩
theorem y5N{wr W W':World}{a0 a1 a2:Addr}{v0 v1 v2:Value}(h:Hid (Below wr.heap.size wr W)/\W.cell? a0=some v0/\W.cell? a1=some v1/\W.cell? a2=some v2)(hb:Below W.heap.size W W'):Hid (Below wr.heap.size wr W')/\W'.cell? a0=some v0/\W'.cell? a1=some v1/\W'.cell? a2=some v2:=by
 have e:∀{a:Addr} {u:Value},W.cell? a=some u->W'.cell? a=some u:=fun{a u} h=>(hb.cell (p:=a) (World.block_lt_of_cell? W _ h)).trans h
 exact⟨hid (h.1.out.trans (hb.mono h.1.out.size)),e h.2.1,e h.2.2.1,e h.2.2.2⟩
theorem y4l{wr W:World}{p:Prop}(h:Hid (Below wr.heap.size wr W)/\p):Below wr.heap.size wr W:=h.1.out
theorem y5O(so:Option Addr)(n cap:Nat)(rs:List Rr)(w:World)(hE:Yz w)(hT:TabIs w)(hz:RgZ rs)(hu:RgU rs)(h:Qh w w.heap.size so n rs):
  Calls prog 5 #[.agg #[.slice so n cap]] w fun e w'=>e=.returned (.bool true)/\Below w.heap.size w w':=by
 obtain⟨X,hX,hP,hC⟩:=z4M so n cap rs w.heap.size w hz hu h L0q hT;obtain⟨u1,hu1⟩:∃u1,u1=w.alloc (.cells #[.slice so n cap] 24):=⟨_,rfl⟩;have hB1:Below w.heap.size w u1:=by rw[hu1];exact(Below.refl _ w).alloc L0q _
 have hG1:u1.heap[w.heap.size]? =some (.cells #[.slice so n cap] 24):=by rw[hu1];exact Qx w _ rfl
 have HS:=hid (z5w u1 (hE.below hB1 hE.lt) (hT.below hB1 hT.lt));have HRu:=hid (z5n so n cap rs X w.heap.size w hX hP hC hz hu h L0q hT);have HPr:=hid (y5J so n cap rs X w.heap.size w hX hP hC hz h L0q hT.lt);have HFd:=hid (fun(s:ByteArray) (W:World) (hb:Below w.heap.size w W)=>y0J s so n cap rs w.heap.size W (h.below hb) hb.size);have HT:=hid hT;have HNl:Hid (n=rs.length):=h.1;have HZ:=hid hz;have HUu:=hid hu;have HXr:=hid hX;have HP:=hid hP;have HB1:=hid hB1;have HG1:=hid hG1;have HU1:=hid hu1;clear hE hT hz hu h hC hX hP hB1 hG1 hu1;go_enter func5,ntmps5
 go_wp2_with fail
 rw[<-HU1.out];clear HU1;refine HS.out.mono ?_;rintro e w1 ⟨rfl,HBs⟩;have HB2:=hid (HB1.out.trans (HBs.out.mono HB1.out.size));have HG2:=hid ((HBs.out.block _ (Qz HG1.out)).trans HG1.out);obtain⟨g2,_⟩:=Qw HG2.out;have lg2:=Qz HG2.out;clear HS HBs HB1 HG1
 go_wp2_with fail
 refine(HRu.out _ HB2.out).mono ?_;rintro e w2 ⟨hb2,hre⟩;have HB3:=hid (HB2.out.trans (hb2.mono HB2.out.size));have HG3:=hid ((hb2.block _ lg2).trans HG2.out);obtain⟨g3,_⟩:=Qw HG3.out;have lg3:=Qz HG3.out;have HS2:=hid (HPr.out w2 HB3.out);clear HRu HPr;rcases hre with⟨hX,v,rfl,hv⟩|⟨rfl,ub,m,ma,cs,rfl,hub,hfx,hfa,hbd,hcs,hou⟩
 ·obtain⟨tt,uu,rfl⟩:=hv.shape hX
  clear hv hb2 HB2 HG2 g2 lg2
  go_wp2_with fail
  refine HS2.out.mono ?_;rintro e w3 ⟨hb3,⟨_,v3,rfl,hv3⟩|⟨h0,_⟩⟩
  ·have hB4:=(HB3.out.trans (hb3.mono HB3.out.size)).alloc (HB3.out.trans (hb3.mono HB3.out.size)).size (.cells #[.slice none 0 0] 24)
   obtain⟨X',hX',hP',hC'⟩:=z4M none 0 0 [] 0 (w3.alloc (.cells #[.slice none 0 0] 24)) (fun x hx=>by simp at hx) (fun x hx=>by simp at hx) (y4N _ _) (Nat.zero_le _) (HT.out.below hB4 HT.out.lt);have HS4:=hid ((z5n none 0 0 [] X' 0 _ hX' hP' hC' (fun x hx=>by simp at hx) (fun x hx=>by simp at hx) (y4N _ _) (Nat.zero_le _) (HT.out.below hB4 HT.out.lt) _ B0q).mono fun e w' he=>he.pair);have HB4:=hid hB4;obtain⟨tt3,uu3,rfl⟩:=hv3.shape hX;clear hB4 hX' hC' hP' hb3 hv3 HS2 hX
   go_wp2_with fail
   refine HS4.out.mono ?_;rintro e w5 ⟨lv,hv5,rfl,HB5⟩;clear HS4
   go_wp2_with fail
   go_ret;exact⟨rfl,HB4.out.trans (HB5.out.mono HB4.out.size)⟩
  ·exact absurd h0 hX
 obtain⟨hok,hck,_⟩:=HXr.out;rw[<-HNl.out];have hn64:n<=64:=by rw[HNl.out];exact(Dx hok).2
 have HFx:=hid hfx;have HFa:=hid hfa;have HBd:=hid hbd;have HOU:=hid hou;have HCS:=hid hcs;have hprg:=HP.out rfl;clear hfx hfa hbd hcs hou hb2 HB2 HG2 g2 lg2 HXr HP
 go_wp2_with fail
 refine HS2.out.mono ?_;rintro e w3 ⟨hb3,⟨h0,_⟩|⟨_,so',cap',L,rfl,hL,hrg⟩⟩
 ·exact absurd rfl h0
 obtain⟨hsty,hin,hl1⟩:=y4k hok hck hL;have hpl:=y4a hin;have hprp:=y5F hprg hsty.sub (by rw[hpl];exact hl1);have hckp:=hsty.ck hck;obtain⟨k,hk⟩:∃k,k=L.length:=⟨_,rfl⟩;rw[<-hk]at hpl hrg ⊢;have hk64:k<=64:=by have:=(Dx hprp.1).2;omega
 have hb34:Below w3.heap.size w3 (w3.alloc (.cells #[.slice so' k cap'] 24)):=B0q.alloc L0q _;have hB4:=(HB3.out.trans (hb3.mono HB3.out.size)).trans (hb34.mono (HB3.out.trans (hb3.mono HB3.out.size)).size);have hrg4:=(hrg.below hb34).upto hb34.size;have hzp:RgZ (prn rs L):=fun x hx=>HZ.out x (hsty.sub.subset hx)
 obtain⟨hX4,hC4⟩:=y1R so' k cap' (prn rs L) _ _ hzp hrg4 L0q (HT.out.below hB4 HT.out.lt) hprp hckp;have HS4:=hid (z5n so' k cap' (prn rs L) none _ _ hX4 (fun _=>hprp) hC4 hzp (fun x hx=>HUu.out x (hsty.sub.subset hx)) hrg4 L0q (HT.out.below hB4 HT.out.lt) _ B0q);have hp4:=Qx w3 (.cells #[.slice so' k cap'] 24) rfl;have HP4:=hid hp4;have HB4:=hid hB4;have HR4:=hid hrg4;have HCK:=hid hck;have HST:=hid hsty;have HPL:Hid ((prn rs L).length=k):=hpl;have HIN:=hid hin;have HKl:Hid (k=L.length):=hk;have HG4:=hid ((hb34.block _ (Nat.lt_of_lt_of_le lg3 hb3.size)).trans ((hb3.block _ lg3).trans HG3.out));have HC4:=hid ((hb34.block _ (Nat.lt_of_lt_of_le (Qz HCS.out) hb3.size)).trans ((hb3.block _ (Qz HCS.out)).trans HCS.out));clear hb34 hB4 hrg4 hX4 hC4 hb3 hrg hL HS2 hzp hp4 hck hsty hpl hin hk hprg hprp hckp hok HG3 g3 lg3 HCS HB3
 go_wp2_with fail
 refine HS4.out.mono ?_;rintro e w5 ⟨hb5,⟨h0,_⟩|⟨_,ub5,m5,ma5,cs5,rfl,hub5,hfx5,hfa5,-,hcs5,hou5⟩⟩
 ·exact absurd rfl h0
 rw[HPL.out];have HB5:=hid (HB4.out.trans (hb5.mono HB4.out.size));have HP5:=hid ((hb5.block _ (Qz HP4.out)).trans HP4.out);have HG5:=hid ((hb5.block _ (Qz HG4.out)).trans HG4.out);have HC5:=hid ((hb5.block _ (Qz HC4.out)).trans HC4.out);have HR5:=hid (HR4.out.below hb5);have HM5:=hid hcs5;have HO5:=hid hou5;have HFx5:=hid hfx5;have HFa5:=hid hfa5;obtain⟨p5,_⟩:=Qw HP5.out;have lp5:=Qz HP5.out;clear hb5 hub5 hfx5 hfa5 hcs5 hou5 HS4 HP4 HG4 HC4 HR4 HB4
 go_wp2_with fail
 clear p5 lp5
 go_loopw [10] (fun i wr=>∃j:Nat,i=.int .i64 j/\j<=k/\Hid (Below w5.heap.size w5 wr)) (fun i _=>k-(intOf i).toNat)
 case atStart=>exact⟨0,rfl,Nat.zero_le _,hid B0q⟩
 case round=>
  obtain⟨j,rfl,hj,HBr⟩:=hrel;have HBw:=hid (HB5.out.trans (HBr.out.mono HB5.out.size));have hpr:=(HBr.out.block _ (Qz HP5.out)).trans HP5.out;obtain⟨p6,_⟩:=Qw hpr;have lp6:=Qz hpr;by_cases hjn:j<k
  ·have hjI:(j:Int)<(k:Int):=by omega
   have a0:decide ((j:Int)<(k:Int))=true:=by simp;omega
   have hjp:j<(prn rs L).length:=by rw[HPL.out];exact hjn
   have hjL:j<L.length:=by rw[<-HKl.out];exact hjn
   obtain⟨mm,hmm,eL,ep⟩:=y4g HIN.out j hjL hjp;obtain⟨gp,op,rfl,hgp,k1,T1,a1,b1,c1,d1,so1,n1,cap1,p1,rt1,z0,-⟩:=HR5.out.2.2 j hjp;rw[ep]at z0;obtain⟨N0,hN0⟩:∃N0,N0=rs[mm].1:=⟨_,rfl⟩;rw[<-hN0]at z0;have hgp5:gp<w5.heap.size:=World.block_lt_of_cell? w5 _ z0;have y0:=(HBr.out.cell (p:=⟨gp,op+j*10,none⟩) hgp5).trans z0;have lgp:=Nat.lt_of_lt_of_le hgp5 HBr.out.size;obtain⟨g6,_⟩:=Qw ((HBr.out.block _ (Qz HG5.out)).trans HG5.out);have lg6:=Qz ((HBr.out.block _ (Qz HG5.out)).trans HG5.out);have hfd:fdI N0 (nmL rs)=(mm:Int):=by rw[hN0];exact z4g HCK.out mm hmm
   have hmn:mm<n:=by rw[HNl.out];exact hmm
   have hmI:(mm:Int)<(n:Int):=by omega
   have hm0:decide ((mm:Int)<0)=false:=by simp
   have hm1:decide ((n:Int)<=(mm:Int))=false:=by simp;omega
   have hm2:decide (n<=mm)=false:=by simp;omega
   have hm3:¬n<=mm:=by omega
   have HF:=hid (fun(W:World) (hb:Below w.heap.size w W)=>by have:=HFd.out N0 W hb;rw[hfd]at this;exact this);obtain⟨⟨C,y⟩,hy⟩:∃y,y=Qm (itr rs m) rs ma N0:=⟨_,rfl⟩;have hCb:C<2^256:=by have:=HBd.out N0;rw[<-hy]at this;exact this
   have o1:=HOU.out.2 mm hmm hmm;rw[<-hN0,<-hy]at o1;have o2:=HO5.out.2 j hjp hjp;have e2:Qm (itr (prn rs L) m5) (prn rs L) ma5 (prn rs L)[j].1=(C,y):=by
    rw[y5M HST.out HCK.out (fun s hs=>y5G HST.out HCK.out HFx5.out HFx.out s hs) HFa5.out HFa.out _ (z4E.2 (List.mem_map.2 ⟨_,List.getElem_mem hjp,rfl⟩)),ep,<-hN0,hy]
   have hq:∀w:World,(Op.equalIn 10000 39 (.agg #[.int .u64 (wd C 0),.int .u64 (wd C 1),.int .u64 (wd C 2),.int .u64 (wd C 3),.bool y]) (.agg #[.int .u64 (wd C 0),.int .u64 (wd C 1),.int .u64 (wd C 2),.int .u64 (wd C 3),.bool y])).run prog w=.ok true w:=fun w=>by have:=Wl (C,y) (C,y) hCb hCb w;rw[decide_eq_true rfl]at this;exact this
   rw[e2]at o2;have hCr:=(HBr.out.block _ (Qz HC5.out)).trans HC5.out;have hMr:=(HBr.out.block _ (Qz HM5.out)).trans HM5.out;have l0:=(Zj hCr _ _ o1.1).1;have l1:=(Zj hCr _ _ o1.2.1).1;have l2:=(Zj hCr _ _ o1.2.2.1).1;have l3:=(Zj hCr _ _ o1.2.2.2.1).1;have l4:=(Zj hCr _ _ o1.2.2.2.2).1;have q0:=(Zj hMr _ _ o2.1).1;have q1:=(Zj hMr _ _ o2.2.1).1;have q2:=(Zj hMr _ _ o2.2.2.1).1;have q3:=(Zj hMr _ _ o2.2.2.2.1).1;have q4:=(Zj hMr _ _ o2.2.2.2.2).1;have lu:=Qz hCr;have lm:=Qz hMr;have S0:(fun W:World=>Hid (Below wr.heap.size wr W)/\W.cell? ⟨w.heap.size,0,none⟩=some (.slice so n cap)/\W.cell? ⟨w3.heap.size,0,none⟩=some (.slice (some ⟨gp,op,none⟩) k cap')/\W.cell? ⟨gp,op+j*10,none⟩=some (.string N0)) wr.drew:=⟨hid B0q.drew,g6,p6,y0⟩;clear hpr z0 rt1 ep eL hN0 hy o1 o2 e2 hCr hMr hfd
   go_wp2_with fail
   go_region_held3 (fun W:World=>Hid (Below wr.heap.size wr W)/\W.cell? ⟨w.heap.size,0,none⟩=some (.slice so n cap)/\W.cell? ⟨w3.heap.size,0,none⟩=some (.slice (some ⟨gp,op,none⟩) k cap')/\W.cell? ⟨gp,op+j*10,none⟩=some (.string N0)) (first|(with_reducible assumption)|(with_reducible exact y5N (by assumption) (by assumption))) (first
    |(go_at_call 22;refine(HF.out _ (HBw.out.trans (Below.mono (y4l (by assumption)) HBw.out.size))).mono ?_;rintro e w6 ⟨rfl,hb6⟩;have HB6:=hid (Below.trans (y4l (by assumption)) (hb6.mono (Below.size (y4l (by assumption)))))))
   have t0:=(HB6.out.cell (p:=⟨ub,mm*5,none⟩) lu).trans l0;have t1:=(HB6.out.cell (p:=⟨ub,mm*5+1,none⟩) lu).trans l1;have t2:=(HB6.out.cell (p:=⟨ub,mm*5+2,none⟩) lu).trans l2;have t3:=(HB6.out.cell (p:=⟨ub,mm*5+3,none⟩) lu).trans l3;have t4:=(HB6.out.cell (p:=⟨ub,mm*5+4,none⟩) lu).trans l4;have s0:=(HB6.out.cell (p:=⟨ub5,j*5,none⟩) lm).trans q0;have s1:=(HB6.out.cell (p:=⟨ub5,j*5+1,none⟩) lm).trans q1;have s2:=(HB6.out.cell (p:=⟨ub5,j*5+2,none⟩) lm).trans q2;have s3:=(HB6.out.cell (p:=⟨ub5,j*5+3,none⟩) lm).trans q3;have s4:=(HB6.out.cell (p:=⟨ub5,j*5+4,none⟩) lm).trans q4;have lu6:=Nat.lt_of_lt_of_le lu HB6.out.size;have lm6:=Nat.lt_of_lt_of_le lm HB6.out.size;have HBf:Hid (Below w5.heap.size w5 w6.drew):=(HBr.out.trans (HB6.out.mono HBr.out.size)).drew;have S1:(fun W:World=>W.cell? ⟨ub,mm*5,none⟩=some (.int .u64 (wd C 0))/\W.cell? ⟨ub,mm*5+1,none⟩=some (.int .u64 (wd C 1))/\W.cell? ⟨ub,mm*5+2,none⟩=some (.int .u64 (wd C 2))/\W.cell? ⟨ub,mm*5+3,none⟩=some (.int .u64 (wd C 3))/\W.cell? ⟨ub,mm*5+4,none⟩=some (.bool y)/\W.cell? ⟨ub5,j*5,none⟩=some (.int .u64 (wd C 0))/\W.cell? ⟨ub5,j*5+1,none⟩=some (.int .u64 (wd C 1))/\W.cell? ⟨ub5,j*5+2,none⟩=some (.int .u64 (wd C 2))/\W.cell? ⟨ub5,j*5+3,none⟩=some (.int .u64 (wd C 3))/\W.cell? ⟨ub5,j*5+4,none⟩=some (.bool y)) w6.drew:=⟨t0,t1,t2,t3,t4,s0,s1,s2,s3,s4⟩;clear S0 t0 t1 t2 t3 t4 s0 s1 s2 s3 s4 l0 l1 l2 l3 l4 q0 q1 q2 q3 q4 hb6 HF y0 g6 p6 hCb
   go_wp2_with fail
   go_region_held3 (fun W:World=>W.cell? ⟨ub,mm*5,none⟩=some (.int .u64 (wd C 0))/\W.cell? ⟨ub,mm*5+1,none⟩=some (.int .u64 (wd C 1))/\W.cell? ⟨ub,mm*5+2,none⟩=some (.int .u64 (wd C 2))/\W.cell? ⟨ub,mm*5+3,none⟩=some (.int .u64 (wd C 3))/\W.cell? ⟨ub,mm*5+4,none⟩=some (.bool y)/\W.cell? ⟨ub5,j*5,none⟩=some (.int .u64 (wd C 0))/\W.cell? ⟨ub5,j*5+1,none⟩=some (.int .u64 (wd C 1))/\W.cell? ⟨ub5,j*5+2,none⟩=some (.int .u64 (wd C 2))/\W.cell? ⟨ub5,j*5+3,none⟩=some (.int .u64 (wd C 3))/\W.cell? ⟨ub5,j*5+4,none⟩=some (.bool y)) (with_reducible assumption) (fail)
   go_wp2_with fail
   exact⟨⟨j+1,by go_num,by omega,HBf⟩,by simp[intOf];omega⟩
  ·have a0:decide ((j:Int)<(k:Int))=false:=by simp;omega
   go_wp2_with fail
   go_ret;exact⟨rfl,HBw.out⟩
open Go.ChangeShapes Go.WideShapes Go.ChangeAt
theorem y5P(os:Os)(args:Array Value):laidMetH prog Rows.firstPrunedRow.laid ((World.doorLaid prog 400 os).forCall (fun _ _=>0) ⟨#[],args,[]⟩).memory:=
 laidMetH_of_parts3 (fuel:=8) (laidMet_of_run' 8 (by kernel_rfl) (by kernel_rfl)) (by kernel_rfl) (by kernel_rfl)
theorem y5Q(os:Os)(started:os.Started)(H:Type)(enc:TypeId×Value->H):
  ReturnsInHanded {} Tryz.checked os 5 .any (fun w args=>(Rows.firstPrunedSpec.pre enc prog Tryz.f5 [] false w args/\laidMetH prog Rows.firstPrunedRow.laid w)/\sizedMet enc prog Tryz.f5 (OpenSpec.ofChange Rows.firstPrunedSpec) false w args)
   (Rows.firstPrunedSpec.post enc prog Tryz.f5 false true false false):=by
 refine returnsInHanded_of_change_and (C:=Tryz.checked) (X:=fun w _=>laidMetH prog Rows.firstPrunedRow.laid w) (fun _ _ _ hh h=>h.of_heap hh) Tryz.own started (by kernel_rfl) func5
  (ChangeSpec.witness_shaped (enc:=enc) (C:=Tryz.checked) (os:=os) (X:=fun w _=>laidMetH prog Rows.firstPrunedRow.laid w) false (World.doorLaid prog 400 os) #[.agg #[.slice none 0 0]] 8 rfl (World.shaped_of_RefB (by kernel_rfl) (by kernel_rfl)) (by kernel_rfl) (by kernel_rfl) (by kernel_rfl) (y5P os _)) ?_
 intro W base args ds gs before hval0 hW _ hsz0 hL _;have hval:∀(j:Nat) t v,Tryz.f5.params[j]? =some t->args[j]? =some v->Value.okWide prog W .any base t v:=hval0;have hW':=hW;obtain⟨p,q,hA0,hV,rfl,hfz,hnd⟩:=hW;have hA:DataW.TrodAll enc prog W 0 (fun _=>true) true Tryz.f5.params.toList args.toList ds p:=hA0;rw[Tryz.params5]at hA hval;obtain⟨v0,vs0,d0,ds0,p0,q0,hargs,rfl,rfl,h0,r0⟩:=trodAll_cons hA;obtain⟨rfl,rfl,rfl⟩:=trodAll_nil r0;obtain rfl:args=#[v0]:=by cases args;simp_all
 obtain⟨rfl,rfl⟩:=trodVars_none hV;have k0:=h0;have lt0:∀x∈p0,x.block<W.heap.size:=by obtain⟨m,hm⟩:=k0;exact DataW.trod_lt m _ _ _ hm
 obtain⟨so0,n0,cap0,rs0,rfl,hg0,hz0,hu0⟩:=z3E (hval 0 24 v0 rfl rfl) h0;clear hA0 hval0;have hwalk:Calls prog 5 #[.agg #[.slice so0 n0 cap0]] W fun e w'=>e=.returned (.bool true)/\Below W.heap.size W w':=by
  exact y5O so0 n0 cap0 rs0 W (Ic hL).1 (Ic hL).2 hz0 hu0 hg0
 refine hwalk.mono fun e W' ⟨he,bel⟩=> ?_
 subst he;exact⟨_,rfl,_,_,_,[],_,[],hW',trodAll_mk1 (shut_bool Tryz.underlying4 _),(trodAll_cons_mk (Below.trod Tryz.laidOutW (by kernel_rfl) (of_decide_eq_true (by kernel_rfl)) k0 bel lt0) trodAll_mk0),rfl,bel.frame _,fun h=>by cases h⟩
theorem y5R:Rows.FirstPrunedSaid:=
 OpenClaim.holds_of_wide 5 Tryz.f5 rfl rfl rfl rfl rfl rfl rfl ⟨rfl,rfl,rfl,rfl,rfl⟩ rfl rfl rfl rfl rfl (by kernel_rfl) func5 (by kernel_rfl)
  (of_decide_eq_true (by kernel_rfl)) (by unfold Func.isWrapper;first|(rw[if_pos (by decide+kernel)];kernel_rfl)|(rw[if_neg (by decide+kernel)];exact⟨rfl,rfl⟩))
  (fun os started H enc _=>y5Q os started H enc)
theorem fpruned_proved:Rows.FirstPrunedCardSaid:=
 Claim7.holds_tied_plain_at .later [] _ _ _ _ y5R (fun _ h=>by cases h) (by kernel_rfl) (fun _ h=>by cases h) firstPruned_row_tie rfl ⟨rfl,rfl⟩ (by kernel_rfl) rfl
  (fun f fn hf hfn=>by
    obtain rfl:f=5:=Option.some.inj ((show Tryz.prog.funcNamed "muntin/muntinlaw09.FirstPruned"=some 5 by kernel_rfl).symm.trans hf)|>.symm;obtain rfl:fn=Tryz.f5:=(Option.some.inj (Tryz.func5.symm.trans hfn)).symm;exact⟨by kernel_rfl,fun j t ht=>by
     rw[Tryz.params5]at ht;have hm:t∈[24]:=by simpa using Array.mem_of_getElem? ht
     have hall:([24].all fun u=> !Tryz.prog.wantsStandIn u)=true:=by kernel_rfl
     exact(show Tryz.prog.wantsStandIn t=false by simpa using List.all_eq_true.1 hall t hm)⟩)
  (by kernel_rfl)
#print axioms fpruned_proved
end Go.Proofs.YtjodljnddflgfaaGreatDoor
