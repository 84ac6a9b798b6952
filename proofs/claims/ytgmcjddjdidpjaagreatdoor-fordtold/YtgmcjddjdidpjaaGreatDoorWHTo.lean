/- Lemmas for the last text. Conditions: those that each names. -/
import Derived.Test.YtgmcjddjdidpjaaGreatDoorVFGToHTBase
set_option linter.unusedVariables false
set_option maxRecDepth 100000
set_option maxHeartbeats 16000000
namespace Go.Proofs.YtgmcjddjdidpjaaGreatDoor
open Go.Proofs.Tryz
open Go.RowKit Go.Shelf Go.Maps
theorem y7w{ok1 ok2:Bool}{rs:List Rr}{r a m:Int}{T:ByteArray}{Z:Prop}{x y:Int}{v:Value}(h:FmV ok1 ok2 (Gm rs r T a m) Z x y v):(v=.nilIface/\Gm rs r T a m x y v)∨(x=0/\y=0/\∃tt uu,v=.iface tt uu):=by
 rcases h with⟨_,h1,h2,tt,uu,h⟩|⟨_,_,h1,h2,h⟩|⟨_,_,_,h1,h2,h⟩|⟨_,_,_,hg⟩
 ·exact .inr ⟨h1,h2,tt,uu,h⟩
 ·exact .inr ⟨h1,h2,_,_,h⟩
 ·exact .inr ⟨h1,h2,_,_,h⟩
 ·obtain⟨hr,⟨e,c,_,_,_,_,h⟩|⟨_,h1,h2,h⟩⟩:=id hg
  ·exact .inl ⟨h,hg⟩
  ·exact .inr ⟨h1,h2,_,_,h⟩
theorem z6J{s:ByteArray}:∀(l:List ByteArray) (i:Nat),ixN s l=i->∀x,l[i]? =some x->x=s
 |[],i,_,x,h=>by simp at h
 |y::l,i,hi,x,h=>by
  unfold ixN at hi;by_cases e:y=s
  ·simp[e]at hi
   subst hi;simp at h;exact h.symm.trans e
  ·simp[e]at hi
   subst hi;rw[show(y::l)[ixN s l+1]? =l[ixN s l]? from rfl]at h;exact z6J l _ rfl x h
theorem z6K{rs:List Rr}{N:ByteArray}{t:RT}(h:bdR rs N=some t):∃x∈rs,x.1=N/\x.2.1=t:=by
 unfold bdR at h;cases hx:rs[ixN N (nmL rs)]? with
 |none=>rw[hx]at h;cases h
 |some x=>
  rw[hx]at h;refine⟨x,List.mem_of_getElem? hx,?_,Option.some.inj h⟩;refine z6J (nmL rs) _ rfl _ ?_;rw[show(nmL rs)[ixN N (nmL rs)]? =(rs[ixN N (nmL rs)]?).map (·.1)from List.getElem?_map ..,hx];rfl
def Tld(z s f:Bool)(T:ByteArray)(i:Nat)(x:Int):Prop:=(x= -1/\f=true)∨∃e:Nat,x=(e:Int)/\i<=e/\e<=T.size/\(e=i->z=true)/\(i<e->s=true)
theorem y7x{rs:List Rr}{j i:Nat}{T:ByteArray}{x y:Int}{m mm m':Nat}{L:Int}(hg:Gm rs (j:Int) T (i:Int) L x y .nilIface)(hi:i<=T.size)(hu:RgU rs)(h1:Yv (itr rs m) rs)(h2:Yv (itr rs m') rs)(h3:Mm (itr rs m') (Xw (itr rs m') rs mm) rs)(hj:j<rs.length):
  Tld (itr rs m rs[j].1).1 (itr rs m rs[j].1).2.1 (itr rs m rs[j].1).2.2 T i x/\(0<=x->Jf T (Xw (itr rs m') rs mm rs[j].1) i):=by
 obtain⟨hr,⟨e,c,hM,_,rfl,_⟩|⟨_,_,_,h⟩⟩:=hg
 rotate_left
 ·cases h
 have hM:Mt (bdR rs) T (.one rs[j].2.1) i e c:=hM;have hmem:rs[j]∈rs:=List.getElem_mem hj;have ho:okO (ofT (itr rs m) rs[j].2.1) i e:=z3P (fun N t h=>by
  obtain⟨x,hx,rfl,rfl⟩:=z6K h;exact h1 x hx) hM
 rw[h1 _ hmem]at ho;have hf:RtU rs[j].2.1->i<=T.size->e≠none->Jf T (afT (itr rs m') (Xw (itr rs m') rs mm) rs[j].2.1) i:=y1q (fun N t h=>by
  obtain⟨x,hx,rfl,rfl⟩:=z6K h;exact⟨h2 x hx,h3 x hx,hu x hx⟩) hM
 rw[h3 _ hmem]at hf;cases e with
 |none=>exact⟨.inl ⟨rfl,ho⟩,fun h=>absurd h (by decide)⟩
 |some e=>
  obtain⟨l1,l2⟩:=Cp hM hi e rfl;exact⟨.inr ⟨e,rfl,l1,l2,ho.2.1,ho.2.2⟩,fun _=>hf (hu _ hmem) hi (by simp)⟩
theorem y7y(so:Option Addr)(n cap:Nat)(rs:List Rr)(T:ByteArray)(a:Int)(fp:Addr)(w:World)(hE:Gv w)(hT:TabIs w)(hF:w.cell? ⟨1,0,none⟩=some (.iface 325 (.pointer (some fp))))(hz:RgZ rs)(hu:RgU rs)(h:Qg w w.heap.size so n rs)(hTz:T.size<=9223372036854775807):
  Calls prog 4 #[.agg #[.slice so n cap],.string T,.int .i64 a] w fun e w'=>e=.returned (.bool true)/\Below w.heap.size w w':=by
 obtain⟨X,hX,hP,hC⟩:=y3F so n cap rs w.heap.size w hz hu h L0q hT;obtain⟨u1,hu1⟩:∃u1,u1=w.alloc (.cells #[.slice so n cap] 24):=⟨_,rfl⟩;have hB1:Below w.heap.size w u1:=by rw[hu1];exact(Below.refl _ w).alloc L0q _
 have hG1:u1.heap[w.heap.size]? =some (.cells #[.slice so n cap] 24):=by rw[hu1];exact Qq w _ rfl
 have hfl:1<w.heap.size:=World.block_lt_of_cell? w _ hF;have HS:=hid (y6d fp u1 (hE.below hB1 hE.lt) (hT.below hB1 hT.lt) ((hB1.cell (p:=⟨1,0,none⟩) hfl).trans hF));have HU:=hid (z5o so n cap rs X w.heap.size w hX hC hz h L0q);have HJ:=hid (y7s so n cap rs X w.heap.size w hX hP hC hz hu h L0q hT);have HNl:Hid (n=rs.length):=h.1;have HMt:=hid (fun(r b:Int) (W:World) (hW:Below w.heap.size w W)=>z6l so n cap rs X w.heap.size fp w hX hP hC hz hu h L0q hT hF r b 20000 T hTz W hW);have HUu:=hid hu;have HB1:=hid hB1;have HG1:=hid hG1;have HU1:=hid hu1;have HnI:Hid (n<=9223372036854775807):=by have:=h.2.1;unfold maxLen at this;exact hid (by omega)
 clear hE hT hF hz hu h hC hX hP hB1 hG1 hu1 hfl;go_enter func4,ntmps4
 go_wp2_with fail
 rw[<-HU1.out];clear HU1;refine HS.out.mono ?_;rintro e w1 ⟨rfl,HBs⟩;have HB2:=hid (HB1.out.trans (HBs.out.mono HB1.out.size));have HG2:=hid ((HBs.out.block _ (Qz HG1.out)).trans HG1.out);have g2:=(Qk HG2.out).1;have lg2:=Qz HG2.out;clear HS HBs HB1 HG1
 go_wp2_with fail
 refine(HU.out _ HB2.out).mono ?_;rintro e w2 ⟨hb2,hR⟩;have HB3:=hid (HB2.out.trans (hb2.mono HB2.out.size));have HG3:=hid ((hb2.block _ (Qz HG2.out)).trans HG2.out);have g3:=(Qk HG3.out).1;have lg3:=Qz HG3.out;clear HB2 HG2 g2 lg2 hb2 HU;rcases hR with⟨hXn,v,rfl,hv⟩|⟨rfl,ub,m,cs,rfl,hub,hfx,hcs,hou⟩
 ·obtain⟨tt,uu,rfl⟩:=hv.shape hXn
  clear hv
  go_wp2_with fail
  refine(HJ.out _ HB3.out).mono ?_;rintro e w3 ⟨hb3,hR⟩;have HB4:=hid (HB3.out.trans (hb3.mono HB3.out.size));clear HB3 HG3 g3 lg3 hb3 HJ;rcases hR with⟨_,v,rfl,hv⟩|⟨hXn',_⟩
  rotate_left
  ·exact absurd hXn' hXn
  clear hv
  go_wp2_with fail
  go_ret;exact⟨rfl,HB4.out⟩
 have HFx:=hid hfx;have HCs:=hid hcs;have HOu:=hid hou;clear hfx hcs hou hub
 go_wp2_with fail
 refine(HJ.out _ HB3.out).mono ?_;rintro e w3 ⟨hb3,hR⟩;have HB4:=hid (HB3.out.trans (hb3.mono HB3.out.size));have HG4:=hid ((hb3.block _ (Qz HG3.out)).trans HG3.out);have HC4:=hid ((hb3.block _ (Qz HCs.out)).trans HCs.out);clear HB3 HG3 g3 lg3 hb3 HJ HCs;rcases hR with⟨hXn',_⟩|⟨_,ub2,m2,mm,cs2,rfl,hub2,hfx2,hfa,hbd,hcs2,hah⟩
 ·exact absurd rfl hXn'
 have HF2:=hid hfx2;have HFa:=hid hfa;have HC5:=hid hcs2;have HAh:=hid hah;clear hfx2 hfa hbd hcs2 hah hub2;by_cases h0:a<0
 ·have a0:decide (a<0)=true:=by simp[h0]
  go_wp2_with fail
  go_ret;exact⟨rfl,HB4.out⟩
 have a0:decide (a<0)=false:=by simp;omega
 by_cases h1:(T.size:Int)<a
 ·have a1:decide ((T.size:Int)<a)=true:=by simp[h1]
  go_wp2_with fail
  go_ret;exact⟨rfl,HB4.out⟩
 have a1:decide ((T.size:Int)<a)=false:=by simp;omega
 obtain⟨i,rfl⟩:∃i:Nat,a=(i:Int):=⟨a.toNat,by omega⟩;have hiT:i<=T.size:=by omega
 have a2:decide (T.size<i)=false:=by simp;omega
 have HRl:Hid (rs.length=n):=HNl.out.symm;rw[HRl.out];have g4:=(Qk HG4.out).1;have lg4:=Qz HG4.out
 go_wp2_with fail
 clear a0 a1 a2 h0 h1 g4 lg4
 go_loopw [12] (fun q wr=>∃j:Nat,q=.int .i64 j/\j<=n/\Hid (Below w3.heap.size w3 wr)) (fun q _=>n-(intOf q).toNat)
 case atStart=>exact⟨0,rfl,Nat.zero_le _,hid B0q⟩
 case round=>
  obtain⟨j,rfl,hj,HBj⟩:=hrel;have HGr:=hid ((HBj.out.block _ (Qz HG4.out)).trans HG4.out);have gr:=(Qk HGr.out).1;have lgr:=Qz HGr.out;by_cases hjn:j<n
  rotate_left
  ·have a0:decide ((j:Int)<(n:Int))=false:=by simp;omega
   have HBf:=hid (HB4.out.trans (HBj.out.mono HB4.out.size))
   go_wp2_with fail
   (try simp only[Exit.inBlock,Exit.then])
   go_ret;exact⟨rfl,HBf.out⟩
  have hjI:(j:Int)<(n:Int):=by omega
  have a0:decide ((j:Int)<(n:Int))=true:=by simp;omega
  have hjr:j<rs.length:=by rw[HRl.out];exact hjn
  have HBw:=hid (HB4.out.trans (HBj.out.mono HB4.out.size));have hwj:IntKind.i64.wrap ((j:Int)+1)=(j:Int)+1:=by rw[IntKind.wrap_i64];have:=HnI.out;omega
  go_wp2_with fail
  refine(HMt.out (j:Int) (i:Int) _ HBw.out).mono ?_;rintro e w5 ⟨x,y,v,rfl,hv,hb5⟩;have HB5:=hid (HBj.out.trans (hb5.mono HBj.out.size));clear HGr gr lgr HBw;rcases y7w hv with⟨rfl,hg⟩|⟨rfl,rfl,tt,uu,rfl⟩
  rotate_left
  ·clear hv hb5
   go_wp2_with fail
   go_roundw
   case rel=>exact⟨j+1,by simp,by omega,HB5⟩
   case measure=>simp[intOf];omega
  obtain⟨ht,hmy⟩:=y7x hg hiT HUu.out HFx.out HF2.out HFa.out hjr;obtain⟨o0,o1,o2⟩:=HOu.out.2 j hjr hjr;obtain⟨p0,p1,p2,p3,p4⟩:=HAh.out.2 j hjr hjr;obtain⟨Z,hZ⟩:∃Z,Z=itr rs m rs[j].1:=⟨_,rfl⟩;obtain⟨F,hF⟩:∃F,F=Xw (itr rs m2) rs mm rs[j].1:=⟨_,rfl⟩;rw[<-hZ]at ht o0 o1 o2;rw[<-hF]at hmy p0 p1 p2 p3 p4;obtain⟨z1,z2,z3⟩:=Z;obtain⟨C,en⟩:=F;have HC6:=hid ((HB5.out.block _ (Qz HC4.out)).trans HC4.out);have HC7:=hid ((HB5.out.block _ (Qz HC5.out)).trans HC5.out);have k0:=(Qf HC6.out _ _ o0).1;have k1:=(Qf HC6.out _ _ o1).1;have k2:=(Qf HC6.out _ _ o2).1;have q0:=(Qf HC7.out _ _ p0).1;have q1:=(Qf HC7.out _ _ p1).1;have q2:=(Qf HC7.out _ _ p2).1;have q3:=(Qf HC7.out _ _ p3).1;have q4:=(Qf HC7.out _ _ p4).1;have lu:=Qz HC6.out;have lv:=Qz HC7.out;clear hg hv hb5 hZ hF o0 o1 o2 p0 p1 p2 p3 p4;rcases ht with⟨rfl,hz3⟩|⟨e,rfl,hie,heT,hz1,hz2⟩
  ·have hz3:z3=true:=hz3
   subst hz3;have c1:((-1:Int) == (i:Int))=false:=by simp<;>omega
   have c2:decide ((i:Int)< -1)=false:=by simp<;>omega
   have c3:decide ((T.size:Int)< -1)=false:=by simp<;>omega
   clear hmy
   go_wp2_with fail
   go_roundw
   case rel=>exact⟨j+1,by simp,by omega,HB5⟩
   case measure=>simp[intOf];omega
  ·have hmy:=hmy (by omega)
   have HY:=hid (fun W:World=>y1Y C en T i W hmy hiT hTz);have c1:((e:Int) == -1)=false:=by simp<;>omega
   have c3:decide ((T.size:Int)<(e:Int))=false:=by simp<;>omega
   have c4:decide ((0:Int)<=(e:Int))=true:=by simp
   have c5:decide ((e:Int)<(i:Int))=false:=by simp<;>omega
   have d3:decide (T.size<e)=false:=by simp;omega
   have d5:decide (e<i)=false:=by simp;omega
   have c6:decide ((e:Int)< -1)=false:=by simp<;>omega
   clear hmy;by_cases hei:e=i
   ·have hz1:z1=true:=hz1 hei
    subst hz1;subst hei;have c2:((e:Int) == (e:Int))=true:=by simp
    have c7:decide ((e:Int)<(e:Int))=false:=by simp
    have d7:decide (e<e)=false:=by simp
    have d2:(e == e)=true:=by simp
    go_wp2_with fail
    refine(HY.out _).mono ?_;rintro e' w6 ⟨rfl,hb6⟩;have HB6:=hid (HB5.out.trans (hb6.mono HB5.out.size));clear hb6
    go_wp2_with fail
    go_roundw
    case rel=>exact⟨j+1,by simp,by omega,HB6⟩
    case measure=>simp[intOf];omega
   ·have hz2:z2=true:=hz2 (by omega)
    subst hz2;have c2:((e:Int) == (i:Int))=false:=by simp<;>omega
    have c7:decide ((i:Int)<(e:Int))=true:=by simp<;>omega
    have d7:decide (i<e)=true:=by simp;omega
    have d2:(e == i)=false:=by simp;omega
    go_wp2_with fail
    refine(HY.out _).mono ?_;rintro e' w6 ⟨rfl,hb6⟩;have HB6:=hid (HB5.out.trans (hb6.mono HB5.out.size));clear hb6
    go_wp2_with fail
    go_roundw
    case rel=>exact⟨j+1,by simp,by omega,HB6⟩
    case measure=>simp[intOf];omega
end Go.Proofs.YtgmcjddjdidpjaaGreatDoor
