/- Lemmas for the last text. Conditions: those that each names. -/
import Derived.Test.YtgnkkgcgbeianaaGreatDoorVC7ToC9a
import Derived.Test.YtgnkkgcgbeianaaGreatDoorVU15ToT11
import Derived.Test.YtgnkkgcgbeianaaGreatDoorVT13ToT15
import Derived.Test.YtgnkkgcgbeianaaGreatDoorVY15ToX17
import Derived.Deep.RegionHeld3
import Derived.Deep.AppendLies
import Derived.Deep.RegionLaw
import Derived.Deep.DeepCutAuto
import Derived.Test.YtgnkkgcgbeianaaGreatDoorVO22ToU2
import Derived.Test.YtgnkkgcgbeianaaGreatDoorVZZToX2
import Derived.Test.YtgnkkgcgbeianaaGreatDoorVX3ToX16
set_option linter.unusedVariables false
set_option maxRecDepth 100000
set_option maxHeartbeats 16000000
namespace Go.Proofs.YtgnkkgcgbeianaaGreatDoor
open Go.Proofs.Tryz
open Go.RowKit Go.Shelf Go.Maps
theorem y3I{W W':World}{o a1:Addr}{row:Option Nat}{v0 v1:Value}(h:W.cell? o=some v0/\W.cell? a1=some v1)(t:some o.block≠row)(y:some a1.block≠row)(r:W.grownBy W' row):W'.cell? o=some v0/\W'.cell? a1=some v1:=⟨r.cell h.1 t,r.cell h.2 y⟩
theorem y3J{W W':World}{Q:Nat->Prop}{B mp o r:Nat}{u A D vn:Value}{ops:List Ox}{xs:List Value}{v0 v1 v2 v3 v4 v5 v6 v7 v8:Value}(h:W.cell? ⟨o,3,none⟩=some v0/\W.cell? ⟨r,1,none⟩=some v1/\W.cell? ⟨r,2,none⟩=some v2/\W.cell? ⟨r,3,none⟩=some v3/\W.cell? ⟨r,4,none⟩=some v4/\W.cell? ⟨r,5,none⟩=some v5/\W.cell? ⟨r,6,none⟩=some v6/\W.cell? ⟨r,7,none⟩=some v7/\W.cell? ⟨r,8,none⟩=some v8)(E:Frm o mp W u W' A)(G:Mkr W' Q B o mp D vn v0 ops A xs)(y:r≠o/\r≠mp/\u.ownBlock≠some r):W'.cell? ⟨o,3,none⟩=some v0/\W'.cell? ⟨r,1,none⟩=some v1/\W'.cell? ⟨r,2,none⟩=some v2/\W'.cell? ⟨r,3,none⟩=some v3/\W'.cell? ⟨r,4,none⟩=some v4/\W'.cell? ⟨r,5,none⟩=some v5/\W'.cell? ⟨r,6,none⟩=some v6/\W'.cell? ⟨r,7,none⟩=some v7/\W'.cell? ⟨r,8,none⟩=some v8:=by
 have t:W'.heap[r]? =W.heap[r]? :=E.block r (World.block_lt_of_cell? W _ h.2.1) y.1 y.2.1 y.2.2;exact⟨(Uk G.hm).1.2.2.2.1,(World.cell?_of_block (a:=⟨r,1,none⟩) t).trans h.2.1,(World.cell?_of_block (a:=⟨r,2,none⟩) t).trans h.2.2.1,(World.cell?_of_block (a:=⟨r,3,none⟩) t).trans h.2.2.2.1,(World.cell?_of_block (a:=⟨r,4,none⟩) t).trans h.2.2.2.2.1,(World.cell?_of_block (a:=⟨r,5,none⟩) t).trans h.2.2.2.2.2.1,(World.cell?_of_block (a:=⟨r,6,none⟩) t).trans h.2.2.2.2.2.2.1,(World.cell?_of_block (a:=⟨r,7,none⟩) t).trans h.2.2.2.2.2.2.2.1,(World.cell?_of_block (a:=⟨r,8,none⟩) t).trans h.2.2.2.2.2.2.2.2⟩
theorem y3K{W W':World}{o r:Nat}{row:Option Nat}{v0 v1 v2 v3 v4 v5 v6 v7 v8:Value}(h:W.cell? ⟨o,3,none⟩=some v0/\W.cell? ⟨r,1,none⟩=some v1/\W.cell? ⟨r,2,none⟩=some v2/\W.cell? ⟨r,3,none⟩=some v3/\W.cell? ⟨r,4,none⟩=some v4/\W.cell? ⟨r,5,none⟩=some v5/\W.cell? ⟨r,6,none⟩=some v6/\W.cell? ⟨r,7,none⟩=some v7/\W.cell? ⟨r,8,none⟩=some v8)(A:some o≠row)(y:some r≠row)(t:W.grownBy W' row):W'.cell? ⟨o,3,none⟩=some v0/\W'.cell? ⟨r,1,none⟩=some v1/\W'.cell? ⟨r,2,none⟩=some v2/\W'.cell? ⟨r,3,none⟩=some v3/\W'.cell? ⟨r,4,none⟩=some v4/\W'.cell? ⟨r,5,none⟩=some v5/\W'.cell? ⟨r,6,none⟩=some v6/\W'.cell? ⟨r,7,none⟩=some v7/\W'.cell? ⟨r,8,none⟩=some v8:=
 ⟨t.cell h.1 A,t.cell h.2.1 y,t.cell h.2.2.1 y,t.cell h.2.2.2.1 y,t.cell h.2.2.2.2.1 y,t.cell h.2.2.2.2.2.1 y,t.cell h.2.2.2.2.2.2.1 y,t.cell h.2.2.2.2.2.2.2.1 y,t.cell h.2.2.2.2.2.2.2.2 y⟩
theorem Fy{w:World}{g:Nat}{t:TypeId}{o a1 a2:Value}(h:w.heap[g]? =some (.cells #[o,a1,a2] t)):w.cell? ⟨g,0,none⟩=some o/\w.cell? ⟨g,1,none⟩=some a1/\w.cell? ⟨g,2,none⟩=some a2/\w.frozen? ⟨g,0,none⟩=false/\w.frozen? ⟨g,1,none⟩=false/\w.frozen? ⟨g,2,none⟩=false:=by
 refine⟨?_,?_,?_,?_,?_,?_⟩<;>simp[World.cell?,World.frozen?,h]
theorem Gf{w:World}{g:Nat}{o:Array Value}{t:TypeId}(h:w.heap[g]? =some (.cells o t))(i:Nat)(u:Value)(r:o[i]? =some u):w.cell? ⟨g,i,none⟩=some u:=(Qj h i u r).1
theorem Tf{W:World}{R:Nat}{t:TypeId}{o a1 a2 v0 v1 v2:Value}(h:W.heap[R]? =some (.cells #[o,a1,a2] t)):(((W.setCell ⟨R,0,none⟩ v0).setCell ⟨R,1,none⟩ v1).setCell ⟨R,2,none⟩ v2).heap[R]? =some (.cells #[v0,v1,v2] t):=by
 have r:(W.setCell ⟨R,0,none⟩ v0).heap[R]? =some (.cells #[v0,a1,a2] t):=Qw h 0 v0;have y:((W.setCell ⟨R,0,none⟩ v0).setCell ⟨R,1,none⟩ v1).heap[R]? =some (.cells #[v0,v1,a2] t):=Qw r 1 v1;exact Qw y 2 v2
theorem Tg{A W:World}{R B:Nat}{v0 v1 v2:Value}(h:Below B A W)(o:B<=R):Below B A (((W.setCell ⟨R,0,none⟩ v0).setCell ⟨R,1,none⟩ v1).setCell ⟨R,2,none⟩ v2):=((h.setCell (p:=⟨R,0,none⟩) o v0).setCell (p:=⟨R,1,none⟩) o v1).setCell (p:=⟨R,2,none⟩) o v2
theorem Tryz.infoStrC:(Tryz.prog.info? 9).map (fun i=>(i.zero,i.size,i.bytes))=some (some (.string ⟨#[]⟩),1,16):=by kernel_rfl
theorem y3L(w:World):(Instr.makeMap 76 none).run prog w=.ok (.map (some w.heap.size)) (w.alloc (.map #[] 0)):=by kernel_rfl
def MaQ(ix:ByteArray->Int)(rs:List Rr)(Er:Prop)(w:World)(e:Ending)(w':World):Prop:=
 Below w.heap.size w w'/\((Er/\∃tt uu,e=.returned (.tuple #[.agg #[.slice none 0 0,.slice none 0 0,.slice none 0 0],.iface tt uu]))∨(¬Er/\200<(mkG ix rs []).2.length/\e=.returned (.tuple #[.agg #[.slice none 0 0,.slice none 0 0,.slice none 0 0],.iface 36 (.int .i64 2)]))∨
  (¬Er/\(mkG ix rs []).2.length<=200/\∃(Q:Nat->Prop) (v vn vr:Value) (xs:List Value) (B:Nat),e=.returned (.tuple #[.agg #[v,vn,vr],.nilIface])/\w.heap.size<=B/\w'.ownsRow B 56 7 v (mkG ix rs []).2.length xs/\Av w' Q (mkG ix rs []).2 xs/\(∀g,Q g->g<w'.heap.size)/\w'.ownsRow B 9 1 vn rs.length (nS rs)/\w'.ownsRow B 3 1 vr rs.length (nI (mkG ix rs []).1)))
theorem Gj.fin{ix:ByteArray->Int}{rs:List Rr}{gv:Value}{A:World}{j:Nat}{Q:Nat->Prop}{xs:List Value}{D nso rso:Option Addr}{r E G I:Nat}{w wr:World}{Er:Prop}(h:Gj ix rs gv A j j Q (.slice D r E) xs (.slice nso j G) (.slice rso j I) wr)(V:Below w.heap.size w A)(hE:¬Er)(hj:j=rs.length)(hm:r=(mkG ix (rs.take j) []).2.length)(h2:¬200<r)(lw:w.heap.size+1<A.heap.size):
  MaQ ix rs Er w (.returned (.tuple #[.agg #[.slice D r E,.slice nso j G,.slice rso j I],.nilIface])) (((wr.setCell ⟨w.heap.size+1,0,none⟩ (.slice D r E)).setCell ⟨w.heap.size+1,1,none⟩ (.slice nso j G)).setCell ⟨w.heap.size+1,2,none⟩ (.slice rso j I)):=by
 obtain⟨Wf,t⟩:∃Wf,Wf=((wr.setCell ⟨w.heap.size+1,0,none⟩ (.slice D r E)).setCell ⟨w.heap.size+1,1,none⟩ (.slice nso j G)).setCell ⟨w.heap.size+1,2,none⟩ (.slice rso j I):=⟨_,rfl⟩;have U:∀g,g≠w.heap.size+1->Wf.heap[g]? =wr.heap[g]? :=fun g o=>by rw[t];exact(Below.heap_setCell _ _ _ _ o).trans ((Below.heap_setCell _ _ _ _ o).trans (Below.heap_setCell _ _ _ _ o))
 have hS:Wf.heap.size=wr.heap.size:=by rw[t,World.size_setCell,World.size_setCell,World.size_setCell]
 have hB:Below w.heap.size w Wf:=by rw[t];exact Tg (V.trans (h.be.mono V.size)) (by omega)
 rw[<-t];clear t;have aa:rs.take j=rs:=List.take_of_length_le (by omega);have y:=h.hmk;have Y:=h.on;have Z:=h.or;rw[aa]at y Y Z hm;have ho:=Yc (W':=Wf) y.ho fun g e=>U g (by have:=(y.ho.lt g e).1;omega)
 refine⟨hB,.inr (.inr ⟨hE,by omega,Q,_,_,_,xs,A.heap.size+2,rfl,by have:=V.size;omega,?_,y.hops.keep fun g o=>⟨o,U g (by have:=h.qb g o;omega)⟩,fun g o=>by rw[hS];exact(y.hq g o).1,?_,?_⟩)⟩
 ·exact ho
 ·rw[<-hj]
  exact Yc Y fun g e=>U g (by have:=(Y.lt g e).1;omega)
 ·rw[<-hj]
  exact Yc Z fun g e=>U g (by have:=(Z.lt g e).1;omega)
theorem y3M(Z:Option Addr)(n ab:Nat)(rs:List Rr)(Er:Prop)(w:World)(HR:Hid (Qb w w.heap.size Z n rs))(HN:Hid (n=rs.length))(HP:Hid (Xm w))
  (aO:Hid (∀W:World,Below w.heap.size w W->Calls prog 28 #[.agg #[.slice Z n ab]] W fun e w'=>((Er/\∃tt uu,e=.returned (.iface tt uu))∨(¬Er/\e=.returned .nilIface))/\Below W.heap.size W w'))
  (HK:Hid (¬Er->n<=1048576/\(∀x∈rs,TrK x.2.1/\x.1.size<=1073741824)/\ndG rs<=1048576)):
  Calls prog 15 #[.agg #[.slice Z n ab]] w (MaQ (fun T=>fdI T (nmL rs)) rs Er w):=by
 obtain⟨ix,aC⟩:∃ix:ByteArray->Int,ix=fun T=>fdI T (nmL rs):=⟨_,rfl⟩
 rw[<-aC];have bx:=hid aC;clear aC;obtain⟨aw,e0,e1⟩:=Dw w (.cells #[.slice Z n ab] 43) (.cells #[.slice none 0 0,.slice none 0 0,.slice none 0 0] 26);obtain⟨W1,aD⟩:∃W1,W1=(w.alloc (.cells #[.slice Z n ab] 43)).alloc (.cells #[.slice none 0 0,.slice none 0 0,.slice none 0 0] 26):=⟨_,rfl⟩;rw[<-aD]at aw e0 e1;have aP:=hid (aO.out W1 aw);have aQ:=hid aw;have E0:=hid e0;have E1:=hid e1;have aR:=hid aD;have m0:=(Qk e0).1;have l0:=Qq e0;have cf:=y3L;clear aw e0 e1 aD;go_enter func15,ntmps15
 go_wp2_with fail
 rw[<-aR.out];clear aR;refine aP.out.mono ?_;rintro e r ⟨hE,ax⟩;have ag:=hid (aQ.out.trans (ax.mono aQ.out.size));have F0:=hid ((ax.block _ (Qq E0.out)).trans E0.out);have F1:=hid ((ax.block _ (Qq E1.out)).trans E1.out);clear m0 l0 aP aO E0 E1 ax;have m0:=(Qk F0.out).1;have l0:=Qq F0.out;obtain⟨z0,z1,z2,f0,f1,f2⟩:=Fy F1.out;have l1:=Qq F1.out;rcases hE with⟨al,tt,uu,rfl⟩|⟨al,rfl⟩
 ·go_wp2_with fail
  have hP:=Tf (v0:=.slice none 0 0) (v1:=.slice none 0 0) (v2:=.slice none 0 0) F1.out;obtain⟨r0,r1,r2,_⟩:=Fy hP;exact bodyPost_ret (v:=.tuple #[.agg #[.slice none 0 0,.slice none 0 0,.slice none 0 0],.iface tt uu]) (by simp[results,Tryz.results15,go_sem,r0,r1,r2]) rfl ⟨Tg ag.out (by omega),.inl ⟨al,tt,uu,rfl⟩⟩
 ·obtain⟨hn,aS,aT⟩:=HK.out al
  have bz:=hid aS;have aU:=hid al;obtain⟨aE,e2,e3⟩:=Dw r (.map #[] 0) (.cells #[.slice Z n ab,.slice none 0 0,.slice none 0 0,.slice none 0 0,.map (some r.heap.size)] 78);obtain⟨W4,am⟩:∃W4,W4=(r.alloc (.map #[] 0)).alloc (.cells #[.slice Z n ab,.slice none 0 0,.slice none 0 0,.slice none 0 0,.map (some r.heap.size)] 78):=⟨_,rfl⟩;have bA:W4.heap.size=r.heap.size+2:=by rw[am,World.size_alloc,World.size_alloc]
  have aV:Pk W4 r.heap.size []:=by rw[am];exact(Pk.made r).same (Below.heap_alloc _ _ _ (by simp))
  rw[<-am]at aE e2 e3;have aW:Hid (Gj ix rs (.slice Z n ab) r 0 0 (fun _=>False) (.slice none 0 0) [] (.slice none 0 0) (.slice none 0 0) W4):=hid ⟨aE,⟨e3,by rw[List.take_zero,mkG];exact World.ownsRow_nil _ _ _ _,fun i hi=>by rw[List.take_zero,mkG]at hi;simp at hi,by rw[List.take_zero,mkG];exact aV,fun g hg=>hg.elim,by omega,by omega,by omega⟩,by rw[List.take_zero];exact World.ownsRow_nil _ _ _ _,by rw[List.take_zero,mkG];exact World.ownsRow_nil _ _ _ _,fun g hg=>(by cases hg),fun g hg=>(by cases hg),fun g hg=>hg.elim⟩;have aX:=hid am;have aY:Hid (Qb r r.heap.size Z n rs):=hid ((HR.out.below ag.out).upto ag.out.size);have bC:Hid (Xm r):=hid (HP.out.below ag.out);have aZ:=hid aT;clear aS al aT aE e2 e3 am bA aV HK HR HP z0 z1 z2 f0 f1 f2 l1
  go_wp2_with fail
  rw[<-aX.out];clear aX m0 l0;obtain⟨iT,bD,bE,bF,bG⟩:=info_parts Tryz.infoInt;obtain⟨iS,bH,bI,bJ,bK⟩:=info_parts Tryz.infoStrC
  go_loopw [21] (fun i wr=>∃(j:Nat) (Q:Nat->Prop) (v:Value) (xs:List Value) (vn vr:Value),i=.int .i64 j/\j<=n/\Hid (Gj ix rs (.slice Z n ab) r j j Q v xs vn vr wr)) (fun i _=>n-(intOf i).toNat)
  case atStart=>exact⟨0,_,_,_,_,_,rfl,Nat.zero_le _,aW⟩
  case round=>
   obtain⟨j,Q,v,xs,vn,vr,rfl,hj,I⟩:=hrel;clear aW;obtain⟨nso,ac,rfl⟩:=Vm I.out.on;obtain⟨rso,G,rfl⟩:=Vm I.out.or;by_cases hjn:j<n
   ·have cg:(j:Int)<(n:Int):=by omega
    have a0:decide ((j:Int)<(n:Int))=true:=by simp;omega
    have ao:j<rs.length:=by rw[<-HN.out];exact hjn
    obtain⟨g,o,rfl,hg,k1,T1,a1,V,c1,d1,ad,n1,ae,p1,rt,z0,z1,z2,z3,z4,z5,z6,z7,z8,z9⟩:=aY.out.2.2 j ao;have Y:∀{i:Nat} {u:Value},r.cell? ⟨g,i,none⟩=some u->wr.cell? ⟨g,i,none⟩=some u:=fun{i u} h=>(I.out.be.cell (p:=⟨g,i,none⟩) hg).trans h
    replace z0:=Y z0;replace z1:=Y z1;replace z2:=Y z2;replace z3:=Y z3;replace z4:=Y z4;replace z5:=Y z5;replace z6:=Y z6;replace z7:=Y z7;replace z8:=Y z8;replace z9:=Y z9;have aF:=bz.out rs[j] (List.getElem_mem ao);obtain⟨N0,ay⟩:∃N0,N0=rs[j].1:=⟨_,rfl⟩;obtain⟨q1,a2⟩:∃q1,q1=rs[j].2.2:=⟨_,rfl⟩;rw[<-ay]at z0;rw[<-a2]at z9;have bL:=hid (fun W:World=>Dh N0 W (by rw[ay];exact Nat.le_trans aF.2 (by decide)));have a3:Below wr.heap.size wr (wr.alloc (.cells #[.string N0,.int .i64 k1,.string T1,.int .u64 a1,.int .u64 V,.int .u64 c1,.int .u64 d1,.slice ad n1 ae,.int .i64 p1,.int .i64 q1] 83)):=(Below.refl _ wr).alloc L0q _;obtain⟨E,ah⟩:∃E,E=(wr.alloc (.cells #[.string N0,.int .i64 k1,.string T1,.int .u64 a1,.int .u64 V,.int .u64 c1,.int .u64 d1,.slice ad n1 ae,.int .i64 p1,.int .i64 q1] 83)).drew:=⟨_,rfl⟩;have a4:Below wr.heap.size wr E:=by rw[ah];exact a3.drew
    have a5:E.heap.size=wr.heap.size+1:=by rw[ah];exact World.size_alloc _ _
    have aG:E.heap[wr.heap.size]? =some (.cells #[.string N0,.int .i64 k1,.string T1,.int .u64 a1,.int .u64 V,.int .u64 c1,.int .u64 d1,.slice ad n1 ae,.int .i64 p1,.int .i64 q1] 83):=by rw[ah];exact Qx wr _ rfl
    have az:=hid (I.out.below a4);have ch:r.heap.size+1<wr.heap.size:=Qq I.out.hmk.hm;have aA:∀g,Value.ownBlock (.slice nso j ac)=some g->r.heap.size+2<=g/\g<wr.heap.size:=I.out.on.lt;have a6:∀g,Value.ownBlock (.slice rso j G)=some g->r.heap.size+2<=g/\g<wr.heap.size:=I.out.or.lt;have bM:Hid (∀A:World,Below E.heap.size E A->A.ownsRow (r.heap.size+2) 9 1 (.slice nso j ac) j (nS (rs.take j))):=hid fun A h3=>(az.out.below h3).on
    have bN:Hid (∀A:World,Below E.heap.size E A->r.heap.size+2<=(A.alloc (.cells #[.string N0] 9)).heap.size):=hid fun A h3=>by have:=h3.size;rw[World.size_alloc];omega
    have bO:Hid (∀A:World,Below E.heap.size E A->r.heap.size+1<(A.alloc (.cells #[.string N0] 9)).heap.size):=hid fun A h3=>by have:=h3.size;rw[World.size_alloc];omega
    have bP:Hid (∀A:World,Below E.heap.size E A->r.heap.size+1<A.heap.size):=hid fun A h3=>by have:=h3.size;omega
    have bQ:Hid (r.heap.size+1<E.heap.size):=hid (by omega);have a7:Hid (some (r.heap.size+1)≠Value.ownBlock (.slice nso j ac)):=hid fun e=>by have:=aA _ e.symm;omega
    have a8:Hid (some wr.heap.size≠Value.ownBlock (.slice nso j ac)):=hid fun e=>by have:=aA _ e.symm;omega
    have a9:=hid az.out.hmk.hm;have ba:j+1<=maxLen:=by unfold maxLen;omega
    have bR:(j+1)*16<=140737488355328:=by omega
    have bS:(j+1)*8<=140737488355328:=by omega
    have bb:Hid ((fun X:World=>X.cell? ⟨r.heap.size+1,2,none⟩=some (.slice nso j ac)/\X.cell? ⟨wr.heap.size,0,none⟩=some (.string N0)) (wr.alloc (.cells #[.string N0,.int .i64 k1,.string T1,.int .u64 a1,.int .u64 V,.int .u64 c1,.int .u64 d1,.slice ad n1 ae,.int .i64 p1,.int .i64 q1] 83)).drew):=by
     rw[<-ah];exact⟨(Uk a9.out).1.2.2.1,Gf aG 0 _ rfl⟩
    have bc:=hid ah;have bd:=hid aG;have aB:=hid a5;have bT:=hid ay;have bU:=hid rt;have bV:=hid aF.1;have aH:=hid a6;have ci:=hid aA;clear Y ay a2 a3 ah a4 aG a5 aF rt aA a6
    go_wp2_with fail
    clear z0 z1 z2 z3 z4 z5 z6 z7 z8 z9;refine Qc 14 (fun X:World=>X.cell? ⟨r.heap.size+1,2,none⟩=some (.slice nso j ac)/\X.cell? ⟨wr.heap.size,0,none⟩=some (.string N0)) (by kernel_rfl) bb.out (fun t=> ?_);rw[<-bc.out]at t ⊢;refine Qz 0 t ?_;refine Qz 1 t ?_;refine Qz 2 t ?_;refine Qz 3 t ?_;refine Qz 4 t ?_;refine Qz 5 t ?_;refine Qz 6 t ?_;refine Qz 7 t ?_
    (refine Qf 8 (fun K y=> ?_);go_simp;refine(bL.out E).mono ?_;rintro e A ⟨rfl,bf⟩;have aa:=hid bf;clear bf;go_simp;replace t:=Ij t aa.out;refine y.out _ _ t ?_;clear y K)
    (try simp only[Act.put,List.setIfInBounds_toArray,List.set_cons_zero,List.set_cons_succ])
    (refine Qf 9 (fun K y=> ?_);go_simp;replace t:=Ij t ((Below.refl _ A).alloc L0q (.cells #[.string N0] 9));refine y.out _ _ t ?_;clear y K)
    (try simp only[Act.put,List.setIfInBounds_toArray,List.set_cons_zero,List.set_cons_succ])
    (refine Qf 10 (fun K y=> ?_);refine step_append_lies _ rfl (.tmp 30) (.tmp 34) 23 rfl (r.heap.size+2) 9 iS (.string ⟨#[]⟩) 1 16 Tryz.underlying23 bH bI bJ bK rfl (by decide) (.slice nso j ac) j (nS (rs.take j)) (by rfl) ((bM.out A aa.out).alloc _) ⟨A.heap.size,0,none⟩ 1 1 [.string N0] (by rfl) rfl (Ak _ _ _) (by simp[Value.oneCell']) (by decide) ba bR (bN.out A aa.out) (A.heap.size+1) (World.size_alloc _ _) ?_;intro g6 ap w6 bg aI bh cj;replace t:=y3I t a7.out a8.out aI;have bi:=hid bg;have aq:=hid aI;have bj:=hid bh;clear bg aI bh;refine y.out _ _ t ?_;clear y K)
    (try simp only[Act.put,List.setIfInBounds_toArray,List.set_cons_zero,List.set_cons_succ])
    (refine Qf 11 (fun K y=> ?_);go_simp;refine y.out _ _ t ?_;clear y K)
    (try simp only[Act.put,List.setIfInBounds_toArray,List.set_cons_zero,List.set_cons_succ])
    (refine Qf 12 (fun K y=> ?_);go_simp;refine y.out _ _ t ?_;clear y K)
    (try simp only[Act.put,List.setIfInBounds_toArray,List.set_cons_zero,List.set_cons_succ])
    refine Qz 13 t ?_;refine Yj (fun K y=> ?_);have aJ:=hid ((aq.out.block _ (bO.out A aa.out) a7.out).trans ((Below.heap_alloc _ _ _ (bP.out A aa.out)).trans ((aa.out.block _ bQ.out).trans a9.out)));obtain⟨⟨s0,s1,s2,s3,s4⟩,f0,f1,f2,f3,f4⟩:=Uk aJ.out;have ls:=Qq aJ.out;clear t
    go_simp
    refine y.out _ _ ?_;clear y K s0 s1 s2 s3 s4 f0 f1 f2 f3 f4 ls
    go_wp2_with fail
    obtain⟨W7,ar⟩:∃W7,W7=w6.setCell ⟨r.heap.size+1,2,none⟩ (.slice (some ⟨g6,0,none⟩) (j+1) ap):=⟨_,rfl⟩;have bW:Hid (Gj ix rs _ r (j+1) j Q v xs (.slice (some ⟨g6,0,none⟩) (j+1) ap) (.slice rso j G) W7):=hid (by rw[ar];exact(az.out.below aa.out).names ao (by rw[<-bT.out];exact bi.out) aq.out bj.out);have bX:=aa.out.size;have bY:A.heap.size+1<=w6.heap.size:=by have:=aq.out.size;rw[World.size_alloc]at this;exact this
    have bk:W7.heap[wr.heap.size]? =some (.cells #[.string N0,.int .i64 k1,.string T1,.int .u64 a1,.int .u64 V,.int .u64 c1,.int .u64 d1,.slice ad n1 ae,.int .i64 p1,.int .i64 q1] 83):=by
     rw[ar];refine(Below.heap_setCell _ _ _ _ (show wr.heap.size≠r.heap.size+1 by omega)).trans ((aq.out.block _ (by have:=aB.out;rw[World.size_alloc];omega) a8.out).trans ((Below.heap_alloc _ _ _ (by have:=aB.out;omega)).trans ((aa.out.block _ (by have:=aB.out;omega)).trans bd.out)))
    rw[<-ar];obtain⟨U,ai⟩:∃U,U=W7.drew:=⟨_,rfl⟩;have aj:Hid (Gj ix rs _ r (j+1) j Q v xs (.slice (some ⟨g6,0,none⟩) (j+1) ap) (.slice rso j G) U):=hid (by rw[ai];exact bW.out.below (Below.refl _ W7).drew);have ck:wr.heap.size+2<=U.heap.size:=by rw[ai];show _<=W7.heap.size;rw[ar,World.size_setCell];have:=aB.out;omega
    have aK:=y3G rs j ao;have au:=(Vp ix (rs.take j) []).1;have bZ:Hid (Calls prog 30 #[.pointer (some ⟨r.heap.size+1,0,none⟩),.agg #[.int .i64 k1,.string T1,.int .u64 a1,.int .u64 V,.int .u64 c1,.int .u64 d1,.slice ad n1 ae,.int .i64 p1]] U (PlP ix rs[j].2.1 Q (r.heap.size+2) (r.heap.size+1) r.heap.size _ (.slice (some ⟨g6,0,none⟩) (j+1) ap) (.slice rso j G) (mkG ix (rs.take j) []).2 v U)):=hid (by
     have h9:=z4w (B:=r.heap.size+2) (mB:=r.heap.size+1) (mp:=r.heap.size) (gcap:=ab) (vn:=.slice (some ⟨g6,0,none⟩) (j+1) ap) (vr:=.slice rso j G) aY.out (by have:=HN.out;omega) bC.out (Nat.le_succ _) L0q _ rs[j].2.1 _ (Nat.lt_succ_self _) bU.out bV.out U Q (mkG ix (rs.take j) []).2 v xs aj.out.be (by omega) aj.out.hmk (by have:=aZ.out;simp only[List.length_nil]at au;omega);rw[<-bx.out]at h9;exact h9)
    have b2:Hid (wr.heap.size≠r.heap.size+1/\wr.heap.size≠r.heap.size/\v.ownBlock≠some wr.heap.size):=hid ⟨by omega,by omega,fun e=>by have:=(I.out.hmk.ho.lt _ e).2;omega⟩;have b3:Hid (∀(D:World) (v2:Value),Frm (r.heap.size+1) r.heap.size U v D v2->D.ownsRow (r.heap.size+2) 3 1 (.slice rso j G) j (nI (mkG ix (rs.take j) []).1)):=hid fun D v2 h=>Yc aj.out.or fun g e=>by
     have h1:=aH.out g e;exact h.block g (by omega) (by omega) (by omega) (aj.out.d2 g e).2
    have b4:Hid (∀(D:World) (v2:Value),Frm (r.heap.size+1) r.heap.size U v D v2->r.heap.size+2<=(D.alloc (.cells #[(.int .i64 ((mkT ix rs[j].2.1 (mkG ix (rs.take j) []).2).1:Nat))] 3)).heap.size):=hid fun D v2 h=>by have:=h.size;rw[World.size_alloc];omega
    have b5:Hid (∀(D:World) (v2:Value),Frm (r.heap.size+1) r.heap.size U v D v2->r.heap.size+1<(D.alloc (.cells #[(.int .i64 ((mkT ix rs[j].2.1 (mkG ix (rs.take j) []).2).1:Nat))] 3)).heap.size):=hid fun D v2 h=>by have:=h.size;rw[World.size_alloc];omega
    have b6:Hid (∀(D:World) (v2:Value),Frm (r.heap.size+1) r.heap.size U v D v2->r.heap.size+1<D.heap.size):=hid fun D v2 h=>by have:=h.size;omega
    have bl:Hid (some (r.heap.size+1)≠Value.ownBlock (.slice rso j G)):=hid fun e=>by have:=aH.out _ e.symm;omega
    have b7:Hid (some wr.heap.size≠Value.ownBlock (.slice rso j G)):=hid fun e=>by have:=aH.out _ e.symm;omega
    have b8:Hid ((fun X:World=>X.cell? ⟨r.heap.size+1,3,none⟩=some (.slice rso j G)/\X.cell? ⟨wr.heap.size,1,none⟩=some (.int .i64 k1)/\X.cell? ⟨wr.heap.size,2,none⟩=some (.string T1)/\X.cell? ⟨wr.heap.size,3,none⟩=some (.int .u64 a1)/\X.cell? ⟨wr.heap.size,4,none⟩=some (.int .u64 V)/\X.cell? ⟨wr.heap.size,5,none⟩=some (.int .u64 c1)/\X.cell? ⟨wr.heap.size,6,none⟩=some (.int .u64 d1)/\X.cell? ⟨wr.heap.size,7,none⟩=some (.slice ad n1 ae)/\X.cell? ⟨wr.heap.size,8,none⟩=some (.int .i64 p1)) W7.drew):=by
     rw[<-ai];have af:U.heap[wr.heap.size]? =some (.cells #[.string N0,.int .i64 k1,.string T1,.int .u64 a1,.int .u64 V,.int .u64 c1,.int .u64 d1,.slice ad n1 ae,.int .i64 p1,.int .i64 q1] 83):=by rw[ai];exact bk
     exact⟨(Uk aj.out.hmk.hm).1.2.2.2.1,Gf af 1 _ rfl,Gf af 2 _ rfl,Gf af 3 _ rfl,Gf af 4 _ rfl,Gf af 5 _ rfl,Gf af 6 _ rfl,Gf af 7 _ rfl,Gf af 8 _ rfl⟩
    have b9:=hid ai;clear bk ar ai bX bY bi aq bj aa aJ bb bc bd az aK au;refine Qc 15 (fun X:World=>X.cell? ⟨r.heap.size+1,3,none⟩=some (.slice rso j G)/\X.cell? ⟨wr.heap.size,1,none⟩=some (.int .i64 k1)/\X.cell? ⟨wr.heap.size,2,none⟩=some (.string T1)/\X.cell? ⟨wr.heap.size,3,none⟩=some (.int .u64 a1)/\X.cell? ⟨wr.heap.size,4,none⟩=some (.int .u64 V)/\X.cell? ⟨wr.heap.size,5,none⟩=some (.int .u64 c1)/\X.cell? ⟨wr.heap.size,6,none⟩=some (.int .u64 d1)/\X.cell? ⟨wr.heap.size,7,none⟩=some (.slice ad n1 ae)/\X.cell? ⟨wr.heap.size,8,none⟩=some (.int .i64 p1)) (by kernel_rfl) b8.out (fun t=> ?_);rw[<-b9.out]at t ⊢;refine Qz 0 t ?_;refine Qz 1 t ?_;refine Qz 2 t ?_;refine Qz 3 t ?_;refine Qz 4 t ?_;refine Qz 5 t ?_;refine Qz 6 t ?_;refine Qz 7 t ?_;refine Qz 8 t ?_
    (refine Qf 9 (fun K y=> ?_);go_simp;refine bZ.out.mono ?_;rintro e D ⟨Q2,v2,cl,rfl,bm,bn,bo⟩;have aL:=hid bm;have ca:=hid bn;have ak:=hid bo;clear bm bn bo;go_simp;replace t:=y3J t ak.out aL.out b2.out;refine y.out _ _ t ?_;clear y K)
    (try simp only[Act.put,List.setIfInBounds_toArray,List.set_cons_zero,List.set_cons_succ])
    (refine Qf 10 (fun K y=> ?_);go_simp;replace t:=z4t t ((Below.refl _ D).alloc L0q (.cells #[(.int .i64 ((mkT ix rs[j].2.1 (mkG ix (rs.take j) []).2).1:Nat))] 3));refine y.out _ _ t ?_;clear y K)
    (try simp only[Act.put,List.setIfInBounds_toArray,List.set_cons_zero,List.set_cons_succ])
    (refine Qf 11 (fun K y=> ?_);refine step_append_lies _ rfl (.tmp 44) (.tmp 49) 24 rfl (r.heap.size+2) 3 iT (.int .i64 0) 1 8 Tryz.underlying24 bD bE bF bG rfl (by decide) (.slice rso j G) j (nI (mkG ix (rs.take j) []).1) (by rfl) ((b3.out D v2 ak.out).alloc _) ⟨D.heap.size,0,none⟩ 1 1 [(.int .i64 ((mkT ix rs[j].2.1 (mkG ix (rs.take j) []).2).1:Nat))] (by rfl) rfl (Ak _ _ _) (by simp[Value.oneCell']) (by decide) ba bS (b4.out D v2 ak.out) (D.heap.size+1) (World.size_alloc _ _) ?_;intro g9 cm w9 bp aM bq cn;replace t:=y3K t bl.out b7.out aM;have cb:=hid bp;have br:=hid aM;have cc:=hid bq;clear bp aM bq;refine y.out _ _ t ?_;clear y K)
    (try simp only[Act.put,List.setIfInBounds_toArray,List.set_cons_zero,List.set_cons_succ])
    (refine Qf 12 (fun K y=> ?_);go_simp;refine y.out _ _ t ?_;clear y K)
    (try simp only[Act.put,List.setIfInBounds_toArray,List.set_cons_zero,List.set_cons_succ])
    (refine Qf 13 (fun K y=> ?_);go_simp;refine y.out _ _ t ?_;clear y K)
    (try simp only[Act.put,List.setIfInBounds_toArray,List.set_cons_zero,List.set_cons_succ])
    refine Qz 14 t ?_;refine Yj (fun K y=> ?_);have bs:=hid ((br.out.block _ (b5.out D v2 ak.out) bl.out).trans ((Below.heap_alloc _ _ _ (b6.out D v2 ak.out)).trans aL.out.hm));obtain⟨⟨s0,s1,s2,s3,s4⟩,f0,f1,f2,f3,f4⟩:=Uk bs.out;have ls:=Qq bs.out;clear t
    go_simp
    refine y.out _ _ ?_;clear y K s0 s1 s2 s3 s4 f0 f1 f2 f3 f4 ls
    go_wp2_with fail
    refine⟨⟨j+1,_,_,_,_,_,by go_num,by omega,hid (aj.out.roots ao aL.out ca.out ak.out cb.out br.out cc.out)⟩,by simp[intOf];omega⟩
   ·have a0:decide ((j:Int)<(n:Int))=false:=by simp;omega
    have bt:Hid (j=n):=hid (by omega);obtain⟨bu,bv,rfl⟩:=Vm I.out.hmk.ho;obtain⟨mO,aN⟩:∃mO,mO=(mkG ix (rs.take j) []).2.length:=⟨_,rfl⟩;have au:=(Vp ix (rs.take j) []).1;have aK:ndG (rs.take j)<=ndG rs:=by
     have h:ndG rs=ndG (rs.take j)+ndG (rs.drop j):=by rw[<-Ty,List.take_append_drop]
     omega
    have co:mO<=1048576:=by have:=aZ.out;simp only[List.length_nil]at au;omega
    have av:=hid I.out;rw[<-aN]at av;obtain⟨⟨x0,x1,x2,x3,x4⟩,_⟩:=Uk av.out.hmk.hm;have lm:=Qq av.out.hmk.hm;have F2:=hid ((I.out.be.block _ (Qq F1.out)).trans F1.out);obtain⟨z0,z1,z2,f0,f1,f2⟩:=Fy F2.out;have lz:=Qq F2.out;have bw:=hid aN;have lw:w.heap.size+1<r.heap.size:=Qq F1.out;clear aN au aK I;by_cases h2:200<mO
    ·have b0:decide ((200:Int)<(mO:Int))=true:=by simp;omega
     have V:(200:Int)<(mO:Int):=by omega
     go_wp2_with fail
     have hP:=Tf (v0:=.slice none 0 0) (v1:=.slice none 0 0) (v2:=.slice none 0 0) F2.out;obtain⟨r0,r1,r2,_⟩:=Fy hP;have cd:rs.take j=rs:=List.take_of_length_le (by have:=HN.out;have:=bt.out;omega);have ce:Below w.heap.size w wr:=ag.out.trans (av.out.be.mono ag.out.size);refine bodyPost_ret (v:=.tuple #[.agg #[.slice none 0 0,.slice none 0 0,.slice none 0 0],.iface 36 (.int .i64 2)]) (by simp[results,Tryz.results15,go_sem,r0,r1,r2]) rfl ⟨Tg ce (by omega),.inr (.inl ⟨aU.out,?_,rfl⟩)⟩;have:=bw.out;rw[cd]at this;omega
    ·have b0:decide ((200:Int)<(mO:Int))=false:=by simp;omega
     have V:¬(200:Int)<(mO:Int):=by omega
     go_wp2_with fail
     have hP:=Tf (v0:=.slice bu mO bv) (v1:=.slice nso j ac) (v2:=.slice rso j G) F2.out;obtain⟨r0,r1,r2,_⟩:=Fy hP;refine bodyPost_ret (v:=.tuple #[.agg #[.slice bu mO bv,.slice nso j ac,.slice rso j G],.nilIface]) (by simp[results,Tryz.results15,go_sem,r0,r1,r2]) rfl ?_;exact av.out.fin ag.out aU.out (by have:=HN.out;have:=bt.out;omega) bw.out h2 lw
theorem z4z(over:Nat)(h:zA)(n:Nd)(q:List Nd):sz (pS qT cT over h (n::q))=sz (pP qT cT over n)+sz (pB qT cT over h q):=by rw[pS,Xy];rfl
theorem y3N(over:Nat)(h:zA)(n:Nd)(q:List Nd):sz (pB qT cT over h (n::q))=h.size+(sz (pP qT cT over n)+sz (pB qT cT over h q)):=by rw[pB,sz,Xy];rfl
theorem y3O(kd:Nat)(h:8<=kd)(o:kd<=12):1<=(bsg kd).size:=by
 have:kd=8∨kd=9∨kd=10∨kd=11∨kd=12:=by omega
 rcases this with rfl|rfl|rfl|rfl|rfl<;>decide
mutual
theorem Ik:∀(t:RT) (n:Nd),Tq t n->Vk n->ndT t<=2*sz (pN qT cT n)+1
 | .mk k T a b c d s p,.mk kd T' C s' p',hq,hv=>by
   rw[Tq]at hq;obtain⟨hk,hT,_,_,_,_,hl⟩:=hq;rw[Vk]at hv;rw[ndT];have y:s'=[]->ndL s=0:=fun e=>by
    subst e;cases s with
    |nil=>rw[ndL]
    |cons t r=>simp[TqL]at hl
   rcases hv.1 with⟨_,_,_,e⟩|⟨_,_,e⟩|⟨_,_,e⟩|⟨_,_,_,e⟩|⟨_,_,e⟩|⟨D,_,_,A⟩|⟨E,G,_,_,I⟩
   ·rw[y e];omega
   ·rw[y e];omega
   ·rw[y e];omega
   ·rw[y e];omega
   ·rw[y e];omega
   ·have Qm:∀over h,1<=h.size->1+ndL s<=2*sz (pS qT cT over h s')+1:=fun over h U=>by
     cases s with
     |nil=>cases s' with
      |nil=>simp at A
      |cons n q=>simp[TqL]at hl
     |cons t r=>
      cases s' with
      |nil=>simp[TqL]at hl
      |cons n q=>
       rw[TqL]at hl;have o:=hv.2;rw[VkL]at o;have V:=Ik t n hl.1 o.1;have i2:=z4A r q over h U hl.2 o.2;have Y:=Dx over n;have Z:q.length=r.length:=hl.2.length';simp only[List.length_cons]at A;rw[ndL,z4z];omega
    rcases D with rfl|rfl
    ·rw[pN]
     simp only[Nat.reduceEqDiff,if_false,if_true];exact Qm 6 bSp (by decide)
    ·rw[pN]
     simp only[Nat.reduceEqDiff,if_false,if_true];exact Qm 7 bSl (by decide)
   ·have Qm:∀over h,ndL s<=2*sz (pS qT cT over h s')+1:=fun over h=>by
     cases s with
     |nil=>rw[ndL];omega
     |cons t r=>
      cases s' with
      |nil=>simp[TqL]at hl
      |cons n q=>
       rw[TqL]at hl;have o:=hv.2;rw[VkL]at o;have V:=Ik t n hl.1 o.1;have Y:=Dx over n;have Z:q.length=r.length:=hl.2.length';simp only[List.length_cons]at I;have i5:r=[]:=List.eq_nil_of_length_eq_zero (by omega);rw[i5,ndL,ndL,z4z];omega
    have hb:=y3O kd E G;rw[pN,if_neg (by omega),if_neg (by omega),if_neg (by omega),if_neg (by omega),if_neg (by omega),if_neg (by omega),if_neg (by omega)];by_cases h11:kd=11∨kd=12
    ·rw[if_pos h11,sz]
     have:=Qm kd bE;omega
    ·rw[if_neg h11,Xy,sz,sz]
     have:=Qm kd bE;omega
theorem z4A:∀(s:List RT) (q:List Nd) (over:Nat) (o:zA),1<=o.size->TqL s q->VkL q->ndL s+s.length<=2*sz (pB qT cT over o q)
 |[],_,_,_,_,_,_=>by rw[ndL];exact Nat.zero_le _
 |t::r,[],_,_,_,h,_=>by simp[TqL]at h
 |t::r,n::q,over,o,hs,h,hv=>by
  rw[TqL]at h;rw[VkL]at hv;have y:=Ik t n h.1 hv.1;have A:=z4A r q over o hs h.2 hv.2;have D:=Dx over n;rw[ndL,y3N,List.length_cons];omega
end
theorem wfU{a:Int}(h:0<=a/\a<18446744073709551616):(Lit.int .u64 a).wf=true:=WalkArith.wf_u64 (by omega)
theorem y3P(t:RT):1<=ndT t:=by
 cases t;rw[ndT];omega
theorem z4B:∀(s:List RT),s.length<=ndL s
 |[]=>by rw[ndL];exact Nat.le_refl _
 |t::r=>by
  have:=z4B r;have:=y3P t;rw[ndL,List.length_cons];omega
mutual
theorem z4C:∀(t:RT) (n:Nd),Tq t n->Vk n->okT t=true->RtU t->ndT t<=1048576->TrK t
 | .mk k T a b c d s p,.mk kd T' C s' p',hq,hv,hok,hu,hn=>by
   rw[Tq]at hq;obtain⟨y,A,_,_,_,_,hl⟩:=hq;rw[Vk]at hv;rw[okT,Bool.and_eq_true]at hok;have D:=y1Q hok.1;rw[RtU]at hu;obtain⟨u1,u2,o,r,us⟩:=hu;rw[ndT]at hn;have E:=z4B s;have G:kd<=12:=by
    rcases hv.1 with⟨h,_⟩|⟨h,_⟩|⟨h,_⟩|⟨h,_⟩|⟨h,_⟩|⟨h|h,_⟩|⟨_,h,_⟩<;>omega
   rw[TrK];exact⟨⟨WalkArith.wf_i64 (by omega),by omega,wfU u1,wfU u2,wfU o,wfU r,by omega⟩,z4D s s' hl hv.2 hok.2 us (by omega)⟩
theorem z4D:∀(s:List RT) (q:List Nd),TqL s q->VkL q->okL s=true->Xj s->ndL s<=1048576->Gy s
 |[],_,_,_,_,_,_=>by rw[Gy];trivial
 |t::r,[],h,_,_,_,_=>by simp[TqL]at h
 |t::r,n::q,h,hv,hok,hu,hn=>by
  rw[TqL]at h;rw[VkL]at hv;rw[okL,Bool.and_eq_true]at hok;rw[Xj]at hu;rw[ndL]at hn;rw[Gy];exact⟨z4C t n h.1 hv.1 hok.1 hu.1 (by omega),z4D r q h.2 hv.2 hok.2 hu.2 (by omega)⟩
end
theorem y3Q{rs:List Rr}(h:∀x∈rs,ndT x.2.1<=16373):ndG rs<=16373*rs.length:=by
 induction rs with
 |nil=>rw[ndG];exact Nat.zero_le _
 |cons x r ih=>
  have t:=h x List.mem_cons_self;have A:=ih fun y o=>h y (List.mem_cons_of_mem _ o)
  rw[ndG,List.length_cons];omega
theorem y3R{rs:List Rr}(h:PrG rs){x:Rr}(hx:x∈rs):x.1.size<=1073741824:=by
 obtain⟨r,ns,A,D,E,_⟩:=h;have t:=Fk r _ hx;have o:=t.1;unfold nmS at o;cases hb:bt x.1 0 with
 |none=>rw[hb]at o;cases o
 |some y=>
  rw[hb]at o;simp only[Bool.and_eq_true,decide_eq_true_eq]at o;omega
theorem z4E{rs:List Rr}(h:okG rs=true)(D:ckR rs=none)(o:PrG rs)(E:RgZ rs)(G:RgU rs):rs.length<=64/\(∀x∈rs,TrK x.2.1/\x.1.size<=1073741824)/\ndG rs<=1048576:=by
 have hl:=(Jm h).2;have r:∀x∈rs,ndT x.2.1<=16373/\TrK x.2.1:=fun x hx=>by
  obtain⟨h,_,⟨t,y,A,I,U,_⟩,_⟩:=Hc o D E hx;have V:=Ik _ t y A;exact⟨by omega,z4C _ t y A h (G x hx) (by omega)⟩
 have Y:=y3Q fun x hx=>(r x hx).1
 refine⟨hl,fun x hx=>⟨(r x hx).2,?_⟩,by omega⟩;exact y3R o hx
theorem y3S(r:Option Addr)(n A:Nat)(rs:List Rr)(X:Option (Int ⊕ (Int×Int)))(B:Nat)(E:Addr)(w:World)(G:CkX rs X)(I:X=none->PrG rs)(Y:CkC r n A rs X w)(U:RgZ rs)(Z:RgU rs)(h:Qb w B r n rs)(D:B<=w.heap.size)(hT:TabIs w)(hF:zC w (1) 0 (.iface 363 (.pointer (some E))))(aa:Xm w)(W:World)(t:zB w W):
  Calls prog 15 #[.agg #[.slice r n A]] W (MaQ (fun T=>fdI T (nmL rs)) rs (soZ rs X≠none) W):=by
 refine y3M r n A rs (soZ rs X≠none) W (hid ((h.below (t.mono D)).upto (Nat.le_trans D t.size))) (hid h.1) (hid (aa.below t)) (hid fun W' ab=> ?_) (hid fun hE=> ?_)
 ·refine(z4m r n A rs X B E w G I Y U h D hT hF W' (t.trans (ab.mono t.size))).mono fun e w' he=> ?_
  obtain⟨v,rfl,y,V⟩:=he;by_cases o:soZ rs X=none
  ·rw[o]at y
   have y:v=.nilIface:=y;subst y;exact⟨.inr ⟨fun ac=>ac o,rfl⟩,V⟩
  ·obtain⟨tt,uu,rfl⟩:=y.shape o
   exact⟨.inl ⟨o,tt,uu,rfl⟩,V⟩
 ·have o:soZ rs X=none:=Classical.not_not.1 hE
  obtain rfl:X=none:=by
   cases X with
   |none=>rfl
   |some x=>unfold soZ at o;cases o
  obtain⟨ad,ae,_⟩:=G;obtain⟨h1,h2,h3⟩:=z4E ad ae (I rfl) U Z;exact⟨by have:=h.1;omega,h2,h3⟩
theorem Iv(C i:Nat):(0:Int)<=(wd C i:Nat)/\((wd C i:Nat):Int)<18446744073709551616:=by
 have:=Xx C i;omega
mutual
theorem z4F:∀n:Nd,RtU (toR n)
 | .mk kd T C s p=>by rw[toR,RtU];exact⟨Iv C 0,Iv C 1,Iv C 2,Iv C 3,z4G s⟩
theorem z4G:∀s:List Nd,Xj (Yd s)
 |[]=>by rw[Yd,Xj];trivial
 |n::r=>by rw[Yd,Xj];exact⟨z4F n,z4G r⟩
end
theorem y3T{us:List (List Int)}(h:∀i x:Nat,(x:Int)∈us.getD i []->i<x){x i:Nat}(o:Rch us x i):x<=i:=by
 induction o with
 |refl=>exact Nat.le_refl _
 |step _ hm ih=>exact Nat.le_trans ih (Nat.le_of_lt (h _ _ hm))
theorem y3U{us:List (List Int)}(h:∀i x:Nat,(x:Int)∈us.getD i []->i<x)(i:Nat):¬Bck us i:=fun⟨x,hx,o⟩=>by
 have r:=h i x hx;have t:=y3T h o;omega
def pgG(rs:List Rr):List Int×List Ox:=mkG (fun T=>fdI T (nmL rs)) rs []
theorem Iw{W:World}{B e size n:Nat}{v:Value}{xs:List Value}(h:W.ownsRow B e size v n xs)(r:0<n):∃g c,v=zS g n c/\B<=g/\g<W.heap.size/\∀i u,xs[i]? =some u->zC W g i u:=by
 obtain⟨g,c,rfl,t,y⟩:=h.form r;refine⟨g,c,rfl,t,y,fun i u A=> ?_⟩;have o:=h.cells (g:=g) rfl i u A;have D:(⟨g,0,none⟩:Addr).add i=⟨g,i,none⟩:=by unfold Addr.add;split<;>simp_all
 rw[D]at o;exact o
theorem y3V{s:List UInt8}:∀{l},inA s l=false->s ∉ l
 |l,h,hm=>by rw[z2e hm]at h;cases h
def Onc(m:Int)(ops:List Ox):Prop:=(ops.map qB).Nodup/\∀i (hi:i<ops.length),∀x∈ops[i].2.2.2,0<=x/\x<if ops[i].1=5 then m else(i:Int)
theorem z4H{m:Int}{ops:List Ox}{o:Ox}(h:Onc m ops)(y:∀x∈o.2.2.2,0<=x/\x<if o.1=5 then m else(ops.length:Int)):Onc m (plO o ops).2:=by
 unfold plO;split
 ·exact h
 ·rename_i t
  have t:inA (qB o) (ops.map qB)=false:=by simpa using t
  refine⟨?_,fun i r=> ?_⟩
  ·show((ops++[o]).map qB).Nodup
   rw[List.map_append,List.nodup_append];refine⟨h.1,by simp,fun a ha b A e=> ?_⟩;obtain rfl:b=qB o:=by simpa using A
   exact y3V t (e▸ha)
  ·have r:i<(ops++[o]).length:=r
   rw[List.length_append]at r;show ∀x∈(ops++[o])[i].2.2.2,0<=x/\x<if(ops++[o])[i].1=5 then m else(i:Int)
   by_cases e:i<ops.length
   ·rw[List.getElem_append_left e]
    exact h.2 i e
   ·obtain rfl:i=ops.length:=by simp at r;omega
    rw[List.getElem_append_right L0q];simp only[Nat.sub_self,List.getElem_cons_zero];exact y
mutual
theorem z4I{ix:zA->Int}{m:Int}:∀(t:RT),(∀y∈rfT t,0<=ix y.1/\ix y.1<m)->∀ops:List Ox,Onc m ops->Onc m (mkT ix t ops).2
 | .mk k T a b c d s p,hr,ops,h=>by
   rw[mkT];by_cases h5:k=5
   ·rw[if_pos h5]
    refine z4H h fun x hx=> ?_
    obtain rfl:x=ix T:=by simpa using hx
    rw[if_pos rfl];exact hr (T,p) (by rw[rfT,if_pos h5];exact List.mem_singleton.2 rfl)
   ·rw[if_neg h5]
    have o:=z4J s (fun y r=>hr y (by rw[rfT,if_neg h5];exact r)) ops h;refine z4H o fun x hx=> ?_
    have:=(Fw ix s ops).2.1.2 x hx;rw[if_neg h5];exact this
theorem z4J{ix:zA->Int}{m:Int}:∀(s:List RT),(∀y∈rfL s,0<=ix y.1/\ix y.1<m)->∀ops:List Ox,Onc m ops->Onc m (mkL ix s ops).2
 |[],_,ops,h=>by rw[mkL];exact h
 |t::r,hr,ops,h=>by
  rw[mkL];exact z4J r (fun y o=>hr y (by rw[rfL];exact List.mem_append.2 (.inr o))) _ (z4I t (fun y o=>hr y (by rw[rfL];exact List.mem_append.2 (.inl o))) ops h)
end
theorem z4K{ix:zA->Int}{m:Int}:∀(s:List Rr),(∀x∈s,∀y∈rfT x.2.1,0<=ix y.1/\ix y.1<m)->∀ops:List Ox,Onc m ops->Onc m (mkG ix s ops).2
 |[],_,ops,h=>by rw[mkG];exact h
 |x::r,hr,ops,h=>by
  rw[mkG];exact z4K r (fun y o=>hr y (List.mem_cons_of_mem _ o)) _ (z4I x.2.1 (hr x List.mem_cons_self) ops h)
theorem y3W{rs:List Rr}(o:ckR rs=none):Onc (rs.length:Int) (pgG rs).2:=by
 refine z4K rs (fun x hx y r=> ?_) [] ⟨by simp,fun i t=>by simp at t⟩;have h:inN y.1 (nmL rs)=true:=Aq (Hy o) y (Ky.2 ⟨x,hx,r⟩);have A:=Gk y.1 (nmL rs) h;have D:(nmL rs).length=rs.length:=by unfold nmL;rw[List.length_map]
 show 0<=fdI y.1 (nmL rs)/\fdI y.1 (nmL rs)<_;unfold fdI;rw[if_pos h];omega
theorem y3X{W:World}{B e size n:Nat}{v:Value}{xs:List Value}{r:Option Addr}{c:Nat}(h:W.ownsRow B e size v n xs)(o:v=.slice r n c):n<=c:=by
 rcases h.2 with⟨y,A⟩|⟨g,D,E,t,G,I,U,V⟩
 ·omega
 ·rw[t]at o
  injection o with _ _ e3
  omega
section
def cl4(a b c d:Int):Nat:=cls a.toNat b.toNat c.toNat d.toNat
section
variable (K:ByteArray->Ot)
end
end
section
inductive Jb where
 |one (t:RT)
 |row (s:List RT)
 |alt (s:List RT)
 |rep (t:RT)
def Vc(N T:zA)(at':Nat):Bool:=Lib.hasPrefix (T.extract at' T.size).data.toList N.data.toList
def Xq(C:Nat)(T:zA)(at':Nat):Bool:=match T.data[at']? with
 |some x=>C.testBit x.toNat
 |none=>false
def Zd(b:Bool)(e:Nat):Option Nat:=if b then some e else none
section
variable (B:ByteArray->Option RT) (T:ByteArray)
inductive Mt:Jb->Nat->Option Nat->Nat->Prop
 |emp {N a b c d s p i}:Mt (.one (.mk 1 N a b c d s p)) i (some i) 1
 |lit {N a b c d s p i}:Mt (.one (.mk 2 N a b c d s p)) i (Zd (Vc N T i) (i+N.size)) 1
 |set {N a b c d s p i}:Mt (.one (.mk 3 N a b c d s p)) i (Zd (Xq (cl4 a b c d) T i) (i+1)) 1
 |any {N a b c d s p i}:Mt (.one (.mk 4 N a b c d s p)) i (Zd (Xq Xp T i) (i+1)) 1
 |ref {N a b c d s p i t e n}:B N=some t->Mt (.one t) i e n->Mt (.one (.mk 5 N a b c d s p)) i e (n+1)
 |seq {N a b c d s p i e n}:Mt (.row s) i e n->Mt (.one (.mk 6 N a b c d s p)) i e (n+1)
 |cho {N a b c d s p i e n}:Mt (.alt s) i e n->Mt (.one (.mk 7 N a b c d s p)) i e (n+1)
 |opt {N a b c d t r p i e n}:Mt (.one t) i e n->Mt (.one (.mk 8 N a b c d (t::r) p)) i (some (e.getD i)) (n+1)
 |star {N a b c d t r p i e n}:Mt (.rep t) i e n->Mt (.one (.mk 9 N a b c d (t::r) p)) i e (n+1)
 |plus_no {N a b c d t r p i n}:Mt (.one t) i none n->Mt (.one (.mk 10 N a b c d (t::r) p)) i none (n+1)
 |plus_ok {N a b c d t r p i x e n m}:Mt (.one t) i (some x) n->Mt (.rep t) x e m->Mt (.one (.mk 10 N a b c d (t::r) p)) i e (n+m+1)
 |and {N a b c d t r p i e n}:Mt (.one t) i e n->Mt (.one (.mk 11 N a b c d (t::r) p)) i (Zd e.isSome i) (n+1)
 |not {N a b c d t r p i e n}:Mt (.one t) i e n->Mt (.one (.mk 12 N a b c d (t::r) p)) i (Zd e.isNone i) (n+1)
 |row_nil {i}:Mt (.row []) i (some i) 0
 |row_no {t r i n}:Mt (.one t) i none n->Mt (.row (t::r)) i none n
 |row_ok {t r i x e n m}:Mt (.one t) i (some x) n->Mt (.row r) x e m->Mt (.row (t::r)) i e (n+m)
 |alt_nil {i}:Mt (.alt []) i none 0
 |alt_ok {t r i x n}:Mt (.one t) i (some x) n->Mt (.alt (t::r)) i (some x) n
 |alt_no {t r i e n m}:Mt (.one t) i none n->Mt (.alt r) i e m->Mt (.alt (t::r)) i e (n+m)
 |rep_end {t i n}:Mt (.one t) i none n->Mt (.rep t) i (some i) n
 |rep_go {t i x e n m}:Mt (.one t) i (some x) n->Mt (.rep t) x e m->Mt (.rep t) i e (n+m)
end
variable {B:ByteArray->Option RT} {T:ByteArray}
theorem Gg{j:Jb}{i:Nat}{e:Option Nat}{n:Nat}(h:Mt B T j i e n):∀{o:Option Nat} {r:Nat},Mt B T j i o r->e=o/\n=r:=by
 induction h with
 |emp|lit|set|any=>intro o r k;cases k;exact⟨rfl,rfl⟩
 |row_nil|alt_nil=>intro o r k;cases k;exact⟨rfl,rfl⟩
 |ref t h2 ih=>
  intro o r k;cases k with
  |ref k1 k2=>
   rw[t]at k1;cases k1;obtain⟨rfl,rfl⟩:=ih k2;exact⟨rfl,rfl⟩
 |seq _ ih|cho _ ih|opt _ ih|star _ ih|and _ ih|not _ ih=>
  intro o r k;cases k;rename_i k;obtain⟨rfl,rfl⟩:=ih k;exact⟨rfl,rfl⟩
 |plus_no _ ih=>
  intro o r k;cases k with
  |plus_no k=>obtain⟨_,rfl⟩:=ih k;exact⟨rfl,rfl⟩
  |plus_ok k _=>cases(ih k).1
 |plus_ok _ _ ih1 ih2=>
  intro o r k;cases k with
  |plus_no k=>cases(ih1 k).1
  |plus_ok k1 k2=>
   obtain⟨t,rfl⟩:=ih1 k1;cases t;obtain⟨rfl,rfl⟩:=ih2 k2;exact⟨rfl,rfl⟩
 |row_no _ ih=>
  intro o r k;cases k with
  |row_no k=>obtain⟨_,rfl⟩:=ih k;exact⟨rfl,rfl⟩
  |row_ok k _=>cases(ih k).1
 |row_ok _ _ ih1 ih2=>
  intro o r k;cases k with
  |row_no k=>cases(ih1 k).1
  |row_ok k1 k2=>
   obtain⟨t,rfl⟩:=ih1 k1;cases t;obtain⟨rfl,rfl⟩:=ih2 k2;exact⟨rfl,rfl⟩
 |alt_ok _ ih=>
  intro o r k;cases k with
  |alt_ok k=>exact ih k
  |alt_no k _=>cases(ih k).1
 |alt_no _ _ ih1 ih2=>
  intro o r k;cases k with
  |alt_ok k=>cases(ih1 k).1
  |alt_no k1 k2=>
   obtain⟨_,rfl⟩:=ih1 k1;obtain⟨rfl,rfl⟩:=ih2 k2;exact⟨rfl,rfl⟩
 |rep_end _ ih=>
  intro o r k;cases k with
  |rep_end k=>obtain⟨_,rfl⟩:=ih k;exact⟨rfl,rfl⟩
  |rep_go k _=>cases(ih k).1
 |rep_go _ _ ih1 ih2=>
  intro o r k;cases k with
  |rep_end k=>cases(ih1 k).1
  |rep_go k1 k2=>
   obtain⟨t,rfl⟩:=ih1 k1;cases t;obtain⟨rfl,rfl⟩:=ih2 k2;exact⟨rfl,rfl⟩
theorem z4L{t:RT}{i:Nat}{e:Option Nat}{n:Nat}(h:Mt B T (.one t) i e n):1<=n:=by
 cases h<;>omega
theorem y3Y(T:zA)(i:Nat):(T.extract i T.size).data.toList=T.data.toList.drop i:=by
 have h:(T.extract i T.size).data=T.data.extract i T.size:=by
  rw[ByteArray.data_extract]
 rw[h,Array.toList_extract];show List.extract T.data.toList i T.size=_;rw[List.extract_eq_take_drop];exact List.take_of_length_le (by rw[List.length_drop];exact Nat.le_refl _)
theorem z4M(N T:zA)(i:Nat):Vc N T i=Lib.hasPrefix (T.data.toList.drop i) N.data.toList:=by
 unfold Vc;rw[y3Y]
theorem Aw{N T:zA}{i:Nat}(r:i<=T.size)(h:Vc N T i=true):i+N.size<=T.size:=by
 rw[z4M]at h;have o:=(List.isPrefixOf_iff_prefix.1 h).length_le;rw[List.length_drop]at o;have t:N.data.toList.length=N.size:=rfl;have y:T.data.toList.length=T.size:=rfl;omega
theorem Kg{C:Nat}{T:zA}{i:Nat}(h:Xq C T i=true):i<T.size:=by
 unfold Xq at h;rcases Nat.lt_or_ge i T.size with o|o
 ·exact o
 ·rw[Array.getElem?_eq_none o]at h
  cases h
theorem Kh{j:Jb}{i:Nat}{e:Option Nat}{n:Nat}(h:Mt B T j i e n):i<=T.size->∀x,e=some x->i<=x/\x<=T.size:=by
 induction h with
 |emp|row_nil=>intro o x hx;cases hx;exact⟨Nat.le_refl _,o⟩
 |lit=>
  intro o x hx;unfold Zd at hx;split at hx
  ·rename_i h
   cases hx;exact⟨Nat.le_add_right _ _,Aw o h⟩
  ·cases hx
 |set|any=>
  intro o x hx;unfold Zd at hx;split at hx
  ·rename_i h
   cases hx;exact⟨Nat.le_add_right _ _,Kg h⟩
  ·cases hx
 |ref _ _ ih=>exact ih
 |seq _ ih|cho _ ih|star _ ih=>exact ih
 |alt_ok _ ih=>exact ih
 |opt _ ih=>
  intro o x hx;cases hx;rename_i e _ _;cases e with
  |none=>exact⟨Nat.le_refl _,o⟩
  |some y=>exact ih o y rfl
 |plus_no|row_no|alt_nil=>intro o x hx;cases hx
 |plus_ok _ _ ih1 ih2|row_ok _ _ ih1 ih2|rep_go _ _ ih1 ih2=>
  intro o x hx;obtain⟨r,t⟩:=ih1 o _ rfl;obtain⟨A,D⟩:=ih2 t x hx;exact⟨Nat.le_trans r A,D⟩
 |and _ ih|not _ ih=>
  intro o x hx;unfold Zd at hx;split at hx
  ·cases hx;exact⟨Nat.le_refl _,o⟩
  ·cases hx
 |alt_no _ _ _ ih=>exact ih
 |rep_end _ ih=>intro o x hx;cases hx;exact⟨Nat.le_refl _,o⟩
end
section
def okO(o:Ot)(i:Nat):Option Nat->Prop
 |none=>o.2.2=true
 |some e=>i<=e/\(e=i->o.1=true)/\(i<e->o.2.1=true)
def y3Z(o:Ot)(i:Nat):Option Nat->Prop
 |none=>False
 |some e=>i<=e/\(e=i->o.2.2=true)/\(i<e->o.2.1=true)
def Okj(K:zA->Ot):Jb->Nat->Option Nat->Prop
 | .one t,i,e=>okO (ofT K t) i e
 | .row s,i,e=>∀(acc:Ot) (i0:Nat),i0<=i->(i=i0->acc.1=true)->(i0<i->acc.2.1=true)->okO (ofS K acc s) i0 e
 | .alt s,i,e=>∀acc:Ot,acc.2.2=true->okO (ofA K acc s) i e
 | .rep t,i,e=>y3Z (ofT K t) i e
theorem z4N(K:zA->Ot):∀(s:List RT) (a:Ot),a.2.2=true->(ofS K a s).2.2=true
 |[],a,h=>by rw[ofS];exact h
 |t::r,a,h=>by rw[ofS];exact z4N K r _ (by simp[Uc,h])
theorem z4O(K:zA->Ot):∀(s:List RT) (a:Ot),a.1=true->(ofA K a s).1=true
 |[],a,h=>by rw[ofA];exact h
 |t::r,a,h=>by rw[ofA];exact z4O K r _ (by simp[Ux,h])
theorem z4P(K:zA->Ot):∀(s:List RT) (a:Ot),a.2.1=true->(ofA K a s).2.1=true
 |[],a,h=>by rw[ofA];exact h
 |t::r,a,h=>by rw[ofA];exact z4P K r _ (by simp[Ux,h])
theorem y4a{N T:zA}{i:Nat}(h:N.size=0):Vc N T i=true:=by
 rw[z4M];have:N.data.toList=[]:=List.length_eq_zero_iff.1 h;rw[this];exact List.isPrefixOf_iff_prefix.2 (List.nil_prefix)
theorem y4b:cl4 0 0 0 0=0:=by decide
theorem Tb{b:Bool}{i m:Nat}{o:Ot}(r:b=false->o.2.2=true)(h:b=true->(m=0->o.1=true)/\(0<m->o.2.1=true)):okO o i (Zd b (i+m)):=by
 unfold Zd;cases b with
 |true=>exact⟨by omega,fun e=>(h rfl).1 (by omega),fun e=>(h rfl).2 (by omega)⟩
 |false=>exact r rfl
variable {B:ByteArray->Option RT} {T:ByteArray} {K:ByteArray->Ot}
theorem Iy(Z:∀N t,B N=some t->ofT K t=K N){j:Jb}{i:Nat}{e:Option Nat}{n:Nat}(h:Mt B T j i e n):Okj K j i e:=by
 induction h with
 |emp=>exact⟨Nat.le_refl _,fun _=>by rw[ofT];rfl,fun h=>absurd h (Nat.lt_irrefl _)⟩
 | @lit N a b c d s p i=>
   simp only[Okj];rw[ofT];by_cases o:N.size=0
   ·rw[y4a o,o];exact⟨Nat.le_refl _,fun _=>by simp,fun h=>absurd h (by simp)⟩
   ·refine Tb (fun _=>by simp[o]) (fun _=>⟨fun h=>absurd h o,fun _=>by simp[o]⟩)
 | @set N a b c d s p i=>
   simp only[Okj];rw[ofT];by_cases o:a=0/\b=0/\c=0/\d=0
   ·obtain⟨rfl,rfl,rfl,rfl⟩:=o
    have:Xq (cl4 0 0 0 0) T i=false:=by
     unfold Xq;rw[y4b];cases T.data[i]? <;>simp
    rw[this]
    (show Prod.snd (Prod.snd _)=true;simp)
   ·refine Tb (fun _=>by simp[o]) (fun _=>⟨fun h=>by omega,fun _=>by simp[o]⟩)
 |any=>exact Tb (fun _=>by rw[ofT];rfl) (fun _=>⟨fun h=>by omega,fun _=>by rw[ofT];rfl⟩)
 |ref A _ ih=>
  have D:=Z _ _ A;simp only[Okj]at ih ⊢;rw[D]at ih;rw[ofT];exact ih
 |seq _ ih=>
  have:=ih (true,false,false) _ L0q (fun _=>rfl) (fun h=>absurd h (Nat.lt_irrefl _));simp only[Okj];rw[ofT];exact this
 |cho _ ih=>
  have:=ih (false,false,true) rfl;simp only[Okj];rw[ofT];exact this
 | @opt N a b c d t r p i e n _ ih=>
   simp only[Okj]at ih ⊢;rw[ofT,ofH];cases e with
   |none=>exact⟨Nat.le_refl _,fun _=>by have:(ofT K t).2.2=true:=ih;simp[Zy,this],fun h=>absurd h (Nat.lt_irrefl _)⟩
   |some x=>exact⟨ih.1,fun h=>by simp[Zy,ih.2.1 h],fun h=>by simp[Zy,ih.2.2 h]⟩
 | @star N a b c d t r p i e n _ ih=>
   simp only[Okj]at ih ⊢;rw[ofT,ofH];cases e with
   |none=>exact ih.elim
   |some x=>exact⟨ih.1,fun h=>by simp[Zy,ih.2.1 h],fun h=>by simp[Zy,ih.2.2 h]⟩
 | @plus_no N a b c d t r p i n _ ih=>
   simp only[Okj]at ih ⊢;rw[ofT,ofH];have:(ofT K t).2.2=true:=ih
   (show Prod.snd (Prod.snd _)=true;simp[Zy,this])
 | @plus_ok N a b c d t r p i x e n m _ _ ih1 ih2=>
   simp only[Okj]at ih1 ih2 ⊢;rw[ofT,ofH];cases e with
   |none=>exact ih2.elim
   |some y=>
    obtain⟨a1,a2,a3⟩:=ih1;obtain⟨E,G,I⟩:=ih2;refine⟨Nat.le_trans a1 E,fun h=> ?_,fun h=> ?_⟩
    ·have A:x=i:=by omega
     simp[Zy,a2 A,G (by omega)]
    ·have:(ofT K t).2.1=true:=by
      by_cases hx:i<x
      ·exact a3 hx
      ·exact I (by omega)
     simp[Zy,this]
 | @and N a b c d t r p i e n _ ih=>
   simp only[Okj]at ih ⊢;rw[ofT,ofH];cases e with
   |none=>(show Prod.snd (Prod.snd _)=true;have:(ofT K t).2.2=true:=ih;simp[Zy,this])
   |some x=>
    refine⟨Nat.le_refl _,fun _=> ?_,fun h=>absurd h (Nat.lt_irrefl _)⟩;have:suc (ofT K t)=true:=by
     unfold suc;rcases Nat.lt_or_ge i x with h|h
     ·rw[ih.2.2 h,Bool.or_true]
     ·rw[ih.2.1 (Nat.le_antisymm h ih.1),Bool.true_or]
    simp[Zy,this]
 | @not N a b c d t r p i e n _ ih=>
   simp only[Okj]at ih ⊢;rw[ofT,ofH];cases e with
   |none=>exact⟨Nat.le_refl _,fun _=>by have:(ofT K t).2.2=true:=ih;simp[Zy,this],fun h=>absurd h (Nat.lt_irrefl _)⟩
   |some x=>
    have:suc (ofT K t)=true:=by
     unfold suc;rcases Nat.lt_or_ge i x with h|h
     ·rw[ih.2.2 h,Bool.or_true]
     ·rw[ih.2.1 (Nat.le_antisymm h ih.1),Bool.true_or]
    (show Prod.snd (Prod.snd _)=true;simp[Zy,this])
 |row_nil=>
  intro acc i0 o A D;rw[ofS];exact⟨o,A,D⟩
 | @row_no t r i n _ ih=>
   intro acc i0 o A D;rw[ofS];have U:(ofT K t).2.2=true:=ih;have V:suc acc=true:=by
    unfold suc;rcases Nat.lt_or_ge i0 i with h|h
    ·rw[D h,Bool.or_true]
    ·rw[A (by omega),Bool.true_or]
   show Prod.snd (Prod.snd _)=true;exact z4N K r _ (by simp[Uc,U,V])
 | @row_ok t r i x e n m _ _ ih1 ih2=>
   intro acc i0 o A D;rw[ofS];obtain⟨a1,a2,a3⟩:=ih1;have V:suc (ofT K t)=true:=by
    unfold suc;rcases Nat.lt_or_ge i x with h|h
    ·rw[a3 h,Bool.or_true]
    ·rw[a2 (by omega),Bool.true_or]
   refine ih2 _ i0 (by omega) (fun h=> ?_) (fun h=> ?_)
   ·simp[Uc,A (by omega),a2 (by omega)]
   ·rcases Nat.lt_or_ge i0 i with Y|Y
    ·simp[Uc,D Y,V]
    ·simp[Uc,A (by omega),a3 (by omega)]
 |alt_nil=>
  intro acc h;rw[ofA];exact h
 | @alt_ok t r i x n _ ih=>
   intro acc h;rw[ofA];obtain⟨a1,a2,a3⟩:=ih;exact⟨a1,fun e=>z4O K r _ (by simp[Ux,h,a2 e]),fun e=>z4P K r _ (by simp[Ux,h,a3 e])⟩
 | @alt_no t r i e n m _ _ ih1 ih2=>
   intro acc h;rw[ofA];have U:(ofT K t).2.2=true:=ih1;exact ih2 _ (by simp[Ux,h,U])
 |rep_end _ ih=>exact⟨Nat.le_refl _,fun _=>ih,fun h=>absurd h (Nat.lt_irrefl _)⟩
 | @rep_go t i x e n m _ _ ih1 ih2=>
   simp only[Okj]at ih1 ih2 ⊢;cases e with
   |none=>exact ih2.elim
   |some y=>
    obtain⟨a1,a2,a3⟩:=ih1;obtain⟨E,G,I⟩:=ih2;refine⟨Nat.le_trans a1 E,fun h=>G (by omega),fun h=> ?_⟩;by_cases hx:i<x
    ·exact a3 hx
    ·exact I (by omega)
end
end Go.Proofs.YtgnkkgcgbeianaaGreatDoor
