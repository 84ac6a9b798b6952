/- Lemmas for the last text. Conditions: those that each names. -/
import Derived.Test.YtgnkkgcgbeianaaGreatDoorVC7ToC9a
set_option linter.unusedVariables false
set_option maxRecDepth 100000
set_option maxHeartbeats 16000000
namespace Go.Proofs.YtgnkkgcgbeianaaGreatDoor
open Go.Proofs.Tryz
open Go.RowKit Go.Shelf Go.Maps
variable {W W' w:World} {v0 v1 v2:Value}
theorem y6e{o a1:Addr}{row:Option Nat}(h:W.cell? o=some v0/\W.cell? a1=some v1)(t:some o.block≠row)(y:some a1.block≠row)(r:W.grownBy W' row):W'.cell? o=some v0/\W'.cell? a1=some v1:=⟨r.cell h.1 t,r.cell h.2 y⟩
theorem y6f{Q:Nat->Prop}{B mp o r:Nat}{u A D vn:Value}{ops:List Ox}{xs:List Value}{v3 v4 v5 v6 v7 v8:Value}(h:W.cell? ⟨o,3,none⟩=some v0/\W.cell? ⟨r,1,none⟩=some v1/\W.cell? ⟨r,2,none⟩=some v2/\W.cell? ⟨r,3,none⟩=some v3/\W.cell? ⟨r,4,none⟩=some v4/\W.cell? ⟨r,5,none⟩=some v5/\W.cell? ⟨r,6,none⟩=some v6/\W.cell? ⟨r,7,none⟩=some v7/\W.cell? ⟨r,8,none⟩=some v8)(E:Frm o mp W u W' A)(G:Mkr W' Q B o mp D vn v0 ops A xs)(y:r≠o/\r≠mp/\u.ownBlock≠some r):W'.cell? ⟨o,3,none⟩=some v0/\W'.cell? ⟨r,1,none⟩=some v1/\W'.cell? ⟨r,2,none⟩=some v2/\W'.cell? ⟨r,3,none⟩=some v3/\W'.cell? ⟨r,4,none⟩=some v4/\W'.cell? ⟨r,5,none⟩=some v5/\W'.cell? ⟨r,6,none⟩=some v6/\W'.cell? ⟨r,7,none⟩=some v7/\W'.cell? ⟨r,8,none⟩=some v8:=by
 have t:W'.heap[r]? =W.heap[r]? :=E.block r (World.block_lt_of_cell? W _ h.2.1) y.1 y.2.1 y.2.2;exact⟨(Jv G.hm).1.2.2.2.1,(World.cell?_of_block (a:=⟨r,1,none⟩) t).trans h.2.1,(World.cell?_of_block (a:=⟨r,2,none⟩) t).trans h.2.2.1,(World.cell?_of_block (a:=⟨r,3,none⟩) t).trans h.2.2.2.1,(World.cell?_of_block (a:=⟨r,4,none⟩) t).trans h.2.2.2.2.1,(World.cell?_of_block (a:=⟨r,5,none⟩) t).trans h.2.2.2.2.2.1,(World.cell?_of_block (a:=⟨r,6,none⟩) t).trans h.2.2.2.2.2.2.1,(World.cell?_of_block (a:=⟨r,7,none⟩) t).trans h.2.2.2.2.2.2.2.1,(World.cell?_of_block (a:=⟨r,8,none⟩) t).trans h.2.2.2.2.2.2.2.2⟩
theorem y6g{o r:Nat}{row:Option Nat}{v3 v4 v5 v6 v7 v8:Value}(h:W.cell? ⟨o,3,none⟩=some v0/\W.cell? ⟨r,1,none⟩=some v1/\W.cell? ⟨r,2,none⟩=some v2/\W.cell? ⟨r,3,none⟩=some v3/\W.cell? ⟨r,4,none⟩=some v4/\W.cell? ⟨r,5,none⟩=some v5/\W.cell? ⟨r,6,none⟩=some v6/\W.cell? ⟨r,7,none⟩=some v7/\W.cell? ⟨r,8,none⟩=some v8)(A:some o≠row)(y:some r≠row)(t:W.grownBy W' row):W'.cell? ⟨o,3,none⟩=some v0/\W'.cell? ⟨r,1,none⟩=some v1/\W'.cell? ⟨r,2,none⟩=some v2/\W'.cell? ⟨r,3,none⟩=some v3/\W'.cell? ⟨r,4,none⟩=some v4/\W'.cell? ⟨r,5,none⟩=some v5/\W'.cell? ⟨r,6,none⟩=some v6/\W'.cell? ⟨r,7,none⟩=some v7/\W'.cell? ⟨r,8,none⟩=some v8:=
 ⟨t.cell h.1 A,t.cell h.2.1 y,t.cell h.2.2.1 y,t.cell h.2.2.2.1 y,t.cell h.2.2.2.2.1 y,t.cell h.2.2.2.2.2.1 y,t.cell h.2.2.2.2.2.2.1 y,t.cell h.2.2.2.2.2.2.2.1 y,t.cell h.2.2.2.2.2.2.2.2 y⟩
theorem Uy{g:Nat}{t:TypeId}{o a1 a2:Value}(h:w.heap[g]? =some (.cells #[o,a1,a2] t)):w.cell? ⟨g,0,none⟩=some o/\w.cell? ⟨g,1,none⟩=some a1/\w.cell? ⟨g,2,none⟩=some a2/\w.frozen? ⟨g,0,none⟩=false/\w.frozen? ⟨g,1,none⟩=false/\w.frozen? ⟨g,2,none⟩=false:=by
 refine⟨?_,?_,?_,?_,?_,?_⟩<;>simp[World.cell?,World.frozen?,h]
theorem Fq{g:Nat}{o:Array Value}{t:TypeId}(h:w.heap[g]? =some (.cells o t))(i:Nat)(u:Value)(r:o[i]? =some u):w.cell? ⟨g,i,none⟩=some u:=(Qj h i u r).1
theorem Lz{R:Nat}{t:TypeId}{o a1 a2:Value}(h:W.heap[R]? =some (.cells #[o,a1,a2] t)):(((W.setCell ⟨R,0,none⟩ v0).setCell ⟨R,1,none⟩ v1).setCell ⟨R,2,none⟩ v2).heap[R]? =some (.cells #[v0,v1,v2] t):=by
 have r:(W.setCell ⟨R,0,none⟩ v0).heap[R]? =some (.cells #[v0,a1,a2] t):=Qk h 0 v0;have y:((W.setCell ⟨R,0,none⟩ v0).setCell ⟨R,1,none⟩ v1).heap[R]? =some (.cells #[v0,v1,a2] t):=Qk r 1 v1;exact Qk y 2 v2
theorem Lx{A:World}{R B:Nat}(h:Below B A W)(o:B<=R):Below B A (((W.setCell ⟨R,0,none⟩ v0).setCell ⟨R,1,none⟩ v1).setCell ⟨R,2,none⟩ v2):=((h.setCell (p:=⟨R,0,none⟩) o v0).setCell (p:=⟨R,1,none⟩) o v1).setCell (p:=⟨R,2,none⟩) o v2
theorem Tryz.infoStrC:(Tryz.prog.info? 9).map (fun i=>(i.zero,i.size,i.bytes))=some (some (.string ⟨#[]⟩),1,16):=by kernel_rfl
theorem y6h(w:World):(Instr.makeMap 76 none).run prog w=.ok (.map (some w.heap.size)) (w.alloc (.map #[] 0)):=by kernel_rfl
def MaQ(ix:ByteArray->Int)(rs:List Rr)(Er:Prop)(w:World)(e:Ending)(w':World):Prop:=
 Below w.heap.size w w'/\((Er/\∃tt uu,e=.returned (.tuple #[.agg #[.slice none 0 0,.slice none 0 0,.slice none 0 0],.iface tt uu]))∨(¬Er/\200<(mkG ix rs []).2.length/\e=.returned (.tuple #[.agg #[.slice none 0 0,.slice none 0 0,.slice none 0 0],.iface 36 (.int .i64 2)]))∨
  (¬Er/\(mkG ix rs []).2.length<=200/\∃(Q:Nat->Prop) (v vn vr:Value) (xs:List Value) (B:Nat),e=.returned (.tuple #[.agg #[v,vn,vr],.nilIface])/\w.heap.size<=B/\w'.ownsRow B 56 7 v (mkG ix rs []).2.length xs/\Bk w' Q (mkG ix rs []).2 xs/\(∀g,Q g->g<w'.heap.size)/\w'.ownsRow B 9 1 vn rs.length (nS rs)/\w'.ownsRow B 3 1 vr rs.length (nI (mkG ix rs []).1)))
theorem Gj.fin{ix:ByteArray->Int}{rs:List Rr}{gv:Value}{A:World}{j:Nat}{Q:Nat->Prop}{xs:List Value}{D nso rso:Option Addr}{r E G I:Nat}{wr:World}{Er:Prop}(h:Gj ix rs gv A j j Q (.slice D r E) xs (.slice nso j G) (.slice rso j I) wr)(V:Below w.heap.size w A)(hE:¬Er)(hj:j=rs.length)(hm:r=(mkG ix (rs.take j) []).2.length)(h2:¬200<r)(lw:w.heap.size+1<A.heap.size):
  MaQ ix rs Er w (.returned (.tuple #[.agg #[.slice D r E,.slice nso j G,.slice rso j I],.nilIface])) (((wr.setCell ⟨w.heap.size+1,0,none⟩ (.slice D r E)).setCell ⟨w.heap.size+1,1,none⟩ (.slice nso j G)).setCell ⟨w.heap.size+1,2,none⟩ (.slice rso j I)):=by
 obtain⟨Wf,t⟩:∃Wf,Wf=((wr.setCell ⟨w.heap.size+1,0,none⟩ (.slice D r E)).setCell ⟨w.heap.size+1,1,none⟩ (.slice nso j G)).setCell ⟨w.heap.size+1,2,none⟩ (.slice rso j I):=⟨_,rfl⟩;have U:∀g,g≠w.heap.size+1->Wf.heap[g]? =wr.heap[g]? :=fun g o=>by rw[t];exact(Below.heap_setCell _ _ _ _ o).trans ((Below.heap_setCell _ _ _ _ o).trans (Below.heap_setCell _ _ _ _ o))
 have hS:Wf.heap.size=wr.heap.size:=by rw[t,World.size_setCell,World.size_setCell,World.size_setCell]
 have hB:Below w.heap.size w Wf:=by rw[t];exact Lx (V.trans (h.be.mono V.size)) (by omega)
 rw[<-t];clear t;have aa:rs.take j=rs:=List.take_of_length_le (by omega);have y:=h.hmk;have Y:=h.on;have Z:=h.or;rw[aa]at y Y Z hm;have ho:=Vm (W':=Wf) y.ho fun g e=>U g (by have:=(y.ho.lt g e).1;omega)
 refine⟨hB,.inr (.inr ⟨hE,by omega,Q,_,_,_,xs,A.heap.size+2,rfl,by have:=V.size;omega,?_,y.hops.keep fun g o=>⟨o,U g (by have:=h.qb g o;omega)⟩,fun g o=>by rw[hS];exact(y.hq g o).1,?_,?_⟩)⟩
 ·exact ho
 ·rw[<-hj]
  exact Vm Y fun g e=>U g (by have:=(Y.lt g e).1;omega)
 ·rw[<-hj]
  exact Vm Z fun g e=>U g (by have:=(Z.lt g e).1;omega)
theorem y6i(Z:Option Addr)(n ab:Nat)(rs:List Rr)(Er:Prop)(w:World)(HR:Hid (Qf w w.heap.size Z n rs))(HN:Hid (n=rs.length))(HP:Hid (Xp w))
  (aO:Hid (∀W:World,Below w.heap.size w W->Calls prog 28 #[.agg #[.slice Z n ab]] W fun e w'=>((Er/\∃tt uu,e=.returned (.iface tt uu))∨(¬Er/\e=.returned .nilIface))/\Below W.heap.size W w'))
  (HK:Hid (¬Er->n<=1048576/\(∀x∈rs,TrK x.2.1/\x.1.size<=1073741824)/\ndG rs<=1048576)):
  Calls prog 15 #[.agg #[.slice Z n ab]] w (MaQ (fun T=>fdI T (nmL rs)) rs Er w):=by
 obtain⟨ix,aC⟩:∃ix:ByteArray->Int,ix=fun T=>fdI T (nmL rs):=⟨_,rfl⟩
 rw[<-aC];have bx:=hid aC;clear aC;obtain⟨aw,e0,e1⟩:=Dz w (.cells #[.slice Z n ab] 43) (.cells #[.slice none 0 0,.slice none 0 0,.slice none 0 0] 26);obtain⟨W1,aD⟩:∃W1,W1=(w.alloc (.cells #[.slice Z n ab] 43)).alloc (.cells #[.slice none 0 0,.slice none 0 0,.slice none 0 0] 26):=⟨_,rfl⟩;rw[<-aD]at aw e0 e1;have aP:=hid (aO.out W1 aw);have aQ:=hid aw;have E0:=hid e0;have E1:=hid e1;have aR:=hid aD;have m0:=(Qw e0).1;have l0:=Qq e0;have cf:=y6h;clear aw e0 e1 aD;go_enter func15,ntmps15
 go_wp2_with fail
 rw[<-aR.out];clear aR;refine aP.out.mono ?_;rintro e r ⟨hE,ax⟩;have ag:=hid (aQ.out.trans (ax.mono aQ.out.size));have F0:=hid ((ax.block _ (Qq E0.out)).trans E0.out);have F1:=hid ((ax.block _ (Qq E1.out)).trans E1.out);clear m0 l0 aP aO E0 E1 ax;have m0:=(Qw F0.out).1;have l0:=Qq F0.out;obtain⟨z0,z1,z2,f0,f1,f2⟩:=Uy F1.out;have l1:=Qq F1.out;rcases hE with⟨al,tt,uu,rfl⟩|⟨al,rfl⟩
 ·go_wp2_with fail
  have hP:=Lz (v0:=.slice none 0 0) (v1:=.slice none 0 0) (v2:=.slice none 0 0) F1.out;obtain⟨r0,r1,r2,_⟩:=Uy hP;exact bodyPost_ret (v:=.tuple #[.agg #[.slice none 0 0,.slice none 0 0,.slice none 0 0],.iface tt uu]) (by simp[results,Tryz.results15,go_sem,r0,r1,r2]) rfl ⟨Lx ag.out (by omega),.inl ⟨al,tt,uu,rfl⟩⟩
 ·obtain⟨hn,aS,aT⟩:=HK.out al
  have bz:=hid aS;have aU:=hid al;obtain⟨aE,e2,e3⟩:=Dz r (.map #[] 0) (.cells #[.slice Z n ab,.slice none 0 0,.slice none 0 0,.slice none 0 0,.map (some r.heap.size)] 78);obtain⟨W4,am⟩:∃W4,W4=(r.alloc (.map #[] 0)).alloc (.cells #[.slice Z n ab,.slice none 0 0,.slice none 0 0,.slice none 0 0,.map (some r.heap.size)] 78):=⟨_,rfl⟩;have bA:W4.heap.size=r.heap.size+2:=by rw[am,World.size_alloc,World.size_alloc]
  have aV:Pk W4 r.heap.size []:=by rw[am];exact(Pk.made r).same (Below.heap_alloc _ _ _ (by simp))
  rw[<-am]at aE e2 e3;have aW:Hid (Gj ix rs (.slice Z n ab) r 0 0 (fun _=>False) (.slice none 0 0) [] (.slice none 0 0) (.slice none 0 0) W4):=hid ⟨aE,⟨e3,by rw[List.take_zero,mkG];exact World.ownsRow_nil _ _ _ _,fun i hi=>by rw[List.take_zero,mkG]at hi;simp at hi,by rw[List.take_zero,mkG];exact aV,fun g hg=>hg.elim,by omega,by omega,by omega⟩,by rw[List.take_zero];exact World.ownsRow_nil _ _ _ _,by rw[List.take_zero,mkG];exact World.ownsRow_nil _ _ _ _,fun g hg=>(by cases hg),fun g hg=>(by cases hg),fun g hg=>hg.elim⟩;have aX:=hid am;have aY:Hid (Qf r r.heap.size Z n rs):=hid ((HR.out.below ag.out).upto ag.out.size);have bC:Hid (Xp r):=hid (HP.out.below ag.out);have aZ:=hid aT;clear aS al aT aE e2 e3 am bA aV HK HR HP z0 z1 z2 f0 f1 f2 l1
  go_wp2_with fail
  rw[<-aX.out];clear aX m0 l0;obtain⟨iT,bD,bE,bF,bG⟩:=info_parts Tryz.infoInt;obtain⟨iS,bH,bI,bJ,bK⟩:=info_parts Tryz.infoStrC
  go_loopw [21] (fun i wr=>∃(j:Nat) (Q:Nat->Prop) (v:Value) (xs:List Value) (vn vr:Value),i=.int .i64 j/\j<=n/\Hid (Gj ix rs (.slice Z n ab) r j j Q v xs vn vr wr)) (fun i _=>n-(intOf i).toNat)
  case atStart=>exact⟨0,_,_,_,_,_,rfl,Nat.zero_le _,aW⟩
  case round=>
   obtain⟨j,Q,v,xs,vn,vr,rfl,hj,I⟩:=hrel;clear aW;obtain⟨nso,ac,rfl⟩:=Ub I.out.on;obtain⟨rso,G,rfl⟩:=Ub I.out.or;by_cases hjn:j<n
   ·have cg:(j:Int)<(n:Int):=by omega
    have a0:decide ((j:Int)<(n:Int))=true:=by simp;omega
    have ao:j<rs.length:=by rw[<-HN.out];exact hjn
    obtain⟨g,o,rfl,hg,k1,T1,a1,V,c1,d1,ad,n1,ae,p1,rt,z0,z1,z2,z3,z4,z5,z6,z7,z8,z9⟩:=aY.out.2.2 j ao;have Y:∀{i:Nat} {u:Value},r.cell? ⟨g,i,none⟩=some u->wr.cell? ⟨g,i,none⟩=some u:=fun{i u} h=>(I.out.be.cell (p:=⟨g,i,none⟩) hg).trans h
    replace z0:=Y z0;replace z1:=Y z1;replace z2:=Y z2;replace z3:=Y z3;replace z4:=Y z4;replace z5:=Y z5;replace z6:=Y z6;replace z7:=Y z7;replace z8:=Y z8;replace z9:=Y z9;have aF:=bz.out rs[j] (List.getElem_mem ao);obtain⟨N0,ay⟩:∃N0,N0=rs[j].1:=⟨_,rfl⟩;obtain⟨q1,a2⟩:∃q1,q1=rs[j].2.2:=⟨_,rfl⟩;rw[<-ay]at z0;rw[<-a2]at z9;have bL:=hid (fun W:World=>Kh N0 W (by rw[ay];exact Nat.le_trans aF.2 (by decide)));have a3:Below wr.heap.size wr (wr.alloc (.cells #[.string N0,.int .i64 k1,.string T1,.int .u64 a1,.int .u64 V,.int .u64 c1,.int .u64 d1,.slice ad n1 ae,.int .i64 p1,.int .i64 q1] 83)):=(Below.refl _ wr).alloc L0q _;obtain⟨E,ah⟩:∃E,E=(wr.alloc (.cells #[.string N0,.int .i64 k1,.string T1,.int .u64 a1,.int .u64 V,.int .u64 c1,.int .u64 d1,.slice ad n1 ae,.int .i64 p1,.int .i64 q1] 83)).drew:=⟨_,rfl⟩;have a4:Below wr.heap.size wr E:=by rw[ah];exact a3.drew
    have a5:E.heap.size=wr.heap.size+1:=by rw[ah];exact World.size_alloc _ _
    have aG:E.heap[wr.heap.size]? =some (.cells #[.string N0,.int .i64 k1,.string T1,.int .u64 a1,.int .u64 V,.int .u64 c1,.int .u64 d1,.slice ad n1 ae,.int .i64 p1,.int .i64 q1] 83):=by rw[ah];exact Qx wr _ rfl
    have az:=hid (I.out.below a4);have ch:r.heap.size+1<wr.heap.size:=Qq I.out.hmk.hm;have aA:∀g,Value.ownBlock (.slice nso j ac)=some g->r.heap.size+2<=g/\g<wr.heap.size:=I.out.on.lt;have a6:∀g,Value.ownBlock (.slice rso j G)=some g->r.heap.size+2<=g/\g<wr.heap.size:=I.out.or.lt;have bM:Hid (∀A:World,Below E.heap.size E A->A.ownsRow (r.heap.size+2) 9 1 (.slice nso j ac) j (nS (rs.take j))):=hid fun A h3=>(az.out.below h3).on
    have bN:Hid (∀A:World,Below E.heap.size E A->r.heap.size+2<=(A.alloc (.cells #[.string N0] 9)).heap.size):=hid fun A h3=>by have:=h3.size;rw[World.size_alloc];omega
    have bO:Hid (∀A:World,Below E.heap.size E A->r.heap.size+1<(A.alloc (.cells #[.string N0] 9)).heap.size):=hid fun A h3=>by have:=h3.size;rw[World.size_alloc];omega
    have bP:Hid (∀A:World,Below E.heap.size E A->r.heap.size+1<A.heap.size):=hid fun A h3=>by have:=h3.size;omega
    have bQ:Hid (r.heap.size+1<E.heap.size):=hid (by omega);have a7:Hid (some (r.heap.size+1)≠Value.ownBlock (.slice nso j ac)):=hid fun e=>by have:=aA _ e.symm;omega
    have a8:Hid (some wr.heap.size≠Value.ownBlock (.slice nso j ac)):=hid fun e=>by have:=aA _ e.symm;omega
    have a9:=hid az.out.hmk.hm;have ba:j+1<=maxLen:=by unfold maxLen;omega
    have bR:(j+1)*16<=140737488355328:=by omega
    have bS:(j+1)*8<=140737488355328:=by omega
    have bb:Hid ((fun X:World=>X.cell? ⟨r.heap.size+1,2,none⟩=some (.slice nso j ac)/\X.cell? ⟨wr.heap.size,0,none⟩=some (.string N0)) (wr.alloc (.cells #[.string N0,.int .i64 k1,.string T1,.int .u64 a1,.int .u64 V,.int .u64 c1,.int .u64 d1,.slice ad n1 ae,.int .i64 p1,.int .i64 q1] 83)).drew):=by
     rw[<-ah];exact⟨(Jv a9.out).1.2.2.1,Fq aG 0 _ rfl⟩
    have bc:=hid ah;have bd:=hid aG;have aB:=hid a5;have bT:=hid ay;have bU:=hid rt;have bV:=hid aF.1;have aH:=hid a6;have ci:=hid aA;clear Y ay a2 a3 ah a4 aG a5 aF rt aA a6
    go_wp2_with fail
    clear z0 z1 z2 z3 z4 z5 z6 z7 z8 z9;refine Zj 14 (fun X:World=>X.cell? ⟨r.heap.size+1,2,none⟩=some (.slice nso j ac)/\X.cell? ⟨wr.heap.size,0,none⟩=some (.string N0)) (by kernel_rfl) bb.out (fun t=> ?_);rw[<-bc.out]at t ⊢;refine Qz 0 t ?_;refine Qz 1 t ?_;refine Qz 2 t ?_;refine Qz 3 t ?_;refine Qz 4 t ?_;refine Qz 5 t ?_;refine Qz 6 t ?_;refine Qz 7 t ?_
    (refine Qg 8 (fun K y=> ?_);go_simp;refine(bL.out E).mono ?_;rintro e A ⟨rfl,bf⟩;have aa:=hid bf;clear bf;go_simp;replace t:=Il t aa.out;refine y.out _ _ t ?_;clear y K)
    (try simp only[Act.put,List.setIfInBounds_toArray,List.set_cons_zero,List.set_cons_succ])
    (refine Qg 9 (fun K y=> ?_);go_simp;replace t:=Il t ((Below.refl _ A).alloc L0q (.cells #[.string N0] 9));refine y.out _ _ t ?_;clear y K)
    (try simp only[Act.put,List.setIfInBounds_toArray,List.set_cons_zero,List.set_cons_succ])
    (refine Qg 10 (fun K y=> ?_);refine step_append_lies _ rfl (.tmp 30) (.tmp 34) 23 rfl (r.heap.size+2) 9 iS (.string ⟨#[]⟩) 1 16 Tryz.underlying23 bH bI bJ bK rfl (by decide) (.slice nso j ac) j (nS (rs.take j)) (by rfl) ((bM.out A aa.out).alloc _) ⟨A.heap.size,0,none⟩ 1 1 [.string N0] (by rfl) rfl (Bj _ _ _) (by simp[Value.oneCell']) (by decide) ba bR (bN.out A aa.out) (A.heap.size+1) (World.size_alloc _ _) ?_;intro g6 ap w6 bg aI bh cj;replace t:=y6e t a7.out a8.out aI;have bi:=hid bg;have aq:=hid aI;have bj:=hid bh;clear bg aI bh;refine y.out _ _ t ?_;clear y K)
    (try simp only[Act.put,List.setIfInBounds_toArray,List.set_cons_zero,List.set_cons_succ])
    (refine Qg 11 (fun K y=> ?_);go_simp;refine y.out _ _ t ?_;clear y K)
    (try simp only[Act.put,List.setIfInBounds_toArray,List.set_cons_zero,List.set_cons_succ])
    (refine Qg 12 (fun K y=> ?_);go_simp;refine y.out _ _ t ?_;clear y K)
    (try simp only[Act.put,List.setIfInBounds_toArray,List.set_cons_zero,List.set_cons_succ])
    refine Qz 13 t ?_;refine Vw (fun K y=> ?_);have aJ:=hid ((aq.out.block _ (bO.out A aa.out) a7.out).trans ((Below.heap_alloc _ _ _ (bP.out A aa.out)).trans ((aa.out.block _ bQ.out).trans a9.out)));obtain⟨⟨s0,s1,s2,s3,s4⟩,f0,f1,f2,f3,f4⟩:=Jv aJ.out;have ls:=Qq aJ.out;clear t
    go_simp
    refine y.out _ _ ?_;clear y K s0 s1 s2 s3 s4 f0 f1 f2 f3 f4 ls
    go_wp2_with fail
    obtain⟨W7,ar⟩:∃W7,W7=w6.setCell ⟨r.heap.size+1,2,none⟩ (.slice (some ⟨g6,0,none⟩) (j+1) ap):=⟨_,rfl⟩;have bW:Hid (Gj ix rs _ r (j+1) j Q v xs (.slice (some ⟨g6,0,none⟩) (j+1) ap) (.slice rso j G) W7):=hid (by rw[ar];exact(az.out.below aa.out).names ao (by rw[<-bT.out];exact bi.out) aq.out bj.out);have bX:=aa.out.size;have bY:A.heap.size+1<=w6.heap.size:=by have:=aq.out.size;rw[World.size_alloc]at this;exact this
    have bk:W7.heap[wr.heap.size]? =some (.cells #[.string N0,.int .i64 k1,.string T1,.int .u64 a1,.int .u64 V,.int .u64 c1,.int .u64 d1,.slice ad n1 ae,.int .i64 p1,.int .i64 q1] 83):=by
     rw[ar];refine(Below.heap_setCell _ _ _ _ (show wr.heap.size≠r.heap.size+1 by omega)).trans ((aq.out.block _ (by have:=aB.out;rw[World.size_alloc];omega) a8.out).trans ((Below.heap_alloc _ _ _ (by have:=aB.out;omega)).trans ((aa.out.block _ (by have:=aB.out;omega)).trans bd.out)))
    rw[<-ar];obtain⟨U,ai⟩:∃U,U=W7.drew:=⟨_,rfl⟩;have aj:Hid (Gj ix rs _ r (j+1) j Q v xs (.slice (some ⟨g6,0,none⟩) (j+1) ap) (.slice rso j G) U):=hid (by rw[ai];exact bW.out.below (Below.refl _ W7).drew);have ck:wr.heap.size+2<=U.heap.size:=by rw[ai];show _<=W7.heap.size;rw[ar,World.size_setCell];have:=aB.out;omega
    have aK:=y6c rs j ao;have au:=(Uv ix (rs.take j) []).1;have bZ:Hid (Calls prog 30 #[.pointer (some ⟨r.heap.size+1,0,none⟩),.agg #[.int .i64 k1,.string T1,.int .u64 a1,.int .u64 V,.int .u64 c1,.int .u64 d1,.slice ad n1 ae,.int .i64 p1]] U (PlP ix rs[j].2.1 Q (r.heap.size+2) (r.heap.size+1) r.heap.size _ (.slice (some ⟨g6,0,none⟩) (j+1) ap) (.slice rso j G) (mkG ix (rs.take j) []).2 v U)):=hid (by
     have h9:=z6r (B:=r.heap.size+2) (mB:=r.heap.size+1) (mp:=r.heap.size) (gcap:=ab) (vn:=.slice (some ⟨g6,0,none⟩) (j+1) ap) (vr:=.slice rso j G) aY.out (by have:=HN.out;omega) bC.out (Nat.le_succ _) L0q _ rs[j].2.1 _ (Nat.lt_succ_self _) bU.out bV.out U Q (mkG ix (rs.take j) []).2 v xs aj.out.be (by omega) aj.out.hmk (by have:=aZ.out;simp only[List.length_nil]at au;omega);rw[<-bx.out]at h9;exact h9)
    have b2:Hid (wr.heap.size≠r.heap.size+1/\wr.heap.size≠r.heap.size/\v.ownBlock≠some wr.heap.size):=hid ⟨by omega,by omega,fun e=>by have:=(I.out.hmk.ho.lt _ e).2;omega⟩;have b3:Hid (∀(D:World) (v2:Value),Frm (r.heap.size+1) r.heap.size U v D v2->D.ownsRow (r.heap.size+2) 3 1 (.slice rso j G) j (nI (mkG ix (rs.take j) []).1)):=hid fun D v2 h=>Vm aj.out.or fun g e=>by
     have h1:=aH.out g e;exact h.block g (by omega) (by omega) (by omega) (aj.out.d2 g e).2
    have b4:Hid (∀(D:World) (v2:Value),Frm (r.heap.size+1) r.heap.size U v D v2->r.heap.size+2<=(D.alloc (.cells #[(.int .i64 ((mkT ix rs[j].2.1 (mkG ix (rs.take j) []).2).1:Nat))] 3)).heap.size):=hid fun D v2 h=>by have:=h.size;rw[World.size_alloc];omega
    have b5:Hid (∀(D:World) (v2:Value),Frm (r.heap.size+1) r.heap.size U v D v2->r.heap.size+1<(D.alloc (.cells #[(.int .i64 ((mkT ix rs[j].2.1 (mkG ix (rs.take j) []).2).1:Nat))] 3)).heap.size):=hid fun D v2 h=>by have:=h.size;rw[World.size_alloc];omega
    have b6:Hid (∀(D:World) (v2:Value),Frm (r.heap.size+1) r.heap.size U v D v2->r.heap.size+1<D.heap.size):=hid fun D v2 h=>by have:=h.size;omega
    have bl:Hid (some (r.heap.size+1)≠Value.ownBlock (.slice rso j G)):=hid fun e=>by have:=aH.out _ e.symm;omega
    have b7:Hid (some wr.heap.size≠Value.ownBlock (.slice rso j G)):=hid fun e=>by have:=aH.out _ e.symm;omega
    have b8:Hid ((fun X:World=>X.cell? ⟨r.heap.size+1,3,none⟩=some (.slice rso j G)/\X.cell? ⟨wr.heap.size,1,none⟩=some (.int .i64 k1)/\X.cell? ⟨wr.heap.size,2,none⟩=some (.string T1)/\X.cell? ⟨wr.heap.size,3,none⟩=some (.int .u64 a1)/\X.cell? ⟨wr.heap.size,4,none⟩=some (.int .u64 V)/\X.cell? ⟨wr.heap.size,5,none⟩=some (.int .u64 c1)/\X.cell? ⟨wr.heap.size,6,none⟩=some (.int .u64 d1)/\X.cell? ⟨wr.heap.size,7,none⟩=some (.slice ad n1 ae)/\X.cell? ⟨wr.heap.size,8,none⟩=some (.int .i64 p1)) W7.drew):=by
     rw[<-ai];have af:U.heap[wr.heap.size]? =some (.cells #[.string N0,.int .i64 k1,.string T1,.int .u64 a1,.int .u64 V,.int .u64 c1,.int .u64 d1,.slice ad n1 ae,.int .i64 p1,.int .i64 q1] 83):=by rw[ai];exact bk
     exact⟨(Jv aj.out.hmk.hm).1.2.2.2.1,Fq af 1 _ rfl,Fq af 2 _ rfl,Fq af 3 _ rfl,Fq af 4 _ rfl,Fq af 5 _ rfl,Fq af 6 _ rfl,Fq af 7 _ rfl,Fq af 8 _ rfl⟩
    have b9:=hid ai;clear bk ar ai bX bY bi aq bj aa aJ bb bc bd az aK au;refine Zj 15 (fun X:World=>X.cell? ⟨r.heap.size+1,3,none⟩=some (.slice rso j G)/\X.cell? ⟨wr.heap.size,1,none⟩=some (.int .i64 k1)/\X.cell? ⟨wr.heap.size,2,none⟩=some (.string T1)/\X.cell? ⟨wr.heap.size,3,none⟩=some (.int .u64 a1)/\X.cell? ⟨wr.heap.size,4,none⟩=some (.int .u64 V)/\X.cell? ⟨wr.heap.size,5,none⟩=some (.int .u64 c1)/\X.cell? ⟨wr.heap.size,6,none⟩=some (.int .u64 d1)/\X.cell? ⟨wr.heap.size,7,none⟩=some (.slice ad n1 ae)/\X.cell? ⟨wr.heap.size,8,none⟩=some (.int .i64 p1)) (by kernel_rfl) b8.out (fun t=> ?_);rw[<-b9.out]at t ⊢;refine Qz 0 t ?_;refine Qz 1 t ?_;refine Qz 2 t ?_;refine Qz 3 t ?_;refine Qz 4 t ?_;refine Qz 5 t ?_;refine Qz 6 t ?_;refine Qz 7 t ?_;refine Qz 8 t ?_
    (refine Qg 9 (fun K y=> ?_);go_simp;refine bZ.out.mono ?_;rintro e D ⟨Q2,v2,cl,rfl,bm,bn,bo⟩;have aL:=hid bm;have ca:=hid bn;have ak:=hid bo;clear bm bn bo;go_simp;replace t:=y6f t ak.out aL.out b2.out;refine y.out _ _ t ?_;clear y K)
    (try simp only[Act.put,List.setIfInBounds_toArray,List.set_cons_zero,List.set_cons_succ])
    (refine Qg 10 (fun K y=> ?_);go_simp;replace t:=z6o t ((Below.refl _ D).alloc L0q (.cells #[(.int .i64 ((mkT ix rs[j].2.1 (mkG ix (rs.take j) []).2).1:Nat))] 3));refine y.out _ _ t ?_;clear y K)
    (try simp only[Act.put,List.setIfInBounds_toArray,List.set_cons_zero,List.set_cons_succ])
    (refine Qg 11 (fun K y=> ?_);refine step_append_lies _ rfl (.tmp 44) (.tmp 49) 24 rfl (r.heap.size+2) 3 iT (.int .i64 0) 1 8 Tryz.underlying24 bD bE bF bG rfl (by decide) (.slice rso j G) j (nI (mkG ix (rs.take j) []).1) (by rfl) ((b3.out D v2 ak.out).alloc _) ⟨D.heap.size,0,none⟩ 1 1 [(.int .i64 ((mkT ix rs[j].2.1 (mkG ix (rs.take j) []).2).1:Nat))] (by rfl) rfl (Bj _ _ _) (by simp[Value.oneCell']) (by decide) ba bS (b4.out D v2 ak.out) (D.heap.size+1) (World.size_alloc _ _) ?_;intro g9 cm w9 bp aM bq cn;replace t:=y6g t bl.out b7.out aM;have cb:=hid bp;have br:=hid aM;have cc:=hid bq;clear bp aM bq;refine y.out _ _ t ?_;clear y K)
    (try simp only[Act.put,List.setIfInBounds_toArray,List.set_cons_zero,List.set_cons_succ])
    (refine Qg 12 (fun K y=> ?_);go_simp;refine y.out _ _ t ?_;clear y K)
    (try simp only[Act.put,List.setIfInBounds_toArray,List.set_cons_zero,List.set_cons_succ])
    (refine Qg 13 (fun K y=> ?_);go_simp;refine y.out _ _ t ?_;clear y K)
    (try simp only[Act.put,List.setIfInBounds_toArray,List.set_cons_zero,List.set_cons_succ])
    refine Qz 14 t ?_;refine Vw (fun K y=> ?_);have bs:=hid ((br.out.block _ (b5.out D v2 ak.out) bl.out).trans ((Below.heap_alloc _ _ _ (b6.out D v2 ak.out)).trans aL.out.hm));obtain⟨⟨s0,s1,s2,s3,s4⟩,f0,f1,f2,f3,f4⟩:=Jv bs.out;have ls:=Qq bs.out;clear t
    go_simp
    refine y.out _ _ ?_;clear y K s0 s1 s2 s3 s4 f0 f1 f2 f3 f4 ls
    go_wp2_with fail
    refine⟨⟨j+1,_,_,_,_,_,by go_num,by omega,hid (aj.out.roots ao aL.out ca.out ak.out cb.out br.out cc.out)⟩,by simp[intOf];omega⟩
   ·have a0:decide ((j:Int)<(n:Int))=false:=by simp;omega
    have bt:Hid (j=n):=hid (by omega);obtain⟨bu,bv,rfl⟩:=Ub I.out.hmk.ho;obtain⟨mO,aN⟩:∃mO,mO=(mkG ix (rs.take j) []).2.length:=⟨_,rfl⟩;have au:=(Uv ix (rs.take j) []).1;have aK:ndG (rs.take j)<=ndG rs:=by
     have h:ndG rs=ndG (rs.take j)+ndG (rs.drop j):=by rw[<-z0B,List.take_append_drop]
     omega
    have co:mO<=1048576:=by have:=aZ.out;simp only[List.length_nil]at au;omega
    have av:=hid I.out;rw[<-aN]at av;obtain⟨⟨x0,x1,x2,x3,x4⟩,_⟩:=Jv av.out.hmk.hm;have lm:=Qq av.out.hmk.hm;have F2:=hid ((I.out.be.block _ (Qq F1.out)).trans F1.out);obtain⟨z0,z1,z2,f0,f1,f2⟩:=Uy F2.out;have lz:=Qq F2.out;have bw:=hid aN;have lw:w.heap.size+1<r.heap.size:=Qq F1.out;clear aN au aK I;by_cases h2:200<mO
    ·have b0:decide ((200:Int)<(mO:Int))=true:=by simp;omega
     have V:(200:Int)<(mO:Int):=by omega
     go_wp2_with fail
     have hP:=Lz (v0:=.slice none 0 0) (v1:=.slice none 0 0) (v2:=.slice none 0 0) F2.out;obtain⟨r0,r1,r2,_⟩:=Uy hP;have cd:rs.take j=rs:=List.take_of_length_le (by have:=HN.out;have:=bt.out;omega);have ce:Below w.heap.size w wr:=ag.out.trans (av.out.be.mono ag.out.size);refine bodyPost_ret (v:=.tuple #[.agg #[.slice none 0 0,.slice none 0 0,.slice none 0 0],.iface 36 (.int .i64 2)]) (by simp[results,Tryz.results15,go_sem,r0,r1,r2]) rfl ⟨Lx ce (by omega),.inr (.inl ⟨aU.out,?_,rfl⟩)⟩;have:=bw.out;rw[cd]at this;omega
    ·have b0:decide ((200:Int)<(mO:Int))=false:=by simp;omega
     have V:¬(200:Int)<(mO:Int):=by omega
     go_wp2_with fail
     have hP:=Lz (v0:=.slice bu mO bv) (v1:=.slice nso j ac) (v2:=.slice rso j G) F2.out;obtain⟨r0,r1,r2,_⟩:=Uy hP;refine bodyPost_ret (v:=.tuple #[.agg #[.slice bu mO bv,.slice nso j ac,.slice rso j G],.nilIface]) (by simp[results,Tryz.results15,go_sem,r0,r1,r2]) rfl ?_;exact av.out.fin ag.out aU.out (by have:=HN.out;have:=bt.out;omega) bw.out h2 lw
end Go.Proofs.YtgnkkgcgbeianaaGreatDoor
