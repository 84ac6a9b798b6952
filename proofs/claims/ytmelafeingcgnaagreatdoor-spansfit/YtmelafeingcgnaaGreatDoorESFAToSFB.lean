/- Lemmas. Conditions: as each names. -/
import Derived.Test.YtmelafeingcgnaaGreatDoorER2ToPDx
set_option linter.unusedVariables false
set_option maxRecDepth 100000
set_option maxHeartbeats 8000000
namespace Go.Proofs.YtmelafeingcgnaaGreatDoor
open Go.Proofs.Tryz
section
open Go.RowKit Go.Shelf
section
variable (ro:List Int) (T:ByteArray) (N:Nt)
def Chn:Nat->List (Int×Nat)->Nat->Prop
 |lo,[],hi=>lo<=hi
 |lo,y::r,hi=>∃(q:Int) (z:Nat),ro[y.1.toNat]? =some q/\0<=y.1/\N q y.2=some (some z)/\y.2<=T.size/\lo<=y.2/\y.2<=z/\Chn z r hi
end
section
variable {ops:List Ox} {ro:List Int} {T:ByteArray} {N:Nt}
theorem Chn.le:∀{l:List (Int×Nat)} {a b:Nat},Chn ro T N a l b->a<=b
 |[],a,b,h=>h
 |y::r,a,b,⟨q,z,_,_,_,_,h1,h2,h3⟩=>by have:=h3.le;omega
theorem Chn.app:∀{a b:List (Int×Nat)} {c m d:Nat},Chn ro T N c a m->Chn ro T N m b d->Chn ro T N c (a++b) d
 |[],b,c,m,d,o,e=>by
  have o:c<=m:=o;cases b with
  |nil=>have e:m<=d:=e;show c<=d;omega
  |cons y r=>
   obtain⟨q,z,f,h,i,j,p,k,n⟩:=e;exact⟨q,z,f,h,i,j,by omega,k,n⟩
 |y::r,b,c,m,d,⟨q,z,f,h,i,j,p,k,n⟩,e=>⟨q,z,f,h,i,j,p,k,n.app e⟩
theorem Chn.take:∀{l:List (Int×Nat)} {a b:Nat} (n:Nat),Chn ro T N a l b->Chn ro T N a (l.take n) b
 |[],a,b,n,h=>by rw[List.take_nil];exact h
 |y::r,a,b,0,h=>h.le
 |y::r,a,b,n+1,⟨q,z,a1,a2,a3,a4,a5,a6,a7⟩=>⟨q,z,a1,a2,a3,a4,a5,a6,a7.take n⟩
def Vcj(ops:List Ox)(ro:List Int)(T:zA)(N:Nt):Jo->Nat->Nat->Prop
 | .alt s,i,x=>i<=x/\∀pre k r x',s=pre++k::r->(∀p∈pre,N p i=some none)->N k i=some (some x')->x'=x/\Mn ops ro T N (.nd k) i (some x)
 |j,i,x=>Mn ops ro T N j i (some x)
theorem y7j:∀{s:List Int} {i x:Nat},i<=T.size->Mn ops ro T N (.alt s) i (some x)->Vcj ops ro T N (.alt s) i x
 |[],i,x,hi,h=>by cases h
 |k::r,i,x,hi,h=>by
  have d:i<=x:=by
   obtain⟨n,h⟩:=y7f h;exact(Tb h hi x rfl).1
  cases h with
  |alt_ok g=>
   refine⟨d,fun a f j m e c b=> ?_⟩;cases a with
   |nil=>
    cases e;rw[g.note]at b;cases b;exact⟨rfl,g⟩
   |cons p a=>
    cases e;have:=c k (by simp);rw[g.note]at this;cases this
  |alt_no g g'=>
   have o:=y7j hi g';refine⟨d,fun a f j m e c b=> ?_⟩;cases a with
   |nil=>
    cases e;rw[g.note]at b;cases b
   |cons p a=>
    cases e;exact o.2 a f j m rfl (fun p q=>c p (by simp[q])) b
theorem y7k(H:∀o∈ops,∀x∈o.2.2.2,0<=x)(I:∀(k:Int) (M:zA) (f:Int×Int×Int×Int) (z:Int) (l:List Int),ops[k.toNat]? =some (8,M,f,z::l)->l=[]){j:Jo}{i:Nat}{l:List (Int×Nat)}(h:Vz ops N j i l):∀x,i<=T.size->(∀q M f s,j=.wk q M f s->∃k:Int,ops[k.toNat]? =some (q,M,f,s))->Vcj ops ro T N j i x->Chn ro T N i l x:=by
 have t:∀{j:Jo} {i x:Nat},i<=T.size->Mn ops ro T N j i (some x)->i<=x/\x<=T.size:=fun d h=>by
  obtain⟨n,h⟩:=y7f h;exact Tb h d _ rfl
 induction h with
 | @nd k q M f s i l h1 h2 ih=>
   intro x d _ c;have c:Mn ops ro T N (.nd k) i (some x):=c;cases c with
   |nd g1 g2 g3=>
    rw[h1]at g1;cases g1;exact ih x d (fun R S U K e=>by cases e;exact⟨k,h1⟩) g3
 | @none q M f s i h5 h6 h7 h8 h9 h10=>
   intro x d _ c;exact(t d c).1
 | @ref M f r s i=>
   intro x d C c;have c:Mn ops ro T N (.wk 5 M f (r::s)) i (some x):=c;obtain⟨k,u⟩:=C _ _ _ _ rfl;have L:0<=r:=H _ (List.mem_of_getElem? u) r (by simp);cases c with
   |ref g1 g2=>exact⟨_,x,g1,L,g2.note,d,Nat.le_refl _,(t d g2).1,Nat.le_refl _⟩
 | @seq M f s i l h ih=>
   intro x d _ c;have c:Mn ops ro T N (.wk 6 M f s) i (some x):=c;cases c with
   |seq g=>exact ih x d (fun _ _ _ _ e=>by cases e) g
 | @cho q M f s i l u h ih=>
   intro x d C c;refine ih x d (fun _ _ _ _ e=>by cases e) ?_;obtain⟨k,O⟩:=C _ _ _ _ rfl;have c:Mn ops ro T N (.wk q M f s) i (some x):=c;have P:=t d c;rcases u with rfl|rfl
   ·cases c with
    |cho g=>exact y7j d g
   ·generalize v:(some x:Option Nat)=r at c
    cases c with
    | @opt _ _ z K _ e g=>
      cases I _ _ _ _ _ O;have v:=Option.some.inj v;refine⟨P.1,fun y V F D G A m=> ?_⟩;cases y with
      |nil=>
       cases G;rw[g.note]at m;cases m;have v:x=D:=v;subst v;exact⟨rfl,g⟩
      |cons p y=>cases y<;>cases G
 | @rep q M f k s i l u h ih=>
   intro x d _ c;refine ih x d (fun _ _ _ _ e=>by cases e) ?_;have c:Mn ops ro T N (.wk q M f (k::s)) i (some x):=c;rcases u with rfl|rfl
   ·cases c with
    |star g=>exact g
   ·cases c with
    |plus_ok g g' g''=>exact Mn.rep_go g g''
 |row_nil=>
  intro x d _ c;exact(t d c).1
 | @row_on k r i x0 a b m h1 h2 ih1 ih2=>
   intro x d _ c;have c:Mn ops ro T N (.row (k::r)) i (some x):=c;cases c with
   |row_ok g g'=>
    have e:=g.note;rw[m]at e;cases e;exact(ih1 _ d (fun _ _ _ _ e=>by cases e) g).app (ih2 _ (t d g).2 (fun _ _ _ _ e=>by cases e) g')
 |alt_nil=>intro x d _ c;exact c.1
 | @alt_ok k r i x0 l m h ih=>
   intro x d _ c;obtain⟨rfl,g⟩:=c.2 [] k r x0 rfl (fun p A=>by cases A) m;exact ih _ d (fun _ _ _ _ e=>by cases e) g
 | @alt_no k r i l m h ih=>
   intro x d _ c;refine ih x d (fun _ _ _ _ e=>by cases e) ⟨c.1,fun y z F D e A Q=>c.2 (k::y) z F D (by rw[e];rfl) (fun p E=> ?_) Q⟩;rcases List.mem_cons.1 E with rfl|E
   ·exact m
   ·exact A p E
 | @rep_end k i m=>
   intro x d _ c;exact(t d c).1
 | @rep_on k i x0 a b m hlt h1 h2 ih1 ih2=>
   intro x d _ c;have c:Mn ops ro T N (.rep k) i (some x):=c;cases c with
   |rep_end g=>
    have e:=g.note;rw[m]at e;cases e
   |rep_go g g'=>
    have e:=g.note;rw[m]at e;cases e;exact(ih1 _ d (fun _ _ _ _ e=>by cases e) g).app (ih2 _ (t d g).2 (fun _ _ _ _ e=>by cases e) g')
def rtF:List (Int×Int)->List Sp4->Bool
 |_,[]=>true
 |rm,s::ss=>decide (0<=s.1/\s.2.1<=s.2.2.1/\1<=s.2.2.2/\s.2.2.2<=(rm.length:Int))&&(match(rm.take s.2.2.2.toNat).getLast? with
  |some (lf,lt)=>decide (lf<=s.2.1/\s.2.2.1<=lt)&&rtF ((rm.take s.2.2.2.toNat).dropLast++[(s.2.2.1,lt)]++[(s.2.1,s.2.2.1)]) ss
  |none=>false)
def Sok(ro:List Int)(T:zA)(N:Nt)(s:Sp4):Prop:=∃(rr f z:Nat) (q:Int),s.1=(rr:Int)/\s.2.1=(f:Int)/\s.2.2.1=(z:Int)/\ro[rr]? =some q/\f<=T.size/\N q f=some (some z)
def Rms(ro:List Int)(T:zA)(N:Nt)(rm:List (Int×Int))(op:List (List (Int×Nat))):Prop:=∀d (hd:d<op.length),∃lo hi:Nat,rm[d]? =some ((lo:Int),(hi:Int))/\Chn ro T N lo op[d] hi
theorem y7u(O:∀o∈ops,∀x∈o.2.2.2,0<=x)(P:∀(k:Int) (M:zA) (Q:Int×Int×Int×Int) (R:Int) (l:List Int),ops[k.toNat]? =some (8,M,Q,R::l)->l=[])(S:Clo ops ro T N){n:List Sp4}{a:List (List (Int×Nat))}{b:Nat}{r:Option (List Sp4)}(h:TlR ops ro T N n a b r):∀(rm:List (Int×Int)) c,r=some c->Rms ro T N rm a->∃i,c=n++i/\rtF rm i=true/\∀s∈i,Sok ro T N s:=by
 induction h with
 |over h=>intro rm c e;cases e
 | @fin n b h=>intro rm c e _;cases e;exact⟨[],by simp,rfl,fun s p=>by cases p⟩
 | @pop n a b r h j ih=>
   intro rm c e t;refine ih rm c e fun d A=> ?_
   obtain⟨u,m,E,j⟩:=t d (by simp;omega);rw[List.getElem_append_left A]at j;exact⟨u,m,E,j⟩
 | @on n a b r rr kr f i l hr E j h3 h4 h5 h6 ih=>
   intro rm c e t;obtain⟨u,m,F,C⟩:=t a.length (by simp);rw[List.getElem_append_right L0q]at C;simp only[Nat.sub_self,List.getElem_cons_zero]at C;obtain⟨q,z,v,a2,D,U,a5,a6,G⟩:=C;have v:ro[((rr:Nat):Int).toNat]? =some q:=v;rw[Int.toNat_natCast,List.getElem?_eq_getElem hr,j]at v;cases v;have V:Mn ops ro T N (.nd (kr:Int)) f (some z):=S _ _ _ D;have W:=(y7k O P h5 z h4 (fun _ _ _ _ e=>by cases e) V).take (4097-b);have X:ndE (N kr f)=(z:Int):=by rw[D];rfl
   rw[X]at ih;have Y:a.length<rm.length:=(List.getElem?_eq_some_iff.1 F).1;have Z:rm[a.length]=((u:Int),(m:Int)):=(List.getElem?_eq_some_iff.1 F).2;have aa:rm.take (a.length+1)=rm.take a.length++[((u:Int),(m:Int))]:=by rw[List.take_succ_eq_append_getElem Y,Z]
   obtain⟨H,I,e2,e3⟩:=ih (rm.take a.length++[((z:Int),(m:Int))]++[((f:Int),(z:Int))]) c e (fun d A=>by
    have K:(rm.take a.length).length=a.length:=by rw[List.length_take];omega
    simp only[List.length_append,List.length_cons,List.length_nil]at A;rcases Nat.lt_or_ge d a.length with y|y
    ·obtain⟨ab,ac,b1,L⟩:=t d (by simp;omega)
     refine⟨ab,ac,?_,?_⟩
     ·rw[List.append_assoc,List.getElem?_append_left (by omega),List.getElem?_take_of_lt y];exact b1
     ·rw[List.getElem_append_left y]at L
      have e:(a++[i]++[l.take (4097-b)])[d]'(by simp;omega)=a[d]:=by
       rw[List.getElem_append_left (by simp;omega),List.getElem_append_left y]
      rw[e];exact L
    ·rcases(by omega:d=a.length∨d=a.length+1)with rfl|rfl
     ·refine⟨z,m,?_,?_⟩
      ·rw[List.append_assoc,List.getElem?_append_right (by omega),K];simp
      ·have e:(a++[i]++[l.take (4097-b)])[a.length]'(by simp)=i:=by
        rw[List.getElem_append_left (by simp),List.getElem_append_right L0q];simp
       rw[e];exact G
     ·refine⟨f,z,?_,?_⟩
      ·rw[List.getElem?_append_right (by simp;omega)];simp[K]
      ·have e:(a++[i]++[l.take (4097-b)])[a.length+1]'(by simp)=l.take (4097-b):=by
        rw[List.getElem_append_right (by simp)];simp
       rw[e];exact W)
   rw[List.append_assoc]at I;have ad:=G.le;refine⟨((rr:Int),(f:Int),(z:Int),(a.length:Int)+1)::H,I,?_,fun s p=> ?_⟩
   ·rw[rtF,Bool.and_eq_true,decide_eq_true_eq]
    refine⟨⟨by simp,by simp;omega,by simp;omega,by simp;omega⟩,?_⟩;have e:(((a.length:Int)+1).toNat)=a.length+1:=by omega
    show(match(rm.take ((a.length:Int)+1).toNat).getLast? with
     |some (lf,lt)=>decide (lf<=(f:Int)/\(z:Int)<=lt)&&rtF ((rm.take ((a.length:Int)+1).toNat).dropLast++[((z:Int),lt)]++[((f:Int),(z:Int))]) H
     |none=>false)=true
    rw[e,aa];simp only[List.getLast?_append,List.getLast?_singleton,Option.some_or,List.dropLast_concat];rw[e2,Bool.and_true,decide_eq_true_eq];exact⟨by omega,by omega⟩
   ·rcases List.mem_cons.1 p with rfl|p
    ·exact⟨rr,f,z,kr,rfl,rfl,rfl,by rw[List.getElem?_eq_getElem hr,j],U,D⟩
    ·exact e3 s p
end
end
open Go.RowKit Go.Shelf Go.Maps
theorem y7v{W b:World}{d f i:Addr}{v0 v1 v2:Value}{c:Option Nat}(h:W.cell? d=some v0/\W.cell? f=some v1/\W.cell? i=some v2)(j:W.grownBy b c)(k:some d.block≠c)(m:some f.block≠c)(n:some i.block≠c):b.cell? d=some v0/\b.cell? f=some v1/\b.cell? i=some v2:=
 have e:∀{a:Addr} {u:Value},some a.block≠c->W.cell? a=some u->b.cell? a=some u:=fun{a u} o h=>(j.cell_far a (World.block_lt_of_cell? W _ h) o).trans h
 ⟨e k h.1,e m h.2.1,e n h.2.2⟩
theorem y7w{t n cap:Nat}{so:Option Addr}{W:World}(h:zC W t 0 (.slice so n cap)):
  Calls prog 31 #[zP t 0] W fun e w'=>e=.returned (zI (n:Int))/\w'=W:=by
 have l:=World.block_lt_of_cell? W _ h;go_enter func31,ntmps31
 go_wp2_with fail
 refine bodyPost_ret (v:=zI (n:Int)) (by simp[results,Tryz.results31,go_sem]) rfl ?_;exact⟨rfl,rfl⟩
theorem y7x{t n cap:Nat}{so:Option Addr}{W:World}(h:zC W t 0 (.slice so n cap))(a:W.frozen? ⟨t,0,none⟩=false)(k:Nat)(b:k<=cap):
  Calls prog 32 #[zP t 0,zI (k:Int)] W fun e w'=>e=.returned (.tuple #[])/\w'=W.setCell ⟨t,0,none⟩ (.slice so k cap):=by
 have l:=World.block_lt_of_cell? W _ h;have c:(k:Int)<=(cap:Int):=by omega
 go_enter func32,ntmps32
 go_wp2_with fail
 (try simp only[Exit.inBlock,Exit.then])
 exact bodyPost_end (v:=.tuple #[]) (by simp[results,Tryz.results32,go_sem]) rfl ⟨rfl,rfl⟩
theorem y7y{t n cap g:Nat}{W:World}(h:zC W t 0 (zS g (n+1) cap))(c:n<=1048576):
  Calls prog 33 #[zP t 0] W fun e w'=>e=.returned (zP g (2*n))/\zB W w':=by
 have l:=World.block_lt_of_cell? W _ h;have d:IntKind.i64.wrap (((n+1:Nat):Int)-1)=(n:Int):=by rw[IntKind.wrap_i64];omega
 have f:IntKind.i64.wrap ((n:Int)+1-1)=(n:Int):=by rw[IntKind.wrap_i64];omega
 have i:IntKind.i64.wrap (n:Int)=(n:Int):=by rw[IntKind.wrap_i64];omega
 have j:(n:Int)<((n+1:Nat):Int):=by omega
 have k:(n:Int)<(n:Int)+1:=by omega
 have b:Hid (zC W.drew t 0 (zS g (n+1) cap)):=h;go_enter func33,ntmps33
 go_wp2_with fail
 refine Qc 99 (fun X:World=>zC X t 0 (zS g (n+1) cap)) (by kernel_rfl) b.out (fun a=> ?_);refine Qz 0 a ?_;refine Qz 1 a ?_;refine Qz 2 a ?_;refine Qz 3 a ?_;refine Qz 4 a ?_;refine Qz 5 a ?_;refine Qz 6 a ?_;refine Qz 7 a ?_;refine Qz 8 a ?_;refine Qz 9 a ?_;refine Qz 10 a ?_;refine Qz 11 a ?_;refine⟨by kernel_rfl,?_⟩;clear a
 go_wp2_with fail
 refine bodyPost_ret (v:=zP g (2*n)) (by simp[results,Tryz.results33,go_sem]) rfl ?_;exact⟨rfl,(Below.refl _ W).drew⟩
theorem Tryz.infoRoom:(Tryz.prog.info? 93).map (fun i=>(i.zero,i.size,i.bytes))=some (some (.agg #[zI 0,zI 0]),2,16):=by kernel_rfl
theorem y7l{t n base:Nat}{ov:Value}{xs:List Value}{W:World}(h:zC W t 0 ov)(E:W.frozen? ⟨t,0,none⟩=false)(s:W.ownsRow base 93 2 ov n xs)(hn:n<=1048576)(V:base<=W.heap.size)(F:ov.ownBlock≠some t)(a b:Int):
  Calls prog 30 #[zP t 0,.agg #[zI a,zI b]] W fun e w'=>e=.returned (.tuple #[])/\∃f k v G,zB W f/\f.grownBy k ov.ownBlock/\k.ownsRow base 93 2 (zS v (n+1) G) (n+1) (xs++[zI a,zI b])/\(ov.ownBlock=some v∨f.heap.size<=v)/\w'=k.setCell ⟨t,0,none⟩ (zS v (n+1) G):=by
 obtain⟨Y,Z,aa,ab,ac⟩:=info_parts Tryz.infoRoom;obtain⟨m,o,rfl⟩:=Yd s;have l:t<W.heap.size:=World.block_lt_of_cell? W _ h;obtain⟨c,x⟩:∃c,c=(W.alloc (.cells #[zI a,zI b] 93)).drew:=⟨_,rfl⟩;have y:zB W c:=by rw[x];exact((Below.refl _ W).alloc L0q _).drew
 have H:c.heap[W.heap.size]? =some (.cells #[zI a,zI b] 93):=by rw[x];exact Qx W _ rfl
 obtain⟨f,r⟩:∃f,f=c.alloc (.cells #[zI a,zI b] 93):=⟨_,rfl⟩;have A:zB c f:=by rw[r];exact(Below.refl _ c).alloc L0q _
 have q:zB W f:=y.trans (A.mono y.size);have I:f.heap[c.heap.size]? =some (.cells #[zI a,zI b] 93):=by rw[r];exact Qx c _ rfl
 have ad:Hid (∀j u,([zI a,zI b]:List Value)[j]? =some u->f.cell? ((⟨c.heap.size,0,none⟩:Addr).add j)=some u):=World.news_of_block I;have ae:=hid (Xf s q);have af:Hid (base<=f.heap.size):=Nat.le_trans V q.size;have ag:n+1<=maxLen:=by unfold maxLen;omega
 have ah:(n+1)*16<=140737488355328:=by omega
 have ai:some t≠(Value.slice m n o).ownBlock:=fun e=>F e.symm
 have L:some W.heap.size≠(Value.slice m n o).ownBlock:=fun e=>by have:=(s.lt _ e.symm).2;omega
 have M:Hid (∀k:World,f.grownBy k (Value.slice m n o).ownBlock->zC k t 0 (.slice m n o)/\k.frozen? ⟨t,0,none⟩=false/\t<k.heap.size):=fun k O=>by
  have e:k.heap[t]? =W.heap[t]? :=(O.block t (by have:=q.size;omega) (fun e=>F e.symm)).trans (q.block t l);exact⟨(Vl e).trans h,(by unfold World.frozen? at E ⊢;rw[e];exact E),by have:=O.size;have:=q.size;omega⟩
 have P:Hid (zC c t 0 (.slice m n o)/\zC c W.heap.size 0 (zI a)/\zC c W.heap.size 1 (zI b)):=⟨(y.cell (p:=⟨t,0,none⟩) l).trans h,z6y H⟩;have aj:=hid q;have ak:=hid A;have C:=hid x;have al:=hid r;have Q:Hid (f.heap.size=c.heap.size+1):=by rw[r];show _=_;simp
 clear s r q I x y H A;go_enter func30,ntmps30
 go_wp2_with fail
 refine Qc 10 (fun X:World=>zC X t 0 (.slice m n o)/\zC X W.heap.size 0 (zI a)/\zC X W.heap.size 1 (zI b)) (by kernel_rfl) (by rw[<-C.out];exact P.out) (fun d=> ?_);rw[<-C.out]at d ⊢;clear P C;refine Qz 0 d ?_;refine Qz 1 d ?_;refine Qz 2 d ?_;refine Qz 3 d ?_;refine Qz 4 d ?_;refine Qz 5 d ?_
 (refine Qv 6 (fun K i=> ?_);go_simp;rw[<-al.out];replace d:=Dy d ak.out;refine i.out _ _ d ?_;clear i K)
 (try simp only[Act.put,zY])
 (refine Qv 7 (fun K i=> ?_);refine step_append_lies _ rfl (.tmp 8) (.tmp 10) 88 rfl base 93 Y (.agg #[zI 0,zI 0]) 2 16 Tryz.underlying88 Z aa ab ac rfl (by decide) (.slice m n o) n xs (by rfl) ae.out ⟨c.heap.size,0,none⟩ 1 1 [zI a,zI b] (by rfl) rfl ad.out (by simp[Value.oneCell']) (by decide) ag ah af.out (c.heap.size+1) Q.out ?_;intro g9 am R S z U ao;replace d:=y7v d z ai L L;obtain⟨d0,d1,d2⟩:=M.out R z;have D:=hid (And.intro S (And.intro z U));clear S z U M;refine i.out _ _ d ?_;clear i K)
 (try simp only[Act.put,zY])
 (refine Qv 8 (fun K i=> ?_);go_simp;refine i.out _ _ d ?_;clear i K)
 (try simp only[Act.put,zY])
 refine Qz 9 d ?_;refine Yj (fun K i=> ?_);clear d
 go_simp
 refine i.out _ _ ?_;clear i K;refine⟨by kernel_rfl,?_⟩;refine⟨.tuple #[],by simp[results,Tryz.results30,go_sem],rfl,f,R,g9,am,aj.out,D.out.2.1,D.out.1,?_,rfl⟩;rcases D.out.2.2 with e|e
 ·exact .inl e
 ·exact .inr (by have:=Q.out;omega)
end Go.Proofs.YtmelafeingcgnaaGreatDoor
