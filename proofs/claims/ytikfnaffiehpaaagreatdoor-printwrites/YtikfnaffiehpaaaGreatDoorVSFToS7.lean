/- Lemmas for the last text. Conditions: those that each names. -/
import Derived.Test.YtikfnaffiehpaaaGreatDoorVP4ToP5
import Derived.Test.YtikfnaffiehpaaaGreatDoorVEAs2ToX16
import Derived.Test.YtikfnaffiehpaaaGreatDoorVY14ToZ8
import Derived.Test.YtikfnaffiehpaaaGreatDoorVS3ToXK1
set_option linter.unusedVariables false
set_option maxRecDepth 100000
set_option maxHeartbeats 8000000
namespace Go.Proofs.YtikfnaffiehpaaaGreatDoor
open Go.Proofs.Tryz
section
open Go.RowKit
def dz:List (Nat×ByteArray×Nat)->Int×Int->Int×Int
 |[],st=>st
 |p::r,st=>dz r (if p=sgc 40 then(st.1+1,max st.2 (st.1+1))else if p=sgc 41 then(st.1-1,st.2)else st)
theorem Dz:∀(A B:List (Nat×ByteArray×Nat)) (st:Int×Int),dz (A++B) st=dz B (dz A st)
 |[],B,st=>rfl
 |p::r,B,st=>by rw[List.cons_append,dz,dz,Dz r B]
theorem Nj{p:Nat×ByteArray×Nat}(h1:p≠sgc 40)(h2:p≠sgc 41)(r:List (Nat×ByteArray×Nat))(st:Int×Int):dz (p::r) st=dz r st:=by rw[dz,if_neg h1,if_neg h2]
theorem Jv{x y:UInt8}(h:x≠y):sgc x≠sgc y:=fun e=>by
 unfold sgc at e;simp only[Prod.mk.injEq,ByteArray.mk.injEq,true_and,and_true]at e;have:=congrArg (fun a:Array UInt8=>a[0]?) e;simp at this;exact h this
theorem Dx{c:Nat×ByteArray×Nat}{x:UInt8}(h:(c.1 == 5)=false):c≠sgc x:=fun e=>by
 subst e;cases h
def DZ(n:Nd):Prop:=∀o m:Int,o<=m->dz (kN n) (o,m)=(o,max m (o+(dN n:Int)))
theorem z0k(over:Nat){n:Nd}(h:DZ n)(o m:Int)(hm:o<=m):dz (kP over n) (o,m)=(o,max m (o+(dP over n:Int))):=by
 unfold kP dP;split
 ·rw[dz,if_pos rfl,Dz,h _ _ (by show o+1<=max m (o+1);omega),dz,if_neg (Jv (by decide)),if_pos rfl,dz]
  simp only;refine Prod.ext ?_ ?_
  ·show o+1-1=o
   omega
  ·show max (max m (o+1)) (o+1+(dN n:Int))=max m (o+((dN n+1:Nat):Int))
   omega
 ·exact h o m hm
theorem Hq(over:Nat):∀(s:List Nd),(∀m∈s,DZ m)->∀o m:Int,o<=m->dz (kS over s) (o,m)=(o,max m (o+(dS over s:Int)))
 |[],_,o,m,hm=>by
  rw[Uc,dz,dS];congr 1;omega
 |n::r,hn,o,m,hm=>by
  rw[Um,Dz,z0k over (hn n (by simp)) o m hm,Hq over r (fun x hx=>hn x (by simp[hx])) _ _ (by omega),Vv];congr 1;omega
theorem z4j:∀(s:List Nd),(∀m∈s,DZ m)->∀o m:Int,o<=m->dz (kB s) (o,m)=(o,max m (o+(dS 7 s:Int)))
 |[],_,o,m,hm=>by
  rw[Ad,dz,dS];congr 1;omega
 |n::r,hn,o,m,hm=>by
  rw[Mz,Nj (Jv (by decide)) (Jv (by decide)),Dz,z0k 7 (hn n (by simp)) o m hm,z4j r (fun x hx=>hn x (by simp[hx])) _ _ (by omega),Vv];congr 1;omega
theorem y2f:∀(s:List Nd),(∀m∈s,DZ m)->∀o m:Int,o<=m->dz (kA s) (o,m)=(o,max m (o+(dS 7 s:Int)))
 |[],_,o,m,hm=>by
  rw[kA,dz,dS];congr 1;omega
 |n::r,hn,o,m,hm=>by
  rw[Il,Dz,z0k 7 (hn n (by simp)) o m hm,z4j r (fun x hx=>hn x (by simp[hx])) _ _ (by omega),Vv];congr 1;omega
theorem z4k:∀(N:Nat) (n:Nd),SizeOf.sizeOf n<N->Vk n->DZ n
 |0,n,h,_=>by omega
 |N+1,.mk kd T C s p,hN,hv=>by
  have hkd:=hv.kd;rw[Vk]at hv;obtain⟨hv1,hvs⟩:=hv;have ih:∀m∈s,DZ m:=fun m hm=>by
   have h3:=List.sizeOf_lt_of_mem hm;simp only[Nd.mk.sizeOf_spec]at hN;exact z4k N m (by omega) (hvs.mem m hm)
  intro o m hm;have hk1:1<=kd:=hkd.1;have hs0:kd<=5->s=[]:=fun h5=>by
   rcases hv1 with q|q|q|q|q|q|q
   ·exact q.2.2.2
   ·exact q.2.2
   ·exact q.2.2
   ·exact q.2.2.2
   ·exact q.2.2
   ·omega
   ·omega
  rw[kN,dN];by_cases h1:kd=1
  ·rw[if_pos h1,if_pos h1,dz,if_pos rfl,dz,if_neg (Jv (by decide)),if_pos rfl,dz]
   simp only;refine Prod.ext ?_ ?_
   ·show o+1-1=o
    omega
   ·show max m (o+1)=max m (o+((1:Nat):Int))
    omega
  ·rw[if_neg h1,if_neg h1]
   have lf:∀(P:Nat×ByteArray×Nat),kd<=5->P≠sgc 40->P≠sgc 41->dz [P] (o,m)=(o,max m (o+(dS kd s:Int))):=fun P h5 a b=>by
    rw[hs0 h5,dS,Nj a b,dz];congr 1;omega
   by_cases h2:kd=2
   ·rw[if_pos h2]
    exact lf _ (by omega) (Dx rfl) (Dx rfl)
   ·rw[if_neg h2]
    by_cases h3:kd=3
    ·rw[if_pos h3]
     exact lf _ (by omega) (Dx rfl) (Dx rfl)
    ·rw[if_neg h3]
     by_cases h4:kd=4
     ·rw[if_pos h4]
      exact lf _ (by omega) (Jv (by decide)) (Jv (by decide))
     ·rw[if_neg h4]
      by_cases h5:kd=5
      ·rw[if_pos h5]
       exact lf _ (by omega) (Dx rfl) (Dx rfl)
      ·rw[if_neg h5]
       by_cases h6:kd=6
       ·rw[if_pos h6,h6]
        exact Hq 6 s ih o m hm
       ·rw[if_neg h6]
        by_cases h7:kd=7
        ·rw[if_pos h7,h7]
         exact y2f s ih o m hm
        ·rw[if_neg h7]
         by_cases h11:kd=11
         ·rw[if_pos h11,h11,Nj (Jv (by decide)) (Jv (by decide))]
          exact Hq 11 s ih o m hm
         ·rw[if_neg h11]
          by_cases h12:kd=12
          ·rw[if_pos h12,h12,Nj (Jv (by decide)) (Jv (by decide))]
           exact Hq 12 s ih o m hm
          ·rw[if_neg h12,Dz,Hq kd s ih o m hm]
           have hne:rpS kd≠40/\rpS kd≠41:=by
            unfold rpS;split
            ·decide
            ·split<;>decide
           rw[Nj (Jv hne.1) (Jv hne.2),dz]
theorem z4l:∀(rs:List Rl),(∀x∈rs,Vk x.2.1)->∀m:Int,0<=m->dz (kR rs) (0,m)=(0,max m (dR rs:Int))
 |[],_,m,hm=>by
  rw[kR,dz,dR];refine Prod.ext rfl ?_;show m=max m ((0:Nat):Int);omega
 |x::r,hx,m,hm=>by
  rw[kR,Nj (Dx rfl) (Dx rfl),Nj (Dx rfl) (Dx rfl),Dz,z4k _ x.2.1 (Nat.lt_succ_self _) (hx x (by simp)) 0 m hm,z4l r (fun y hy=>hx y (by simp[hy])) _ (by omega),dR];refine Prod.ext rfl ?_;show max (max m (0+(dN x.2.1:Int))) (dR r:Int)=max m ((max (dN x.2.1) (dR r):Nat):Int);omega
def sg2(L:List Tok)(k k':Nat):List (Nat×ByteArray×Nat):=(List.range' k (k'-k)).map fun i=>tk3 (gL L i)
theorem y2g(L:List Tok)(k:Nat):sg2 L k k=[]:=by unfold sg2;rw[Nat.sub_self];rfl
theorem z0l(L:List Tok)(k:Nat):sg2 L k (k+1)=[tk3 (gL L k)]:=by unfold sg2;rw[Nat.add_sub_cancel_left];rfl
theorem z0m(L:List Tok){a b c:Nat}(h1:a<=b)(h2:b<=c):sg2 L a c=sg2 L a b++sg2 L b c:=by
 unfold sg2;have e:List.range' a (c-a)=List.range' a (b-a)++List.range' b (c-b):=by
  have:=List.range'_append (s:=a) (m:=b-a) (n:=c-b) (step:=1);rw[Nat.one_mul,show a+(b-a)=b by omega,show b-a+(c-b)=c-a by omega]at this;exact this.symm
 rw[e,List.map_append]
def Bal(L:List Tok)(d k k':Nat):Prop:=k<=k'/\∀o m:Int,o<=m->(dz (sg2 L k k') (o,m)).1=o/\m<=(dz (sg2 L k k') (o,m)).2/\(dz (sg2 L k k') (o,m)).2<=max m (o+(d:Int))
section
variable {L:List Tok} {d:Nat}
theorem Bal.refl(k:Nat):Bal L d k k:=⟨Nat.le_refl _,fun o m h=>by
 rw[y2g,dz];exact⟨rfl,Int.le_refl _,by show m<=max m _;omega⟩⟩
theorem Bal.trans{a b c:Nat}(h1:Bal L d a b)(h2:Bal L d b c):Bal L d a c:=⟨Nat.le_trans h1.1 h2.1,fun o m h=>by
 rw[z0m L h1.1 h2.1,Dz];obtain⟨e1,e2,e3⟩:=h1.2 o m h;rcases hx:dz (sg2 L a b) (o,m)with⟨x,y⟩
 rw[hx]at e1 e2 e3;simp only at e1 e2 e3;subst e1;obtain⟨f1,f2,f3⟩:=h2.2 x y (by omega);exact⟨f1,by omega,by omega⟩⟩
theorem Bal.one{k:Nat}(h1:tk3 (gL L k)≠sgc 40)(h2:tk3 (gL L k)≠sgc 41):Bal L d k (k+1):=⟨Nat.le_succ _,fun o m h=>by
 rw[z0l,Nj h1 h2,dz];exact⟨rfl,Int.le_refl _,by show m<=max m _;omega⟩⟩
theorem z4m{t:Tok}{x:UInt8}(h:t.1≠5):tk3 t≠sgc x:=fun e=>h (Vm e).2.1
theorem z4n{t:Tok}{x y:UInt8}(h:sgT t={data:=#[x]})(hn:x≠y):tk3 t≠sgc y:=fun e=>by
 have:=(Vm e).1;rw[h]at this;have:=congrArg (fun a:ByteArray=>a.data[0]?) this;simp at this;exact hn this
theorem Bal.kind{k:Nat}(h:(gL L k).1≠5):Bal L d k (k+1):=Bal.one (z4m h) (z4m h)
theorem Bal.sign{k:Nat}{x:UInt8}(h:sgT (gL L k)={data:=#[x]})(h1:x≠40)(h2:x≠41):Bal L d k (k+1):=Bal.one (z4n h h1) (z4n h h2)
theorem z4o{t:Tok}{x:UInt8}(h:sgT t={data:=#[x]}):t.2.1={data:=#[x]}:=by
 have h5:=Xv h;unfold sgT at h;rw[if_pos h5]at h;exact h
theorem Bal.wrap{k j:Nat}(hc:∀i,(gL L i).1=5->(gL L i).2.2.1=0)(h1:sgT (gL L k)={data:=#[40]})(h:Bal L d (k+1) j)(h2:sgT (gL L j)={data:=#[41]}):Bal L (d+1) k (j+1):=by
 have e1:tk3 (gL L k)=sgc 40:=by
  unfold tk3 sgc;rw[Xv h1,z4o h1,hc k (Xv h1)]
 have e2:tk3 (gL L j)=sgc 41:=by
  unfold tk3 sgc;rw[Xv h2,z4o h2,hc j (Xv h2)]
 refine⟨by have:=h.1;omega,fun o m hm=> ?_⟩;rw[z0m L (show k<=k+1 by omega) (by have:=h.1;omega),z0m L h.1 (show j<=j+1 by omega),z0l,z0l,e1,e2,Dz,dz,if_pos rfl,dz,Dz];obtain⟨f1,f2,f3⟩:=h.2 (o+1) (max m (o+1)) (by omega);show(dz [sgc 41] (dz (sg2 L (k+1) j) (o+1,max m (o+1)))).1=o/\m<=(dz [sgc 41] (dz (sg2 L (k+1) j) (o+1,max m (o+1)))).2/\(dz [sgc 41] (dz (sg2 L (k+1) j) (o+1,max m (o+1)))).2<=max m (o+((d+1:Nat):Int));rcases hx:dz (sg2 L (k+1) j) (o+1,max m (o+1))with⟨x,y⟩
 rw[hx]at f1 f2 f3;simp only at f1 f2 f3;rw[dz,if_neg (Jv (by decide)),if_pos rfl,dz];simp only;refine⟨by omega,by omega,by omega⟩
variable {inn:Nat->Pr}
theorem y2h(hi:∀k n k',sgT (gL L k)={data:=#[40]}->inn k=.inr (n,k')->Bal L d k k'){k k':Nat}{n:Nd}(h:Zj L inn k=.inr (n,k')):Bal L d k k':=by
 unfold Zj at h;split at h
 ·rename_i hc
  simp only[Sum.inr.injEq,Prod.mk.injEq]at h;obtain⟨_,rfl⟩:=h;exact Bal.kind (by omega)
 ·split at h
  ·simp only[Sum.inr.injEq,Prod.mk.injEq]at h
   obtain⟨_,rfl⟩:=h;exact Bal.kind (by omega)
  ·split at h
   ·simp only[Sum.inr.injEq,Prod.mk.injEq]at h
    obtain⟨_,rfl⟩:=h;exact Bal.kind (by omega)
   ·split at h
    ·rename_i hs
     simp only[Sum.inr.injEq,Prod.mk.injEq]at h;obtain⟨_,rfl⟩:=h;exact Bal.sign hs (by decide) (by decide)
    ·split at h
     ·rename_i hs
      exact hi k n k' hs h
     ·cases h
theorem y2i{T:ByteArray}(h:rpK T≠0):∃x,T={data:=#[x]}/\x≠40/\x≠41:=by
 unfold rpK at h;split at h
 ·rename_i hs;exact⟨_,hs,by decide,by decide⟩
 ·split at h
  ·rename_i hs;exact⟨_,hs,by decide,by decide⟩
  ·split at h
   ·rename_i hs;exact⟨_,hs,by decide,by decide⟩
   ·exact absurd rfl h
theorem z0n(hi:∀k n k',sgT (gL L k)={data:=#[40]}->inn k=.inr (n,k')->Bal L d k k'){k k':Nat}{n:Nd}(h:Vh L inn k=.inr (n,k')):Bal L d k k':=by
 unfold Vh at h;cases hr:Zj L inn k with
 |inl e=>rw[hr]at h;cases h
 |inr q=>
  obtain⟨m,j⟩:=q;rw[hr]at h;have h1:=y2h hi hr;unfold Xq at h;simp only at h;split at h
  ·simp only[Sum.inr.injEq,Prod.mk.injEq]at h
   obtain⟨_,rfl⟩:=h;exact h1
  ·rename_i hs
   simp only[Sum.inr.injEq,Prod.mk.injEq]at h;obtain⟨_,rfl⟩:=h;obtain⟨x,e,a,b⟩:=y2i hs;exact h1.trans (Bal.sign e a b)
theorem y2j(hi:∀k n k',sgT (gL L k)={data:=#[40]}->inn k=.inr (n,k')->Bal L d k k'){k k':Nat}{n:Nd}(h:Zh L inn k=.inr (n,k')):Bal L d k k':=by
 unfold Zh at h;split at h
 ·rename_i hs
  obtain⟨m,hm⟩:=Iw h;exact(Bal.sign hs (by decide) (by decide)).trans (z0n hi hm)
 ·split at h
  ·rename_i hs
   obtain⟨m,hm⟩:=Iw h;exact(Bal.sign hs (by decide) (by decide)).trans (z0n hi hm)
  ·exact z0n hi h
theorem z0o(hi:∀k n k',sgT (gL L k)={data:=#[40]}->inn k=.inr (n,k')->Bal L d k k'):∀(f k:Nat) (acc:List Nd) (n:Nd) (k':Nat),Qb L inn f k acc=.inr (n,k')->Bal L d k k'
 |0,_,_,_,_,h=>by rw[Qb]at h;cases h
 |f+1,k,acc,n,k',h=>by
  rw[Qb]at h;split at h
  ·split at h
   ·cases h
   ·rename_i m j hp
    exact(y2j hi hp).trans (z0o hi f j (acc++[m]) n k' h)
  ·split at h
   ·simp only[Sum.inr.injEq,Prod.mk.injEq]at h
    obtain⟨_,rfl⟩:=h;exact Bal.refl _
   ·simp only[Sum.inr.injEq,Prod.mk.injEq]at h
    obtain⟨_,rfl⟩:=h;exact Bal.refl _
theorem z4p(hi:∀k n k',sgT (gL L k)={data:=#[40]}->inn k=.inr (n,k')->Bal L d k k'):∀(f k:Nat) (acc:List Nd) (n:Nd) (k':Nat),Zw L inn f k acc=.inr (n,k')->Bal L d k k'
 |0,_,_,_,_,h=>by rw[Zw]at h;cases h
 |f+1,k,acc,n,k',h=>by
  rw[Zw]at h;split at h
  ·rename_i hs
   split at h
   ·cases h
   ·rename_i m j hp
    exact(Bal.sign hs (by decide) (by decide)).trans ((z0o hi _ _ _ _ _ hp).trans (z4p hi f j (acc++[m]) n k' h))
  ·simp only[Sum.inr.injEq,Prod.mk.injEq]at h
   obtain⟨_,rfl⟩:=h;exact Bal.refl _
theorem z4q(hi:∀k n k',sgT (gL L k)={data:=#[40]}->inn k=.inr (n,k')->Bal L d k k'){k k':Nat}{n:Nd}(h:chS L inn k=.inr (n,k')):Bal L d k k':=by
 unfold chS at h;cases hr:Qb L inn L.length k []with
 |inl e=>rw[hr]at h;cases h
 |inr q=>
  obtain⟨m,j⟩:=q;rw[hr]at h;exact(z0o hi _ _ _ _ _ hr).trans (z4p hi _ _ _ _ _ h)
end
theorem z4r{L:List Tok}(hc:∀i,(gL L i).1=5->(gL L i).2.2.1=0):∀(d k:Nat) (n:Nd) (k':Nat),sgT (gL L k)={data:=#[40]}->Ql L d k=.inr (n,k')->Bal L d k k'
 |0,k,n,k',_,h=>by rw[Ql]at h;cases h
 |d+1,k,n,k',hs,h=>by
  rw[Ql]at h;obtain⟨j,h1,h2,rfl⟩:=Iy h;exact Bal.wrap hc hs (z4q (z4r hc d) h1) h2
theorem z4s{L:List Tok}(hc:∀i,(gL L i).1=5->(gL L i).2.2.1=0){ru k k':Nat}{x:Rl}(h:ruS L ru k=.inr (x,k')):Bal L 24 k k':=by
 unfold ruS at h;split at h
 ·cases h
 ·rename_i h1
  split at h
  ·cases h
  ·split at h
   ·cases h
   ·rename_i h2
    cases hr:chS L (Ql L 24) (k+2)with
    |inl e=>rw[hr]at h;cases h
    |inr q=>
     obtain⟨m,j⟩:=q;rw[hr]at h;unfold ruE at h;simp only[Sum.inr.injEq,Prod.mk.injEq]at h;obtain⟨_,rfl⟩:=h;have b1:Bal L 24 k (k+1):=Bal.kind (by omega);have b2:Bal L 24 (k+1) (k+2):=Bal.kind (by omega);exact b1.trans (b2.trans (z4q (z4r hc 24) hr))
theorem z4t{L:List Tok}(hg:Qv L)(hc:∀i,(gL L i).1=5->(gL L i).2.2.1=0):∀(f k:Nat) (acc rs:List Rl),k<L.length->Zy L f k acc=.inr rs->∃k',k'<L.length/\(gL L k').1=6/\Bal L 24 k k'
 |0,_,_,_,_,h=>by rw[Zy]at h;cases h
 |f+1,k,acc,rs,hk,h=>by
  rw[Zy]at h;split at h
  ·rename_i h6
   exact⟨k,hk,h6,Bal.refl _⟩
  ·split at h
   ·cases h
   ·rename_i x j hr
    have h1:=Nl hg hk hr;obtain⟨k',a,b,c⟩:=z4t hg hc f j (acc++[x]) rs h1.2 h;exact⟨k',a,b,(z4s hc hr).trans c⟩
theorem y2k{L:List Tok}(hg:Qv L)(hc:∀i,(gL L i).1=5->(gL L i).2.2.1=0)(h0:0<L.length){rs:List Rl}(h:Zf L=.inr rs):∃k',k'<L.length/\(gL L k').1=6/\Bal L 24 0 k':=by
 unfold Zf at h;cases hr:ruS L 0 0 with
 |inl e=>rw[hr]at h;cases h
 |inr q=>
  obtain⟨x,j⟩:=q;rw[hr]at h;have h1:=Nl hg h0 hr;obtain⟨k',a,b,c⟩:=z4t hg hc _ j [x] rs h1.2 h;exact⟨k',a,b,(z4s hc hr).trans c⟩
section
variable {Nm:ByteArray->Prop} {QT:ByteArray->ByteArray} {CT:Nat->ByteArray}
mutual
theorem Mm:∀(n:Nd) (c:Nat×ByteArray×Nat),c∈kN n->c.1≠6/\(c.1=5->c.2.2=0)
 | .mk kd T C s p,c,h=>by
   have hs:∀over,c∈kS over s->c.1≠6/\(c.1=5->c.2.2=0):=fun over h=>z4u over s c h
   have ha:c∈kA s->c.1≠6/\(c.1=5->c.2.2=0):=fun h=>y2l s c h
   have hz:∀x,c=sgc x->c.1≠6/\(c.1=5->c.2.2=0):=fun x e=>by subst e;exact⟨(fun h=>by cases h),fun _=>rfl⟩
   rw[kN]at h;split at h
   ·rcases List.mem_cons.1 h with h|h
    ·exact hz _ h
    ·exact hz _ (by simpa using h)
   ·split at h
    ·obtain rfl:c=(3,T,C):=by simpa using h
     exact⟨(fun h=>by cases h),fun h=>by cases h⟩
    ·split at h
     ·obtain rfl:c=(4,T,C):=by simpa using h
      exact⟨(fun h=>by cases h),fun h=>by cases h⟩
     ·split at h
      ·exact hz _ (by simpa using h)
      ·split at h
       ·obtain rfl:c=(1,T,C):=by simpa using h
        exact⟨(fun h=>by cases h),fun h=>by cases h⟩
       ·split at h
        ·exact hs _ h
        ·split at h
         ·exact ha h
         ·split at h
          ·rcases List.mem_cons.1 h with h|h
           ·exact hz _ h
           ·exact hs _ h
          ·split at h
           ·rcases List.mem_cons.1 h with h|h
            ·exact hz _ h
            ·exact hs _ h
           ·rcases List.mem_append.1 h with h|h
            ·exact hs _ h
            ·exact hz _ (by simpa using h)
theorem z4u:∀(over:Nat) (s:List Nd) (c:Nat×ByteArray×Nat),c∈kS over s->c.1≠6/\(c.1=5->c.2.2=0)
 |over,[],c,h=>by rw[Uc]at h;simp at h
 |over,n::r,c,h=>by
  rw[kS]at h;rcases List.mem_append.1 h with h|h
  ·split at h
   ·rcases List.mem_cons.1 h with h|h
    ·subst h;exact⟨(fun h=>by cases h),fun _=>rfl⟩
    ·rcases List.mem_append.1 h with h|h
     ·exact Mm n c h
     ·obtain rfl:c=sgc 41:=by simpa using h
      exact⟨(fun h=>by cases h),fun _=>rfl⟩
   ·exact Mm n c h
  ·exact z4u over r c h
theorem y2l:∀(s:List Nd) (c:Nat×ByteArray×Nat),c∈kA s->c.1≠6/\(c.1=5->c.2.2=0)
 |[],c,h=>by rw[kA]at h;simp at h
 |n::r,c,h=>by
  rw[kA]at h;rcases List.mem_append.1 h with h|h
  ·split at h
   ·rcases List.mem_cons.1 h with h|h
    ·subst h;exact⟨(fun h=>by cases h),fun _=>rfl⟩
    ·rcases List.mem_append.1 h with h|h
     ·exact Mm n c h
     ·obtain rfl:c=sgc 41:=by simpa using h
      exact⟨(fun h=>by cases h),fun _=>rfl⟩
   ·exact Mm n c h
  ·exact z4v r c h
theorem z4v:∀(s:List Nd) (c:Nat×ByteArray×Nat),c∈kB s->c.1≠6/\(c.1=5->c.2.2=0)
 |[],c,h=>by rw[Ad]at h;simp at h
 |n::r,c,h=>by
  rw[kB]at h;rcases List.mem_cons.1 h with h|h
  ·subst h;exact⟨(fun h=>by cases h),fun _=>rfl⟩
  ·rcases List.mem_append.1 h with h|h
   ·split at h
    ·rcases List.mem_cons.1 h with h|h
     ·subst h;exact⟨(fun h=>by cases h),fun _=>rfl⟩
     ·rcases List.mem_append.1 h with h|h
      ·exact Mm n c h
      ·obtain rfl:c=sgc 41:=by simpa using h
       exact⟨(fun h=>by cases h),fun _=>rfl⟩
    ·exact Mm n c h
   ·exact z4v r c h
end
theorem z4w:∀(rs:List Rl) (c:Nat×ByteArray×Nat),c∈kR rs->c.1≠6/\(c.1=5->c.2.2=0)
 |[],c,h=>by rw[kR]at h;simp at h
 |x::r,c,h=>by
  rw[kR]at h;rcases List.mem_cons.1 h with h|h
  ·subst h;exact⟨(fun h=>by cases h),fun h=>by cases h⟩
  ·rcases List.mem_cons.1 h with h|h
   ·subst h;exact⟨(fun h=>by cases h),fun h=>by cases h⟩
   ·rcases List.mem_append.1 h with h|h
    ·exact Mm _ c h
    ·exact z4w r c h
theorem z4x(hP:Pcs Nm QT CT){rs:List Rl}(hx:∀x∈rs,Ruk Nm x)(h8:sz (pR QT CT rs)<=8192):∃ts:List Tok,ts.map tk3=kR rs/\tkS (cat (pR QT CT rs))=.inr (ts++[(6,{data:=#[]},0,(cat (pR QT CT rs)).size)]):=by
 obtain⟨X,hX⟩:∃X,X=cat (pR QT CT rs):=⟨_,rfl⟩;have hsz:X.size=sz (pR QT CT rs):=by rw[hX,My]
 have hpl:PlL X 0 (pR QT CT rs):=by
  have:=Wx (pR QT CT rs) {data:=#[]};have e:({data:=#[]}:ByteArray)++cat (pR QT CT rs)=X:=by
   rw[hX];apply Lg;intro j;rw[Ex,if_neg (by show ¬j<0;omega)];rfl
  rw[e]at this;exact this
 obtain⟨ts,e1,e2⟩:=Wj hP rs 0 hx hpl;rw[Nat.zero_add,<-hsz,Aj (Vw L0q),Ij L0q]at e2;simp only[Ul,List.append_nil]at e2;refine⟨ts,e1,?_⟩;rw[<-hX];unfold tkS;rw[e2];rfl
theorem y2m(hP:Pcs Nm QT CT){rs ms:List Rl}(hx:∀x∈rs,Ruk Nm x)(h8:sz (pR QT CT rs)<=8192)(h:Yw (cat (pR QT CT rs))=.inr ms):dR rs<=24:=by
 obtain⟨ts,e1,ht⟩:=z4x hP hx h8;have hgood:=Ip ht (by rw[My];exact h8);obtain⟨L,hL⟩:∃L,L=ts++[(6,{data:=#[]},0,(cat (pR QT CT rs)).size)]:=⟨_,rfl⟩;rw[<-hL]at ht hgood;unfold Yw at h;rw[ht]at h;have hg:Zf L=.inr ms:=h;have hgl:∀i (hi:i<ts.length),tk3 (gL L i)=(kR rs)[i]'(by rw[<-e1,List.length_map];exact hi):=fun i hi=>by
  rw[hL,Id hi];simp only[<-e1,List.getElem_map]
 have hend:gL L ts.length=(6,{data:=#[]},0,(cat (pR QT CT rs)).size):=by
  rw[hL,Im L0q,Nat.sub_self];rfl
 have hno:∀i,i<ts.length->(gL L i).1≠6/\((gL L i).1=5->(gL L i).2.2.1=0):=fun i hi=>by
  have h1:=z4w rs _ (List.getElem_mem (by rw[<-e1,List.length_map];exact hi));rw[<-hgl i hi]at h1;exact h1
 have hlen:L.length=ts.length+1:=by rw[hL];simp
 have hc:∀i,(gL L i).1=5->(gL L i).2.2.1=0:=fun i h5=>by
  rcases Nat.lt_trichotomy i ts.length with h1|h1|h1
  ·exact(hno i h1).2 h5
  ·subst h1;rw[hend]at h5;cases h5
  ·have e:gL L i=(6,{data:=#[]},0,0):=by
    unfold gL;rw[List.getElem?_eq_none (by omega)];rfl
   rw[e]at h5;cases h5
 obtain⟨k',a,b,c⟩:=y2k hgood.1 hc (by omega) hg;have hk:k'=ts.length:=by
  rcases Nat.lt_or_ge k' ts.length with h1|h1
  ·exact absurd b (hno k' h1).1
  ·omega
 subst hk;have hs:sg2 L 0 ts.length=kR rs:=by
  unfold sg2;apply List.ext_getElem
  ·rw[<-e1];simp
  ·intro i h1 h2
   have hi:i<ts.length:=by simpa using h1
   rw[List.getElem_map,List.getElem_range',<-hgl i hi];congr 2;omega
 have hd:=c.2 0 0 (Int.le_refl _);rw[hs,z4l rs (fun x hx'=>(hx x hx').2.1) 0 (Int.le_refl _)]at hd;have:=hd.2.2;simp only at this;omega
end
end
open Go.RowKit Go.Extern.Stop Go.Stop Go.Extern
theorem y2n(c:Int)(t:Addr)(old:Value)(w:World)(hg:w.cell? ⟨0,0,none⟩=some (.iface 120 (.agg #[.pointer (some ⟨3,34,none⟩)])))(ht0:w.cell? t=some old)(hf0:w.frozen? t=false):
  Calls prog 27 #[.iface 39 (.int .i64 c),.iface 63 (.pointer (some t))] w fun ev w'=>ev=.returned (.bool true)/\w'=((((w.alloc (.cells #[.pointer (some t)] 63)).alloc (.cells #[.pointer (some ⟨3,63,none⟩),.pointer (some ⟨w.heap.size,0,none⟩),.int .u64 150] 89)).alloc (.cells #[.pointer (some ⟨3,63,none⟩),.pointer (some ⟨w.heap.size,0,none⟩),.int .u64 150] 89)).alloc (.cells #[.int .i64 c] 39)).setCell t (.int .i64 c):=by
 have hVO:= @run_callFunc_extern prog 44 _ (fun args=>ReflectliteValue.unpack (args.getD 0 (.tuple #[]))) func44 (by kernel_rfl) (by kernel_rfl) (by kernel_rfl) (by kernel_rfl);have hTy:= @run_callFunc_extern prog 45 _ (ReflectliteValue.methodAny (ReflectliteValue.valueError "reflectlite.Value.Type" 0) (fun t _ _ _=>ReflectliteType.toType t)) func45 (by kernel_rfl) (by kernel_rfl) (by kernel_rfl) (by kernel_rfl);have hNi:= @run_callFunc_extern prog 46 _ (ReflectliteValue.method (ReflectliteValue.valueError "reflectlite.Value.IsNil" 0) ReflectliteValue.isNil) func46 (by kernel_rfl) (by kernel_rfl) (by kernel_rfl) (by kernel_rfl);have hKi:= @run_callFunc_extern prog 171 _ (ReflectliteType.abiMethod fun t=>do pure (.int .u8 (<-Rtype.kind t))) func171 (by kernel_rfl) (by kernel_rfl) (by kernel_rfl) (by kernel_rfl);have hEl:= @run_callFunc_extern prog 183 _ (ReflectliteType.method ReflectliteType.elem) func183 (by kernel_rfl) (by kernel_rfl) (by kernel_rfl) (by kernel_rfl);have hIm:= @run_callFunc_extern prog 184 _ (ReflectliteType.relation "Implements" ReflectliteType.implements_) func184 (by kernel_rfl) (by kernel_rfl) (by kernel_rfl) (by kernel_rfl);have hTO:= @run_callFunc_extern prog 68 _ ReflectliteType.typeOf func68 (by kernel_rfl) (by kernel_rfl) (by kernel_rfl) (by kernel_rfl);have hAs:= @run_callFunc_extern prog 181 _ (ReflectliteType.relation "AssignableTo" ReflectliteType.assignableTo) func181 (by kernel_rfl) (by kernel_rfl) (by kernel_rfl) (by kernel_rfl);have hVE:= @run_callFunc_extern prog 69 _ (ReflectliteValue.method (ReflectliteValue.valueError "reflectlite.Value.Elem" 0) ReflectliteValue.elem) func69 (by kernel_rfl) (by kernel_rfl) (by kernel_rfl) (by kernel_rfl);have hSe:= @run_callFunc_extern prog 70 _ ReflectliteValue.set func70 (by kernel_rfl) (by kernel_rfl) (by kernel_rfl) (by kernel_rfl);have tO:=Tryz.typeOfEE;have mA:=Tryz.methodAssignableTo;have aE:=Tryz.assignableEE;have vE:=Tryz.valueOfEE;have vP:=Tryz.valueOfPE;have tP:=Tryz.typePE;have mK:=Tryz.methodKind;have mE:=Tryz.methodElem;have mI:=Tryz.methodImplements;have kP:=Tryz.kindPE;have kE:=Tryz.kindEE;have eP:=Tryz.elemPE;have iE:=Tryz.implementsEE;have nP:=Tryz.isNilPE ⟨w.heap.size,0,none⟩ t ((w.alloc (.cells #[.pointer (some t)] 63)).alloc (.cells #[.pointer (some ⟨3,63,none⟩),.pointer (some ⟨w.heap.size,0,none⟩),.int .u64 150] 89)) (by simp);have hlt:0<w.heap.size:=by
  rcases Nat.lt_or_ge 0 w.heap.size with h1|h1
  ·exact h1
  ·simp[World.cell?,Array.getElem?_eq_none h1]at hg
 have hg2:((w.alloc (.cells #[.pointer (some t)] 63)).alloc (.cells #[.pointer (some ⟨3,63,none⟩),.pointer (some ⟨w.heap.size,0,none⟩),.int .u64 150] 89)).cell? ⟨0,0,none⟩=some (.iface 120 (.agg #[.pointer (some ⟨3,34,none⟩)])):=by
  rw[World.cell?_alloc_lt _ _ ⟨0,0,none⟩ (by simp<;>omega),World.cell?_alloc_lt _ _ ⟨0,0,none⟩ hlt];exact hg
 have htl:t.block<w.heap.size:=by
  rcases Nat.lt_or_ge t.block w.heap.size with h|h
  ·exact h
  ·simp[World.cell?,Array.getElem?_eq_none h]at ht0
 have el:=Tryz.elemVE ⟨w.heap.size,0,none⟩ t (((w.alloc (.cells #[.pointer (some t)] 63)).alloc (.cells #[.pointer (some ⟨3,63,none⟩),.pointer (some ⟨w.heap.size,0,none⟩),.int .u64 150] 89)).alloc (.cells #[.pointer (some ⟨3,63,none⟩),.pointer (some ⟨w.heap.size,0,none⟩),.int .u64 150] 89)) (by rw[World.cell?_alloc_lt _ _ ⟨w.heap.size,0,none⟩ (by simp<;>omega)];simp);have st:=Tryz.setEE t ⟨w.heap.size+1+1+1,0,none⟩ c old ((((w.alloc (.cells #[.pointer (some t)] 63)).alloc (.cells #[.pointer (some ⟨3,63,none⟩),.pointer (some ⟨w.heap.size,0,none⟩),.int .u64 150] 89)).alloc (.cells #[.pointer (some ⟨3,63,none⟩),.pointer (some ⟨w.heap.size,0,none⟩),.int .u64 150] 89)).alloc (.cells #[.int .i64 c] 39))
  (by rw[World.cell?_alloc_at _ _ _ _ (by simp)];rfl)
  (by rw[World.cell?_alloc_lt _ _ t (by simp<;>omega),World.cell?_alloc_lt _ _ t (by simp<;>omega),World.cell?_alloc_lt _ _ t (by simp<;>omega),World.cell?_alloc_lt _ _ t htl];exact ht0)
  (by rw[World.frozen?_alloc_old _ _ t (by simp<;>omega),World.frozen?_alloc_old _ _ t (by simp<;>omega),World.frozen?_alloc_old _ _ t (by simp<;>omega),World.frozen?_alloc_old _ _ t (Nat.ne_of_lt htl)];exact hf0)
 go_enter func27,ntmps27
 go_wp2
 refine wp_loop_rounds 1 ?_;rw[rounds_succ]
 go_wp2
 go_ret;exact⟨rfl,rfl⟩
theorem y2o(c:Int)(w:World)(h:Xb w):Calls prog 14 #[.iface 39 (.int .i64 c)] w fun e w'=>e=.returned (.int .i64 c)/\Below w.heap.size w w':=by
 have hlt:=h.lt;have hA:=y2n c ⟨w.heap.size,0,none⟩ (.int .i64 0) (w.alloc (.cells #[.int .i64 0] 39)) (by rw[World.cell?_alloc_lt _ _ ⟨0,0,none⟩ hlt];exact h) (by simp) (by simp);clear h;go_enter func14,ntmps14
 go_wp2_with fail
 refine hA.mono ?_;rintro e w1 ⟨rfl,hw⟩;have hc:w1.cell? ⟨w.heap.size,0,none⟩=some (.int .i64 c):=by
  rw[hw];exact World.cell?_setCell_same' _ _ _ (by rw[World.cell?_alloc_lt _ _ ⟨w.heap.size,0,none⟩ (by simp<;>omega),World.cell?_alloc_lt _ _ ⟨w.heap.size,0,none⟩ (by simp<;>omega),World.cell?_alloc_lt _ _ ⟨w.heap.size,0,none⟩ (by simp<;>omega),World.cell?_alloc_lt _ _ ⟨w.heap.size,0,none⟩ (by simp)];simp)
 have HB:Hid (Below w.heap.size w w1):=by
  show Below w.heap.size w w1;rw[hw];exact(((((B0q.alloc L0q _).alloc (by simp) _).alloc (by simp<;>omega) _).alloc (by simp<;>omega) _).alloc (by simp<;>omega) _).setCell L0q _
 clear hw hA
 go_wp2
 go_ret;exact⟨rfl,HB.out⟩
section
structure Ly (L1 L2:List Tok):Prop where
 len:L2.length=L1.length
 same:∀k,tk3 (gL L2 k)=tk3 (gL L1 k)
 big:L1.length<=10000
def Rq(r1 r2:Pr):Prop:=match r1,r2 with
 | .inr (n,k),.inr (n',k')=>k'=k/\Sm n n'
 | .inl c,.inl c'=>c'.1=c.1
 |_,_=>False
theorem Rq.cases{r1 r2:Pr}(h:Rq r1 r2):(∃n n' k,r1=.inr (n,k)/\r2=.inr (n',k)/\Sm n n')∨(∃c c',r1=.inl c/\r2=.inl c'/\c'.1=c.1):=by
 cases r1 with
 |inl c=>cases r2 with
  |inl c'=>exact .inr ⟨c,c',rfl,rfl,h⟩
  |inr q=>exact h.elim
 |inr p=>cases r2 with
  |inl c'=>exact h.elim
  |inr q=>
   obtain⟨n,k⟩:=p;obtain⟨n',k'⟩:=q;obtain⟨h1,h2⟩:=h;subst h1;exact .inl ⟨n,n',k',rfl,rfl,h2⟩
section
variable {L1 L2:List Tok}
theorem Ly.kd(h:Ly L1 L2)(k:Nat):(gL L2 k).1=(gL L1 k).1/\(gL L2 k).2.1=(gL L1 k).2.1/\(gL L2 k).2.2.1=(gL L1 k).2.2.1:=by
 have:=h.same k;unfold tk3 at this;simp only[Prod.mk.injEq]at this;exact this
theorem Ly.sg(h:Ly L1 L2)(k:Nat):sgT (gL L2 k)=sgT (gL L1 k):=z6V (h.same k)
theorem Ly.wr(h:Ly L1 L2)(k:Nat):wrC (gL L2 k)=wrC (gL L1 k):=by unfold wrC;rw[(h.kd k).1]
theorem Ly.hd(h:Ly L1 L2)(k:Nat):hdB L2 k=hdB L1 k:=by
 have hl:=h.len;rcases Nat.lt_or_ge (k+1) L1.length with h1|h1
 ·rw[Cb L1 k h1,Cb L2 k (by omega),(h.kd k).1,(h.kd (k+1)).1]
 ·unfold hdB
  rw[List.getElem?_eq_none (show L1.length<=k+1 by omega),List.getElem?_eq_none (show L2.length<=k+1 by omega)];cases L2[k]? <;>cases L1[k]? <;>rfl
theorem Ly.pt(h:Ly L1 L2)(k:Nat):ptB L2 k (gL L2 k)=ptB L1 k (gL L1 k):=by
 unfold ptB;rw[(h.kd k).1,(h.kd k).2.1,h.hd k]
theorem z0p(h:Ly L1 L2){i1 i2:Nat->Pr}(hi:∀k,Rq (i1 k) (i2 k))(k:Nat):Rq (Zj L1 i1 k) (Zj L2 i2 k):=by
 have q:=h.kd k;unfold Zj;simp only[q.1,q.2.1,q.2.2,h.hd k,h.sg k,h.wr k];split
 ·exact⟨rfl,Vy Vd (by simp)⟩
 ·split
  ·exact⟨rfl,Vy Vd (by simp)⟩
  ·split
   ·exact⟨rfl,Vy Vd (by simp)⟩
   ·split
    ·exact⟨rfl,Vy Vd (by simp)⟩
    ·split
     ·exact hi k
     ·exact(rfl:wrC (gL L1 k)=wrC (gL L1 k))
theorem z0q(h:Ly L1 L2){r1 r2:Pr}(hr:Rq r1 r2):Rq (Xq L1 r1) (Xq L2 r2):=by
 rcases hr.cases with⟨n,n',k,rfl,rfl,hs⟩|⟨c,c',rfl,rfl,hc⟩
 ·unfold Xq
  simp only[h.sg k];split
  ·exact⟨rfl,hs⟩
  ·exact⟨rfl,Vy (Ah hs) (by simp)⟩
 ·exact hc
theorem z4y{kd p p':Nat}{r1 r2:Pr}(hr:Rq r1 r2):Rq (ovS kd p r1) (ovS kd p' r2):=by
 rcases hr.cases with⟨n,n',k,rfl,rfl,hs⟩|⟨c,c',rfl,rfl,hc⟩
 ·exact⟨rfl,Vy (Ah hs) (by simp)⟩
 ·exact hc
theorem y2p(h:Ly L1 L2){i1 i2:Nat->Pr}(hi:∀k,Rq (i1 k) (i2 k))(k:Nat):Rq (Zh L1 i1 k) (Zh L2 i2 k):=by
 unfold Zh;simp only[h.sg k];split
 ·exact z4y (z0q h (z0p h hi (k+1)))
 ·split
  ·exact z4y (z0q h (z0p h hi (k+1)))
  ·exact z0q h (z0p h hi k)
theorem z0r(h:Ly L1 L2){i1 i2:Nat->Pr}(hi:∀k,Rq (i1 k) (i2 k)):∀(f k:Nat) (a1 a2:List Nd),SmL a1 a2->a1.length+f<=1000000->Rq (Qb L1 i1 f k a1) (Qb L2 i2 f k a2)
 |0,k,a1,a2,_,_=>by
  rw[Qb,Qb];exact(rfl:(0:Nat)=0)
 |f+1,k,a1,a2,ha,hl=>by
  have hp:=y2p h hi k;rw[Qb,Qb,h.pt k];split
  ·rcases hp.cases with⟨n,n',k',e1,e2,hs⟩|⟨c,c',e1,e2,hc⟩
   ·rw[e1,e2]
    exact z0r h hi f k' (a1++[n]) (a2++[n']) (Sb ha hs) (by simp;omega)
   ·rw[e1,e2]
    exact hc
  ·have hle:=ha.len
   have hem:a2.isEmpty=a1.isEmpty:=by
    cases a1 with
    |nil=>cases a2 with
     |nil=>rfl
     |cons _ _=>simp at hle
    |cons _ _=>cases a2 with
     |nil=>simp at hle
     |cons _ _=>rfl
   rw[hem];split
   ·exact⟨rfl,Vy Vd (by simp)⟩
   ·rename_i hne
    exact⟨rfl,z1L 6 ha (by omega) (fun he=>hne (by rw[he];rfl))⟩
theorem z4z(h:Ly L1 L2){i1 i2:Nat->Pr}(hi:∀k,Rq (i1 k) (i2 k)):∀(f k:Nat) (a1 a2:List Nd),SmL a1 a2->a1≠[]->a1.length+f<=1000000->Rq (Zw L1 i1 f k a1) (Zw L2 i2 f k a2)
 |0,k,a1,a2,_,_,_=>by
  rw[Zw,Zw];exact(rfl:(0:Nat)=0)
 |f+1,k,a1,a2,ha,hne,hl=>by
  have hbig:=h.big;have hp:=z0r h hi L1.length (k+1) [] [] Vd (by simp;omega);rw[Zw,Zw,h.len];simp only[h.sg k];split
  ·rcases hp.cases with⟨n,n',k',e1,e2,hs⟩|⟨c,c',e1,e2,hc⟩
   ·rw[e1,e2]
    exact z4z h hi f k' (a1++[n]) (a2++[n']) (Sb ha hs) (by simp) (by simp;omega)
   ·rw[e1,e2]
    exact hc
  ·exact⟨rfl,z1L 7 ha (by omega) hne⟩
theorem z4A(h:Ly L1 L2){i1 i2:Nat->Pr}(hi:∀k,Rq (i1 k) (i2 k))(k:Nat):Rq (chS L1 i1 k) (chS L2 i2 k):=by
 have hbig:=h.big;have hp:=z0r h hi L1.length k [] [] Vd (by simp;omega);unfold chS;rw[h.len];rcases hp.cases with⟨n,n',k',e1,e2,hs⟩|⟨c,c',e1,e2,hc⟩
 ·rw[e1,e2]
  unfold chE;simp only;rw[h.len];exact z4z h hi L1.length k' [n] [n'] (Ah hs) (by simp) (by simp;omega)
 ·rw[e1,e2]
  exact hc
theorem z4B(h:Ly L1 L2):∀(d k:Nat),Rq (Ql L1 d k) (Ql L2 d k)
 |0,k=>by
  rw[Ql,Ql];exact(rfl:(2:Nat)=2)
 |d+1,k=>by
  have hp:=z4A h (z4B h d) (k+1);rw[Ql,Ql];rcases hp.cases with⟨n,n',k',e1,e2,hs⟩|⟨c,c',e1,e2,hc⟩
  ·rw[e1,e2]
   unfold Jy;simp only[h.sg k',h.wr k'];split
   ·exact⟨rfl,hs⟩
   ·exact(rfl:wrC (gL L1 k')=wrC (gL L1 k'))
  ·rw[e1,e2]
   exact hc
def Ru(r1 r2:(Nat×Nat) ⊕ (Rl×Nat)):Prop:=(∃x y k,r1=.inr (x,k)/\r2=.inr (y,k)/\RlS x y)∨(∃c c',r1=.inl c/\r2=.inl c'/\c'.1=c.1)
theorem z4C(h:Ly L1 L2)(ru k:Nat):Ru (ruS L1 ru k) (ruS L2 ru k):=by
 have hp:=z4A h (z4B h 24) (k+2);unfold ruS;rw[(h.kd k).1,(h.kd (k+1)).1,h.wr k,h.wr (k+1)];split
 ·exact .inr ⟨_,_,rfl,rfl,rfl⟩
 ·split
  ·exact .inr ⟨_,_,rfl,rfl,rfl⟩
  ·split
   ·exact .inr ⟨_,_,rfl,rfl,rfl⟩
   ·rcases hp.cases with⟨n,n',k',e1,e2,hs⟩|⟨c,c',e1,e2,hc⟩
    ·rw[e1,e2]
     exact .inl ⟨_,_,_,rfl,rfl,(h.kd k).2.1,hs⟩
    ·rw[e1,e2]
     exact .inr ⟨_,_,rfl,rfl,hc⟩
def Rg(r1 r2:(Nat×Nat) ⊕ List Rl):Prop:=(∃x y,r1=.inr x/\r2=.inr y/\RlL x y)∨(∃c c',r1=.inl c/\r2=.inl c'/\c'.1=c.1)
theorem z4D(h:Ly L1 L2):∀(f k:Nat) (a1 a2:List Rl),RlL a1 a2->Rg (Zy L1 f k a1) (Zy L2 f k a2)
 |0,k,a1,a2,_=>by
  rw[Zy,Zy];exact .inr ⟨_,_,rfl,rfl,rfl⟩
 |f+1,k,a1,a2,ha=>by
  rw[Zy,Zy,(h.kd k).1,ha.len];split
  ·exact .inl ⟨_,_,rfl,rfl,ha⟩
  ·rcases z4C h a1.length k with⟨x,y,k',e1,e2,hs⟩|⟨c,c',e1,e2,hc⟩
   ·rw[e1,e2]
    exact z4D h f k' (a1++[x]) (a2++[y]) (ha.app (by rw[RlL];exact⟨hs,by rw[RlL];trivial⟩))
   ·rw[e1,e2]
    exact .inr ⟨_,_,rfl,rfl,hc⟩
theorem y2q(h:Ly L1 L2):Rg (Zf L1) (Zf L2):=by
 unfold Zf;rcases z4C h 0 0 with⟨x,y,k',e1,e2,hs⟩|⟨c,c',e1,e2,hc⟩
 ·rw[e1,e2]
  unfold z1H;simp only;rw[h.len];exact z4D h L1.length k' [x] [y] (by rw[RlL];exact⟨hs,by rw[RlL];trivial⟩)
 ·rw[e1,e2]
  exact .inr ⟨_,_,rfl,rfl,hc⟩
end
end
open Go.Shelf
theorem z4E{S:ByteArray}{rs:List Rl}(h:Yw S=.inr rs):∃m,tks S (sb S 0) []=.inr m/\(∀t∈m,Cg t)/\m.length<=S.size/\Zf (m++[(6,{data:=#[]},0,S.size)])=.inr rs:=by
 unfold Yw at h;cases ht:tkS S with
 |inl c=>rw[ht]at h;cases h
 |inr L=>
  rw[ht]at h;obtain⟨m,hm,rfl⟩:=z2d ht;have hgood:=Sg _ _ _ _ _ hm (fun t ht=>by simp at ht);refine⟨m,hm,hgood.1,?_,h⟩;have h2:=hgood.2;simp at h2;omega
theorem z4F(L:List Tok):∀(f k:Nat) (acc rs:List Rl),Zy L f k acc=.inr rs->acc.length<=64->rs.length<=64/\acc.length<=rs.length
 |0,_,_,_,h,_=>by rw[Zy]at h;cases h
 |f+1,k,acc,rs,h,ha=>by
  rw[Zy]at h;split at h
  ·simp only[Sum.inr.injEq]at h;subst h;exact⟨ha,Nat.le_refl _⟩
  ·split at h
   ·cases h
   ·rename_i x k' hr
    have:=Sf hr;have h2:=z4F L f k' (acc++[x]) rs h (by simp;omega);rw[List.length_append]at h2;exact⟨h2.1,by omega⟩
theorem y2r{S:ByteArray}{rs:List Rl}(h:Yw S=.inr rs):rs.length<=64/\1<=rs.length:=by
 obtain⟨m,_,_,_,hg⟩:=z4E h;unfold Zf at hg;cases hr:ruS (m++[(6,{data:=#[]},0,S.size)]) 0 0 with
 |inl c=>rw[hr]at hg;cases hg
 |inr q=>
  obtain⟨x,k⟩:=q;rw[hr]at hg;exact z4F _ _ _ _ _ hg (by simp)
theorem z0s:∀{s:List Rl},RlL s s->∀x∈s,Sm x.2.1 x.2.1
 |[],_,x,hx=>by simp at hx
 |a::r,h,x,hx=>by
  rw[RlL]at h;rcases List.mem_cons.1 hx with rfl|hx
  ·exact h.1.2
  ·exact z0s h.2 x hx
theorem z4G{S:ByteArray}{rs:List Rl}(hS:S.size<=8192)(h:Yw S=.inr rs):RlL rs rs:=by
 obtain⟨m,_,_,hl,hg⟩:=z4E h;rcases y2q (L1:=m++[(6,{data:=#[]},0,S.size)]) ⟨rfl,fun _=>rfl,by simp;omega⟩with⟨x,y,e1,e2,hs⟩|⟨c,c',e1,_,_⟩
 ·rw[hg]at e1 e2
  cases e1;cases e2;exact hs
 ·rw[hg]at e1
  cases e1
def toG(rs:List Rl):List Rr:=rs.map fun x=>(x.1,toR x.2.1,(x.2.2:Int))
theorem Ol:∀rs:List Rl,TqR (toG rs) rs
 |[]=>by unfold toG;rw[List.map_nil,TqR];trivial
 |x::r=>by
  have:=Ol r;unfold toG at this ⊢;rw[List.map_cons,TqR];exact⟨rfl,z3F _,this⟩
theorem z4H{W:World}{B g n cap:Nat}{rs:List Rl}(h:RoR B (.slice (some ⟨g,0,none⟩) n cap) rs W)(hs:∀x∈rs,Sm x.2.1 x.2.1)(h64:rs.length<=64):Xh W W.heap.size (some ⟨g,0,none⟩) n (toG rs):=by
 have hl:n=rs.length:=h.len;have hgl:(toG rs).length=rs.length:=by unfold toG;rw[List.length_map]
 refine⟨by omega,by unfold maxLen;omega,fun j hj=> ?_⟩;have hj':j<rs.length:=by omega
 obtain⟨c,⟨cs,rfl,hn⟩,h2⟩:=h.get j hj';have e:(toG rs)[j]=(rs[j].1,toR rs[j].2.1,(rs[j].2.2:Int)):=List.getElem_map _;have rt:=z3H _ _ (hs _ (List.getElem_mem hj')) hn;obtain⟨k,T,a,b,c,d,so,n1,cap1,p,rfl⟩:=rt.shape;refine⟨g,0,rfl,h.lt,?_⟩;rw[e,Nat.zero_add];exact⟨k,T,a,b,c,d,so,n1,cap1,p,rt,h2 0 _ rfl,h2 1 _ rfl,h2 2 _ rfl,h2 3 _ rfl,h2 4 _ rfl,h2 5 _ rfl,h2 6 _ rfl,h2 7 _ rfl,h2 8 _ rfl,h2 9 _ rfl⟩
theorem z0t:∀{rs:List Rr} {ns:List Rl},TqR rs ns->(∀x∈ns,Ruk Nmq x)->rs.all okR=true/\RgZ rs
 |[],[],_,_=>⟨rfl,fun x hx=>by simp at hx⟩
 |[],_::_,h,_=>by simp[TqR]at h
 |_::_,[],h,_=>by simp[TqR]at h
 |x::r,y::q,h,hx=>by
  rw[TqR]at h;obtain⟨h1,h2⟩:=z0t h.2.2 (fun z hz=>hx z (by simp[hz]));obtain⟨n1,n2,n3⟩:=hx y (by simp);obtain⟨o1,o2⟩:=Og _ _ h.2.1 n2 n3;have n1':nmS x.1=true:=by rw[<-h.1];exact n1
  refine⟨by rw[List.all_cons,h1];unfold okR;rw[n1',o1];rfl,fun z hz=> ?_⟩;rcases List.mem_cons.1 hz with rfl|hz
  ·exact⟨by have:=Eb n1';omega,o2⟩
  ·exact h2 z hz
theorem y2s{rs:List Rr}{ns:List Rl}(h:TqR rs ns)(hx:∀x∈ns,Ruk Nmq x)(h1:1<=ns.length)(h64:ns.length<=64):okG rs=true:=by
 unfold okG;rw[(z0t h hx).1,decide_eq_true (by have:=h.len;omega),decide_eq_true (p:=rs.length<=64) (by have:=h.len;omega)];rfl
theorem y2t{S:ByteArray}{rs:List Rl}(hS:S.size<=8192)(h:Yw S=.inr rs)(B g n cap:Nat)(W:World)(hr:RoR B (.slice (some ⟨g,0,none⟩) n cap) rs W)(hT:TabIs W):
  Calls prog 11 #[.agg #[.slice (some ⟨g,0,none⟩) n cap]] W fun e w'=>e=.returned (Dp rs)/\Below W.heap.size W w':=by
 have hx:∀x∈rs,Ruk Nmq x:=fun x hx=>(z8i h x hx).1
 have hl:=y2r h;exact Wl _ n cap (toG rs) rs W.heap.size W (z0t (Ol rs) hx).2 (z4H hr (z0s (z4G hS h)) hl.1) L0q (y2s (Ol rs) hx hl.2 hl.1) (Ol rs) hx hT
@[reducible] def smP:ByteArray:={data:=#[97,60,45,40,40,39,120,39,41,41,47,98,42,33,40,99,32,100,41]}
@[reducible] def smQ:ByteArray:={data:=#[97,32,60,45,32,39,120,39,32,47,32,98,42,32,33,40,99,32,100,41,10]}
def smB(x:Nat):Bool:=match Yw smP with
 | .inr rs=>decide (cat (pR qT cT rs)=smQ)&&(decide (sz (pR qT cT rs)<=8192)&&decide (dR rs<=24))
 | .inl _=>false
theorem y2u:∀x,x<1->smB x=true:=by decide+kernel
theorem y2v:∃rs,Yw smP=.inr rs/\Dp rs=.tuple #[.string smQ,.nilIface]:=by
 have h:=y2u 0 (by decide);unfold smB at h;cases hp:Yw smP with
 |inl c=>rw[hp]at h;cases h
 |inr rs=>
  rw[hp]at h;simp only[Bool.and_eq_true,decide_eq_true_eq]at h;exact⟨rs,rfl,by rw[Ov h.2.1 h.2.2,h.1]⟩
theorem y2w(w:World)(h:Xb w)(hT:TabIs w):Calls prog 8 #[] w fun e w'=>e=.returned (.bool true)/\Hid (Below w.heap.size w w'):=by
 obtain⟨rs,hp,ha⟩:=y2v;have HP:=hid (z6U smP w h (by decide));have HA:=hid (fun(g n cap:Nat) (W:World) (hr:RoR w.heap.size (.slice (some ⟨g,0,none⟩) n cap) rs W) (hb:Below w.heap.size w W)=>y2t (by decide) hp _ g n cap W hr (hT.below hb hT.lt));rw[ha]at HA;rw[hp]at HP;obtain⟨n,hn⟩:∃n,n=rs.length:=⟨_,rfl⟩;unfold Fp at HP;simp only at HP;rw[<-hn]at HP;clear h hT hp ha hn;go_enter func8,ntmps8
 go_wp2_with fail
 refine HP.out.mono ?_;rintro e w1 ⟨g,cap,rfl,HR,HB⟩;have HA1:=hid (fun o:Obj=>HA.out g n cap (w1.alloc o) (HR.out.below ((Below.refl _ w1).alloc L0q o)) (HB.out.alloc HB.out.size o));have HB1:=hid (fun o:Obj=>HB.out.alloc HB.out.size o);clear HP HA HR HB
 go_wp2_with fail
 refine(HA1.out _).mono ?_;rintro e w2 ⟨rfl,hb2⟩;have HB2:=hid ((HB1.out _).trans (hb2.mono (HB1.out _).size));clear HA1 HB1 hb2
 go_wp2_with fail
 go_ret;exact⟨rfl,HB2⟩
theorem z4I:∀{xs ys:List Rl},RlL xs ys->∀j (hj:j<xs.length) (hj':j<ys.length),ys[j].1=xs[j].1/\Sm xs[j].2.1 ys[j].2.1
 |[],[],_,j,hj,_=>by simp at hj
 |[],_::_,h,_,_,_=>by simp[RlL]at h
 |_::_,[],h,_,_,_=>by simp[RlL]at h
 |a::r,b::q,h,0,_,_=>by
  rw[RlL]at h;exact h.1
 |a::r,b::q,h,j+1,hj,hj'=>by
  rw[RlL]at h;exact z4I h.2 j (by simpa using hj) (by simpa using hj')
end Go.Proofs.YtikfnaffiehpaaaGreatDoor
