/- Lemmas for the last text. Conditions: those that each names. -/
import Derived.Test.YtlogolpcipiceaaGreatDoorVY14ToY16
import Derived.ChangeKeysEq
import Derived.Laws.StructEq
set_option linter.unusedVariables false
set_option maxRecDepth 100000
set_option maxHeartbeats 4000000
namespace Go.Proofs.YtlogolpcipiceaaGreatDoor
open Go.Proofs.Tryz
open Go.RowKit
def Nd.kd:Nd->Nat
 | .mk k _ _ _ _=>k
theorem Zf.get{w:World}{P:Nat->Prop}:∀(l:List Rl) (vs:List Value) (k:Nat) (hk:k<l.length),Zf w P l vs->∃c,Yx w P l[k] c/\∀j u,c[j]? =some u->vs[k*10+j]? =some u
 |[],vs,k,hk,_=>by simp at hk
 |x::r,vs,0,hk,h=>by
  rw[Zf]at h;obtain⟨c,rest,rfl,h1,h2⟩:=h;refine⟨c,h1,fun j u hj=> ?_⟩;have hl:j<c.length:=by
   rcases Nat.lt_or_ge j c.length with h|h
   ·exact h
   ·rw[List.getElem?_eq_none h]at hj;cases hj
  rw[show 0*10+j=j by omega,List.getElem?_append_left hl];exact hj
 |x::r,vs,k+1,hk,h=>by
  rw[Zf]at h;obtain⟨c,rest,rfl,h1,h2⟩:=h;have hc:=h1.len;obtain⟨d,h3,h4⟩:=Zf.get r rest k (by simp at hk;omega) h2;refine⟨d,h3,fun j u hj=> ?_⟩;rw[List.getElem?_append_right (by omega),show(k+1)*10+j-c.length=k*10+j by omega];exact h4 j u hj
theorem RoR.get{B g n cap:Nat}{rs:List Rl}{W:World}(h:RoR B (.slice (some ⟨g,0,none⟩) n cap) rs W)(k:Nat)(hk:k<rs.length):
  ∃c,Yx W (fun g=>B<=g) rs[k] c/\∀j u,c[j]? =some u->W.cell? ⟨g,k*10+j,none⟩=some u:=by
 obtain⟨xs,h1,h2⟩:=h;obtain⟨c,h3,h4⟩:=Zf.get rs xs k hk h2;have hc:=h3.len;have hn:n=rs.length:=by
  obtain⟨_,⟨hq,_⟩|⟨g',cap',cur,hq,_⟩⟩:=h1
  ·cases hq
  ·injection hq
 subst hn;refine⟨c,h3,fun j u hj=> ?_⟩;have hl:j<c.length:=by
  rcases Nat.lt_or_ge j c.length with h|h
  ·exact h
  ·rw[List.getElem?_eq_none h]at hj;cases hj
 rw[h1.cellAt _ (by omega)];exact h4 j u hj
theorem Tryz.cellsOf66:Tryz.prog.cellsOf 66=1:=by kernel_rfl
theorem Tryz.info66:(Tryz.prog.info? 66).map (fun i=>(i.zero,i.size,i.bytes))=some (some (.int .u64 0),1,8):=by kernel_rfl
theorem z1t(n:Nat)(w:World)(a b c d a' b' c' d':Int):
  (Op.equalIn (n+2) 68 (.agg #[.int .u64 a,.int .u64 b,.int .u64 c,.int .u64 d]) (.agg #[.int .u64 a',.int .u64 b',.int .u64 c',.int .u64 d'])).run prog w=.ok (a == a'&&(b == b'&&(c == c'&&d == d'))) w:=by
 obtain⟨i,hi⟩:∃i,Tryz.prog.info? 66=some i:=by
  cases h:Tryz.prog.info? 66 with
  |none=>have:=Tryz.info66;rw[h]at this;cases this
  |some i=>exact⟨i,rfl⟩
 have hu:Tryz.prog.underlying 68=some (.array 4 66):=by kernel_rfl
 rw[run_equalIn_array w (n+1) _ _ hu hi,Tryz.cellsOf66];have p:∀(x y z t:Value) (w:World),(part 66 #[x,y,z,t] 0).run prog w=.ok x w:=fun _ _ _ _ _=>by kernel_rfl
 have p1:∀(x y z t:Value) (w:World),(part 66 #[x,y,z,t] 1).run prog w=.ok y w:=fun _ _ _ _ _=>by kernel_rfl
 have p2:∀(x y z t:Value) (w:World),(part 66 #[x,y,z,t] 2).run prog w=.ok z w:=fun _ _ _ _ _=>by kernel_rfl
 have p3:∀(x y z t:Value) (w:World),(part 66 #[x,y,z,t] 3).run prog w=.ok t w:=fun _ _ _ _ _=>by kernel_rfl
 have e:∀(x y:Int) (w:World),(Op.equalIn (n+1) 66 (.int .u64 x) (.int .u64 y)).run prog w=.ok (x == y) w:=fun x y w=>run_equalIn_int w n 66 .u64 .u64 x y Tryz.underlying66
 rw[show List.range 4=[0,1,2,3]from rfl];simp only[Op.eqItems,Sem.run_bind,Nat.mul_one,p,e,Result.andThen_ok];cases h1:a == a'<;>cases h2:b == b'<;>cases h3:c == c'<;>cases h4:d == d'<;>simp[Result.andThen,p1,p2,p3,e,h2,h3,h4,-beq_iff_eq,-beq_eq_false_iff_ne]
mutual
def Sm:Nd->Nd->Prop
 | .mk kd T C s _,.mk kd' T' C' s' _=>kd'=kd/\T'=T/\C'=C/\SmL s s'/\s.length<=1000000
def SmL:List Nd->List Nd->Prop
 |[],[]=>True
 |a::r,b::q=>Sm a b/\SmL r q
 |_,_=>False
end
theorem SmL.len:∀{s t:List Nd},SmL s t->t.length=s.length
 |[],[],_=>rfl
 |[],_::_,h=>by simp[SmL]at h
 |_::_,[],h=>by simp[SmL]at h
 |a::r,b::q,h=>by
  rw[SmL]at h;simp[SmL.len h.2]
def Cn(w:World)(g o:Nat)(kd:Nat)(T:ByteArray)(C:Nat)(sv:Value)(p:Nat):Prop:=w.cell? ⟨g,o,none⟩=some (.int .i64 kd)/\w.cell? ⟨g,o+1,none⟩=some (.string T)/\w.cell? ⟨g,o+2,none⟩=some (.int .u64 (wd C 0))/\w.cell? ⟨g,o+3,none⟩=some (.int .u64 (wd C 1))/\w.cell? ⟨g,o+4,none⟩=some (.int .u64 (wd C 2))/\w.cell? ⟨g,o+5,none⟩=some (.int .u64 (wd C 3))/\w.cell? ⟨g,o+6,none⟩=some sv/\w.cell? ⟨g,o+7,none⟩=some (.int .i64 p)
theorem Cn.below{w W:World}{B g o kd C p:Nat}{T:ByteArray}{sv:Value}(h:Cn w g o kd T C sv p)(hb:Below B w W)(hg:g<B):Cn W g o kd T C sv p:=by
 obtain⟨h0,h1,h2,h3,h4,h5,h6,h7⟩:=h;have e:∀j,W.cell? ⟨g,j,none⟩=w.cell? ⟨g,j,none⟩:=fun j=>hb.cell (p:=⟨g,j,none⟩) hg
 exact⟨(e _).trans h0,(e _).trans h1,(e _).trans h2,(e _).trans h3,(e _).trans h4,(e _).trans h5,(e _).trans h6,(e _).trans h7⟩
def SN(w:World)(g n cap g' cap':Nat)(W:World):Prop:=Below w.heap.size w W/\W.cell? ⟨w.heap.size,6,none⟩=some (.slice (some ⟨g,0,none⟩) n cap)/\W.cell? ⟨w.heap.size+1,6,none⟩=some (.slice (some ⟨g',0,none⟩) n cap')/\w.heap.size+2<=W.heap.size
theorem SN.below{w W W':World}{g n cap g' cap':Nat}(h:SN w g n cap g' cap' W)(hb:Below W.heap.size W W'):SN w g n cap g' cap' W':=by
 obtain⟨h1,h2,h3,h4⟩:=h;exact⟨h1.trans (hb.mono h1.size),(hb.cell (p:=⟨w.heap.size,6,none⟩) (show w.heap.size<_ by omega)).trans h2,(hb.cell (p:=⟨w.heap.size+1,6,none⟩) (show w.heap.size+1<_ by omega)).trans h3,Nat.le_trans h4 hb.size⟩
section
theorem Fq{kd:Nat}{T:ByteArray}{C p p':Nat}{s s':List Nd}(h:SmL s s')(hl:s.length<=1000000):Sm (.mk kd T C s p) (.mk kd T C s' p'):=by
 rw[Sm];exact⟨rfl,rfl,rfl,h,hl⟩
theorem Fx:SmL [] []:=by rw[SmL];trivial
theorem Cm{a b:Nd}(h:Sm a b):SmL [a] [b]:=by rw[SmL];exact⟨h,Fx⟩
theorem Of:∀{s t:List Nd} {a b:Nd},SmL s t->Sm a b->SmL (s++[a]) (t++[b])
 |[],[],a,b,_,h=>Cm h
 |[],_::_,_,_,h,_=>by simp[SmL]at h
 |_::_,[],_,_,h,_=>by simp[SmL]at h
 |x::s,y::t,a,b,h,h2=>by
  rw[SmL]at h;rw[List.cons_append,List.cons_append,SmL];exact⟨h.1,Of h.2 h2⟩
theorem z1u(kd:Nat):∀{s t:List Nd},SmL s t->s.length<=1000000->s≠[]->Sm (Yy kd s) (Yy kd t)
 |[],_,_,_,h=>absurd rfl h
 |_::_,[],h,_,_=>by simp[SmL]at h
 |[a],[b],h,_,_=>by rw[SmL]at h;exact h.1
 |[a],b::c::t,h,_,_=>by simp[SmL]at h
 |a::x::s,[b],h,_,_=>by simp[SmL]at h
 |a::x::s,b::y::t,h,hl,_=>Fq h hl
def tk3(t:Tok):Nat×ByteArray×Nat:=(t.1,t.2.1,t.2.2.1)
theorem z1v{t u:Tok}(h:tk3 u=tk3 t):sgT u=sgT t:=by
 unfold tk3 at h;simp only[Prod.mk.injEq]at h;unfold sgT;rw[h.1,h.2.1]
section
variable {L1 L2:List Tok} {e:Nat}
theorem z1w(L:List Tok)(k:Nat)(h:k+1<L.length):hdB L k=((gL L k).1 == 1&&(gL L (k+1)).1 == 2):=by
 unfold hdB;rw[Vx (show k<L.length by omega),Vx h,List.getElem?_eq_getElem (show k<L.length by omega),List.getElem?_eq_getElem h]
end
end
section
section
variable {L1 L2:List Tok} {e:Nat}
end
end
theorem z1x{L:List Tok}{ru k k':Nat}{x:Rl}(h:ruS L ru k=.inr (x,k')):chS L (Zh L 24) (k+2)=.inr (x.2.1,k')/\x.1=(gL L k).2.1:=by
 unfold ruS at h;split at h
 ·cases h
 ·split at h
  ·cases h
  ·split at h
   ·cases h
   ·cases hs:chS L (Zh L 24) (k+2)with
    |inl e=>rw[hs]at h;cases h
    |inr q=>
     obtain⟨n,j⟩:=q;rw[hs]at h;simp only[ruE,Sum.inr.injEq,Prod.mk.injEq]at h;obtain⟨rfl,rfl⟩:=h;exact⟨rfl,rfl⟩
section
structure LIn (L1 L3:List Tok) (d e:Nat):Prop where
 big:e<=10000
 same:∀k,k<e->tk3 (gL L3 (k+d))=tk3 (gL L1 k)
 len1:e+1=L1.length
 len3:e+d<L3.length
 end1:(gL L1 e).1=6
 only:∀k,k<e->(gL L1 k).1≠6
 sg3:sgT (gL L3 (e+d))={data:=#[]}
 pt3:ptB L3 (e+d) (gL L3 (e+d))=false
 ar3:(gL L3 (e+d)).1≠2
section
variable {L1 L3:List Tok} {d e:Nat}
theorem LIn.sg1(h:LIn L1 L3 d e):sgT (gL L1 e)={data:=#[]}:=by unfold sgT;rw[h.end1];rfl
theorem LIn.sg(h:LIn L1 L3 d e){k:Nat}(hk:k<=e):sgT (gL L3 (k+d))=sgT (gL L1 k):=by
 rcases Nat.lt_or_ge k e with hl|hl
 ·exact z1v (h.same k hl)
 ·obtain rfl:k=e:=by omega
  rw[h.sg1,h.sg3]
theorem LIn.lt(h:LIn L1 L3 d e){k:Nat}(hk:k<=e){x:UInt8}(hs:sgT (gL L1 k)={data:=#[x]}):k<e:=by
 rcases Nat.lt_or_ge k e with hl|hl
 ·exact hl
 ·obtain rfl:k=e:=by omega
  rw[h.sg1]at hs;have:=congrArg (fun a:ByteArray=>a.data.size) hs;simp at this
def RlS(x y:Rl):Prop:=y.1=x.1/\Sm x.2.1 y.2.1
def RlL:List Rl->List Rl->Prop
 |[],[]=>True
 |a::r,b::q=>RlS a b/\RlL r q
 |_,_=>False
theorem RlL.len:∀{s t:List Rl},RlL s t->t.length=s.length
 |[],[],_=>rfl
 |[],_::_,h=>by simp[RlL]at h
 |_::_,[],h=>by simp[RlL]at h
 |a::r,b::q,h=>by
  rw[RlL]at h;simp[RlL.len h.2]
theorem RlL.app:∀{s t u v:List Rl},RlL s t->RlL u v->RlL (s++u) (t++v)
 |[],[],u,v,_,h=>h
 |[],_::_,_,_,h,_=>by simp[RlL]at h
 |_::_,[],_,_,h,_=>by simp[RlL]at h
 |a::r,b::q,u,v,h,h2=>by
  rw[RlL]at h;rw[List.cons_append,List.cons_append,RlL];exact⟨h.1,RlL.app h.2 h2⟩
end
end
section
def sgc(x:UInt8):Nat×ByteArray×Nat:=(5,{data:=#[x]},0)
def wr(over kd:Nat):Bool:=
 if over=8∨over=9∨over=10 then decide (6<=kd)
 else if over=11∨over=12 then decide (kd=6∨kd=7∨kd=11∨kd=12)
 else if over=6 then decide (kd=6∨kd=7)
 else if over=7 then decide (kd=7)else false
def rpS(kd:Nat):UInt8:=if kd=8 then 63 else if kd=9 then 42 else 43
mutual
def kN:Nd->List (Nat×ByteArray×Nat)
 | .mk kd T C s p=>if kd=1 then [sgc 40,sgc 41]else if kd=2 then [(3,T,C)]else if kd=3 then [(4,T,C)]else if kd=4 then [sgc 46]else if kd=5 then [(1,T,C)]else if kd=6 then kS 6 s else if kd=7 then kA s
   else if kd=11 then sgc 38::kS 11 s else if kd=12 then sgc 33::kS 12 s else kS kd s++[sgc (rpS kd)]
def kS(over:Nat):List Nd->List (Nat×ByteArray×Nat)
 |[]=>[]
 |n::r=>(if wr over n.kd=true then sgc 40::(kN n++[sgc 41])else kN n)++kS over r
def kA:List Nd->List (Nat×ByteArray×Nat)
 |[]=>[]
 |n::r=>(if wr 7 n.kd=true then sgc 40::(kN n++[sgc 41])else kN n)++kB r
def kB:List Nd->List (Nat×ByteArray×Nat)
 |[]=>[]
 |n::r=>sgc 47::((if wr 7 n.kd=true then sgc 40::(kN n++[sgc 41])else kN n)++kB r)
end
def kP(over:Nat)(n:Nd):List (Nat×ByteArray×Nat):=if wr over n.kd=true then sgc 40::(kN n++[sgc 41])else kN n
mutual
def dN:Nd->Nat
 | .mk kd T C s p=>if kd=1 then 1 else dS kd s
def dS(over:Nat):List Nd->Nat
 |[]=>0
 |n::r=>max (if wr over n.kd=true then dN n+1 else dN n) (dS over r)
end
def dP(over:Nat)(n:Nd):Nat:=if wr over n.kd=true then dN n+1 else dN n
mutual
def Vk:Nd->Prop
 | .mk kd T C s p=>((kd=1/\T={data:=#[]}/\C=0/\s=[])∨(kd=2/\C=0/\s=[])∨(kd=3/\T={data:=#[]}/\s=[])∨(kd=4/\T={data:=#[]}/\C=0/\s=[])∨(kd=5/\C=0/\s=[])∨
    ((kd=6∨kd=7)/\T={data:=#[]}/\C=0/\2<=s.length)∨(8<=kd/\kd<=12/\T={data:=#[]}/\C=0/\s.length=1))/\VkL s
def VkL:List Nd->Prop
 |[]=>True
 |n::r=>Vk n/\VkL r
end
theorem VkL.mem:∀{s:List Nd},VkL s->∀n∈s,Vk n
 |[],_,n,h=>by simp at h
 |a::r,h,n,hn=>by
  rw[VkL]at h;rcases List.mem_cons.1 hn with rfl|hn
  ·exact h.1
  ·exact VkL.mem h.2 n hn
theorem Og(over:Nat)(n:Nd)(r:List Nd):kS over (n::r)=kP over n++kS over r:=by rw[kS];rfl
theorem Ob(over:Nat):kS over []=[]:=by rw[kS]
theorem Uf(over:Nat)(n:Nd)(r:List Nd):dS over (n::r)=max (dP over n) (dS over r):=by rw[dS];rfl
section
variable {L:List Tok} {k:Nat}
end
theorem z1y{over:Nat}(h:over=8∨over=9∨over=10)(kd:Nat):wr over kd=wr 8 kd:=by
 unfold wr;rw[if_pos h,if_pos (.inl rfl)]
theorem z1z{over:Nat}(h:over=11∨over=12)(kd:Nat):wr over kd=wr 11 kd:=by
 unfold wr;rw[if_neg (by omega),if_pos h,if_neg (by decide),if_pos (.inl rfl)]
theorem z7N{over:Nat}(h:over=8∨over=9∨over=10)(n:Nd):kP over n=kP 8 n:=by unfold kP;rw[z1y h]
theorem z7O{over:Nat}(h:over=11∨over=12)(n:Nd):kP over n=kP 11 n:=by unfold kP;rw[z1z h]
theorem z7P{over:Nat}(h:over=8∨over=9∨over=10)(n:Nd):dP over n=dP 8 n:=by unfold dP;rw[z1y h]
theorem z7Q{over:Nat}(h:over=11∨over=12)(n:Nd):dP over n=dP 11 n:=by unfold dP;rw[z1z h]
theorem wr8(kd:Nat):wr 8 kd=decide (6<=kd):=by unfold wr;rw[if_pos (.inl rfl)]
theorem Oh(kd:Nat):wr 11 kd=decide (kd=6∨kd=7∨kd=11∨kd=12):=by unfold wr;rw[if_neg (by decide),if_pos (.inl rfl)]
theorem wr6(kd:Nat):wr 6 kd=decide (kd=6∨kd=7):=by unfold wr;rw[if_neg (by decide),if_neg (by decide),if_pos rfl]
theorem wr7(kd:Nat):wr 7 kd=decide (kd=7):=by unfold wr;rw[if_neg (by decide),if_neg (by decide),if_neg (by decide),if_pos rfl]
theorem Vk.kd{n:Nd}(h:Vk n):1<=n.kd/\n.kd<=12:=by
 obtain⟨kd,T,C,s,p⟩:=n;rw[Vk]at h;show 1<=kd/\kd<=12;omega
theorem z7R{n:Nd}(h:n.kd≠7):kP 7 n=kN n/\dP 7 n=dN n:=by
 unfold kP dP;rw[wr7,decide_eq_false h];exact⟨rfl,rfl⟩
theorem z7S{kd:Nat}{T:ByteArray}{C p:Nat}{m:Nd}(h:kd=8∨kd=9∨kd=10):kN (.mk kd T C [m] p)=kP 8 m++[sgc (rpS kd)]/\dN (.mk kd T C [m] p)=dP 8 m:=by
 constructor
 ·rw[kN,if_neg (by omega),if_neg (by omega),if_neg (by omega),if_neg (by omega),if_neg (by omega),if_neg (by omega),if_neg (by omega),if_neg (by omega),if_neg (by omega),Og,Ob,List.append_nil,z7N h]
 ·rw[dN,if_neg (by omega),Uf,dS,z7P h]
  exact Nat.max_eq_left (Nat.zero_le _)
theorem z7T{kd:Nat}{T:ByteArray}{C p:Nat}{m:Nd}(h:kd=11∨kd=12):kN (.mk kd T C [m] p)=sgc (if kd=11 then 38 else 33)::kP 11 m/\dN (.mk kd T C [m] p)=dP 11 m:=by
 constructor
 ·rw[kN,if_neg (by omega),if_neg (by omega),if_neg (by omega),if_neg (by omega),if_neg (by omega),if_neg (by omega),if_neg (by omega)]
  rcases h with rfl|rfl
  ·rw[if_pos rfl,Og,Ob,List.append_nil];rfl
  ·rw[if_neg (by decide),if_pos rfl,Og,Ob,List.append_nil,z7O (.inr rfl)];rfl
 ·rw[dN,if_neg (by omega),Uf,dS,z7Q h]
  exact Nat.max_eq_left (Nat.zero_le _)
end
theorem z7U(over kd:Nat)(w:World)(h1:6<=over)(h2:over<=12)(h3:1<=kd)(h4:kd<=12):
  Calls prog 311 #[.int .i64 over,.int .i64 kd] w fun e w'=>e=.returned (.bool (wr over kd))/\w'=w:=by
 have ho:over=6∨over=7∨over=8∨over=9∨over=10∨over=11∨over=12:=by omega
 have hk:kd=1∨kd=2∨kd=3∨kd=4∨kd=5∨kd=6∨kd=7∨kd=8∨kd=9∨kd=10∨kd=11∨kd=12:=by omega
 clear h1 h2 h3 h4;rcases ho with rfl|rfl|rfl|rfl|rfl|rfl|rfl<;>rcases hk with rfl|rfl|rfl|rfl|rfl|rfl|rfl|rfl|rfl|rfl|rfl|rfl<;>
  (go_enter func311,ntmps311
   go_wp2_with fail
   go_ret;exact⟨rfl,rfl⟩)
end Go.Proofs.YtlogolpcipiceaaGreatDoor
