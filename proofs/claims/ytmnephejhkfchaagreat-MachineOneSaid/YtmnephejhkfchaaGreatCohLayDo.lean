
import Derived.Test.YtmnephejhkfchaaGreatCohRight
namespace Go.Proofs.YtmnephejhkfchaaGreat
set_option maxHeartbeats 8000000
open Go.RowKit Go.BigFrame
set_option linter.unusedVariables false
set_option maxRecDepth 100000
def I0 (p:Nat) (CJ a1:Int) (g:Value) (lv:Nat->Value) (tb n:Nat):Array Value:=
 #[.pointer (some ⟨p,0,none⟩),.pointer none,.int .u32 CJ,.int .i64 a1,g,lv 0,lv 1,lv 2,lv 3,lv 4,lv 5,lv 6,lv 7,.slice (some ⟨tb,0,none⟩) n n]
theorem Qh (p:Nat) (CJ a1 x:Int) (g:Value) (lv:Nat->Value) (tb n:Nat):(I0 p CJ a1 g lv tb n).setIfInBounds 3 (.int .i64 x)=I0 p CJ x g lv tb n:=rfl
theorem Qi (p:Nat) (CJ a1:Int) (g v:Value) (lv:Nat->Value) (tb n:Nat):(I0 p CJ a1 g lv tb n).setIfInBounds 4 v=I0 p CJ a1 v lv tb n:=rfl
theorem Qk (p:Nat) (CJ a1:Int) (g v:Value) (lv:Nat->Value) (tb n:Nat) {c:Nat} (hc:c<8):(I0 p CJ a1 g lv tb n).setIfInBounds (5+c) v=I0 p CJ a1 g (upd lv c v) tb n:=zz3d
theorem WB (p:Nat) (CJ a1:Int) (g:Value) (lv:Nat->Value) (tb n:Nat) {c:Nat} (hc:c<8):(I0 p CJ a1 g lv tb n)[5+c]? =some (lv c):=zz3d
structure Mk where
 lb:Nat
 p:Nat
 b:Nat
 tb:Nat
 n:Nat
 CJ:Int
def dg (q:Pl) (M:Mk) (j:Nat):Prop:=q.F j\/j=M.lb\/j=M.tb
structure LaySt (w:World) (q:Pl) (M:Mk) (W:World) (q':Pl) (t:Int) (hs vs:List Int) (a1:Int) (g:Value) (lv:Nat->Value) (cx:List Value):Prop where
 plan:PlanAt W q' t hs vs
 pq:q'.p=q.p
 came:Came w q.F q'.F
 wr:Wr (dg q M) w W
 obj:W.heap[M.lb]? =some (.cells (I0 M.p M.CJ a1 g lv M.tb M.n) 142 (0,0))
 seat:SeatAt W M.p M.b (AQ M.n false false)
 ctx:W.heap[M.tb]? =some (.cells cx.toArray 192 (0,0))
 lt:M.lb<w.heap.size/\M.p<w.heap.size/\M.b<w.heap.size/\M.tb<w.heap.size
 ne:M.lb≠M.b/\M.lb≠M.tb/\M.p≠M.tb/\M.b≠M.tb/\M.lb≠M.p
namespace LaySt
variable {w W W2:World} {q q' q2:Pl} {M:Mk} {t:Int} {hs vs hs2 vs2:List Int} {a1:Int} {g:Value} {lv:Nat->Value} {cx:List Value}
theorem off (h:LaySt w q M W q' t hs vs a1 g lv cx):¬ q'.F M.lb/\¬ q'.F M.p/\¬ q'.F M.b/\¬ q'.F M.tb:=by
 obtain ⟨a,b⟩:=SeatAt.off h.plan h.seat;exact ⟨h.plan.off h.obj (by decide) (by decide) (by decide),a,b,h.plan.off h.ctx (by decide) (by decide) (by decide)⟩
theorem QD (h:LaySt w q M W q' t hs vs a1 g lv cx) (hP:PlanAt W2 q2 t hs2 vs2) (e:q2.p=q'.p) (k:Wr q'.F W W2) (c:Came W q'.F q2.F):LaySt w q M W2 q2 t hs2 vs2 a1 g lv cx:=by
 obtain ⟨o1,o2,o3,o4⟩:=h.off;refine ⟨hP,e.trans h.pq,h.came.trans c h.wr.size,h.wr.trans k λj hj e=> ?_,(k.block _ (A2 h.obj) o1).trans h.obj,h.seat.wrote k o2 o3,(k.block _ (A2 h.ctx) o4).trans h.ctx,h.lt,h.ne⟩;rcases h.came j e with e|e
 ·exact .inl e
 ·omega
theorem beside {S:Nat->Prop} (h:LaySt w q M W q' t hs vs a1 g lv cx) (k:Wr S W W2) (hS:∀ j,S j->w.heap.size<=j/\¬ q'.F j):LaySt w q M W2 q' t hs vs a1 g lv cx:=by
 obtain ⟨l1,l2,l3,l4⟩:=h.lt;have n:∀ j,j<w.heap.size->¬ S j:=λj hj e=>by have:=(hS j e).1;omega
 exact ⟨h.plan.wrote k λj hj e=>(hS j e).2 hj,h.pq,h.came,h.wr.trans k λj hj e=>(n j hj e).elim,(k.block _ (A2 h.obj) (n _ l1)).trans h.obj,h.seat.wrote k (n _ l2) (n _ l3),(k.block _ (A2 h.ctx) (n _ l4)).trans h.ctx,h.lt,h.ne⟩
theorem after (h:LaySt w q M W q' t hs vs a1 g lv cx) (k:Wr Nil W W2):LaySt w q M W2 q' t hs vs a1 g lv cx:=h.beside k λ_ e=>e.elim
theorem I6 (h:LaySt w q M W q' t hs vs a1 g lv cx) (i:Nat) (v:Value) {jU:Int} {g':Value} {kP:Nat->Value} (e:(I0 M.p M.CJ a1 g lv M.tb M.n).setIfInBounds i v=I0 M.p M.CJ jU g' kP M.tb M.n):
  LaySt w q M (W.setCell ⟨M.lb,i,none⟩ v) q' t hs vs jU g' kP cx:=by
 have k:Wr (One M.lb) W (W.setCell ⟨M.lb,i,none⟩ v):=(Wr.refl _ W).setCell _ _ λ_=>rfl;have o:=h.off;refine ⟨h.plan.wrote k λj hj e=>by unfold One at e;subst e;exact o.1 hj,h.pq,h.came,h.wr.trans k λj hj e=> .inr (.inl e),?_,h.seat.wrote k (λe=>h.ne.2.2.2.2 e.symm) (λe=>h.ne.1 e.symm),(k.block _ (A2 h.ctx) (λe=>h.ne.2.1 e.symm)).trans h.ctx,h.lt,h.ne⟩;rw [A3 h.obj,e]
theorem Ia {jW:List Value} (h:LaySt w q M W q' t hs vs a1 g lv cx) (hc:W2.heap[M.tb]? =some (.cells jW.toArray 192 (0,0))) (k:Wr (One M.tb) W W2):LaySt w q M W2 q' t hs vs a1 g lv jW:=by
 have o:=h.off;exact ⟨h.plan.wrote k λj hj e=>by unfold One at e;subst e;exact o.2.2.2 hj,h.pq,h.came,h.wr.trans k λj hj e=> .inr (.inr e),(k.block _ (A2 h.obj) h.ne.2.1).trans h.obj,h.seat.wrote k h.ne.2.2.1 h.ne.2.2.2.1,hc,h.lt,h.ne⟩
theorem cell (h:LaySt w q M W q' t hs vs a1 g lv cx) (i:Nat):W.cell? ⟨M.lb,i,none⟩=(I0 M.p M.CJ a1 g lv M.tb M.n)[i]? :=A1 h.obj i
theorem Am (h:LaySt w q M W q' t hs vs a1 g lv cx) (i:Nat):W.frozen? ⟨M.lb,i,none⟩=false:=A4 h.obj i
end LaySt
structure OwnR (w:World) (W:World) (q':Pl) (v:Value) (l:List Nat):Prop where
 row:RowQ W v (l.map Fm)
 off:∀ j,v.ownBlock=some j->w.heap.size<=j/\¬ q'.F j
namespace OwnR
variable {w W W2:World} {q' q2:Pl} {v:Value} {l:List Nat}
theorem QD (h:OwnR w W q' v l) (k:Wr q'.F W W2) (c:Came W q'.F q2.F):OwnR w W2 q2 v l:=
 ⟨h.row.wrote k λj hj=>(h.off j hj).2,λj hj=>⟨(h.off j hj).1,λe=>by
   rcases c j e with e|e
   ·exact (h.off j hj).2 e
   ·have:=h.row.lt j hj;omega⟩⟩
theorem beside {S:Nat->Prop} (h:OwnR w W q' v l) (k:Wr S W W2) (hS:∀ j,v.ownBlock=some j->¬ S j):OwnR w W2 q' v l:=⟨h.row.wrote k hS,h.off⟩
theorem rowAt (h:OwnR w W q' v l) (hl:l≠[]):∃ b o cap,v= .slice (some ⟨b,o,none⟩) l.length cap/\Ad .i64 W (some ⟨b,o,none⟩) l.length (l.map λ(k:Nat)=>(k:Int))/\¬ q'.F b:=by
 have hr:=h.row;rcases hr with ⟨_,e⟩|⟨g,off,cap,cur,e,hg,h2,h3,h4⟩
 ·exact absurd (List.map_eq_nil_iff.1 e) hl
 ·rw [List.length_map] at e h2
  refine ⟨g,off,cap,e,⟨List.length_map _,λq=>(by cases q),λb hb j hj=> ?_⟩,(h.off g (by rw [e];rfl)).2⟩;cases hb;rw [Addr.add_lit,A1 hg];have:(l.map Fm)[j]? =some (.int .i64 ((l.map λ(k:Nat)=>(k:Int)).getD j 0)):=by
   rw [List.getElem?_map,List.getD_eq_getElem?_getD,List.getElem?_map,List.getElem?_eq_getElem hj];rfl
  exact h4 j _ this
end OwnR
theorem OwnR.push {w W W2:World} {q q':Pl} {M:Mk} {t:Int} {hs vs:List Int} {a1:Int} {g:Value} {lv:Nat->Value} {cx:List Value} {v v':Value} {l:List Nat} (hL:LaySt w q M W q' t hs vs a1 g lv cx) (h:OwnR w W q' v l) {k:Nat} (hp:J0 W W2 v v' (l.map Fm) (Fm k)):
  LaySt w q M W2 q' t hs vs a1 g lv cx/\OwnR w W2 q' v' (l++[k]):=by
 obtain ⟨h1,h2,h3⟩:=hp;refine ⟨hL.beside h2 λj e=>h.off j e,⟨by rw [List.map_append];exact h1,λj hj=> ?_⟩⟩;rcases h3 with e|e
 ·exact h.off j (e▸hj)
 ·have:=e j hj
  have:=hL.wr.size;exact ⟨by omega,λx=>by have:=hL.plan.lt x;omega⟩
def lH (K:Int) (cnt:Nat->Nat):Nat->List Int
 |0=>[]
 |m+1=>lH K cnt m++(if 0<cnt m then MT K (List.replicate (cnt m) (m:Int)) else [])
def lZ (K:Int) (cnt:Nat->Nat):Nat->Nat
 |0=>0
 |m+1=>lZ K cnt m+(if 0<cnt m then Fz K (cnt m) else 0)
theorem Nj (K:Int) (cnt:Nat->Nat) (m:Nat):(lH K cnt m).length=lZ K cnt m:=by
 induction m with
 |zero=>rfl
 |succ m ih=>
  unfold lH lZ;rw [List.length_append,ih];split
  ·rw [Oy List.length_replicate]
  ·rfl
theorem Nf (K:Int) (n:Nat):Fz K n<=2*n+2:=by unfold Fz;split;omega;split<;>omega
theorem X8 (K:Int) (cnt:Nat->Nat) (m:Nat) (h:∀ c,cnt c<=64):lZ K cnt m<=m*130:=by
 induction m with
 |zero=>exact Nat.le_refl _
 |succ m ih=>
  unfold lZ;have:=Nf K (cnt m);have:=h m;split<;>omega
theorem LS (K:Int) (cnt:Nat->Nat) {c d:Nat} (h:c<d) (hc:0<cnt c):lZ K cnt c+Fz K (cnt c)<=lZ K cnt d:=by
 induction h with
 |refl=>rw [show lZ K cnt (c+1)=lZ K cnt c+(if 0<cnt c then Fz K (cnt c) else 0) from rfl,Qj hc];exact Nat.le_refl _
 |step _ ih=>refine Nat.le_trans ih ?_;rename_i m _;show _<=lZ K cnt (m+1);show lZ K cnt m<=lZ K cnt m+_;omega
def Cf (k:Nat):List Int:=(List.range k).map λ(i:Nat)=>(i:Int)
theorem Mb (k:Nat):Cf (k+1)=Cf k++[(k:Int)]:=by unfold Cf;rw [List.range_succ,List.map_append];rfl
open _root_.Go.Proofs.Tryz
def lR (hN:Nat->Nat) (n:Nat):List Value:=Ga n hN (λt=>Ao hN (hN t) t) (λ_=> .func (.func 80) #[] #[]) (λ_=>0)
def Jl (n:Nat):List Value:=Ga n (λ_=>0) (λ_=>0) (λ_=> .nilFunc) (λ_=>0)
def Nn (I:Nat->Ip) (cnt:Nat->Nat) (m c:Nat):Value:=if c<m/\0<cnt c then (I c).val else .nilIface
theorem TE (I:Nat->Ip) (cnt:Nat->Nat) (m:Nat) (h:¬ 0<cnt m):Nn I cnt (m+1)=Nn I cnt m:=by
 funext c
 unfold Nn;by_cases q:c<m/\0<cnt c
 ·rw [Qj q,Qj ⟨by omega,q.2⟩]
 ·rw [Qq q,Qq λe=>q ⟨by have:=e.1;by_cases r:c=m;(subst r;exact absurd e.2 h);omega,e.2⟩]
theorem Vm (I:Nat->Ip) (J:Ip) (cnt:Nat->Nat) (m:Nat) (h:0<cnt m):Nn (upd I m J) cnt (m+1)=upd (Nn I cnt m) m J.val:=by
 funext c
 by_cases e:c=m
 ·subst e
  rw [upd_same];unfold Nn;rw [Qj ⟨by omega,h⟩,upd_same]
 ·rw [A0 _ _ e]
  unfold Nn;rw [A0 _ _ e];by_cases q:c<m/\0<cnt c
  ·rw [Qj q,Qj ⟨by omega,q.2⟩]
  ·rw [Qq q,Qq λr=>q ⟨by omega,r.2⟩]
def gH (G:Int):List Int:=Cf 8++MT G (Cf 8)
structure LdSt (w:World) (q:Pl) (M:Mk) (t:Int) (hs vs:List Int) (hN:Nat->Nat) (G K:Int) (vq:Nat->Value) (gi:Ip) (m:Nat) (q':Pl) (I:Nat->Ip) (W:World):Prop where
 lay:LaySt w q M W q' t (hs++gH G++lH K (λc=>Ao hN c M.n) m) (vs++List.replicate (8+Fz G 8+lZ K (λc=>Ao hN c M.n) m) 0) hs.length gi.val (Nn I (λc=>Ao hN c M.n) m) (lR hN M.n)
 Cw:∀ ps,InAt W gi (.pointer none) (Cc G 8 ps)
 ga:gi.a=hs.length+8/\w.heap.size<=gi.lo
 loc:∀ c,c<m->0<Ao hN c M.n->(∀ ps,InAt W (I c) (.pointer none) (Cc K (Ao hN c M.n) ps))/\(I c).a=hs.length+8+Fz G 8+lZ K (λc=>Ao hN c M.n) c/\gi.hi<=(I c).lo
 ord:∀ c d,c<d->d<m->0<Ao hN c M.n->0<Ao hN d M.n->(I c).hi<=(I d).lo
 rows:∀ c,c<8->OwnR w W q' (vq c) (Ew hN M.n c)
theorem NS (G:Int):(gH G).length=8+Fz G 8:=by
 unfold gH;rw [List.length_append,Oy (n:=8) rfl];rfl
namespace LdSt
variable {w W W2:World} {q q' q2:Pl} {M:Mk} {t:Int} {hs vs:List Int} {hN:Nat->Nat} {G K:Int} {vq:Nat->Value} {gi:Ip} {m:Nat} {I:Nat->Ip}
theorem after (h:LdSt w q M t hs vs hN G K vq gi m q' I W) (k:Wr Nil W W2):LdSt w q M t hs vs hN G K vq gi m q' I W2:=
 ⟨h.lay.after k,λps=>(h.Cw ps).after k,h.ga,λc hc hp=>⟨λps=>((h.loc c hc hp).1 ps).after k,(h.loc c hc hp).2⟩,h.ord,λc hc=>(h.rows c hc).beside k λ_ _=>id⟩
theorem skip (h:LdSt w q M t hs vs hN G K vq gi m q' I W) (hm:¬ 0<Ao hN m M.n):LdSt w q M t hs vs hN G K vq gi (m+1) q' I W:=by
 have e1:lH K (λc=>Ao hN c M.n) (m+1)=lH K (λc=>Ao hN c M.n) m:=by
  show _++(if 0<Ao hN m M.n then _ else [])=_;rw [Qq hm,List.append_nil]
 have e2:lZ K (λc=>Ao hN c M.n) (m+1)=lZ K (λc=>Ao hN c M.n) m:=by
  show _+(if 0<Ao hN m M.n then _ else 0)=_;rw [Qq hm,Nat.add_zero]
 refine ⟨by rw [e1,e2,TE I (λc=>Ao hN c M.n) m hm];exact h.lay,h.Cw,h.ga,λc hc hp=> ?_,λc d fy hd hp hq=> ?_,h.rows⟩
 ·have:c≠m:=λe=>by subst e;exact hm hp
  exact h.loc c (by omega) hp
 ·have:d≠m:=λe=>by subst e;exact hm hq
  exact h.ord c d fy (by omega) hp hq
theorem add (h:LdSt w q M t hs vs hN G K vq gi m q' I W) (hm:m<8) (hc:0<Ao hN m M.n) {e:Ending} (hp:Hm W q' t (hs++gH G++lH K (λc=>Ao hN c M.n) m) (vs++List.replicate (8+Fz G 8+lZ K (λc=>Ao hN c M.n) m) 0) K (Ao hN m M.n) (List.replicate (Ao hN m M.n) (m:Int)) e W2):
  ∃ (J:Ip) (q2:Pl),e= .returned (.iface J.ty (.pointer (some ⟨J.lb,0,none⟩)))/\(W2.cell? ⟨M.lb,5+m,none⟩=some (Nn I (λc=>Ao hN c M.n) m m)/\W2.frozen? ⟨M.lb,5+m,none⟩=false)/\LdSt w q M t hs vs hN G K vq gi (m+1) q2 (upd I m J) (W2.setCell ⟨M.lb,5+m,none⟩ (.iface J.ty (.pointer (some ⟨J.lb,0,none⟩)))):=by
 obtain ⟨J,q2,rfl,i1,i2,i3,i4,i5,i6,i7⟩:=hp;have Sv:=h.lay.QD i5 i4 i6 i7;have Wx:=Sv.I6 (5+m) J.val (Qk M.p M.CJ hs.length gi.val J.val (Nn I (λc=>Ao hN c M.n) m) M.tb M.n hm);have k:Wr (One M.lb) W2 (W2.setCell ⟨M.lb,5+m,none⟩ J.val):=(Wr.refl _ W2).setCell _ _ λ_=>rfl;have hlt:=h.lay.lt.1;have hg:=h.ga.2;have nz:=(h.Cw ⟨[],[],[],[],[]⟩).BP.1;have nt:=(h.Cw ⟨[],[],[],[],[]⟩).le;refine ⟨J,q2,rfl,⟨(Sv.cell _).trans (WB _ _ _ _ _ _ _ hm),Sv.Am _⟩,?_⟩;have e1:lH K (λc=>Ao hN c M.n) (m+1)=lH K (λc=>Ao hN c M.n) m++MT K (List.replicate (Ao hN m M.n) (m:Int)):=by
  show _++(if 0<Ao hN m M.n then _ else [])=_;rw [Qj hc]
 have e2:lZ K (λc=>Ao hN c M.n) (m+1)=lZ K (λc=>Ao hN c M.n) m+Fz K (Ao hN m M.n):=by
  show _+(if 0<Ao hN m M.n then _ else 0)=_;rw [Qj hc]
 have sz:=i6.size;refine ⟨?_,λps=>((h.Cw ps).plan h.lay.plan i6).wrote k λb b1 _ e=>by unfold One at e;omega,h.ga,λc hcm hp=> ?_,λc d fy hd hp hq=> ?_,λc VU=> ?_⟩
 ·rw [e1,e2,Vm I J (λc=>Ao hN c M.n) m hc,<-List.append_assoc,<-Nat.add_assoc,<-List.replicate_append_replicate,<-List.append_assoc]
  exact Wx
 ·by_cases q:c=m
  ·subst q
   rw [upd_same];refine ⟨λps=>(i1 ps).wrote k λb b1 _ e=>by unfold One at e;omega,?_,by omega⟩;rw [i2,List.length_append,List.length_append,NS,Nj];omega
  ·rw [A0 _ _ q]
   obtain ⟨a,b,d⟩:=h.loc c (by omega) hp;exact ⟨λps=>((a ps).plan h.lay.plan i6).wrote k λb b1 _ e=>by unfold One at e;omega,b,d⟩
 ·by_cases q:d=m
  ·subst q
   rw [upd_same,A0 _ _ (by omega)];have:=((h.loc c (by omega) hp).1 ⟨[],[],[],[],[]⟩).le;omega
  ·rw [A0 _ _ q,A0 _ _ (by omega)]
   exact h.ord c d fy (by omega) hp hq
 ·exact ((h.rows c VU).QD i6 i7).beside k λj hj e=>by have:=((h.rows c VU).off j hj).1;unfold One at e;omega
end LdSt
theorem aP (v0 v1 v2 v3 v4 v5 v6 v7:Value) (w:World):(Instr.index 173 (.agg #[v0,v1,v2,v3,v4,v5,v6,v7]) (.int .i64 ((0:Nat):Int))).run prog w= .ok v0 w:=by kernel_rfl
theorem aQ (v0 v1 v2 v3 v4 v5 v6 v7:Value) (w:World):(Instr.index 173 (.agg #[v0,v1,v2,v3,v4,v5,v6,v7]) (.int .i64 ((1:Nat):Int))).run prog w= .ok v1 w:=by kernel_rfl
theorem aR (v0 v1 v2 v3 v4 v5 v6 v7:Value) (w:World):(Instr.index 173 (.agg #[v0,v1,v2,v3,v4,v5,v6,v7]) (.int .i64 ((2:Nat):Int))).run prog w= .ok v2 w:=by kernel_rfl
theorem aS (v0 v1 v2 v3 v4 v5 v6 v7:Value) (w:World):(Instr.index 173 (.agg #[v0,v1,v2,v3,v4,v5,v6,v7]) (.int .i64 ((3:Nat):Int))).run prog w= .ok v3 w:=by kernel_rfl
theorem aT (v0 v1 v2 v3 v4 v5 v6 v7:Value) (w:World):(Instr.index 173 (.agg #[v0,v1,v2,v3,v4,v5,v6,v7]) (.int .i64 ((4:Nat):Int))).run prog w= .ok v4 w:=by kernel_rfl
theorem aU (v0 v1 v2 v3 v4 v5 v6 v7:Value) (w:World):(Instr.index 173 (.agg #[v0,v1,v2,v3,v4,v5,v6,v7]) (.int .i64 ((5:Nat):Int))).run prog w= .ok v5 w:=by kernel_rfl
theorem aV (v0 v1 v2 v3 v4 v5 v6 v7:Value) (w:World):(Instr.index 173 (.agg #[v0,v1,v2,v3,v4,v5,v6,v7]) (.int .i64 ((6:Nat):Int))).run prog w= .ok v6 w:=by kernel_rfl
theorem aW (v0 v1 v2 v3 v4 v5 v6 v7:Value) (w:World):(Instr.index 173 (.agg #[v0,v1,v2,v3,v4,v5,v6,v7]) (.int .i64 ((7:Nat):Int))).run prog w= .ok v7 w:=by kernel_rfl
theorem mF (vq:Nat->Value) {m:Nat} (hm:m<8) (w:World):(Instr.index 173 (.agg (GR vq)) (.int .i64 (m:Nat))).run prog w= .ok (vq m) w:=by
 rw [M5];have:m=0\/m=1\/m=2\/m=3\/m=4\/m=5\/m=6\/m=7:=by omega
 rcases this with rfl|rfl|rfl|rfl|rfl|rfl|rfl|rfl
 ·exact aP _ _ _ _ _ _ _ _ w
 ·exact aQ _ _ _ _ _ _ _ _ w
 ·exact aR _ _ _ _ _ _ _ _ w
 ·exact aS _ _ _ _ _ _ _ _ w
 ·exact aT _ _ _ _ _ _ _ _ w
 ·exact aU _ _ _ _ _ _ _ _ w
 ·exact aV _ _ _ _ _ _ _ _ w
 ·exact aW _ _ _ _ _ _ _ _ w
def Ax (w:World) (q:Pl) (M:Mk) (t:Int) (hs vs:List Int) (hN:Nat->Nat) (G K:Int) (e:Ending) (W:World):Prop:=
 e= .returned (.tuple #[])/\∃ vq gi q' I,LdSt w q M t hs vs hN G K vq gi 8 q' I W
theorem JQ:A8 (Cf 8)=true:=by decide
theorem TY (c m:Nat) (h:m<8):A8 (List.replicate c (m:Int))=true:=by
 unfold A8;rw [List.all_eq_true];intro x hx;rw [List.eq_of_mem_replicate hx];unfold FO;exact decide_eq_true (by omega)
theorem Ve {w W:World} {q q':Pl} {M:Mk} {t:Int} {hs vs:List Int} {a1:Int} {g:Value} {lv:Nat->Value} {cx:List Value} {bh o n:Nat} {zs:List Int} (h:LaySt w q M W q' t hs vs a1 g lv cx) (hR:Ad .i64 w (some ⟨bh,o,none⟩) n zs) (hb:¬ dg q M bh):Ad .i64 W (some ⟨bh,o,none⟩) n zs:=
 ⟨hR.len,hR.empty,λb hb2 j hj=>h.wr.cell (hR.cell b hb2 j hj) (by cases hb2;rw [Addr.add_lit];exact hb)⟩
structure Wk (w:World) (q:Pl) (M:Mk) (t:Int) (hs vs:List Int) (G:Int) (gi:Ip) (q':Pl) (W:World):Prop where
 lay:LaySt w q M W q' t (hs++Cf 8++MT G (Cf 8)) (vs++List.replicate 8 0++List.replicate (Fz G 8) 0) hs.length gi.val (λ_=> .nilIface) (Jl M.n)
 Cw:∀ ps,InAt W gi (.pointer none) (Cc G 8 ps)
 ga:gi.a=hs.length+8/\w.heap.size<=gi.lo
theorem Xq {w W2 Wa:World} {q q2:Pl} {M:Mk} {t:Int} {hs vs:List Int} {G:Int} {gi:Ip} {v:Value}
  (h:LaySt w q M (W2.setCell ⟨M.lb,4,none⟩ v) q2 t (hs++Cf 8++MT G (Cf 8)) (vs++List.replicate 8 0++List.replicate (Fz G 8) 0) hs.length gi.val (λ_=> .nilIface) (Jl M.n))
  (i1:∀ ps,InAt W2 gi (.pointer none) (Cc G 8 ps)) (i2:gi.a=(hs++Cf 8).length) (i3:w.heap.size<=gi.lo):Wk w q M t hs vs G gi q2 (W2.setCell ⟨M.lb,4,none⟩ v):=by
 have k:Wr (One M.lb) W2 (W2.setCell ⟨M.lb,4,none⟩ v):=(Wr.refl _ W2).setCell _ _ λ_=>rfl;have l:=h.lt.1;refine ⟨h,λps=>(i1 ps).wrote k λb b1 _ e=>by unfold One at e;omega,?_,i3⟩;rw [i2,List.length_append];rfl
theorem T_ {w W W2:World} {q q2:Pl} {M:Mk} {t:Int} {hs vs:List Int} {G K:Int} {gi:Ip} {hN:Nat->Nat} {vq:Nat->Value} (h:Wk w q M t hs vs G gi q2 W)
  (g1:W2.heap[M.tb]? =some (.cells (Ga M.n hN (λt=>Ao hN (hN t) t) (λ_=> .func (.func 80) #[] #[]) (λ_=>0)).toArray 192 (0,0)))
  (g2:∀ c,c<8->RowQ W2 (vq c) ((Ew hN M.n c).map Fm)/\∀ j,(vq c).ownBlock=some j->W.heap.size<=j) (g3:Wr (One M.tb) W W2):
  LdSt w q M t hs vs hN G K vq gi 0 q2 (λ_=>gi) W2:=by
 have l:=h.lay.lt.2.2.2;have hsz:=h.lay.wr.size;refine ⟨?_,λps=>(h.Cw ps).wrote g3 λb b1 _ e=>by unfold One at e;have:=h.ga.2;omega,h.ga,λc hc=>by omega,λc d _ hd=>by omega,λc hc=>⟨(g2 c hc).1,λj hj=> ?_⟩⟩
 ·have e1:hs++gH G++lH K (λc=>Ao hN c M.n) 0=hs++Cf 8++MT G (Cf 8):=by unfold gH lH;rw [List.append_nil,List.append_assoc]
  have e2:vs++List.replicate (8+Fz G 8+lZ K (λc=>Ao hN c M.n) 0) 0=vs++List.replicate 8 0++List.replicate (Fz G 8) 0:=by unfold lZ;rw [Nat.add_zero,<-List.replicate_append_replicate,List.append_assoc]
  have e3:Nn (λ_=>gi) (λc=>Ao hN c M.n) 0=λ_=> .nilIface:=by funext c;unfold Nn;exact Qq λe=>by omega
  rw [e1,e2,e3];exact h.lay.Ia g1 g3
 ·have:=(g2 c hc).2 j hj
  exact ⟨by omega,λe=>by have:=h.lay.plan.lt e;omega⟩
theorem Xc {w:World} {q:Pl} {M:Mk} {t:Int} {hs vs:List Int} {hN:Nat->Nat} {G K:Int} {bh o cap:Nat} {zs:List Int} (Zl:LaySt w q M w q t hs vs 0 .nilIface (λ_=> .nilIface) (Jl M.n)) (hG:G=1\/G=3\/G=4) (hK:K=1\/K=3\/K=4)
  (hR:Ad .i64 w (some ⟨bh,o,none⟩) M.n zs) (hH:∀ t,t<M.n->zs.getD t 0=(hN t:Nat)/\hN t<8) (n1:1<=M.n) (Y7:M.n<=64) (hb:¬ dg q M bh) (QH:bh<w.heap.size) (dt:hs.length<=700000):
  Calls prog 61 #[.pointer (some ⟨M.lb,0,none⟩),.pointer (some ⟨q.p,0,none⟩),.slice (some ⟨bh,o,none⟩) M.n cap,.int .i64 G,.int .i64 K] w (Ax w q M t hs vs hN G K):=by
 have fH:=KI Zl.plan;have z3:=Zl.Am 3;have c3:w.cell? ⟨M.lb,3,none⟩=some (.int .i64 0):=Zl.cell 3;have hA:=Zl.I6 3 (.int .i64 (hs.length:Nat)) (Qh M.p M.CJ 0 (hs.length:Nat) .nilIface (λ_=> .nilIface) M.tb M.n);have HA:=Qw hA;have HE:=Qw (Qz hR (Qz hH (Qz hb QH)));clear Zl hA hR hH hb
 go_in
 go_wp2_with ((with_reducible refine fH.mono ?_);rintro e w' ⟨rfl,hw'⟩;subst w')
 go_loopw [10,11,19] (λnv _ i wr=>∃ (k:Nat) (q':Pl),k<=8/\i= .int .i64 k/\LaySt w q M wr q' t (hs++Cf k) (vs++List.replicate k 0) hs.length .nilIface (λ_=> .nilIface) (Jl M.n)/\OwnR w wr q' nv (List.range k)) (λ_ _ i _=>8-(intOf i).toNat)
 case atStart=>exact ⟨0,q,by decide,rfl,by simpa [Cf] using HA.out,⟨RowQ.nil _,λj hj=>by cases hj⟩⟩
 case round=>
  clear HA;obtain ⟨k,q',hk,rfl,hl,hO⟩:=hrel;by_cases hlt:k<8
  ·have cW:=Ci hl.plan (k:Int) 0 (by rw [List.length_append];unfold Cf;rw [List.length_map,List.length_range];omega)
   rw [hl.pq] at cW;obtain ⟨sa,cp,hv⟩:=hO.row.form;rw [List.length_map,List.length_range] at hv;subst hv;have HL:=Qw (Qz hl hO);clear hl hO
   go_wp2_with (first
    |((with_reducible refine cW.mono ?_);intro e w2 hq;unfold C4 at hq;obtain ⟨rfl,q2,g1,g2,g3,g4⟩:=hq;have Sv:=HL.out.1.QD g2 g1 g3 g4;have jh:=HL.out.2.QD g3 g4;have HM:=Qw (Qz Sv jh);clear g1 g2 g3 g4 Sv jh)
    |(at_builtin;refine IY rfl _ _ rfl rfl (HM.out.2.beside ((Wr.refl Nil w2).alloc _) λ_ _=>id).row ⟨w2.heap.size,0,none⟩ (Fm k) rfl (by rw [A1 (Go.Deep.blk_alloc_new _ _)];rfl) (by simp [Fm,Value.oneCell']) (by rw [List.length_map,List.length_range];omega) ?_;intro v' w6 hp;have HP:=Qw (OwnR.push (HM.out.1.after ((Wr.refl _ _).alloc _)) (HM.out.2.beside ((Wr.refl Nil w2).alloc _) λ_ _=>id) hp);clear hp))
   go_roundw
   case rel=>
    refine ⟨k+1,q2,by omega,by go_num,?_,by rw [List.range_succ];exact HP.out.2⟩;rw [Mb,<-List.append_assoc,<-JX];exact HP.out.1
   case measure=>simp [intOf];omega
  ·obtain rfl:k=8:=by omega
   obtain ⟨bn,on,cn,hv,Wz,jo⟩:=hO.rowAt (by decide);rw [List.length_range] at hv Wz;subst hv;have hlen:(hs++Cf 8).length=hs.length+8:=by rw [List.length_append];rfl
   have cG:=MJ (cap:=cn) hl.plan hG Wz JQ (by decide) (by decide) (by rw [hlen];omega) jo;rw [hl.pq] at cG;have HL:=Qw hl;clear hl hO Wz jo
   go_wp2_with (first
    |((with_reducible refine cG.mono ?_);intro e w2 hq;unfold Hm at hq;obtain ⟨gi,q2,rfl,i1,i2,i3,i4,i5,i6,i7⟩:=hq;unfold Ip.val;have Sv:=HL.out.QD i5 i4 i6 i7;have c4:w2.cell? ⟨M.lb,4,none⟩=some .nilIface:=Sv.cell 4;have z4:=Sv.Am 4;have Wx:=Sv.I6 4 (.iface gi.ty (.pointer (some ⟨gi.lb,0,none⟩))) (Qi M.p M.CJ hs.length .nilIface gi.val (λ_=> .nilIface) M.tb M.n);have c13:(w2.setCell ⟨M.lb,4,none⟩ (.iface gi.ty (.pointer (some ⟨gi.lb,0,none⟩)))).cell? ⟨M.lb,13,none⟩=some (.slice (some ⟨M.tb,0,none⟩) M.n M.n):=Wx.cell 13;have NV:=Ve Wx HE.out.1 HE.out.2.2.1;have cP:=Q6 (cap:=cap) c13 Wx.ctx NV HE.out.2.1 Y7 Wx.ne.2.1 (λe=>HE.out.2.2.1 (.inr (.inr e)));have HG:=Qw (Xq (Wa:=w2) Wx i1 i2 (Nat.le_trans HL.out.wr.size i3.1));clear i1 i2 i3 i4 i5 i6 i7 Sv Wx NV c13)
    |((with_reducible refine cP.mono ?_);intro e w3 hq;unfold Iy at hq;obtain ⟨vq,rfl,g1,g2,g3⟩:=hq;have HS:=Qw (T_ (K:=K) HG.out g1 g2 g3);clear g1 g2 g3 cP cG))
   clear HL;go_loopw [12,13,40] (λ_ _ i wr=>∃ (m:Nat) (q':Pl) (I:Nat->Ip),m<=8/\i= .int .i64 m/\LdSt w q M t hs vs hN G K vq gi m q' I wr) (λ_ _ i _=>8-(intOf i).toNat)
   case atStart=>exact ⟨0,_,_,by decide,rfl,HS.out⟩
   case round=>
    clear HS HG;obtain ⟨m,q',I,hm,rfl,hl⟩:=hrel;by_cases hlt:m<8
    ·have hx:=mF vq hlt
     obtain ⟨sa,cp,hv⟩:=(hl.rows m hlt).row.form;rw [List.length_map,show (Ew hN M.n m).length=Ao hN m M.n from List.length_replicate] at hv;by_cases hc:0<Ao hN m M.n
     ·have MO:=hl.after ((Wr.refl Nil wr).drew)
      obtain ⟨bm,om,cm,hv2,Wz,jn⟩:=(MO.rows m hlt).rowAt (by intro e;have:=congrArg List.length e;rw [show (Ew hN M.n m).length=Ao hN m M.n from List.length_replicate] at this;simp at this;omega);rw [show (Ew hN M.n m).length=Ao hN m M.n from List.length_replicate] at hv2 Wz;rw [show (Ew hN M.n m).map (λ(k:Nat)=>(k:Int))=List.replicate (Ao hN m M.n) (m:Int) from List.map_replicate] at Wz;have lM:=GX hN m M.n;have lz:=X8 K (λc=>Ao hN c M.n) m λc=>by have:=GX hN c M.n;omega
      have gz:=Nf G 8;have cI:=MJ (cap:=cm) MO.lay.plan hK Wz (TY _ _ hlt) hc (by omega) (by rw [List.length_append,List.length_append,NS,Nj];omega) jn;rw [MO.lay.pq] at cI;rw [hv2] at hx;have jq:(0:Int)<(Ao hN m M.n:Nat):=by omega
      have oF:(m:Int)<8:=by omega
      have em:Nn I (λc=>Ao hN c M.n) m m= .nilIface:=Qq λe=>by omega
      have HL:=Qw (Qz MO hc);clear hl MO hv hv2 Wz jn lz gz;generalize hcn:Ao hN m M.n=cn2 at hx cI jq lM;have HC:=Qw hcn;clear hcn hc;go_wp2;go_region_held3 (λ_=>True) (exact trivial) (first|((with_reducible refine cI.mono ?_);intro e w5 hq;rw [<-HC.out] at hq;obtain ⟨J,q3,rfl,⟨c5,z5⟩,jy⟩:=HL.out.1.add hlt HL.out.2 hq;rw [em] at c5;have HJ:=Qw jy;clear jy hq))
      all_goals
       go_wp2;go_roundw
       case rel=>exact ⟨m+1,_,_,by omega,by go_num,HJ.out⟩
       case measure=>simp [intOf];omega
     ·have h0:Ao hN m M.n=0:=by omega
      rw [h0] at hv;rw [hv] at hx;have HL:=Qw (hl.skip hc);clear hl hv h0 hc;go_wp2;go_roundw
      case rel=>exact ⟨m+1,_,_,by omega,by go_num,HL.out⟩
      case measure=>simp [intOf];omega
    ·obtain rfl:m=8:=by omega
     have HL:=Qw hl;clear hl;go_wp2
     go_end0
     exact ⟨rfl,vq,gi,q',I,HL.out⟩
end Go.Proofs.YtmnephejhkfchaaGreat
