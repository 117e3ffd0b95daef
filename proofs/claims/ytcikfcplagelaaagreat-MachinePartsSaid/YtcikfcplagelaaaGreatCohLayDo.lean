
import Derived.Test.YtcikfcplagelaaaGreatCohRight
namespace Go.Proofs.YtcikfcplagelaaaGreat
set_option maxHeartbeats 8000000
open Go.RowKit Go.BigFrame
set_option linter.unusedVariables false
set_option maxRecDepth 100000
def objC (p:Nat) (bud a1:Int) (g:Value) (lv:Nat→Value) (tb n:Nat):Array Value:=
 #[.pointer (some ⟨p,0,none⟩),.pointer none,.int .u32 bud,.int .i64 a1,g,lv 0,lv 1,lv 2,lv 3,lv 4,lv 5,lv 6,lv 7,.slice (some ⟨tb,0,none⟩) n n]
theorem objC_setA (p:Nat) (bud a1 x:Int) (g:Value) (lv:Nat→Value) (tb n:Nat):(objC p bud a1 g lv tb n).setIfInBounds 3 (.int .i64 x)=objC p bud x g lv tb n:=rfl
theorem objC_setG (p:Nat) (bud a1:Int) (g v:Value) (lv:Nat→Value) (tb n:Nat):(objC p bud a1 g lv tb n).setIfInBounds 4 v=objC p bud a1 v lv tb n:=rfl
theorem objC_setL (p:Nat) (bud a1:Int) (g v:Value) (lv:Nat→Value) (tb n:Nat) {c:Nat} (hc:c<8):(objC p bud a1 g lv tb n).setIfInBounds (5+c) v=objC p bud a1 g (upd lv c v) tb n:=by
 have:c=0∨c=1∨c=2∨c=3∨c=4∨c=5∨c=6∨c=7:=by omega
 rcases this with rfl|rfl|rfl|rfl|rfl|rfl|rfl|rfl<;>rfl
theorem objC_at (p:Nat) (bud a1:Int) (g:Value) (lv:Nat→Value) (tb n:Nat) {c:Nat} (hc:c<8):(objC p bud a1 g lv tb n)[5+c]? =some (lv c):=by
 have:c=0∨c=1∨c=2∨c=3∨c=4∨c=5∨c=6∨c=7:=by omega
 rcases this with rfl|rfl|rfl|rfl|rfl|rfl|rfl|rfl<;>rfl
structure Mk where
 lb:Nat
 p:Nat
 b:Nat
 tb:Nat
 n:Nat
 bud:Int
def LyF (q:Pl) (M:Mk) (j:Nat):Prop:=q.F j∨j=M.lb∨j=M.tb
structure LaySt (w:World) (q:Pl) (M:Mk) (W:World) (q':Pl) (t:Int) (hs vs:List Int) (a1:Int) (g:Value) (lv:Nat→Value) (cx:List Value):Prop where
 plan:PlanAt W q' t hs vs
 pq:q'.p=q.p
 came:Came w q.F q'.F
 wr:Wr (LyF q M) w W
 obj:W.heap[M.lb]? =some (.cells (objC M.p M.bud a1 g lv M.tb M.n) 214 (0,0))
 seat:SeatAt W M.p M.b (newSeat M.n false false)
 ctx:W.heap[M.tb]? =some (.cells cx.toArray 264 (0,0))
 lt:M.lb<w.heap.size∧M.p<w.heap.size∧M.b<w.heap.size∧M.tb<w.heap.size
 ne:M.lb≠M.b∧M.lb≠M.tb∧M.p≠M.tb∧M.b≠M.tb∧M.lb≠M.p
namespace LaySt
variable {w W W2:World} {q q' q2:Pl} {M:Mk} {t:Int} {hs vs hs2 vs2:List Int} {a1:Int} {g:Value} {lv:Nat→Value} {cx:List Value}
theorem off (h:LaySt w q M W q' t hs vs a1 g lv cx):¬ q'.F M.lb∧¬ q'.F M.p∧¬ q'.F M.b∧¬ q'.F M.tb:=by
 obtain ⟨a,b⟩:=SeatAt.off h.plan h.seat
 exact ⟨h.plan.off h.obj (by decide) (by decide) (by decide),a,b,h.plan.off h.ctx (by decide) (by decide) (by decide)⟩
theorem grew (h:LaySt w q M W q' t hs vs a1 g lv cx) (hP:PlanAt W2 q2 t hs2 vs2) (e:q2.p=q'.p) (k:Wr q'.F W W2) (c:Came W q'.F q2.F):LaySt w q M W2 q2 t hs2 vs2 a1 g lv cx:=by
 obtain ⟨o1,o2,o3,o4⟩:=h.off
 refine ⟨hP,e.trans h.pq,h.came.trans c h.wr.size,h.wr.trans k λj hj e=> ?_,(k.block _ (blk_lt h.obj) o1).trans h.obj,h.seat.wrote k o2 o3,(k.block _ (blk_lt h.ctx) o4).trans h.ctx,h.lt,h.ne⟩
 rcases h.came j e with e|e
 ·exact .inl e
 ·omega
theorem beside {S:Nat→Prop} (h:LaySt w q M W q' t hs vs a1 g lv cx) (k:Wr S W W2) (hS:∀ j,S j→w.heap.size≤j∧¬ q'.F j):LaySt w q M W2 q' t hs vs a1 g lv cx:=by
 obtain ⟨l1,l2,l3,l4⟩:=h.lt
 have n:∀ j,j<w.heap.size→¬ S j:=λj hj e=>by have:=(hS j e).1;omega
 exact ⟨h.plan.wrote k λj hj e=>(hS j e).2 hj,h.pq,h.came,h.wr.trans k λj hj e=>(n j hj e).elim,(k.block _ (blk_lt h.obj) (n _ l1)).trans h.obj,h.seat.wrote k (n _ l2) (n _ l3),(k.block _ (blk_lt h.ctx) (n _ l4)).trans h.ctx,h.lt,h.ne⟩
theorem after (h:LaySt w q M W q' t hs vs a1 g lv cx) (k:Wr Nil W W2):LaySt w q M W2 q' t hs vs a1 g lv cx:=h.beside k λ_ e=>e.elim
theorem set0 (h:LaySt w q M W q' t hs vs a1 g lv cx) (i:Nat) (v:Value) {a1':Int} {g':Value} {lv':Nat→Value} (e:(objC M.p M.bud a1 g lv M.tb M.n).setIfInBounds i v=objC M.p M.bud a1' g' lv' M.tb M.n):
  LaySt w q M (W.setCell ⟨M.lb,i,none⟩ v) q' t hs vs a1' g' lv' cx:=by
 have k:Wr (One M.lb) W (W.setCell ⟨M.lb,i,none⟩ v):=(Wr.refl _ W).setCell _ _ λ_=>rfl
 have o:=h.off
 refine ⟨h.plan.wrote k λj hj e=>by unfold One at e;subst e;exact o.1 hj,h.pq,h.came,h.wr.trans k λj hj e=> .inr (.inl e),?_,h.seat.wrote k (λe=>h.ne.2.2.2.2 e.symm) (λe=>h.ne.1 e.symm),(k.block _ (blk_lt h.ctx) (λe=>h.ne.2.1 e.symm)).trans h.ctx,h.lt,h.ne⟩
 rw [blk_setCell h.obj,e]
theorem ctxs {cx':List Value} (h:LaySt w q M W q' t hs vs a1 g lv cx) (hc:W2.heap[M.tb]? =some (.cells cx'.toArray 264 (0,0))) (k:Wr (One M.tb) W W2):LaySt w q M W2 q' t hs vs a1 g lv cx':=by
 have o:=h.off
 exact ⟨h.plan.wrote k λj hj e=>by unfold One at e;subst e;exact o.2.2.2 hj,h.pq,h.came,h.wr.trans k λj hj e=> .inr (.inr e),(k.block _ (blk_lt h.obj) h.ne.2.1).trans h.obj,h.seat.wrote k h.ne.2.2.1 h.ne.2.2.2.1,hc,h.lt,h.ne⟩
theorem cell (h:LaySt w q M W q' t hs vs a1 g lv cx) (i:Nat):W.cell? ⟨M.lb,i,none⟩=(objC M.p M.bud a1 g lv M.tb M.n)[i]? :=blk_cell h.obj i
theorem frz (h:LaySt w q M W q' t hs vs a1 g lv cx) (i:Nat):W.frozen? ⟨M.lb,i,none⟩=false:=blk_frozen h.obj i
end LaySt
structure OwnR (w:World) (W:World) (q':Pl) (v:Value) (l:List Nat):Prop where
 row:RowQ W v (l.map natV)
 off:∀ j,v.ownBlock=some j→w.heap.size≤j∧¬ q'.F j
namespace OwnR
variable {w W W2:World} {q' q2:Pl} {v:Value} {l:List Nat}
theorem grew (h:OwnR w W q' v l) (k:Wr q'.F W W2) (c:Came W q'.F q2.F):OwnR w W2 q2 v l:=
 ⟨h.row.wrote k λj hj=>(h.off j hj).2,λj hj=>⟨(h.off j hj).1,λe=>by
   rcases c j e with e|e
   ·exact (h.off j hj).2 e
   ·have:=h.row.lt j hj;omega⟩⟩
theorem beside {S:Nat→Prop} (h:OwnR w W q' v l) (k:Wr S W W2) (hS:∀ j,v.ownBlock=some j→¬ S j):OwnR w W2 q' v l:=⟨h.row.wrote k hS,h.off⟩
theorem rowAt (h:OwnR w W q' v l) (hl:l≠[]):∃ b o cap,v= .slice (some ⟨b,o,none⟩) l.length cap∧RowAt .i64 W (some ⟨b,o,none⟩) l.length (l.map λ(k:Nat)=>(k:Int))∧¬ q'.F b:=by
 have hr:=h.row
 rcases hr with ⟨_,e⟩|⟨g,off,cap,cur,e,hg,h2,h3,h4⟩
 ·exact absurd (List.map_eq_nil_iff.1 e) hl
 ·rw [List.length_map] at e h2
  refine ⟨g,off,cap,e,⟨List.length_map _,λq=>(by cases q),λb hb j hj=> ?_⟩,(h.off g (by rw [e];rfl)).2⟩
  cases hb
  rw [Addr.add_lit,blk_cell hg]
  have:(l.map natV)[j]? =some (.int .i64 ((l.map λ(k:Nat)=>(k:Int)).getD j 0)):=by
   rw [List.getElem?_map,List.getD_eq_getElem?_getD,List.getElem?_map,List.getElem?_eq_getElem hj]
   rfl
  exact h4 j _ this
end OwnR
theorem OwnR.push {w W W2:World} {q q':Pl} {M:Mk} {t:Int} {hs vs:List Int} {a1:Int} {g:Value} {lv:Nat→Value} {cx:List Value} {v v':Value} {l:List Nat} (hL:LaySt w q M W q' t hs vs a1 g lv cx) (h:OwnR w W q' v l) {k:Nat} (hp:PushQ W W2 v v' (l.map natV) (natV k)):
  LaySt w q M W2 q' t hs vs a1 g lv cx∧OwnR w W2 q' v' (l++[k]):=by
 obtain ⟨h1,h2,h3⟩:=hp
 refine ⟨hL.beside h2 λj e=>h.off j e,⟨by rw [List.map_append];exact h1,λj hj=> ?_⟩⟩
 rcases h3 with e|e
 ·exact h.off j (e▸hj)
 ·have:=e j hj
  have:=hL.wr.size
  exact ⟨by omega,λx=>by have:=hL.plan.lt x;omega⟩
def lH (K:Int) (cnt:Nat→Nat):Nat→List Int
 |0=>[]
 |m+1=>lH K cnt m++(if 0<cnt m then inH K (List.replicate (cnt m) (m:Int)) else [])
def lZ (K:Int) (cnt:Nat→Nat):Nat→Nat
 |0=>0
 |m+1=>lZ K cnt m+(if 0<cnt m then inZ K (cnt m) else 0)
theorem lH_len (K:Int) (cnt:Nat→Nat) (m:Nat):(lH K cnt m).length=lZ K cnt m:=by
 induction m with
 |zero=>rfl
 |succ m ih=>
  unfold lH lZ
  rw [List.length_append,ih]
  split
  ·rw [inH_len List.length_replicate]
  ·rfl
theorem inZ_le (K:Int) (n:Nat):inZ K n≤2*n+2:=by unfold inZ;split;omega;split<;>omega
theorem lZ_le (K:Int) (cnt:Nat→Nat) (m:Nat) (h:∀ c,cnt c≤64):lZ K cnt m≤m*130:=by
 induction m with
 |zero=>exact Nat.le_refl _
 |succ m ih=>
  unfold lZ
  have:=inZ_le K (cnt m)
  have:=h m
  split<;>omega
theorem lZ_mono (K:Int) (cnt:Nat→Nat) {c d:Nat} (h:c<d) (hc:0<cnt c):lZ K cnt c+inZ K (cnt c)≤lZ K cnt d:=by
 induction h with
 |refl=>rw [show lZ K cnt (c+1)=lZ K cnt c+(if 0<cnt c then inZ K (cnt c) else 0) from rfl,if_pos hc];exact Nat.le_refl _
 |step _ ih=>refine Nat.le_trans ih ?_;rename_i m _;show _≤lZ K cnt (m+1);show lZ K cnt m≤lZ K cnt m+_;omega
def nodesI (k:Nat):List Int:=(List.range k).map λ(i:Nat)=>(i:Int)
theorem nodesI_more (k:Nat):nodesI (k+1)=nodesI k++[(k:Int)]:=by unfold nodesI;rw [List.range_succ,List.map_append];rfl
open _root_.Go.Proofs.Tryz
def cxF (hN:Nat→Nat) (n:Nat):List Value:=cxs n hN (λt=>cntH hN (hN t) t) (λ_=> .func (.func 123) #[] #[]) (λ_=>0)
def cx0 (n:Nat):List Value:=cxs n (λ_=>0) (λ_=>0) (λ_=> .nilFunc) (λ_=>0)
def lvK (I:Nat→Ip) (cnt:Nat→Nat) (m c:Nat):Value:=if c<m∧0<cnt c then (I c).val else .nilIface
theorem lvK_skip (I:Nat→Ip) (cnt:Nat→Nat) (m:Nat) (h:¬ 0<cnt m):lvK I cnt (m+1)=lvK I cnt m:=by
 funext c
 unfold lvK
 by_cases q:c<m∧0<cnt c
 ·rw [if_pos q,if_pos ⟨by omega,q.2⟩]
 ·rw [if_neg q,if_neg λe=>q ⟨by have:=e.1;by_cases r:c=m;(subst r;exact absurd e.2 h);omega,e.2⟩]
theorem lvK_add (I:Nat→Ip) (J:Ip) (cnt:Nat→Nat) (m:Nat) (h:0<cnt m):lvK (upd I m J) cnt (m+1)=upd (lvK I cnt m) m J.val:=by
 funext c
 by_cases e:c=m
 ·subst e
  rw [upd_same]
  unfold lvK
  rw [if_pos ⟨by omega,h⟩,upd_same]
 ·rw [upd_other _ _ e]
  unfold lvK
  rw [upd_other _ _ e]
  by_cases q:c<m∧0<cnt c
  ·rw [if_pos q,if_pos ⟨by omega,q.2⟩]
  ·rw [if_neg q,if_neg λr=>q ⟨by omega,r.2⟩]
def gH (G:Int):List Int:=nodesI 8++inH G (nodesI 8)
structure LdSt (w:World) (q:Pl) (M:Mk) (t:Int) (hs vs:List Int) (hN:Nat→Nat) (G K:Int) (vq:Nat→Value) (gi:Ip) (m:Nat) (q':Pl) (I:Nat→Ip) (W:World):Prop where
 lay:LaySt w q M W q' t (hs++gH G++lH K (λc=>cntH hN c M.n) m) (vs++List.replicate (8+inZ G 8+lZ K (λc=>cntH hN c M.n) m) 0) hs.length gi.val (lvK I (λc=>cntH hN c M.n) m) (cxF hN M.n)
 glo:∀ ps,InAt W gi (.pointer none) (newInn G 8 ps)
 ga:gi.a=hs.length+8∧w.heap.size≤gi.lo
 loc:∀ c,c<m→0<cntH hN c M.n→(∀ ps,InAt W (I c) (.pointer none) (newInn K (cntH hN c M.n) ps))∧(I c).a=hs.length+8+inZ G 8+lZ K (λc=>cntH hN c M.n) c∧gi.hi≤(I c).lo
 ord:∀ c d,c<d→d<m→0<cntH hN c M.n→0<cntH hN d M.n→(I c).hi≤(I d).lo
 rows:∀ c,c<8→OwnR w W q' (vq c) (rowK hN M.n c)
theorem gH_len (G:Int):(gH G).length=8+inZ G 8:=by
 unfold gH
 rw [List.length_append,inH_len (n:=8) rfl]
 rfl
namespace LdSt
variable {w W W2:World} {q q' q2:Pl} {M:Mk} {t:Int} {hs vs:List Int} {hN:Nat→Nat} {G K:Int} {vq:Nat→Value} {gi:Ip} {m:Nat} {I:Nat→Ip}
theorem after (h:LdSt w q M t hs vs hN G K vq gi m q' I W) (k:Wr Nil W W2):LdSt w q M t hs vs hN G K vq gi m q' I W2:=
 ⟨h.lay.after k,λps=>(h.glo ps).after k,h.ga,λc hc hp=>⟨λps=>((h.loc c hc hp).1 ps).after k,(h.loc c hc hp).2⟩,h.ord,λc hc=>(h.rows c hc).beside k λ_ _=>id⟩
theorem skip (h:LdSt w q M t hs vs hN G K vq gi m q' I W) (hm:¬ 0<cntH hN m M.n):LdSt w q M t hs vs hN G K vq gi (m+1) q' I W:=by
 have e1:lH K (λc=>cntH hN c M.n) (m+1)=lH K (λc=>cntH hN c M.n) m:=by
  show _++(if 0<cntH hN m M.n then _ else [])=_
  rw [if_neg hm,List.append_nil]
 have e2:lZ K (λc=>cntH hN c M.n) (m+1)=lZ K (λc=>cntH hN c M.n) m:=by
  show _+(if 0<cntH hN m M.n then _ else 0)=_
  rw [if_neg hm,Nat.add_zero]
 refine ⟨by rw [e1,e2,lvK_skip I (λc=>cntH hN c M.n) m hm];exact h.lay,h.glo,h.ga,λc hc hp=> ?_,λc d hcd hd hp hq=> ?_,h.rows⟩
 ·have:c≠m:=λe=>by subst e;exact hm hp
  exact h.loc c (by omega) hp
 ·have:d≠m:=λe=>by subst e;exact hm hq
  exact h.ord c d hcd (by omega) hp hq
theorem add (h:LdSt w q M t hs vs hN G K vq gi m q' I W) (hm:m<8) (hc:0<cntH hN m M.n) {e:Ending} (hp:InnerPost W q' t (hs++gH G++lH K (λc=>cntH hN c M.n) m) (vs++List.replicate (8+inZ G 8+lZ K (λc=>cntH hN c M.n) m) 0) K (cntH hN m M.n) (List.replicate (cntH hN m M.n) (m:Int)) e W2):
  ∃ (J:Ip) (q2:Pl),e= .returned (.iface J.ty (.pointer (some ⟨J.lb,0,none⟩)))∧(W2.cell? ⟨M.lb,5+m,none⟩=some (lvK I (λc=>cntH hN c M.n) m m)∧W2.frozen? ⟨M.lb,5+m,none⟩=false)∧LdSt w q M t hs vs hN G K vq gi (m+1) q2 (upd I m J) (W2.setCell ⟨M.lb,5+m,none⟩ (.iface J.ty (.pointer (some ⟨J.lb,0,none⟩)))):=by
 obtain ⟨J,q2,rfl,i1,i2,i3,i4,i5,i6,i7⟩:=hp
 have hl2:=h.lay.grew i5 i4 i6 i7
 have hl3:=hl2.set0 (5+m) J.val (objC_setL M.p M.bud hs.length gi.val J.val (lvK I (λc=>cntH hN c M.n) m) M.tb M.n hm)
 have k:Wr (One M.lb) W2 (W2.setCell ⟨M.lb,5+m,none⟩ J.val):=(Wr.refl _ W2).setCell _ _ λ_=>rfl
 have hlt:=h.lay.lt.1
 have hg:=h.ga.2
 have hgi:=(h.glo ⟨[],[],[],[],[]⟩).rng.1
 have gle:=(h.glo ⟨[],[],[],[],[]⟩).le
 refine ⟨J,q2,rfl,⟨(hl2.cell _).trans (objC_at _ _ _ _ _ _ _ hm),hl2.frz _⟩,?_⟩
 have e1:lH K (λc=>cntH hN c M.n) (m+1)=lH K (λc=>cntH hN c M.n) m++inH K (List.replicate (cntH hN m M.n) (m:Int)):=by
  show _++(if 0<cntH hN m M.n then _ else [])=_
  rw [if_pos hc]
 have e2:lZ K (λc=>cntH hN c M.n) (m+1)=lZ K (λc=>cntH hN c M.n) m+inZ K (cntH hN m M.n):=by
  show _+(if 0<cntH hN m M.n then _ else 0)=_
  rw [if_pos hc]
 have sz:=i6.size
 refine ⟨?_,λps=>((h.glo ps).plan h.lay.plan i6).wrote k λb b1 _ e=>by unfold One at e;omega,h.ga,λc hcm hp=> ?_,λc d hcd hd hp hq=> ?_,λc hc8=> ?_⟩
 ·rw [e1,e2,lvK_add I J (λc=>cntH hN c M.n) m hc,←List.append_assoc,←Nat.add_assoc,←List.replicate_append_replicate,←List.append_assoc]
  exact hl3
 ·by_cases q:c=m
  ·subst q
   rw [upd_same]
   refine ⟨λps=>(i1 ps).wrote k λb b1 _ e=>by unfold One at e;omega,?_,by omega⟩
   rw [i2,List.length_append,List.length_append,gH_len,lH_len]
   omega
  ·rw [upd_other _ _ q]
   obtain ⟨a,b,d⟩:=h.loc c (by omega) hp
   exact ⟨λps=>((a ps).plan h.lay.plan i6).wrote k λb b1 _ e=>by unfold One at e;omega,b,d⟩
 ·by_cases q:d=m
  ·subst q
   rw [upd_same,upd_other _ _ (by omega)]
   have:=((h.loc c (by omega) hp).1 ⟨[],[],[],[],[]⟩).le
   omega
  ·rw [upd_other _ _ q,upd_other _ _ (by omega)]
   exact h.ord c d hcd (by omega) hp hq
 ·exact ((h.rows c hc8).grew i6 i7).beside k λj hj e=>by have:=((h.rows c hc8).off j hj).1;unfold One at e;omega
end LdSt
theorem ixr_0 (v0 v1 v2 v3 v4 v5 v6 v7:Value) (w:World):(Instr.index 254 (.agg #[v0,v1,v2,v3,v4,v5,v6,v7]) (.int .i64 ((0:Nat):Int))).run prog w= .ok v0 w:=by kernel_rfl
theorem ixr_1 (v0 v1 v2 v3 v4 v5 v6 v7:Value) (w:World):(Instr.index 254 (.agg #[v0,v1,v2,v3,v4,v5,v6,v7]) (.int .i64 ((1:Nat):Int))).run prog w= .ok v1 w:=by kernel_rfl
theorem ixr_2 (v0 v1 v2 v3 v4 v5 v6 v7:Value) (w:World):(Instr.index 254 (.agg #[v0,v1,v2,v3,v4,v5,v6,v7]) (.int .i64 ((2:Nat):Int))).run prog w= .ok v2 w:=by kernel_rfl
theorem ixr_3 (v0 v1 v2 v3 v4 v5 v6 v7:Value) (w:World):(Instr.index 254 (.agg #[v0,v1,v2,v3,v4,v5,v6,v7]) (.int .i64 ((3:Nat):Int))).run prog w= .ok v3 w:=by kernel_rfl
theorem ixr_4 (v0 v1 v2 v3 v4 v5 v6 v7:Value) (w:World):(Instr.index 254 (.agg #[v0,v1,v2,v3,v4,v5,v6,v7]) (.int .i64 ((4:Nat):Int))).run prog w= .ok v4 w:=by kernel_rfl
theorem ixr_5 (v0 v1 v2 v3 v4 v5 v6 v7:Value) (w:World):(Instr.index 254 (.agg #[v0,v1,v2,v3,v4,v5,v6,v7]) (.int .i64 ((5:Nat):Int))).run prog w= .ok v5 w:=by kernel_rfl
theorem ixr_6 (v0 v1 v2 v3 v4 v5 v6 v7:Value) (w:World):(Instr.index 254 (.agg #[v0,v1,v2,v3,v4,v5,v6,v7]) (.int .i64 ((6:Nat):Int))).run prog w= .ok v6 w:=by kernel_rfl
theorem ixr_7 (v0 v1 v2 v3 v4 v5 v6 v7:Value) (w:World):(Instr.index 254 (.agg #[v0,v1,v2,v3,v4,v5,v6,v7]) (.int .i64 ((7:Nat):Int))).run prog w= .ok v7 w:=by kernel_rfl
theorem ixr (vq:Nat→Value) {m:Nat} (hm:m<8) (w:World):(Instr.index 254 (.agg (arr8 vq)) (.int .i64 (m:Nat))).run prog w= .ok (vq m) w:=by
 rw [arr8_lit]
 have:m=0∨m=1∨m=2∨m=3∨m=4∨m=5∨m=6∨m=7:=by omega
 rcases this with rfl|rfl|rfl|rfl|rfl|rfl|rfl|rfl
 ·exact ixr_0 _ _ _ _ _ _ _ _ w
 ·exact ixr_1 _ _ _ _ _ _ _ _ w
 ·exact ixr_2 _ _ _ _ _ _ _ _ w
 ·exact ixr_3 _ _ _ _ _ _ _ _ w
 ·exact ixr_4 _ _ _ _ _ _ _ _ w
 ·exact ixr_5 _ _ _ _ _ _ _ _ w
 ·exact ixr_6 _ _ _ _ _ _ _ _ w
 ·exact ixr_7 _ _ _ _ _ _ _ _ w
def LayPost (w:World) (q:Pl) (M:Mk) (t:Int) (hs vs:List Int) (hN:Nat→Nat) (G K:Int) (e:Ending) (W:World):Prop:=
 e= .returned (.tuple #[])∧∃ vq gi q' I,LdSt w q M t hs vs hN G K vq gi 8 q' I W
theorem ok_nodes:homesOK (nodesI 8)=true:=by decide
theorem ok_rep (c m:Nat) (h:m<8):homesOK (List.replicate c (m:Int))=true:=by
 unfold homesOK
 rw [List.all_eq_true]
 intro x hx
 rw [List.eq_of_mem_replicate hx]
 unfold okH
 exact decide_eq_true (by omega)
theorem lay_row {w W:World} {q q':Pl} {M:Mk} {t:Int} {hs vs:List Int} {a1:Int} {g:Value} {lv:Nat→Value} {cx:List Value} {bh o n:Nat} {zs:List Int} (h:LaySt w q M W q' t hs vs a1 g lv cx) (hR:RowAt .i64 w (some ⟨bh,o,none⟩) n zs) (hb:¬ LyF q M bh):RowAt .i64 W (some ⟨bh,o,none⟩) n zs:=
 ⟨hR.len,hR.empty,λb hb2 j hj=>h.wr.cell (hR.cell b hb2 j hj) (by cases hb2;rw [Addr.add_lit];exact hb)⟩
structure LdPre (w:World) (q:Pl) (M:Mk) (t:Int) (hs vs:List Int) (G:Int) (gi:Ip) (q':Pl) (W:World):Prop where
 lay:LaySt w q M W q' t (hs++nodesI 8++inH G (nodesI 8)) (vs++List.replicate 8 0++List.replicate (inZ G 8) 0) hs.length gi.val (λ_=> .nilIface) (cx0 M.n)
 glo:∀ ps,InAt W gi (.pointer none) (newInn G 8 ps)
 ga:gi.a=hs.length+8∧w.heap.size≤gi.lo
theorem ld_pre {w W2 Wa:World} {q q2:Pl} {M:Mk} {t:Int} {hs vs:List Int} {G:Int} {gi:Ip} {v:Value}
  (h:LaySt w q M (W2.setCell ⟨M.lb,4,none⟩ v) q2 t (hs++nodesI 8++inH G (nodesI 8)) (vs++List.replicate 8 0++List.replicate (inZ G 8) 0) hs.length gi.val (λ_=> .nilIface) (cx0 M.n))
  (i1:∀ ps,InAt W2 gi (.pointer none) (newInn G 8 ps)) (i2:gi.a=(hs++nodesI 8).length) (i3:w.heap.size≤gi.lo):LdPre w q M t hs vs G gi q2 (W2.setCell ⟨M.lb,4,none⟩ v):=by
 have k:Wr (One M.lb) W2 (W2.setCell ⟨M.lb,4,none⟩ v):=(Wr.refl _ W2).setCell _ _ λ_=>rfl
 have l:=h.lt.1
 refine ⟨h,λps=>(i1 ps).wrote k λb b1 _ e=>by unfold One at e;omega,?_,i3⟩
 rw [i2,List.length_append]
 rfl
theorem ld_start {w W W2:World} {q q2:Pl} {M:Mk} {t:Int} {hs vs:List Int} {G K:Int} {gi:Ip} {hN:Nat→Nat} {vq:Nat→Value} (h:LdPre w q M t hs vs G gi q2 W)
  (g1:W2.heap[M.tb]? =some (.cells (cxs M.n hN (λt=>cntH hN (hN t) t) (λ_=> .func (.func 123) #[] #[]) (λ_=>0)).toArray 264 (0,0)))
  (g2:∀ c,c<8→RowQ W2 (vq c) ((rowK hN M.n c).map natV)∧∀ j,(vq c).ownBlock=some j→W.heap.size≤j) (g3:Wr (One M.tb) W W2):
  LdSt w q M t hs vs hN G K vq gi 0 q2 (λ_=>gi) W2:=by
 have l:=h.lay.lt.2.2.2
 have hsz:=h.lay.wr.size
 refine ⟨?_,λps=>(h.glo ps).wrote g3 λb b1 _ e=>by unfold One at e;have:=h.ga.2;omega,h.ga,λc hc=>by omega,λc d _ hd=>by omega,λc hc=>⟨(g2 c hc).1,λj hj=> ?_⟩⟩
 ·have e1:hs++gH G++lH K (λc=>cntH hN c M.n) 0=hs++nodesI 8++inH G (nodesI 8):=by unfold gH lH;rw [List.append_nil,List.append_assoc]
  have e2:vs++List.replicate (8+inZ G 8+lZ K (λc=>cntH hN c M.n) 0) 0=vs++List.replicate 8 0++List.replicate (inZ G 8) 0:=by unfold lZ;rw [Nat.add_zero,←List.replicate_append_replicate,List.append_assoc]
  have e3:lvK (λ_=>gi) (λc=>cntH hN c M.n) 0=λ_=> .nilIface:=by funext c;unfold lvK;exact if_neg λe=>by omega
  rw [e1,e2,e3]
  exact h.lay.ctxs g1 g3
 ·have:=(g2 c hc).2 j hj
  exact ⟨by omega,λe=>by have:=h.lay.plan.lt e;omega⟩
theorem fl_lay {w:World} {q:Pl} {M:Mk} {t:Int} {hs vs:List Int} {hN:Nat→Nat} {G K:Int} {bh o cap:Nat} {zs:List Int} (hL0:LaySt w q M w q t hs vs 0 .nilIface (λ_=> .nilIface) (cx0 M.n)) (hG:G=1∨G=3∨G=4) (hK:K=1∨K=3∨K=4)
  (hR:RowAt .i64 w (some ⟨bh,o,none⟩) M.n zs) (hH:∀ t,t<M.n→zs.getD t 0=(hN t:Nat)∧hN t<8) (n1:1≤M.n) (n64:M.n≤64) (hb:¬ LyF q M bh) (hbl:bh<w.heap.size) (hLn:hs.length≤700000):
  Calls prog 93 #[.pointer (some ⟨M.lb,0,none⟩),.pointer (some ⟨q.p,0,none⟩),.slice (some ⟨bh,o,none⟩) M.n cap,.int .i64 G,.int .i64 K] w (LayPost w q M t hs vs hN G K):=by
 have cLen:=pllen_any hL0.plan
 have z3:=hL0.frz 3
 have c3:w.cell? ⟨M.lb,3,none⟩=some (.int .i64 0):=hL0.cell 3
 have hA:=hL0.set0 3 (.int .i64 (hs.length:Nat)) (objC_setA M.p M.bud 0 (hs.length:Nat) .nilIface (λ_=> .nilIface) M.tb M.n)
 have HA:=Lib.hid hA
 have HE:=Lib.hid (And.intro hR (And.intro hH (And.intro hb hbl)))
 clear hL0 hA hR hH hb
 go_enter func93,ntmps93
 go_wp2_with (go_at_call 106;(with_reducible refine cLen.mono ?_);rintro e w' ⟨rfl,hw'⟩;subst w')
 go_loopw [10,11,19] (λnv _ i wr=>∃ (k:Nat) (q':Pl),k≤8∧i= .int .i64 k∧LaySt w q M wr q' t (hs++nodesI k) (vs++List.replicate k 0) hs.length .nilIface (λ_=> .nilIface) (cx0 M.n)∧OwnR w wr q' nv (List.range k)) (λ_ _ i _=>8-(intOf i).toNat)
 case atStart=>exact ⟨0,q,by decide,rfl,by simpa [nodesI] using HA.out,⟨RowQ.nil _,λj hj=>by cases hj⟩⟩
 case round=>
  clear HA
  obtain ⟨k,q',hk,rfl,hl,hO⟩:=hrel
  by_cases hlt:k<8
  ·have cW:=plword_any hl.plan (k:Int) 0 (by rw [List.length_append];unfold nodesI;rw [List.length_map,List.length_range];omega)
   rw [hl.pq] at cW
   obtain ⟨sa,cp,hv⟩:=hO.row.form
   rw [List.length_map,List.length_range] at hv
   subst hv
   have HL:=Lib.hid (And.intro hl hO)
   clear hl hO
   go_wp2_with (first
    |(go_at_call 82;(with_reducible refine cW.mono ?_);intro e w2 hq;unfold PlanPost at hq;obtain ⟨rfl,q2,g1,g2,g3,g4⟩:=hq;have hl2:=HL.out.1.grew g2 g1 g3 g4;have hO2:=HL.out.2.grew g3 g4;have HM:=Lib.hid (And.intro hl2 hO2);clear g1 g2 g3 g4 hl2 hO2)
    |(at_builtin;refine wpList_push rfl _ _ rfl rfl (HM.out.2.beside ((Wr.refl Nil w2).alloc _) λ_ _=>id).row ⟨w2.heap.size,0,none⟩ (natV k) rfl (by rw [blk_cell (Go.Deep.blk_alloc_new _ _)];rfl) (by simp [natV,Value.oneCell']) (by rw [List.length_map,List.length_range];omega) ?_;intro v' w6 hp;have HP:=Lib.hid (OwnR.push (HM.out.1.after ((Wr.refl _ _).alloc _)) (HM.out.2.beside ((Wr.refl Nil w2).alloc _) λ_ _=>id) hp);clear hp))
   go_roundw
   case rel=>
    refine ⟨k+1,q2,by omega,by go_num,?_,by rw [List.range_succ];exact HP.out.2⟩
    rw [nodesI_more,←List.append_assoc,←rep_more]
    exact HP.out.1
   case measure=>simp [intOf];omega
  ·obtain rfl:k=8:=by omega
   obtain ⟨bn,on,cn,hv,hra,hbn⟩:=hO.rowAt (by decide)
   rw [List.length_range] at hv hra
   subst hv
   have hlen:(hs++nodesI 8).length=hs.length+8:=by rw [List.length_append];rfl
   have cG:=fl_inner (cap:=cn) hl.plan hG hra ok_nodes (by decide) (by decide) (by rw [hlen];omega) hbn
   rw [hl.pq] at cG
   have HL:=Lib.hid hl
   clear hl hO hra hbn
   go_wp2_with (first
    |(go_at_call 110;(with_reducible refine cG.mono ?_);intro e w2 hq;unfold InnerPost at hq;obtain ⟨gi,q2,rfl,i1,i2,i3,i4,i5,i6,i7⟩:=hq;unfold Ip.val;have hl2:=HL.out.grew i5 i4 i6 i7;have c4:w2.cell? ⟨M.lb,4,none⟩=some .nilIface:=hl2.cell 4;have z4:=hl2.frz 4;have hl3:=hl2.set0 4 (.iface gi.ty (.pointer (some ⟨gi.lb,0,none⟩))) (objC_setG M.p M.bud hs.length .nilIface gi.val (λ_=> .nilIface) M.tb M.n);have c13:(w2.setCell ⟨M.lb,4,none⟩ (.iface gi.ty (.pointer (some ⟨gi.lb,0,none⟩)))).cell? ⟨M.lb,13,none⟩=some (.slice (some ⟨M.tb,0,none⟩) M.n M.n):=hl3.cell 13;have hR3:=lay_row hl3 HE.out.1 HE.out.2.2.1;have cP:=fl_places (cap:=cap) c13 hl3.ctx hR3 HE.out.2.1 n64 hl3.ne.2.1 (λe=>HE.out.2.2.1 (.inr (.inr e)));have HG:=Lib.hid (ld_pre (Wa:=w2) hl3 i1 i2 (Nat.le_trans HL.out.wr.size i3.1));clear i1 i2 i3 i4 i5 i6 i7 hl2 hl3 hR3 c13)
    |(go_at_call 111;(with_reducible refine cP.mono ?_);intro e w3 hq;unfold PlacesPost at hq;obtain ⟨vq,rfl,g1,g2,g3⟩:=hq;have HS:=Lib.hid (ld_start (K:=K) HG.out g1 g2 g3);clear g1 g2 g3 cP cG))
   clear HL
   go_loopw [12,13,40] (λ_ _ i wr=>∃ (m:Nat) (q':Pl) (I:Nat→Ip),m≤8∧i= .int .i64 m∧LdSt w q M t hs vs hN G K vq gi m q' I wr) (λ_ _ i _=>8-(intOf i).toNat)
   case atStart=>exact ⟨0,_,_,by decide,rfl,HS.out⟩
   case round=>
    clear HS HG
    obtain ⟨m,q',I,hm,rfl,hl⟩:=hrel
    by_cases hlt:m<8
    ·have hx:=ixr vq hlt
     obtain ⟨sa,cp,hv⟩:=(hl.rows m hlt).row.form
     rw [List.length_map,show (rowK hN M.n m).length=cntH hN m M.n from List.length_replicate] at hv
     by_cases hc:0<cntH hN m M.n
     ·have hlY:=hl.after ((Wr.refl Nil wr).drew)
      obtain ⟨bm,om,cm,hv2,hra,hbm⟩:=(hlY.rows m hlt).rowAt (by intro e;have:=congrArg List.length e;rw [show (rowK hN M.n m).length=cntH hN m M.n from List.length_replicate] at this;simp at this;omega)
      rw [show (rowK hN M.n m).length=cntH hN m M.n from List.length_replicate] at hv2 hra
      rw [show (rowK hN M.n m).map (λ(k:Nat)=>(k:Int))=List.replicate (cntH hN m M.n) (m:Int) from List.map_replicate] at hra
      have c64:=cntH_le hN m M.n
      have lz:=lZ_le K (λc=>cntH hN c M.n) m λc=>by have:=cntH_le hN c M.n;omega
      have gz:=inZ_le G 8
      have cI:=fl_inner (cap:=cm) hlY.lay.plan hK hra (ok_rep _ _ hlt) hc (by omega) (by rw [List.length_append,List.length_append,gH_len,lH_len];omega) hbm
      rw [hlY.lay.pq] at cI
      rw [hv2] at hx
      have hcI:(0:Int)<(cntH hN m M.n:Nat):=by omega
      have hmI:(m:Int)<8:=by omega
      have em:lvK I (λc=>cntH hN c M.n) m m= .nilIface:=if_neg λe=>by omega
      have HL:=Lib.hid (And.intro hlY hc)
      clear hl hlY hv hv2 hra hbm lz gz
      generalize hcn:cntH hN m M.n=cn2 at hx cI hcI c64
      have HC:=Lib.hid hcn
      clear hcn hc
      go_wp2
      go_region_held3 (λ_=>True) (exact trivial) (first|(go_at_call 110;(with_reducible refine cI.mono ?_);intro e w5 hq;rw [←HC.out] at hq;obtain ⟨J,q3,rfl,⟨c5,z5⟩,hld⟩:=HL.out.1.add hlt HL.out.2 hq;rw [em] at c5;have HJ:=Lib.hid hld;clear hld hq))
      all_goals
       go_wp2
       go_roundw
       case rel=>exact ⟨m+1,_,_,by omega,by go_num,HJ.out⟩
       case measure=>simp [intOf];omega
     ·have h0:cntH hN m M.n=0:=by omega
      rw [h0] at hv
      rw [hv] at hx
      have HL:=Lib.hid (hl.skip hc)
      clear hl hv h0 hc
      go_wp2
      go_roundw
      case rel=>exact ⟨m+1,_,_,by omega,by go_num,HL.out⟩
      case measure=>simp [intOf];omega
    ·obtain rfl:m=8:=by omega
     have HL:=Lib.hid hl
     clear hl
     go_wp2
     go_end0
     exact ⟨rfl,vq,gi,q',I,HL.out⟩
end Go.Proofs.YtcikfcplagelaaaGreat
