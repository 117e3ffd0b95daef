
import Derived.Test.YtmnephejhkfchaaGreatCoVia
import Derived.Test.YtmnephejhkfchaaGreatPoolNew
namespace Go.Proofs.YtmnephejhkfchaaGreat.Ka
open _root_.Go.Proofs.Tryz
open Go.RowKit
set_option linter.unusedVariables false
set_option maxRecDepth 100000
def _root_.Go.Proofs.YtmnephejhkfchaaGreat.SS.NpA (s:SS):Prop:=s.probed=false∧(∀ k,s.st k≠4)∧∀ k,s.dl k= -1∨0≤s.dl k
def _root_.Go.Proofs.YtmnephejhkfchaaGreat.SS.KeA (s s':SS):Prop:=s'.n=s.n∧(s.NpA→s'.NpA∧∀ k,s'.st k=s.st k∨(s.st k=0∧s'.st k=1)∨(s.st k=2∧s'.st k=3))
theorem _root_.Go.Proofs.YtmnephejhkfchaaGreat.SS.set_npA {s:SS} (h:s.NpA) (k:Nat) (x d:Int) (hx:x≠4) (hd:d= -1∨0≤d):(s.set k x d).NpA:=by
 refine ⟨h.1,λj=> ?_,λj=> ?_⟩
 ·show upd s.st k x j≠4
  by_cases e:j=k
  ·subst e;rw [upd_same];exact hx
  ·rw [upd_other _ _ e];exact h.2.1 j
 ·show upd s.dl k d j= -1∨0≤upd s.dl k d j
  by_cases e:j=k
  ·subst e;rw [upd_same];exact hd
  ·rw [upd_other _ _ e];exact h.2.2 j
theorem _root_.Go.Proofs.YtmnephejhkfchaaGreat.SS.set_stA (s:SS) (k:Nat) (x d:Int):(s.set k x d).st=upd s.st k x:=rfl
theorem _root_.Go.Proofs.YtmnephejhkfchaaGreat.SS.lock_kA (s:SS) (t d:Int):s.KeA (s.lock t d):=by
 refine ⟨s.lock_n t d,λh=> ?_⟩
 unfold SS.lock
 split
 ·rename_i hE
  unfold lockE at hE
  split at hE
  ·rename_i hq
   split at hE
   ·rename_i h0
    refine ⟨SS.set_npA h _ _ _ (by decide) (by omega),λj=> ?_⟩
    rw [SS.set_stA]
    by_cases e:j=t.toNat
    ·subst e;rw [upd_same];exact .inr (.inl ⟨h0,rfl⟩)
    ·rw [upd_other _ _ e];exact .inl rfl
   ·exact absurd hE (by decide)
  ·exact absurd hE (by decide)
 ·exact ⟨h,λ_=> .inl rfl⟩
theorem _root_.Go.Proofs.YtmnephejhkfchaaGreat.SS.turn_kA (s:SS) (t x:Int) (hx:x=3):s.KeA (s.turn t x):=by
 subst hx
 refine ⟨s.turn_n t 3,λh=> ?_⟩
 unfold SS.turn
 split
 ·rename_i hE
  unfold turnE at hE
  split at hE
  ·split at hE
   ·exact absurd hE (by decide)
   ·split at hE
    ·rename_i h2
     refine ⟨SS.set_npA h _ _ _ (by decide) (h.2.2 _),λj=> ?_⟩
     rw [SS.set_stA]
     by_cases e:j=t.toNat
     ·subst e;rw [upd_same];exact .inr (.inr ⟨h2,rfl⟩)
     ·rw [upd_other _ _ e];exact .inl rfl
    ·exact absurd hE (by decide)
  ·exact absurd hE (by decide)
 ·exact ⟨h,λ_=> .inl rfl⟩
theorem _root_.Go.Proofs.YtmnephejhkfchaaGreat.SS.fin_npA {s:SS} (h:s.NpA) (t ev:Int):(s.fin t ev).NpA:=by
 unfold SS.fin
 split
 ·rename_i y e
  refine SS.set_npA h _ _ _ ?_ (by omega)
  unfold endO behindI at e
  repeat' split at e
  all_goals first|(cases e;decide)|cases e
 ·exact h
def finS (x ev:Int):Int:=(behindI x ev).getD x
theorem _root_.Go.Proofs.YtmnephejhkfchaaGreat.SS.fin_stA (s:SS) (k:Nat) (hk:k<s.n) (ev:Int):(s.fin k ev).st=upd s.st k (finS (s.st k) ev):=by
 unfold SS.fin endO finS
 rw [if_pos (show 0≤(k:Int)∧(k:Int)<s.n by omega),Int.toNat_natCast]
 cases behindI (s.st k) ev with
 |some y=>rfl
 |none=>
  funext j
  by_cases e:j=k
  ·subst e;rw [upd_same];rfl
  ·rw [upd_other _ _ e]
theorem _root_.Go.Proofs.YtmnephejhkfchaaGreat.SS.fin_st0A (s:SS) (t:Int):(s.fin t 0).st=s.st:=by
 unfold SS.fin endO
 by_cases h:0≤t∧t<s.n
 ·rw [if_pos h]
  have:behindI (s.st t.toNat) 0=none:=by
   unfold behindI
   repeat' split
   all_goals first|rfl|(exfalso;omega)
  rw [this]
 ·rw [if_neg h]
structure Pc where
 st:Int
 tr:Int
 nd:Int
 ot:Int
def Pc.cells (p:Pc):List Value:=[.int .i64 p.st,.int .i64 p.tr,.int .u32 p.nd,.int .u32 p.ot]
def tkC (G:Nat→Pc) (t:Nat):List Value:=(G t).cells
theorem tkC_len (G:Nat→Pc):∀ x,(tkC G x).length=4:=λ_=>rfl
def tks (n:Nat) (G:Nat→Pc):List Value:=(List.range n).flatMap (tkC G)
theorem tks_at (n:Nat) (G:Nat→Pc) {k:Nat} (hk:k<n) {j:Nat} (hj:j<4):(tks n G)[k*4+j]? =(G k).cells[j]? :=flat_at' (tkC_len G) _ (by rw [List.getElem?_range hk]) hj
theorem range_at {n i t:Nat} (ht:(List.range n)[i]? =some t):i<n∧t=i:=by
 have hi:i<n:=by have:=(List.getElem?_eq_some_iff.1 ht).1;simpa using this
 rw [List.getElem?_range hi] at ht
 exact ⟨hi,by simpa using ht.symm⟩
theorem tks_set (n:Nat) (G:Nat→Pc) (k j:Nat) (v:Value) (p:Pc) (hj:j<4) (hp:p.cells=(G k).cells.set j v):(tks n G).set (k*4+j) v=tks n (upd G k p):=by
 refine flat_set (tkC_len G) (tkC_len _) _ k j hj _ λi t ht l hl=> ?_
 obtain ⟨_,rfl⟩:=range_at ht
 unfold tkC
 by_cases e:t=k
 ·subst e
  rw [upd_same,hp,List.getElem?_set]
  have hlen:(G t).cells.length=4:=rfl
  by_cases el:l=j
  ·subst el;simp [hlen,hj]
  ·simp [el,Ne.symm el]
 ·simp [upd_other _ _ e,e]
theorem upd_sf {α:Type} (f:Nat→α) (k j:Nat):f j=upd f k (f k) j:=by
 by_cases e:j=k
 ·subst e;rw [upd_same]
 ·rw [upd_other _ _ e]
theorem upd_id {α:Type} (g:Nat→α) (k:Nat) {x:α} (h:x=g k):upd g k x=g:=by subst h;exact funext λj=>(upd_sf g k j).symm
theorem upd_upd {α:Type} (g:Nat→α) (k:Nat) (x y:α):upd (upd g k x) k y=upd g k y:=by
 funext j
 by_cases e:j=k
 ·subst e;rw [upd_same,upd_same]
 ·rw [upd_other _ _ e,upd_other _ _ e,upd_other _ _ e]
structure PlI (x pc nd oth tr:Int) (ea:Nat) (p:Pc):Prop where
 st:p.st=pc-1
 pr:1≤pc∧pc≤8
 nr:0≤nd∧nd<4294967296
 orr:0≤oth∧oth<4294967296
 tr0:x≠1→tr=0
 tr1:0≤tr∧tr≤ea
 tr2:x≠9→pc=1→tr<ea∧p.tr=tr
 n0:pc≠1→p.nd=nd
 n1:x=2∨x=3→p.nd=nd
 o1:x=1→6≤pc→p.ot=oth
 o3:x=3→pc=4∨pc=5→p.ot=oth
 idle:x≠1→x≠3→pc=1
 rel:x=3→pc≤6
 pn:0≤p.nd∧p.nd<4294967296
 po:0≤p.ot∧p.ot<4294967296
theorem PlI.turn {x y pc nd oth tr:Int} {ea:Nat} {p:Pc} (h:PlI x pc nd oth tr ea p) (hy:y=x∨(x=0∧y=1)∨(x=2∧y=3)):PlI y pc nd oth tr ea p:=by
 rcases hy with rfl|⟨rfl,rfl⟩|⟨rfl,rfl⟩
 ·exact h
 ·have e:=h.idle (by decide) (by decide)
  exact ⟨h.st,h.pr,h.nr,h.orr,λ_=>h.tr0 (by decide),h.tr1,λ_=>h.tr2 (by decide),h.n0,λq=>by omega,λ_ q=>by omega,λq=>by omega,λq=>by omega,λq=>by omega,h.pn,h.po⟩
 ·have e:=h.idle (by decide) (by decide)
  exact ⟨h.st,h.pr,h.nr,h.orr,λ_=>h.tr0 (by decide),h.tr1,λ_=>h.tr2 (by decide),h.n0,λq=>h.n1 (.inl rfl),λq=>by omega,λ_ q=>by omega,λq=>by omega,λq=>by omega,h.pn,h.po⟩
structure FlRaw (w:World) (L:Lp) (pv:Value) (s:SS) (σ:Nat→Int) (ea:Nat) (pc nd oth tr:Nat→Int):Prop where
 obj:∃ Q:Pp,w.heap[L.lb]? =some (.cells #[.pointer (some ⟨L.p,0,none⟩),pv,.pointer (some ⟨Q.p,0,none⟩),.int .i64 L.a1,.slice (some ⟨L.tb,0,none⟩) s.n s.n] 134 (0,0))∧
  PoolAt w Q (newPl s.n ea)∧∀ b,Q.F s.n b→b<L.lb∧L.p<b∧b≠L.b∧b≠L.tb
 seat:SeatAt w L.p L.b s
 tick:∃ G:Nat→Pc,w.heap[L.tb]? =some (.cells (tks s.n G).toArray 254 (0,0))∧∀ k,PlI (σ k) (pc k) (nd k) (oth k) (tr k) ea (G k)
 np:s.NpA
 ne:L.lb≠L.b∧L.lb≠L.tb∧L.p≠L.tb∧L.b≠L.tb∧L.lb≠L.p
 each:1≤ea∧ea≤8
 adr:0≤L.a1∧L.a1≤2000000∧L.a2=L.a1+1
namespace FlRaw
variable {w w':World} {L:Lp} {pv:Value} {s:SS} {σ:Nat→Int} {ea:Nat} {pc nd oth tr:Nat→Int}
theorem wrote {S:Nat→Prop} (h:FlRaw w L pv s σ ea pc nd oth tr) (k:Wr S w w') (h1:¬ S L.lb) (h2:¬ S L.p) (h3:¬ S L.b) (h4:¬ S L.tb) (h5:∀ b,b<L.lb→b≠L.p→b≠L.b→b≠L.tb→¬ S b):FlRaw w' L pv s σ ea pc nd oth tr:=by
 obtain ⟨Q,q1,q2,q3⟩:=h.obj
 obtain ⟨G,g1,g2⟩:=h.tick
 exact ⟨⟨Q,(k.block _ (blk_lt q1) h1).trans q1,q2.wrote k λb hb=>h5 b (q3 b hb).1 (Nat.ne_of_gt (q3 b hb).2.1) (q3 b hb).2.2.1 (q3 b hb).2.2.2,q3⟩,h.seat.wrote k h2 h3,⟨G,(k.block _ (blk_lt g1) h4).trans g1,g2⟩,h.np,h.ne,h.each,h.adr⟩
theorem after (h:FlRaw w L pv s σ ea pc nd oth tr) (k:Wr Nil w w'):FlRaw w' L pv s σ ea pc nd oth tr:=h.wrote k id id id id λ_ _ _ _ _=>id
theorem lto (h:FlRaw w L pv s σ ea pc nd oth tr):L.lb<w.heap.size:=by obtain ⟨Q,q1,_⟩:=h.obj;exact blk_lt q1
theorem ltt (h:FlRaw w L pv s σ ea pc nd oth tr):L.tb<w.heap.size:=by obtain ⟨G,g1,_⟩:=h.tick;exact blk_lt g1
theorem seats0 {s':SS} (h:FlRaw w L pv s σ ea pc nd oth tr) (hS:SeatAt w' L.p L.b s') (hn:s'.n=s.n) (hp:s'.NpA) (k:Wr (One L.b) w w'):FlRaw w' L pv s' σ ea pc nd oth tr:=by
 obtain ⟨Q,q1,q2,q3⟩:=h.obj
 obtain ⟨G,g1,g2⟩:=h.tick
 refine ⟨⟨Q,?_,?_,?_⟩,hS,⟨G,?_,g2⟩,hp,h.ne,h.each,h.adr⟩
 ·rw [hn];exact (k.block _ (blk_lt q1) h.ne.1).trans q1
 ·rw [hn];exact q2.wrote k λb hb=>(q3 b hb).2.2.1
 ·rw [hn];exact q3
 ·rw [hn];exact (k.block _ (blk_lt g1) (λe=>h.ne.2.2.2.1 e.symm)).trans g1
theorem cell0 (h:FlRaw w L pv s σ ea pc nd oth tr):w.cell? ⟨L.lb,0,none⟩=some (.pointer (some ⟨L.p,0,none⟩)):=by obtain ⟨Q,q1,_⟩:=h.obj;rw [blk_cell q1];rfl
theorem cell1 (h:FlRaw w L pv s σ ea pc nd oth tr):w.cell? ⟨L.lb,1,none⟩=some pv:=by obtain ⟨Q,q1,_⟩:=h.obj;rw [blk_cell q1];rfl
theorem cell2 (h:FlRaw w L pv s σ ea pc nd oth tr):∃ Q:Pp,w.cell? ⟨L.lb,2,none⟩=some (.pointer (some ⟨Q.p,0,none⟩))∧PoolAt w Q (newPl s.n ea):=by obtain ⟨Q,q1,q2,_⟩:=h.obj;exact ⟨Q,by rw [blk_cell q1];rfl,q2⟩
theorem cell3 (h:FlRaw w L pv s σ ea pc nd oth tr):w.cell? ⟨L.lb,3,none⟩=some (.int .i64 L.a1):=by obtain ⟨Q,q1,_⟩:=h.obj;rw [blk_cell q1];rfl
theorem cell4 (h:FlRaw w L pv s σ ea pc nd oth tr):w.cell? ⟨L.lb,4,none⟩=some (.slice (some ⟨L.tb,0,none⟩) s.n s.n):=by obtain ⟨Q,q1,_⟩:=h.obj;rw [blk_cell q1];rfl
theorem frozen (h:FlRaw w L pv s σ ea pc nd oth tr) (k:Nat):w.frozen? ⟨L.lb,k,none⟩=false:=by obtain ⟨Q,q1,_⟩:=h.obj;exact blk_frozen q1 k
theorem place4 (h:FlRaw w L pv s σ ea pc nd oth tr) {k:Nat} (hk:k<s.n):∃ p:Pc,PlI (σ k) (pc k) (nd k) (oth k) (tr k) ea p∧w.cell? ⟨L.tb,k*4,none⟩=some (.int .i64 (pc k-1))∧w.cell? ⟨L.tb,k*4+1,none⟩=some (.int .i64 p.tr)∧
  w.cell? ⟨L.tb,k*4+2,none⟩=some (.int .u32 p.nd)∧w.cell? ⟨L.tb,k*4+3,none⟩=some (.int .u32 p.ot):=by
 obtain ⟨G,g1,g2⟩:=h.tick
 refine ⟨G k,g2 k,?_,?_,?_,?_⟩
 ·rw [blk_cell g1,List.getElem?_toArray,←(g2 k).st];exact tks_at s.n G hk (j:=0) (by decide)
 ·rw [blk_cell g1,List.getElem?_toArray];exact tks_at s.n G hk (j:=1) (by decide)
 ·rw [blk_cell g1,List.getElem?_toArray];exact tks_at s.n G hk (j:=2) (by decide)
 ·rw [blk_cell g1,List.getElem?_toArray];exact tks_at s.n G hk (j:=3) (by decide)
theorem tkz (h:FlRaw w L pv s σ ea pc nd oth tr) (k:Nat):w.frozen? ⟨L.tb,k,none⟩=false:=by obtain ⟨G,g1,_⟩:=h.tick;exact blk_frozen g1 k
theorem pli (h:FlRaw w L pv s σ ea pc nd oth tr) (k:Nat):∃ p:Pc,PlI (σ k) (pc k) (nd k) (oth k) (tr k) ea p:=by obtain ⟨G,g1,g2⟩:=h.tick;exact ⟨G k,g2 k⟩
theorem put0 (h:FlRaw w L pv s σ ea pc nd oth tr) {G:Nat→Pc} (hG:w'.heap[L.tb]? =some (.cells (tks s.n G).toArray 254 (0,0))) (hW:Wr (One L.tb) w w')
  {σ' pc' nd' oth' tr':Nat→Int} (hI:∀ j,PlI (σ' j) (pc' j) (nd' j) (oth' j) (tr' j) ea (G j)):FlRaw w' L pv s σ' ea pc' nd' oth' tr':=by
 obtain ⟨Q,q1,q2,q3⟩:=h.obj
 exact ⟨⟨Q,(hW.block _ (blk_lt q1) h.ne.2.1).trans q1,q2.wrote hW λb hb=>(q3 b hb).2.2.2,q3⟩,h.seat.wrote hW h.ne.2.2.1 h.ne.2.2.2.1,⟨G,hG,hI⟩,h.np,h.ne,h.each,h.adr⟩
theorem pli_upd {G:Nat→Pc} (hI:∀ j,PlI (σ j) (pc j) (nd j) (oth j) (tr j) ea (G j)) (k:Nat) {v x y z r:Int} {p:Pc} (hp:PlI v x y z r ea p):
  ∀ j,PlI (upd σ k v j) (upd pc k x j) (upd nd k y j) (upd oth k z j) (upd tr k r j) ea (upd G k p j):=λj=>by
 by_cases e:j=k
 ·subst e;rw [upd_same,upd_same,upd_same,upd_same,upd_same,upd_same];exact hp
 ·rw [upd_other _ _ e,upd_other _ _ e,upd_other _ _ e,upd_other _ _ e,upd_other _ _ e,upd_other _ _ e];exact hI j
theorem set0 (h:FlRaw w L pv s σ ea pc nd oth tr) (k:Nat) (v x y z r:Int) (hp:∀ p,PlI (σ k) (pc k) (nd k) (oth k) (tr k) ea p→PlI v x y z r ea p):FlRaw w L pv s (upd σ k v) ea (upd pc k x) (upd nd k y) (upd oth k z) (upd tr k r):=by
 obtain ⟨G,g1,g2⟩:=h.tick
 have:=h.put0 (G:=upd G k (G k)) (by rw [upd_id G k rfl];exact g1) (Wr.refl _ w) (pli_upd g2 k (hp _ (g2 k)))
 exact this
theorem set1 (h:FlRaw w L pv s σ ea pc nd oth tr) (k:Nat) (v x y z r:Int) (hp:∀ p,PlI (σ k) (pc k) (nd k) (oth k) (tr k) ea p→PlI v x y z r ea {p with st:=x-1}) (c:Int) (hc:c=x-1):
  FlRaw (w.setCell ⟨L.tb,k*4,none⟩ (.int .i64 c)) L pv s (upd σ k v) ea (upd pc k x) (upd nd k y) (upd oth k z) (upd tr k r)∧Wr (One L.tb) w (w.setCell ⟨L.tb,k*4,none⟩ (.int .i64 c)):=by
 subst hc
 obtain ⟨G,g1,g2⟩:=h.tick
 have hW:Wr (One L.tb) w (w.setCell ⟨L.tb,k*4,none⟩ (.int .i64 (x-1))):=(Wr.refl _ w).setCell _ _ λ_=>rfl
 refine ⟨h.put0 (G:=upd G k {G k with st:=x-1}) ?_ hW (pli_upd g2 k (hp _ (g2 k))),hW⟩
 rw [blk_setCell g1,List.setIfInBounds_toArray]
 rw [show (tks s.n G).set (k*4) (.int .i64 (x-1))=tks s.n (upd G k {G k with st:=x-1}) from tks_set s.n G k 0 _ _ (by decide) rfl]
theorem setT (h:FlRaw w L pv s σ ea pc nd oth tr) (k:Nat) (v x y z r:Int) (c:Int) (hp:∀ p,PlI (σ k) (pc k) (nd k) (oth k) (tr k) ea p→PlI v x y z r ea {p with tr:=c}):
  FlRaw (w.setCell ⟨L.tb,k*4+1,none⟩ (.int .i64 c)) L pv s (upd σ k v) ea (upd pc k x) (upd nd k y) (upd oth k z) (upd tr k r)∧Wr (One L.tb) w (w.setCell ⟨L.tb,k*4+1,none⟩ (.int .i64 c)):=by
 obtain ⟨G,g1,g2⟩:=h.tick
 have hW:Wr (One L.tb) w (w.setCell ⟨L.tb,k*4+1,none⟩ (.int .i64 c)):=(Wr.refl _ w).setCell _ _ λ_=>rfl
 refine ⟨h.put0 (G:=upd G k {G k with tr:=c}) ?_ hW (pli_upd g2 k (hp _ (g2 k))),hW⟩
 rw [blk_setCell g1,List.setIfInBounds_toArray,tks_set s.n G k 1 (.int .i64 c) {G k with tr:=c} (by decide) rfl]
theorem set4' (h:FlRaw w L pv s σ ea pc nd oth tr) (k:Nat) (v x y z r:Int) (a b c d:Int) (hp:PlI v x y z r ea ⟨a,b,c,d⟩):
  FlRaw ((((w.setCell ⟨L.tb,k*4,none⟩ (.int .i64 a)).setCell ⟨L.tb,k*4+1,none⟩ (.int .i64 b)).setCell ⟨L.tb,k*4+2,none⟩ (.int .u32 c)).setCell ⟨L.tb,k*4+3,none⟩ (.int .u32 d)) L pv s (upd σ k v) ea (upd pc k x) (upd nd k y) (upd oth k z) (upd tr k r)∧
   Wr (One L.tb) w ((((w.setCell ⟨L.tb,k*4,none⟩ (.int .i64 a)).setCell ⟨L.tb,k*4+1,none⟩ (.int .i64 b)).setCell ⟨L.tb,k*4+2,none⟩ (.int .u32 c)).setCell ⟨L.tb,k*4+3,none⟩ (.int .u32 d)):=by
 obtain ⟨G,g1,g2⟩:=h.tick
 have hW:Wr (One L.tb) w ((((w.setCell ⟨L.tb,k*4,none⟩ (.int .i64 a)).setCell ⟨L.tb,k*4+1,none⟩ (.int .i64 b)).setCell ⟨L.tb,k*4+2,none⟩ (.int .u32 c)).setCell ⟨L.tb,k*4+3,none⟩ (.int .u32 d)):=
  ((((Wr.refl (One L.tb) w).setCell ⟨L.tb,k*4,none⟩ (.int .i64 a) λ_=>rfl).setCell ⟨L.tb,k*4+1,none⟩ (.int .i64 b) λ_=>rfl).setCell ⟨L.tb,k*4+2,none⟩ (.int .u32 c) λ_=>rfl).setCell ⟨L.tb,k*4+3,none⟩ (.int .u32 d) λ_=>rfl
 refine ⟨h.put0 (G:=upd G k ⟨a,b,c,d⟩) ?_ hW (pli_upd g2 k hp),hW⟩
 have s0:(tks s.n G).set (k*4) (.int .i64 a)=tks s.n (upd G k {G k with st:=a}):=tks_set s.n G k 0 _ _ (by decide) rfl
 rw [blk_setCell (blk_setCell (blk_setCell (blk_setCell g1 _ _) _ _) _ _),List.setIfInBounds_toArray,List.setIfInBounds_toArray,List.setIfInBounds_toArray,List.setIfInBounds_toArray,s0,
  tks_set s.n (upd G k {G k with st:=a}) k 1 (.int .i64 b) {G k with st:=a,tr:=b} (by decide) (by rw [upd_same];rfl),upd_upd,
  tks_set s.n (upd G k {G k with st:=a,tr:=b}) k 2 (.int .u32 c) {G k with st:=a,tr:=b,nd:=c} (by decide) (by rw [upd_same];rfl),upd_upd,
  tks_set s.n (upd G k {G k with st:=a,tr:=b,nd:=c}) k 3 (.int .u32 d) ⟨a,b,c,d⟩ (by decide) (by rw [upd_same];rfl),upd_upd]
theorem use (h:FlRaw w L pv s σ ea pc nd oth tr) (v:Value):FlRaw (w.setCell ⟨L.lb,1,none⟩ v) L v s σ ea pc nd oth tr:=by
 have hW:Wr (One L.lb) w (w.setCell ⟨L.lb,1,none⟩ v):=(Wr.refl _ w).setCell _ _ λ_=>rfl
 obtain ⟨Q,q1,q2,q3⟩:=h.obj
 obtain ⟨G,g1,g2⟩:=h.tick
 refine ⟨⟨Q,?_,q2.wrote hW λb hb e=>by have:=(q3 b hb).1;cases e;omega,q3⟩,h.seat.wrote hW (λe=>h.ne.2.2.2.2 e.symm) (λe=>h.ne.1 e.symm),⟨G,(hW.block _ (blk_lt g1) (λe=>h.ne.2.1 e.symm)).trans g1,g2⟩,h.np,h.ne,h.each,h.adr⟩
 rw [blk_setCell q1]
 rfl
theorem place (h:FlRaw w L pv s σ ea pc nd oth tr) (q:Place) (hs:List Int):FlRaw w {L with q:=q,hs:=hs} pv s σ ea pc nd oth tr:=⟨h.obj,h.seat,h.tick,h.np,h.ne,h.each,h.adr⟩
end FlRaw
abbrev RawF (w:World) (L:Lp) (pv:Value) (f:FL):Prop:=FlRaw w L pv f.s f.s.st f.ea f.pc f.nd f.oth f.tr
structure LkM (w:World) (L:Lp) (f:FL) (σ:Nat→Int):Prop where
 raw:FlRaw w L (.pointer (some ⟨L.q.p,0,none⟩)) f.s σ f.ea f.pc f.nd f.oth f.tr
 port:PortAt w L.q L.hs f.ps
 far:L.lb<L.q.k0∧L.p<L.q.k0∧L.b<L.q.k0∧L.tb<L.q.k0
 top:L.q.k3≤w.heap.size
abbrev LkAt (w:World) (L:Lp) (f:FL):Prop:=LkM w L f f.s.st
def LF (L:Lp) (k:Nat):Prop:=k=L.b∨k=L.tb∨Rng L.q.k0 L.q.k3 k
namespace LkM
variable {w w':World} {L:Lp} {f:FL} {σ:Nat→Int}
theorem wrote {S:Nat→Prop} (h:LkM w L f σ) (k:Wr S w w') (h5:∀ b,b<L.q.k3→¬ S b):LkM w' L f σ:=by
 have hf:=h.far
 have hl:=h.port.place.le
 exact ⟨h.raw.wrote k (h5 _ (by omega)) (h5 _ (by omega)) (h5 _ (by omega)) (h5 _ (by omega)) (λb hb _ _ _=>h5 b (by omega)),h.port.wrote k (λb _ b2=>h5 b b2),h.far,Nat.le_trans h.top k.size⟩
theorem after (h:LkM w L f σ) (k:Wr Nil w w'):LkM w' L f σ:=h.wrote k λ_ _=>id
theorem seats {s':SS} (h:LkAt w L f) (hS:SeatAt w' L.p L.b s') (hn:f.s.KeA s') (k:Wr (One L.b) w w'):LkAt w' L {f with s:=s'}:=by
 have hr:=h.raw.seats0 hS hn.1 (hn.2 h.raw.np).1 k
 obtain ⟨G,g1,g2⟩:=hr.tick
 exact ⟨⟨hr.obj,hr.seat,⟨G,g1,λj=>(g2 j).turn ((hn.2 h.raw.np).2 j)⟩,hr.np,hr.ne,hr.each,hr.adr⟩,h.port.wrote k (λb b1 _ e=>by have:=h.far.2.2.1;cases e;omega),h.far,Nat.le_trans h.top k.size⟩
theorem ends {s':SS} (h:LkM w L f σ) (hS:SeatAt w' L.p L.b s') (hn:s'.n=f.s.n) (hp:s'.NpA) (hs:σ=s'.st) (k:Wr (One L.b) w w'):LkAt w' L {f with s:=s'}:=by
 subst hs
 exact ⟨h.raw.seats0 hS hn hp k,h.port.wrote k (λb b1 _ e=>by have:=h.far.2.2.1;cases e;omega),h.far,Nat.le_trans h.top k.size⟩
theorem ports {ps':PSta} (h:LkM w L f σ) (hP:PortAt w' L.q L.hs ps') (k:Wr (Rng L.q.k0 L.q.k3) w w'):LkM w' L {f with ps:=ps'} σ:=
 ⟨h.raw.wrote k (λe=>by have:=h.far.1;unfold Rng at e;omega) (λe=>by have:=h.far.2.1;unfold Rng at e;omega) (λe=>by have:=h.far.2.2.1;unfold Rng at e;omega) (λe=>by have:=h.far.2.2.2;unfold Rng at e;omega) (λb hb _ _ _ e=>by have:=h.far.1;unfold Rng at e;omega),hP,h.far,Nat.le_trans h.top k.size⟩
theorem turns (h:LkM w L f σ) {σ' pc' nd' oth' tr':Nat→Int} (k:FlRaw w' L (.pointer (some ⟨L.q.p,0,none⟩)) f.s σ' f.ea pc' nd' oth' tr'∧Wr (One L.tb) w w'):
  LkM w' L {f with pc:=pc',nd:=nd',oth:=oth',tr:=tr'} σ'∧Wr (One L.tb) w w':=
 ⟨⟨k.1,h.port.wrote k.2 (λb b1 _ e=>by have:=h.far.2.2.2;cases e;omega),h.far,Nat.le_trans h.top k.2.size⟩,k.2⟩
theorem turn0 (h:LkM w L f σ) {σ' pc' nd' oth' tr':Nat→Int} (k:FlRaw w L (.pointer (some ⟨L.q.p,0,none⟩)) f.s σ' f.ea pc' nd' oth' tr'):LkM w L {f with pc:=pc',nd:=nd',oth:=oth',tr:=tr'} σ':=⟨k,h.port,h.far,h.top⟩
theorem wf (h:LkM w L f σ) (j:Int):0≤loadI f.ps.ws j∧loadI f.ps.ws j<4294967296:=h.port.mem.load_rng j
theorem tell (h:LkM w L f σ) (t K a:Int):0≤tellS f.ps t K a∧tellS f.ps t K a<4294967296:=by
 unfold tellS tellI
 repeat' split
 ·exact h.wf a
 all_goals omega
theorem lf_lt (h:LkM w L f σ) {k:Nat} (hk:LF L k):k<w.heap.size:=by
 rcases hk with rfl|rfl|hk
 ·exact blk_lt h.raw.seat.ctx
 ·exact h.raw.ltt
 ·exact Nat.lt_of_lt_of_le hk.2 h.top
end LkM
def LmPost (w:World) (L:Lp) (f:FL) (σ:Nat→Int) (v:Value) (e:Ending) (w':World):Prop:=e= .returned v∧LkM w' L f σ∧Wr (LF L) w w'
abbrev LkPost (w:World) (L:Lp) (f:FL) (v:Value) (e:Ending) (w':World):Prop:=LmPost w L f f.s.st v e w'
theorem lf_b {w w':World} {L:Lp} (k:Wr (One L.b) w w'):Wr (LF L) w w':=k.mono λ_ _ e=> .inl e
theorem lf_t {w w':World} {L:Lp} (k:Wr (One L.tb) w w'):Wr (LF L) w w':=k.mono λ_ _ e=> .inr (.inl e)
theorem lf_q {w w':World} {L:Lp} (k:Wr (Rng L.q.k0 L.q.k3) w w'):Wr (LF L) w w':=k.mono λ_ _ e=> .inr (.inr e)
theorem lf_nil {w w':World} {L:Lp} (k:Wr Nil w w'):Wr (LF L) w w':=k.mono λ_ _ e=>e.elim
theorem lf_trans {w w' w'':World} {L:Lp} (h:Wr (LF L) w w') (k:Wr (LF L) w' w''):Wr (LF L) w w'':=h.trans k λ_ _ e=>e
def didC (d:Dd):Array Value:= #[.int .i64 d.ev,.bool d.enq,.bool d.arr,.bool d.lead]
structure Fr (w:World) (B:Nat) (Y:World) (L:Lp) (f:FL) (σ:Nat→Int):Prop where
 lk:LkM Y L f σ
 wr:Wr (LF L) w Y
 res:Y.heap[B]? =some (.cells (didC Dd.no) 102 (0,0))
 new:w.heap.size≤B
namespace Fr
variable {w X Y:World} {L:Lp} {f f':FL} {B:Nat} {σ σ':Nat→Int}
theorem start (h:LkM w L f σ):Fr w w.heap.size (w.alloc (.cells #[.int .i64 0,.bool false,.bool false,.bool false] 102)) L f σ:=
 ⟨h.after ((Wr.refl _ w).alloc _),(Wr.refl _ w).alloc _,Go.Deep.blk_alloc_new w _,Nat.le_refl _⟩
theorem after (h:Fr w B X L f σ) (k:Wr Nil X Y):Fr w B Y L f σ:=⟨h.lk.after k,h.wr.trans k λ_ _ e=>e.elim,(k.block _ (blk_lt h.res) id).trans h.res,h.new⟩
theorem drew (h:Fr w B X L f σ):Fr w B X.drew L f σ:=h.after ((Wr.refl _ X).drew)
theorem call {f0:FL} {σ0:Nat→Int} (h0:LkM w L f' σ') (h:Fr w B X L f σ) (hl:LkM Y L f0 σ0) (k:Wr (LF L) X Y):Fr w B Y L f0 σ0:=
 ⟨hl,h.wr.trans k λ_ _ e=>e,(k.block _ (blk_lt h.res) (λe=>by have:=h0.lf_lt e;have:=h.new;omega)).trans h.res,h.new⟩
theorem cell (h:Fr w B X L f σ):X.cell? ⟨B,0,none⟩=some (.int .i64 0)∧X.cell? ⟨B,1,none⟩=some (.bool false)∧X.cell? ⟨B,2,none⟩=some (.bool false)∧X.cell? ⟨B,3,none⟩=some (.bool false):=by
 rw [blk_cell h.res,blk_cell h.res,blk_cell h.res,blk_cell h.res];exact ⟨rfl,rfl,rfl,rfl⟩
theorem frz (h:Fr w B X L f σ):X.frozen? ⟨B,0,none⟩=false∧X.frozen? ⟨B,1,none⟩=false∧X.frozen? ⟨B,2,none⟩=false∧X.frozen? ⟨B,3,none⟩=false:=
 ⟨blk_frozen h.res 0,blk_frozen h.res 1,blk_frozen h.res 2,blk_frozen h.res 3⟩
end Fr
theorem set4 {Y:World} {B:Nat} {t:TypeId} {cs:Array Value} (h:Y.heap[B]? =some (.cells cs t (0,0))) (h4:cs.size=4) (x0 x1 x2 x3:Value):
  ((((Y.setCell ⟨B,0,none⟩ x0).setCell ⟨B,1,none⟩ x1).setCell ⟨B,2,none⟩ x2).setCell ⟨B,3,none⟩ x3).heap[B]? =some (.cells #[x0,x1,x2,x3] t (0,0)):=by
 rw [blk_setCell (blk_setCell (blk_setCell (blk_setCell h 0 x0) 1 x1) 2 x2) 3 x3]
 obtain ⟨l⟩:=cs
 match l,h4 with
 |[a,b,c,d],_=>rfl
theorem wrote4 (Y:World) (B:Nat) (x0 x1 x2 x3:Value):Wr (One B) Y ((((Y.setCell ⟨B,0,none⟩ x0).setCell ⟨B,1,none⟩ x1).setCell ⟨B,2,none⟩ x2).setCell ⟨B,3,none⟩ x3):=
 ((((Wr.refl (One B) Y).setCell ⟨B,0,none⟩ x0 λ_=>rfl).setCell ⟨B,1,none⟩ x1 λ_=>rfl).setCell ⟨B,2,none⟩ x2 λ_=>rfl).setCell ⟨B,3,none⟩ x3 λ_=>rfl
theorem Fr.told {w Y:World} {L:Lp} {f f0:FL} {B:Nat} {σ σ0:Nat→Int} (h0:LkM w L f0 σ0) (h:Fr w B Y L f σ) (d:Dd):
  LmPost w L f σ d.val (.returned d.val) ((((Y.setCell ⟨B,0,none⟩ (.int .i64 d.ev)).setCell ⟨B,1,none⟩ (.bool d.enq)).setCell ⟨B,2,none⟩ (.bool d.arr)).setCell ⟨B,3,none⟩ (.bool d.lead)):=by
 have k:=wrote4 Y B (.int .i64 d.ev) (.bool d.enq) (.bool d.arr) (.bool d.lead)
 have hB:∀ j,j<w.heap.size→¬ One B j:=λj hj e=>by have:=h.new;cases e;omega
 refine ⟨rfl,h.lk.wrote k (λb b2=>hB b (Nat.lt_of_lt_of_le b2 h0.top)),?_⟩
 exact h.wr.trans k λb hb e=>(hB b hb e).elim
theorem i_did:(prog.info? 102).map (·.size)=some 4:=by kernel_rfl
set_option maxHeartbeats 8000000
open Go.RowKit Go.BigFrame
theorem fl_use {w:World} {L:Lp} {pv:Value} {s:SS} {σ:Nat→Int} {ea:Nat} {pc nd oth tr:Nat→Int} (h:FlRaw w L pv s σ ea pc nd oth tr) (a:Addr):
  Calls prog 176 #[.pointer (some ⟨L.lb,0,none⟩),.pointer (some a)] w λe w'=>e= .returned (.tuple #[])∧w'=w.setCell ⟨L.lb,1,none⟩ (.pointer (some a)):=by
 have c1:=h.cell1
 have f1:=h.frozen 1
 clear h
 go_enter func176,ntmps176
 go_wp2
 go_end0
 exact ⟨rfl,rfl⟩
theorem wraps {a x:Int} (h0:0≤a) (h1:a≤2000000) (h2:0≤x) (h3:x<4294967296):IntKind.i64.wrap x=x∧IntKind.i64.wrap (3*x)=3*x∧IntKind.i64.wrap (a+3*x)=a+3*x∧IntKind.i64.wrap (a+3*x-1)=a+3*x-1∧IntKind.i64.wrap (a+3*x-2)=a+3*x-2:=by
 rw [IntKind.wrap_i64,IntKind.wrap_i64,IntKind.wrap_i64,IntKind.wrap_i64,IntKind.wrap_i64];omega
theorem fl_state {w:World} {L:Lp} {f:FL} {σ:Nat→Int} (h:LkM w L f σ) (x:Int) (hx:0≤x∧x<4294967296):
  Calls prog 182 #[.pointer (some ⟨L.lb,0,none⟩),.int .u32 x] w λe w'=>e= .returned (.int .i64 (L.sA x))∧w=w':=by
 have c3:=h.raw.cell3
 obtain ⟨a0,a1,a2⟩:=h.raw.adr
 obtain ⟨w1,w2,w3,w4,w5⟩:=wraps a0 a1 hx.1 hx.2
 have e:L.sA x=L.a1+3*x-2:=by unfold Lp.sA;omega
 rw [e]
 clear h e w4
 go_enter func182,ntmps182
 go_wp2
 go_ret
 exact ⟨rfl,rfl⟩
theorem fl_next {w:World} {L:Lp} {f:FL} {σ:Nat→Int} (h:LkM w L f σ) (x:Int) (hx:0≤x∧x<4294967296):
  Calls prog 183 #[.pointer (some ⟨L.lb,0,none⟩),.int .u32 x] w λe w'=>e= .returned (.int .i64 (L.nA x))∧w=w':=by
 have c3:=h.raw.cell3
 obtain ⟨a0,a1,a2⟩:=h.raw.adr
 obtain ⟨w1,w2,w3,w4,w5⟩:=wraps a0 a1 hx.1 hx.2
 have e:L.nA x=L.a1+3*x-1:=by unfold Lp.nA;omega
 rw [e]
 clear h e w5
 go_enter func183,ntmps183
 go_wp2
 go_ret
 exact ⟨rfl,rfl⟩
theorem fl_out {w:World} {L:Lp} {f:FL} {σ:Nat→Int} (h:LkM w L f σ) (x:Int) (hx:0≤x∧x<4294967296):
  Calls prog 181 #[.pointer (some ⟨L.lb,0,none⟩),.int .u32 x] w λe w'=>e= .returned (.int .i64 (L.oA x))∧w=w':=by
 have c3:=h.raw.cell3
 obtain ⟨a0,a1,a2⟩:=h.raw.adr
 obtain ⟨w1,w2,w3,w4,w5⟩:=wraps a0 a1 hx.1 hx.2
 have e:L.oA x=L.a1+3*x:=by unfold Lp.oA;omega
 rw [e]
 clear h e w4 w5
 go_enter func181,ntmps181
 go_wp2
 go_ret
 exact ⟨rfl,rfl⟩
theorem PlI.next {pc pc' nd oth tr:Int} {ea:Nat} {p:Pc} (h:PlI 1 pc nd oth tr ea p) (h1:2≤pc) (h2:2≤pc'∧pc'≤8) (h6:6≤pc'→6≤pc):PlI 1 pc' nd oth tr ea {p with st:=pc'-1}:=
 ⟨rfl,by omega,h.nr,h.orr,λq=>absurd rfl q,h.tr1,λ_ q=>by omega,λ_=>h.n0 (by omega),λq=>by omega,λ_ q=>h.o1 rfl (h6 q),λq=>by omega,λq=>absurd rfl q,λq=>by omega,h.pn,h.po⟩
theorem PlI.nextU {pc pc' nd oth tr:Int} {ea:Nat} {p:Pc} (h:PlI 3 pc nd oth tr ea p) (h2:2≤pc'∧pc'≤6) (h6:pc'=4∨pc'=5→pc=4∨pc=5):PlI 3 pc' nd oth tr ea {p with st:=pc'-1}:=
 ⟨rfl,by omega,h.nr,h.orr,h.tr0,h.tr1,λ_ q=>by omega,λ_=>h.n1 (.inr rfl),λ_=>h.n1 (.inr rfl),λq=>by omega,λ_ q=>h.o3 rfl (h6 q),λ_ q=>absurd rfl q,λ_=>by omega,h.pn,h.po⟩
theorem PlI.idleP {y z:Int} {ea:Nat} (hy:0≤y∧y<4294967296) (hz:0≤z∧z<4294967296) (he:1≤ea):PlI 0 1 y z 0 ea ⟨0,0,0,0⟩:=
 ⟨rfl,by omega,hy,hz,λ_=>rfl,by omega,λ_ _=>⟨by omega,rfl⟩,λq=>absurd rfl q,λq=>by omega,λq=>by omega,λq=>by omega,λ_ _=>rfl,λq=>by omega,(by show (0:Int)≤0∧(0:Int)<4294967296;decide),(by show (0:Int)≤0∧(0:Int)<4294967296;decide)⟩
theorem PlI.hasP {y z:Int} {ea:Nat} (hy:0≤y∧y<4294967296) (hz:0≤z∧z<4294967296) (he:1≤ea):PlI 2 1 y z 0 ea ⟨0,0,y,0⟩:=
 ⟨rfl,by omega,hy,hz,λ_=>rfl,by omega,λ_ _=>⟨by omega,rfl⟩,λq=>absurd rfl q,λ_=>rfl,λq=>by omega,λq=>by omega,λ_ _=>rfl,λq=>by omega,hy,(by show (0:Int)≤0∧(0:Int)<4294967296;decide)⟩
theorem PlI.linkP {y z r:Int} {ea:Nat} (hy:0≤y∧y<4294967296) (hz:0≤z∧z<4294967296) (hr:0≤r∧r≤ea):PlI 1 6 y z r ea ⟨5,0,y,z⟩:=
 ⟨rfl,by omega,hy,hz,λq=>absurd rfl q,hr,λ_ q=>by omega,λ_=>rfl,λ_=>rfl,λ_ _=>rfl,λ_ _=>rfl,λq=>absurd rfl q,λq=>by omega,hy,hz⟩
theorem PlI.handP {y z:Int} {ea:Nat} (hy:0≤y∧y<4294967296) (hz:0≤z∧z<4294967296):PlI 3 4 y z 0 ea ⟨3,0,y,z⟩:=
 ⟨rfl,by omega,hy,hz,λ_=>rfl,by omega,λ_ q=>by omega,λ_=>rfl,λ_=>rfl,λ_ _=>rfl,λ_ _=>rfl,λ_ q=>absurd rfl q,λ_=>by omega,hy,hz⟩
theorem PlI.takeP {y z r:Int} {ea:Nat} (hy:0≤y∧y<4294967296) (hz:0≤z∧z<4294967296) (hr:0≤r∧r≤ea):PlI 1 2 y z r ea ⟨1,0,y,0⟩:=
 ⟨rfl,by omega,hy,hz,λq=>absurd rfl q,hr,λ_ q=>by omega,λ_=>rfl,λ_=>rfl,λ_ q=>by omega,λq=>by omega,λq=>absurd rfl q,λq=>by omega,hy,(by show (0:Int)≤0∧(0:Int)<4294967296;decide)⟩
theorem PlI.seekP {y z:Int} {ea:Nat} (hy:0≤y∧y<4294967296) (hz:0≤z∧z<4294967296) (he:1≤ea):PlI 3 1 y z 0 ea ⟨0,0,y,0⟩:=
 ⟨rfl,by omega,hy,hz,λ_=>rfl,by omega,λ_ _=>⟨by omega,rfl⟩,λq=>absurd rfl q,λ_=>rfl,λq=>by omega,λq=>by omega,λ_ q=>absurd rfl q,λ_=>by omega,hy,(by show (0:Int)≤0∧(0:Int)<4294967296;decide)⟩
theorem PlI.tryP {y z r:Int} {ea:Nat} {p:Pc} (h:PlI 1 1 y z r ea p) {y':Int} (hy:0≤y'∧y'<4294967296) (hr:r+1<ea):PlI 1 1 y' z (r+1) ea {p with tr:=r+1}:=
 ⟨h.st,by omega,hy,h.orr,λq=>absurd rfl q,(by have:=h.tr1;omega),λ_ _=>⟨hr,rfl⟩,λq=>absurd rfl q,λq=>by omega,λ_ q=>by omega,λq=>by omega,λq=>absurd rfl q,λq=>by omega,h.pn,h.po⟩
theorem PlI.fullP {y z r c:Int} {ea:Nat} {p:Pc} (h:PlI 1 1 y z r ea p) {y':Int} (hy:0≤y'∧y'<4294967296):PlI 9 1 y' z 0 ea {p with tr:=c}:=
 ⟨h.st,by omega,hy,h.orr,λ_=>rfl,by omega,λq=>absurd rfl q,λq=>absurd rfl q,λq=>by omega,λq=>by omega,λq=>by omega,λ_ _=>rfl,λq=>by omega,h.pn,h.po⟩
theorem fl_ends {w:World} {L:Lp} {f:FL} {σ:Nat→Int} (h:LkM w L f σ) (k:Nat) (hk:k<f.s.n) (y:Int) (hy:0≤y∧y<4294967296) (ev:Int):
  Calls prog 188 #[.pointer (some ⟨L.tb,k*4,none⟩),.int .i64 ev] w (LmPost w L {f with pc:=upd f.pc k 1,nd:=upd f.nd k y,oth:=upd f.oth k (f.oth k),tr:=upd f.tr k 0} (upd σ k 0) (Dd.val ⟨ev,false,false,false⟩)):=by
 have hF:=Fr.start h
 obtain ⟨p,hp,t0,t1,t2,t3⟩:=hF.lk.raw.place4 hk
 have z0:=hF.lk.raw.tkz (k*4)
 have z1:=hF.lk.raw.tkz (k*4+1)
 have z2:=hF.lk.raw.tkz (k*4+2)
 have z3:=hF.lk.raw.tkz (k*4+3)
 have hT:=hF.lk.turns (hF.lk.raw.set4' k 0 1 y (f.oth k) 0 0 0 0 0 (PlI.idleP hy hp.orr h.raw.each.1))
 have hA:=Fr.call h hF hT.1 (lf_t hT.2)
 obtain ⟨v0,v1,v2,v3⟩:=hA.cell
 obtain ⟨x0,x1,x2,x3⟩:=hA.frz
 have HE:=Lib.hid (And.intro h hA)
 clear h hF hT hA hp
 go_enter func188,ntmps188
 go_wp2
 refine bodyPost_ret (v:=Dd.val ⟨ev,false,false,false⟩) (results_cell_row rfl _ _ w.heap.size 102 _ (0,0) _ rfl (set4 HE.out.2.res rfl _ _ _ _) underlying102 rfl i_did) rfl (HE.out.2.told HE.out.1 ⟨ev,false,false,false⟩)
theorem fl_has {w:World} {L:Lp} {f:FL} {σ:Nat→Int} (h:LkM w L f σ) (k:Nat) (hk:k<f.s.n) (hpc:f.pc k≠1) (z:Int) (hz:0≤z∧z<4294967296):
  Calls prog 190 #[.pointer (some ⟨L.tb,k*4,none⟩)] w (LmPost w L {f with pc:=upd f.pc k 1,nd:=upd f.nd k (f.nd k),oth:=upd f.oth k z,tr:=upd f.tr k 0} (upd σ k 2) (Dd.val ⟨1,false,false,false⟩)):=by
 have hF:=Fr.start h
 obtain ⟨p,hp,t0,t1,t2,t3⟩:=hF.lk.raw.place4 hk
 rw [hp.n0 hpc] at t2
 have z0:=hF.lk.raw.tkz (k*4)
 have z1:=hF.lk.raw.tkz (k*4+1)
 have z2:=hF.lk.raw.tkz (k*4+2)
 have z3:=hF.lk.raw.tkz (k*4+3)
 have hT:=hF.lk.turns (hF.lk.raw.set4' k 2 1 (f.nd k) z 0 0 0 (f.nd k) 0 (PlI.hasP hp.nr hz h.raw.each.1))
 have hA:=Fr.call h hF hT.1 (lf_t hT.2)
 obtain ⟨v0,v1,v2,v3⟩:=hA.cell
 obtain ⟨x0,x1,x2,x3⟩:=hA.frz
 have HE:=Lib.hid (And.intro h hA)
 clear h hF hT hA hp hpc
 go_enter func190,ntmps190
 go_wp2
 refine bodyPost_ret (v:=Dd.val ⟨1,false,false,false⟩) (results_cell_row rfl _ _ w.heap.size 102 _ (0,0) _ rfl (set4 HE.out.2.res rfl _ _ _ _) underlying102 rfl i_did) rfl (HE.out.2.told HE.out.1 ⟨1,false,false,false⟩)
theorem fl_ent0 {w:World} {L:Lp} {f:FL} {σ:Nat→Int} (h:LkM w L f σ) (k:Nat) (hk:k<f.s.n) (hpc:f.pc k≠1):
  Calls prog 184 #[.pointer (some ⟨L.tb,k*4,none⟩),.int .u32 0] w (LmPost w L {f with pc:=upd f.pc k 1,nd:=upd f.nd k (f.nd k),oth:=upd f.oth k 0,tr:=upd f.tr k 0} (upd σ k 2) (Dd.val ⟨1,true,false,false⟩)):=by
 have hF:=Fr.start h
 obtain ⟨Z,hZ⟩:∃ Z,Z=w.alloc (.cells #[.int .i64 0,.bool false,.bool false,.bool false] 102):=⟨_,rfl⟩
 rw [←hZ] at hF
 have cH:=fl_has hF.lk k hk hpc 0 (by decide)
 have HE:=Lib.hid (And.intro h hF)
 clear h hF hpc
 go_enter func184,ntmps184
 go_wp2_with (first
  |(go_at_call 190;rw [←hZ];(with_reducible refine cH.mono ?_);intro e w2 hq;unfold LmPost at hq;obtain ⟨rfl,hB,hW⟩:=hq;have hB3:=Fr.call HE.out.1 HE.out.2 hB hW;obtain ⟨v0,v1,v2,v3⟩:=hB3.cell;obtain ⟨x0,x1,x2,x3⟩:=hB3.frz;have HT:=Lib.hid hB3;clear hB hB3 hW))
 refine bodyPost_ret (v:=Dd.val ⟨1,true,false,false⟩) (results_cell_row rfl _ _ w.heap.size 102 _ (0,0) _ rfl (set4 HT.out.res rfl _ _ _ _) underlying102 rfl i_did) rfl (HT.out.told HE.out.1 ⟨1,true,false,false⟩)
theorem fl_ent1 {w:World} {L:Lp} {f:FL} {σ:Nat→Int} (h:LkM w L f σ) (k:Nat) (hk:k<f.s.n) (hpc:f.pc k≠1) (a:Int) (ha:0≤a∧a<4294967296) (hz:a≠0):
  Calls prog 184 #[.pointer (some ⟨L.tb,k*4,none⟩),.int .u32 a] w (LmPost w L {f with pc:=upd f.pc k 6,nd:=upd f.nd k (f.nd k),oth:=upd f.oth k a,tr:=upd f.tr k (f.tr k)} (upd σ k 1) (Dd.val ⟨0,true,false,false⟩)):=by
 have hF:=Fr.start h
 obtain ⟨p,hp,t0,t1,t2,t3⟩:=hF.lk.raw.place4 hk
 rw [hp.n0 hpc] at t2
 have z0:=hF.lk.raw.tkz (k*4)
 have z1:=hF.lk.raw.tkz (k*4+1)
 have z2:=hF.lk.raw.tkz (k*4+2)
 have z3:=hF.lk.raw.tkz (k*4+3)
 have hT:=hF.lk.turns (hF.lk.raw.set4' k 1 6 (f.nd k) a (f.tr k) 5 0 (f.nd k) a (PlI.linkP hp.nr ha hp.tr1))
 have hA:=Fr.call h hF hT.1 (lf_t hT.2)
 obtain ⟨v0,v1,v2,v3⟩:=hA.cell
 obtain ⟨x0,x1,x2,x3⟩:=hA.frz
 have HE:=Lib.hid (And.intro h hA)
 have b1:(a==0)=false:=beq_false_of_ne hz
 clear h hF hT hA hp hpc hz
 go_enter func184,ntmps184
 go_wp2
 refine bodyPost_ret (v:=Dd.val ⟨0,true,false,false⟩) (results_cell_row rfl _ _ w.heap.size 102 _ (0,0) _ rfl (set4 HE.out.2.res rfl _ _ _ _) underlying102 rfl i_did) rfl (HE.out.2.told HE.out.1 ⟨0,true,false,false⟩)
theorem fl_enters {w:World} {L:Lp} {f:FL} {σ:Nat→Int} (h:LkM w L f σ) (k:Nat) (hk:k<f.s.n) (hpc:f.pc k≠1) (a:Int) (ha:0≤a∧a<4294967296):
  Calls prog 184 #[.pointer (some ⟨L.tb,k*4,none⟩),.int .u32 a] w (LmPost w L {f with pc:=upd f.pc k (if a=0 then 1 else 6),nd:=upd f.nd k (f.nd k),oth:=upd f.oth k a,tr:=upd f.tr k (if a=0 then 0 else f.tr k)} (upd σ k (if a=0 then 2 else 1)) (Dd.val ⟨if a=0 then 1 else 0,true,false,false⟩)):=by
 by_cases hz:a=0
 ·subst hz;exact fl_ent0 h k hk hpc
 ·rw [if_neg hz,if_neg hz,if_neg hz,if_neg hz];exact fl_ent1 h k hk hpc a ha hz
def FiPost (w:World) (L:Lp) (f:FL) (σ:Nat→Int) (e:Ending) (w':World):Prop:=e= .returned (.tuple #[])∧LkM w' L f σ∧Wr (LF L) w w'
theorem fl_fin0 {w:World} {L:Lp} {f:FL} {σ:Nat→Int} (h:LkM w L f σ) (k:Nat) (hk:k<f.s.n) (hs:σ k=3) (a:Int) (ha:0≤a∧a<4294967296) (hz:a≠0):
  Calls prog 187 #[.pointer (some ⟨L.tb,k*4,none⟩),.int .u32 a] w (FiPost w L {f with pc:=upd f.pc k 4,nd:=upd f.nd k (f.nd k),oth:=upd f.oth k a,tr:=upd f.tr k (f.tr k)} (upd σ k 3)):=by
 obtain ⟨p,hp,t0,t1,t2,t3⟩:=h.raw.place4 hk
 rw [hs] at hp
 rw [hp.n1 (.inr rfl)] at t2
 have z0:=h.raw.tkz (k*4)
 have z1:=h.raw.tkz (k*4+1)
 have z2:=h.raw.tkz (k*4+2)
 have z3:=h.raw.tkz (k*4+3)
 have hr:=hp.tr0 (by decide)
 have hT:=h.turns (h.raw.set4' k 3 4 (f.nd k) a (f.tr k) 3 0 (f.nd k) a (by rw [hr];exact PlI.handP hp.nr ha))
 have HE:=Lib.hid hT
 have b1:(a != 0)=true:=by simpa [bne,BEq.beq] using hz
 clear h hT hz hp hs hr
 go_enter func187,ntmps187
 go_wp2
 go_end0
 exact ⟨rfl,HE.out.1,lf_t HE.out.2⟩
theorem fl_fin1 {w:World} {L:Lp} {f:FL} {σ:Nat→Int} (h:LkM w L f σ) (k:Nat) (hk:k<f.s.n) (hs:σ k=3) (hpc:f.pc k=1):
  Calls prog 187 #[.pointer (some ⟨L.tb,k*4,none⟩),.int .u32 0] w (FiPost w L {f with pc:=upd f.pc k 2,nd:=upd f.nd k (f.nd k),oth:=upd f.oth k 0,tr:=upd f.tr k (f.tr k)} (upd σ k 3)):=by
 obtain ⟨p,hp,t0,t1,t2,t3⟩:=h.raw.place4 hk
 rw [hpc] at t0
 have z0:=h.raw.tkz (k*4)
 have hT:=h.turns (h.raw.set1 k 3 2 (f.nd k) 0 (f.tr k) (λp hp=>by rw [hs] at hp;have:=hp.nextU (pc':=2) (by decide) (by omega);exact ⟨this.st,this.pr,this.nr,by omega,this.tr0,this.tr1,this.tr2,this.n0,this.n1,λq=>by omega,λ_ q=>by omega,this.idle,this.rel,this.pn,this.po⟩) 1 rfl)
 have HE:=Lib.hid hT
 clear h hT hp hs hpc
 go_enter func187,ntmps187
 go_wp2
 go_end0
 exact ⟨rfl,HE.out.1,lf_t HE.out.2⟩
theorem fl_fin2 {w:World} {L:Lp} {f:FL} {σ:Nat→Int} (h:LkM w L f σ) (k:Nat) (hk:k<f.s.n) (hs:σ k=3) (hpc:f.pc k=3):
  Calls prog 187 #[.pointer (some ⟨L.tb,k*4,none⟩),.int .u32 0] w (FiPost w L {f with pc:=upd f.pc k 3,nd:=upd f.nd k (f.nd k),oth:=upd f.oth k 0,tr:=upd f.tr k (f.tr k)} (upd σ k 3)):=by
 obtain ⟨p,hp,t0,t1,t2,t3⟩:=h.raw.place4 hk
 rw [hpc] at t0
 have hT:=h.turn0 (h.raw.set0 k 3 3 (f.nd k) 0 (f.tr k) (λp hp=>by rw [hs,hpc] at hp;exact ⟨hp.st,hp.pr,hp.nr,by omega,hp.tr0,hp.tr1,hp.tr2,hp.n0,hp.n1,λq=>by omega,λ_ q=>by omega,hp.idle,hp.rel,hp.pn,hp.po⟩))
 have HE:=Lib.hid hT
 clear h hT hp hs hpc
 go_enter func187,ntmps187
 go_wp2
 go_end0
 exact ⟨rfl,HE.out,Wr.refl _ _⟩
theorem fl_finds {w:World} {L:Lp} {f:FL} {σ:Nat→Int} (h:LkM w L f σ) (k:Nat) (hk:k<f.s.n) (hs:σ k=3) (x:Int) (hp:(f.pc k=1∧x=2)∨(f.pc k=3∧x=3)) (a:Int) (ha:0≤a∧a<4294967296):
  Calls prog 187 #[.pointer (some ⟨L.tb,k*4,none⟩),.int .u32 a] w (FiPost w L {f with pc:=upd f.pc k (if a=0 then x else 4),nd:=upd f.nd k (f.nd k),oth:=upd f.oth k a,tr:=upd f.tr k (f.tr k)} (upd σ k 3)):=by
 by_cases hz:a=0
 ·subst hz
  rw [if_pos rfl]
  rcases hp with ⟨hp,rfl⟩|⟨hp,rfl⟩
  ·exact fl_fin1 h k hk hs hp
  ·exact fl_fin2 h k hk hs hp
 ·rw [if_neg hz];exact fl_fin0 h k hk hs a ha hz
theorem fl_acq2 {w:World} {L:Lp} {f:FL} (h:LkAt w L f) (k:Nat) (hk:k<f.s.n) (u x:Int) (hs:f.s.st k=1) (hd:f.pc k=2) (hD:f.ps.D.length<4611686018427387904):
  Calls prog 178 #[.pointer (some ⟨L.lb,0,none⟩),.int .i64 (k:Int),.int .i64 u,.int .i64 x] w (LmPost w L (f.acq L k u x) (upd f.s.st k (finS 1 (f.acqD L k u x).ev)) (f.acqD L k u x).val):=by
 have e1:f.acq L k u x={f with pc:=upd f.pc k 3,nd:=upd f.nd k (f.nd k),oth:=upd f.oth k (f.oth k),tr:=upd f.tr k (f.tr k),ps:=doS f.ps u 2 (L.oA (f.nd k)) 0 1}:=by unfold FL.acq;rw [if_neg (by omega),if_pos hd,upd_id f.nd k rfl,upd_id f.oth k rfl,upd_id f.tr k rfl]
 have e2:f.acqD L k u x=Dd.no:=by unfold FL.acqD;rw [if_neg (by omega),if_pos hd]
 rw [e1,e2]
 rw [show finS 1 (Dd.ev Dd.no)=1 from by decide]
 clear e1 e2
 have hF:=Fr.start h
 obtain ⟨Z,hZ⟩:∃ Z,Z=w.alloc (.cells #[.int .i64 0,.bool false,.bool false,.bool false] 102):=⟨_,rfl⟩
 rw [←hZ] at hF
 have hkI:(k:Int)<f.s.n:=by omega
 have c4:=hF.lk.raw.cell4
 obtain ⟨p,hp,t0,t1,t2,t3⟩:=hF.lk.raw.place4 hk
 rw [hs,hd] at hp
 rw [hd] at t0
 have n2:Z.drew.cell? ⟨L.tb,k*4+2,none⟩=some (.int .u32 (f.nd k)):=by rw [←hp.n0 (by decide)];exact t2
 have c1:=hF.drew.lk.raw.cell1
 have c3:=hF.drew.lk.raw.cell3
 rw [hZ] at c4 t0
 have cG:=fl_out hF.drew.lk (f.nd k) hp.nr
 have cA:=pstore_any hF.drew.lk.port u (L.oA (f.nd k)) 1 (by decide) (by decide) hD
 have HT0:=Lib.hid (λ(W:World) (g:LkM W L {f with ps:=doS f.ps u 2 (L.oA (f.nd k)) 0 1} f.s.st)=>g.turns (g.raw.set1 k 1 3 (f.nd k) (f.oth k) (f.tr k) (λp hp=>by rw [hs,hd] at hp;exact hp.next (by decide) (by decide) (by decide)) 2 rfl))
 have HN:=Lib.hid (λ(q:Pc) (hq:PlI (f.s.st k) (f.pc k) (f.nd k) (f.oth k) (f.tr k) f.ea q)=>hq.n0 (by omega))
 have HO:=Lib.hid (λ(q:Pc) (hq:PlI (f.s.st k) (f.pc k) (f.nd k) (f.oth k) (f.tr k) f.ea q) (h6:6≤f.pc k)=>hq.o1 hs h6)
 have H6:=Lib.hid hd
 have HE:=Lib.hid (And.intro h (And.intro hk hF))
 clear h hF hs hd hp t1 t2 t3
 go_enter func178,ntmps178
 go_wp2
 rw [←hZ]
 clear hZ
 go_region_held3 (λw'=>w'.cell? ⟨L.lb,1,none⟩=some (.pointer (some ⟨L.q.p,0,none⟩))∧w'.cell? ⟨L.tb,k*4+2,none⟩=some (.int .u32 (f.nd k))) (first|exact ⟨c1,n2⟩|exact ⟨d1,y2⟩) (first|(go_at_call 181;(with_reducible refine cG.mono ?_);rintro e w' ⟨rfl,rfl⟩)|(go_at_call 98;(with_reducible refine cA.mono ?_);intro e w2 hq;unfold AccPost at hq;obtain ⟨rfl,hP,hW⟩:=hq;have hA:=HE.out.2.2.drew.lk.ports hP hW;have hA3:=Fr.call HE.out.1 HE.out.2.2.drew hA (lf_q hW);have d1:=hA.raw.cell1;have d3:=hA.raw.cell3;obtain ⟨p',hp',y0,y1,y2,y3⟩:=hA.raw.place4 HE.out.2.1;rw [(show p'.nd=f.nd k from HN.out _ hp')] at y2;have z0:=hA.raw.tkz (k*4);have hT:=HT0.out _ hA;have hA4:=Fr.call HE.out.1 hA3 hT.1 (lf_t hT.2);obtain ⟨v0,v1,v2,v3⟩:=hA4.cell;obtain ⟨x0,x1,x2,x3⟩:=hA4.frz;have HT:=Lib.hid hA4;clear hA4 hT;clear hA hA3 hP hW hp'))
 go_wp2
 refine bodyPost_ret (v:=Dd.val ⟨0,false,false,false⟩) (results_cell_row rfl _ _ w.heap.size 102 _ (0,0) _ rfl (set4 HT.out.res rfl _ _ _ _) underlying102 rfl i_did) rfl (HT.out.told HE.out.1 ⟨0,false,false,false⟩)
theorem fl_acq3 {w:World} {L:Lp} {f:FL} (h:LkAt w L f) (k:Nat) (hk:k<f.s.n) (u x:Int) (hs:f.s.st k=1) (hd:f.pc k=3) (hD:f.ps.D.length<4611686018427387904):
  Calls prog 178 #[.pointer (some ⟨L.lb,0,none⟩),.int .i64 (k:Int),.int .i64 u,.int .i64 x] w (LmPost w L (f.acq L k u x) (upd f.s.st k (finS 1 (f.acqD L k u x).ev)) (f.acqD L k u x).val):=by
 have e1:f.acq L k u x={f with pc:=upd f.pc k 4,nd:=upd f.nd k (f.nd k),oth:=upd f.oth k (f.oth k),tr:=upd f.tr k (f.tr k),ps:=doS f.ps u 2 (L.sA (f.nd k)) 0 0}:=by unfold FL.acq;rw [if_neg (by omega),if_neg (by omega),if_pos hd,upd_id f.nd k rfl,upd_id f.oth k rfl,upd_id f.tr k rfl]
 have e2:f.acqD L k u x=Dd.no:=by unfold FL.acqD;rw [if_neg (by omega),if_neg (by omega),if_pos hd]
 rw [e1,e2]
 rw [show finS 1 (Dd.ev Dd.no)=1 from by decide]
 clear e1 e2
 have hF:=Fr.start h
 obtain ⟨Z,hZ⟩:∃ Z,Z=w.alloc (.cells #[.int .i64 0,.bool false,.bool false,.bool false] 102):=⟨_,rfl⟩
 rw [←hZ] at hF
 have hkI:(k:Int)<f.s.n:=by omega
 have c4:=hF.lk.raw.cell4
 obtain ⟨p,hp,t0,t1,t2,t3⟩:=hF.lk.raw.place4 hk
 rw [hs,hd] at hp
 rw [hd] at t0
 have n2:Z.drew.cell? ⟨L.tb,k*4+2,none⟩=some (.int .u32 (f.nd k)):=by rw [←hp.n0 (by decide)];exact t2
 have c1:=hF.drew.lk.raw.cell1
 have c3:=hF.drew.lk.raw.cell3
 rw [hZ] at c4 t0
 have cG:=fl_state hF.drew.lk (f.nd k) hp.nr
 have cA:=pstore_any hF.drew.lk.port u (L.sA (f.nd k)) 0 (by decide) (by decide) hD
 have HT0:=Lib.hid (λ(W:World) (g:LkM W L {f with ps:=doS f.ps u 2 (L.sA (f.nd k)) 0 0} f.s.st)=>g.turns (g.raw.set1 k 1 4 (f.nd k) (f.oth k) (f.tr k) (λp hp=>by rw [hs,hd] at hp;exact hp.next (by decide) (by decide) (by decide)) 3 rfl))
 have HN:=Lib.hid (λ(q:Pc) (hq:PlI (f.s.st k) (f.pc k) (f.nd k) (f.oth k) (f.tr k) f.ea q)=>hq.n0 (by omega))
 have HO:=Lib.hid (λ(q:Pc) (hq:PlI (f.s.st k) (f.pc k) (f.nd k) (f.oth k) (f.tr k) f.ea q) (h6:6≤f.pc k)=>hq.o1 hs h6)
 have H6:=Lib.hid hd
 have HE:=Lib.hid (And.intro h (And.intro hk hF))
 clear h hF hs hd hp t1 t2 t3
 go_enter func178,ntmps178
 go_wp2
 rw [←hZ]
 clear hZ
 go_region_held3 (λw'=>w'.cell? ⟨L.lb,1,none⟩=some (.pointer (some ⟨L.q.p,0,none⟩))∧w'.cell? ⟨L.tb,k*4+2,none⟩=some (.int .u32 (f.nd k))) (first|exact ⟨c1,n2⟩|exact ⟨d1,y2⟩) (first|(go_at_call 182;(with_reducible refine cG.mono ?_);rintro e w' ⟨rfl,rfl⟩)|(go_at_call 98;(with_reducible refine cA.mono ?_);intro e w2 hq;unfold AccPost at hq;obtain ⟨rfl,hP,hW⟩:=hq;have hA:=HE.out.2.2.drew.lk.ports hP hW;have hA3:=Fr.call HE.out.1 HE.out.2.2.drew hA (lf_q hW);have d1:=hA.raw.cell1;have d3:=hA.raw.cell3;obtain ⟨p',hp',y0,y1,y2,y3⟩:=hA.raw.place4 HE.out.2.1;rw [(show p'.nd=f.nd k from HN.out _ hp')] at y2;have z0:=hA.raw.tkz (k*4);have hT:=HT0.out _ hA;have hA4:=Fr.call HE.out.1 hA3 hT.1 (lf_t hT.2);obtain ⟨v0,v1,v2,v3⟩:=hA4.cell;obtain ⟨x0,x1,x2,x3⟩:=hA4.frz;have HT:=Lib.hid hA4;clear hA4 hT;clear hA hA3 hP hW hp'))
 go_wp2
 refine bodyPost_ret (v:=Dd.val ⟨0,false,false,false⟩) (results_cell_row rfl _ _ w.heap.size 102 _ (0,0) _ rfl (set4 HT.out.res rfl _ _ _ _) underlying102 rfl i_did) rfl (HT.out.told HE.out.1 ⟨0,false,false,false⟩)
theorem fl_acq4 {w:World} {L:Lp} {f:FL} (h:LkAt w L f) (k:Nat) (hk:k<f.s.n) (u x:Int) (hs:f.s.st k=1) (hd:f.pc k=4) (hD:f.ps.D.length<4611686018427387904):
  Calls prog 178 #[.pointer (some ⟨L.lb,0,none⟩),.int .i64 (k:Int),.int .i64 u,.int .i64 x] w (LmPost w L (f.acq L k u x) (upd f.s.st k (finS 1 (f.acqD L k u x).ev)) (f.acqD L k u x).val):=by
 have e1:f.acq L k u x={f with pc:=upd f.pc k 5,nd:=upd f.nd k (f.nd k),oth:=upd f.oth k (f.oth k),tr:=upd f.tr k (f.tr k),ps:=doS f.ps u 2 (L.nA (f.nd k)) 0 0}:=by unfold FL.acq;rw [if_neg (by omega),if_neg (by omega),if_neg (by omega),if_pos hd,upd_id f.nd k rfl,upd_id f.oth k rfl,upd_id f.tr k rfl]
 have e2:f.acqD L k u x=Dd.no:=by unfold FL.acqD;rw [if_neg (by omega),if_neg (by omega),if_neg (by omega),if_pos hd]
 rw [e1,e2]
 rw [show finS 1 (Dd.ev Dd.no)=1 from by decide]
 clear e1 e2
 have hF:=Fr.start h
 obtain ⟨Z,hZ⟩:∃ Z,Z=w.alloc (.cells #[.int .i64 0,.bool false,.bool false,.bool false] 102):=⟨_,rfl⟩
 rw [←hZ] at hF
 have hkI:(k:Int)<f.s.n:=by omega
 have c4:=hF.lk.raw.cell4
 obtain ⟨p,hp,t0,t1,t2,t3⟩:=hF.lk.raw.place4 hk
 rw [hs,hd] at hp
 rw [hd] at t0
 have n2:Z.drew.cell? ⟨L.tb,k*4+2,none⟩=some (.int .u32 (f.nd k)):=by rw [←hp.n0 (by decide)];exact t2
 have c1:=hF.drew.lk.raw.cell1
 have c3:=hF.drew.lk.raw.cell3
 rw [hZ] at c4 t0
 have cG:=fl_next hF.drew.lk (f.nd k) hp.nr
 have cA:=pstore_any hF.drew.lk.port u (L.nA (f.nd k)) 0 (by decide) (by decide) hD
 have HT0:=Lib.hid (λ(W:World) (g:LkM W L {f with ps:=doS f.ps u 2 (L.nA (f.nd k)) 0 0} f.s.st)=>g.turns (g.raw.set1 k 1 5 (f.nd k) (f.oth k) (f.tr k) (λp hp=>by rw [hs,hd] at hp;exact hp.next (by decide) (by decide) (by decide)) 4 rfl))
 have HN:=Lib.hid (λ(q:Pc) (hq:PlI (f.s.st k) (f.pc k) (f.nd k) (f.oth k) (f.tr k) f.ea q)=>hq.n0 (by omega))
 have HO:=Lib.hid (λ(q:Pc) (hq:PlI (f.s.st k) (f.pc k) (f.nd k) (f.oth k) (f.tr k) f.ea q) (h6:6≤f.pc k)=>hq.o1 hs h6)
 have H6:=Lib.hid hd
 have HE:=Lib.hid (And.intro h (And.intro hk hF))
 clear h hF hs hd hp t1 t2 t3
 go_enter func178,ntmps178
 go_wp2
 rw [←hZ]
 clear hZ
 go_region_held3 (λw'=>w'.cell? ⟨L.lb,1,none⟩=some (.pointer (some ⟨L.q.p,0,none⟩))∧w'.cell? ⟨L.tb,k*4+2,none⟩=some (.int .u32 (f.nd k))) (first|exact ⟨c1,n2⟩|exact ⟨d1,y2⟩) (first|(go_at_call 183;(with_reducible refine cG.mono ?_);rintro e w' ⟨rfl,rfl⟩)|(go_at_call 98;(with_reducible refine cA.mono ?_);intro e w2 hq;unfold AccPost at hq;obtain ⟨rfl,hP,hW⟩:=hq;have hA:=HE.out.2.2.drew.lk.ports hP hW;have hA3:=Fr.call HE.out.1 HE.out.2.2.drew hA (lf_q hW);have d1:=hA.raw.cell1;have d3:=hA.raw.cell3;obtain ⟨p',hp',y0,y1,y2,y3⟩:=hA.raw.place4 HE.out.2.1;rw [(show p'.nd=f.nd k from HN.out _ hp')] at y2;have z0:=hA.raw.tkz (k*4);have hT:=HT0.out _ hA;have hA4:=Fr.call HE.out.1 hA3 hT.1 (lf_t hT.2);obtain ⟨v0,v1,v2,v3⟩:=hA4.cell;obtain ⟨x0,x1,x2,x3⟩:=hA4.frz;have HT:=Lib.hid hA4;clear hA4 hT;clear hA hA3 hP hW hp'))
 go_wp2
 refine bodyPost_ret (v:=Dd.val ⟨0,false,false,false⟩) (results_cell_row rfl _ _ w.heap.size 102 _ (0,0) _ rfl (set4 HT.out.res rfl _ _ _ _) underlying102 rfl i_did) rfl (HT.out.told HE.out.1 ⟨0,false,false,false⟩)
theorem fl_acq6 {w:World} {L:Lp} {f:FL} (h:LkAt w L f) (k:Nat) (hk:k<f.s.n) (u x:Int) (hs:f.s.st k=1) (hd:f.pc k=6) (hD:f.ps.D.length<4611686018427387904):
  Calls prog 178 #[.pointer (some ⟨L.lb,0,none⟩),.int .i64 (k:Int),.int .i64 u,.int .i64 x] w (LmPost w L (f.acq L k u x) (upd f.s.st k (finS 1 (f.acqD L k u x).ev)) (f.acqD L k u x).val):=by
 have e1:f.acq L k u x={f with pc:=upd f.pc k 7,nd:=upd f.nd k (f.nd k),oth:=upd f.oth k (f.oth k),tr:=upd f.tr k (f.tr k),ps:=doS f.ps u 2 (L.nA (f.oth k)) 0 (f.nd k)}:=by unfold FL.acq;rw [if_neg (by omega),if_neg (by omega),if_neg (by omega),if_neg (by omega),if_neg (by omega),if_pos hd,upd_id f.nd k rfl,upd_id f.oth k rfl,upd_id f.tr k rfl]
 have e2:f.acqD L k u x=Dd.no:=by unfold FL.acqD;rw [if_neg (by omega),if_neg (by omega),if_neg (by omega),if_neg (by omega),if_neg (by omega),if_pos hd]
 rw [e1,e2]
 rw [show finS 1 (Dd.ev Dd.no)=1 from by decide]
 clear e1 e2
 have hF:=Fr.start h
 obtain ⟨Z,hZ⟩:∃ Z,Z=w.alloc (.cells #[.int .i64 0,.bool false,.bool false,.bool false] 102):=⟨_,rfl⟩
 rw [←hZ] at hF
 have hkI:(k:Int)<f.s.n:=by omega
 have c4:=hF.lk.raw.cell4
 obtain ⟨p,hp,t0,t1,t2,t3⟩:=hF.lk.raw.place4 hk
 rw [hs,hd] at hp
 rw [hd] at t0
 have n2:Z.drew.cell? ⟨L.tb,k*4+2,none⟩=some (.int .u32 (f.nd k)):=by rw [←hp.n0 (by decide)];exact t2
 have c1:=hF.drew.lk.raw.cell1
 have c3:=hF.drew.lk.raw.cell3
 rw [hZ] at c4 t0
 have n3:Z.drew.cell? ⟨L.tb,k*4+3,none⟩=some (.int .u32 (f.oth k)):=by rw [←hp.o1 rfl (by decide)];exact t3
 have cG:=fl_next hF.drew.lk (f.oth k) hp.orr
 have cA:=pstore_any hF.drew.lk.port u (L.nA (f.oth k)) (f.nd k) hp.nr.1 hp.nr.2 hD
 have HT0:=Lib.hid (λ(W:World) (g:LkM W L {f with ps:=doS f.ps u 2 (L.nA (f.oth k)) 0 (f.nd k)} f.s.st)=>g.turns (g.raw.set1 k 1 7 (f.nd k) (f.oth k) (f.tr k) (λp hp=>by rw [hs,hd] at hp;exact hp.next (by decide) (by decide) (by decide)) 6 rfl))
 have HN:=Lib.hid (λ(q:Pc) (hq:PlI (f.s.st k) (f.pc k) (f.nd k) (f.oth k) (f.tr k) f.ea q)=>hq.n0 (by omega))
 have HO:=Lib.hid (λ(q:Pc) (hq:PlI (f.s.st k) (f.pc k) (f.nd k) (f.oth k) (f.tr k) f.ea q) (h6:6≤f.pc k)=>hq.o1 hs h6)
 have H6:=Lib.hid hd
 have HE:=Lib.hid (And.intro h (And.intro hk hF))
 clear h hF hs hd hp t1 t2 t3
 go_enter func178,ntmps178
 go_wp2
 rw [←hZ]
 clear hZ
 go_region_held3 (λw'=>w'.cell? ⟨L.lb,1,none⟩=some (.pointer (some ⟨L.q.p,0,none⟩))∧w'.cell? ⟨L.tb,k*4+2,none⟩=some (.int .u32 (f.nd k))∧w'.cell? ⟨L.tb,k*4+3,none⟩=some (.int .u32 (f.oth k))) (first|exact ⟨c1,n2,n3⟩|exact ⟨d1,y2,y3⟩) (first|(go_at_call 183;(with_reducible refine cG.mono ?_);rintro e w' ⟨rfl,rfl⟩)|(go_at_call 98;(with_reducible refine cA.mono ?_);intro e w2 hq;unfold AccPost at hq;obtain ⟨rfl,hP,hW⟩:=hq;have hA:=HE.out.2.2.drew.lk.ports hP hW;have hA3:=Fr.call HE.out.1 HE.out.2.2.drew hA (lf_q hW);have d1:=hA.raw.cell1;have d3:=hA.raw.cell3;obtain ⟨p',hp',y0,y1,y2,y3⟩:=hA.raw.place4 HE.out.2.1;rw [(show p'.nd=f.nd k from HN.out _ hp')] at y2;rw [(show p'.ot=f.oth k from HO.out _ hp' (by rw [H6.out];decide))] at y3;have z0:=hA.raw.tkz (k*4);have hT:=HT0.out _ hA;have hA4:=Fr.call HE.out.1 hA3 hT.1 (lf_t hT.2);obtain ⟨v0,v1,v2,v3⟩:=hA4.cell;obtain ⟨x0,x1,x2,x3⟩:=hA4.frz;have HT:=Lib.hid hA4;clear hA4 hT;clear hA hA3 hP hW hp'))
 go_wp2
 refine bodyPost_ret (v:=Dd.val ⟨0,false,false,false⟩) (results_cell_row rfl _ _ w.heap.size 102 _ (0,0) _ rfl (set4 HT.out.res rfl _ _ _ _) underlying102 rfl i_did) rfl (HT.out.told HE.out.1 ⟨0,false,false,false⟩)
theorem fl_acq5 {w:World} {L:Lp} {f:FL} (h:LkAt w L f) (k:Nat) (hk:k<f.s.n) (u x:Int) (hs:f.s.st k=1) (hd:f.pc k=5) (hD:f.ps.D.length<4611686018427387904):
  Calls prog 178 #[.pointer (some ⟨L.lb,0,none⟩),.int .i64 (k:Int),.int .i64 u,.int .i64 x] w (LmPost w L (f.acq L k u x) (upd f.s.st k (finS 1 (f.acqD L k u x).ev)) (f.acqD L k u x).val):=by
 have e1:f.acq L k u x={f with pc:=upd f.pc k (if tellS f.ps u 3 L.a1=0 then 1 else 6),nd:=upd f.nd k (f.nd k),oth:=upd f.oth k (tellS f.ps u 3 L.a1),tr:=upd f.tr k (if tellS f.ps u 3 L.a1=0 then 0 else f.tr k),ps:=doS f.ps u 3 L.a1 0 (f.nd k)}:=by unfold FL.acq;rw [if_neg (by omega),if_neg (by omega),if_neg (by omega),if_neg (by omega),if_pos hd,upd_id f.nd k rfl]
 have e2:f.acqD L k u x=⟨if tellS f.ps u 3 L.a1=0 then 1 else 0,true,false,false⟩:=by unfold FL.acqD;rw [if_neg (by omega),if_neg (by omega),if_neg (by omega),if_neg (by omega),if_pos hd]
 rw [e1,e2]
 rw [show finS 1 (Dd.ev ⟨if tellS f.ps u 3 L.a1=0 then 1 else 0,true,false,false⟩)=(if tellS f.ps u 3 L.a1=0 then 2 else 1) from by dsimp only;split<;>decide]
 clear e1 e2
 have hF:=Fr.start h
 obtain ⟨Z,hZ⟩:∃ Z,Z=w.alloc (.cells #[.int .i64 0,.bool false,.bool false,.bool false] 102):=⟨_,rfl⟩
 rw [←hZ] at hF
 have hkI:(k:Int)<f.s.n:=by omega
 have c4:=hF.lk.raw.cell4
 obtain ⟨p,hp,t0,t1,t2,t3⟩:=hF.lk.raw.place4 hk
 rw [hs,hd] at hp
 rw [hd] at t0
 have n2:Z.drew.cell? ⟨L.tb,k*4+2,none⟩=some (.int .u32 (f.nd k)):=by rw [←hp.n0 (by decide)];exact t2
 have c1:=hF.drew.lk.raw.cell1
 have c3:=hF.drew.lk.raw.cell3
 rw [hZ] at c4 t0
 have cA:=pswap_any hF.drew.lk.port u L.a1 (f.nd k) hp.nr.1 hp.nr.2 hD
 have hT0:=h.tell u 3 L.a1
 generalize tellS f.ps u 3 L.a1=v at*
 obtain ⟨ev,hev⟩:∃ ev:Int,ev=if v=0 then 1 else 0:=⟨_,rfl⟩
 obtain ⟨g,hg⟩:∃ g:FL,g={f with pc:=upd f.pc k (if v=0 then 1 else 6),nd:=upd f.nd k (f.nd k),oth:=upd f.oth k v,tr:=upd f.tr k (if v=0 then 0 else f.tr k),ps:=doS f.ps u 3 L.a1 0 (f.nd k)}:=⟨_,rfl⟩
 obtain ⟨σ',hσ⟩:∃ σ':Nat→Int,σ'=upd f.s.st k (if v=0 then 2 else 1):=⟨_,rfl⟩
 rw [←hg,←hσ,←hev]
 have HC:RowKit.Hid (∀ W:World,LkM W L {f with ps:=doS f.ps u 3 L.a1 0 (f.nd k)} f.s.st→Calls prog 184 #[.pointer (some ⟨L.tb,k*4,none⟩),.int .u32 v] W (LmPost W L g σ' (Dd.val ⟨ev,true,false,false⟩))):=Lib.hid (λW q=>by
  rw [hg,hσ,hev];exact fl_enters q k hk (show f.pc k≠1 by omega) v hT0)
 have HN:=Lib.hid (λ(q:Pc) (hq:PlI (f.s.st k) (f.pc k) (f.nd k) (f.oth k) (f.tr k) f.ea q)=>hq.n0 (by omega))
 have HQ:RowKit.Hid (k<g.s.n∧∀ q:Pc,PlI (σ' k) (g.pc k) (g.nd k) (g.oth k) (g.tr k) g.ea q→q.nd=f.nd k):=Lib.hid (by
  rw [hg,hσ]
  refine ⟨hk,λq hq=> ?_⟩
  dsimp only at hq
  rw [upd_same,upd_same,upd_same] at hq
  by_cases hv:v=0
  ·rw [if_pos hv,if_pos hv] at hq;exact hq.n1 (.inl rfl)
  ·rw [if_neg hv,if_neg hv] at hq;exact hq.n0 (by decide))
 have HE:=Lib.hid (And.intro h (And.intro hk hF))
 have HV:=Lib.hid hev
 clear h hF hs hd hp t1 t2 t3 hT0 hev hg hσ
 go_enter func178,ntmps178
 go_wp2
 rw [←hZ]
 clear hZ
 go_region_held3 (λw'=>w'.cell? ⟨L.lb,1,none⟩=some (.pointer (some ⟨L.q.p,0,none⟩))∧w'.cell? ⟨L.lb,3,none⟩=some (.int .i64 L.a1)∧w'.cell? ⟨L.tb,k*4+2,none⟩=some (.int .u32 (f.nd k))) (first|with_reducible exact ⟨d1,d3,y2⟩|with_reducible exact ⟨q1,q3,q2⟩|with_reducible exact ⟨r1,r3,r2⟩|exact ⟨c1,c3,n2⟩) (first|(go_at_call 156;(with_reducible refine cA.mono ?_);intro e w2 hq;unfold AccPost at hq;obtain ⟨rfl,hP,hW⟩:=hq;have hA:=HE.out.2.2.drew.lk.ports hP hW;have hA3:=Fr.call HE.out.1 HE.out.2.2.drew hA (lf_q hW);have d1:=hA.raw.cell1;have d3:=hA.raw.cell3;obtain ⟨p',hp',y0,y1,y2,y3⟩:=hA.raw.place4 HE.out.2.1;rw [(show p'.nd=f.nd k from HN.out _ hp')] at y2;have HA:=Lib.hid hA3;have cE:=HC.out _ hA;clear hA hA3 hP hW hp')|(go_at_call 184;(with_reducible refine cE.mono ?_);intro e w3 hq;unfold LmPost at hq;obtain ⟨rfl,hB,hW2⟩:=hq;dsimp only [Dd.val];have hB3:=Fr.call HE.out.1 HA.out hB hW2;obtain ⟨v0,v1,v2,v3⟩:=hB3.cell;obtain ⟨x0,x1,x2,x3⟩:=hB3.frz;have q1:=hB.raw.cell1;have q3:=hB.raw.cell3;obtain ⟨pB,hpB,_,_,q2,_⟩:=hB.raw.place4 HQ.out.1;rw [HQ.out.2 pB hpB] at q2;have hC:=(hB3.told HE.out.1 ⟨ev,true,false,false⟩).2.1;have r1:=hC.raw.cell1;have r3:=hC.raw.cell3;obtain ⟨pC,hpC,_,_,r2,_⟩:=hC.raw.place4 HQ.out.1;rw [HQ.out.2 pC hpC] at r2;have HT:=Lib.hid hB3;clear hB hB3 hW2 hC hpB hpC))
 go_wp2
 refine bodyPost_ret (v:=Dd.val ⟨ev,true,false,false⟩) (results_cell_row rfl _ _ w.heap.size 102 _ (0,0) _ rfl (set4 HT.out.res rfl _ _ _ _) underlying102 rfl i_did) rfl (HT.out.told HE.out.1 ⟨ev,true,false,false⟩)
end Go.Proofs.YtmnephejhkfchaaGreat.Ka
