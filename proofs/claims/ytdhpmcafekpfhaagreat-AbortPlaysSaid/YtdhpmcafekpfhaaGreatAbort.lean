/- How an abortable lock lies in the heap, and what stores do to it; no walk. -/
import Derived.Test.YtdhpmcafekpfhaaGreatAbortPlain
import Derived.Test.YtdhpmcafekpfhaaGreatPoolNew
namespace Go.Proofs.YtdhpmcafekpfhaaGreat
open Go.RowKit
set_option linter.unusedVariables false
set_option maxRecDepth 100000

/-! ### what contexts do between steps -/
/-- nobody asks who is behind; a deadline is none, or a tick -/
def SS.Np (s : SS) : Prop := s.probed = false ∧ (∀ k, s.st k ≠ 4) ∧ ∀ k, s.dl k = -1 ∨ 0 ≤ s.dl k
/-- what a call, or a call to unlock, may turn -/
def SS.Ke (s s' : SS) : Prop := s'.n = s.n ∧ (s.Np → s'.Np ∧ ∀ k, s'.st k = s.st k ∨ (s.st k = 0 ∧ s'.st k = 1) ∨ (s.st k = 2 ∧ s'.st k = 3))
theorem SS.set_np {s : SS} (h : s.Np) (k : Nat) (x d : Int) (hx : x ≠ 4) (hd : d = -1 ∨ 0 ≤ d) : (s.set k x d).Np := by
  refine ⟨h.1, fun j => ?_, fun j => ?_⟩
  · show upd s.st k x j ≠ 4
    by_cases e : j = k
    · subst e; rw [upd_same]; exact hx
    · rw [upd_other _ _ e]; exact h.2.1 j
  · show upd s.dl k d j = -1 ∨ 0 ≤ upd s.dl k d j
    by_cases e : j = k
    · subst e; rw [upd_same]; exact hd
    · rw [upd_other _ _ e]; exact h.2.2 j
theorem SS.set_st (s : SS) (k : Nat) (x d : Int) : (s.set k x d).st = upd s.st k x := rfl
theorem SS.lock_k (s : SS) (t d : Int) : s.Ke (s.lock t d) := by
  refine ⟨s.lock_n t d, fun h => ?_⟩
  unfold SS.lock
  split
  · rename_i hE
    unfold lockE at hE
    split at hE
    · rename_i hq
      split at hE
      · rename_i h0
        refine ⟨SS.set_np h _ _ _ (by decide) (by omega), fun j => ?_⟩
        rw [SS.set_st]
        by_cases e : j = t.toNat
        · subst e; rw [upd_same]; exact .inr (.inl ⟨h0, rfl⟩)
        · rw [upd_other _ _ e]; exact .inl rfl
      · exact absurd hE (by decide)
    · exact absurd hE (by decide)
  · exact ⟨h, fun _ => .inl rfl⟩
theorem SS.turn_k (s : SS) (t x : Int) (hx : x = 3) : s.Ke (s.turn t x) := by
  subst hx
  refine ⟨s.turn_n t 3, fun h => ?_⟩
  unfold SS.turn
  split
  · rename_i hE
    unfold turnE at hE
    split at hE
    · split at hE
      · exact absurd hE (by decide)
      · split at hE
        · rename_i h2
          refine ⟨SS.set_np h _ _ _ (by decide) (h.2.2 _), fun j => ?_⟩
          rw [SS.set_st]
          by_cases e : j = t.toNat
          · subst e; rw [upd_same]; exact .inr (.inr ⟨h2, rfl⟩)
          · rw [upd_other _ _ e]; exact .inl rfl
        · exact absurd hE (by decide)
    · exact absurd hE (by decide)
  · exact ⟨h, fun _ => .inl rfl⟩
theorem SS.probe_k (s : SS) (t : Int) : s.Ke (s.probe t) := by
  refine ⟨s.probe_n t, fun h => ?_⟩
  unfold SS.probe
  rw [if_neg (by rw [h.1]; decide)]
  exact ⟨h, fun _ => .inl rfl⟩
theorem SS.fin_np {s : SS} (h : s.Np) (t ev : Int) : (s.fin t ev).Np := by
  unfold SS.fin
  split
  · rename_i y e
    refine SS.set_np h _ _ _ ?_ (by omega)
    unfold endO behindI at e
    repeat' split at e
    all_goals first | (cases e; decide) | cases e
  · exact h
/-- what a context does behind an event -/
def finS (x ev : Int) : Int := (behindI x ev).getD x
theorem SS.fin_st (s : SS) (k : Nat) (hk : k < s.n) (ev : Int) : (s.fin k ev).st = upd s.st k (finS (s.st k) ev) := by
  unfold SS.fin endO finS
  rw [if_pos (show 0 ≤ (k : Int) ∧ (k : Int) < s.n by omega), Int.toNat_natCast]
  cases behindI (s.st k) ev with
  | some y => rfl
  | none =>
    funext j
    by_cases e : j = k
    · subst e; rw [upd_same]; rfl
    · rw [upd_other _ _ e]
theorem SS.fin_st0 (s : SS) (t : Int) : (s.fin t 0).st = s.st := by
  unfold SS.fin endO
  by_cases h : 0 ≤ t ∧ t < s.n
  · rw [if_pos h]
    have : behindI (s.st t.toNat) 0 = none := by
      unfold behindI
      repeat' split
      all_goals first | rfl | (exfalso; omega)
    rw [this]
  · rw [if_neg h]

/-! ### a place -/
structure Pc where
  st : Int
  tr : Int
  nd : Int
  ot : Int
def Pc.cells (p : Pc) : List Value := [.int .i64 p.st, .int .i64 p.tr, .int .u32 p.nd, .int .u32 p.ot]
def tkC (G : Nat → Pc) (t : Nat) : List Value := (G t).cells
theorem tkC_len (G : Nat → Pc) : ∀ x, (tkC G x).length = 4 := fun _ => rfl
def tks (n : Nat) (G : Nat → Pc) : List Value := (List.range n).flatMap (tkC G)
theorem tks_at (n : Nat) (G : Nat → Pc) {k : Nat} (hk : k < n) {j : Nat} (hj : j < 4) : (tks n G)[k * 4 + j]? = (G k).cells[j]? := flat_at' (tkC_len G) _ (by rw [List.getElem?_range hk]) hj
theorem range_at {n i t : Nat} (ht : (List.range n)[i]? = some t) : i < n ∧ t = i := by
  have hi : i < n := by have := (List.getElem?_eq_some_iff.1 ht).1; simpa using this
  rw [List.getElem?_range hi] at ht
  exact ⟨hi, by simpa using ht.symm⟩
theorem tks_set (n : Nat) (G : Nat → Pc) (k j : Nat) (v : Value) (p : Pc) (hj : j < 4) (hp : p.cells = (G k).cells.set j v) : (tks n G).set (k * 4 + j) v = tks n (upd G k p) := by
  refine flat_set (tkC_len G) (tkC_len _) _ k j hj _ fun i t ht l hl => ?_
  obtain ⟨_, rfl⟩ := range_at ht
  unfold tkC
  by_cases e : t = k
  · subst e
    rw [upd_same, hp, List.getElem?_set]
    have hlen : (G t).cells.length = 4 := rfl
    by_cases el : l = j
    · subst el; simp [hlen, hj]
    · simp [el, Ne.symm el]
  · simp [upd_other _ _ e, e]
theorem upd_sf {α : Type} (f : Nat → α) (k j : Nat) : f j = upd f k (f k) j := by
  by_cases e : j = k
  · subst e; rw [upd_same]
  · rw [upd_other _ _ e]
theorem upd_id {α : Type} (g : Nat → α) (k : Nat) {x : α} (h : x = g k) : upd g k x = g := by subst h; exact funext fun j => (upd_sf g k j).symm
theorem upd_upd {α : Type} (g : Nat → α) (k : Nat) (x y : α) : upd (upd g k x) k y = upd g k y := by
  funext j
  by_cases e : j = k
  · subst e; rw [upd_same, upd_same]
  · rw [upd_other _ _ e, upd_other _ _ e, upd_other _ _ e]

/-- what a place has of what the document says, where a context is in the state x -/
structure PlI (x pc nd oth tr : Int) (ea : Nat) (p : Pc) : Prop where
  st : p.st = pc - 1
  pr : 1 ≤ pc ∧ pc ≤ 8
  nr : 0 ≤ nd ∧ nd < 4294967296
  orr : 0 ≤ oth ∧ oth < 4294967296
  tr0 : x ≠ 1 → tr = 0
  tr1 : 0 ≤ tr ∧ tr ≤ ea
  tr2 : x ≠ 9 → pc = 1 → tr < ea ∧ p.tr = tr
  n0 : pc ≠ 1 → p.nd = nd
  n1 : x = 2 ∨ x = 3 → p.nd = nd
  o1 : x = 1 → 6 ≤ pc → p.ot = oth
  o3 : x = 3 → pc = 4 ∨ pc = 5 → p.ot = oth
  idle : x ≠ 1 → x ≠ 3 → pc = 1
  rel : x = 3 → pc ≤ 6
  pn : 0 ≤ p.nd ∧ p.nd < 4294967296
  po : 0 ≤ p.ot ∧ p.ot < 4294967296
theorem PlI.turn {x y pc nd oth tr : Int} {ea : Nat} {p : Pc} (h : PlI x pc nd oth tr ea p) (hy : y = x ∨ (x = 0 ∧ y = 1) ∨ (x = 2 ∧ y = 3)) : PlI y pc nd oth tr ea p := by
  rcases hy with rfl | ⟨rfl, rfl⟩ | ⟨rfl, rfl⟩
  · exact h
  · have e := h.idle (by decide) (by decide)
    exact ⟨h.st, h.pr, h.nr, h.orr, fun _ => h.tr0 (by decide), h.tr1, fun _ => h.tr2 (by decide), h.n0, fun q => by omega, fun _ q => by omega, fun q => by omega, fun q => by omega, fun q => by omega, h.pn, h.po⟩
  · have e := h.idle (by decide) (by decide)
    exact ⟨h.st, h.pr, h.nr, h.orr, fun _ => h.tr0 (by decide), h.tr1, fun _ => h.tr2 (by decide), h.n0, fun q => h.n1 (.inl rfl), fun q => by omega, fun _ q => by omega, fun q => by omega, fun q => by omega, h.pn, h.po⟩

/-! ### in the heap -/
structure FlRaw (w : World) (L : Lp) (pv : Value) (s : SS) (σ : Nat → Int) (ea : Nat) (pc nd oth tr : Nat → Int) : Prop where
  obj : ∃ Q : Pp, w.heap[L.lb]? = some (.cells #[.pointer (some ⟨L.p, 0, none⟩), pv, .pointer (some ⟨Q.p, 0, none⟩), .int .i64 L.a1, .slice (some ⟨L.tb, 0, none⟩) s.n s.n] 50 (0, 0)) ∧
    PoolAt w Q (newPl s.n ea) ∧ ∀ b, Q.F s.n b → b < L.lb ∧ b ≠ L.p ∧ b ≠ L.b ∧ b ≠ L.tb
  seat : SeatAt w L.p L.b s
  tick : ∃ G : Nat → Pc, w.heap[L.tb]? = some (.cells (tks s.n G).toArray 118 (0, 0)) ∧ ∀ k, PlI (σ k) (pc k) (nd k) (oth k) (tr k) ea (G k)
  np : s.Np
  ne : L.lb ≠ L.b ∧ L.lb ≠ L.tb ∧ L.p ≠ L.tb ∧ L.b ≠ L.tb ∧ L.lb ≠ L.p
  each : 1 ≤ ea ∧ ea ≤ 8
  adr : 0 ≤ L.a1 ∧ L.a1 ≤ 2000000 ∧ L.a2 = L.a1 + 1

namespace FlRaw
variable {w w' : World} {L : Lp} {pv : Value} {s : SS} {σ : Nat → Int} {ea : Nat} {pc nd oth tr : Nat → Int}
theorem wrote {S : Nat → Prop} (h : FlRaw w L pv s σ ea pc nd oth tr) (k : Wrote S w w') (h1 : ¬ S L.lb) (h2 : ¬ S L.p) (h3 : ¬ S L.b) (h4 : ¬ S L.tb) (h5 : ∀ b, b < L.lb → b ≠ L.p → b ≠ L.b → b ≠ L.tb → ¬ S b) : FlRaw w' L pv s σ ea pc nd oth tr := by
  obtain ⟨Q, q1, q2, q3⟩ := h.obj
  obtain ⟨G, g1, g2⟩ := h.tick
  exact ⟨⟨Q, (k.block _ (blk_lt q1) h1).trans q1, q2.wrote k fun b hb => h5 b (q3 b hb).1 (q3 b hb).2.1 (q3 b hb).2.2.1 (q3 b hb).2.2.2, q3⟩, h.seat.wrote k h2 h3, ⟨G, (k.block _ (blk_lt g1) h4).trans g1, g2⟩, h.np, h.ne, h.each, h.adr⟩
theorem after (h : FlRaw w L pv s σ ea pc nd oth tr) (k : Wrote Nil w w') : FlRaw w' L pv s σ ea pc nd oth tr := h.wrote k id id id id fun _ _ _ _ _ => id
theorem lto (h : FlRaw w L pv s σ ea pc nd oth tr) : L.lb < w.heap.size := by obtain ⟨Q, q1, _⟩ := h.obj; exact blk_lt q1
theorem ltt (h : FlRaw w L pv s σ ea pc nd oth tr) : L.tb < w.heap.size := by obtain ⟨G, g1, _⟩ := h.tick; exact blk_lt g1
/-- its contexts turn, its places stay: what is so behind an event, or behind a call -/
theorem seats0 {s' : SS} (h : FlRaw w L pv s σ ea pc nd oth tr) (hS : SeatAt w' L.p L.b s') (hn : s'.n = s.n) (hp : s'.Np) (k : Wrote (One L.b) w w') : FlRaw w' L pv s' σ ea pc nd oth tr := by
  obtain ⟨Q, q1, q2, q3⟩ := h.obj
  obtain ⟨G, g1, g2⟩ := h.tick
  refine ⟨⟨Q, ?_, ?_, ?_⟩, hS, ⟨G, ?_, g2⟩, hp, h.ne, h.each, h.adr⟩
  · rw [hn]; exact (k.block _ (blk_lt q1) h.ne.1).trans q1
  · rw [hn]; exact q2.wrote k fun b hb => (q3 b hb).2.2.1
  · rw [hn]; exact q3
  · rw [hn]; exact (k.block _ (blk_lt g1) (fun e => h.ne.2.2.2.1 e.symm)).trans g1
theorem cell0 (h : FlRaw w L pv s σ ea pc nd oth tr) : w.cell? ⟨L.lb, 0, none⟩ = some (.pointer (some ⟨L.p, 0, none⟩)) := by obtain ⟨Q, q1, _⟩ := h.obj; rw [blk_cell q1]; rfl
theorem cell1 (h : FlRaw w L pv s σ ea pc nd oth tr) : w.cell? ⟨L.lb, 1, none⟩ = some pv := by obtain ⟨Q, q1, _⟩ := h.obj; rw [blk_cell q1]; rfl
theorem cell2 (h : FlRaw w L pv s σ ea pc nd oth tr) : ∃ Q : Pp, w.cell? ⟨L.lb, 2, none⟩ = some (.pointer (some ⟨Q.p, 0, none⟩)) ∧ PoolAt w Q (newPl s.n ea) := by obtain ⟨Q, q1, q2, _⟩ := h.obj; exact ⟨Q, by rw [blk_cell q1]; rfl, q2⟩
theorem cell3 (h : FlRaw w L pv s σ ea pc nd oth tr) : w.cell? ⟨L.lb, 3, none⟩ = some (.int .i64 L.a1) := by obtain ⟨Q, q1, _⟩ := h.obj; rw [blk_cell q1]; rfl
theorem cell4 (h : FlRaw w L pv s σ ea pc nd oth tr) : w.cell? ⟨L.lb, 4, none⟩ = some (.slice (some ⟨L.tb, 0, none⟩) s.n s.n) := by obtain ⟨Q, q1, _⟩ := h.obj; rw [blk_cell q1]; rfl
theorem frozen (h : FlRaw w L pv s σ ea pc nd oth tr) (k : Nat) : w.frozen? ⟨L.lb, k, none⟩ = false := by obtain ⟨Q, q1, _⟩ := h.obj; exact blk_frozen q1 k
/-- a place's cells -/
theorem place4 (h : FlRaw w L pv s σ ea pc nd oth tr) {k : Nat} (hk : k < s.n) : ∃ p : Pc, PlI (σ k) (pc k) (nd k) (oth k) (tr k) ea p ∧ w.cell? ⟨L.tb, k * 4, none⟩ = some (.int .i64 (pc k - 1)) ∧ w.cell? ⟨L.tb, k * 4 + 1, none⟩ = some (.int .i64 p.tr) ∧
    w.cell? ⟨L.tb, k * 4 + 2, none⟩ = some (.int .u32 p.nd) ∧ w.cell? ⟨L.tb, k * 4 + 3, none⟩ = some (.int .u32 p.ot) := by
  obtain ⟨G, g1, g2⟩ := h.tick
  refine ⟨G k, g2 k, ?_, ?_, ?_, ?_⟩
  · rw [blk_cell g1, List.getElem?_toArray, ← (g2 k).st]; exact tks_at s.n G hk (j := 0) (by decide)
  · rw [blk_cell g1, List.getElem?_toArray]; exact tks_at s.n G hk (j := 1) (by decide)
  · rw [blk_cell g1, List.getElem?_toArray]; exact tks_at s.n G hk (j := 2) (by decide)
  · rw [blk_cell g1, List.getElem?_toArray]; exact tks_at s.n G hk (j := 3) (by decide)
theorem tkz (h : FlRaw w L pv s σ ea pc nd oth tr) (k : Nat) : w.frozen? ⟨L.tb, k, none⟩ = false := by obtain ⟨G, g1, _⟩ := h.tick; exact blk_frozen g1 k
theorem pli (h : FlRaw w L pv s σ ea pc nd oth tr) (k : Nat) : ∃ p : Pc, PlI (σ k) (pc k) (nd k) (oth k) (tr k) ea p := by obtain ⟨G, g1, g2⟩ := h.tick; exact ⟨G k, g2 k⟩

theorem put0 (h : FlRaw w L pv s σ ea pc nd oth tr) {G : Nat → Pc} (hG : w'.heap[L.tb]? = some (.cells (tks s.n G).toArray 118 (0, 0))) (hW : Wrote (One L.tb) w w')
    {σ' pc' nd' oth' tr' : Nat → Int} (hI : ∀ j, PlI (σ' j) (pc' j) (nd' j) (oth' j) (tr' j) ea (G j)) : FlRaw w' L pv s σ' ea pc' nd' oth' tr' := by
  obtain ⟨Q, q1, q2, q3⟩ := h.obj
  exact ⟨⟨Q, (hW.block _ (blk_lt q1) h.ne.2.1).trans q1, q2.wrote hW fun b hb => (q3 b hb).2.2.2, q3⟩, h.seat.wrote hW h.ne.2.2.1 h.ne.2.2.2.1, ⟨G, hG, hI⟩, h.np, h.ne, h.each, h.adr⟩
theorem pli_upd {G : Nat → Pc} (hI : ∀ j, PlI (σ j) (pc j) (nd j) (oth j) (tr j) ea (G j)) (k : Nat) {v x y z r : Int} {p : Pc} (hp : PlI v x y z r ea p) :
    ∀ j, PlI (upd σ k v j) (upd pc k x j) (upd nd k y j) (upd oth k z j) (upd tr k r j) ea (upd G k p j) := fun j => by
  by_cases e : j = k
  · subst e; rw [upd_same, upd_same, upd_same, upd_same, upd_same, upd_same]; exact hp
  · rw [upd_other _ _ e, upd_other _ _ e, upd_other _ _ e, upd_other _ _ e, upd_other _ _ e, upd_other _ _ e]; exact hI j
/-- nothing turns in the heap -/
theorem set0 (h : FlRaw w L pv s σ ea pc nd oth tr) (k : Nat) (v x y z r : Int) (hp : ∀ p, PlI (σ k) (pc k) (nd k) (oth k) (tr k) ea p → PlI v x y z r ea p) : FlRaw w L pv s (upd σ k v) ea (upd pc k x) (upd nd k y) (upd oth k z) (upd tr k r) := by
  obtain ⟨G, g1, g2⟩ := h.tick
  have := h.put0 (G := upd G k (G k)) (by rw [upd_id G k rfl]; exact g1) (Wrote.refl _ w) (pli_upd g2 k (hp _ (g2 k)))
  exact this
/-- a place's step turns alone -/
theorem set1 (h : FlRaw w L pv s σ ea pc nd oth tr) (k : Nat) (v x y z r : Int) (hp : ∀ p, PlI (σ k) (pc k) (nd k) (oth k) (tr k) ea p → PlI v x y z r ea { p with st := x - 1 }) (c : Int) (hc : c = x - 1) :
    FlRaw (w.setCell ⟨L.tb, k * 4, none⟩ (.int .i64 c)) L pv s (upd σ k v) ea (upd pc k x) (upd nd k y) (upd oth k z) (upd tr k r) ∧ Wrote (One L.tb) w (w.setCell ⟨L.tb, k * 4, none⟩ (.int .i64 c)) := by
  subst hc
  obtain ⟨G, g1, g2⟩ := h.tick
  have hW : Wrote (One L.tb) w (w.setCell ⟨L.tb, k * 4, none⟩ (.int .i64 (x - 1))) := (Wrote.refl _ w).setCell _ _ fun _ => rfl
  refine ⟨h.put0 (G := upd G k { G k with st := x - 1 }) ?_ hW (pli_upd g2 k (hp _ (g2 k))), hW⟩
  rw [blk_setCell g1, List.setIfInBounds_toArray]
  rw [show (tks s.n G).set (k * 4) (.int .i64 (x - 1)) = tks s.n (upd G k { G k with st := x - 1 }) from tks_set s.n G k 0 _ _ (by decide) rfl]
/-- how often it looked turns alone -/
theorem setT (h : FlRaw w L pv s σ ea pc nd oth tr) (k : Nat) (v x y z r : Int) (c : Int) (hp : ∀ p, PlI (σ k) (pc k) (nd k) (oth k) (tr k) ea p → PlI v x y z r ea { p with tr := c }) :
    FlRaw (w.setCell ⟨L.tb, k * 4 + 1, none⟩ (.int .i64 c)) L pv s (upd σ k v) ea (upd pc k x) (upd nd k y) (upd oth k z) (upd tr k r) ∧ Wrote (One L.tb) w (w.setCell ⟨L.tb, k * 4 + 1, none⟩ (.int .i64 c)) := by
  obtain ⟨G, g1, g2⟩ := h.tick
  have hW : Wrote (One L.tb) w (w.setCell ⟨L.tb, k * 4 + 1, none⟩ (.int .i64 c)) := (Wrote.refl _ w).setCell _ _ fun _ => rfl
  refine ⟨h.put0 (G := upd G k { G k with tr := c }) ?_ hW (pli_upd g2 k (hp _ (g2 k))), hW⟩
  rw [blk_setCell g1, List.setIfInBounds_toArray, tks_set s.n G k 1 (.int .i64 c) { G k with tr := c } (by decide) rfl]
/-- a place turns whole -/
theorem set4' (h : FlRaw w L pv s σ ea pc nd oth tr) (k : Nat) (v x y z r : Int) (a b c d : Int) (hp : PlI v x y z r ea ⟨a, b, c, d⟩) :
    FlRaw ((((w.setCell ⟨L.tb, k * 4, none⟩ (.int .i64 a)).setCell ⟨L.tb, k * 4 + 1, none⟩ (.int .i64 b)).setCell ⟨L.tb, k * 4 + 2, none⟩ (.int .u32 c)).setCell ⟨L.tb, k * 4 + 3, none⟩ (.int .u32 d)) L pv s (upd σ k v) ea (upd pc k x) (upd nd k y) (upd oth k z) (upd tr k r) ∧
      Wrote (One L.tb) w ((((w.setCell ⟨L.tb, k * 4, none⟩ (.int .i64 a)).setCell ⟨L.tb, k * 4 + 1, none⟩ (.int .i64 b)).setCell ⟨L.tb, k * 4 + 2, none⟩ (.int .u32 c)).setCell ⟨L.tb, k * 4 + 3, none⟩ (.int .u32 d)) := by
  obtain ⟨G, g1, g2⟩ := h.tick
  have hW : Wrote (One L.tb) w ((((w.setCell ⟨L.tb, k * 4, none⟩ (.int .i64 a)).setCell ⟨L.tb, k * 4 + 1, none⟩ (.int .i64 b)).setCell ⟨L.tb, k * 4 + 2, none⟩ (.int .u32 c)).setCell ⟨L.tb, k * 4 + 3, none⟩ (.int .u32 d)) :=
    ((((Wrote.refl (One L.tb) w).setCell ⟨L.tb, k * 4, none⟩ (.int .i64 a) fun _ => rfl).setCell ⟨L.tb, k * 4 + 1, none⟩ (.int .i64 b) fun _ => rfl).setCell ⟨L.tb, k * 4 + 2, none⟩ (.int .u32 c) fun _ => rfl).setCell ⟨L.tb, k * 4 + 3, none⟩ (.int .u32 d) fun _ => rfl
  refine ⟨h.put0 (G := upd G k ⟨a, b, c, d⟩) ?_ hW (pli_upd g2 k hp), hW⟩
  have s0 : (tks s.n G).set (k * 4) (.int .i64 a) = tks s.n (upd G k { G k with st := a }) := tks_set s.n G k 0 _ _ (by decide) rfl
  rw [blk_setCell (blk_setCell (blk_setCell (blk_setCell g1 _ _) _ _) _ _), List.setIfInBounds_toArray, List.setIfInBounds_toArray, List.setIfInBounds_toArray, List.setIfInBounds_toArray, s0,
    tks_set s.n (upd G k { G k with st := a }) k 1 (.int .i64 b) { G k with st := a, tr := b } (by decide) (by rw [upd_same]; rfl), upd_upd,
    tks_set s.n (upd G k { G k with st := a, tr := b }) k 2 (.int .u32 c) { G k with st := a, tr := b, nd := c } (by decide) (by rw [upd_same]; rfl), upd_upd,
    tks_set s.n (upd G k { G k with st := a, tr := b, nd := c }) k 3 (.int .u32 d) ⟨a, b, c, d⟩ (by decide) (by rw [upd_same]; rfl), upd_upd]
/-- it is used over a port -/
theorem use (h : FlRaw w L pv s σ ea pc nd oth tr) (v : Value) : FlRaw (w.setCell ⟨L.lb, 1, none⟩ v) L v s σ ea pc nd oth tr := by
  have hW : Wrote (One L.lb) w (w.setCell ⟨L.lb, 1, none⟩ v) := (Wrote.refl _ w).setCell _ _ fun _ => rfl
  obtain ⟨Q, q1, q2, q3⟩ := h.obj
  obtain ⟨G, g1, g2⟩ := h.tick
  refine ⟨⟨Q, ?_, q2.wrote hW fun b hb e => by have := (q3 b hb).1; cases e; omega, q3⟩, h.seat.wrote hW (fun e => h.ne.2.2.2.2 e.symm) (fun e => h.ne.1 e.symm), ⟨G, (hW.block _ (blk_lt g1) (fun e => h.ne.2.1 e.symm)).trans g1, g2⟩, h.np, h.ne, h.each, h.adr⟩
  rw [blk_setCell q1]
  rfl
theorem place (h : FlRaw w L pv s σ ea pc nd oth tr) (q : Place) (hs : List Int) : FlRaw w { L with q := q, hs := hs } pv s σ ea pc nd oth tr := ⟨h.obj, h.seat, h.tick, h.np, h.ne, h.each, h.adr⟩
end FlRaw

abbrev RawF (w : World) (L : Lp) (pv : Value) (f : FL) : Prop := FlRaw w L pv f.s f.s.st f.ea f.pc f.nd f.oth f.tr
/-- a lock that is used over its port; what its contexts are said to do -/
structure LkM (w : World) (L : Lp) (f : FL) (σ : Nat → Int) : Prop where
  raw : FlRaw w L (.pointer (some ⟨L.q.p, 0, none⟩)) f.s σ f.ea f.pc f.nd f.oth f.tr
  port : PortAt w L.q L.hs f.ps
  far : L.lb < L.q.k0 ∧ L.p < L.q.k0 ∧ L.b < L.q.k0 ∧ L.tb < L.q.k0
  top : L.q.k3 ≤ w.heap.size
abbrev LkAt (w : World) (L : Lp) (f : FL) : Prop := LkM w L f f.s.st
/-- the blocks that a call of it may turn -/
def LF (L : Lp) (k : Nat) : Prop := k = L.b ∨ k = L.tb ∨ Rng L.q.k0 L.q.k3 k

namespace LkM
variable {w w' : World} {L : Lp} {f : FL} {σ : Nat → Int}
theorem wrote {S : Nat → Prop} (h : LkM w L f σ) (k : Wrote S w w') (h5 : ∀ b, b < L.q.k3 → ¬ S b) : LkM w' L f σ := by
  have hf := h.far
  have hl := h.port.place.le
  exact ⟨h.raw.wrote k (h5 _ (by omega)) (h5 _ (by omega)) (h5 _ (by omega)) (h5 _ (by omega)) (fun b hb _ _ _ => h5 b (by omega)), h.port.wrote k (fun b _ b2 => h5 b b2), h.far, Nat.le_trans h.top k.size⟩
theorem after (h : LkM w L f σ) (k : Wrote Nil w w') : LkM w' L f σ := h.wrote k fun _ _ => id
theorem seats {s' : SS} (h : LkAt w L f) (hS : SeatAt w' L.p L.b s') (hn : f.s.Ke s') (k : Wrote (One L.b) w w') : LkAt w' L { f with s := s' } := by
  have hr := h.raw.seats0 hS hn.1 (hn.2 h.raw.np).1 k
  obtain ⟨G, g1, g2⟩ := hr.tick
  exact ⟨⟨hr.obj, hr.seat, ⟨G, g1, fun j => (g2 j).turn ((hn.2 h.raw.np).2 j)⟩, hr.np, hr.ne, hr.each, hr.adr⟩, h.port.wrote k (fun b b1 _ e => by have := h.far.2.2.1; cases e; omega), h.far, Nat.le_trans h.top k.size⟩
/-- behind an event -/
theorem ends {s' : SS} (h : LkM w L f σ) (hS : SeatAt w' L.p L.b s') (hn : s'.n = f.s.n) (hp : s'.Np) (hs : σ = s'.st) (k : Wrote (One L.b) w w') : LkAt w' L { f with s := s' } := by
  subst hs
  exact ⟨h.raw.seats0 hS hn hp k, h.port.wrote k (fun b b1 _ e => by have := h.far.2.2.1; cases e; omega), h.far, Nat.le_trans h.top k.size⟩
theorem ports {ps' : PSta} (h : LkM w L f σ) (hP : PortAt w' L.q L.hs ps') (k : Wrote (Rng L.q.k0 L.q.k3) w w') : LkM w' L { f with ps := ps' } σ :=
  ⟨h.raw.wrote k (fun e => by have := h.far.1; unfold Rng at e; omega) (fun e => by have := h.far.2.1; unfold Rng at e; omega) (fun e => by have := h.far.2.2.1; unfold Rng at e; omega) (fun e => by have := h.far.2.2.2; unfold Rng at e; omega) (fun b hb _ _ _ e => by have := h.far.1; unfold Rng at e; omega), hP, h.far, Nat.le_trans h.top k.size⟩
theorem turns (h : LkM w L f σ) {σ' pc' nd' oth' tr' : Nat → Int} (k : FlRaw w' L (.pointer (some ⟨L.q.p, 0, none⟩)) f.s σ' f.ea pc' nd' oth' tr' ∧ Wrote (One L.tb) w w') :
    LkM w' L { f with pc := pc', nd := nd', oth := oth', tr := tr' } σ' ∧ Wrote (One L.tb) w w' :=
  ⟨⟨k.1, h.port.wrote k.2 (fun b b1 _ e => by have := h.far.2.2.2; cases e; omega), h.far, Nat.le_trans h.top k.2.size⟩, k.2⟩
theorem turn0 (h : LkM w L f σ) {σ' pc' nd' oth' tr' : Nat → Int} (k : FlRaw w L (.pointer (some ⟨L.q.p, 0, none⟩)) f.s σ' f.ea pc' nd' oth' tr') : LkM w L { f with pc := pc', nd := nd', oth := oth', tr := tr' } σ' := ⟨k, h.port, h.far, h.top⟩
theorem wf (h : LkM w L f σ) (j : Int) : 0 ≤ loadI f.ps.ws j ∧ loadI f.ps.ws j < 4294967296 := h.port.mem.load_rng j
theorem tell (h : LkM w L f σ) (t K a : Int) : 0 ≤ tellS f.ps t K a ∧ tellS f.ps t K a < 4294967296 := by
  unfold tellS tellI
  repeat' split
  · exact h.wf a
  all_goals omega
theorem lf_lt (h : LkM w L f σ) {k : Nat} (hk : LF L k) : k < w.heap.size := by
  rcases hk with rfl | rfl | hk
  · exact blk_lt h.raw.seat.ctx
  · exact h.raw.ltt
  · exact Nat.lt_of_lt_of_le hk.2 h.top
/-- whatever a place's context is said to do -/
theorem same (h : LkM w L f σ) {σ' : Nat → Int} (e : σ = σ') : LkM w L f σ' := by subst e; exact h
end LkM

/-- behind a call: what it told, what is there now, what it may have turned -/
def LmPost (w : World) (L : Lp) (f : FL) (σ : Nat → Int) (v : Value) (e : Ending) (w' : World) : Prop := e = .returned v ∧ LkM w' L f σ ∧ Wrote (LF L) w w'
abbrev LkPost (w : World) (L : Lp) (f : FL) (v : Value) (e : Ending) (w' : World) : Prop := LmPost w L f f.s.st v e w'
theorem lf_b {w w' : World} {L : Lp} (k : Wrote (One L.b) w w') : Wrote (LF L) w w' := k.mono fun _ _ e => .inl e
theorem lf_t {w w' : World} {L : Lp} (k : Wrote (One L.tb) w w') : Wrote (LF L) w w' := k.mono fun _ _ e => .inr (.inl e)
theorem lf_q {w w' : World} {L : Lp} (k : Wrote (Rng L.q.k0 L.q.k3) w w') : Wrote (LF L) w w' := k.mono fun _ _ e => .inr (.inr e)
theorem lf_nil {w w' : World} {L : Lp} (k : Wrote Nil w w') : Wrote (LF L) w w' := k.mono fun _ _ e => e.elim
theorem lf_trans {w w' w'' : World} {L : Lp} (h : Wrote (LF L) w w') (k : Wrote (LF L) w' w'') : Wrote (LF L) w w'' := h.trans k fun _ _ e => e

/-! ### a result that is a struct: its block -/
def didC (d : Dd) : Array Value := #[.int .i64 d.ev, .bool d.enq, .bool d.arr, .bool d.lead]
theorem didC_no : didC Dd.no = #[.int .i64 0, .bool false, .bool false, .bool false] := rfl
/-- behind a call's first step: its result's block B was laid, then what is said came -/
structure Fr (w : World) (B : Nat) (Y : World) (L : Lp) (f : FL) (σ : Nat → Int) : Prop where
  lk : LkM Y L f σ
  wr : Wrote (LF L) w Y
  res : Y.heap[B]? = some (.cells (didC Dd.no) 52 (0, 0))
  new : w.heap.size ≤ B
namespace Fr
variable {w X Y : World} {L : Lp} {f f' : FL} {B : Nat} {σ σ' : Nat → Int}
theorem start (h : LkM w L f σ) : Fr w w.heap.size (w.alloc (.cells #[.int .i64 0, .bool false, .bool false, .bool false] 52)) L f σ :=
  ⟨h.after ((Wrote.refl _ w).alloc _), (Wrote.refl _ w).alloc _, Go.Deep.blk_alloc_new w _, Nat.le_refl _⟩
theorem after (h : Fr w B X L f σ) (k : Wrote Nil X Y) : Fr w B Y L f σ := ⟨h.lk.after k, h.wr.trans k fun _ _ e => e.elim, (k.block _ (blk_lt h.res) id).trans h.res, h.new⟩
theorem drew (h : Fr w B X L f σ) : Fr w B X.drew L f σ := h.after ((Wrote.refl _ X).drew)
theorem call {f0 : FL} {σ0 : Nat → Int} (h0 : LkM w L f' σ') (h : Fr w B X L f σ) (hl : LkM Y L f0 σ0) (k : Wrote (LF L) X Y) : Fr w B Y L f0 σ0 :=
  ⟨hl, h.wr.trans k fun _ _ e => e, (k.block _ (blk_lt h.res) (fun e => by have := h0.lf_lt e; have := h.new; omega)).trans h.res, h.new⟩
theorem cell (h : Fr w B X L f σ) : X.cell? ⟨B, 0, none⟩ = some (.int .i64 0) ∧ X.cell? ⟨B, 1, none⟩ = some (.bool false) ∧ X.cell? ⟨B, 2, none⟩ = some (.bool false) ∧ X.cell? ⟨B, 3, none⟩ = some (.bool false) := by
  rw [blk_cell h.res, blk_cell h.res, blk_cell h.res, blk_cell h.res]; exact ⟨rfl, rfl, rfl, rfl⟩
theorem frz (h : Fr w B X L f σ) : X.frozen? ⟨B, 0, none⟩ = false ∧ X.frozen? ⟨B, 1, none⟩ = false ∧ X.frozen? ⟨B, 2, none⟩ = false ∧ X.frozen? ⟨B, 3, none⟩ = false :=
  ⟨blk_frozen h.res 0, blk_frozen h.res 1, blk_frozen h.res 2, blk_frozen h.res 3⟩
end Fr
/-- the four cells of a struct stored -/
theorem set4 {Y : World} {B : Nat} {t : TypeId} {cs : Array Value} (h : Y.heap[B]? = some (.cells cs t (0, 0))) (h4 : cs.size = 4) (x0 x1 x2 x3 : Value) :
    ((((Y.setCell ⟨B, 0, none⟩ x0).setCell ⟨B, 1, none⟩ x1).setCell ⟨B, 2, none⟩ x2).setCell ⟨B, 3, none⟩ x3).heap[B]? = some (.cells #[x0, x1, x2, x3] t (0, 0)) := by
  rw [blk_setCell (blk_setCell (blk_setCell (blk_setCell h 0 x0) 1 x1) 2 x2) 3 x3]
  obtain ⟨l⟩ := cs
  match l, h4 with
  | [a, b, c, d], _ => rfl
theorem wrote4 (Y : World) (B : Nat) (x0 x1 x2 x3 : Value) : Wrote (One B) Y ((((Y.setCell ⟨B, 0, none⟩ x0).setCell ⟨B, 1, none⟩ x1).setCell ⟨B, 2, none⟩ x2).setCell ⟨B, 3, none⟩ x3) :=
  ((((Wrote.refl (One B) Y).setCell ⟨B, 0, none⟩ x0 fun _ => rfl).setCell ⟨B, 1, none⟩ x1 fun _ => rfl).setCell ⟨B, 2, none⟩ x2 fun _ => rfl).setCell ⟨B, 3, none⟩ x3 fun _ => rfl
/-- the end of a call whose result is told -/
theorem Fr.told {w Y : World} {L : Lp} {f f0 : FL} {B : Nat} {σ σ0 : Nat → Int} (h0 : LkM w L f0 σ0) (h : Fr w B Y L f σ) (d : Dd) :
    LmPost w L f σ d.val (.returned d.val) ((((Y.setCell ⟨B, 0, none⟩ (.int .i64 d.ev)).setCell ⟨B, 1, none⟩ (.bool d.enq)).setCell ⟨B, 2, none⟩ (.bool d.arr)).setCell ⟨B, 3, none⟩ (.bool d.lead)) := by
  have k := wrote4 Y B (.int .i64 d.ev) (.bool d.enq) (.bool d.arr) (.bool d.lead)
  have hB : ∀ j, j < w.heap.size → ¬ One B j := fun j hj e => by have := h.new; cases e; omega
  refine ⟨rfl, h.lk.wrote k (fun b b2 => hB b (Nat.lt_of_lt_of_le b2 h0.top)), ?_⟩
  exact h.wr.trans k fun b hb e => (hB b hb e).elim
theorem i_did : (Tryz.prog.info? 52).map (·.size) = some 4 := by kernel_rfl
end Go.Proofs.YtdhpmcafekpfhaaGreat
