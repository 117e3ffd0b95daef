/- Eight rows of numbers that a law keeps in an array, one for each cluster; and a lock beside them. -/
import Derived.Test.YteacdcdjdbobnaaHierRow
namespace Go.Proofs.Yteacdcdjdbobnaa
open Go.RowKit Go.BigFrame
set_option linter.unusedVariables false
set_option maxRecDepth 100000

def arr8 (vq : Nat → Value) : Array Value := ((List.range 8).map vq).toArray
theorem arr8_at (vq : Nat → Value) {c : Nat} (hc : c < 8) : (arr8 vq)[c]? = some (vq c) := by
  unfold arr8
  rw [List.getElem?_toArray, List.getElem?_map, List.getElem?_range hc]
  rfl
theorem arr8_set (vq : Nat → Value) (c : Nat) (v : Value) : (arr8 vq).setIfInBounds c v = arr8 (upd vq c v) := by
  unfold arr8
  rw [List.setIfInBounds_toArray]
  congr 1
  apply List.ext_getElem?
  intro j
  rw [List.getElem?_set, List.getElem?_map, List.getElem?_map, List.length_map, List.length_range]
  by_cases hj : j < 8
  · rw [List.getElem?_range hj]
    by_cases e : c = j
    · subst e; simp [upd_same, hj]
    · simp [e, upd_other _ _ (Ne.symm e)]
  · rw [List.getElem?_eq_none (by simp; omega)]
    simp
    omega
structure RdA (w0 w : World) (L : Lp) (f : FL) (Qb : Nat) (vq : Nat → Value) (q : Nat → List Nat) : Prop where
  ls : LkS w0 w L f
  arr : w.heap[Qb]? = some (.cells (arr8 vq) 30 (0, 0))
  row : ∀ c, c < 8 → RowQ w (vq c) ((q c).map natV)
  lo : L.q.k3 ≤ Qb
  low : ∀ c, c < 8 → ∀ j, (vq c).ownBlock = some j → L.q.k3 ≤ j ∧ j ≠ Qb
  far : ∀ c d, c < 8 → d < 8 → c ≠ d → ∀ j, (vq c).ownBlock = some j → (vq d).ownBlock ≠ some j
namespace RdA
variable {w0 w w' : World} {L : Lp} {f f' : FL} {Qb : Nat} {vq : Nat → Value} {q : Nat → List Nat}
theorem after (h : RdA w0 w L f Qb vq q) (k : Wrote Nil w w') : RdA w0 w' L f Qb vq q := ⟨h.ls.after k, (k.block _ (blk_lt h.arr) id).trans h.arr, fun c hc => (h.row c hc).wrote k fun _ _ => id, h.lo, h.low, h.far⟩
theorem call (h : RdA w0 w L f Qb vq q) (hl : LkS w0 w' L f') (k : Wrote (Low L) w w') : RdA w0 w' L f' Qb vq q :=
  ⟨hl, (k.block _ (blk_lt h.arr) fun e => by have := h.lo; unfold Low at e; omega).trans h.arr, fun c hc => (h.row c hc).wrote k fun j hj e => by have := (h.low c hc j hj).1; unfold Low at e; omega, h.lo, h.low, h.far⟩
/-- what turns in a block of nobody's -/
theorem beside (h : RdA w0 w L f Qb vq q) {H : Nat} (k : Wrote (One H) w w') (hH : L.q.k3 ≤ H) (hQ : H ≠ Qb) (hr : ∀ c, c < 8 → (vq c).ownBlock ≠ some H) : RdA w0 w' L f Qb vq q :=
  ⟨h.ls.apart k fun b e => by unfold One at e; omega, (k.block _ (blk_lt h.arr) fun e => by unfold One at e; omega).trans h.arr, fun c hc => (h.row c hc).wrote k fun j hj e => by unfold One at e; subst e; exact hr c hc hj, h.lo, h.low, h.far⟩
theorem cell (h : RdA w0 w L f Qb vq q) {c : Nat} (hc : c < 8) : w.cell? ⟨Qb, c, none⟩ = some (vq c) := (blk_cell h.arr c).trans (arr8_at vq hc)
theorem frz (h : RdA w0 w L f Qb vq q) (c : Nat) : w.frozen? ⟨Qb, c, none⟩ = false := blk_frozen h.arr c
theorem put (h : RdA w0 w L f Qb vq q) {c : Nat} (hc : c < 8) {v' : Value} {q' : Nat → List Nat} (hr : RowQ w v' ((q' c).map natV)) (hq : ∀ d, d ≠ c → q' d = q d) (hl : ∀ j, v'.ownBlock = some j → L.q.k3 ≤ j ∧ j ≠ Qb)
    (hf : ∀ d, d < 8 → d ≠ c → ∀ j, v'.ownBlock = some j → (vq d).ownBlock ≠ some j) : RdA w0 (w.setCell ⟨Qb, c, none⟩ v') L f Qb (upd vq c v') q' := by
  have k : Wrote (One Qb) w (w.setCell ⟨Qb, c, none⟩ v') := (Wrote.refl _ _).setCell _ _ fun _ => rfl
  refine ⟨h.ls.apart k fun b e => by have := h.lo; unfold One at e; omega, ?_, fun d hd => ?_, h.lo, fun d hd j hj => ?_, fun d e hd he hde j hj => ?_⟩
  · rw [blk_setCell h.arr, arr8_set]
  · by_cases e : d = c
    · subst e
      rw [upd_same]
      exact hr.wrote k fun j hj e => by unfold One at e; exact (hl j hj).2 e
    · rw [upd_other _ _ e, hq d e]
      exact (h.row d hd).wrote k fun j hj e => by unfold One at e; exact (h.low d hd j hj).2 e
  · by_cases e : d = c
    · subst e; rw [upd_same] at hj; exact hl j hj
    · rw [upd_other _ _ e] at hj; exact h.low d hd j hj
  · by_cases e1 : d = c
    · subst e1
      rw [upd_same] at hj
      rw [upd_other _ _ (Ne.symm hde)]
      exact hf e he (Ne.symm hde) j hj
    · rw [upd_other _ _ e1] at hj
      by_cases e2 : e = c
      · subst e2
        rw [upd_same]
        intro q2
        exact hf d hd e1 j q2 hj
      · rw [upd_other _ _ e2]
        exact h.far d e hd he hde j hj
/-- a number more, behind -/
theorem push (h : RdA w0 w L f Qb vq q) {c : Nat} (hc : c < 8) {k : Nat} {v' : Value} (hp : PushQ w w' (vq c) v' ((q c).map natV) (natV k)) {q' : Nat → List Nat} (hq : q' c = q c ++ [k]) (hq2 : ∀ d, d ≠ c → q' d = q d) : RdA w0 (w'.setCell ⟨Qb, c, none⟩ v') L f Qb (upd vq c v') q' := by
  obtain ⟨h1, h2, h3⟩ := hp
  have lsz := blk_lt h.arr
  have hls := h.ls.apart h2 fun b hb => (h.low c hc b hb).1
  have harr : w'.heap[Qb]? = some (.cells (arr8 vq) 30 (0, 0)) := (h2.block _ lsz fun e => (h.low c hc Qb e).2 rfl).trans h.arr
  have k2 : Wrote (One Qb) w' (w'.setCell ⟨Qb, c, none⟩ v') := (Wrote.refl _ _).setCell _ _ fun _ => rfl
  have hl : ∀ j, v'.ownBlock = some j → L.q.k3 ≤ j ∧ j ≠ Qb := fun j hj => by
    rcases h3 with e | e
    · exact h.low c hc j (e ▸ hj)
    · have := e j hj
      have := h.ls.lk.top
      omega
  have hf : ∀ d, d < 8 → d ≠ c → ∀ j, v'.ownBlock = some j → (vq d).ownBlock ≠ some j := fun d hd hdc j hj => by
    rcases h3 with e | e
    · exact h.far c d hc hd (Ne.symm hdc) j (e ▸ hj)
    · intro q2
      have := (h.row d hd).lt j q2
      have := e j hj
      omega
  refine ⟨hls.apart k2 fun b e => by have := h.lo; unfold One at e; omega, ?_, fun d hd => ?_, h.lo, fun d hd j hj => ?_, fun d e hd he hde j hj => ?_⟩
  · rw [blk_setCell harr, arr8_set]
  · by_cases e : d = c
    · subst e
      rw [upd_same, hq, List.map_append]
      exact h1.wrote k2 fun j hj e => by unfold One at e; exact (hl j hj).2 e
    · rw [upd_other _ _ e, hq2 d e]
      exact ((h.row d hd).wrote h2 fun j hj e2 => h.far d c hd hc e j hj e2).wrote k2 fun j hj e => by unfold One at e; exact (h.low d hd j hj).2 e
  · by_cases e : d = c
    · subst e; rw [upd_same] at hj; exact hl j hj
    · rw [upd_other _ _ e] at hj; exact h.low d hd j hj
  · by_cases e1 : d = c
    · subst e1
      rw [upd_same] at hj
      rw [upd_other _ _ (Ne.symm hde)]
      exact hf e he (Ne.symm hde) j hj
    · rw [upd_other _ _ e1] at hj
      by_cases e2 : e = c
      · subst e2
        rw [upd_same]
        intro q2
        exact hf d hd e1 j q2 hj
      · rw [upd_other _ _ e2]
        exact h.far d e hd he hde j hj
/-- without its first -/
theorem cut (h : RdA w0 w L f Qb vq q) {c : Nat} (hc : c < 8) {k g off n cap : Nat} {ao : Option Addr} (hv : vq c = .slice (some ⟨g, off, none⟩) n cap) {q' : Nat → List Nat} (hq : q c = k :: q' c) (hq2 : ∀ d, d ≠ c → q' d = q d) (ha : ao = some ⟨g, off, none⟩ ∧ cap = 1 ∨ ao = some ⟨g, off + 1, none⟩) :
    RdA w0 (w.setCell ⟨Qb, c, none⟩ (.slice ao (n - 1) (cap - 1))) L f Qb (upd vq c (.slice ao (n - 1) (cap - 1))) q' := by
  have hr := h.row c hc
  rw [hv, hq] at hr
  have ho : ∀ j, (Value.slice ao (n - 1) (cap - 1)).ownBlock = some j → (vq c).ownBlock = some j := fun j hj => by
    rw [hv]
    rcases ha with ⟨rfl, _⟩ | rfl
    · exact hj
    · exact hj
  exact h.put hc (hr.cut ha) hq2 (fun j hj => h.low c hc j (ho j hj)) fun d hd hdc j hj => h.far c d hc hd (Ne.symm hdc) j (ho j hj)
theorem start {w : World} (h : LkS w0 w L f) : RdA w0 (w.alloc (.cells (arr8 fun _ => .slice none 0 0) 30)) L f w.heap.size (fun _ => .slice none 0 0) (fun _ => []) :=
  ⟨h.after ((Wrote.refl _ _).alloc _), Go.Deep.blk_alloc_new w _, fun c hc => RowQ.nil _, h.lk.top, fun c hc j hj => (by cases hj), fun c d hc hd e j hj => (by cases hj)⟩
end RdA

/-! ### what holds of the lock, and of each cluster's queue -/
def OrdS (f : FL) (zs : List Int) (q : Nat → List Nat) : Prop := ∃ g Q W, OrdJ f g Q W ∧ q = que f.cN g Q W ∧ f.s.n = zs.length ∧ f.cl = fun j => zs.getD j 0
namespace OrdS
variable {f : FL} {zs : List Int} {q : Nat → List Nat} {L : Lp}
theorem start (zs : List Int) {n : Nat} (hn : zs.length = n) (n8 : n ≤ 8) (ho : homesOK zs = true) : OrdS (newF zs n n) zs (fun _ => []) := ⟨none, [], fun _ => [], ord_new zs n n8 ho, rfl, hn.symm, rfl⟩
theorem lock (h : OrdS f zs q) (t d : Int) : OrdS (f.lock t d) zs q := by
  obtain ⟨g, Q, W, h, e, hn, hc⟩ := h
  exact ⟨g, Q, W, h.lock t d, e, (SS.lock_n _ _ _).trans hn, hc⟩
theorem unlock (h : OrdS f zs q) (t : Int) : OrdS (f.turn t 3) zs q := by
  obtain ⟨g, Q, W, h, e, hn, hc⟩ := h
  exact ⟨g, Q, W, h.turn t, e, (SS.turn_n _ _ _).trans hn, hc⟩
theorem len (h : OrdS f zs q) (c : Nat) : (q c).length ≤ 8 := by
  obtain ⟨g, Q, W, h, rfl, _⟩ := h
  exact h.quelen c
theorem step (h : OrdS f zs q) (h1 : L.a1 = 0) (h2 : L.a2 = 1) {k c : Nat} (hk : k < zs.length) (hcl : zs.getD k 0 = (c : Int)) :
    ∃ q', OrdS (f.step L k k) zs q' ∧ (f.step L k k).ps.D.length ≤ f.ps.D.length + 1 ∧ OrdJ.StepC q c k (f.did L k k) q' := by
  obtain ⟨g, Q, W, h, rfl, hn, hc⟩ := h
  have n' : (f.step L k k).s.n = f.s.n := f.s.fin_n _ _
  have e0 : f.cN k = c := by unfold FL.cN; rw [hc]; show (zs.getD k 0).toNat = c; rw [hcl]; rfl
  rcases h.step h1 h2 (k : Int) with ⟨k', g', Q', W', hk', ek, a, b, s, _, hcl'⟩ | ⟨a, b⟩
  · obtain rfl : k' = k := by omega
    rw [e0] at s
    have e1 : (f.step L k' k').cN = f.cN := by funext j; unfold FL.cN; rw [hcl']
    exact ⟨que f.cN g' Q' W', ⟨g', Q', W', a, by rw [e1], n'.trans hn, hcl'.trans hc⟩, b, s⟩
  · rw [a, b]
    exact ⟨_, ⟨g, Q, W, h, rfl, hn, hc⟩, Nat.le_succ _, .same rfl (by decide) fun _ => rfl⟩
end OrdS

/-! ### who holds it, and which nodes they have -/
/-- how many of the first j hold it -/
def HoldQ (f : FL) (j : Nat) (c : Int) : Prop := (c = 0 ∧ ∀ t, t < j → f.s.st t ≠ 2) ∨ (c = 1 ∧ ∃ t, t < j ∧ f.s.st t = 2)
theorem HoldQ.no {f : FL} {j : Nat} {c : Int} (h : HoldQ f j c) (hj : f.s.st j ≠ 2) : HoldQ f (j + 1) c := by
  rcases h with ⟨e, h⟩ | ⟨e, t, ht, h⟩
  · exact .inl ⟨e, fun t ht => by
      by_cases q : t = j
      · subst q; exact hj
      · exact h t (by omega)⟩
  · exact .inr ⟨e, t, by omega, h⟩
theorem HoldQ.yes {f : FL} {g : Option Nat} {Q : List Nat} {W : Nat → List Nat} {j : Nat} {c : Int} (hO : OrdJ f g Q W) (hn : j < f.s.n) (h : HoldQ f j c) (hj : f.s.st j = 2) : c = 0 ∧ HoldQ f (j + 1) 1 := by
  rcases h with ⟨e, h⟩ | ⟨e, t, ht, h⟩
  · exact ⟨e, .inr ⟨rfl, j, Nat.lt_succ_self j, hj⟩⟩
  · have := hO.one (show t < f.s.n by omega) hn h hj
    omega
/-- whose nodes were seen, of the first j -/
def HadQ (f : FL) (j : Nat) (h : Nat → Int) : Prop := ∀ m, h m = 0 ∨ (h m = 1 ∧ ∃ t, t < j ∧ f.nN t = m)
theorem HadQ.new {f : FL} {g : Option Nat} {Q : List Nat} {W : Nat → List Nat} {j : Nat} {h : Nat → Int} (hO : OrdJ f g Q W) (hn : j < f.s.n) (hq : HadQ f j h) : h (f.nN j) = 0 ∧ HadQ f (j + 1) (upd h (f.nN j) 1) := by
  refine ⟨?_, fun m => ?_⟩
  · rcases hq (f.nN j) with e | ⟨_, t, ht, e⟩
    · exact e
    · obtain ⟨P, F, c⟩ := hO.cor
      have := c.ni t j (by omega) hn e
      omega
  · by_cases e : m = f.nN j
    · subst e; rw [upd_same]; exact .inr ⟨rfl, j, Nat.lt_succ_self j, rfl⟩
    · rw [upd_other _ _ e]
      rcases hq m with e | ⟨e, t, ht, e2⟩
      · exact .inl e
      · exact .inr ⟨e, t, by omega, e2⟩
theorem node_rng {f : FL} {g : Option Nat} {Q : List Nat} {W : Nat → List Nat} (hO : OrdJ f g Q W) {j : Nat} (hn : j < f.s.n) : f.nd j = ((f.nN j : Nat) : Int) ∧ 1 ≤ f.nN j ∧ f.nN j ≤ f.s.n + 1 := by
  obtain ⟨P, F, c⟩ := hO.cor
  have h1 := c.nr j hn
  have h2 := hO.nds j
  exact ⟨by unfold FL.nN; omega, h1⟩
def arr10 (h : Nat → Int) : Array Value := ((List.range 10).map fun m => Value.int .i64 (h m)).toArray
theorem arr10_at (h : Nat → Int) {c : Nat} (hc : c < 10) : (arr10 h)[c]? = some (.int .i64 (h c)) := by
  unfold arr10
  rw [List.getElem?_toArray, List.getElem?_map, List.getElem?_range hc]
  rfl
theorem arr10_set (h : Nat → Int) (c : Nat) (v : Int) : (arr10 h).setIfInBounds c (.int .i64 v) = arr10 (upd h c v) := by
  unfold arr10
  rw [List.setIfInBounds_toArray]
  congr 1
  apply List.ext_getElem?
  intro j
  rw [List.getElem?_set, List.getElem?_map, List.getElem?_map, List.length_map, List.length_range]
  by_cases hj : j < 10
  · rw [List.getElem?_range hj]
    by_cases e : c = j
    · subst e; simp [upd_same, hj]
    · simp [e, upd_other _ _ (Ne.symm e)]
  · rw [List.getElem?_eq_none (by simp; omega)]
    simp
    omega
/-- amid the look at the nodes: the block of those that were seen -/
structure RdH (w0 w : World) (L : Lp) (f : FL) (Qb : Nat) (vq : Nat → Value) (q : Nat → List Nat) (H : Nat) (h : Nat → Int) : Prop where
  r : RdA w0 w L f Qb vq q
  had : w.heap[H]? = some (.cells (arr10 h) 43 (0, 0))
  hi : L.q.k3 ≤ H ∧ H ≠ Qb ∧ ∀ c, c < 8 → (vq c).ownBlock ≠ some H
theorem RdH.set {w0 w : World} {L : Lp} {f : FL} {Qb : Nat} {vq : Nat → Value} {q : Nat → List Nat} {H : Nat} {h : Nat → Int} (r : RdH w0 w L f Qb vq q H h) (c : Nat) (v : Int) : RdH w0 (w.setCell ⟨H, c, none⟩ (.int .i64 v)) L f Qb vq q H (upd h c v) := by
  have k : Wrote (One H) w (w.setCell ⟨H, c, none⟩ (.int .i64 v)) := (Wrote.refl _ _).setCell _ _ fun _ => rfl
  exact ⟨r.r.beside k r.hi.1 r.hi.2.1 r.hi.2.2, by rw [blk_setCell r.had, arr10_set], r.hi⟩
theorem RdH.start {w0 w : World} {L : Lp} {f : FL} {Qb : Nat} {vq : Nat → Value} {q : Nat → List Nat} (r : RdA w0 w L f Qb vq q) : RdH w0 (w.alloc (.cells (arr10 fun _ => 0) 43)) L f Qb vq q w.heap.size (fun _ => 0) :=
  ⟨r.after ((Wrote.refl _ _).alloc _), Go.Deep.blk_alloc_new w _, r.ls.lk.top, fun e => by have := blk_lt r.arr; omega, fun c hc e => by have := (r.row c hc).lt _ e; omega⟩
end Go.Proofs.Yteacdcdjdbobnaa
