/- How a slice of records lies in the heap: a list of things, each of which is a fixed number of cells; such a slice that came in, and one of the call's own; no program is named. -/
import Derived.Test.YtmnephejhkfchaaOpen
namespace Go.Proofs.Ytmnephejhkfchaa
open Go.ChangeShapes Go.WideShapes Go.Deep Go.RowKit
set_option linter.unusedVariables false

/-- the records D lie one behind the other, each of s cells (or nil) -/
structure RecsAt {α : Type} (f : α → List Value) (s : Nat) (w : World) (sa : Option Addr) (n : Nat) (D : List α) : Prop where
  len : D.length = n
  empty : sa = none → n = 0
  cell : ∀ b, sa = some b → ∀ (k : Nat) (x : α), D[k]? = some x → ∀ (j : Nat) (u : Value), (f x)[j]? = some u → w.cell? (b.add (k * s + j)) = some u

section
variable {α : Type} {f : α → List Value} {s : Nat}
theorem RecsAt.wrote {w w' : World} {sa : Option Addr} {n : Nat} {D : List α} (h : RecsAt f s w sa n D) {S : Nat → Prop} (hw : Wrote S w w') (hs' : ∀ b, sa = some b → ¬ S b.block) : RecsAt f s w' sa n D := by
  refine ⟨h.len, h.empty, fun b hb k x hx j u hu => ?_⟩
  have hc := h.cell b hb k x hx j u hu
  have hbl : (b.add (k * s + j)).block = b.block := by unfold Addr.add; split <;> rfl
  exact hw.cell hc (by rw [hbl]; exact hs' b hb)
theorem RecsAt.after {w w' : World} {sa : Option Addr} {n : Nat} {D : List α} (h : RecsAt f s w sa n D) (hw : Wrote Nil w w') : RecsAt f s w' sa n D := h.wrote hw fun _ _ => id

/-- a slice with a record: where it begins -/
theorem RecsAt.at {w : World} {sa : Option Addr} {n : Nat} {D : List α} (h : RecsAt f s w sa n D) (hf : ∀ x, f x ≠ []) :
    n = 0 ∨ ∃ b o, sa = some ⟨b, o, none⟩ ∧ ∀ (k : Nat) (x : α), D[k]? = some x → ∀ (j : Nat) (u : Value), (f x)[j]? = some u → w.cell? ⟨b, o + (k * s + j), none⟩ = some u := by
  rcases Nat.eq_zero_or_pos n with h0 | h0
  · exact .inl h0
  · cases sa with
    | none => exact .inl (h.empty rfl)
    | some a =>
      have hD : D[0]? = some (D[0]'(by rw [h.len]; exact h0)) := List.getElem?_eq_getElem _
      have hl : 0 < (f (D[0]'(by rw [h.len]; exact h0))).length := List.length_pos_iff.2 (hf _)
      have hc := h.cell a rfl 0 _ hD 0 _ (List.getElem?_eq_getElem hl)
      have ha : a.add (0 * s + 0) = a := by simp [Addr.add]
      rw [ha] at hc
      have hsp := spot_of_cell hc
      refine .inr ⟨a.block, a.off, by rw [← hsp], fun k x hx j u hu => ?_⟩
      have hcj := h.cell a rfl k x hx j u hu
      rw [hsp, Go.Addr.add_lit] at hcj
      exact hcj

theorem flat_len (hf : ∀ x, (f x).length = s) (D : List α) : (D.flatMap f).length = D.length * s := by
  induction D with
  | nil => simp
  | cons x r ih => simp [hf, ih, Nat.succ_mul, Nat.add_comm]
theorem flat_at' (hf : ∀ x, (f x).length = s) (D : List α) {k : Nat} {x : α} (hx : D[k]? = some x) {j : Nat} (hj : j < s) : (D.flatMap f)[k * s + j]? = (f x)[j]? := by
  induction D generalizing k with
  | nil => simp at hx
  | cons y r ih =>
    rw [List.flatMap_cons]
    cases k with
    | zero =>
      obtain rfl : y = x := by simpa using hx
      rw [Nat.zero_mul, Nat.zero_add, List.getElem?_append_left (by rw [hf]; exact hj)]
    | succ k =>
      rw [List.getElem?_append_right (by rw [hf, Nat.succ_mul]; omega), hf, show (k + 1) * s + j - s = k * s + j by rw [Nat.succ_mul]; omega]
      exact ih (by simpa using hx)

/-- a row of the call's own, read as records -/
theorem own_recs {w : World} {base : Nat} {e : TypeId} {v : Value} {n : Nat} {D : List α} (hf : ∀ x, (f x).length = s) (h : w.ownsRow base e s v n (D.flatMap f)) (hs : 0 < s) :
    ∃ sa cap, v = .slice sa n cap ∧ (sa = none → cap = 0) ∧ RecsAt f s w sa n D ∧ (∀ b, sa = some b → base ≤ b.block ∧ b.block < w.heap.size ∧ b.off = 0 ∧ b.spot = none) := by
  have hl : D.length = n := by
    have h1 := h.1
    rw [flat_len hf] at h1
    exact Nat.eq_of_mul_eq_mul_right hs h1
  rcases h.2 with ⟨rfl, rfl⟩ | ⟨g, cap, cur, rfl, hb, hg, hnc, hcm, hcs, ht⟩
  · exact ⟨none, 0, rfl, fun _ => rfl, ⟨hl, fun _ => rfl, (fun b hb => nomatch hb)⟩, (fun b hb => nomatch hb)⟩
  · refine ⟨some ⟨g, 0, none⟩, cap, rfl, (fun h => nomatch h), ⟨hl, (fun h => nomatch h), fun a ha k x hx j u hu => ?_⟩, fun b hb' => ?_⟩
    · obtain rfl : ⟨g, 0, none⟩ = a := by simpa using ha
      have hj : j < s := by rw [← hf x]; exact (List.getElem?_eq_some_iff.1 hu).1
      have hk : k < n := by rw [← hl]; exact (List.getElem?_eq_some_iff.1 hx).1
      have hlt : k * s + j < n * s := Nat.lt_of_lt_of_le (by rw [Nat.succ_mul]; omega : k * s + j < (k + 1) * s) (Nat.mul_le_mul_right s hk)
      rw [Go.Addr.add_lit, Nat.zero_add, blk_cell hg]
      have h2 := flat_at' hf D hx hj
      rw [hu, ← ht, List.getElem?_take_of_lt hlt] at h2
      rw [← Array.getElem?_toList]
      exact h2
    · obtain rfl : ⟨g, 0, none⟩ = b := by simpa using hb'
      exact ⟨hb, blk_lt hg, rfl, rfl⟩
end

/-- records of numbers and truths that came in, as a list: what is made of each record's numbers -/
theorem StructsK.recs {α : Type} {f : α → List Value} {w : World} {ks : List FK} {sa : Option Addr} {len : Nat} {Z : Nat → Nat → Int} (h : StructsK w ks sa len Z) (g : Nat → α)
    (hg : ∀ i, i < len → ∀ (j : Nat) (u : Value), (f (g i))[j]? = some u → ∃ k, ks[j]? = some k ∧ u = k.val (Z i j)) : RecsAt f ks.length w sa len ((List.range len).map g) := by
  refine ⟨by simp, h.empty, fun b hb k x hx j u hu => ?_⟩
  simp only [List.getElem?_map, Option.map_eq_some_iff] at hx
  obtain ⟨i, hi, rfl⟩ := hx
  have hk : k < len := by have := (List.getElem?_eq_some_iff.1 hi).1; simpa using this
  obtain rfl : k = i := by rw [List.getElem?_range hk] at hi; exact Option.some.inj hi
  obtain ⟨q, hq, rfl⟩ := hg k hk j u hu
  exact (h.cell b hb k hk j q hq).1
theorem Structs.recs {α : Type} {f : α → List Value} {w : World} {ks : List IntKind} {sa : Option Addr} {len : Nat} {Z : Nat → Nat → Int} (h : Structs w ks sa len Z) (g : Nat → α)
    (hg : ∀ i, i < len → ∀ (j : Nat) (u : Value), (f (g i))[j]? = some u → ∃ k, ks[j]? = some k ∧ u = .int k (Z i j)) : RecsAt f ks.length w sa len ((List.range len).map g) := by
  refine ⟨by simp, h.empty, fun b hb k x hx j u hu => ?_⟩
  simp only [List.getElem?_map, Option.map_eq_some_iff] at hx
  obtain ⟨i, hi, rfl⟩ := hx
  have hk : k < len := by have := (List.getElem?_eq_some_iff.1 hi).1; simpa using this
  obtain rfl : k = i := by rw [List.getElem?_range hk] at hi; exact Option.some.inj hi
  obtain ⟨q, hq, rfl⟩ := hg k hk j u hu
  exact (h.cell b hb k hk j q hq).1

/-- one place of a function turned -/
def upd {α : Type} (f : Nat → α) (i : Nat) (x : α) (j : Nat) : α := if j = i then x else f j
theorem upd_same {α : Type} (f : Nat → α) (i : Nat) (x : α) : upd f i x i = x := if_pos rfl
theorem upd_other {α : Type} (f : Nat → α) {i j : Nat} (x : α) (h : j ≠ i) : upd f i x j = f j := if_neg h

/-- records of s cells each, one cell of one of them turned -/
theorem flat_set {α : Type} {f f' : α → List Value} {s : Nat} (hf : ∀ x, (f x).length = s) (hf' : ∀ x, (f' x).length = s) (D : List α) (k j : Nat) (hj : j < s) (v : Value)
    (h : ∀ i x, D[i]? = some x → ∀ l, l < s → (f' x)[l]? = if i = k ∧ l = j then some v else (f x)[l]?) : (D.flatMap f).set (k * s + j) v = D.flatMap f' := by
  apply List.ext_getElem?
  intro m
  have hs : 0 < s := by omega
  by_cases hm : m < D.length * s
  · have ha : m / s < D.length := Nat.div_lt_of_lt_mul (by rw [Nat.mul_comm]; exact hm)
    have hb : m % s < s := Nat.mod_lt _ hs
    have hx : D[m / s]? = some (D[m / s]'ha) := List.getElem?_eq_getElem ha
    have e : m = m / s * s + m % s := by rw [Nat.mul_comm]; exact (Nat.div_add_mod m s).symm
    have h1 := flat_at' hf D hx hb
    have h2 := flat_at' hf' D hx hb
    rw [← e] at h1 h2
    rw [h2, h _ _ hx _ hb, List.getElem?_set]
    by_cases hk : m / s = k ∧ m % s = j
    · rw [if_pos hk, if_pos (by rw [← hk.1, ← hk.2]; exact e.symm), if_pos (by rw [flat_len hf]; rw [← hk.1, ← hk.2, ← e]; exact hm)]
    · rw [if_neg hk, if_neg (fun e2 => hk ?_), h1]
      rw [← e2]
      constructor
      · rw [Nat.add_comm, Nat.add_mul_div_right _ _ hs, Nat.div_eq_of_lt hj, Nat.zero_add]
      · rw [Nat.add_comm, Nat.add_mul_mod_self_right, Nat.mod_eq_of_lt hj]
  · rw [List.getElem?_eq_none (by rw [List.length_set, flat_len hf]; omega), List.getElem?_eq_none (by rw [flat_len hf']; omega)]

/-- an owned row, one cell of it turned -/
theorem ownsRow_set {w : World} {base : Nat} {e : TypeId} {size g n cap : Nat} {xs ys : List Value} (h : w.ownsRow base e size (.slice (some ⟨g, 0, none⟩) n cap) n xs) (i : Nat) (v : Value) (hi : i < n * size) (hy : xs.set i v = ys) :
    (w.setCell ⟨g, i, none⟩ v).ownsRow base e size (.slice (some ⟨g, 0, none⟩) n cap) n ys := by
  subst hy
  refine ⟨by simpa using h.1, ?_⟩
  rcases h.2 with ⟨hn, _⟩ | ⟨g', cap', cur, hv, hb, hg, hnc, hcm, hcs, ht⟩
  · cases hn
  · simp only [Value.slice.injEq, Option.some.injEq, Addr.mk.injEq, and_true, true_and] at hv
    obtain ⟨rfl, rfl⟩ := hv
    refine .inr ⟨g, cap, cur.setIfInBounds i v, rfl, hb, blk_setCell hg i v, hnc, hcm, by simpa using hcs, ?_⟩
    rw [Array.toList_setIfInBounds, List.take_set, ht]

theorem own_slice {w : World} {base : Nat} {e : TypeId} {size : Nat} {v : Value} {n : Nat} {xs : List Value} (h : w.ownsRow base e size v n xs) : ∃ so cap, v = .slice so n cap ∧ (so = none → cap = 0) := by
  rcases h.2 with ⟨rfl, rfl⟩ | ⟨g, cap, cur, rfl, _⟩
  · exact ⟨none, 0, rfl, fun _ => rfl⟩
  · exact ⟨some ⟨g, 0, none⟩, cap, rfl, fun h => nomatch h⟩

end Go.Proofs.Ytmnephejhkfchaa
