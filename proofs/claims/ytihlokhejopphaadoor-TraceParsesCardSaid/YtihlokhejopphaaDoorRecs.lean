/- How a slice of records lies in the heap: a list of things, each of which is a fixed number of cells; such a slice that came in, and one of the call's own; no program is named. -/
import Derived.Test.YtihlokhejopphaaDoorOpen
namespace Go.Proofs.YtihlokhejopphaaDoor
open Go.ChangeShapes Go.WideShapes Go.Deep Go.RowKit
set_option linter.unusedVariables false

/-- the records D lie one behind the other, each of s cells (or nil) -/
structure RecsAt {α : Type} (f : α → List Value) (s : Nat) (w : World) (sa : Option Addr) (n : Nat) (D : List α) : Prop where
  len : D.length = n
  empty : sa = none → n = 0
  cell : ∀ b, sa = some b → ∀ (k : Nat) (x : α), D[k]? = some x → ∀ (j : Nat) (u : Value), (f x)[j]? = some u → w.cell? (b.add (k * s + j)) = some u

section
variable {α : Type} {f : α → List Value} {s : Nat}
theorem RecsAt.wrote {w w' : World} {sa : Option Addr} {n : Nat} {D : List α} (h : RecsAt f s w sa n D) {S : Nat → Prop} (hw : Wrote S w w') (hs' : ∀ b, sa = some b → ¬ S b.block) : RecsAt f s w' sa n D := by
  refine ⟨h.len, h.empty, fun b hb k x hx j u hu => ?_⟩
  have hc := h.cell b hb k x hx j u hu
  have hbl : (b.add (k * s + j)).block = b.block := by unfold Addr.add; split <;> rfl
  exact hw.cell hc (by rw [hbl]; exact hs' b hb)
theorem RecsAt.after {w w' : World} {sa : Option Addr} {n : Nat} {D : List α} (h : RecsAt f s w sa n D) (hw : Wrote Nil w w') : RecsAt f s w' sa n D := h.wrote hw fun _ _ => id

/-- a slice with a record: where it begins -/
theorem RecsAt.at {w : World} {sa : Option Addr} {n : Nat} {D : List α} (h : RecsAt f s w sa n D) (hf : ∀ x, f x ≠ []) :
    n = 0 ∨ ∃ b o, sa = some ⟨b, o, none⟩ ∧ ∀ (k : Nat) (x : α), D[k]? = some x → ∀ (j : Nat) (u : Value), (f x)[j]? = some u → w.cell? ⟨b, o + (k * s + j), none⟩ = some u := by
  rcases Nat.eq_zero_or_pos n with h0 | h0
  · exact .inl h0
  · cases sa with
    | none => exact .inl (h.empty rfl)
    | some a =>
      have hD : D[0]? = some (D[0]'(by rw [h.len]; exact h0)) := List.getElem?_eq_getElem _
      have hl : 0 < (f (D[0]'(by rw [h.len]; exact h0))).length := List.length_pos_iff.2 (hf _)
      have hc := h.cell a rfl 0 _ hD 0 _ (List.getElem?_eq_getElem hl)
      have ha : a.add (0 * s + 0) = a := by simp [Addr.add]
      rw [ha] at hc
      have hsp := spot_of_cell hc
      refine .inr ⟨a.block, a.off, by rw [← hsp], fun k x hx j u hu => ?_⟩
      have hcj := h.cell a rfl k x hx j u hu
      rw [hsp, Go.Addr.add_lit] at hcj
      exact hcj

theorem flat_len (hf : ∀ x, (f x).length = s) (D : List α) : (D.flatMap f).length = D.length * s := by
  induction D with
  | nil => simp
  | cons x r ih => simp [hf, ih, Nat.succ_mul, Nat.add_comm]
theorem flat_at' (hf : ∀ x, (f x).length = s) (D : List α) {k : Nat} {x : α} (hx : D[k]? = some x) {j : Nat} (hj : j < s) : (D.flatMap f)[k * s + j]? = (f x)[j]? := by
  induction D generalizing k with
  | nil => simp at hx
  | cons y r ih =>
    rw [List.flatMap_cons]
    cases k with
    | zero =>
      obtain rfl : y = x := by simpa using hx
      rw [Nat.zero_mul, Nat.zero_add, List.getElem?_append_left (by rw [hf]; exact hj)]
    | succ k =>
      rw [List.getElem?_append_right (by rw [hf, Nat.succ_mul]; omega), hf, show (k + 1) * s + j - s = k * s + j by rw [Nat.succ_mul]; omega]
      exact ih (by simpa using hx)

/-- a row of the call's own, read as records -/
theorem own_recs {w : World} {base : Nat} {e : TypeId} {v : Value} {n : Nat} {D : List α} (hf : ∀ x, (f x).length = s) (h : w.ownsRow base e s v n (D.flatMap f)) (hs : 0 < s) :
    ∃ sa cap, v = .slice sa n cap ∧ (sa = none → cap = 0) ∧ RecsAt f s w sa n D ∧ (∀ b, sa = some b → base ≤ b.block ∧ b.block < w.heap.size ∧ b.off = 0 ∧ b.spot = none) := by
  have hl : D.length = n := by
    have h1 := h.1
    rw [flat_len hf] at h1
    exact Nat.eq_of_mul_eq_mul_right hs h1
  rcases h.2 with ⟨rfl, rfl⟩ | ⟨g, cap, cur, rfl, hb, hg, hnc, hcm, hcs, ht⟩
  · exact ⟨none, 0, rfl, fun _ => rfl, ⟨hl, fun _ => rfl, (fun b hb => nomatch hb)⟩, (fun b hb => nomatch hb)⟩
  · refine ⟨some ⟨g, 0, none⟩, cap, rfl, (fun h => nomatch h), ⟨hl, (fun h => nomatch h), fun a ha k x hx j u hu => ?_⟩, fun b hb' => ?_⟩
    · obtain rfl : ⟨g, 0, none⟩ = a := by simpa using ha
      have hj : j < s := by rw [← hf x]; exact (List.getElem?_eq_some_iff.1 hu).1
      have hk : k < n := by rw [← hl]; exact (List.getElem?_eq_some_iff.1 hx).1
      have hlt : k * s + j < n * s := Nat.lt_of_lt_of_le (by rw [Nat.succ_mul]; omega : k * s + j < (k + 1) * s) (Nat.mul_le_mul_right s hk)
      rw [Go.Addr.add_lit, Nat.zero_add, blk_cell hg]
      have h2 := flat_at' hf D hx hj
      rw [hu, ← ht, List.getElem?_take_of_lt hlt] at h2
      rw [← Array.getElem?_toList]
      exact h2
    · obtain rfl : ⟨g, 0, none⟩ = b := by simpa using hb'
      exact ⟨hb, blk_lt hg, rfl, rfl⟩
end

/-- records of numbers and truths that came in, as a list: what is made of each record's numbers -/
theorem StructsK.recs {α : Type} {f : α → List Value} {w : World} {ks : List FK} {sa : Option Addr} {len : Nat} {Z : Nat → Nat → Int} (h : StructsK w ks sa len Z) (g : Nat → α)
    (hg : ∀ i, i < len → ∀ (j : Nat) (u : Value), (f (g i))[j]? = some u → ∃ k, ks[j]? = some k ∧ u = k.val (Z i j)) : RecsAt f ks.length w sa len ((List.range len).map g) := by
  refine ⟨by simp, h.empty, fun b hb k x hx j u hu => ?_⟩
  simp only [List.getElem?_map, Option.map_eq_some_iff] at hx
  obtain ⟨i, hi, rfl⟩ := hx
  have hk : k < len := by have := (List.getElem?_eq_some_iff.1 hi).1; simpa using this
  obtain rfl : k = i := by rw [List.getElem?_range hk] at hi; exact Option.some.inj hi
  obtain ⟨q, hq, rfl⟩ := hg k hk j u hu
  exact (h.cell b hb k hk j q hq).1
theorem Structs.recs {α : Type} {f : α → List Value} {w : World} {ks : List IntKind} {sa : Option Addr} {len : Nat} {Z : Nat → Nat → Int} (h : Structs w ks sa len Z) (g : Nat → α)
    (hg : ∀ i, i < len → ∀ (j : Nat) (u : Value), (f (g i))[j]? = some u → ∃ k, ks[j]? = some k ∧ u = .int k (Z i j)) : RecsAt f ks.length w sa len ((List.range len).map g) := by
  refine ⟨by simp, h.empty, fun b hb k x hx j u hu => ?_⟩
  simp only [List.getElem?_map, Option.map_eq_some_iff] at hx
  obtain ⟨i, hi, rfl⟩ := hx
  have hk : k < len := by have := (List.getElem?_eq_some_iff.1 hi).1; simpa using this
  obtain rfl : k = i := by rw [List.getElem?_range hk] at hi; exact Option.some.inj hi
  obtain ⟨q, hq, rfl⟩ := hg k hk j u hu
  exact (h.cell b hb k hk j q hq).1
end Go.Proofs.YtihlokhejopphaaDoor
