/- Events, and the bytes that they are: which events a list of bytes is, which bytes an event is; decoding what was encoded gives it back; no program is named. -/
import Derived.Test.YtpmceoifppnnbaaRecs
namespace Go.Proofs.Ytpmceoifppnnbaa
open Go.RowKit
set_option linter.unusedVariables false

/-- an event: kind, thread, wait -/
abbrev Ev := Int × Int × Int
def evCells (x : Ev) : List Value := [.int .i64 x.1, .int .i64 x.2.1, .int .i64 x.2.2]
theorem ev_len (x : Ev) : (evCells x).length = 3 := rfl
theorem ev_ne (x : Ev) : evCells x ≠ [] := by intro h; cases h
theorem ev_one (x : Ev) : ∀ u ∈ evCells x, u.oneCell' = true := by
  intro u hu
  simp only [evCells, List.mem_cons, List.not_mem_nil, or_false] at hu
  rcases hu with rfl | rfl | rfl <;> rfl

/-- the event of a byte, with the byte behind it (or 0) -/
def ev1 (x y : Int) : Ev :=
  if x % 8 < 4 then (1, x / 8, 0) else if x % 8 = 4 then (2, 0, 0) else if x % 8 = 5 then (3, x / 8, -1) else if x % 8 = 6 then (3, x / 8, y) else (4, x / 8, 0)
/-- the first event of bytes -/
def firstE : List Int → Ev
  | [] => (1, 0, 0)
  | [x] => ev1 x 0
  | x :: y :: _ => ev1 x y
/-- how many bytes the first event takes -/
def sizeE : List Int → Nat
  | [] => 1
  | [_] => 1
  | x :: _ :: _ => if x % 8 = 6 then 2 else 1
/-- the events of bytes -/
def evs : List Int → List Ev
  | [] => []
  | [x] => [ev1 x 0]
  | x :: y :: r => if x % 8 = 6 then ev1 x y :: evs r else ev1 x y :: evs (y :: r)
theorem evs_eq (x y : Int) (r : List Int) : evs (x :: y :: r) = if x % 8 = 6 then ev1 x y :: evs r else ev1 x y :: evs (y :: r) := by rw [evs]
theorem evs_cons (l : List Int) (h : l ≠ []) : evs l = firstE l :: evs (l.drop (sizeE l)) := by
  match l, h with
  | [x], _ => simp [evs, firstE, sizeE]
  | x :: y :: r, _ =>
    rw [evs_eq]
    unfold firstE sizeE
    by_cases h : x % 8 = 6
    · simp [h]
    · simp [h]
theorem sizeE_eq (x y : Int) (r : List Int) : sizeE (x :: y :: r) = if x % 8 = 6 then 2 else 1 := rfl
theorem sizeE_pos (l : List Int) : 1 ≤ sizeE l := by
  match l with
  | [] => exact Nat.le_refl _
  | [x] => exact Nat.le_refl _
  | x :: y :: r => rw [sizeE_eq]; split <;> omega
theorem sizeE_le (l : List Int) (h : l ≠ []) : sizeE l ≤ l.length := by
  match l, h with
  | [x], _ => exact Nat.le_refl _
  | x :: y :: r, _ => rw [sizeE_eq]; simp only [List.length_cons]; split <;> omega
theorem evs_len : ∀ l : List Int, (evs l).length ≤ l.length
  | [] => Nat.le_refl _
  | [x] => Nat.le_refl _
  | x :: y :: r => by
    rw [evs_eq]
    have h1 := evs_len r
    have h2 := evs_len (y :: r)
    split <;> simp only [List.length_cons] at * <;> omega

/-- some bytes have the event -/
def rightE (x : Ev) : Bool :=
  (decide (x.1 = 2) && decide (x.2.1 = 0) && decide (x.2.2 = 0)) ||
  ((decide (x.1 = 1) || decide (x.1 = 4)) && decide (0 ≤ x.2.1) && decide (x.2.1 ≤ 31) && decide (x.2.2 = 0)) ||
  (decide (x.1 = 3) && decide (0 ≤ x.2.1) && decide (x.2.1 ≤ 31) && decide (-1 ≤ x.2.2) && decide (x.2.2 ≤ 255))
theorem right_iff (k t v : Int) : rightE (k, t, v) = true ↔ (k = 2 ∧ t = 0 ∧ v = 0) ∨ ((k = 1 ∨ k = 4) ∧ 0 ≤ t ∧ t ≤ 31 ∧ v = 0) ∨ (k = 3 ∧ 0 ≤ t ∧ t ≤ 31 ∧ -1 ≤ v ∧ v ≤ 255) := by
  simp only [rightE, Bool.or_eq_true, Bool.and_eq_true, decide_eq_true_eq]
  omega
theorem ev1_right (x y : Int) (h0 : 0 ≤ x) (h1 : x < 256) (h2 : 0 ≤ y) (h3 : y < 256) : rightE (ev1 x y) = true := by
  unfold ev1
  split
  · rw [right_iff]; omega
  · split
    · rw [right_iff]; omega
    · split
      · rw [right_iff]; omega
      · split <;> (rw [right_iff]; omega)
/-- numbers that are bytes -/
def Bytes (l : List Int) : Prop := ∀ x ∈ l, 0 ≤ x ∧ x < 256
theorem evs_right : ∀ l : List Int, Bytes l → ∀ e ∈ evs l, rightE e = true
  | [], _ => fun e he => nomatch he
  | [x], h => fun e he => by
    have := h x (by simp)
    simp only [evs, List.mem_singleton] at he
    subst he
    exact ev1_right _ _ this.1 this.2 (by omega) (by omega)
  | x :: y :: r, h => fun e he => by
    have hx := h x (by simp)
    have hy := h y (by simp)
    have i1 := evs_right r fun z hz => h z (by simp [hz])
    have i2 := evs_right (y :: r) fun z hz => h z (by simp only [List.mem_cons] at *; exact .inr hz)
    rw [evs_eq] at he
    split at he
    · rcases List.mem_cons.1 he with rfl | he
      · exact ev1_right _ _ hx.1 hx.2 hy.1 hy.2
      · exact i1 e he
    · rcases List.mem_cons.1 he with rfl | he
      · exact ev1_right _ _ hx.1 hx.2 hy.1 hy.2
      · exact i2 e he

/-- the bytes of an event -/
def encE (x : Ev) : List Int :=
  if x.1 = 2 then [4] else if x.1 = 1 then [8 * x.2.1] else if x.1 = 4 then [8 * x.2.1 + 7] else if x.2.2 < 0 then [8 * x.2.1 + 5] else [8 * x.2.1 + 6, x.2.2]
/-- the bytes of events -/
def encs (D : List Ev) : List Int := D.flatMap encE
theorem encs_nil : encs [] = [] := rfl
theorem encs_snoc (D : List Ev) (x : Ev) : encs (D ++ [x]) = encs D ++ encE x := by simp [encs]
theorem encE_len (x : Ev) : (encE x).length ≤ 2 := by
  unfold encE
  split
  · simp
  · split
    · simp
    · split
      · simp
      · split <;> simp
theorem encs_len (D : List Ev) : (encs D).length ≤ 2 * D.length := by
  induction D with
  | nil => exact Nat.le_refl _
  | cons x r ih =>
    have := encE_len x
    unfold encs at *
    rw [List.flatMap_cons, List.length_append, List.length_cons]
    omega
theorem encE_bytes (x : Ev) (h : rightE x = true) : Bytes (encE x) := by
  obtain ⟨k, t, v⟩ := x
  rw [right_iff] at h
  intro z hz
  unfold encE at hz
  simp only at hz
  split at hz
  · simp only [List.mem_singleton] at hz; omega
  · split at hz
    · simp only [List.mem_singleton] at hz; omega
    · split at hz
      · simp only [List.mem_singleton] at hz; omega
      · split at hz
        · simp only [List.mem_singleton] at hz; omega
        · simp only [List.mem_cons, List.not_mem_nil, or_false] at hz; omega
theorem encs_bytes (D : List Ev) (h : ∀ x ∈ D, rightE x = true) : Bytes (encs D) := by
  intro z hz
  obtain ⟨x, hx, hz⟩ := List.mem_flatMap.1 hz
  exact encE_bytes x (h x hx) z hz
theorem bytes_append {a b : List Int} (ha : Bytes a) (hb : Bytes b) : Bytes (a ++ b) := by
  intro z hz
  rcases List.mem_append.1 hz with h | h
  · exact ha z h
  · exact hb z h
theorem Bytes.drop {a : List Int} (h : Bytes a) (k : Nat) : Bytes (a.drop k) := fun z hz => h z (List.mem_of_mem_drop hz)
theorem evs_one (x : Int) (r : List Int) (h : x % 8 ≠ 6) : evs (x :: r) = ev1 x 0 :: evs r := by
  cases r with
  | nil => rfl
  | cons y r =>
    have e : ev1 x y = ev1 x 0 := by unfold ev1; rw [if_neg h, if_neg h]
    rw [evs_eq, if_neg h, e]
theorem evs_two (x y : Int) (r : List Int) (h : x % 8 = 6) : evs (x :: y :: r) = ev1 x y :: evs r := by
  rw [evs_eq, if_pos h]
/-- what was encoded, and something behind it, is decoded to it, and what is behind -/
theorem evs_enc (x : Ev) (h : rightE x = true) (r : List Int) : evs (encE x ++ r) = x :: evs r := by
  obtain ⟨k, t, v⟩ := x
  rw [right_iff] at h
  unfold encE
  simp only
  by_cases q2 : k = 2
  · obtain ⟨rfl, rfl⟩ : t = 0 ∧ v = 0 := by omega
    rw [if_pos q2, List.singleton_append, evs_one _ _ (by decide), q2]
    rfl
  · rw [if_neg q2]
    by_cases q1 : k = 1
    · obtain rfl : v = 0 := by omega
      rw [if_pos q1, List.singleton_append, evs_one _ _ (by omega), q1]
      unfold ev1
      rw [if_pos (by omega), show 8 * t / 8 = t by omega]
    · rw [if_neg q1]
      by_cases q4 : k = 4
      · obtain rfl : v = 0 := by omega
        rw [if_pos q4, List.singleton_append, evs_one _ _ (by omega), q4]
        unfold ev1
        rw [if_neg (by omega), if_neg (by omega), if_neg (by omega), if_neg (by omega), show (8 * t + 7) / 8 = t by omega]
      · rw [if_neg q4]
        obtain rfl : k = 3 := by omega
        by_cases qv : v < 0
        · obtain rfl : v = -1 := by omega
          rw [if_pos qv, List.singleton_append, evs_one _ _ (by omega)]
          unfold ev1
          rw [if_neg (by omega), if_neg (by omega), if_pos (by omega), show (8 * t + 5) / 8 = t by omega]
        · rw [if_neg qv, List.cons_append, List.singleton_append, evs_two _ _ _ (by omega)]
          unfold ev1
          rw [if_neg (by omega), if_neg (by omega), if_neg (by omega), if_pos (by omega), show (8 * t + 6) / 8 = t by omega]
theorem evs_encs (D : List Ev) (h : ∀ x ∈ D, rightE x = true) (r : List Int) : evs (encs D ++ r) = D ++ evs r := by
  induction D with
  | nil => rfl
  | cons x D ih =>
    have e : encs (x :: D) = encE x ++ encs D := by simp [encs]
    rw [e, List.append_assoc, evs_enc x (h x (by simp)), ih fun y hy => h y (by simp [hy])]
    rfl
theorem evs_back (D : List Ev) (h : ∀ x ∈ D, rightE x = true) : evs (encs D) = D := by
  have := evs_encs D h []
  rwa [List.append_nil, show evs [] = [] from rfl, List.append_nil] at this

/-- the place of the first event that is none -/
def badAt (D : List Ev) : Nat := D.findIdx fun x => !rightE x
theorem badAt_le (D : List Ev) : badAt D ≤ D.length := List.findIdx_le_length
theorem badAt_right {D : List Ev} {i : Nat} {x : Ev} (hi : i < badAt D) (hx : D[i]? = some x) : rightE x = true := by
  unfold badAt at hi
  have h := List.not_of_lt_findIdx hi
  obtain ⟨hl, rfl⟩ := List.getElem?_eq_some_iff.1 hx
  simpa using h
theorem badAt_wrong {D : List Ev} {x : Ev} (hx : D[badAt D]? = some x) : rightE x = false := by
  obtain ⟨hl, rfl⟩ := List.getElem?_eq_some_iff.1 hx
  have h := List.findIdx_getElem (p := fun x => !rightE x) (w := hl)
  unfold badAt at *
  simpa using h
theorem badAt_step {D : List Ev} {k : Nat} {x : Ev} (hx : D[k]? = some x) (hk : k ≤ badAt D) (hr : rightE x = true) : k + 1 ≤ badAt D := by
  rcases Nat.lt_or_ge k (badAt D) with h | h
  · exact h
  · obtain rfl : k = badAt D := by omega
    rw [badAt_wrong hx] at hr
    cases hr
theorem badAt_stop {D : List Ev} {k : Nat} {x : Ev} (hx : D[k]? = some x) (hk : k ≤ badAt D) (hr : rightE x = false) : badAt D = k := by
  rcases Nat.lt_or_ge k (badAt D) with h | h
  · rw [badAt_right h hx] at hr
    cases hr
  · omega
theorem badAt_all {D : List Ev} (h : badAt D = D.length) : ∀ x ∈ D, rightE x = true := by
  intro x hx
  obtain ⟨i, hi, rfl⟩ := List.getElem_of_mem hx
  exact badAt_right (by rw [h]; exact hi) (List.getElem?_eq_getElem hi)
theorem take_snoc' {α : Type} {D : List α} {k : Nat} {x : α} (hx : D[k]? = some x) : D.take (k + 1) = D.take k ++ [x] := by
  obtain ⟨hk, rfl⟩ := List.getElem?_eq_some_iff.1 hx
  exact List.take_succ_eq_append_getElem hk
end Go.Proofs.Ytpmceoifppnnbaa
