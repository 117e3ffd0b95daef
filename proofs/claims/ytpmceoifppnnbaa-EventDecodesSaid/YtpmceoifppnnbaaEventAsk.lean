/- The contracts of package event's first and Right. -/
import Derived.Test.YtpmceoifppnnbaaEvents
import Derived.Test.YtpmceoifppnnbaaRows
import Derived.WalkLawsBesides
import Derived.Outline
import Derived.Deep.QuietTactic
import Derived.Handy
import Derived.OpenShut
import Derived.Lib.Walk
import Derived.WalkKit
import Derived.Laws.ResultCell
import Derived.Laws.StructEq
import Derived.Lib.Hide
import Derived.Lib.SliceRun
import Derived.Deep.RegionLaw
import Derived.Deep.LoopGhost
import Derived.BigQuiet
import Derived.BigFrame
namespace Go.Proofs.Ytpmceoifppnnbaa
open Go.RowKit
set_option linter.unusedVariables false

theorem ret_truth {a b : Bool} (h : a = b) : Ending.returned (.bool a) = .returned (.bool b) := by rw [h]
theorem first_lt {x : Int} {r : List Int} (q : x % 8 < 4) : firstE (x :: r) = (1, x / 8, 0) ∧ sizeE (x :: r) = 1 := by
  cases r <;> simp [firstE, sizeE, ev1, q] <;> omega
theorem first_4 {x : Int} {r : List Int} (q : x % 8 = 4) : firstE (x :: r) = (2, 0, 0) ∧ sizeE (x :: r) = 1 := by
  cases r <;> simp [firstE, sizeE, ev1, q]
theorem first_5 {x : Int} {r : List Int} (q : x % 8 = 5) : firstE (x :: r) = (3, x / 8, -1) ∧ sizeE (x :: r) = 1 := by
  cases r <;> simp [firstE, sizeE, ev1, q]
theorem first_7 {x : Int} {r : List Int} (q : x % 8 = 7) : firstE (x :: r) = (4, x / 8, 0) ∧ sizeE (x :: r) = 1 := by
  cases r <;> simp [firstE, sizeE, ev1, q]
theorem first_6a {x : Int} (q : x % 8 = 6) : firstE [x] = (3, x / 8, 0) ∧ sizeE [x] = 1 := by
  simp [firstE, sizeE, ev1, q]
theorem first_6b {x y : Int} {r : List Int} (q : x % 8 = 6) : firstE (x :: y :: r) = (3, x / 8, y) ∧ sizeE (x :: y :: r) = 2 := by
  simp [firstE, sizeE, ev1, q]
def FirstPost (w : World) (zs : List Int) (e : Ending) (w' : World) : Prop :=
  e = .returned (.tuple #[.agg (evCells (firstE zs)).toArray, .int .i64 (sizeE zs : Nat)]) ∧ Wrote Nil w w'

set_option maxHeartbeats 1000000 in
theorem ev_first {w : World} {sa : Option Addr} {n cap : Nat} {zs : List Int} (h : RowAt .u8 w sa n zs) (hb : Bytes zs) (hn : 0 < n) (hm : n ≤ 1000000) :
    Calls Try.prog 12 #[.slice sa n cap] w (FirstPost w zs) := by
  rcases h.at with h0 | ⟨b, o, rfl, hc⟩
  · omega
  have hl := h.len
  obtain ⟨x, r, rfl⟩ : ∃ x r, zs = x :: r := by
    cases zs with
    | nil => simp at hl; omega
    | cons x r => exact ⟨x, r, rfl⟩
  have c0 : w.cell? ⟨b, o, none⟩ = some (.int .u8 x) := hc 0 hn
  have hx := hb x (by simp)
  obtain ⟨x0, x1⟩ := hx
  have hlt : b < w.heap.size := World.block_lt_of_cell? w _ c0
  clear h
  have hcase : x % 8 < 4 ∨ x % 8 = 4 ∨ x % 8 = 5 ∨ x % 8 = 6 ∨ x % 8 = 7 := by omega
  have hd : (0 : Int) < n := by omega
  rcases hcase with q | q | q | q | q
  · have t4 : ((x % 8 : Int) == 4) = false := by simp; omega
    have t5 : ((x % 8 : Int) == 5) = false := by simp; omega
    have t6 : ((x % 8 : Int) == 6) = false := by simp; omega
    have t7 : ((x % 8 : Int) == 7) = false := by simp; omega
    have H : Hid (firstE (x :: r) = (1, x / 8, 0) ∧ sizeE (x :: r) = 1) := Lib.hid (first_lt q)
    clear q hl
    go_enter Try.func12, Try.ntmps12
    go_wp2
    refine bodyPost_ret (v := .tuple #[.agg #[.int .i64 1, .int .i64 (x / 8), .int .i64 0], .int .i64 1]) ?_ rfl ⟨by rw [H.out.1, H.out.2]; rfl, (Wrote.refl _ _).alloc _⟩
    rw [results_cell_tmp rfl]
    go_simp
  · have t4 : ((x % 8 : Int) == 4) = true := by simp; omega
    have t5 : ((x % 8 : Int) == 5) = false := by simp; omega
    have t6 : ((x % 8 : Int) == 6) = false := by simp; omega
    have t7 : ((x % 8 : Int) == 7) = false := by simp; omega
    have H : Hid (firstE (x :: r) = (2, 0, 0) ∧ sizeE (x :: r) = 1) := Lib.hid (first_4 q)
    clear q hl
    go_enter Try.func12, Try.ntmps12
    go_wp2
    refine bodyPost_ret (v := .tuple #[.agg #[.int .i64 2, .int .i64 0, .int .i64 0], .int .i64 1]) ?_ rfl ⟨by rw [H.out.1, H.out.2]; rfl, (Wrote.refl _ _).alloc _⟩
    rw [results_cell_tmp rfl]
    go_simp
  · have t4 : ((x % 8 : Int) == 4) = false := by simp; omega
    have t5 : ((x % 8 : Int) == 5) = true := by simp; omega
    have t6 : ((x % 8 : Int) == 6) = false := by simp; omega
    have t7 : ((x % 8 : Int) == 7) = false := by simp; omega
    have H : Hid (firstE (x :: r) = (3, x / 8, -1) ∧ sizeE (x :: r) = 1) := Lib.hid (first_5 q)
    clear q hl
    go_enter Try.func12, Try.ntmps12
    go_wp2
    refine bodyPost_ret (v := .tuple #[.agg #[.int .i64 3, .int .i64 (x / 8), .int .i64 (-1)], .int .i64 1]) ?_ rfl ⟨by rw [H.out.1, H.out.2]; rfl, (Wrote.refl _ _).alloc _⟩
    rw [results_cell_tmp rfl]
    go_simp
  · have t4 : ((x % 8 : Int) == 4) = false := by simp; omega
    have t5 : ((x % 8 : Int) == 5) = false := by simp; omega
    have t6 : ((x % 8 : Int) == 6) = true := by simp; omega
    cases r with
    | nil =>
      obtain rfl : n = 1 := by simpa using hl.symm
      have H : Hid (firstE [x] = (3, x / 8, 0) ∧ sizeE [x] = 1) := Lib.hid (first_6a q)
      clear q hl
      go_enter Try.func12, Try.ntmps12
      go_wp2
      refine bodyPost_ret (v := .tuple #[.agg #[.int .i64 3, .int .i64 (x / 8), .int .i64 0], .int .i64 1]) ?_ rfl ⟨by rw [H.out.1, H.out.2]; rfl, (Wrote.refl _ _).alloc _⟩
      rw [results_cell_tmp rfl]
      go_simp
    | cons y r =>
      have hn2 : 2 ≤ n := by simp only [List.length_cons] at hl; omega
      have c1 : w.cell? ⟨b, o + 1, none⟩ = some (.int .u8 y) := hc 1 hn2
      obtain ⟨y0, y1⟩ := hb y (by simp)
      have hn1 : (1 : Int) < n := by omega
      have tn : ((n : Int) == 1) = false := by simp; omega
      have H : Hid (firstE (x :: y :: r) = (3, x / 8, y) ∧ sizeE (x :: y :: r) = 2) := Lib.hid (first_6b q)
      clear q hl
      go_enter Try.func12, Try.ntmps12
      go_wp2
      refine bodyPost_ret (v := .tuple #[.agg #[.int .i64 3, .int .i64 (x / 8), .int .i64 y], .int .i64 2]) ?_ rfl ⟨by rw [H.out.1, H.out.2]; rfl, (Wrote.refl _ _).alloc _⟩
      rw [results_cell_tmp rfl]
      go_simp
  · have t4 : ((x % 8 : Int) == 4) = false := by simp; omega
    have t5 : ((x % 8 : Int) == 5) = false := by simp; omega
    have t6 : ((x % 8 : Int) == 6) = false := by simp; omega
    have t7 : ((x % 8 : Int) == 7) = true := by simp; omega
    have H : Hid (firstE (x :: r) = (4, x / 8, 0) ∧ sizeE (x :: r) = 1) := Lib.hid (first_7 q)
    clear q hl
    go_enter Try.func12, Try.ntmps12
    go_wp2
    refine bodyPost_ret (v := .tuple #[.agg #[.int .i64 4, .int .i64 (x / 8), .int .i64 0], .int .i64 1]) ?_ rfl ⟨by rw [H.out.1, H.out.2]; rfl, (Wrote.refl _ _).alloc _⟩
    rw [results_cell_tmp rfl]
    go_simp

set_option maxHeartbeats 2000000 in
theorem ev_right (w : World) (k t v : Int) :
    Calls Try.prog 9 #[.agg #[.int .i64 k, .int .i64 t, .int .i64 v]] w fun e w' => e = .returned (.bool (rightE (k, t, v))) ∧ Wrote Nil w w' := by
  obtain ⟨R, hR⟩ : ∃ R, R = rightE (k, t, v) := ⟨_, rfl⟩
  have hi := right_iff k t v
  rw [← hR] at hi ⊢
  by_cases q0 : t < 0
  · have H : Hid (R = false) := Lib.hid (by rw [Bool.eq_false_iff]; intro h; rw [hi] at h; omega)
    clear hi hR
    go_enter Try.func9, Try.ntmps9
    go_wp2
    go_ret
    exact ⟨ret_truth H.out.symm, (Wrote.refl _ _).alloc _⟩
  by_cases q1 : 31 < t
  · have H : Hid (R = false) := Lib.hid (by rw [Bool.eq_false_iff]; intro h; rw [hi] at h; omega)
    clear hi hR
    go_enter Try.func9, Try.ntmps9
    go_wp2
    go_ret
    exact ⟨ret_truth H.out.symm, (Wrote.refl _ _).alloc _⟩
  have p0 : 0 ≤ t := by omega
  have p1 : t ≤ 31 := by omega
  have d0 : decide (t < 0) = false := by simpa using p0
  have d1 : decide (31 < t) = false := by simpa using p1
  clear q0 q1
  by_cases q3 : k = 3
  · subst q3
    by_cases q4 : -1 ≤ v
    · by_cases q5 : v ≤ 255
      · have H : Hid (R = true) := Lib.hid (by rw [hi]; omega)
        clear hi hR
        go_enter Try.func9, Try.ntmps9
        go_wp2
        go_ret
        exact ⟨ret_truth H.out.symm, (Wrote.refl _ _).alloc _⟩
      · have d5 : decide (v ≤ 255) = false := by simpa using q5
        have H : Hid (R = false) := Lib.hid (by rw [Bool.eq_false_iff]; intro h; rw [hi] at h; omega)
        clear hi hR
        go_enter Try.func9, Try.ntmps9
        go_wp2
        go_ret
        exact ⟨ret_truth H.out.symm, (Wrote.refl _ _).alloc _⟩
    · have d4 : decide (-1 ≤ v) = false := by simpa using q4
      have H : Hid (R = false) := Lib.hid (by rw [Bool.eq_false_iff]; intro h; rw [hi] at h; omega)
      clear hi hR
      go_enter Try.func9, Try.ntmps9
      go_wp2
      go_ret
      exact ⟨ret_truth H.out.symm, (Wrote.refl _ _).alloc _⟩
  · have t3 : ((k : Int) == 3) = false := by simpa using q3
    by_cases q2 : k = 2
    · subst q2
      by_cases q6 : t = 0
      · subst q6
        by_cases q7 : v = 0
        · subst q7
          have H : Hid (R = true) := Lib.hid (by rw [hi]; omega)
          clear hi hR
          go_enter Try.func9, Try.ntmps9
          go_wp2
          go_ret
          exact ⟨ret_truth H.out.symm, (Wrote.refl _ _).alloc _⟩
        · have t7 : ((v : Int) == 0) = false := by simpa using q7
          have H : Hid (R = false) := Lib.hid (by rw [Bool.eq_false_iff]; intro h; rw [hi] at h; omega)
          clear hi hR
          go_enter Try.func9, Try.ntmps9
          go_wp2
          go_ret
          exact ⟨ret_truth H.out.symm, (Wrote.refl _ _).alloc _⟩
      · have t6 : ((t : Int) == 0) = false := by simpa using q6
        have H : Hid (R = false) := Lib.hid (by rw [Bool.eq_false_iff]; intro h; rw [hi] at h; omega)
        clear hi hR
        go_enter Try.func9, Try.ntmps9
        go_wp2
        go_ret
        exact ⟨ret_truth H.out.symm, (Wrote.refl _ _).alloc _⟩
    have t2 : ((k : Int) == 2) = false := by simpa using q2
    by_cases q1 : k = 1
    · subst q1
      by_cases q7 : v = 0
      · subst q7
        have H : Hid (R = true) := Lib.hid (by rw [hi]; omega)
        clear hi hR
        go_enter Try.func9, Try.ntmps9
        go_wp2
        go_ret
        exact ⟨ret_truth H.out.symm, (Wrote.refl _ _).alloc _⟩
      · have t7 : ((v : Int) == 0) = false := by simpa using q7
        have H : Hid (R = false) := Lib.hid (by rw [Bool.eq_false_iff]; intro h; rw [hi] at h; omega)
        clear hi hR
        go_enter Try.func9, Try.ntmps9
        go_wp2
        go_ret
        exact ⟨ret_truth H.out.symm, (Wrote.refl _ _).alloc _⟩
    have t1 : ((k : Int) == 1) = false := by simpa using q1
    by_cases q4 : k = 4
    · subst q4
      by_cases q7 : v = 0
      · subst q7
        have H : Hid (R = true) := Lib.hid (by rw [hi]; omega)
        clear hi hR
        go_enter Try.func9, Try.ntmps9
        go_wp2
        go_ret
        exact ⟨ret_truth H.out.symm, (Wrote.refl _ _).alloc _⟩
      · have t7 : ((v : Int) == 0) = false := by simpa using q7
        have H : Hid (R = false) := Lib.hid (by rw [Bool.eq_false_iff]; intro h; rw [hi] at h; omega)
        clear hi hR
        go_enter Try.func9, Try.ntmps9
        go_wp2
        go_ret
        exact ⟨ret_truth H.out.symm, (Wrote.refl _ _).alloc _⟩
    · have t4 : ((k : Int) == 4) = false := by simpa using q4
      have H : Hid (R = false) := Lib.hid (by rw [Bool.eq_false_iff]; intro h; rw [hi] at h; omega)
      clear hi hR
      go_enter Try.func9, Try.ntmps9
      go_wp2
      go_ret
      exact ⟨ret_truth H.out.symm, (Wrote.refl _ _).alloc _⟩
end Go.Proofs.Ytpmceoifppnnbaa
