/- Whether there are cohorts of these locks with this budget: the contract of cohort.right. -/
import Derived.Test.YtkmikkjjnbikdaaGreatHomed
namespace Go.Proofs.YtkmikkjjnbikdaaGreat
open Go.RowKit Go.BigFrame
set_option linter.unusedVariables false
set_option maxRecDepth 100000
set_option maxHeartbeats 4000000

theorem cn_index {w : World} {sa : Option Addr} {n cap : Nat} {hs : List Int} (h : RowAt .i64 w sa n hs) (x : Int) (hL : n ≤ 1000000) :
    Calls Tryz.prog 76 #[.slice sa n cap, .int .i64 x] w (IxPost (decide (x ∈ hs)) w) := by
  have hlen := h.len
  have hat := h.at
  clear h
  go_enter Tryz.func76, Tryz.ntmps76
  go_wp2
  go_loop [5, 8] (fun _ i => ∃ k : Nat, k ≤ n ∧ i = .int .i64 k ∧ Hid (x ∉ hs.take k)) (fun _ i => n - (intOf i).toNat)
  case atStart => exact ⟨0, Nat.zero_le _, rfl, Lib.hid (by simp)⟩
  case round =>
    obtain ⟨k, hk, rfl, hok⟩ := hrel
    by_cases hlt : k < n
    · rcases hat with h0 | ⟨b, o, rfl, hc⟩
      · omega
      have c0 := hc k hlt
      have hg : hs[k]? = some (hs.getD k 0) := by
        rw [List.getD_eq_getElem?_getD, List.getElem?_eq_getElem (show k < hs.length by omega)]; rfl
      by_cases hx : x = hs.getD k 0
      · have hb : Hid (decide (x ∈ hs) = true) := Lib.hid (decide_eq_true (by rw [hx]; exact List.mem_of_getElem? hg))
        rw [← hx] at c0
        clear hok hx hg hc
        go_wp2
        go_ret
        refine ⟨⟨_, rfl, ?_⟩, rfl⟩
        rw [hb.out]
        exact decide_eq_true (by omega)
      · have hb : Hid (x ∉ hs.take (k + 1)) := Lib.hid (by
          rw [List.take_add_one, hg, List.mem_append]
          rintro (e | e)
          · exact hok.out e
          · exact hx (by simpa using e))
        have b1 : (x == hs.getD k 0) = false := beq_false_of_ne hx
        generalize hs.getD k 0 = y at c0 b1
        clear hok hx hg hc
        go_wp2
        go_round
        case rel => exact ⟨k + 1, by omega, by go_num, hb⟩
        case measure => simp [intOf]; omega
    · have hb : Hid (decide (x ∈ hs) = false) := Lib.hid (decide_eq_false (by have h := hok.out; rw [List.take_of_length_le (by omega)] at h; exact h))
      obtain rfl : k = n := by omega
      clear hat hok
      go_wp2
      go_ret
      refine ⟨⟨_, rfl, ?_⟩, rfl⟩
      rw [hb.out]
      rfl
theorem cn_any {w : World} {sa : Option Addr} {n cap : Nat} {hs : List Int} (h : RowAt .i64 w sa n hs) (x : Int) (hL : n ≤ 1000000) :
    Calls Tryz.prog 66 #[.slice sa n cap, .int .i64 x] w fun e w' => e = .returned (.bool (decide (x ∈ hs))) ∧ w = w' := by
  have c := cn_index (cap := cap) h x hL
  clear h
  generalize decide (x ∈ hs) = b at *
  go_enter Tryz.func66, Tryz.ntmps66
  go_wp2_with (go_at_call 76; with_reducible refine c.mono ?_; intro e w' hq; unfold IxPost at hq; obtain ⟨⟨r, rfl, hr⟩, rfl⟩ := hq; have HR := Lib.hid hr; clear hr)
  go_ret
  exact ⟨by rw [← HR.out]; rfl, rfl⟩

theorem row_two (W : World) (t : TypeId) {b : Nat} (hb : b = W.heap.size) (x y : Int) : RowAt .i64 (W.alloc (.cells #[.int .i64 x, .int .i64 y] t)) (some ⟨b, 0, none⟩) 2 [x, y] := by
  subst hb
  refine ⟨rfl, fun e => (by cases e), fun b hb j hj => ?_⟩
  cases hb
  rw [Addr.add_lit, blk_cell (Go.Deep.blk_alloc_new W _)]
  match j, hj with
  | 0, _ => rfl
  | 1, _ => rfl
theorem row_three (W : World) (t : TypeId) {b : Nat} (hb : b = W.heap.size) (x y z : Int) : RowAt .i64 (W.alloc (.cells #[.int .i64 x, .int .i64 y, .int .i64 z] t)) (some ⟨b, 0, none⟩) 3 [x, y, z] := by
  subst hb
  refine ⟨rfl, fun e => (by cases e), fun b hb j hj => ?_⟩
  cases hb
  rw [Addr.add_lit, blk_cell (Go.Deep.blk_alloc_new W _)]
  match j, hj with
  | 0, _ => rfl
  | 1, _ => rfl
  | 2, _ => rfl
/-- such cohorts there are -/
def rightB (G K B : Int) : Bool := decide (G ∈ [(1 : Int), 4]) && decide (K ∈ [(1 : Int), 3, 4]) && decide (1 ≤ B) && decide (B ≤ 1000)
theorem fl_right (G K B : Int) (w : World) : Calls Tryz.prog 46 #[.int .i64 G, .int .i64 K, .int .i64 B] w fun e w' => e = .returned (.bool (rightB G K B)) ∧ Wrote Nil w w' := by
  have c1 := fun (b : Nat) (hb : b = w.heap.size) (cap : Nat) => cn_any (cap := cap) (row_two w 3 hb 1 4) G (by decide)
  have hW1 : Wrote Nil w (w.alloc (.cells #[.int .i64 1, .int .i64 4] 3)) := (Wrote.refl _ w).alloc _
  unfold rightB
  cases b1 : decide (G ∈ [(1 : Int), 4])
  · rw [b1] at c1
    go_enter Tryz.func46, Tryz.ntmps46
    go_wp2_with (go_at_call 66; (with_reducible refine (c1 _ rfl _).mono ?_); rintro e w' ⟨rfl, rfl⟩)
    go_ret
    exact ⟨rfl, hW1⟩
  · rw [b1] at c1
    obtain ⟨X, hX⟩ : ∃ X, X = w.alloc (.cells #[.int .i64 1, .int .i64 4] 3) := ⟨_, rfl⟩
    have c2 := fun (b : Nat) (hb : b = X.heap.size) (cap : Nat) => cn_any (cap := cap) (row_three X 3 hb 1 3 4) K (by decide)
    have hW2 : Wrote Nil w (X.alloc (.cells #[.int .i64 1, .int .i64 3, .int .i64 4] 3)) := by rw [hX]; exact hW1.alloc _
    have hXs : w.heap.size + 1 = X.heap.size := by rw [hX]; exact (Go.Deep.nblk_alloc _ _).symm
    rw [hX] at c2 hW2 hXs
    have c2 := c2 _ hXs
    have HW2 := Lib.hid hW2
    clear hX hXs hW2 hW1
    cases b2 : decide (K ∈ [(1 : Int), 3, 4])
    · rw [b2] at c2
      go_enter Tryz.func46, Tryz.ntmps46
      go_wp2_with (first
        | (go_at_call 66; (with_reducible refine (c1 _ rfl _).mono ?_); rintro e w' ⟨rfl, rfl⟩)
        | (go_at_call 66; (with_reducible refine (c2 _).mono ?_); rintro e w' ⟨rfl, rfl⟩))
      go_ret
      exact ⟨rfl, HW2.out⟩
    · rw [b2] at c2
      by_cases h1 : 1 ≤ B
      · rw [decide_eq_true h1]
        go_enter Tryz.func46, Tryz.ntmps46
        go_wp2_with (first
          | (go_at_call 66; (with_reducible refine (c1 _ rfl _).mono ?_); rintro e w' ⟨rfl, rfl⟩)
          | (go_at_call 66; (with_reducible refine (c2 _).mono ?_); rintro e w' ⟨rfl, rfl⟩))
        go_ret
        exact ⟨rfl, HW2.out⟩
      · rw [decide_eq_false h1]
        go_enter Tryz.func46, Tryz.ntmps46
        go_wp2_with (first
          | (go_at_call 66; (with_reducible refine (c1 _ rfl _).mono ?_); rintro e w' ⟨rfl, rfl⟩)
          | (go_at_call 66; (with_reducible refine (c2 _).mono ?_); rintro e w' ⟨rfl, rfl⟩))
        go_ret
        exact ⟨rfl, HW2.out⟩
end Go.Proofs.YtkmikkjjnbikdaaGreat
