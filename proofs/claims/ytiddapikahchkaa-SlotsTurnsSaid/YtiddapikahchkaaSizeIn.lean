/- Is a number a size: slices.Contains of pack.Sizes. -/
import Derived.Test.YtiddapikahchkaaHomed
import Derived.Test.YtiddapikahchkaaSizes
namespace Go.Proofs.Ytiddapikahchkaa
open Go.RowKit
set_option linter.unusedVariables false
set_option maxRecDepth 100000

theorem cn_index {w : World} {sa : Option Addr} {n cap : Nat} {hs : List Int} (h : RowAt .i64 w sa n hs) (x : Int) (hL : n ≤ 1000000) :
    Calls Try.prog 53 #[.slice sa n cap, .int .i64 x] w (IxPost (decide (x ∈ hs)) w) := by
  have hlen := h.len
  have hat := h.at
  clear h
  go_enter Try.func53, Try.ntmps53
  go_wp2
  go_loop [5, 8] (fun _ i => ∃ k : Nat, k ≤ n ∧ i = .int .i64 k ∧ Hid (x ∉ hs.take k)) (fun _ i => n - (intOf i).toNat)
  case atStart => exact ⟨0, Nat.zero_le _, rfl, Lib.hid (by simp)⟩
  case round =>
    obtain ⟨k, hk, rfl, hok⟩ := hrel
    by_cases hlt : k < n
    · rcases hat with h0 | ⟨b, o, rfl, hc⟩
      · omega
      have c0 := hc k hlt
      have hg : hs[k]? = some (hs.getD k 0) := by
        rw [List.getD_eq_getElem?_getD, List.getElem?_eq_getElem (show k < hs.length by omega)]; rfl
      by_cases hx : x = hs.getD k 0
      · have hb : Hid (decide (x ∈ hs) = true) := Lib.hid (decide_eq_true (by rw [hx]; exact List.mem_of_getElem? hg))
        rw [← hx] at c0
        clear hok hx hg hc
        go_wp2
        go_ret
        refine ⟨⟨_, rfl, ?_⟩, rfl⟩
        rw [hb.out]
        exact decide_eq_true (by omega)
      · have hb : Hid (x ∉ hs.take (k + 1)) := Lib.hid (by
          rw [List.take_add_one, hg, List.mem_append]
          rintro (e | e)
          · exact hok.out e
          · exact hx (by simpa using e))
        have b1 : (x == hs.getD k 0) = false := beq_false_of_ne hx
        generalize hs.getD k 0 = y at c0 b1
        clear hok hx hg hc
        go_wp2
        go_round
        case rel => exact ⟨k + 1, by omega, by go_num, hb⟩
        case measure => simp [intOf]; omega
    · have hb : Hid (decide (x ∈ hs) = false) := Lib.hid (decide_eq_false (by have h := hok.out; rw [List.take_of_length_le (by omega)] at h; exact h))
      obtain rfl : k = n := by omega
      clear hat hok
      go_wp2
      go_ret
      refine ⟨⟨_, rfl, ?_⟩, rfl⟩
      rw [hb.out]
      rfl
theorem cn_any {w : World} {sa : Option Addr} {n cap : Nat} {hs : List Int} (h : RowAt .i64 w sa n hs) (x : Int) (hL : n ≤ 1000000) :
    Calls Try.prog 33 #[.slice sa n cap, .int .i64 x] w fun e w' => e = .returned (.bool (decide (x ∈ hs))) ∧ w = w' := by
  have c := cn_index (cap := cap) h x hL
  clear h
  generalize decide (x ∈ hs) = b at *
  go_enter Try.func33, Try.ntmps33
  go_wp2_with (go_at_call 53; with_reducible refine c.mono ?_; intro e w' hq; unfold IxPost at hq; obtain ⟨⟨r, rfl, hr⟩, rfl⟩ := hq; have HR := Lib.hid hr; clear hr)
  go_ret
  exact ⟨by rw [← HR.out]; rfl, rfl⟩
theorem row_seven {w : World} {g : Nat} (h : w.cell? ⟨g, 0, none⟩ = some (.int .i64 1) ∧ w.cell? ⟨g, 1, none⟩ = some (.int .i64 2) ∧ w.cell? ⟨g, 2, none⟩ = some (.int .i64 4) ∧ w.cell? ⟨g, 3, none⟩ = some (.int .i64 8) ∧ w.cell? ⟨g, 4, none⟩ = some (.int .i64 16) ∧ w.cell? ⟨g, 5, none⟩ = some (.int .i64 32) ∧ w.cell? ⟨g, 6, none⟩ = some (.int .i64 64)) :
    RowAt .i64 w (some ⟨g, 0, none⟩) 7 [1, 2, 4, 8, 16, 32, 64] := by
  obtain ⟨h0, h1, h2, h3, h4, h5, h6⟩ := h
  refine ⟨rfl, fun e => (by cases e), fun b hb j hj => ?_⟩
  cases hb
  match j, hj with
  | 0, _ => exact h0
  | 1, _ => exact h1
  | 2, _ => exact h2
  | 3, _ => exact h3
  | 4, _ => exact h4
  | 5, _ => exact h5
  | 6, _ => exact h6
theorem in_seven (x : Int) : decide (x ∈ [(1 : Int), 2, 4, 8, 16, 32, 64]) = sizeB x := by
  unfold sizeB
  simp
end Go.Proofs.Ytiddapikahchkaa
