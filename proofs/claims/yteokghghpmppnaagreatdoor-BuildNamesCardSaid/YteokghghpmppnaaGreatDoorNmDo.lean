/- Name, Fifo, Timed, Kind, and the reference's Names. -/
import Derived.Test.YteokghghpmppnaaGreatDoorNmGlob
import Derived.Handy
namespace Go.Proofs.YteokghghpmppnaaGreatDoor
open Go.RowKit Go.BigFrame
set_option linter.unusedVariables false
set_option maxRecDepth 100000

theorem Glob.after {w w' : World} (h : Glob w) (k : Wrote Nil w w') : Glob w' := fun j hj => k.old (h j hj)
def nmI (kd : Int) : ByteArray := if 1 ≤ kd ∧ kd ≤ 7 then nmB kd.toNat else strB []
theorem nm_any {w : World} (h : Glob w) (kd : Int) : Calls Tryz.prog 5 #[.int .i64 kd] w fun e w' => e = .returned (.string (nmI kd)) ∧ w = w' := by
  by_cases h0 : kd < 0
  · have e : nmI kd = strB [] := by unfold nmI; rw [if_neg (by omega)]
    rw [e]
    clear h
    go_enter Tryz.func5, Tryz.ntmps5
    go_wp2
    go_ret
    exact ⟨rfl, rfl⟩
  by_cases h8 : 8 ≤ kd
  · have e : nmI kd = strB [] := by unfold nmI; rw [if_neg (by omega)]
    rw [e]
    clear h
    go_enter Tryz.func5, Tryz.ntmps5
    go_wp2
    go_ret
    exact ⟨rfl, rfl⟩
  obtain ⟨k, rfl⟩ := Int.eq_ofNat_of_zero_le (show 0 ≤ kd by omega)
  have hk : k < 8 := by omega
  have c := h k hk
  have e : nmI (k : Int) = nmB k := by
    unfold nmI
    split
    · rw [Int.toNat_natCast]
    · have : k = 0 := by omega
      subst this
      rfl
  rw [e]
  have k8 : (k : Int) < 8 := by omega
  have k0 : (0 : Int) ≤ (k : Int) := by omega
  clear h e
  go_enter Tryz.func5, Tryz.ntmps5
  go_wp2
  go_ret
  exact ⟨rfl, rfl⟩
def IsK (s : ByteArray) (x : Int) (b : Bool) : Prop := (∃ k : Nat, 1 ≤ k ∧ k < 8 ∧ x = k ∧ b = true ∧ nmB k = s ∧ ∀ j, 1 ≤ j → j < k → nmB j ≠ s) ∨ (x = 0 ∧ b = false ∧ ∀ j, 1 ≤ j → j < 8 → nmB j ≠ s)
theorem ne_list {a b : ByteArray} (h : a ≠ b) : (a.toList == b.toList) = false := by
  rw [beq_eq_false_iff_ne]
  intro e
  cases a with
  | mk x => cases b with
    | mk y =>
      rw [ByteArray.toList_mk, ByteArray.toList_mk] at e
      exact h (by rw [Array.toList_inj.1 e])
theorem eq_list (a : ByteArray) : (a.toList == a.toList) = true := beq_self_eq_true _
set_option maxHeartbeats 4000000 in
theorem kn_any {w : World} (h : Glob w) (s : ByteArray) : Calls Tryz.prog 8 #[.string s] w fun e w' => (∃ x b, e = .returned (.tuple #[.int .i64 x, .bool b]) ∧ IsK s x b) ∧ w = w' := by
  have H := Lib.hid h
  clear h
  go_enter Tryz.func8, Tryz.ntmps8
  go_wp2
  go_loopw [4] (fun i wr => ∃ k : Nat, 1 ≤ k ∧ k ≤ 8 ∧ i = .int .i64 k ∧ (∀ j, 1 ≤ j → j < k → nmB j ≠ s) ∧ wr = w) (fun i _ => 8 - (intOf i).toNat)
  case atStart => exact ⟨1, Nat.le_refl _, by decide, rfl, fun j h1 h2 => by omega, rfl⟩
  case round =>
    obtain ⟨k, hk1, hk, rfl, hj, hw⟩ := hrel
    subst hw
    by_cases hlt : k < 8
    · have k8 : (k : Int) < 8 := by omega
      have c := H.out k hlt
      have HJ := Lib.hid hj
      clear hj
      by_cases e : nmB k = s
      · rw [e] at c
        have q := eq_list s
        go_wp2
        go_ret2
        exact ⟨⟨_, _, rfl, .inl ⟨k, hk1, hlt, rfl, rfl, e, HJ.out⟩⟩, rfl⟩
      · have q := ne_list e
        go_wp2
        go_roundw
        case rel => exact ⟨k + 1, by omega, by omega, by go_num, fun j h1 h2 => by
            by_cases ej : j = k
            · subst ej; exact e
            · exact HJ.out j h1 (by omega), by first | rfl | trivial⟩
        case measure => simp [intOf]; omega
    · obtain rfl : k = 8 := by omega
      have HJ := Lib.hid hj
      clear hj
      go_wp2
      go_ret2
      exact ⟨⟨_, _, rfl, .inr ⟨rfl, rfl, HJ.out⟩⟩, rfl⟩
theorem fi_any (kd : Int) (w : World) : Calls Tryz.prog 6 #[.int .i64 kd] w fun e w' => e = .returned (.bool (decide (1 ≤ kd ∧ kd ≤ 5))) ∧ w = w' := by
  by_cases h1 : 1 ≤ kd
  · by_cases h5 : kd ≤ 5
    · rw [decide_eq_true ⟨h1, h5⟩]
      go_enter Tryz.func6, Tryz.ntmps6
      go_wp2
      go_ret
      exact ⟨by first | rfl | simp [h1, h5], rfl⟩
    · rw [decide_eq_false (by omega)]
      go_enter Tryz.func6, Tryz.ntmps6
      go_wp2
      go_ret
      exact ⟨by first | rfl | simp [h1, h5], rfl⟩
  · rw [decide_eq_false (by omega)]
    go_enter Tryz.func6, Tryz.ntmps6
    go_wp2
    go_ret
    exact ⟨by first | rfl | simp [h1], rfl⟩
theorem ti_any (kd : Int) (w : World) : Calls Tryz.prog 7 #[.int .i64 kd] w fun e w' => e = .returned (.bool (kd == 5)) ∧ w = w' := by
  go_enter Tryz.func7, Tryz.ntmps7
  go_wp2
  go_ret
  exact ⟨rfl, rfl⟩
theorem rn_any (w : World) : Calls Tryz.prog 4 #[] w fun e w' => e = .returned (.agg #[.string ⟨#[]⟩, .string ⟨#[116, 105, 99, 107, 101, 116]⟩, .string ⟨#[115, 108, 111, 116, 115]⟩, .string ⟨#[99, 108, 104]⟩, .string ⟨#[109, 99, 115]⟩, .string ⟨#[97, 98, 111, 114, 116]⟩, .string ⟨#[104, 105, 101, 114]⟩, .string ⟨#[99, 111, 104, 111, 114, 116]⟩]) ∧ Wrote Nil w w' := by
  have HW := Lib.hid (show Wrote Nil w (w.alloc (.cells #[.string ⟨#[]⟩, .string ⟨#[116, 105, 99, 107, 101, 116]⟩, .string ⟨#[115, 108, 111, 116, 115]⟩, .string ⟨#[99, 108, 104]⟩, .string ⟨#[109, 99, 115]⟩, .string ⟨#[97, 98, 111, 114, 116]⟩, .string ⟨#[104, 105, 101, 114]⟩, .string ⟨#[99, 111, 104, 111, 114, 116]⟩] 22)) from (Wrote.refl _ _).alloc _)
  go_enter Tryz.func4, Tryz.ntmps4
  go_wp2
  refine bodyPost_ret (results_cell_row Tryz.results4 _ _ w.heap.size 22 #[.string ⟨#[]⟩, .string ⟨#[116, 105, 99, 107, 101, 116]⟩, .string ⟨#[115, 108, 111, 116, 115]⟩, .string ⟨#[99, 108, 104]⟩, .string ⟨#[109, 99, 115]⟩, .string ⟨#[97, 98, 111, 114, 116]⟩, .string ⟨#[104, 105, 101, 114]⟩, .string ⟨#[99, 111, 104, 111, 114, 116]⟩] (0, 0) _ rfl ?hg Tryz.underlying22 rfl (by kernel_rfl)) rfl ?_
  case hg => exact Go.Deep.blk_alloc_new _ _
  exact ⟨rfl, HW.out⟩
end Go.Proofs.YteokghghpmppnaaGreatDoor
