/- May homes and calls be few; what a law's example leaves. -/
import Derived.Test.YtkmikkjjnbikdaaGreatLockS
import Derived.Laws.StructEq
namespace Go.Proofs.YtkmikkjjnbikdaaGreat
open Go.RowKit Go.BigFrame
set_option linter.unusedVariables false
set_option maxRecDepth 100000

def fineB (n : Nat) (hs : List Int) (m : Nat) : Bool := decide (1 ≤ n) && decide (n ≤ 8) && homesOK hs && decide (m ≤ 150)
theorem fineB_no {n : Nat} {hs : List Int} {m : Nat} (h : fineB n hs m = true) : 1 ≤ n ∧ n ≤ 8 ∧ homesOK hs = true ∧ m ≤ 150 := by
  unfold fineB at h
  simpa [and_assoc] using h
set_option maxHeartbeats 1000000 in
theorem fine_any {w : World} {sa : Option Addr} {n cap : Nat} {hs : List Int} (h : RowAt .i64 w sa n hs) (hn : n ≤ 9223372036854775807) (sb : Option Addr) (m cb : Nat) (hm : m ≤ 9223372036854775807) :
    Calls Tryz.prog 8 #[.slice sa n cap, .slice sb m cb] w fun e w' => e = .returned (.bool (fineB n hs m)) ∧ w = w' := by
  have c := homes_any (cap := cap) h hn
  clear h
  by_cases h1 : 1 ≤ n
  · by_cases h8 : n ≤ 8
    · have k1 : (1 : Int) ≤ n := by omega
      have k8 : (n : Int) ≤ 8 := by omega
      cases ho : homesOK hs
      · have e : fineB n hs m = false := by unfold fineB; rw [ho, Bool.and_false, Bool.false_and]
        rw [ho] at c
        rw [e]
        clear ho e
        go_enter Tryz.func8, Tryz.ntmps8
        go_wp2_with (go_at_call 25; with_reducible refine c.mono ?_; rintro e w' ⟨rfl, rfl⟩)
        go_ret
        exact ⟨rfl, rfl⟩
      · have e : fineB n hs m = decide (m ≤ 150) := by unfold fineB; rw [ho, decide_eq_true h1, decide_eq_true h8]; rfl
        have e2 : decide ((m : Int) ≤ 150) = decide (m ≤ 150) := by
          by_cases hq : m ≤ 150
          · rw [decide_eq_true hq, decide_eq_true (show (m : Int) ≤ 150 by omega)]
          · rw [decide_eq_false hq, decide_eq_false (show ¬ (m : Int) ≤ 150 by omega)]
        rw [ho] at c
        rw [e]
        clear ho e
        go_enter Tryz.func8, Tryz.ntmps8
        go_wp2_with (go_at_call 25; with_reducible refine c.mono ?_; rintro e w' ⟨rfl, rfl⟩)
        go_ret
        exact ⟨by first | rfl | rw [e2], rfl⟩
    · have e : fineB n hs m = false := by unfold fineB; rw [decide_eq_false h8, Bool.and_false, Bool.false_and, Bool.false_and]
      rw [e]
      have k1 : (1 : Int) ≤ n := by omega
      have k8 : ¬ ((n : Int) ≤ 8) := by omega
      clear c e
      go_enter Tryz.func8, Tryz.ntmps8
      go_wp2
      go_ret
      exact ⟨rfl, rfl⟩
  · have e : fineB n hs m = false := by unfold fineB; rw [decide_eq_false h1, Bool.false_and, Bool.false_and, Bool.false_and]
    rw [e]
    have k1 : ¬ ((1 : Int) ≤ n) := by omega
    clear c e
    go_enter Tryz.func8, Tryz.ntmps8
    go_wp2
    go_ret
    exact ⟨rfl, rfl⟩

def AwakePost (w : World) (e : Ending) (w' : World) : Prop := e = .returned (.bool true) ∧ Wrote Nil w w'
end Go.Proofs.YtkmikkjjnbikdaaGreat
