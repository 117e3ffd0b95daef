/- The contract of the document's example beside the laws on package cache. -/
import Derived.Test.YtdmehgmlomncaaaCacheRef
namespace Go.Proofs.Ytdmehgmlomncaaa
open Go.RowKit
set_option linter.unusedVariables false

/-! ### the document's example -/
set_option maxRecDepth 100000 in
set_option maxHeartbeats 2000000 in
theorem awake_any (w : World) :
    Calls Try.prog 7 #[] w fun e w' => e = .returned (.bool true) ∧ Wrote Nil w w' := by
  go_enter Try.func7, Try.ntmps7
  go_wp2_with (first
    | (go_at_call 8; refine (cnew_good (threads := 2) (words := 1) (by decide) (by decide) (by decide)).mono ?_; rintro e w1 ⟨c, bc, bm, rfl, hC1, q1, q2, q3, hW1⟩; rw [show List.replicate 1 0 = [0] from rfl, show List.replicate 2 0 = [0, 0] from rfl] at hC1)
    | (go_at_call 10; have d := touch_i hC1 0 0 false (by decide) (by decide) (by decide); unfold TouchPost at d; rw [show missB [0] (0 : Int).toNat (0 : Int).toNat false = true from rfl, show touchC [0] (0 : Int).toNat (0 : Int).toNat false = [1] from rfl, show touchM [0] [0, 0] (0 : Int).toNat (0 : Int).toNat false = [1, 0] from rfl] at d; with_reducible refine d.mono ?_; rintro e w2 ⟨rfl, hC2, hW2⟩)
    | (go_at_call 10; have d := touch_i hC2 1 0 false (by decide) (by decide) (by decide); unfold TouchPost at d; rw [show missB [1] (1 : Int).toNat (0 : Int).toNat false = true from rfl, show touchC [1] (1 : Int).toNat (0 : Int).toNat false = [3] from rfl, show touchM [1] [1, 0] (1 : Int).toNat (0 : Int).toNat false = [1, 1] from rfl] at d; with_reducible refine d.mono ?_; rintro e w3 ⟨rfl, hC3, hW3⟩)
    | (go_at_call 10; have d := touch_i hC3 0 0 true (by decide) (by decide) (by decide); unfold TouchPost at d; rw [show missB [3] (0 : Int).toNat (0 : Int).toNat true = true from rfl, show touchC [3] (0 : Int).toNat (0 : Int).toNat true = [1] from rfl, show touchM [3] [1, 1] (0 : Int).toNat (0 : Int).toNat true = [2, 1] from rfl] at d; with_reducible refine d.mono ?_; rintro e w4 ⟨rfl, hC4, hW4⟩)
    | (go_at_call 10; have d := touch_i hC4 1 0 false (by decide) (by decide) (by decide); unfold TouchPost at d; rw [show missB [1] (1 : Int).toNat (0 : Int).toNat false = true from rfl, show touchC [1] (1 : Int).toNat (0 : Int).toNat false = [3] from rfl, show touchM [1] [2, 1] (1 : Int).toNat (0 : Int).toNat false = [2, 2] from rfl] at d; with_reducible refine d.mono ?_; rintro e w5 ⟨rfl, hC5, hW5⟩)
    | (go_at_call 14; have d := total_any hC5 (by decide); rw [show sumN [2, 2] = 4 from rfl] at d; with_reducible refine d.mono ?_; rintro e w6 ⟨rfl, rfl⟩))
  go_ret
  have hn : ∀ k, k < w.heap.size → Two bc bm k → Nil k := by intro k hk h; rcases h with h | h <;> omega
  exact ⟨rfl, (((hW1.trans hW2 hn).trans hW3 hn).trans hW4 hn).trans hW5 hn⟩

end Go.Proofs.Ytdmehgmlomncaaa
