/- The contract of the document's example beside the laws on package seat. -/
import Derived.Test.YtlmkikdopmppiaaSeatNew
namespace Go.Proofs.Ytlmkikdopmppiaa
open Go.RowKit
set_option linter.unusedVariables false

set_option maxHeartbeats 1000000 in
theorem se_awake (w : World) : Calls Try.prog 6 #[] w fun e w' => e = .returned (.bool true) ∧ Wrote Nil w w' := by
  go_enter Try.func6, Try.ntmps6
  go_wp2_with (first
    | (go_at_call 7; refine (si_new 2 false false (by decide) (by decide) _).mono ?_; intro e w1 hq; unfold SinceNew at hq; obtain ⟨p, b, rfl, h1⟩ := hq)
    | (go_at_call 11; (with_reducible refine (si_lock h1 0 (-1)).mono ?_); intro e w2 hq; unfold SincePost at hq; obtain ⟨rfl, h2⟩ := hq; rw [show lockE (newSeat 2 false false) 0 (-1) = 0 from rfl])
    | (go_at_call 11; (with_reducible refine (si_lock h2 0 (-1)).mono ?_); intro e w3 hq; unfold SincePost at hq; obtain ⟨rfl, h3⟩ := hq; rw [show lockE ((newSeat 2 false false).lock 0 (-1)) 0 (-1) = 2 from rfl])
    | (go_at_call 13; (with_reducible refine (si_unlock h3 1).mono ?_); intro e w4 hq; unfold SincePost at hq; obtain ⟨rfl, h4⟩ := hq; rw [show turnE (((newSeat 2 false false).lock 0 (-1)).lock 0 (-1)) 1 = 3 from rfl])
    | (go_at_call 17; (with_reducible refine (se_state h4.at_ 0).mono ?_); rintro e w5 ⟨rfl, rfl⟩; rw [show SS.stI ((((newSeat 2 false false).lock 0 (-1)).lock 0 (-1)).turn 1 3) 0 = 1 from rfl]))
  go_ret
  exact ⟨rfl, h4.wrote⟩
end Go.Proofs.Ytlmkikdopmppiaa
