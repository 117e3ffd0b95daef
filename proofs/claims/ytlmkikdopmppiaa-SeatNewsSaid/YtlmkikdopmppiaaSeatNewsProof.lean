/- For every input the Go function SeatNews of weighlocklaw09 returns true, and its arguments read afterwards as before. Conditions: none. -/
import Derived.Test.YtlmkikdopmppiaaRows
import Derived.WalkKit
import Derived.ProofKit
import Derived.OpenShut
import Derived.ChangeOld
import Derived.Below
import Derived.Carry
import Derived.Test.YtlmkikdopmppiaaSeatLaw
namespace Go.Proofs.Ytlmkikdopmppiaa.seatNews
open Go.ChangeShapes Go.WideShapes Go.ChangeAt Go.RowKit
set_option linter.unusedVariables false

theorem own : ownKnob Try.prog.godebug = none := by kernel_rfl
theorem laidOut : laidOutB Try.prog = true := by kernel_rfl

/-! the walk -/
theorem walk (a0 : Int) (w : World) (w0 : (Lit.int .i64 a0).wf = true) :
    Calls Try.prog 4 #[.int .i64 a0] w fun e w' => e = .returned (.bool true) ∧ Below w.heap.size w w' := by
  by_cases hok : 1 ≤ a0 ∧ a0 ≤ 64
  · obtain ⟨n, rfl⟩ := Int.eq_ofNat_of_zero_le (show 0 ≤ a0 by omega)
    have n1 : 1 ≤ n := by omega
    have n2 : n ≤ 64 := by omega
    have k1 : ¬ (n : Int) < 1 := by omega
    have k2 : ¬ (64 : Int) < (n : Int) := by omega
    have k3 : wrap64 ((n : Int) - 1) = n - 1 := IntWalk.wrap64_in _ (by omega)
    have cN := si_new n true true n1 n2 w
    have e1 : (newSeat n true true).stI ((n : Int) - 1) = 0 := by unfold SS.stI; split <;> rfl
    have e2 : (newSeat n true true).dlI 0 = -1 := by unfold SS.dlI; split <;> rfl
    clear hok w0
    go_enter Try.func4, Try.ntmps4
    go_wp2_with (first
      | (go_at_call 7; (with_reducible refine cN.mono ?_); intro e w1 hq; unfold SinceNew at hq; obtain ⟨p, b, rfl, h1⟩ := hq)
      | (go_at_call 8; (with_reducible refine (se_len h1.at_).mono ?_); rintro e w2 ⟨rfl, rfl⟩)
      | (go_at_call 17; (with_reducible refine (se_state h1.at_ _).mono ?_); rintro e w3 ⟨rfl, rfl⟩; rw [e1])
      | (go_at_call 18; (with_reducible refine (se_deadline h1.at_ _).mono ?_); rintro e w4 ⟨rfl, rfl⟩; rw [e2])
      | (go_at_call 6; refine (se_awake _).mono ?_; rintro e w6 ⟨rfl, hW6⟩))
    go_ret
    exact ⟨rfl, (h1.wrote.nil hW6).law⟩
  · have cN := se_new_no a0 true true (by omega) w
    have key : a0 < 1 ∨ (¬ a0 < 1 ∧ 64 < a0) := by omega
    clear hok w0
    rcases key with k1 | ⟨k1, k2⟩
    all_goals
      go_enter Try.func4, Try.ntmps4
      go_wp2_with (first
        | (go_at_call 7; (with_reducible refine cN.mono ?_); rintro e w1 ⟨rfl, rfl⟩)
        | (go_at_call 6; refine (se_awake _).mono ?_; rintro e w6 ⟨rfl, hW6⟩))
      go_ret
      exact ⟨rfl, hW6.law⟩

/-! the row -/
set_option maxRecDepth 100000 in
theorem lifted (os : Os) (started : os.Started) (H : Type) (enc : TypeId × Value → H) :
    ReturnsInHanded {} Try.checked os 4 .any (Rows.seatNewsSpec.pre6 enc Try.prog Try.f4 Rows.seatNewsRow.domain false) (Rows.seatNewsSpec.post enc Try.prog Try.f4 false true false false) := by
  refine returnsInHanded_of_change (C := Try.checked) own started (by kernel_rfl) Try.func4
    (ChangeSpec.witness6 (enc := enc) (C := Try.checked) false ⟨#[], #[.int .i64 0], []⟩ 8 (by kernel_rfl) (by kernel_rfl) (by kernel_rfl) (by kernel_rfl)) ?_
  intro W base args ds gs before hval0 hW hcnd _
  have hval : ∀ (j : Nat) t v, Try.f4.params[j]? = some t → args[j]? = some v → Value.okWide Try.prog W .any base t v := hval0
  have hW' := hW
  obtain ⟨p, q, hA0, hV, rfl, hfz, hnd⟩ := hW
  have hA : DataW.TrodAll enc Try.prog W 0 (fun _ => true) true Try.f4.params.toList args.toList ds p := hA0
  rw [Try.params4] at hA hval
  obtain ⟨v0, vs0, d0, ds0, p0, q0, hargs, rfl, rfl, h0, r0'⟩ := trodAll_cons hA
  obtain ⟨rfl, rfl, rfl⟩ := trodAll_nil r0'
  obtain rfl : args = #[v0] := by cases args; simp_all
  obtain ⟨rfl, rfl⟩ := trodVars_none hV
  obtain ⟨a0, rfl, rfl, rfl, w0⟩ := open_int Try.underlying3 (hval 0 3 v0 rfl rfl) h0
  clear hA0 hval0
  simp only [List.append_nil] at hW'
  refine (walk a0 W w0).mono fun e W' ⟨he, bel⟩ => ?_
  subst he
  exact ⟨_, rfl, _, _, _, [], [], [], hW', trodAll_mk1 (shut_bool Try.underlying4 _), (trodAll_cons_mk (shut_int Try.underlying3 w0) trodAll_mk0), rfl, bel.frame _, fun h => by cases h⟩

theorem over : Rows.seatNewsRow.holds Try.pinned (OpenSpec.ofChange Rows.seatNewsSpec) :=
  OpenClaim.holds_of_wide 4 Try.f4 rfl rfl rfl rfl rfl rfl rfl ⟨rfl, rfl, rfl, rfl, rfl⟩ rfl rfl rfl rfl rfl (by kernel_rfl) Try.func4 (by kernel_rfl)
    (of_decide_eq_true (by kernel_rfl)) (by unfold Func.isWrapper; first | (rw [if_pos (by decide +kernel)]; kernel_rfl) | (rw [if_neg (by decide +kernel)]; exact ⟨rfl, rfl⟩))
    (fun os started H enc _ => lifted os started H enc)

/-- the statement -/
theorem proved : Rows.SeatNewsSaid := over
#print axioms proved
end Go.Proofs.Ytlmkikdopmppiaa.seatNews
