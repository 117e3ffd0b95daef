/- For every input the Go function CacheNews of weighlocklaw03 returns true, and its arguments read afterwards as before. Conditions: none. -/
import Derived.Test.YtdmehgmlomncaaaRows
import Derived.WalkKit
import Derived.ProofKit
import Derived.OpenShut
import Derived.ChangeOld
import Derived.Below
import Derived.Carry
import Derived.Test.YtdmehgmlomncaaaCacheLaw
namespace Go.Proofs.Ytdmehgmlomncaaa.cacheNews
open Go.ChangeShapes Go.WideShapes Go.ChangeAt Go.RowKit
set_option linter.unusedVariables false

theorem own : ownKnob Try.prog.godebug = none := by kernel_rfl
theorem laidOut : laidOutB Try.prog = true := by kernel_rfl

/-! the walk -/
theorem chas_new {c bc bm threads words : Nat} {w : World} (h : CacheAt w c bc bm (List.replicate words 0) (List.replicate threads 0) 0) (ht : 1 ≤ threads) :
    Calls Try.prog 12 #[.pointer (some ⟨c, 0, none⟩), .int .i64 0, .int .i64 0] w fun e w' => e = .returned (.bool false) ∧ ∃ n, w' = w.drewN n := by
  by_cases hw : 1 ≤ words
  · have d := chas_at h 0 0 (by simp; omega) (by simp; omega)
    have e : (List.replicate words 0).getD 0 0 = 0 := by rw [List.getD_eq_getElem?_getD, List.getElem?_replicate]; split <;> rfl
    rw [e, Nat.zero_testBit] at d
    exact d
  · exact chas_not2 h 0 0 (by simp; omega) (by simp; omega)
theorem sum_new (n : Nat) : sumN (List.replicate n 0) = 0 := by
  induction n with
  | zero => rfl
  | succ n ih => simp [List.replicate_succ, sumN, ih]

set_option maxHeartbeats 1000000 in
theorem walk (a0 : Int) (a1 : Int) (w : World) (w0 : (Lit.int .i64 a0).wf = true) (w1 : (Lit.int .i64 a1).wf = true) :
    Calls Try.prog 5 #[.int .i64 a0, .int .i64 a1] w fun e w' => e = .returned (.bool true) ∧ Below w.heap.size w w' := by
  by_cases hok : 1 ≤ a0 ∧ a0 ≤ 64 ∧ 0 ≤ a1 ∧ a1 ≤ 4096
  · obtain ⟨h1, h2, h3, h4⟩ := hok
    obtain ⟨t, rfl⟩ := Int.eq_ofNat_of_zero_le (show 0 ≤ a0 by omega)
    obtain ⟨n, rfl⟩ := Int.eq_ofNat_of_zero_le h3
    have k1 : ¬ (t : Int) < 1 := by omega
    have k2 : ¬ (64 : Int) < t := by omega
    have k3 : ¬ (n : Int) < 0 := by omega
    have k4 : ¬ (4096 : Int) < n := by omega
    have c1 := cnew_good (w := w) (threads := t) (words := n) (by omega) (by omega) (by omega)
    clear w0 w1
    go_enter Try.func5, Try.ntmps5
    go_wp2_with (first
      | (go_at_call 8; refine c1.mono ?_; rintro e w1 ⟨c, bc, bm, rfl, hC1, q1, q2, q3, hW1⟩)
      | (go_at_call 14; have d := total_any hC1 (by decide); rw [sum_new] at d; with_reducible refine d.mono ?_; rintro e w2 ⟨rfl, rfl⟩)
      | (go_at_call 12; have d := chas_new hC1 (by omega); with_reducible refine d.mono ?_; rintro e w3 ⟨rfl, nd, rfl⟩)
      | (go_at_call 7; refine (awake_any _).mono ?_; rintro e w6 ⟨rfl, hW6⟩))
    go_ret
    exact ⟨rfl, ((hW1.drewN _).nil hW6).law⟩
  · have c1 := cnew_bad (w := w) a0 a1 hok
    have k : a0 < 1 ∨ (¬ a0 < 1 ∧ 64 < a0) ∨ (¬ a0 < 1 ∧ ¬ 64 < a0 ∧ a1 < 0) ∨ (¬ a0 < 1 ∧ ¬ 64 < a0 ∧ ¬ a1 < 0 ∧ 4096 < a1) := by omega
    clear hok w0 w1
    rcases k with k | ⟨k, k'⟩ | ⟨k, k', k''⟩ | ⟨k, k', k'', k3⟩
    all_goals
      go_enter Try.func5, Try.ntmps5
      go_wp2_with (first
        | (go_at_call 8; with_reducible refine c1.mono ?_; rintro e w1 ⟨rfl, rfl⟩)
        | (go_at_call 7; refine (awake_any _).mono ?_; rintro e w6 ⟨rfl, hW6⟩))
      go_ret
      exact ⟨rfl, hW6.law⟩

/-! the row -/
set_option maxRecDepth 100000 in
theorem lifted (os : Os) (started : os.Started) (H : Type) (enc : TypeId × Value → H) :
    ReturnsInHanded {} Try.checked os 5 .any (Rows.cacheNewsSpec.pre6 enc Try.prog Try.f5 Rows.cacheNewsRow.domain false) (Rows.cacheNewsSpec.post enc Try.prog Try.f5 false true false false) := by
  refine returnsInHanded_of_change (C := Try.checked) own started (by kernel_rfl) Try.func5
    (ChangeSpec.witness6 (enc := enc) (C := Try.checked) false ⟨#[], #[.int .i64 0, .int .i64 0], []⟩ 8 (by kernel_rfl) (by kernel_rfl) (by kernel_rfl) (by kernel_rfl)) ?_
  intro W base args ds gs before hval0 hW hcnd _
  have hval : ∀ (j : Nat) t v, Try.f5.params[j]? = some t → args[j]? = some v → Value.okWide Try.prog W .any base t v := hval0
  have hW' := hW
  obtain ⟨p, q, hA0, hV, rfl, hfz, hnd⟩ := hW
  have hA : DataW.TrodAll enc Try.prog W 0 (fun _ => true) true Try.f5.params.toList args.toList ds p := hA0
  rw [Try.params5] at hA hval
  obtain ⟨v0, vs0, d0, ds0, p0, q0, hargs, rfl, rfl, h0, r0'⟩ := trodAll_cons hA
  obtain ⟨v1, vs1, d1, ds1, p1, q1, rfl, rfl, rfl, h1, r1'⟩ := trodAll_cons r0'
  obtain ⟨rfl, rfl, rfl⟩ := trodAll_nil r1'
  obtain rfl : args = #[v0, v1] := by cases args; simp_all
  obtain ⟨rfl, rfl⟩ := trodVars_none hV
  obtain ⟨a0, rfl, rfl, rfl, w0⟩ := open_int Try.underlying3 (hval 0 3 v0 rfl rfl) h0
  obtain ⟨a1, rfl, rfl, rfl, w1⟩ := open_int Try.underlying3 (hval 1 3 v1 rfl rfl) h1
  clear hA0 hval0
  simp only [List.append_nil] at hW'
  refine (walk a0 a1 W w0 w1).mono fun e W' ⟨he, bel⟩ => ?_
  subst he
  exact ⟨_, rfl, _, _, _, [], [], [], hW', trodAll_mk1 (shut_bool Try.underlying4 _), (trodAll_cons_mk (shut_int Try.underlying3 w0) (trodAll_cons_mk (shut_int Try.underlying3 w1) trodAll_mk0)), rfl, bel.frame _, fun h => by cases h⟩

theorem over : Rows.cacheNewsRow.holds Try.pinned (OpenSpec.ofChange Rows.cacheNewsSpec) :=
  OpenClaim.holds_of_wide 5 Try.f5 rfl rfl rfl rfl rfl rfl rfl ⟨rfl, rfl, rfl, rfl, rfl⟩ rfl rfl rfl rfl rfl (by kernel_rfl) Try.func5 (by kernel_rfl)
    (of_decide_eq_true (by kernel_rfl)) (by unfold Func.isWrapper; first | (rw [if_pos (by decide +kernel)]; kernel_rfl) | (rw [if_neg (by decide +kernel)]; exact ⟨rfl, rfl⟩))
    (fun os started H enc _ => lifted os started H enc)

/-- the statement -/
theorem proved : Rows.CacheNewsSaid := over
#print axioms proved
end Go.Proofs.Ytdmehgmlomncaaa.cacheNews
