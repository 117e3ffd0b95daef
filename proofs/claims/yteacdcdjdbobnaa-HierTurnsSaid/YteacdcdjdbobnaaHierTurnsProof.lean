/- For every input the Go function HierTurns of weighlocklaw15 returns true, and its arguments read afterwards as before. Conditions: none. -/
import Derived.Test.YteacdcdjdbobnaaRows
import Derived.WalkKit
import Derived.ProofKit
import Derived.OpenShut
import Derived.ChangeOld
import Derived.Below
import Derived.Carry
import Derived.BigFrame
import Derived.BigQuiet
import Derived.Test.YteacdcdjdbobnaaLockServed
import Derived.Test.YteacdcdjdbobnaaHierLaw
namespace Go.Proofs.Yteacdcdjdbobnaa.hierTurns
open Go.ChangeShapes Go.WideShapes Go.ChangeAt Go.RowKit
set_option linter.unusedVariables false

theorem own : ownKnob Try.prog.godebug = none := by kernel_rfl
theorem laidOut : laidOutB Try.prog = true := by kernel_rfl

/-! the walk -/
set_option maxRecDepth 100000 in
set_option maxHeartbeats 4000000 in
theorem walk (s0 : Option Addr) (len0 cap0 : Nat) (z0 : List Int) (a1 : Int) (w : World) (l0 : len0 ≤ cap0 ∧ cap0 ≤ maxLen ∧ (s0 = none → cap0 = 0)) (r0 : RowAt .i64 w s0 len0 z0) (w0 : ∀ z ∈ z0, (Lit.int .i64 z).wf = true) (w1 : (Lit.int .u8 a1).wf = true) :
    Calls Try.prog 5 #[.slice s0 len0 cap0, .int .u8 a1] w fun e w' => e = .returned (.bool true) ∧ Below w.heap.size w w' := by
  have hm0 : len0 ≤ 9223372036854775807 := by have := l0.1; have := l0.2.1; unfold maxLen at this; omega
  obtain ⟨b0, b1⟩ := u8_bd w1
  obtain ⟨c, hcc⟩ : ∃ c : Nat, a1 % 21 = (c : Int) := ⟨(a1 % 21).toNat, by omega⟩
  have hct : a1.tmod 21 = (c : Int) := by rw [Int.tmod_eq_emod_of_nonneg b0]; exact hcc
  have HC := Lib.hid (show c ≤ 20 by omega)
  have cF := fine_any (cap := cap0) r0 hm0 none 0 0 (by omega)
  cases hf : fineB len0 z0 0
  · rw [hf] at cF
    clear r0 hf w0 l0 w1
    go_enter Try.func5, Try.ntmps5
    go_wp2_with (first
      | (go_at_call 7; with_reducible refine cF.mono ?_; rintro e w2 ⟨rfl, rfl⟩)
      | (go_at_call 8; with_reducible refine (fl_awake _).mono ?_; intro e w2 hq; unfold AwakePost at hq; obtain ⟨rfl, hW⟩ := hq))
    go_ret
    exact ⟨rfl, hW.law⟩
  · rw [hf] at cF
    obtain ⟨n1, n8, ho, hm⟩ := fineB_no hf
    rcases r0.at with e0 | ⟨b, o, rfl, hc⟩
    · omega
    have hb : b < w.heap.size := World.block_lt_of_cell? w _ (hc 0 (by omega))
    have HH := Lib.hid (And.intro r0 (And.intro ho (And.intro hb True.intro)))
    have hM := fun (W : World) (k : Wrote Nil w W) => fl_made (cap := cap0) (r0.after k) (Nat.lt_of_lt_of_le hb k.size) ho n1 (by omega)
    have HM := Lib.hid hM
    clear r0 hf w0 l0 w1 hc ho hb hM
    go_enter Try.func5, Try.ntmps5
    go_wp2_with (first
      | (go_at_call 7; with_reducible refine cF.mono ?_; rintro e w2 ⟨rfl, rfl⟩)
      | (go_at_call 9; (with_reducible refine (HM.out _ (Wrote.refl Nil w)).mono ?_); intro e w1 hq; unfold MdPost at hq; obtain ⟨L, rfl, hL, h1, h2, _⟩ := hq; have HA := Lib.hid (And.intro h1 h2); have H2 := Lib.hid hL; clear hL h1 h2)
      | (go_at_call 21; have hI : OrdI (newF z0 len0 len0) [] := ⟨none, [], fun _ => [], ord_new z0 len0 n8 HH.out.2.1, rfl⟩; have hV := served_any H2.out hI HA.out.1 HA.out.2 rfl (fun _ => rfl) n1 c HC.out; (with_reducible refine hV.mono ?_); intro e w4 hq; unfold AwakePost at hq; obtain ⟨rfl, hW4⟩ := hq; have H4 := Lib.hid hW4; clear hW4 hV)
      | (go_at_call 8; with_reducible refine (fl_awake _).mono ?_; intro e w5 hq; unfold AwakePost at hq; obtain ⟨rfl, hW5⟩ := hq))
    go_ret
    exact ⟨rfl, (H4.out.nil hW5).law⟩

/-! the row -/
set_option maxRecDepth 100000 in
theorem lifted (os : Os) (started : os.Started) (H : Type) (enc : TypeId × Value → H) :
    ReturnsInHanded {} Try.checked os 5 .any (Rows.hierTurnsSpec.pre6 enc Try.prog Try.f5 Rows.hierTurnsRow.domain false) (Rows.hierTurnsSpec.post enc Try.prog Try.f5 false true false false) := by
  refine returnsInHanded_of_change (C := Try.checked) own started (by kernel_rfl) Try.func5
    (ChangeSpec.witness6 (enc := enc) (C := Try.checked) false ⟨#[], #[.slice none 0 0, .int .u8 0], []⟩ 8 (by kernel_rfl) (by kernel_rfl) (by kernel_rfl) (by kernel_rfl)) ?_
  intro W base args ds gs before hval0 hW hcnd _
  have hval : ∀ (j : Nat) t v, Try.f5.params[j]? = some t → args[j]? = some v → Value.okWide Try.prog W .any base t v := hval0
  have hW' := hW
  obtain ⟨p, q, hA0, hV, rfl, hfz, hnd⟩ := hW
  have hA : DataW.TrodAll enc Try.prog W 0 (fun _ => true) true Try.f5.params.toList args.toList ds p := hA0
  rw [Try.params5] at hA hval
  obtain ⟨v0, vs0, d0, ds0, p0, q0, hargs, rfl, rfl, h0, r0'⟩ := trodAll_cons hA
  obtain ⟨v1, vs1, d1, ds1, p1, q1, rfl, rfl, rfl, h1, r1'⟩ := trodAll_cons r0'
  obtain ⟨rfl, rfl, rfl⟩ := trodAll_nil r1'
  obtain rfl : args = #[v0, v1] := by cases args; simp_all
  obtain ⟨rfl, rfl⟩ := trodVars_none hV
  have k0 := h0
  have lt0 : ∀ x ∈ p0, x.block < W.heap.size := by obtain ⟨m, hm⟩ := k0; exact DataW.trod_lt m _ _ _ hm
  obtain ⟨s0, len0, cap0, rfl⟩ := okWide_slice Try.underlying22 (hval 0 22 v0 rfl rfl)
  obtain ⟨l0, z0, r0, w0⟩ := open_slice_row Try.underlying22 Try.underlying3 (by kernel_rfl) h0
  obtain ⟨a1, rfl, rfl, rfl, w1⟩ := open_int Try.underlying5 (hval 1 5 v1 rfl rfl) h1
  clear hA0 hval0
  refine (walk s0 len0 cap0 z0 a1 W l0 r0 w0 w1).mono fun e W' ⟨he, bel⟩ => ?_
  subst he
  exact ⟨_, rfl, _, _, _, [], _, [], hW', trodAll_mk1 (shut_bool Try.underlying4 _), (trodAll_cons_mk (Below.trod laidOut (by kernel_rfl) (of_decide_eq_true (by kernel_rfl)) k0 bel lt0) (trodAll_cons_mk (shut_int Try.underlying5 w1) trodAll_mk0)), rfl, bel.frame _, fun h => by cases h⟩

theorem over : Rows.hierTurnsRow.holds Try.pinned (OpenSpec.ofChange Rows.hierTurnsSpec) :=
  OpenClaim.holds_of_wide 5 Try.f5 rfl rfl rfl rfl rfl rfl rfl ⟨rfl, rfl, rfl, rfl, rfl⟩ rfl rfl rfl rfl rfl (by kernel_rfl) Try.func5 (by kernel_rfl)
    (of_decide_eq_true (by kernel_rfl)) (by unfold Func.isWrapper; first | (rw [if_pos (by decide +kernel)]; kernel_rfl) | (rw [if_neg (by decide +kernel)]; exact ⟨rfl, rfl⟩))
    (fun os started H enc _ => lifted os started H enc)

/-- the statement -/
theorem proved : Rows.HierTurnsSaid := over
#print axioms proved
end Go.Proofs.Yteacdcdjdbobnaa.hierTurns
