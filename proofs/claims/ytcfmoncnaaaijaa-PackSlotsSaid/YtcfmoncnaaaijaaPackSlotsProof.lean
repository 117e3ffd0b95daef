/- For every uint32 and every int the Go function PackSlots of weighlocklaw01 returns true, and its arguments read afterwards as before. Conditions: none. -/
import Derived.Test.YtcfmoncnaaaijaaRows
import Derived.WalkKit
import Derived.ProofKit
import Derived.OpenShut
import Derived.Test.YtcfmoncnaaaijaaPack
namespace Go.Proofs.Ytcfmoncnaaaijaa.packSlots
open Go.ChangeShapes Go.WideShapes Go.ChangeAt Go.RowKit
set_option linter.unusedVariables false

theorem own : ownKnob Try.prog.godebug = none := by kernel_rfl

/-! the walk -/
theorem walk (a0 : Int) (a1 : Int) (w0 : (Lit.int .u32 a0).wf = true) (w1 : (Lit.int .i64 a1).wf = true) (w : World) :
    Calls Try.prog 5 #[.int .u32 a0, .int .i64 a1] w fun e w' => e = .returned (.bool true) ∧ Grown w w' := by
  obtain ⟨l0, l1⟩ := u32_bd w0
  by_cases hs : sizeB a1 = true
  · have hc : a1 = 1 ∨ a1 = 2 ∨ a1 = 4 ∨ a1 = 8 ∨ a1 = 16 ∨ a1 = 32 ∨ a1 = 64 := by unfold sizeB at hs; simpa using hs
    clear hs w1
    have hs : sizeB 1 = true := by decide
    have hs2 : sizeB 2 = true := by decide
    have hs3 : sizeB 4 = true := by decide
    have hs4 : sizeB 8 = true := by decide
    have hs5 : sizeB 16 = true := by decide
    have hs6 : sizeB 32 = true := by decide
    have hs7 : sizeB 64 = true := by decide
    rcases hc with rfl | rfl | rfl | rfl | rfl | rfl | rfl
    all_goals
      go_enter Try.func5, Try.ntmps5
      go_wp2_with (first
      | (go_at_call 9; refine (pack_any _ _ _ _).mono ?_; rintro e w' ⟨rfl, rfl⟩)
      | (go_at_call 10; refine (word_any _ _ _ (by first | decide | exact one_lo _ | omega) (by first | decide | exact one_hi _ | omega) (by first | decide | exact one_lo _ | omega) (by first | decide | exact one_hi _ | omega) _).mono ?_; rintro e w' ⟨rfl, rfl⟩)
      | (go_at_call 11; refine (one_any _ _).mono ?_; rintro e w' ⟨rfl, rfl⟩)
      | (go_at_call 12; refine (parts_any _ (by first | with_reducible assumption | exact word_lo _ _ _ | exact free_lo _ l0 | exact splice_lo _ l0 | omega) (by first | with_reducible assumption | exact word_hi _ _ _ | exact free_hi _ l1 | exact splice_hi _ l1 | omega) _).mono ?_; rintro e w' ⟨rfl, rfl⟩)
      | (go_at_call 13; refine (cluster_any _ (by first | with_reducible assumption | exact word_lo _ _ _ | exact free_lo _ l0 | exact splice_lo _ l0 | omega) (by first | with_reducible assumption | exact word_hi _ _ _ | exact free_hi _ l1 | exact splice_hi _ l1 | omega) _).mono ?_; rintro e w' ⟨rfl, rfl⟩)
      | (go_at_call 14; refine (waits_any _ (by first | with_reducible assumption | exact word_lo _ _ _ | exact free_lo _ l0 | exact splice_lo _ l0 | omega) (by first | with_reducible assumption | exact word_hi _ _ _ | exact free_hi _ l1 | exact splice_hi _ l1 | omega) _).mono ?_; rintro e w' ⟨rfl, rfl⟩)
      | (go_at_call 15; refine (spliced_any _ (by first | with_reducible assumption | exact word_lo _ _ _ | exact free_lo _ l0 | exact splice_lo _ l0 | omega) (by first | with_reducible assumption | exact word_hi _ _ _ | exact free_hi _ l1 | exact splice_hi _ l1 | omega) _).mono ?_; rintro e w' ⟨rfl, rfl⟩)
      | (go_at_call 16; refine (awake_any _).mono ?_; rintro e w' ⟨rfl, rfl⟩)
      | (go_at_call 17; refine (free_any _ (by first | with_reducible assumption | exact word_lo _ _ _ | exact free_lo _ l0 | exact splice_lo _ l0 | omega) (by first | with_reducible assumption | exact word_hi _ _ _ | exact free_hi _ l1 | exact splice_hi _ l1 | omega) _).mono ?_; rintro e w' ⟨rfl, rfl⟩)
      | (go_at_call 18; refine (splice_any _ (by first | with_reducible assumption | exact word_lo _ _ _ | exact free_lo _ l0 | exact splice_lo _ l0 | omega) (by first | with_reducible assumption | exact word_hi _ _ _ | exact free_hi _ l1 | exact splice_hi _ l1 | omega) _).mono ?_; rintro e w' ⟨rfl, rfl⟩)
      | (go_at_call 19; refine (slot_yes _ _ (by first | with_reducible assumption | exact word_lo _ _ _ | exact free_lo _ l0 | exact splice_lo _ l0 | omega) (by first | with_reducible assumption | exact word_hi _ _ _ | exact free_hi _ l1 | exact splice_hi _ l1 | omega) (by decide) _).mono ?_; rintro e w' ⟨rfl, rfl⟩)
      | (go_at_call 19; refine (slot_no _ _ (by first | with_reducible assumption | exact word_lo _ _ _ | exact free_lo _ l0 | exact splice_lo _ l0 | omega) (by first | with_reducible assumption | exact word_hi _ _ _ | exact free_hi _ l1 | exact splice_hi _ l1 | omega) (by assumption) _).mono ?_; rintro e w' ⟨rfl, rfl⟩)
      | (go_at_call 20; refine (size_any _ _).mono ?_; rintro e w' ⟨rfl, rfl⟩)
      | (go_at_call 22; refine (apart_any _ _ (by first | with_reducible assumption | exact word_lo _ _ _ | exact free_lo _ l0 | exact splice_lo _ l0 | omega) (by first | with_reducible assumption | exact word_hi _ _ _ | exact free_hi _ l1 | exact splice_hi _ l1 | omega) (by first | with_reducible assumption | exact word_lo _ _ _ | exact free_lo _ l0 | exact splice_lo _ l0 | omega) (by first | with_reducible assumption | exact word_hi _ _ _ | exact free_hi _ l1 | exact splice_hi _ l1 | omega) _).mono ?_; rintro e w' ⟨rfl, rfl⟩))
      go_quiet ((first | (go_at_call 19; exact Calls.quiet_of_same (slot_quiet _ _ (by omega) (by omega) (by decide) _)) | (go_at_call 16; exact Calls.quiet_of_same (awake_quiet _))))
      go_wp2
      go_ret
      exact ⟨rfl, (Grown.refl w : Grown w w)⟩
  · have hs : sizeB a1 = false := by simpa using hs
    go_enter Try.func5, Try.ntmps5
    go_wp2_with (first
      | (go_at_call 9; refine (pack_any _ _ _ _).mono ?_; rintro e w' ⟨rfl, rfl⟩)
      | (go_at_call 10; refine (word_any _ _ _ (by first | decide | exact one_lo _ | omega) (by first | decide | exact one_hi _ | omega) (by first | decide | exact one_lo _ | omega) (by first | decide | exact one_hi _ | omega) _).mono ?_; rintro e w' ⟨rfl, rfl⟩)
      | (go_at_call 11; refine (one_any _ _).mono ?_; rintro e w' ⟨rfl, rfl⟩)
      | (go_at_call 12; refine (parts_any _ (by first | with_reducible assumption | exact word_lo _ _ _ | exact free_lo _ l0 | exact splice_lo _ l0 | omega) (by first | with_reducible assumption | exact word_hi _ _ _ | exact free_hi _ l1 | exact splice_hi _ l1 | omega) _).mono ?_; rintro e w' ⟨rfl, rfl⟩)
      | (go_at_call 13; refine (cluster_any _ (by first | with_reducible assumption | exact word_lo _ _ _ | exact free_lo _ l0 | exact splice_lo _ l0 | omega) (by first | with_reducible assumption | exact word_hi _ _ _ | exact free_hi _ l1 | exact splice_hi _ l1 | omega) _).mono ?_; rintro e w' ⟨rfl, rfl⟩)
      | (go_at_call 14; refine (waits_any _ (by first | with_reducible assumption | exact word_lo _ _ _ | exact free_lo _ l0 | exact splice_lo _ l0 | omega) (by first | with_reducible assumption | exact word_hi _ _ _ | exact free_hi _ l1 | exact splice_hi _ l1 | omega) _).mono ?_; rintro e w' ⟨rfl, rfl⟩)
      | (go_at_call 15; refine (spliced_any _ (by first | with_reducible assumption | exact word_lo _ _ _ | exact free_lo _ l0 | exact splice_lo _ l0 | omega) (by first | with_reducible assumption | exact word_hi _ _ _ | exact free_hi _ l1 | exact splice_hi _ l1 | omega) _).mono ?_; rintro e w' ⟨rfl, rfl⟩)
      | (go_at_call 16; refine (awake_any _).mono ?_; rintro e w' ⟨rfl, rfl⟩)
      | (go_at_call 17; refine (free_any _ (by first | with_reducible assumption | exact word_lo _ _ _ | exact free_lo _ l0 | exact splice_lo _ l0 | omega) (by first | with_reducible assumption | exact word_hi _ _ _ | exact free_hi _ l1 | exact splice_hi _ l1 | omega) _).mono ?_; rintro e w' ⟨rfl, rfl⟩)
      | (go_at_call 18; refine (splice_any _ (by first | with_reducible assumption | exact word_lo _ _ _ | exact free_lo _ l0 | exact splice_lo _ l0 | omega) (by first | with_reducible assumption | exact word_hi _ _ _ | exact free_hi _ l1 | exact splice_hi _ l1 | omega) _).mono ?_; rintro e w' ⟨rfl, rfl⟩)
      | (go_at_call 19; refine (slot_yes _ _ (by first | with_reducible assumption | exact word_lo _ _ _ | exact free_lo _ l0 | exact splice_lo _ l0 | omega) (by first | with_reducible assumption | exact word_hi _ _ _ | exact free_hi _ l1 | exact splice_hi _ l1 | omega) (by decide) _).mono ?_; rintro e w' ⟨rfl, rfl⟩)
      | (go_at_call 19; refine (slot_no _ _ (by first | with_reducible assumption | exact word_lo _ _ _ | exact free_lo _ l0 | exact splice_lo _ l0 | omega) (by first | with_reducible assumption | exact word_hi _ _ _ | exact free_hi _ l1 | exact splice_hi _ l1 | omega) (by assumption) _).mono ?_; rintro e w' ⟨rfl, rfl⟩)
      | (go_at_call 20; refine (size_any _ _).mono ?_; rintro e w' ⟨rfl, rfl⟩)
      | (go_at_call 22; refine (apart_any _ _ (by first | with_reducible assumption | exact word_lo _ _ _ | exact free_lo _ l0 | exact splice_lo _ l0 | omega) (by first | with_reducible assumption | exact word_hi _ _ _ | exact free_hi _ l1 | exact splice_hi _ l1 | omega) (by first | with_reducible assumption | exact word_lo _ _ _ | exact free_lo _ l0 | exact splice_lo _ l0 | omega) (by first | with_reducible assumption | exact word_hi _ _ _ | exact free_hi _ l1 | exact splice_hi _ l1 | omega) _).mono ?_; rintro e w' ⟨rfl, rfl⟩))
    go_ret
    exact ⟨rfl, by repeat (first | exact Grown.refl _ | apply Grown.drew | apply Grown.alloc)⟩

/-! the row -/
set_option maxRecDepth 100000 in
theorem lifted (os : Os) (started : os.Started) (H : Type) (enc : TypeId × Value → H) :
    ReturnsInHanded {} Try.checked os 5 .any (Rows.packSlotsSpec.pre6 enc Try.prog Try.f5 Rows.packSlotsRow.domain false) (Rows.packSlotsSpec.post enc Try.prog Try.f5 false true false false) := by
  refine returnsInHanded_of_change (C := Try.checked) own started (by kernel_rfl) Try.func5
    (ChangeSpec.witness6 (enc := enc) (C := Try.checked) false ⟨#[], #[.int .u32 0, .int .i64 0], []⟩ 8 (by kernel_rfl) (by kernel_rfl) (by kernel_rfl) (by kernel_rfl)) ?_
  intro W base args ds gs before hval0 hW hcnd _
  have hval : ∀ (j : Nat) t v, Try.f5.params[j]? = some t → args[j]? = some v → Value.okWide Try.prog W .any base t v := hval0
  have hW' := hW
  obtain ⟨p, q, hA0, hV, rfl, hfz, hnd⟩ := hW
  have hA : DataW.TrodAll enc Try.prog W 0 (fun _ => true) true Try.f5.params.toList args.toList ds p := hA0
  rw [Try.params5] at hA hval
  obtain ⟨v0, vs0, d0, ds0, p0, q0, hargs, rfl, rfl, h0, r0⟩ := trodAll_cons hA
  obtain ⟨v1, vs1, d1, ds1, p1, q1, rfl, rfl, rfl, h1, r1⟩ := trodAll_cons r0
  obtain ⟨rfl, rfl, rfl⟩ := trodAll_nil r1
  obtain rfl : args = #[v0, v1] := by cases args; simp_all
  obtain ⟨rfl, rfl⟩ := trodVars_none hV
  obtain ⟨a0, rfl, rfl, rfl, w0⟩ := open_int Try.underlying22 (hval 0 22 v0 rfl rfl) h0
  obtain ⟨a1, rfl, rfl, rfl, w1⟩ := open_int Try.underlying3 (hval 1 3 v1 rfl rfl) h1
  clear hA0 hval0
  simp only [List.append_nil] at hW'
  refine (walk a0 a1 w0 w1 W).mono fun e W' ⟨he, hg⟩ => ?_
  subst he
  exact ⟨_, rfl, post_of_same (pa := []) (pv := []) hW' (fun _ _ _ => (trodAll_cons_mk (shut_bool Try.underlying4 _) trodAll_mk0)) (fun sp _ => (trodAll_cons_mk (shut_int Try.underlying22 w0) (trodAll_cons_mk (shut_int Try.underlying3 w1) trodAll_mk0))) (fun _ _ => rfl) rfl
    (hg.frame _) hg.2.1 (ok_one (by kernel_rfl) rfl (okWide_bool_mk Try.underlying4 _))⟩

theorem over : Rows.packSlotsRow.holds Try.pinned (OpenSpec.ofChange Rows.packSlotsSpec) :=
  OpenClaim.holds_of_wide 5 Try.f5 rfl rfl rfl rfl rfl rfl rfl ⟨rfl, rfl, rfl, rfl, rfl⟩ rfl rfl rfl rfl rfl (by kernel_rfl) Try.func5 (by kernel_rfl)
    (of_decide_eq_true (by kernel_rfl)) (by unfold Func.isWrapper; first | (rw [if_pos (by decide +kernel)]; kernel_rfl) | (rw [if_neg (by decide +kernel)]; exact ⟨rfl, rfl⟩))
    (fun os started H enc _ => lifted os started H enc)

/-- the statement -/
theorem proved : Rows.PackSlotsSaid :=
  over
#print axioms proved
end Go.Proofs.Ytcfmoncnaaaijaa.packSlots
