/- For every input the Go function McsOrder of weighlocklaw13 returns true, and its arguments read afterwards as before. Conditions: none. -/
import Derived.Test.YtpaihjlohcakjaaRows
import Derived.WalkKit
import Derived.ProofKit
import Derived.OpenShut
import Derived.ChangeOld
import Derived.Below
import Derived.Carry
import Derived.BigFrame
import Derived.BigQuiet
import Derived.Test.YtpaihjlohcakjaaLockOrd
import Derived.Test.YtpaihjlohcakjaaMcsLaw
namespace Go.Proofs.Ytpaihjlohcakjaa.mcsOrder
open Go.ChangeShapes Go.WideShapes Go.ChangeAt Go.RowKit
set_option linter.unusedVariables false

theorem own : ownKnob Try.prog.godebug = none := by kernel_rfl
theorem laidOut : laidOutB Try.prog = true := by kernel_rfl

/-! the walk -/
set_option maxRecDepth 100000 in
set_option maxHeartbeats 4000000 in
theorem walk (s0 : Option Addr) (len0 cap0 : Nat) (z0 : List Int) (s1 : Option Addr) (len1 cap1 : Nat) (z1 : Nat → Nat → Int) (w : World) (l0 : len0 ≤ cap0 ∧ cap0 ≤ maxLen ∧ (s0 = none → cap0 = 0)) (r0 : RowAt .i64 w s0 len0 z0) (w0 : ∀ z ∈ z0, (Lit.int .i64 z).wf = true) (l1 : len1 ≤ cap1 ∧ cap1 ≤ maxLen ∧ (s1 = none → cap1 = 0)) (r1 : Structs w [.i64, .i64, .i64, .i64] s1 len1 z1) :
    Calls Try.prog 5 #[.slice s0 len0 cap0, .slice s1 len1 cap1] w fun e w' => e = .returned (.bool true) ∧ Below w.heap.size w w' := by
  have hm0 : len0 ≤ 9223372036854775807 := by have := l0.1; have := l0.2.1; unfold maxLen at this; omega
  have hm1 : len1 ≤ 9223372036854775807 := by have := l1.1; have := l1.2.1; unfold maxLen at this; omega
  have hat : OpsAt w s1 len1 z1 := by
    rcases r1.at (by decide) with e | ⟨b2, o2, rfl, hc2⟩
    · exact .inl e
    · exact .inr ⟨b2, o2, rfl, fun i hi j hj => (hc2 i hi j .i64 (by match j, hj with | 0, _ => rfl | 1, _ => rfl | 2, _ => rfl | 3, _ => rfl)).1⟩
  have cF := fine_any (cap := cap0) r0 hm0 s1 len1 cap1 (by omega)
  cases hf : fineB len0 z0 len1
  · rw [hf] at cF
    clear r0 hf w0 l0 l1 r1 hat
    go_enter Try.func5, Try.ntmps5
    go_wp2_with (first
      | (go_at_call 7; with_reducible refine cF.mono ?_; rintro e w2 ⟨rfl, rfl⟩)
      | (go_at_call 8; with_reducible refine (fl_awake _).mono ?_; intro e w2 hq; unfold AwakePost at hq; obtain ⟨rfl, hW⟩ := hq))
    go_ret
    exact ⟨rfl, hW.law⟩
  · rw [hf] at cF
    obtain ⟨n1, n8, ho, hm⟩ := fineB_no hf
    rcases r0.at with e0 | ⟨b, o, rfl, hc⟩
    · omega
    have hb : b < w.heap.size := World.block_lt_of_cell? w _ (hc 0 (by omega))
    have HH := Lib.hid (And.intro r0 (And.intro ho (And.intro hb hat)))
    have cP := fun W => plnew_any (len0 : Int) W
    clear r0 hf w0 l0 l1 r1 hat hc ho hb
    go_enter Try.func5, Try.ntmps5
    go_wp2_with (first
      | (go_at_call 7; with_reducible refine cF.mono ?_; rintro e w2 ⟨rfl, rfl⟩)
      | (go_at_call 9; (with_reducible refine (cP _).mono ?_); rintro e w1 ⟨q, rfl, hP, hnew, hW1⟩; have H1 := Lib.hid (And.intro hP (And.intro hnew hW1)); clear hP hnew hW1)
      | (go_at_call 10; (with_reducible refine (fn_new H1.out.1 (HH.out.1.after H1.out.2.2) HH.out.2.1 n1 (by omega) (Nat.zero_le _) (fun e => by have := H1.out.2.1 _ e; have := HH.out.2.2.1; omega)).mono ?_); intro e w2 hq; unfold NewMcsPost at hq; obtain ⟨L0, q2, he, hR, hl, ha1, ha2, hqq, hP2, hW2, hC2⟩ := hq; obtain ⟨lb, hlb0⟩ : ∃ lb, lb = L0.lb := ⟨_, rfl⟩; rw [← hlb0] at he; subst he; have HB := Lib.hid hlb0; clear hlb0; have cQ := fl_port (w0 := w) (zs := z0) H1.out.2.2 H1.out.2.1 n1 (by omega) HH.out.2.1 HH.out.1.len hR hl ha1 ha2 hqq hP2 hW2 (blk_lt H1.out.1.obj); clear hR hl ha1 ha2 hqq hP2 hW2 hC2)
      | (go_at_call 11; (with_reducible refine cQ.mono ?_); clear cQ; rintro e w3 ⟨L, rfl, ⟨ha1, ha2, hL⟩, hlb, hhs, _, _⟩; rw [← HB.out] at hlb; clear HB; subst hlb; have HA := Lib.hid (And.intro ha1 (And.intro ha2 hhs)); have H2 := Lib.hid hL; clear ha1 ha2 hL hhs)
      | (go_at_call 21; have hI : OrdI (newF len0 len0) [] := ⟨none, ord_new len0 n8⟩; ((with_reducible refine (ordered_any H2.out hI HA.out.1 HA.out.2.1 rfl HH.out.2.2.2 hm).mono ?_); intro e w4 hq; unfold AwakePost at hq; obtain ⟨rfl, hW4⟩ := hq; have H4 := Lib.hid hW4; clear hW4))
      | (go_at_call 8; with_reducible refine (fl_awake _).mono ?_; intro e w5 hq; unfold AwakePost at hq; obtain ⟨rfl, hW5⟩ := hq))
    go_ret
    exact ⟨rfl, (H4.out.nil hW5).law⟩

/-! the row -/
set_option maxRecDepth 100000 in
theorem lifted (os : Os) (started : os.Started) (H : Type) (enc : TypeId × Value → H) :
    ReturnsInHanded {} Try.checked os 5 .any (Rows.mcsOrderSpec.pre6 enc Try.prog Try.f5 Rows.mcsOrderRow.domain false) (Rows.mcsOrderSpec.post enc Try.prog Try.f5 false true false false) := by
  refine returnsInHanded_of_change (C := Try.checked) own started (by kernel_rfl) Try.func5
    (ChangeSpec.witness6 (enc := enc) (C := Try.checked) false ⟨#[], #[.slice none 0 0, .slice none 0 0], []⟩ 8 (by kernel_rfl) (by kernel_rfl) (by kernel_rfl) (by kernel_rfl)) ?_
  intro W base args ds gs before hval0 hW hcnd _
  have hval : ∀ (j : Nat) t v, Try.f5.params[j]? = some t → args[j]? = some v → Value.okWide Try.prog W .any base t v := hval0
  have hW' := hW
  obtain ⟨p, q, hA0, hV, rfl, hfz, hnd⟩ := hW
  have hA : DataW.TrodAll enc Try.prog W 0 (fun _ => true) true Try.f5.params.toList args.toList ds p := hA0
  rw [Try.params5] at hA hval
  obtain ⟨v0, vs0, d0, ds0, p0, q0, hargs, rfl, rfl, h0, r0'⟩ := trodAll_cons hA
  obtain ⟨v1, vs1, d1, ds1, p1, q1, rfl, rfl, rfl, h1, r1'⟩ := trodAll_cons r0'
  obtain ⟨rfl, rfl, rfl⟩ := trodAll_nil r1'
  obtain rfl : args = #[v0, v1] := by cases args; simp_all
  obtain ⟨rfl, rfl⟩ := trodVars_none hV
  have k0 := h0
  have lt0 : ∀ x ∈ p0, x.block < W.heap.size := by obtain ⟨m, hm⟩ := k0; exact DataW.trod_lt m _ _ _ hm
  obtain ⟨s0, len0, cap0, rfl⟩ := okWide_slice Try.underlying22 (hval 0 22 v0 rfl rfl)
  obtain ⟨l0, z0, r0, w0⟩ := open_slice_row Try.underlying22 Try.underlying3 (by kernel_rfl) h0
  have k1 := h1
  have lt1 : ∀ x ∈ p1, x.block < W.heap.size := by obtain ⟨m, hm⟩ := k1; exact DataW.trod_lt m _ _ _ hm
  obtain ⟨s1, len1, cap1, rfl⟩ := okWide_slice Try.underlying23 (hval 1 23 v1 rfl rfl)
  obtain ⟨l1, z1, r1⟩ := open_slice_ints (ks := [.i64, .i64, .i64, .i64]) Try.underlying23 Try.underlying79 (by kernel_rfl) (by kernel_rfl) h1
  clear hA0 hval0
  refine (walk s0 len0 cap0 z0 s1 len1 cap1 z1 W l0 r0 w0 l1 r1).mono fun e W' ⟨he, bel⟩ => ?_
  subst he
  exact ⟨_, rfl, _, _, _, [], _, [], hW', trodAll_mk1 (shut_bool Try.underlying4 _), (trodAll_cons_mk (Below.trod laidOut (by kernel_rfl) (of_decide_eq_true (by kernel_rfl)) k0 bel lt0) (trodAll_cons_mk (Below.trod laidOut (by kernel_rfl) (of_decide_eq_true (by kernel_rfl)) k1 bel lt1) trodAll_mk0)), rfl, bel.frame _, fun h => by cases h⟩

theorem over : Rows.mcsOrderRow.holds Try.pinned (OpenSpec.ofChange Rows.mcsOrderSpec) :=
  OpenClaim.holds_of_wide 5 Try.f5 rfl rfl rfl rfl rfl rfl rfl ⟨rfl, rfl, rfl, rfl, rfl⟩ rfl rfl rfl rfl rfl (by kernel_rfl) Try.func5 (by kernel_rfl)
    (of_decide_eq_true (by kernel_rfl)) (by unfold Func.isWrapper; first | (rw [if_pos (by decide +kernel)]; kernel_rfl) | (rw [if_neg (by decide +kernel)]; exact ⟨rfl, rfl⟩))
    (fun os started H enc _ => lifted os started H enc)

/-- the statement -/
theorem proved : Rows.McsOrderSaid := over
#print axioms proved
end Go.Proofs.Ytpaihjlohcakjaa.mcsOrder
