/- For every input the Go function SlotsOrder of weighlocklaw11 returns true, and its arguments read afterwards as before. Conditions: none. -/
import Derived.Test.YtiddapikahchkaaRows
import Derived.WalkKit
import Derived.ProofKit
import Derived.OpenShut
import Derived.ChangeOld
import Derived.Below
import Derived.Carry
import Derived.BigFrame
import Derived.BigQuiet
import Derived.Test.YtiddapikahchkaaMix
import Derived.Test.YtiddapikahchkaaLockOrd
import Derived.Test.YtiddapikahchkaaSlotsLaw
namespace Go.Proofs.Ytiddapikahchkaa.slotsOrder
open Go.ChangeShapes Go.WideShapes Go.ChangeAt Go.RowKit
set_option linter.unusedVariables false

theorem own : ownKnob Try.prog.godebug = none := by kernel_rfl
theorem laidOut : laidOutB Try.prog = true := by kernel_rfl

/-! the walk -/
set_option maxRecDepth 100000 in
set_option maxHeartbeats 4000000 in
theorem walk (s0_0 : Option Addr) (len0_0 cap0_0 : Nat) (z0_0 : List Int) (a0_1 : Int) (a0_2 : Int) (s0_3 : Option Addr) (len0_3 cap0_3 : Nat) (z0_3 : Nat → Nat → Int) (w : World) (l0_0 : len0_0 ≤ cap0_0 ∧ cap0_0 ≤ maxLen ∧ (s0_0 = none → cap0_0 = 0)) (r0_0 : RowAt .i64 w s0_0 len0_0 z0_0) (w0_0 : ∀ z ∈ z0_0, (Lit.int .i64 z).wf = true) (w0_1 : (Lit.int .u8 a0_1).wf = true) (w0_2 : (Lit.int .u32 a0_2).wf = true) (l0_3 : len0_3 ≤ cap0_3 ∧ cap0_3 ≤ maxLen ∧ (s0_3 = none → cap0_3 = 0)) (r0_3 : Structs w [.i64, .i64, .i64, .i64] s0_3 len0_3 z0_3) :
    Calls Try.prog 6 #[.agg #[.slice s0_0 len0_0 cap0_0, .int .u8 a0_1, .int .u32 a0_2, .slice s0_3 len0_3 cap0_3]] w fun e w' => e = .returned (.bool true) ∧ Below w.heap.size w w' := by
  obtain ⟨u0, u1⟩ := u8_bd w0_1
  obtain ⟨v0, v1⟩ := u32_bd w0_2
  have hm0 : len0_0 ≤ 9223372036854775807 := by have := l0_0.1; have := l0_0.2.1; unfold maxLen at this; omega
  have hm3 : len0_3 ≤ 9223372036854775807 := by have := l0_3.1; have := l0_3.2.1; unfold maxLen at this; omega
  obtain ⟨sz, rfl⟩ := Int.eq_ofNat_of_zero_le u0
  obtain ⟨X, hX⟩ : ∃ X, X = w.alloc (.cells #[.slice s0_0 len0_0 cap0_0, .int .u8 (sz : Int), .int .u32 a0_2, .slice s0_3 len0_3 cap0_3] 26) := ⟨_, rfl⟩
  have hXb : X.heap[w.heap.size]? = some (.cells #[.slice s0_0 len0_0 cap0_0, .int .u8 (sz : Int), .int .u32 a0_2, .slice s0_3 len0_3 cap0_3] 26 (0, 0)) := by rw [hX]; exact Go.Deep.blk_alloc_new w _
  have b0 : X.cell? ⟨w.heap.size, 0, none⟩ = some (.slice s0_0 len0_0 cap0_0) := (blk_cell hXb 0).trans rfl
  have b1 : X.cell? ⟨w.heap.size, 1, none⟩ = some (.int .u8 (sz : Int)) := (blk_cell hXb 1).trans rfl
  have b2 : X.cell? ⟨w.heap.size, 2, none⟩ = some (.int .u32 a0_2) := (blk_cell hXb 2).trans rfl
  have b3 : X.cell? ⟨w.heap.size, 3, none⟩ = some (.slice s0_3 len0_3 cap0_3) := (blk_cell hXb 3).trans rfl
  have hat : OpsAt w s0_3 len0_3 z0_3 := by
    rcases r0_3.at (by decide) with e | ⟨b2, o2, rfl, hc2⟩
    · exact .inl e
    · exact .inr ⟨b2, o2, rfl, fun i hi j hj => (hc2 i hi j .i64 (by match j, hj with | 0, _ => rfl | 1, _ => rfl | 2, _ => rfl | 3, _ => rfl)).1⟩
  have kX : Wrote Nil w X := by rw [hX]; exact (Wrote.refl _ _).alloc _
  have HX := Lib.hid (And.intro hX (And.intro r0_0 hat))
  clear w0_0 w0_1 w0_2 l0_0 l0_3 r0_3 hXb hat
  go_enter Try.func6, Try.ntmps6
  go_wp2
  rw [← HX.out.1]
  clear hX
  go_big_quiet (fail)
  generalize hY : X.drewN _ = Y
  have kY : Wrote Nil w Y := by rw [← hY]; exact kX.drewN _
  have cF := fine_any (cap := cap0_0) (HX.out.2.1.after kY) hm0 s0_3 len0_3 cap0_3 hm3
  have cZ := fun W => size_any (sz : Int) W
  have HY := Lib.hid kY
  clear b0 b1 b2 b3 hY kX kY r0_0 hm3
  cases hf : fineB len0_0 z0_0 len0_3
  · rw [hf] at cF
    clear hf cZ
    go_wp2_with (first
      | (go_at_call 8; (with_reducible refine cF.mono ?_); rintro e w2 ⟨rfl, rfl⟩)
      | (go_at_call 10; (with_reducible refine (fl_awake _).mono ?_); intro e w2 hq; unfold AwakePost at hq; obtain ⟨rfl, hW⟩ := hq))
    go_ret
    exact ⟨rfl, (HY.out.nil hW).law⟩
  rw [hf] at cF
  obtain ⟨n1, n8, ho, hm⟩ := fineB_no hf
  clear hf
  cases hs : sizeB (sz : Int)
  · rw [hs] at cZ
    clear hs
    go_wp2_with (first
      | (go_at_call 8; (with_reducible refine cF.mono ?_); rintro e w2 ⟨rfl, rfl⟩)
      | (go_at_call 9; (with_reducible refine (cZ _).mono ?_); rintro e w2 ⟨rfl, rfl⟩)
      | (go_at_call 10; (with_reducible refine (fl_awake _).mono ?_); intro e w2 hq; unfold AwakePost at hq; obtain ⟨rfl, hW⟩ := hq))
    go_ret
    exact ⟨rfl, (HY.out.nil hW).law⟩
  rw [hs] at cZ
  by_cases hlt : sz < len0_0
  · clear hs
    go_wp2_with (first
      | (go_at_call 8; (with_reducible refine cF.mono ?_); rintro e w2 ⟨rfl, rfl⟩)
      | (go_at_call 9; (with_reducible refine (cZ _).mono ?_); rintro e w2 ⟨rfl, rfl⟩)
      | (go_at_call 10; (with_reducible refine (fl_awake _).mono ?_); intro e w2 hq; unfold AwakePost at hq; obtain ⟨rfl, hW⟩ := hq))
    go_ret
    exact ⟨rfl, (HY.out.nil hW).law⟩
  rcases HX.out.2.1.at with e0 | ⟨b, o, rfl, hc⟩
  · omega
  have hb : b < w.heap.size := World.block_lt_of_cell? w _ (hc 0 (by omega))
  obtain ⟨z, hz⟩ := Int.eq_ofNat_of_zero_le (Int.emod_nonneg a0_2 (show (sz : Int) ≠ 0 by omega))
  have HH := Lib.hid (And.intro ho (And.intro hb (And.intro hs (And.intro hz (And.intro v0 v1)))))
  have cP := fun W => plnew_any (len0_0 : Int) W
  have hle : len0_0 ≤ sz := by omega
  clear hc ho hb hs hz v0 v1
  go_wp2_with (first
      | (go_at_call 8; (with_reducible refine cF.mono ?_); rintro e w2 ⟨rfl, rfl⟩)
      | (go_at_call 9; (with_reducible refine (cZ _).mono ?_); rintro e w2 ⟨rfl, rfl⟩)
      | (go_at_call 11; (with_reducible refine (cP _).mono ?_); rintro e w1 ⟨q, rfl, hP, hnew, hW1⟩; have H1 := Lib.hid (And.intro hP (And.intro (fun k hk => Nat.le_trans HY.out.size (hnew k hk)) (HY.out.nil hW1))); clear hP hnew hW1)
      | (go_at_call 12; (with_reducible refine (fn_new (z := z) H1.out.1 (HX.out.2.1.after H1.out.2.2) HH.out.1 n1 (by omega) HH.out.2.2.1 hle (Nat.zero_le _) (fun e => by have := H1.out.2.1 _ e; have := HH.out.2.1; omega) HH.out.2.2.2.2 HH.out.2.2.2.1).mono ?_); intro e w2 hq; unfold NewSlotsPost at hq; obtain ⟨L0, q2, he, hR, hl, ha1, ha2, hqq, hP2, hW2, hC2⟩ := hq; obtain ⟨lb, hlb0⟩ : ∃ lb, lb = L0.lb := ⟨_, rfl⟩; rw [← hlb0] at he; subst he; have HB := Lib.hid hlb0; clear hlb0; have cQ := fl_port (w0 := w) (zs := z0_0) H1.out.2.2 H1.out.2.1 n1 (by omega) HH.out.1 HH.out.2.2.1 HH.out.2.2.2.2 hR hl ha1 ha2 hqq hP2 hW2 (blk_lt H1.out.1.obj); clear hR hl ha1 ha2 hqq hP2 hW2 hC2)
      | (go_at_call 13; (with_reducible refine cQ.mono ?_); clear cQ; rintro e w3 ⟨L, rfl, ⟨ha1, ha2, hL⟩, hlb, hhs, _, _⟩; rw [← HB.out] at hlb; clear HB; subst hlb; have HA := Lib.hid (And.intro ha1 (And.intro ha2 hhs)); have H2 := Lib.hid hL; clear ha1 ha2 hL hhs)
      | (go_at_call 30; have hI : OrdI (newF len0_0 len0_0 sz z a0_2) [] := ⟨none, a0_2.toNat, a0_2.toNat, ord_new len0_0 sz z a0_2 n8 hle HH.out.2.2.1 HH.out.2.2.2.2 HH.out.2.2.2.1⟩; ((with_reducible refine (ordered_any H2.out hI HA.out.1 HA.out.2.1 rfl HX.out.2.2 hm).mono ?_); intro e w4 hq; unfold AwakePost at hq; obtain ⟨rfl, hW4⟩ := hq; have H4 := Lib.hid hW4; clear hW4))
      | (go_at_call 10; (with_reducible refine (fl_awake _).mono ?_); intro e w5 hq; unfold AwakePost at hq; obtain ⟨rfl, hW5⟩ := hq))
  go_ret
  exact ⟨rfl, (H4.out.nil hW5).law⟩

/-! the row -/
set_option maxRecDepth 100000 in
theorem lifted (os : Os) (started : os.Started) (H : Type) (enc : TypeId × Value → H) :
    ReturnsInHanded {} Try.checked os 6 .any (Rows.slotsOrderSpec.pre6 enc Try.prog Try.f6 Rows.slotsOrderRow.domain false) (Rows.slotsOrderSpec.post enc Try.prog Try.f6 false true false false) := by
  refine returnsInHanded_of_change (C := Try.checked) own started (by kernel_rfl) Try.func6
    (ChangeSpec.witness6 (enc := enc) (C := Try.checked) false ⟨#[], #[.agg #[.slice none 0 0, .int .u8 0, .int .u32 0, .slice none 0 0]], []⟩ 8 (by kernel_rfl) (by kernel_rfl) (by kernel_rfl) (by kernel_rfl)) ?_
  intro W base args ds gs before hval0 hW hcnd _
  have hval : ∀ (j : Nat) t v, Try.f6.params[j]? = some t → args[j]? = some v → Value.okWide Try.prog W .any base t v := hval0
  have hW' := hW
  obtain ⟨p, q, hA0, hV, rfl, hfz, hnd⟩ := hW
  have hA : DataW.TrodAll enc Try.prog W 0 (fun _ => true) true Try.f6.params.toList args.toList ds p := hA0
  rw [Try.params6] at hA hval
  obtain ⟨v0, vs0, d0, ds0, p0, q0, hargs, rfl, rfl, h0, r0'⟩ := trodAll_cons hA
  obtain ⟨rfl, rfl, rfl⟩ := trodAll_nil r0'
  obtain rfl : args = #[v0] := by cases args; simp_all
  obtain ⟨rfl, rfl⟩ := trodVars_none hV
  have k0 := h0
  have lt0 : ∀ x ∈ p0, x.block < W.heap.size := by obtain ⟨m, hm⟩ := k0; exact DataW.trod_lt m _ _ _ hm
  obtain ⟨cs0, rfl, hl0, hf0⟩ := open_struct_fields (m := 4) Try.underlying26 (by kernel_rfl) (by kernel_rfl) (hval 0 26 v0 rfl rfl) h0
  obtain ⟨c0_0, c0_1, c0_2, c0_3, rfl⟩ := list4 hl0
  obtain ⟨n0_0, y0_0, e0_0⟩ := hf0 0 _ _ rfl rfl
  obtain ⟨s0_0, len0_0, cap0_0, rfl, g0_0⟩ := fld_slice Try.underlying22 e0_0
  obtain ⟨l0_0, z0_0, r0_0, w0_0⟩ := open_slice_row Try.underlying22 Try.underlying3 (by kernel_rfl) g0_0
  obtain ⟨n0_1, y0_1, e0_1⟩ := hf0 1 _ _ rfl rfl
  obtain ⟨a0_1, rfl, w0_1⟩ := fld_int Try.underlying5 e0_1
  obtain ⟨n0_2, y0_2, e0_2⟩ := hf0 2 _ _ rfl rfl
  obtain ⟨a0_2, rfl, w0_2⟩ := fld_int Try.underlying23 e0_2
  obtain ⟨n0_3, y0_3, e0_3⟩ := hf0 3 _ _ rfl rfl
  obtain ⟨s0_3, len0_3, cap0_3, rfl, g0_3⟩ := fld_slice Try.underlying24 e0_3
  obtain ⟨l0_3, z0_3, r0_3⟩ := open_slice_ints (ks := [.i64, .i64, .i64, .i64]) Try.underlying24 Try.underlying55 (by kernel_rfl) (by kernel_rfl) g0_3
  clear hA0 hval0
  refine (walk s0_0 len0_0 cap0_0 z0_0 a0_1 a0_2 s0_3 len0_3 cap0_3 z0_3 W l0_0 r0_0 w0_0 w0_1 w0_2 l0_3 r0_3).mono fun e W' ⟨he, bel⟩ => ?_
  subst he
  exact ⟨_, rfl, _, _, _, [], _, [], hW', trodAll_mk1 (shut_bool Try.underlying4 _), (trodAll_cons_mk (Below.trod laidOut (by kernel_rfl) (of_decide_eq_true (by kernel_rfl)) k0 bel lt0) trodAll_mk0), rfl, bel.frame _, fun h => by cases h⟩

theorem over : Rows.slotsOrderRow.holds Try.pinned (OpenSpec.ofChange Rows.slotsOrderSpec) :=
  OpenClaim.holds_of_wide 6 Try.f6 rfl rfl rfl rfl rfl rfl rfl ⟨rfl, rfl, rfl, rfl, rfl⟩ rfl rfl rfl rfl rfl (by kernel_rfl) Try.func6 (by kernel_rfl)
    (of_decide_eq_true (by kernel_rfl)) (by unfold Func.isWrapper; first | (rw [if_pos (by decide +kernel)]; kernel_rfl) | (rw [if_neg (by decide +kernel)]; exact ⟨rfl, rfl⟩))
    (fun os started H enc _ => lifted os started H enc)

/-- the statement -/
theorem proved : Rows.SlotsOrderSaid := over
#print axioms proved
end Go.Proofs.Ytiddapikahchkaa.slotsOrder
