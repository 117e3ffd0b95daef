/- For every input the Go function CohortTurns of weighlocklaw16 returns true, and its arguments read afterwards as before. Conditions: none. -/
import Derived.Test.YtkmikkjjnbikdaaGreatCohRight
import Derived.Test.YtkmikkjjnbikdaaGreatRows
import Derived.WalkKit
import Derived.ProofKit
import Derived.OpenShut
import Derived.ChangeOld
import Derived.Below
import Derived.Carry
import Derived.Test.YtkmikkjjnbikdaaGreatCohortLaw
import Derived.Test.YtkmikkjjnbikdaaGreatCohortRow
import Derived.Test.YtkmikkjjnbikdaaGreatLockServed
namespace Go.Proofs.YtkmikkjjnbikdaaGreat
open Go.RowKit Go.BigFrame
set_option linter.unusedVariables false
set_option maxRecDepth 100000
set_option maxHeartbeats 4000000

theorem right_of {G K B : Int} {a b c d : Bool} (ha : decide (G ∈ [(1 : Int), 4]) = a) (hb : decide (K ∈ [(1 : Int), 3, 4]) = b) (hc : decide (1 ≤ B) = c) (hd : decide (B ≤ 1000) = d) : rightB G K B = (a && b && c && d) := by unfold rightB; rw [ha, hb, hc, hd]
theorem fl_may (G K B : Int) (w : World) : Calls Tryz.prog 9 #[.agg #[.int .i64 G, .int .i64 K, .int .i64 B]] w fun e w' => e = .returned (.bool (rightB G K B)) ∧ Wrote Nil w w' := by
  obtain ⟨X, hX⟩ : ∃ X, X = w.alloc (.cells #[.int .i64 G, .int .i64 K, .int .i64 B] 24) := ⟨_, rfl⟩
  have hW : Wrote Nil w X := by rw [hX]; exact (Wrote.refl _ w).alloc _
  have HW := Lib.hid hW
  rw [hX] at HW
  clear hW hX X
  obtain ⟨r, hr⟩ : ∃ r, r = rightB G K B := ⟨_, rfl⟩
  rw [← hr]
  by_cases g1 : G = 1
  · subst g1
    by_cases k1 : K = 1
    · subst k1
      rw [right_of (a := true) (b := true) (by decide) (by decide) rfl rfl] at hr
      by_cases b1 : 1 ≤ B
      · rw [decide_eq_true b1] at hr
        have HR := Lib.hid hr
        clear hr
        go_enter Tryz.func9, Tryz.ntmps9
        go_wp2
        go_ret
        exact ⟨by rw [HR.out]; rfl, HW.out⟩
      · rw [decide_eq_false b1] at hr
        have HR := Lib.hid hr
        clear hr
        go_enter Tryz.func9, Tryz.ntmps9
        go_wp2
        go_ret
        exact ⟨by rw [HR.out]; rfl, HW.out⟩
    by_cases k3 : K = 3
    · subst k3
      rw [right_of (a := true) (b := true) (by decide) (by decide) rfl rfl] at hr
      by_cases b1 : 1 ≤ B
      · rw [decide_eq_true b1] at hr
        have HR := Lib.hid hr
        clear hr
        go_enter Tryz.func9, Tryz.ntmps9
        go_wp2
        go_ret
        exact ⟨by rw [HR.out]; rfl, HW.out⟩
      · rw [decide_eq_false b1] at hr
        have HR := Lib.hid hr
        clear hr
        go_enter Tryz.func9, Tryz.ntmps9
        go_wp2
        go_ret
        exact ⟨by rw [HR.out]; rfl, HW.out⟩
    by_cases k4 : K = 4
    · subst k4
      rw [right_of (a := true) (b := true) (by decide) (by decide) rfl rfl] at hr
      by_cases b1 : 1 ≤ B
      · rw [decide_eq_true b1] at hr
        have HR := Lib.hid hr
        clear hr
        go_enter Tryz.func9, Tryz.ntmps9
        go_wp2
        go_ret
        exact ⟨by rw [HR.out]; rfl, HW.out⟩
      · rw [decide_eq_false b1] at hr
        have HR := Lib.hid hr
        clear hr
        go_enter Tryz.func9, Tryz.ntmps9
        go_wp2
        go_ret
        exact ⟨by rw [HR.out]; rfl, HW.out⟩
    rw [right_of (a := true) (b := false) (by decide) (decide_eq_false (by simp [k1, k3, k4])) rfl rfl] at hr
    have q3 : (K == 1) = false := beq_false_of_ne k1
    have q4 : (K == 3) = false := beq_false_of_ne k3
    have q5 : (K == 4) = false := beq_false_of_ne k4
    have HR := Lib.hid hr
    clear hr k1 k3 k4
    go_enter Tryz.func9, Tryz.ntmps9
    go_wp2
    go_ret
    exact ⟨by rw [HR.out]; rfl, HW.out⟩
  by_cases g4 : G = 4
  · subst g4
    by_cases k1 : K = 1
    · subst k1
      rw [right_of (a := true) (b := true) (by decide) (by decide) rfl rfl] at hr
      by_cases b1 : 1 ≤ B
      · rw [decide_eq_true b1] at hr
        have HR := Lib.hid hr
        clear hr
        go_enter Tryz.func9, Tryz.ntmps9
        go_wp2
        go_ret
        exact ⟨by rw [HR.out]; rfl, HW.out⟩
      · rw [decide_eq_false b1] at hr
        have HR := Lib.hid hr
        clear hr
        go_enter Tryz.func9, Tryz.ntmps9
        go_wp2
        go_ret
        exact ⟨by rw [HR.out]; rfl, HW.out⟩
    by_cases k3 : K = 3
    · subst k3
      rw [right_of (a := true) (b := true) (by decide) (by decide) rfl rfl] at hr
      by_cases b1 : 1 ≤ B
      · rw [decide_eq_true b1] at hr
        have HR := Lib.hid hr
        clear hr
        go_enter Tryz.func9, Tryz.ntmps9
        go_wp2
        go_ret
        exact ⟨by rw [HR.out]; rfl, HW.out⟩
      · rw [decide_eq_false b1] at hr
        have HR := Lib.hid hr
        clear hr
        go_enter Tryz.func9, Tryz.ntmps9
        go_wp2
        go_ret
        exact ⟨by rw [HR.out]; rfl, HW.out⟩
    by_cases k4 : K = 4
    · subst k4
      rw [right_of (a := true) (b := true) (by decide) (by decide) rfl rfl] at hr
      by_cases b1 : 1 ≤ B
      · rw [decide_eq_true b1] at hr
        have HR := Lib.hid hr
        clear hr
        go_enter Tryz.func9, Tryz.ntmps9
        go_wp2
        go_ret
        exact ⟨by rw [HR.out]; rfl, HW.out⟩
      · rw [decide_eq_false b1] at hr
        have HR := Lib.hid hr
        clear hr
        go_enter Tryz.func9, Tryz.ntmps9
        go_wp2
        go_ret
        exact ⟨by rw [HR.out]; rfl, HW.out⟩
    rw [right_of (a := true) (b := false) (by decide) (decide_eq_false (by simp [k1, k3, k4])) rfl rfl] at hr
    have q3 : (K == 1) = false := beq_false_of_ne k1
    have q4 : (K == 3) = false := beq_false_of_ne k3
    have q5 : (K == 4) = false := beq_false_of_ne k4
    have HR := Lib.hid hr
    clear hr k1 k3 k4
    go_enter Tryz.func9, Tryz.ntmps9
    go_wp2
    go_ret
    exact ⟨by rw [HR.out]; rfl, HW.out⟩
  rw [right_of (a := false) (decide_eq_false (by simp [g1, g4])) rfl rfl rfl] at hr
  have q1 : (G == 1) = false := beq_false_of_ne g1
  have q2 : (G == 4) = false := beq_false_of_ne g4
  have HR := Lib.hid hr
  clear hr g1 g4
  go_enter Tryz.func9, Tryz.ntmps9
  go_wp2
  go_ret
  exact ⟨by rw [HR.out]; rfl, HW.out⟩
end Go.Proofs.YtkmikkjjnbikdaaGreat
namespace Go.Proofs.YtkmikkjjnbikdaaGreat.cohortTurns
open Go.ChangeShapes Go.WideShapes Go.ChangeAt Go.RowKit
set_option linter.unusedVariables false

theorem own : ownKnob Tryz.prog.godebug = none := by kernel_rfl
theorem laidOut : laidOutB Tryz.prog = true := by kernel_rfl

/-! the walk -/
set_option maxRecDepth 100000 in
set_option maxHeartbeats 8000000 in
theorem walk (s0 : Option Addr) (len0 cap0 : Nat) (z0 : List Int) (a1_0 a1_1 a1_2 : Int) (a2 : Int) (w : World) (l0 : len0 ≤ cap0 ∧ cap0 ≤ maxLen ∧ (s0 = none → cap0 = 0)) (r0 : RowAt .i64 w s0 len0 z0) (w0 : ∀ z ∈ z0, (Lit.int .i64 z).wf = true) (w1_0 : (Lit.int .i64 a1_0).wf = true) (w1_1 : (Lit.int .i64 a1_1).wf = true) (w1_2 : (Lit.int .i64 a1_2).wf = true) (w2 : (Lit.int .u8 a2).wf = true) :
    Calls Tryz.prog 6 #[.slice s0 len0 cap0, .agg #[.int .i64 a1_0, .int .i64 a1_1, .int .i64 a1_2], .int .u8 a2] w fun e w' => e = .returned (.bool true) ∧ Below w.heap.size w w' := by
  obtain ⟨b0, b1⟩ := u8_bd w2
  obtain ⟨c, hcc⟩ : ∃ c : Nat, a2 % 21 = (c : Int) := ⟨(a2 % 21).toNat, by omega⟩
  have hct : a2.tmod 21 = (c : Int) := by rw [Int.tmod_eq_emod_of_nonneg b0]; exact hcc
  have HC := Lib.hid (show c ≤ 20 by omega)
  have hm0 : len0 ≤ 9223372036854775807 := by have := l0.1; have := l0.2.1; unfold maxLen at this; omega
  obtain ⟨X, hX⟩ : ∃ X, X = w.alloc (.cells #[.int .i64 a1_0, .int .i64 a1_1, .int .i64 a1_2] 24) := ⟨_, rfl⟩
  have hWX : Wrote Nil w X := by rw [hX]; exact (Wrote.refl _ w).alloc _
  have hblk : X.heap[w.heap.size]? = some (.cells #[.int .i64 a1_0, .int .i64 a1_1, .int .i64 a1_2] 24 (0, 0)) := by rw [hX]; exact Go.Deep.blk_alloc_new _ _
  have x0 : X.cell? ⟨w.heap.size, 0, none⟩ = some (.int .i64 a1_0) := (blk_cell hblk 0).trans rfl
  have x1 : X.cell? ⟨w.heap.size, 1, none⟩ = some (.int .i64 a1_1) := (blk_cell hblk 1).trans rfl
  have x2 : X.cell? ⟨w.heap.size, 2, none⟩ = some (.int .i64 a1_2) := (blk_cell hblk 2).trans rfl
  have cF := fine_any (cap := cap0) (r0.after hWX) hm0 none 0 0 (by decide)
  have cK := fl_may a1_0 a1_1 a1_2
  have HX := Lib.hid hX
  cases hf : fineB len0 z0 0
  · rw [hf] at cF
    have HW := Lib.hid hWX
    clear r0 hf w0 l0 w1_0 w1_1 w1_2 w2 hWX hblk hX
    go_enter Tryz.func6, Tryz.ntmps6
    go_wp2_with (first
      | (go_at_call 8; rw [← HX.out]; with_reducible refine cF.mono ?_; rintro e w2 ⟨rfl, hw2⟩; subst w2)
      | (go_at_call 10; with_reducible refine (fl_awake _).mono ?_; intro e w2 hq; unfold AwakePost at hq; obtain ⟨rfl, hW⟩ := hq))
    go_ret
    exact ⟨rfl, (HW.out.nil hW).law⟩
  cases hk : rightB a1_0 a1_1 a1_2
  · rw [hf] at cF
    rw [hk] at cK
    have HW := Lib.hid hWX
    clear r0 hf hk w0 l0 w1_0 w1_1 w1_2 w2 hWX hblk hX
    go_enter Tryz.func6, Tryz.ntmps6
    go_wp2_with (first
      | (go_at_call 8; rw [← HX.out]; with_reducible refine cF.mono ?_; rintro e w2 ⟨rfl, hw2⟩; subst w2)
      | (go_at_call 9; (with_reducible refine (cK _).mono ?_); rintro e w3 ⟨rfl, hW3⟩; have HM := Lib.hid hW3; clear hW3 cK)
      | (go_at_call 10; with_reducible refine (fl_awake _).mono ?_; intro e w4 hq; unfold AwakePost at hq; obtain ⟨rfl, hW⟩ := hq))
    go_ret
    exact ⟨rfl, (HW.out.nil (HM.out.nil hW)).law⟩
  · rw [hf] at cF
    rw [hk] at cK
    obtain ⟨n1, n8, ho, hm⟩ := fineB_no hf
    rcases r0.at with e0 | ⟨b, o, rfl, hc⟩
    · omega
    have hb : b < w.heap.size := World.block_lt_of_cell? w _ (hc 0 (by omega))
    have HM := Lib.hid (fun (W : World) (k : Wrote Nil w W) => fl_made (cap := cap0) (r0.after k) (Nat.lt_of_lt_of_le hb k.size) ho n1 n8 hk)
    have HH := Lib.hid (And.intro ho hb)
    have HS := Lib.hid r0.len
    have HB := Lib.hid (right_B hk)
    have HW := Lib.hid hWX
    clear r0 hf hk w0 l0 hc ho hb w1_0 w1_1 w1_2 w2 hWX hblk hX
    go_enter Tryz.func6, Tryz.ntmps6
    go_wp2_with (first
      | (go_at_call 8; rw [← HX.out]; with_reducible refine cF.mono ?_; rintro e w2 ⟨rfl, hw2⟩; subst w2)
      | (go_at_call 9; (with_reducible refine (cK _).mono ?_); rintro e w3 ⟨rfl, hW3⟩; have y0 := hW3.old x0; have y1 := hW3.old x1; have y2 := hW3.old x2; have H3 := Lib.hid (HW.out.nil hW3); clear hW3 cK x0 x1 x2)
      | (go_at_call 11; (with_reducible refine (HM.out _ H3.out).mono ?_); intro e w1 hq; unfold MdPost at hq; obtain ⟨L, rfl, hL, h1, hhs⟩ := hq; have HA := Lib.hid (And.intro h1 hhs); have H2 := Lib.hid (ls_old H3.out hL); clear hL h1 hhs y0 y1 y2)
      | (go_at_call 28; have hV := served_any H2.out (OrdT.start HS.out n8 HH.out.1 HB.out) HA.out.1 rfl (fun _ => rfl) n1 c HC.out; (with_reducible refine hV.mono ?_); intro e w4 hq; unfold ServedPost at hq; obtain ⟨rfl, f4, hL4, hl4, hz4⟩ := hq; have p0 := hL4.lk.lk.port.cell0; have cW := words_any hL4.lk.lk.port.mem; have H4 := Lib.hid (And.intro hL4 (And.intro hl4 hz4)); clear hV hL4 hl4 hz4)
      | (go_at_call 29; (with_reducible refine cW.mono ?_); intro e w5 hq; unfold WordsPost at hq; obtain ⟨g, rfl, hrow, hg, hW5⟩ := hq; have H5 := Lib.hid (And.intro hrow (H4.out.1.wr.nil hW5)); clear hrow hg hW5 cW p0))
    clear cF
    have hm8 := H4.out.2.1
    have HZ := Lib.hid (show ∀ k, k < 8 → w5.cell? ⟨g, k, none⟩ = some (.int .u32 0) from fun k hk => by
      have := H5.out.1.cell (show k < f4.ps.ws.length by omega)
      rw [H4.out.2.2 k hk] at this
      exact this)
    generalize f4.ps.ws.length = m at hm8 ⊢
    go_loop [45] (fun i => ∃ k : Nat, k ≤ 8 ∧ i = .int .i64 k) (fun i => 8 - (intOf i).toNat)
    case atStart => exact ⟨0, Nat.zero_le _, rfl⟩
    case round =>
      obtain ⟨k, hk, rfl⟩ := hrel
      by_cases hlt : k < 8
      · have kI : (k : Int) < 8 := by omega
        have km : (k : Int) < (m : Int) := by omega
        have km2 : ¬ ((m : Int) ≤ (k : Int)) := by omega
        have cg := HZ.out k hlt
        go_wp2
        go_round
        case rel => exact ⟨k + 1, by omega, by go_num⟩
        case measure => simp [intOf]; omega
      · go_wp2_with (go_at_call 10; with_reducible refine (fl_awake _).mono ?_; intro e w6 hq; unfold AwakePost at hq; obtain ⟨rfl, hW6⟩ := hq)
        go_ret
        exact ⟨rfl, (H5.out.2.nil hW6).law⟩

/-! the row -/
set_option maxRecDepth 100000 in
theorem lifted (os : Os) (started : os.Started) (H : Type) (enc : TypeId × Value → H) :
    ReturnsInHanded {} Tryz.checked os 6 .any (Rows.cohortTurnsSpec.pre6 enc Tryz.prog Tryz.f6 Rows.cohortTurnsRow.domain false) (Rows.cohortTurnsSpec.post enc Tryz.prog Tryz.f6 false true false false) := by
  refine returnsInHanded_of_change (C := Tryz.checked) own started (by kernel_rfl) Tryz.func6
    (ChangeSpec.witness6 (enc := enc) (C := Tryz.checked) false ⟨#[], #[.slice none 0 0, .agg #[.int .i64 0, .int .i64 0, .int .i64 0], .int .u8 0], []⟩ 8 (by kernel_rfl) (by kernel_rfl) (by kernel_rfl) (by kernel_rfl)) ?_
  intro W base args ds gs before hval0 hW hcnd _
  have hval : ∀ (j : Nat) t v, Tryz.f6.params[j]? = some t → args[j]? = some v → Value.okWide Tryz.prog W .any base t v := hval0
  have hW' := hW
  obtain ⟨p, q, hA0, hV, rfl, hfz, hnd⟩ := hW
  have hA : DataW.TrodAll enc Tryz.prog W 0 (fun _ => true) true Tryz.f6.params.toList args.toList ds p := hA0
  rw [Tryz.params6] at hA hval
  obtain ⟨v0, vs0, d0, ds0, p0, q0, hargs, rfl, rfl, h0, r0'⟩ := trodAll_cons hA
  obtain ⟨v1, vs1, d1, ds1, p1, q1, rfl, rfl, rfl, h1, r1'⟩ := trodAll_cons r0'
  obtain ⟨v2, vs2, d2, ds2, p2, q2, rfl, rfl, rfl, h2, r2'⟩ := trodAll_cons r1'
  obtain ⟨rfl, rfl, rfl⟩ := trodAll_nil r2'
  obtain rfl : args = #[v0, v1, v2] := by cases args; simp_all
  obtain ⟨rfl, rfl⟩ := trodVars_none hV
  have k0 := h0
  have lt0 : ∀ x ∈ p0, x.block < W.heap.size := by obtain ⟨m, hm⟩ := k0; exact DataW.trod_lt m _ _ _ hm
  obtain ⟨s0, len0, cap0, rfl⟩ := okWide_slice Tryz.underlying22 (hval 0 22 v0 rfl rfl)
  obtain ⟨l0, z0, r0, w0⟩ := open_slice_row Tryz.underlying22 Tryz.underlying3 (by kernel_rfl) h0
  have k1 := h1
  have lt1 : ∀ x ∈ p1, x.block < W.heap.size := by obtain ⟨m, hm⟩ := k1; exact DataW.trod_lt m _ _ _ hm
  obtain ⟨zs1, rfl, hl1, hz1⟩ := open_struct_list (ks := [.i64, .i64, .i64]) Tryz.underlying24 (by kernel_rfl) (by kernel_rfl) (hval 1 24 v1 rfl rfl) h1
  obtain ⟨a1_0, a1_1, a1_2, rfl⟩ := list3 hl1
  obtain ⟨a2, rfl, rfl, rfl, w2⟩ := open_int Tryz.underlying5 (hval 2 5 v2 rfl rfl) h2
  clear hA0 hval0
  refine (walk s0 len0 cap0 z0 a1_0 a1_1 a1_2 a2 W l0 r0 w0 (hz1 0 _ rfl) (hz1 1 _ rfl) (hz1 2 _ rfl) w2).mono fun e W' ⟨he, bel⟩ => ?_
  subst he
  exact ⟨_, rfl, _, _, _, [], _, [], hW', trodAll_mk1 (shut_bool Tryz.underlying4 _), (trodAll_cons_mk (Below.trod laidOut (by kernel_rfl) (of_decide_eq_true (by kernel_rfl)) k0 bel lt0) (trodAll_cons_mk (Below.trod laidOut (by kernel_rfl) (of_decide_eq_true (by kernel_rfl)) k1 bel lt1) (trodAll_cons_mk (shut_int Tryz.underlying5 w2) trodAll_mk0))), rfl, bel.frame _, fun h => by cases h⟩

theorem over : Rows.cohortTurnsRow.holds Tryz.pinned (OpenSpec.ofChange Rows.cohortTurnsSpec) :=
  OpenClaim.holds_of_wide 6 Tryz.f6 rfl rfl rfl rfl rfl rfl rfl ⟨rfl, rfl, rfl, rfl, rfl⟩ rfl rfl rfl rfl rfl (by kernel_rfl) Tryz.func6 (by kernel_rfl)
    (of_decide_eq_true (by kernel_rfl)) (by unfold Func.isWrapper; first | (rw [if_pos (by decide +kernel)]; kernel_rfl) | (rw [if_neg (by decide +kernel)]; exact ⟨rfl, rfl⟩))
    (fun os started H enc _ => lifted os started H enc)

/-- the statement -/
theorem proved : Rows.CohortTurnsSaid := over
#print axioms proved
end Go.Proofs.YtkmikkjjnbikdaaGreat.cohortTurns
