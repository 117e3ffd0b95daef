/- For every input the Go function CohortNews of weighlocklaw16 returns true, and its arguments read afterwards as before. Conditions: none. -/
import Derived.Test.YtkmikkjjnbikdaaGreatRows
import Derived.WalkKit
import Derived.ProofKit
import Derived.OpenShut
import Derived.ChangeOld
import Derived.Below
import Derived.Carry
import Derived.Test.YtkmikkjjnbikdaaGreatCohRnw
import Derived.Test.YtkmikkjjnbikdaaGreatCohMay
import Derived.BigFrame
import Derived.BigQuiet
namespace Go.Proofs.YtkmikkjjnbikdaaGreat.cohortNews
open Go.ChangeShapes Go.WideShapes Go.ChangeAt Go.RowKit
set_option linter.unusedVariables false

theorem own : ownKnob Tryz.prog.godebug = none := by kernel_rfl
theorem laidOut : laidOutB Tryz.prog = true := by kernel_rfl

set_option maxRecDepth 100000 in
set_option maxHeartbeats 8000000 in
theorem walk (s0 : Option Addr) (len0 cap0 : Nat) (z0 : List Int) (a1_0 a1_1 a1_2 : Int) (a2 : Int) (w : World) (l0 : len0 ≤ cap0 ∧ cap0 ≤ maxLen ∧ (s0 = none → cap0 = 0)) (r0 : RowAt .i64 w s0 len0 z0) (w0 : ∀ z ∈ z0, (Lit.int .i64 z).wf = true) (w1_0 : (Lit.int .i64 a1_0).wf = true) (w1_1 : (Lit.int .i64 a1_1).wf = true) (w1_2 : (Lit.int .i64 a1_2).wf = true) (w2 : (Lit.int .u8 a2).wf = true) :
    Calls Tryz.prog 5 #[.slice s0 len0 cap0, .agg #[.int .i64 a1_0, .int .i64 a1_1, .int .i64 a1_2], .int .u8 a2] w fun e w' => e = .returned (.bool true) ∧ Below w.heap.size w w' := by
  have hm0 : len0 ≤ 9223372036854775807 := by have := l0.1; have := l0.2.1; unfold maxLen at this; omega
  obtain ⟨c0, c1⟩ := u8_bd w2
  obtain ⟨c, rfl⟩ := Int.eq_ofNat_of_zero_le c0
  have HC := Lib.hid (And.intro (show rowN (c : Int) = c by unfold rowN; omega) (show c < 256 by omega))
  clear w0 w1_0 w1_1 w1_2 w2 l0
  by_cases h80 : 80 < len0
  · have hWX : Wrote Nil w (w.alloc (.cells #[.int .i64 a1_0, .int .i64 a1_1, .int .i64 a1_2] 24)) := (Wrote.refl _ w).alloc _
    have HW := Lib.hid hWX
    clear r0 hWX
    go_enter Tryz.func5, Tryz.ntmps5
    go_wp2_with (first
      | (go_at_call 10; (with_reducible refine (fl_awake _).mono ?_); intro e w9 hq; unfold AwakePost at hq; obtain ⟨rfl, hW9⟩ := hq))
    go_ret
    exact ⟨rfl, (HW.out.nil hW9).law⟩
  obtain ⟨X, hX⟩ : ∃ X, X = w.alloc (.cells #[.int .i64 a1_0, .int .i64 a1_1, .int .i64 a1_2] 24) := ⟨_, rfl⟩
  have hWX : Wrote Nil w X := by rw [hX]; exact (Wrote.refl _ w).alloc _
  have hblk : X.heap[w.heap.size]? = some (.cells #[.int .i64 a1_0, .int .i64 a1_1, .int .i64 a1_2] 24 (0, 0)) := by rw [hX]; exact Go.Deep.blk_alloc_new _ _
  have x0 : X.cell? ⟨w.heap.size, 0, none⟩ = some (.int .i64 a1_0) := (blk_cell hblk 0).trans rfl
  have x1 : X.cell? ⟨w.heap.size, 1, none⟩ = some (.int .i64 a1_1) := (blk_cell hblk 1).trans rfl
  have x2 : X.cell? ⟨w.heap.size, 2, none⟩ = some (.int .i64 a1_2) := (blk_cell hblk 2).trans rfl
  have HX := Lib.hid (And.intro hX (And.intro x0 (And.intro x1 (And.intro x2 hWX))))
  have rX := r0.after hWX
  have HH := Lib.hid (And.intro rX (True.intro))
  clear hX hblk x0 x1 x2
  have cH : ∀ W, Wrote Nil X W → Calls Tryz.prog 25 #[.slice s0 len0 cap0] W fun e w' => e = .returned (.bool (homesOK z0)) ∧ W = w' := fun W k => homes_any (cap := cap0) (HH.out.1.after k) hm0
  have hlen : ∀ (x : Int), (([] : List Int) ++ List.replicate c x).length = c := fun x => by simp
  have HL := Lib.hid hlen
  clear hlen
  by_cases hbad : homesOK z0 = false ∨ len0 < 1 ∨ 64 < len0
  · have cN := fun W (k : Wrote Nil X W) p => fn_none (w := W) p a1_0 a1_1 a1_2 (cap := cap0) (HH.out.1.after k) (by omega) hbad
    have hcs : (len0 < 1) ∨ (¬ len0 < 1 ∧ 64 < len0) ∨ (¬ len0 < 1 ∧ ¬ 64 < len0 ∧ homesOK z0 = false) := by
      by_cases a : len0 < 1
      · exact .inl a
      · by_cases b : 64 < len0
        · exact .inr (.inl ⟨a, b⟩)
        · refine .inr (.inr ⟨a, b, ?_⟩)
          rcases hbad with q | q | q
          · exact q
          · exact absurd q a
          · exact absurd q b
    have HCN := Lib.hid cN
    clear hbad r0 rX cN hWX
    rcases hcs with h1 | ⟨h1, h2⟩ | ⟨h1, h2, h3⟩
    all_goals
      try rw [h3] at cH
      have HCH := Lib.hid cH
      clear cH
      go_enter Tryz.func5, Tryz.ntmps5
      go_wp2_with (first
      | (go_at_call 22; rw [← HX.out.1]; (with_reducible refine (plnew_any 2 X).mono ?_); rintro e w1 ⟨q, rfl, hP, hnew, hW1⟩; have hN : PlN X q.p 2 [] [] w1 := ⟨q, rfl, hP, hnew, hW1⟩; have H1 := Lib.hid hN; clear hP hnew hW1 hN)
      | (go_at_call 23; (with_reducible refine (pn_row H1.out (c : Int) 0 3 (Nat.zero_le _)).mono ?_); intro e w2 hq; unfold PnPost at hq; obtain ⟨rfl, hN⟩ := hq; rw [HC.out.1] at hN; have y0 := hN.old.old HX.out.2.1; have y1 := hN.old.old HX.out.2.2.1; have y2 := hN.old.old HX.out.2.2.2.1; have H2 := Lib.hid hN; clear hN; clear H1; have H1 := Lib.hid (True.intro))
      | (go_at_call 24; (with_reducible refine (HCN.out _ H2.out.old _).mono ?_); rintro e w3 ⟨rfl, rfl⟩; have cL := pn_len H2.out; rw [HL.out] at cL)
      | (go_at_call 25; (with_reducible refine (HCH.out _ H2.out.old).mono ?_); rintro e w3 ⟨rfl, rfl⟩)
      | (go_at_call 26; (with_reducible refine cL.mono ?_); rintro e w4 ⟨rfl, rfl⟩)
      | (go_at_call 10; (with_reducible refine (fl_awake _).mono ?_); intro e w9 hq; unfold AwakePost at hq; obtain ⟨rfl, hW9⟩ := hq))
      go_ret
      exact ⟨rfl, (HX.out.2.2.2.2.nil (H2.out.old.nil hW9)).law⟩
  have ho : homesOK z0 = true := by
    cases e : homesOK z0
    · exact absurd (.inl e) hbad
    · rfl
  have n1 : 1 ≤ len0 := by omega
  have n2 : len0 ≤ 64 := by omega
  rw [ho] at cH
  have HCH := Lib.hid cH
  clear cH
  have cK := fl_may a1_0 a1_1 a1_2
  cases hk : rightB a1_0 a1_1 a1_2
  · have cN := fun W (k : Wrote Nil X W) p => fn_cfg (w := W) p (cap := cap0) (HH.out.1.after k) ho n1 n2 hk
    have HCN := Lib.hid cN
    rw [hk] at cK
    clear r0 rX cN hWX hk ho hbad
    go_enter Tryz.func5, Tryz.ntmps5
    go_wp2_with (first
      | (go_at_call 22; rw [← HX.out.1]; (with_reducible refine (plnew_any 2 X).mono ?_); rintro e w1 ⟨q, rfl, hP, hnew, hW1⟩; have hN : PlN X q.p 2 [] [] w1 := ⟨q, rfl, hP, hnew, hW1⟩; have H1 := Lib.hid hN; clear hP hnew hW1 hN)
      | (go_at_call 23; (with_reducible refine (pn_row H1.out (c : Int) 0 3 (Nat.zero_le _)).mono ?_); intro e w2 hq; unfold PnPost at hq; obtain ⟨rfl, hN⟩ := hq; rw [HC.out.1] at hN; have y0 := hN.old.old HX.out.2.1; have y1 := hN.old.old HX.out.2.2.1; have y2 := hN.old.old HX.out.2.2.2.1; have H2 := Lib.hid hN; clear hN; clear H1; have H1 := Lib.hid (True.intro))
      | (go_at_call 24; (with_reducible refine (HCN.out _ H2.out.old _).mono ?_); rintro e w3 ⟨rfl, hW3⟩; have z0' := hW3.old y0; have z1' := hW3.old y1; have z2' := hW3.old y2; have H3 := Lib.hid (H2.out.after hW3); clear hW3 y0 y1 y2)
      | (go_at_call 25; (with_reducible refine (HCH.out _ H3.out.old).mono ?_); rintro e w4 ⟨rfl, rfl⟩)
      | (go_at_call 9; (with_reducible refine (cK _).mono ?_); rintro e w5 ⟨rfl, hW5⟩; have H5 := Lib.hid (H3.out.after hW5); have cL := pn_len H5.out; rw [HL.out] at cL; clear hW5 cK)
      | (go_at_call 26; (with_reducible refine cL.mono ?_); rintro e w4 ⟨rfl, rfl⟩)
      | (go_at_call 10; (with_reducible refine (fl_awake _).mono ?_); intro e w9 hq; unfold AwakePost at hq; obtain ⟨rfl, hW9⟩ := hq))
    go_ret
    exact ⟨rfl, (HX.out.2.2.2.2.nil (H5.out.old.nil hW9)).law⟩
  rcases rX.at with e0 | ⟨b, o, rfl, hc⟩
  · omega
  have hb : b < X.heap.size := World.block_lt_of_cell? X _ (hc 0 (by omega))
  have hGK : (a1_0 = 1 ∨ a1_0 = 3 ∨ a1_0 = 4) ∧ (a1_1 = 1 ∨ a1_1 = 3 ∨ a1_1 = 4) := by
    unfold rightB at hk
    simp only [Bool.and_eq_true, decide_eq_true_eq, List.mem_cons, List.not_mem_nil, or_false] at hk
    omega
  obtain ⟨sz, hsz⟩ : ∃ sz : Nat, sz = 8 + inZ a1_0 8 + lZ a1_1 (fun c => cntH (hNo z0) c len0) 8 := ⟨_, rfl⟩
  have hsz2 : sz ≤ 5000 := by
    have := inZ_le a1_0 8
    have := lZ_le a1_1 (fun c => cntH (hNo z0) c len0) 8 fun c => Nat.le_trans (cntH_le _ c len0) n2
    omega
  have e60 : ((([] ++ List.replicate c 0 ++ gH a1_0 ++ lH a1_1 (fun c => cntH (hNo z0) c len0) 8 : List Int).length : Nat) : Int) = (c : Int) + (sz : Int) := by
    rw [List.length_append, List.length_append, gH_len, lH_len, hsz]; simp; omega
  have cR := fun W (k : Wrote Nil X W) => ml_new (cp := cap0) (HH.out.1.after k) (hNo_of HH.out.1.len ho) n1 n2 (B := a1_2) hGK.1 hGK.2
  have hwz : IntKind.i64.wrap ((c : Int) + (sz : Int)) = (c : Int) + (sz : Int) := by rw [IntKind.wrap_i64]; have := HC.out.2; omega
  have HE := Lib.hid (And.intro hb (And.intro ho hk))
  have HQ := Lib.hid (And.intro e60 hsz)
  have HR := Lib.hid cR
  have hc6 := HC.out.2
  rw [hk] at cK
  clear hb ho hbad r0 rX hWX hc e60 hGK hsz hk cR
  go_enter Tryz.func5, Tryz.ntmps5
  go_wp2_with (first
      | (go_at_call 22; rw [← HX.out.1]; (with_reducible refine (plnew_any 2 X).mono ?_); rintro e w1 ⟨q, rfl, hP, hnew, hW1⟩; have hN : PlN X q.p 2 [] [] w1 := ⟨q, rfl, hP, hnew, hW1⟩; have H1 := Lib.hid hN; clear hP hnew hW1 hN)
      | (go_at_call 23; (with_reducible refine (pn_row H1.out (c : Int) 0 3 (Nat.zero_le _)).mono ?_); intro e w2 hq; unfold PnPost at hq; obtain ⟨rfl, hN⟩ := hq; rw [HC.out.1] at hN; have y0 := hN.old.old HX.out.2.1; have y1 := hN.old.old HX.out.2.2.1; have y2 := hN.old.old HX.out.2.2.2.1; have H2 := Lib.hid hN; clear hN; clear H1; have H1 := Lib.hid (True.intro))
      | (go_at_call 24; (with_reducible refine (pn_new H2.out HH.out.1 HE.out.1 HE.out.2.1 n1 n2 (by rw [HL.out]; have := HC.out.2; omega) HE.out.2.2).mono ?_); intro e w3 hq; unfold PnLock at hq; obtain ⟨L, he, hN3, hR, hlb⟩ := hq; obtain ⟨lb, hlb0⟩ : ∃ lb, lb = L.lb := ⟨_, rfl⟩; have hR := hR ⟨[], [], [], [], []⟩; have q0 := hR.cell0; have sE := hR.seat; rw [← hlb0] at he q0; subst he; have z0' := hN3.old.old HX.out.2.1; have z1' := hN3.old.old HX.out.2.2.1; have z2' := hN3.old.old HX.out.2.2.2.1; have H3 := Lib.hid (And.intro hN3 sE); clear hN3 hR hlb hlb0 sE y0 y1 y2)
      | (go_at_call 25; (with_reducible refine (HCH.out _ H3.out.1.old).mono ?_); rintro e w4 ⟨rfl, rfl⟩)
      | (go_at_call 9; (with_reducible refine (cK _).mono ?_); rintro e w5 ⟨rfl, hW5⟩; have z0'' := hW5.old z0'; have z1'' := hW5.old z1'; have z2'' := hW5.old z2'; have q0' := hW5.old q0; have H5 := Lib.hid (And.intro (H3.out.1.after hW5) (H3.out.2.after hW5)); clear hW5 cK z0' z1' z2' q0)
      | (go_at_call 12; (with_reducible refine (HR.out _ H5.out.1.old).mono ?_); intro e w6 hq; unfold NewMlPost at hq; obtain ⟨M, rfl, hM, _, _, hMz, _, _, _, _, hW6⟩ := hq; have cz : w6.cell? ⟨M.r, 43, none⟩ = some (.int .i64 (sz : Int)) := (by rw [blk_cell (hM ⟨[], [], [], [], []⟩).obj, rowB_at _ (by decide)]; show some (Value.int .i64 M.sz) = _; rw [hMz, HQ.out.2]); have q0'' := hW6.old q0'; have H6 := Lib.hid (H5.out.1.after hW6); have cL := pn_len H6.out; rw [HQ.out.1] at cL; have cS := se_len (H5.out.2.after hW6); clear hM hMz hW6 q0' z0'' z1'' z2'')
      | (go_at_call 27; (with_reducible refine cS.mono ?_); rintro e w4 ⟨rfl, rfl⟩)
      | (go_at_call 26; (with_reducible refine cL.mono ?_); rintro e w4 ⟨rfl, rfl⟩)
      | (go_at_call 10; (with_reducible refine (fl_awake _).mono ?_); intro e w9 hq; unfold AwakePost at hq; obtain ⟨rfl, hW9⟩ := hq))
  go_ret
  exact ⟨rfl, (HX.out.2.2.2.2.nil (H6.out.old.nil hW9)).law⟩

set_option maxRecDepth 100000 in
theorem lifted (os : Os) (started : os.Started) (H : Type) (enc : TypeId × Value → H) :
    ReturnsInHanded {} Tryz.checked os 5 .any (Rows.cohortNewsSpec.pre6 enc Tryz.prog Tryz.f5 Rows.cohortNewsRow.domain false) (Rows.cohortNewsSpec.post enc Tryz.prog Tryz.f5 false true false false) := by
  refine returnsInHanded_of_change (C := Tryz.checked) own started (by kernel_rfl) Tryz.func5
    (ChangeSpec.witness6 (enc := enc) (C := Tryz.checked) false ⟨#[], #[.slice none 0 0, .agg #[.int .i64 0, .int .i64 0, .int .i64 0], .int .u8 0], []⟩ 8 (by kernel_rfl) (by kernel_rfl) (by kernel_rfl) (by kernel_rfl)) ?_
  intro W base args ds gs before hval0 hW hcnd _
  have hval : ∀ (j : Nat) t v, Tryz.f5.params[j]? = some t → args[j]? = some v → Value.okWide Tryz.prog W .any base t v := hval0
  have hW' := hW
  obtain ⟨p, q, hA0, hV, rfl, hfz, hnd⟩ := hW
  have hA : DataW.TrodAll enc Tryz.prog W 0 (fun _ => true) true Tryz.f5.params.toList args.toList ds p := hA0
  rw [Tryz.params5] at hA hval
  obtain ⟨v0, vs0, d0, ds0, p0, q0, hargs, rfl, rfl, h0, r0'⟩ := trodAll_cons hA
  obtain ⟨v1, vs1, d1, ds1, p1, q1, rfl, rfl, rfl, h1, r1'⟩ := trodAll_cons r0'
  obtain ⟨v2, vs2, d2, ds2, p2, q2, rfl, rfl, rfl, h2, r2'⟩ := trodAll_cons r1'
  obtain ⟨rfl, rfl, rfl⟩ := trodAll_nil r2'
  obtain rfl : args = #[v0, v1, v2] := by cases args; simp_all
  obtain ⟨rfl, rfl⟩ := trodVars_none hV
  have k0 := h0
  have lt0 : ∀ x ∈ p0, x.block < W.heap.size := by obtain ⟨m, hm⟩ := k0; exact DataW.trod_lt m _ _ _ hm
  obtain ⟨s0, len0, cap0, rfl⟩ := okWide_slice Tryz.underlying22 (hval 0 22 v0 rfl rfl)
  obtain ⟨l0, z0, r0, w0⟩ := open_slice_row Tryz.underlying22 Tryz.underlying3 (by kernel_rfl) h0
  have k1 := h1
  have lt1 : ∀ x ∈ p1, x.block < W.heap.size := by obtain ⟨m, hm⟩ := k1; exact DataW.trod_lt m _ _ _ hm
  obtain ⟨zs1, rfl, hl1, hz1⟩ := open_struct_list (ks := [.i64, .i64, .i64]) Tryz.underlying24 (by kernel_rfl) (by kernel_rfl) (hval 1 24 v1 rfl rfl) h1
  obtain ⟨a1_0, a1_1, a1_2, rfl⟩ := list3 hl1
  obtain ⟨a2, rfl, rfl, rfl, w2⟩ := open_int Tryz.underlying5 (hval 2 5 v2 rfl rfl) h2
  clear hA0 hval0
  refine (walk s0 len0 cap0 z0 a1_0 a1_1 a1_2 a2 W l0 r0 w0 (hz1 0 _ rfl) (hz1 1 _ rfl) (hz1 2 _ rfl) w2).mono fun e W' ⟨he, bel⟩ => ?_
  subst he
  exact ⟨_, rfl, _, _, _, [], _, [], hW', trodAll_mk1 (shut_bool Tryz.underlying4 _), (trodAll_cons_mk (Below.trod laidOut (by kernel_rfl) (of_decide_eq_true (by kernel_rfl)) k0 bel lt0) (trodAll_cons_mk (Below.trod laidOut (by kernel_rfl) (of_decide_eq_true (by kernel_rfl)) k1 bel lt1) (trodAll_cons_mk (shut_int Tryz.underlying5 w2) trodAll_mk0))), rfl, bel.frame _, fun h => by cases h⟩

theorem over : Rows.cohortNewsRow.holds Tryz.pinned (OpenSpec.ofChange Rows.cohortNewsSpec) :=
  OpenClaim.holds_of_wide 5 Tryz.f5 rfl rfl rfl rfl rfl rfl rfl ⟨rfl, rfl, rfl, rfl, rfl⟩ rfl rfl rfl rfl rfl (by kernel_rfl) Tryz.func5 (by kernel_rfl)
    (of_decide_eq_true (by kernel_rfl)) (by unfold Func.isWrapper; first | (rw [if_pos (by decide +kernel)]; kernel_rfl) | (rw [if_neg (by decide +kernel)]; exact ⟨rfl, rfl⟩))
    (fun os started H enc _ => lifted os started H enc)

/-- the statement -/
theorem proved : Rows.CohortNewsSaid := over
#print axioms proved
end Go.Proofs.YtkmikkjjnbikdaaGreat.cohortNews

