/- For every input the Go function AbortPlays of weighlocklaw14 returns true, and its arguments read afterwards as before. Conditions: none. -/
import Derived.Test.YtdhpmcafekpfhaaGreatRows
import Derived.WalkKit
import Derived.ProofKit
import Derived.OpenShut
import Derived.ChangeOld
import Derived.Below
import Derived.Carry
import Derived.Test.YtdhpmcafekpfhaaGreatLockPlays
import Derived.Test.YtdhpmcafekpfhaaGreatAbortRhom
namespace Go.Proofs.YtdhpmcafekpfhaaGreat.abortPlays
open Go.ChangeShapes Go.WideShapes Go.ChangeAt Go.RowKit
set_option linter.unusedVariables false

theorem own : ownKnob Tryz.prog.godebug = none := by kernel_rfl
theorem laidOut : laidOutB Tryz.prog = true := by kernel_rfl

/-! the walk -/
/-- both made, the lock used over its port -/
theorem duo_made {w0 X w4 w5 w6 : World} {L : Lp} {M0 : Mp} {n ea pr : Nat} (hP : LkS w0 X L (newF n ea n)) (hM : MlRaw w4 M0 (newSeat n true false) ea (fv (newF n ea n))) (hb : M0.base = w4.heap.size) (hn : X.heap.size ≤ M0.r ∧ ∀ k, MF M0 k → X.heap.size ≤ k) (h4 : Wrote Nil X w4) (h5 : Wrote Nil w4 w5) (hr : RefSt w6 w5.heap.size pr (newS n (zerosA (n * ea)))) (h6 : Wrote Nil w5 w6) :
    DuoP w0 w6 L { M0 with base := w5.heap.size, pr := pr } (newF n ea n) := by
  have s5 := h5.size
  have s6 := h6.size
  have s4 := h4.size
  have hl := hM.low
  have ht := hP.lk.top
  have hM6 := hM.after (h5.nil h6)
  refine ⟨hP.after ((h4.nil h5).nil h6), ⟨_, ⟨hM6.obj, hM6.seat, hM6.rows, hM6.ne, hM6.off, ?_⟩, rfl⟩, hr, ⟨by have := hn.1; dsimp only; omega, fun k hk => by have := hn.2 k hk; omega⟩, ⟨by dsimp only; omega, fun k hk => ?_⟩, ⟨by dsimp only; omega, s6⟩⟩
  · dsimp only
    exact ⟨by omega, fun i hi => by have := hl.2.1 i hi; omega, fun k hk => by have := hl.2.2 k hk; omega⟩
  · have := hM.low2 (M := M0) hk
    dsimp only
    omega
theorem zeros_row (w : World) (t m : Nat) (hm : m = 3 * t + 1) : RowAt .u32 (w.alloc (.cells (rowA m fun _ => .int .u32 0) 96)) (some ⟨w.heap.size, 0, none⟩) m (zerosA t) := by
  refine ⟨(zerosA_len t).trans hm.symm, (fun e => by cases e), fun b hb j hj => ?_⟩
  cases hb
  have e : (Addr.add ⟨w.heap.size, 0, none⟩ j) = ⟨w.heap.size, j, none⟩ := by
    simp [Addr.add]
    exact fun e => e.symm
  rw [e, blk_cell (Go.Deep.blk_alloc_new w _), zerosA_at]
  exact rowA_at _ hj
theorem new_le {w4 W : World} {M : Mp} (k : Wrote Nil w4 W) (h : W.heap.size ≤ M.r ∧ ∀ j, MF M j → W.heap.size ≤ j) : w4.heap.size ≤ M.r ∧ ∀ j, MF M j → w4.heap.size ≤ j :=
  ⟨Nat.le_trans k.size h.1, fun j hj => Nat.le_trans k.size (h.2 j hj)⟩
theorem zeros_rng (t : Nat) : ∀ z ∈ zerosA t, 0 ≤ z ∧ z < 4294967296 := by
  intro z hz
  have e : z = 0 := by
    unfold zerosA at hz
    rcases List.mem_append.1 hz with h | h
    · simpa using h
    · exact (List.mem_replicate.1 h).2
  omega
set_option maxRecDepth 100000 in
set_option maxHeartbeats 8000000 in
theorem walk (s0 : Option Addr) (len0 cap0 : Nat) (z0 : List Int) (a1 : Int) (s2 : Option Addr) (len2 cap2 : Nat) (z2 : Nat → Nat → Int) (w : World) (l0 : len0 ≤ cap0 ∧ cap0 ≤ maxLen ∧ (s0 = none → cap0 = 0)) (r0 : RowAt .i64 w s0 len0 z0) (w0 : ∀ z ∈ z0, (Lit.int .i64 z).wf = true) (w1 : (Lit.int .i64 a1).wf = true) (l2 : len2 ≤ cap2 ∧ cap2 ≤ maxLen ∧ (s2 = none → cap2 = 0)) (r2 : Structs w [.i64, .i64, .i64, .i64] s2 len2 z2) :
    Calls Tryz.prog 3 #[.slice s0 len0 cap0, .int .i64 a1, .slice s2 len2 cap2] w fun e w' => e = .returned (.bool true) ∧ Below w.heap.size w w' := by
  have hm0 : len0 ≤ 9223372036854775807 := by have := l0.1; have := l0.2.1; unfold maxLen at this; omega
  have hat : OpsAt w s2 len2 z2 := by
    rcases r2.at (by decide) with e | ⟨b2, o2, rfl, hc2⟩
    · exact .inl e
    · exact .inr ⟨b2, o2, rfl, fun i hi j hj => (hc2 i hi j .i64 (by match j, hj with | 0, _ => rfl | 1, _ => rfl | 2, _ => rfl | 3, _ => rfl)).1⟩
  have hm2 : len2 ≤ 9223372036854775807 := by have := l2.1; have := l2.2.1; unfold maxLen at this; omega
  have cF := fine_any (cap := cap0) r0 hm0 s2 len2 cap2 (by omega)
  cases hf : fineB len0 z0 len2
  · rw [hf] at cF
    clear r0 hf w0 w1 l0 l2 r2 hat
    go_enter Tryz.func3, Tryz.ntmps3
    go_wp2_with (first
      | (go_at_call 4; with_reducible refine cF.mono ?_; rintro e w2 ⟨rfl, rfl⟩)
      | (go_at_call 5; with_reducible refine (fl_awake _).mono ?_; intro e w2 hq; unfold AwakePost at hq; obtain ⟨rfl, hW⟩ := hq))
    go_ret
    exact ⟨rfl, hW.law⟩
  · rw [hf] at cF
    by_cases he1 : a1 < 1
    · have b1 : decide (a1 < 1) = true := decide_eq_true he1
      clear r0 hf w0 w1 l0 l2 r2 hat
      go_enter Tryz.func3, Tryz.ntmps3
      go_wp2_with (first
        | (go_at_call 4; with_reducible refine cF.mono ?_; rintro e w2 ⟨rfl, rfl⟩)
        | (go_at_call 5; with_reducible refine (fl_awake _).mono ?_; intro e w2 hq; unfold AwakePost at hq; obtain ⟨rfl, hW⟩ := hq))
      go_ret
      exact ⟨rfl, hW.law⟩
    by_cases he8 : 8 < a1
    · have b1 : decide (8 < a1) = true := decide_eq_true he8
      clear r0 hf w0 w1 l0 l2 r2 hat
      go_enter Tryz.func3, Tryz.ntmps3
      go_wp2_with (first
        | (go_at_call 4; with_reducible refine cF.mono ?_; rintro e w2 ⟨rfl, rfl⟩)
        | (go_at_call 5; with_reducible refine (fl_awake _).mono ?_; intro e w2 hq; unfold AwakePost at hq; obtain ⟨rfl, hW⟩ := hq))
      go_ret
      exact ⟨rfl, hW.law⟩
    obtain ⟨ea, rfl⟩ := Int.eq_ofNat_of_zero_le (show 0 ≤ a1 by omega)
    have e1 : 1 ≤ ea := by omega
    have e2 : ea ≤ 8 := by omega
    obtain ⟨n1, n8, ho, hm⟩ := fineB_no hf
    rcases r0.at with e0 | ⟨b, o, rfl, hc⟩
    · omega
    have hb : b < w.heap.size := World.block_lt_of_cell? w _ (hc 0 (by omega))
    have cM := fl_made (cap := cap0) r0 hb ho n1 (by omega) ea e1 e2
    have HH := Lib.hid hat
    have hrow0 := r0
    have hbad := hb
    clear r0 hf w0 w1 l0 l2 r2 hat hc ho hb
    have HR0 := Lib.hid (And.intro hrow0 hbad)
    clear hrow0 hbad
    go_enter Tryz.func3, Tryz.ntmps3
    obtain ⟨i0, hi, hz0, hz1, hz2⟩ := info_parts info_u32
    obtain ⟨m, hmm⟩ : ∃ m : Nat, m = 3 * (len0 * ea) + 1 := ⟨_, rfl⟩
    have m64 : len0 * ea ≤ 8 * 8 := Nat.mul_le_mul n8 e2
    have m40 : m ≤ 200 := by omega
    have hmk : ∀ w : World, (Instr.makeSlice 41 (.int .i64 (m : Int)) (.int .i64 (m : Int))).run Tryz.prog w = .ok (.slice (some ⟨w.heap.size, 0, none⟩) m m) (w.alloc (.cells (rowA m fun _ => .int .u32 0) 96)) := by
      intro w
      have h := Go.run_make (P := Tryz.prog) w 41 96 i0 _ Tryz.underlying41 hi hz0 .i64 .i64 (m : Int) (m : Int) (by omega) (by omega) (by rw [hz2]; omega) (by omega)
      rw [hz1] at h
      rw [Int.toNat_natCast] at h
      rw [show madeCells (Value.int .u32 0).cells (m * 1) = rowA m (fun _ => .int .u32 0) from made_row (.int .u32 0) m] at h
      exact h
    have HMK := Lib.hid hmk
    have HMM := Lib.hid hmm
    clear hmk hmm hi hz0 hz1 hz2
    go_wp2_with (first
      | (go_at_call 4; with_reducible refine cF.mono ?_; rintro e w2 ⟨rfl, rfl⟩)
      | (go_at_call 6; (with_reducible refine cM.mono ?_); intro e w2 hq; unfold MdPost at hq; obtain ⟨L, rfl, hL, h1, h2, hhs⟩ := hq; have HA := Lib.hid (And.intro h1 (And.intro h2 hhs)); have H2 := Lib.hid hL; clear hL h1 h2 hhs)
      | (go_at_call 7; (with_reducible refine (ml_homes (cp := cap0) (HR0.out.1.after H2.out.wr) n1 (by omega) ea e1 e2).mono ?_); intro e w4 hq; unfold HomesNewPost at hq; obtain ⟨hg, hcap, he, hrow, hW4⟩ := hq; rw [← HMM.out] at he hrow; subst he; have HR4 := Lib.hid (And.intro hrow (H2.out.after hW4)); clear hrow hW4))
    clear cF cM
    go_loopw [42] (fun i wr => wr = w4 ∧ ∃ k : Nat, k ≤ m ∧ i = .int .i64 k) (fun i _ => m - (intOf i).toNat)
    case atStart => exact ⟨by first | rfl | trivial, 0, Nat.zero_le _, rfl⟩
    case round =>
      obtain ⟨rfl, k, hk, rfl⟩ := hrel
      by_cases hlt2 : k < m
      · have c0 : wr.cell? ⟨hg, 0 + k, none⟩ = some (.int .i64 ((homesA ea z0).getD k 0)) := by
          rcases HR4.out.1.at with h0 | ⟨b', o', e, hc⟩
          · omega
          · cases e; have := hc k hlt2; rw [homesA, HR0.out.1.len]; exact this
        rw [Nat.zero_add] at c0
        have cH := home_any HR4.out.2.lk.port.mem (k : Int)
        rw [HA.out.2.2, load_at] at cH
        have p0 := HR4.out.2.lk.port.cell0
        generalize (homesA ea z0).getD k 0 = y at c0 cH
        go_wp2_with (first | (go_at_call 8; (with_reducible refine cH.mono ?_); rintro e w5 ⟨rfl, rfl⟩))
        go_roundw
        case rel => exact ⟨by first | rfl | trivial, k + 1, by omega, by go_num⟩
        case measure => simp [intOf]; omega
      · obtain rfl : k = m := by omega
        have cN := fun W => ml_new len0 ea n1 (by omega) 0 W
        have hmk := HMK.out
        go_wp2
        go_region_held3 (fun _ => True) (exact trivial) (first
          | (go_at_call 10; (with_reducible refine (cN _).mono ?_); intro e w5 hq; unfold NewMlPost at hq; obtain ⟨M0, he, hM0, ham, hbm, hnm, hW5⟩ := hq; obtain ⟨mr, hmr⟩ : ∃ mr, mr = M0.r := ⟨_, rfl⟩; rw [← hmr] at he; subst he; have HMR := Lib.hid hmr; have hn4 := (show wr.heap.size ≤ M0.r ∧ ∀ j, MF M0 j → wr.heap.size ≤ j from by first | exact new_le ((Wrote.refl Nil wr).drew) hnm | exact new_le (((Wrote.refl Nil wr).alloc _).drew) hnm); have hW4 := (show Wrote Nil wr w5 from by first | exact ((Wrote.refl Nil wr).drew).nil hW5 | exact (((Wrote.refl Nil wr).alloc _).drew).nil hW5); have HM0 := Lib.hid (And.intro hM0 (And.intro ham (And.intro hbm (And.intro hn4 hW4)))); have HW5 := Lib.hid hW5; clear hmr hM0 ham hbm hnm hn4 hW4 hW5 cN)
          | (go_at_call 11; (with_reducible refine (rnew_any (c := k) (n := len0) (vs := zerosA (len0 * ea)) (by first | exact zeros_row w5 (len0 * ea) k HMM.out | exact ((zeros_row wr (len0 * ea) k HMM.out).after ((Wrote.refl Nil _).drew)).after HW5.out) (zeros_rng (len0 * ea)) (by omega) (by omega)).mono ?_); intro e w7 hq; unfold RNewPost at hq; obtain ⟨pr, rfl, hrs, hW7⟩ := hq; have hDP := (show DuoP w w7 L { M0 with base := _, pr := pr } (newF len0 ea len0) from by first | exact duo_made HR4.out.2 HM0.out.1 HM0.out.2.2.1 HM0.out.2.2.2.1 HM0.out.2.2.2.2 ((Wrote.refl Nil w5).alloc _) hrs hW7 | exact duo_made HR4.out.2 HM0.out.1 HM0.out.2.2.1 HM0.out.2.2.2.1 HM0.out.2.2.2.2 (Wrote.refl Nil w5) hrs hW7); have cPl := plays_any hDP ⟨none, [], ord_new len0 ea n8 e1 e2, rfl⟩ HM0.out.2.1 HA.out.1 HA.out.2.1 n1 rfl (cap := cap2) HH.out hm; dsimp only at cPl; rw [← HMR.out] at cPl; clear hDP hrs hW7 hmk)
          | (go_at_call 9; (with_reducible refine cPl.mono ?_); intro e w8 hq; have hW8 := hq.wr; unfold PlaysPost at hq; obtain ⟨rfl, _⟩ := hq; have H8 := Lib.hid hW8; clear hW8 cPl)
          | (go_at_call 5; (with_reducible refine (fl_awake _).mono ?_); intro e w9 hq; unfold AwakePost at hq; obtain ⟨rfl, hW9⟩ := hq; have H9 := Lib.hid hW9; clear hW9))
        all_goals
          go_wp2
          go_ret
          exact ⟨rfl, (H8.out.nil H9.out).law⟩

/-! the row -/
set_option maxRecDepth 100000 in
theorem lifted (os : Os) (started : os.Started) (H : Type) (enc : TypeId × Value → H) :
    ReturnsInHanded {} Tryz.checked os 3 .any (Rows.abortPlaysSpec.pre6 enc Tryz.prog Tryz.f3 Rows.abortPlaysRow.domain false) (Rows.abortPlaysSpec.post enc Tryz.prog Tryz.f3 false true false false) := by
  refine returnsInHanded_of_change (C := Tryz.checked) own started (by kernel_rfl) Tryz.func3
    (ChangeSpec.witness6 (enc := enc) (C := Tryz.checked) false ⟨#[], #[.slice none 0 0, .int .i64 0, .slice none 0 0], []⟩ 8 (by kernel_rfl) (by kernel_rfl) (by kernel_rfl) (by kernel_rfl)) ?_
  intro W base args ds gs before hval0 hW hcnd _
  have hval : ∀ (j : Nat) t v, Tryz.f3.params[j]? = some t → args[j]? = some v → Value.okWide Tryz.prog W .any base t v := hval0
  have hW' := hW
  obtain ⟨p, q, hA0, hV, rfl, hfz, hnd⟩ := hW
  have hA : DataW.TrodAll enc Tryz.prog W 0 (fun _ => true) true Tryz.f3.params.toList args.toList ds p := hA0
  rw [Tryz.params3] at hA hval
  obtain ⟨v0, vs0, d0, ds0, p0, q0, hargs, rfl, rfl, h0, r0'⟩ := trodAll_cons hA
  obtain ⟨v1, vs1, d1, ds1, p1, q1, rfl, rfl, rfl, h1, r1'⟩ := trodAll_cons r0'
  obtain ⟨v2, vs2, d2, ds2, p2, q2, rfl, rfl, rfl, h2, r2'⟩ := trodAll_cons r1'
  obtain ⟨rfl, rfl, rfl⟩ := trodAll_nil r2'
  obtain rfl : args = #[v0, v1, v2] := by cases args; simp_all
  obtain ⟨rfl, rfl⟩ := trodVars_none hV
  have k0 := h0
  have lt0 : ∀ x ∈ p0, x.block < W.heap.size := by obtain ⟨m, hm⟩ := k0; exact DataW.trod_lt m _ _ _ hm
  obtain ⟨s0, len0, cap0, rfl⟩ := okWide_slice Tryz.underlying22 (hval 0 22 v0 rfl rfl)
  obtain ⟨l0, z0, r0, w0⟩ := open_slice_row Tryz.underlying22 Tryz.underlying3 (by kernel_rfl) h0
  obtain ⟨a1, rfl, rfl, rfl, w1⟩ := open_int Tryz.underlying3 (hval 1 3 v1 rfl rfl) h1
  have k2 := h2
  have lt2 : ∀ x ∈ p2, x.block < W.heap.size := by obtain ⟨m, hm⟩ := k2; exact DataW.trod_lt m _ _ _ hm
  obtain ⟨s2, len2, cap2, rfl⟩ := okWide_slice Tryz.underlying23 (hval 2 23 v2 rfl rfl)
  obtain ⟨l2, z2, r2⟩ := open_slice_ints (ks := [.i64, .i64, .i64, .i64]) Tryz.underlying23 Tryz.underlying70 (by kernel_rfl) (by kernel_rfl) h2
  clear hA0 hval0
  refine (walk s0 len0 cap0 z0 a1 s2 len2 cap2 z2 W l0 r0 w0 w1 l2 r2).mono fun e W' ⟨he, bel⟩ => ?_
  subst he
  exact ⟨_, rfl, _, _, _, [], _, [], hW', trodAll_mk1 (shut_bool Tryz.underlying4 _), (trodAll_cons_mk (Below.trod laidOut (by kernel_rfl) (of_decide_eq_true (by kernel_rfl)) k0 bel lt0) (trodAll_cons_mk (shut_int Tryz.underlying3 w1) (trodAll_cons_mk (Below.trod laidOut (by kernel_rfl) (of_decide_eq_true (by kernel_rfl)) k2 bel lt2) trodAll_mk0))), rfl, bel.frame _, fun h => by cases h⟩

theorem over : Rows.abortPlaysRow.holds Tryz.pinned (OpenSpec.ofChange Rows.abortPlaysSpec) :=
  OpenClaim.holds_of_wide 3 Tryz.f3 rfl rfl rfl rfl rfl rfl rfl ⟨rfl, rfl, rfl, rfl, rfl⟩ rfl rfl rfl rfl rfl (by kernel_rfl) Tryz.func3 (by kernel_rfl)
    (of_decide_eq_true (by kernel_rfl)) (by unfold Func.isWrapper; first | (rw [if_pos (by decide +kernel)]; kernel_rfl) | (rw [if_neg (by decide +kernel)]; exact ⟨rfl, rfl⟩))
    (fun os started H enc _ => lifted os started H enc)

/-- the statement -/
theorem proved : Rows.AbortPlaysSaid := over
#print axioms proved
end Go.Proofs.YtdhpmcafekpfhaaGreat.abortPlays
