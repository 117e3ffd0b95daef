/- For every input the Go function PoolPlays of weighlocklaw06 returns true, and its arguments read afterwards as before. Conditions: none. -/
import Derived.Test.YtjkheoiebabkhaaRows
import Derived.WalkKit
import Derived.ProofKit
import Derived.OpenShut
import Derived.ChangeOld
import Derived.Below
import Derived.Carry
import Derived.Lib.Hide
import Derived.BigQuiet
import Derived.BigRegion
import Derived.Deep.Cut
import Derived.Test.YtjkheoiebabkhaaPoolTwo
namespace Go.Proofs.Ytjkheoiebabkhaa.poolPlays
open Go.ChangeShapes Go.WideShapes Go.ChangeAt Go.RowKit
set_option linter.unusedVariables false

theorem own : ownKnob Try.prog.godebug = none := by kernel_rfl
theorem laidOut : laidOutB Try.prog = true := by kernel_rfl

/-! the walk -/
set_option maxRecDepth 100000 in
set_option maxHeartbeats 8000000 in
theorem walk (a0 : Int) (a1 : Int) (s2 : Option Addr) (len2 cap2 : Nat) (z2 : Nat → Nat → Int) (w : World) (w0 : (Lit.int .i64 a0).wf = true) (w1 : (Lit.int .i64 a1).wf = true) (l2 : len2 ≤ cap2 ∧ cap2 ≤ maxLen ∧ (s2 = none → cap2 = 0)) (r2 : Structs w [.i64, .i64, .i64] s2 len2 z2) :
    Calls Try.prog 3 #[.int .i64 a0, .int .i64 a1, .slice s2 len2 cap2] w fun e w' => e = .returned (.bool true) ∧ Below w.heap.size w w' := by
  obtain ⟨t0, t1⟩ := i64_bd w0
  obtain ⟨u0, u1⟩ := i64_bd w1
  have hml : len2 ≤ 9223372036854775807 := by have := l2.1; have := l2.2.1; unfold maxLen at this; omega
  clear l2 w0 w1
  by_cases hbig : 6 < a0
  · clear r2
    go_enter Try.func3, Try.ntmps3
    go_wp2_with (go_at_call 6; refine (po_awake _).mono ?_; rintro e w6 ⟨rfl, hW6⟩)
    go_ret
    exact ⟨rfl, hW6.law⟩
  by_cases hlen : 40 < len2
  · clear r2
    go_enter Try.func3, Try.ntmps3
    go_wp2_with (go_at_call 6; refine (po_awake _).mono ?_; rintro e w6 ⟨rfl, hW6⟩)
    go_ret
    exact ⟨rfl, hW6.law⟩
  by_cases hbad : a0 < 1 ∨ (¬ a0 < 1 ∧ a1 < 1) ∨ (¬ a0 < 1 ∧ ¬ a1 < 1 ∧ 8 < a1)
  · have c := po_new_no a0 a1 (by omega) w
    clear r2
    rcases hbad with h1 | ⟨h1, h2⟩ | ⟨h1, h2, h3⟩
    all_goals
      go_enter Try.func3, Try.ntmps3
      go_wp2_with (first
        | (go_at_call 7; with_reducible refine c.mono ?_; rintro e w' ⟨rfl, rfl⟩)
        | (go_at_call 6; refine (po_awake _).mono ?_; rintro e w6 ⟨rfl, hW6⟩))
      go_ret
      exact ⟨rfl, hW6.law⟩
  obtain ⟨T, rfl⟩ := Int.eq_ofNat_of_zero_le (show 0 ≤ a0 by omega)
  obtain ⟨e, rfl⟩ := Int.eq_ofNat_of_zero_le (show 0 ≤ a1 by omega)
  have n1 : 1 ≤ T := by omega
  have n2 : T ≤ 6 := by omega
  have e1 : 1 ≤ e := by omega
  have e2 : e ≤ 8 := by omega
  have hat := r2.at (by decide)
  have hm : T * e ≤ 6 * 8 := Nat.mul_le_mul n2 e2
  obtain ⟨M, hM⟩ : ∃ M, M = T * e := ⟨_, rfl⟩
  have hM9 : M ≤ 48 := by omega
  have HM := Lib.hid (And.intro hM hm)
  clear r2 hm hbad t0 t1 u0 u1 hM
  have hb1 : ¬ (T : Int) < 1 := by omega
  have hb2 : ¬ (e : Int) < 1 := by omega
  have hb3 : ¬ (8 : Int) < (e : Int) := by omega
  have hb4 : ¬ (6 : Int) < (T : Int) := by omega
  have cN := plnew w n1 (show T ≤ 64 by omega) e1 e2
  have cR : ∀ W, Calls Try.prog 8 #[.int .i64 (T : Int), .int .i64 (e : Int)] W (RnewPost W T e) := fun W => rf_new T e n1 (by omega) e1 e2 W
  go_enter Try.func3, Try.ntmps3
  go_wp2_with (first
    | (go_at_call 7; with_reducible refine cN.mono ?_; intro en w1 h1; unfold PlNew at h1; obtain ⟨p, rfl, hP⟩ := h1)
    | (go_at_call 8; with_reducible refine (cR _).mono ?_; intro en w2 h2; unfold RnewPost at h2; obtain ⟨so, cap, rfl, hR, hW2, hbk⟩ := h2))
  clear cN cR
  have hst : PlTwo w (w2.alloc (.cells #[.slice so (T * e) cap, .int .i64 ((T : Int) * (e : Int))] 30)) p w2.heap.size (newS T e) (newS T e) since0 (T * e) so cap := by
    rw [← Int.natCast_mul]
    exact pl_start (cap := cap) n1 e1 hP hR hW2 hbk
  have hsim := sim_new (T := T) e1
  have hPS : PlSt w p w2.heap.size T M 0 (w2.alloc (.cells #[.slice so (T * e) cap, .int .i64 ((T : Int) * (e : Int))] 30)) := ⟨newS T e, since0, T * e, so, cap, hst, hsim, HM.out.1.symm, rfl, by rw [HM.out.1]; omega⟩
  clear hP hR hW2 hbk hst hsim
  generalize w2.alloc (.cells #[.slice so (T * e) cap, .int .i64 ((T : Int) * (e : Int))] 30) = W0 at hPS ⊢
  generalize w2.heap.size = r at hPS ⊢
  go_loopw [64] (fun i wr => ∃ j : Nat, j ≤ len2 ∧ i = .int .i64 j ∧ PlSt w p r T M j wr) (fun i _ => len2 - (intOf i).toNat)
  case atStart => exact ⟨0, Nat.zero_le _, rfl, hPS⟩
  case round =>
    clear hPS
    obtain ⟨j, hj, rfl, hPS⟩ := hrel
    by_cases hlt : j < len2
    · rcases hat with e0 | ⟨b, o, rfl, hcell⟩
      · omega
      obtain ⟨s, since, C, so', cap', hPl, hSim, hnM, hsT, hCM⟩ := hPS
      have hC9 : C ≤ 100 := by omega
      have y0 : wr.cell? ⟨b, o + j * 3, none⟩ = some (.int .i64 (z2 j 0)) := hPl.pool.wrote.old (hcell j hlt 0 _ rfl).1
      have y1 : wr.cell? ⟨b, o + j * 3 + 1, none⟩ = some (.int .i64 (z2 j 1)) := hPl.pool.wrote.old (hcell j hlt 1 _ rfl).1
      have y2 : wr.cell? ⟨b, o + j * 3 + 2, none⟩ = some (.int .i64 (z2 j 2)) := hPl.pool.wrote.old (hcell j hlt 2 _ rfl).1
      have x0 : wr.cell? ⟨r, 0, none⟩ = some (.slice so' s.n cap') := (blk_cell hPl.box 0).trans rfl
      have x1 : wr.cell? ⟨r, 1, none⟩ = some (.int .i64 (C : Int)) := (blk_cell hPl.box 1).trans rfl
      have xf0 := blk_frozen hPl.box 0
      have xf1 := blk_frozen hPl.box 1
      have lr := blk_lt hPl.box
      generalize z2 j 0 = K at y0
      generalize z2 j 1 = tt at y1
      generalize z2 j 2 = id at y2
      have hWA : ∀ o, Wrote Nil wr (wr.alloc o) := fun o => (Wrote.refl Nil wr).alloc o
      by_cases hK1 : K = 1
      · subst hK1
        cases hp : s.pick tt with
        | some x =>
          have cR := fun W (hW : Wrote Nil wr W) => r_take_yes hPl hSim (by omega) hp hW
          have cP := fun W so2 cap2 (h : PlTwo w W p r s (s.setOut x true) since C so2 cap2) => p_take_yes h hp
          have cS := fun W so2 cap2 (h : PlTwo w W p r (s.setOut x true) (s.setOut x true) since C so2 cap2) => p_same h (hSim.setOut x true) (by omega)
          have hT' : ((s.setOut x true)).T = T := hsT
          rw [hT'] at cS
          have HE := Lib.hid (show Sim (s.setOut x true) since C ∧ ((s.setOut x true)).n = M ∧ ((s.setOut x true)).T = T ∧ C ≤ M + (j + 1) from ⟨(hSim.setOut x true), hnM, hT', by omega⟩)
          have HWA := Lib.hid hWA
          clear hT'
          have hx1 : (0 : Int) < x := by
            have hm : x ∈ s.rowI tt := by
              rw [← pick_row] at hp
              exact List.mem_of_find?_eq_some hp
            have := (rowI_mem hPl.pool.inv tt x hm).1
            omega
          obtain ⟨s', hs'⟩ : ∃ s', s' = s.setOut x true := ⟨_, rfl⟩
          obtain ⟨since', hs2⟩ : ∃ f, f = since := ⟨_, rfl⟩
          obtain ⟨C', hs3⟩ : ∃ c, c = C := ⟨_, rfl⟩
          rw [← hs'] at cR cP cS HE
          clear hs'
          subst hs2 hs3
          have HS := Lib.hid (And.intro hSim (And.intro hnM (And.intro hsT hCM)))
          clear hPl hSim hnM hsT hCM hcell hWA hp
          go_upto_region 16 with (go_at_call 9; with_reducible refine (cR _ (HWA.out _)).mono ?_; intro en w2 h2; unfold MidPost at h2; obtain ⟨so2, cap2, rfl, hM, hMW⟩ := h2; have m0 := (blk_cell hM.box 0).trans rfl; have m1 := (blk_cell hM.box 1).trans rfl; have mf0 := blk_frozen hM.box 0; have mf1 := blk_frozen hM.box 1; have lr2 := blk_lt hM.box; have k0 := (blk_cell ((hMW.block wr.heap.size (by rw [Go.Deep.nblk_alloc]; omega) (fun x => x)).trans (Go.Deep.blk_alloc_new wr _)) 0).trans rfl; have k1 := (blk_cell ((hMW.block wr.heap.size (by rw [Go.Deep.nblk_alloc]; omega) (fun x => x)).trans (Go.Deep.blk_alloc_new wr _)) 1).trans rfl; have k2 := (blk_cell ((hMW.block wr.heap.size (by rw [Go.Deep.nblk_alloc]; omega) (fun x => x)).trans (Go.Deep.blk_alloc_new wr _)) 2).trans rfl; have HM2 := Lib.hid (And.intro hM hMW); clear hM hMW)
          obtain ⟨W4, hW4⟩ : ∃ W4, W4 = ((w2.setCell ⟨r, 0, none⟩ (.slice so2 s'.n cap2)).setCell ⟨r, 1, none⟩ (.int .i64 (C' : Int))).alloc (.cells #[.slice so2 s'.n cap2, .int .i64 (C' : Int)] 30) := ⟨_, rfl⟩
          have hT := pl_store HM2.out.1 hW4
          have hkr : wr.heap.size ≠ r := by omega
          have q1 := pl_keep hW4 hkr k1
          have q2 := pl_keep hW4 hkr k2
          rw [← hW4]
          clear hW4 m0 m1 mf0 mf1 k0 k1 k2
          have cP := cP W4 so2 cap2 hT
          clear hT
          go_wp2_with (first
            | (go_at_call 10; with_reducible refine cP.mono ?_; intro en w5 h5; unfold PlPost at h5; obtain ⟨rfl, hT5⟩ := h5; have n0 := (blk_cell hT5.box 0).trans rfl; have n1 := (blk_cell hT5.box 1).trans rfl; have HT5 := Lib.hid hT5; clear hT5)
            | (go_at_call 15; with_reducible refine (cS _ _ _ HT5.out).mono ?_; rintro en w6 ⟨rfl, hF⟩))
          go_roundw
          case rel => exact ⟨j + 1, by omega, by go_num, s', since', C', so2, cap2, hF, HE.out.1, HE.out.2.1, HE.out.2.2.1, HE.out.2.2.2⟩
          case measure => simp [intOf]; omega
        | none =>
          have cR := fun W (hW : Wrote Nil wr W) => r_take_no hPl hSim (by omega) hp hW
          have cP := fun W so2 cap2 (h : PlTwo w W p r s s since C so2 cap2) => p_take_no h hp
          have cS := fun W so2 cap2 (h : PlTwo w W p r s s since C so2 cap2) => p_same h hSim (by omega)
          have hT' : (s).T = T := hsT
          rw [hT'] at cS
          have HE := Lib.hid (show Sim s since C ∧ (s).n = M ∧ (s).T = T ∧ C ≤ M + (j + 1) from ⟨hSim, hnM, hT', by omega⟩)
          have HWA := Lib.hid hWA
          clear hT'
          obtain ⟨s', hs'⟩ : ∃ s', s' = s := ⟨_, rfl⟩
          obtain ⟨since', hs2⟩ : ∃ f, f = since := ⟨_, rfl⟩
          obtain ⟨C', hs3⟩ : ∃ c, c = C := ⟨_, rfl⟩
          subst hs' hs2 hs3
          have HS := Lib.hid (And.intro hSim (And.intro hnM (And.intro hsT hCM)))
          clear hPl hSim hnM hsT hCM hcell hWA hp
          go_upto_region 16 with (go_at_call 9; with_reducible refine (cR _ (HWA.out _)).mono ?_; intro en w2 h2; unfold MidPost at h2; obtain ⟨so2, cap2, rfl, hM, hMW⟩ := h2; have m0 := (blk_cell hM.box 0).trans rfl; have m1 := (blk_cell hM.box 1).trans rfl; have mf0 := blk_frozen hM.box 0; have mf1 := blk_frozen hM.box 1; have lr2 := blk_lt hM.box; have k0 := (blk_cell ((hMW.block wr.heap.size (by rw [Go.Deep.nblk_alloc]; omega) (fun x => x)).trans (Go.Deep.blk_alloc_new wr _)) 0).trans rfl; have k1 := (blk_cell ((hMW.block wr.heap.size (by rw [Go.Deep.nblk_alloc]; omega) (fun x => x)).trans (Go.Deep.blk_alloc_new wr _)) 1).trans rfl; have k2 := (blk_cell ((hMW.block wr.heap.size (by rw [Go.Deep.nblk_alloc]; omega) (fun x => x)).trans (Go.Deep.blk_alloc_new wr _)) 2).trans rfl; have HM2 := Lib.hid (And.intro hM hMW); clear hM hMW)
          obtain ⟨W4, hW4⟩ : ∃ W4, W4 = ((w2.setCell ⟨r, 0, none⟩ (.slice so2 s'.n cap2)).setCell ⟨r, 1, none⟩ (.int .i64 (C' : Int))).alloc (.cells #[.slice so2 s'.n cap2, .int .i64 (C' : Int)] 30) := ⟨_, rfl⟩
          have hT := pl_store HM2.out.1 hW4
          have hkr : wr.heap.size ≠ r := by omega
          have q1 := pl_keep hW4 hkr k1
          have q2 := pl_keep hW4 hkr k2
          rw [← hW4]
          clear hW4 m0 m1 mf0 mf1 k0 k1 k2
          have cP := cP W4 so2 cap2 hT
          clear hT
          go_wp2_with (first
            | (go_at_call 10; with_reducible refine cP.mono ?_; intro en w5 h5; unfold PlPost at h5; obtain ⟨rfl, hT5⟩ := h5; have n0 := (blk_cell hT5.box 0).trans rfl; have n1 := (blk_cell hT5.box 1).trans rfl; have HT5 := Lib.hid hT5; clear hT5)
            | (go_at_call 15; with_reducible refine (cS _ _ _ HT5.out).mono ?_; rintro en w6 ⟨rfl, hF⟩))
          go_roundw
          case rel => exact ⟨j + 1, by omega, by go_num, s', since', C', so2, cap2, hF, HE.out.1, HE.out.2.1, HE.out.2.2.1, HE.out.2.2.2⟩
          case measure => simp [intOf]; omega
      · by_cases hK2 : K = 2
        · subst hK2
          have cR := fun W (hW : Wrote Nil wr W) => r_back hPl id hW
          have cP := fun W so2 cap2 (h : PlTwo w W p r s (s.back id) since C so2 cap2) => p_back h
          have cS := fun W so2 cap2 (h : PlTwo w W p r (s.back id) (s.back id) since C so2 cap2) => p_same h (hSim.back id) (by omega)
          have hT' : ((s.back id)).T = T := (by unfold PS.back; split <;> exact hsT)
          rw [hT'] at cS
          have HE := Lib.hid (show Sim (s.back id) since C ∧ ((s.back id)).n = M ∧ ((s.back id)).T = T ∧ C ≤ M + (j + 1) from ⟨(hSim.back id), (by unfold PS.back; split <;> exact hnM), hT', by omega⟩)
          have HWA := Lib.hid hWA
          clear hT'
          obtain ⟨s', hs'⟩ : ∃ s', s' = s.back id := ⟨_, rfl⟩
          obtain ⟨E, hE⟩ : ∃ E, E = backE s id := ⟨_, rfl⟩
          obtain ⟨since', hs2⟩ : ∃ f, f = since := ⟨_, rfl⟩
          obtain ⟨C', hs3⟩ : ∃ c, c = C := ⟨_, rfl⟩
          rw [← hs'] at cR cP cS HE
          rw [← hE] at cR cP
          clear hs' hE
          subst hs2 hs3
          have HS := Lib.hid (And.intro hSim (And.intro hnM (And.intro hsT hCM)))
          clear hPl hSim hnM hsT hCM hcell hWA
          go_upto_region 22 with (go_at_call 11; with_reducible refine (cR _ (HWA.out _)).mono ?_; intro en w2 h2; unfold MidPost at h2; obtain ⟨so2, cap2, rfl, hM, hMW⟩ := h2; have m0 := (blk_cell hM.box 0).trans rfl; have m1 := (blk_cell hM.box 1).trans rfl; have mf0 := blk_frozen hM.box 0; have mf1 := blk_frozen hM.box 1; have lr2 := blk_lt hM.box; have k0 := (blk_cell ((hMW.block wr.heap.size (by rw [Go.Deep.nblk_alloc]; omega) (fun x => x)).trans (Go.Deep.blk_alloc_new wr _)) 0).trans rfl; have k1 := (blk_cell ((hMW.block wr.heap.size (by rw [Go.Deep.nblk_alloc]; omega) (fun x => x)).trans (Go.Deep.blk_alloc_new wr _)) 1).trans rfl; have k2 := (blk_cell ((hMW.block wr.heap.size (by rw [Go.Deep.nblk_alloc]; omega) (fun x => x)).trans (Go.Deep.blk_alloc_new wr _)) 2).trans rfl; have HM2 := Lib.hid (And.intro hM hMW); clear hM hMW)
          obtain ⟨W4, hW4⟩ : ∃ W4, W4 = ((w2.setCell ⟨r, 0, none⟩ (.slice so2 s'.n cap2)).setCell ⟨r, 1, none⟩ (.int .i64 (C' : Int))).alloc (.cells #[.slice so2 s'.n cap2, .int .i64 (C' : Int)] 30) := ⟨_, rfl⟩
          have hT := pl_store HM2.out.1 hW4
          have hkr : wr.heap.size ≠ r := by omega
          have q1 := pl_keep hW4 hkr k1
          have q2 := pl_keep hW4 hkr k2
          rw [← hW4]
          clear hW4 m0 m1 mf0 mf1 k0 k1 k2
          have cP := cP W4 so2 cap2 hT
          clear hT
          go_wp2_with (first
            | (go_at_call 12; with_reducible refine cP.mono ?_; intro en w5 h5; unfold PlPost at h5; obtain ⟨rfl, hT5⟩ := h5; have n0 := (blk_cell hT5.box 0).trans rfl; have n1 := (blk_cell hT5.box 1).trans rfl; have HT5 := Lib.hid hT5; clear hT5)
            | (go_at_call 15; with_reducible refine (cS _ _ _ HT5.out).mono ?_; rintro en w6 ⟨rfl, hF⟩))
          go_roundw
          case rel => exact ⟨j + 1, by omega, by go_num, s', since', C', so2, cap2, hF, HE.out.1, HE.out.2.1, HE.out.2.2.1, HE.out.2.2.2⟩
          case measure => simp [intOf]; omega
        · by_cases hK3 : K = 3
          · subst hK3
            have cR := fun W (hW : Wrote Nil wr W) => r_give hPl (by omega) id tt hW
            have cP := fun W so2 cap2 (h : PlTwo w W p r s (s.giveI id tt) (sinceG s since C id tt) (cntG s C id tt) so2 cap2) => p_give h
            have cS := fun W so2 cap2 (h : PlTwo w W p r (s.giveI id tt) (s.giveI id tt) (sinceG s since C id tt) (cntG s C id tt) so2 cap2) => p_same h hSim.giveI (by have := cntG_le s C id tt; omega)
            have hT' : ((s.giveI id tt)).T = T := ((giveI_nT s id tt).2.trans hsT)
            rw [hT'] at cS
            have HE := Lib.hid (show Sim (s.giveI id tt) (sinceG s since C id tt) (cntG s C id tt) ∧ ((s.giveI id tt)).n = M ∧ ((s.giveI id tt)).T = T ∧ (cntG s C id tt) ≤ M + (j + 1) from ⟨hSim.giveI, ((giveI_nT s id tt).1.trans hnM), hT', by have := cntG_le s C id tt; omega⟩)
            have HWA := Lib.hid hWA
            clear hT'
            obtain ⟨s', hs'⟩ : ∃ s', s' = s.giveI id tt := ⟨_, rfl⟩
            obtain ⟨E, hE⟩ : ∃ E, E = giveE s id tt := ⟨_, rfl⟩
            obtain ⟨since', hs2⟩ : ∃ f, f = sinceG s since C id tt := ⟨_, rfl⟩
            obtain ⟨C', hs3⟩ : ∃ c, c = cntG s C id tt := ⟨_, rfl⟩
            rw [← hs', ← hs2, ← hs3] at cR cP cS HE
            rw [← hE] at cR cP
            rw [hsT] at cR
            clear hs' hE hs2 hs3
            have HS := Lib.hid (And.intro hSim (And.intro hnM (And.intro hsT hCM)))
            clear hPl hSim hnM hsT hCM hcell hWA
            go_upto_region 27 with (go_at_call 13; with_reducible refine (cR _ (HWA.out _)).mono ?_; intro en w2 h2; unfold MidPost at h2; obtain ⟨so2, cap2, rfl, hM, hMW⟩ := h2; have m0 := (blk_cell hM.box 0).trans rfl; have m1 := (blk_cell hM.box 1).trans rfl; have mf0 := blk_frozen hM.box 0; have mf1 := blk_frozen hM.box 1; have lr2 := blk_lt hM.box; have k0 := (blk_cell ((hMW.block wr.heap.size (by rw [Go.Deep.nblk_alloc]; omega) (fun x => x)).trans (Go.Deep.blk_alloc_new wr _)) 0).trans rfl; have k1 := (blk_cell ((hMW.block wr.heap.size (by rw [Go.Deep.nblk_alloc]; omega) (fun x => x)).trans (Go.Deep.blk_alloc_new wr _)) 1).trans rfl; have k2 := (blk_cell ((hMW.block wr.heap.size (by rw [Go.Deep.nblk_alloc]; omega) (fun x => x)).trans (Go.Deep.blk_alloc_new wr _)) 2).trans rfl; have HM2 := Lib.hid (And.intro hM hMW); clear hM hMW)
            obtain ⟨W4, hW4⟩ : ∃ W4, W4 = ((w2.setCell ⟨r, 0, none⟩ (.slice so2 s'.n cap2)).setCell ⟨r, 1, none⟩ (.int .i64 (C' : Int))).alloc (.cells #[.slice so2 s'.n cap2, .int .i64 (C' : Int)] 30) := ⟨_, rfl⟩
            have hT := pl_store HM2.out.1 hW4
            have hkr : wr.heap.size ≠ r := by omega
            have q1 := pl_keep hW4 hkr k1
            have q2 := pl_keep hW4 hkr k2
            rw [← hW4]
            clear hW4 m0 m1 mf0 mf1 k0 k1 k2
            have cP := cP W4 so2 cap2 hT
            clear hT
            go_wp2_with (first
              | (go_at_call 14; with_reducible refine cP.mono ?_; intro en w5 h5; unfold PlPost at h5; obtain ⟨rfl, hT5⟩ := h5; have n0 := (blk_cell hT5.box 0).trans rfl; have n1 := (blk_cell hT5.box 1).trans rfl; have HT5 := Lib.hid hT5; clear hT5)
              | (go_at_call 15; with_reducible refine (cS _ _ _ HT5.out).mono ?_; rintro en w6 ⟨rfl, hF⟩))
            go_roundw
            case rel => exact ⟨j + 1, by omega, by go_num, s', since', C', so2, cap2, hF, HE.out.1, HE.out.2.1, HE.out.2.2.1, HE.out.2.2.2⟩
            case measure => simp [intOf]; omega
          · have cS := fun o => p_same (hPl.same (hWA o)) hSim (by omega)
            rw [hsT] at cS
            have HS := Lib.hid (And.intro hSim (And.intro hnM (And.intro hsT hCM)))
            clear hPl hSim hnM hsT hCM hcell hWA
            go_wp2_with (go_at_call 15; with_reducible refine (cS _).mono ?_; rintro en w5 ⟨rfl, hF⟩)
            go_roundw
            case rel => exact ⟨j + 1, by omega, by go_num, s, since, C, so', cap', hF, HS.out.1, HS.out.2.1, HS.out.2.2.1, by have := HS.out.2.2.2; omega⟩
            case measure => simp [intOf]; omega
    · have HW := Lib.hid (show Wrote Nil w wr by obtain ⟨_, _, _, _, _, hPl, _⟩ := hPS; exact hPl.pool.wrote)
      clear hPS hat
      obtain rfl : j = len2 := by omega
      go_wp2_with (go_at_call 6; refine (po_awake _).mono ?_; rintro en w9 ⟨rfl, hW9⟩)
      go_ret
      exact ⟨rfl, (HW.out.nil hW9).law⟩


/-! the row -/
set_option maxRecDepth 100000 in
theorem lifted (os : Os) (started : os.Started) (H : Type) (enc : TypeId × Value → H) :
    ReturnsInHanded {} Try.checked os 3 .any (Rows.poolPlaysSpec.pre6 enc Try.prog Try.f3 Rows.poolPlaysRow.domain false) (Rows.poolPlaysSpec.post enc Try.prog Try.f3 false true false false) := by
  refine returnsInHanded_of_change (C := Try.checked) own started (by kernel_rfl) Try.func3
    (ChangeSpec.witness6 (enc := enc) (C := Try.checked) false ⟨#[], #[.int .i64 0, .int .i64 0, .slice none 0 0], []⟩ 8 (by kernel_rfl) (by kernel_rfl) (by kernel_rfl) (by kernel_rfl)) ?_
  intro W base args ds gs before hval0 hW hcnd _
  have hval : ∀ (j : Nat) t v, Try.f3.params[j]? = some t → args[j]? = some v → Value.okWide Try.prog W .any base t v := hval0
  have hW' := hW
  obtain ⟨p, q, hA0, hV, rfl, hfz, hnd⟩ := hW
  have hA : DataW.TrodAll enc Try.prog W 0 (fun _ => true) true Try.f3.params.toList args.toList ds p := hA0
  rw [Try.params3] at hA hval
  obtain ⟨v0, vs0, d0, ds0, p0, q0, hargs, rfl, rfl, h0, r0'⟩ := trodAll_cons hA
  obtain ⟨v1, vs1, d1, ds1, p1, q1, rfl, rfl, rfl, h1, r1'⟩ := trodAll_cons r0'
  obtain ⟨v2, vs2, d2, ds2, p2, q2, rfl, rfl, rfl, h2, r2'⟩ := trodAll_cons r1'
  obtain ⟨rfl, rfl, rfl⟩ := trodAll_nil r2'
  obtain rfl : args = #[v0, v1, v2] := by cases args; simp_all
  obtain ⟨rfl, rfl⟩ := trodVars_none hV
  obtain ⟨a0, rfl, rfl, rfl, w0⟩ := open_int Try.underlying3 (hval 0 3 v0 rfl rfl) h0
  obtain ⟨a1, rfl, rfl, rfl, w1⟩ := open_int Try.underlying3 (hval 1 3 v1 rfl rfl) h1
  have k2 := h2
  have lt2 : ∀ x ∈ p2, x.block < W.heap.size := by obtain ⟨m, hm⟩ := k2; exact DataW.trod_lt m _ _ _ hm
  obtain ⟨s2, len2, cap2, rfl⟩ := okWide_slice Try.underlying22 (hval 2 22 v2 rfl rfl)
  obtain ⟨l2, z2, r2⟩ := open_slice_ints (ks := [.i64, .i64, .i64]) Try.underlying22 Try.underlying33 (by kernel_rfl) (by kernel_rfl) h2
  clear hA0 hval0
  refine (walk a0 a1 s2 len2 cap2 z2 W w0 w1 l2 r2).mono fun e W' ⟨he, bel⟩ => ?_
  subst he
  exact ⟨_, rfl, _, _, _, [], _, [], hW', trodAll_mk1 (shut_bool Try.underlying4 _), (trodAll_cons_mk (shut_int Try.underlying3 w0) (trodAll_cons_mk (shut_int Try.underlying3 w1) (trodAll_cons_mk (Below.trod laidOut (by kernel_rfl) (of_decide_eq_true (by kernel_rfl)) k2 bel lt2) trodAll_mk0))), rfl, bel.frame _, fun h => by cases h⟩

theorem over : Rows.poolPlaysRow.holds Try.pinned (OpenSpec.ofChange Rows.poolPlaysSpec) :=
  OpenClaim.holds_of_wide 3 Try.f3 rfl rfl rfl rfl rfl rfl rfl ⟨rfl, rfl, rfl, rfl, rfl⟩ rfl rfl rfl rfl rfl (by kernel_rfl) Try.func3 (by kernel_rfl)
    (of_decide_eq_true (by kernel_rfl)) (by unfold Func.isWrapper; first | (rw [if_pos (by decide +kernel)]; kernel_rfl) | (rw [if_neg (by decide +kernel)]; exact ⟨rfl, rfl⟩))
    (fun os started H enc _ => lifted os started H enc)

/-- the statement -/
theorem proved : Rows.PoolPlaysSaid := over
#print axioms proved
end Go.Proofs.Ytjkheoiebabkhaa.poolPlays
