/- For every input the Go function SeatPlays of weighlocklaw09 returns true, and its arguments read afterwards as before. Conditions: none. -/
import Derived.Test.YtlmkikdopmppiaaRows
import Derived.WalkKit
import Derived.ProofKit
import Derived.OpenShut
import Derived.ChangeOld
import Derived.Below
import Derived.Carry
import Derived.Test.YtlmkikdopmppiaaSeatTwo
import Derived.Deep.Cut
import Derived.Deep.CutBlock
import Derived.Deep.CutRange
import Derived.Deep.RegionHeld3
import Derived.BigQuiet
import Derived.BigFrame
import Derived.Test.YtlmkikdopmppiaaMix
namespace Go.Proofs.Ytlmkikdopmppiaa.seatPlays
open Go.ChangeShapes Go.WideShapes Go.ChangeAt Go.RowKit Go.BigFrame
set_option linter.unusedVariables false

theorem own : ownKnob Try.prog.godebug = none := by kernel_rfl
theorem laidOut : laidOutB Try.prog = true := by kernel_rfl

/-! the walk -/
set_option maxRecDepth 100000 in
set_option maxHeartbeats 8000000 in
theorem walk (a0_0 : Int) (b0_1 : Bool) (b0_2 : Bool) (s0_3 : Option Addr) (len0_3 cap0_3 : Nat) (z0_3 : Nat → Nat → Int) (w : World) (w0_0 : (Lit.int .i64 a0_0).wf = true) (l0_3 : len0_3 ≤ cap0_3 ∧ cap0_3 ≤ maxLen ∧ (s0_3 = none → cap0_3 = 0)) (r0_3 : Structs w [.i64, .i64, .i64] s0_3 len0_3 z0_3) :
    Calls Try.prog 3 #[.agg #[.int .i64 a0_0, .bool b0_1, .bool b0_2, .slice s0_3 len0_3 cap0_3]] w fun e w' => e = .returned (.bool true) ∧ Below w.heap.size w w' := by
  obtain ⟨t0, t1⟩ := i64_bd w0_0
  have hml : len0_3 ≤ 9223372036854775807 := by have := l0_3.1; have := l0_3.2.1; unfold maxLen at this; omega
  obtain ⟨Z, hZ⟩ : ∃ Z, Z = w.alloc (.cells #[.int .i64 a0_0, .bool b0_1, .bool b0_2, .slice s0_3 len0_3 cap0_3] 24) := ⟨_, rfl⟩
  have hWZ : Wrote Nil w Z := by rw [hZ]; exact (Wrote.refl _ _).alloc _
  have z0 : Z.cell? ⟨w.heap.size, 0, none⟩ = some (.int .i64 a0_0) := by rw [hZ]; simp
  have z1 : Z.cell? ⟨w.heap.size, 1, none⟩ = some (.bool b0_1) := by rw [hZ]; simp
  have z2 : Z.cell? ⟨w.heap.size, 2, none⟩ = some (.bool b0_2) := by rw [hZ]; simp
  have z3 : Z.cell? ⟨w.heap.size, 3, none⟩ = some (.slice s0_3 len0_3 cap0_3) := by rw [hZ]; simp
  have HZ := Lib.hid (And.intro hZ hWZ)
  clear hZ hWZ l0_3 w0_0
  by_cases hbig : 12 < a0_0
  · clear r0_3
    go_enter Try.func3, Try.ntmps3
    go_wp2
    rw [← HZ.out.1]
    go_big_quiet (fail)
    go_wp2_with (go_at_call 6; refine (se_awake _).mono ?_; rintro e w6 ⟨rfl, hW6⟩)
    go_ret
    exact ⟨rfl, ((HZ.out.2.drewN _).nil hW6).law⟩
  by_cases hlen : 60 < len0_3
  · clear r0_3
    go_enter Try.func3, Try.ntmps3
    go_wp2
    rw [← HZ.out.1]
    go_big_quiet (fail)
    go_wp2_with (go_at_call 6; refine (se_awake _).mono ?_; rintro e w6 ⟨rfl, hW6⟩)
    go_ret
    exact ⟨rfl, ((HZ.out.2.drewN _).nil hW6).law⟩
  by_cases hbad : a0_0 < 1
  · have c := fun W => se_new_no a0_0 b0_1 b0_2 (by omega) W
    clear r0_3
    go_enter Try.func3, Try.ntmps3
    go_wp2
    rw [← HZ.out.1]
    go_big_quiet (fail)
    go_wp2_with (first
      | (go_at_call 7; (with_reducible refine (c _).mono ?_); rintro e w' ⟨rfl, rfl⟩)
      | (go_at_call 6; refine (se_awake _).mono ?_; rintro e w6 ⟨rfl, hW6⟩))
    go_ret
    exact ⟨rfl, ((HZ.out.2.drewN _).nil hW6).law⟩
  obtain ⟨n, rfl⟩ := Int.eq_ofNat_of_zero_le (show 0 ≤ a0_0 by omega)
  have n1 : 1 ≤ n := by omega
  have n2 : n ≤ 12 := by omega
  have hat := r0_3.at (by decide)
  have cN := fun W => si_new n b0_1 b0_2 n1 (by omega) W
  have cR := fun W => rs_new n b0_1 b0_2 (by omega) W
  have hb1 : ¬ (n : Int) < 1 := by omega
  have hb2 : ¬ (12 : Int) < (n : Int) := by omega
  have HAT := Lib.hid hat
  clear r0_3 hbig hbad t0 t1 hat
  go_enter Try.func3, Try.ntmps3
  go_wp2
  rw [← HZ.out.1]
  go_big_quiet (fail)
  generalize hY : Z.drewN nq = Y
  have hWY : Wrote Nil w Y := by rw [← hY]; exact HZ.out.2.drewN _
  have HY := Lib.hid hWY
  clear hY hWY z0 z1 z2 z3 HZ
  go_wp2_with (first
    | (go_at_call 7; (with_reducible refine (cN _).mono ?_); intro e w1 hq; unfold SinceNew at hq; obtain ⟨p, b, rfl, h1⟩ := hq; have hl := se_len h1.at_)
    | (go_at_call 8; (with_reducible refine hl.mono ?_); rintro e w2 ⟨rfl, rfl⟩; rw [show (newSeat n b0_1 b0_2).n = n from rfl])
    | (go_at_call 9; (with_reducible refine (cR _).mono ?_); intro e w2 hq; unfold RsNewPost at hq; obtain ⟨r, hv, dv, rfl, hR, hnew, hW2⟩ := hq))
  have hS : SpSt w w2 p b r n hv dv := sp_start rfl HY.out h1 hR hnew hW2
  clear h1 hR hnew hW2 hl cN cR
  go_loopw [67] (fun i wr => ∃ j : Nat, j ≤ len0_3 ∧ i = .int .i64 j ∧ SpSt w wr p b r n hv dv) (fun i _ => len0_3 - (intOf i).toNat)
  case atStart => exact ⟨0, Nat.zero_le _, rfl, hS⟩
  case round =>
    clear hS
    obtain ⟨j, hj, rfl, s, hsn, hS⟩ := hrel
    by_cases hlt : j < len0_3
    · rcases HAT.out with e0 | ⟨gb, go, rfl, hcell⟩
      · omega
      have y0 : wr.cell? ⟨gb, go + j * 3, none⟩ = some (.int .i64 (z0_3 j 0)) := hS.seat.wrote.old (hcell j hlt 0 _ rfl).1
      have y1 : wr.cell? ⟨gb, go + j * 3 + 1, none⟩ = some (.int .i64 (z0_3 j 1)) := hS.seat.wrote.old (hcell j hlt 1 _ rfl).1
      have y2 : wr.cell? ⟨gb, go + j * 3 + 2, none⟩ = some (.int .i64 (z0_3 j 2)) := hS.seat.wrote.old (hcell j hlt 2 _ rfl).1
      generalize z0_3 j 0 = K at y0
      generalize z0_3 j 1 = tt at y1
      generalize z0_3 j 2 = N at y2
      clear hcell
      obtain ⟨X, hX⟩ : ∃ X, X = wr.alloc (.cells #[.int .i64 K, .int .i64 tt, .int .i64 N] 34) := ⟨_, rfl⟩
      have hSX : SpAt w X p b r hv dv s s := by rw [hX]; exact hS.after ((Wrote.refl _ _).alloc _)
      obtain ⟨B, hB⟩ : ∃ B, B = wr.heap.size := ⟨_, rfl⟩
      have hB1 : ¬ SF r hv dv B := fun x => by have := SrAt.lt hS.ref x; omega
      have hB2 : B ≠ b := fun x => by have := blk_lt hS.seat.at_.ctx; omega
      have g0 : X.cell? ⟨wr.heap.size, 0, none⟩ = some (.int .i64 K) := by rw [hX]; simp
      have g1 : X.cell? ⟨wr.heap.size, 1, none⟩ = some (.int .i64 tt) := by rw [hX]; simp
      have g2 : X.cell? ⟨wr.heap.size, 2, none⟩ = some (.int .i64 N) := by rw [hX]; simp
      rw [← hB] at g0 g1 g2
      have HX := Lib.hid (And.intro hX (And.intro hSX (And.intro hB1 (And.intro hB2 (And.intro hsn hB)))))
      clear hS hX hSX hB1 hB2 hsn hB
      go_upto_block 2 with fail
      rw [← HX.out.1]
      have hB := HX.out.2.2.2.2.2
      rw [← hB]
      clear hB y0 y1 y2
      go_cut [12, 13] from 73 to 140 (fun v12 v13 wx => ∃ (x : Int) (s' : SS), v12 = .int .i64 x ∧ v13 = .int .i64 x ∧ s'.n = n ∧ SpAt w wx p b r hv dv s' s')
      case first =>
        by_cases hK1 : K = 1
        · subst hK1
          have hS0 : SpAt w X.drew p b r hv dv s s := HX.out.2.1.after ((Wrote.refl _ _).drew)
          have x1 : X.drew.cell? ⟨B, 1, none⟩ = some (.int .i64 tt) := g1
          have x2 : X.drew.cell? ⟨B, 2, none⟩ = some (.int .i64 N) := g2
          have HN := Lib.hid (show (s.lock tt N).n = n from by rw [SS.lock_n]; exact HX.out.2.2.2.2.1)
          have cA := sp_rlock hS0 HX.out.2.2.1 (by rw [HX.out.2.2.2.2.1]; exact n1) (by rw [HX.out.2.2.2.2.1]; omega) tt N
          have cAA := fun W (h : SpAt w W p b r hv dv (s.lock tt N) s) => sp_rlock h HX.out.2.2.1 (by rw [HX.out.2.2.2.2.1]; exact n1) (by rw [HX.out.2.2.2.2.1]; omega) tt N
          have HC := Lib.hid (And.intro cA (And.intro (sp_lock hS0 HX.out.2.2.2.1 tt N) (And.intro (fun W (h : SpAt w W p b r hv dv s (s.lock tt N)) => sp_lock h HX.out.2.2.2.1 tt N) cAA)))
          clear hS0 cA cAA g0 g1 g2
          go_wp2
          go_region_held3 (fun w' => w'.cell? ⟨B, 1, none⟩ = some (.int .i64 tt) ∧ w'.cell? ⟨B, 2, none⟩ = some (.int .i64 N)) (first | exact ⟨x1, x2⟩ | exact ⟨d1, d2⟩ | exact ⟨f1, f2⟩)
            (first
              | (go_at_call 10; (with_reducible refine HC.out.1.mono ?_); intro e wA hq; unfold SpPost at hq; obtain ⟨rfl, hA, kA⟩ := hq; have d1 := kA _ _ x1; have d2 := kA _ _ x2)
              | (go_at_call 11; (with_reducible refine HC.out.2.1.mono ?_); intro e wB hq; unfold SpPost at hq; obtain ⟨rfl, hBB, kB⟩ := hq; have d1 := kB _ _ x1; have d2 := kB _ _ x2)
              | (go_at_call 11; (with_reducible refine (HC.out.2.2.1 _ hA).mono ?_); intro e wF hq; unfold SpPost at hq; obtain ⟨rfl, hF, kF⟩ := hq; have f1 := kF _ _ d1; have f2 := kF _ _ d2)
              | (go_at_call 10; (with_reducible refine (HC.out.2.2.2 _ hBB).mono ?_); intro e wF hq; unfold SpPost at hq; obtain ⟨rfl, hF, kF⟩ := hq; have f1 := kF _ _ d1; have f2 := kF _ _ d2))
          all_goals
            go_wp2
            go_meet
            exact ⟨_, _, rfl, rfl, HN.out, hF⟩
        · have k1 : (K == 1) = false := beq_false_of_ne hK1
          by_cases hK2 : K = 2
          · subst hK2
            have hS0 : SpAt w X.drew p b r hv dv s s := HX.out.2.1.after ((Wrote.refl _ _).drew)
            have x1 : X.drew.cell? ⟨B, 1, none⟩ = some (.int .i64 tt) := g1
            have HN := Lib.hid (show (s.turn tt 3).n = n from by rw [SS.turn_n]; exact HX.out.2.2.2.2.1)
            have cA := sp_rturn hS0 HX.out.2.2.1 (by rw [HX.out.2.2.2.2.1]; exact n1) (by rw [HX.out.2.2.2.2.1]; omega) tt 3 (by decide)
            have cAA := fun W (h : SpAt w W p b r hv dv (s.turn tt 3) s) => sp_rturn h HX.out.2.2.1 (by rw [HX.out.2.2.2.2.1]; exact n1) (by rw [HX.out.2.2.2.2.1]; omega) tt 3 (by decide)
            rw [(rturn_three s tt).1, (rturn_three s tt).2] at cA
            simp only [(rturn_three s tt).1, (rturn_three s tt).2] at cAA
            have HC := Lib.hid (And.intro cA (And.intro (sp_unlock hS0 HX.out.2.2.2.1 tt) (And.intro (fun W (h : SpAt w W p b r hv dv s (s.turn tt 3)) => sp_unlock h HX.out.2.2.2.1 tt) cAA)))
            clear hS0 cA cAA g0 g1 g2
            go_wp2
            go_region_held3 (fun w' => w'.cell? ⟨B, 1, none⟩ = some (.int .i64 tt)) (first | exact x1 | exact d1 | exact f1)
              (first
                | (go_at_call 12; (with_reducible refine HC.out.1.mono ?_); intro e wA hq; unfold SpPost at hq; obtain ⟨rfl, hA, kA⟩ := hq; have d1 := kA _ _ x1)
                | (go_at_call 13; (with_reducible refine HC.out.2.1.mono ?_); intro e wB hq; unfold SpPost at hq; obtain ⟨rfl, hBB, kB⟩ := hq; have d1 := kB _ _ x1)
                | (go_at_call 13; (with_reducible refine (HC.out.2.2.1 _ hA).mono ?_); intro e wF hq; unfold SpPost at hq; obtain ⟨rfl, hF, kF⟩ := hq; have f1 := kF _ _ d1)
                | (go_at_call 12; (with_reducible refine (HC.out.2.2.2 _ hBB).mono ?_); intro e wF hq; unfold SpPost at hq; obtain ⟨rfl, hF, kF⟩ := hq; have f1 := kF _ _ d1))
            all_goals
              go_wp2
              go_meet
              exact ⟨_, _, rfl, rfl, HN.out, hF⟩
          · have k2 : (K == 2) = false := beq_false_of_ne hK2
            by_cases hK3 : K = 3
            · subst hK3
              have hS0 : SpAt w X.drew p b r hv dv s s := HX.out.2.1.after ((Wrote.refl _ _).drew)
              have x1 : X.drew.cell? ⟨B, 1, none⟩ = some (.int .i64 tt) := g1
              have HN := Lib.hid (show (s.probe tt).n = n from by rw [SS.probe_n]; exact HX.out.2.2.2.2.1)
              have cA := sp_rturn hS0 HX.out.2.2.1 (by rw [HX.out.2.2.2.2.1]; exact n1) (by rw [HX.out.2.2.2.2.1]; omega) tt 4 (by decide)
              have cAA := fun W (h : SpAt w W p b r hv dv (s.probe tt) s) => sp_rturn h HX.out.2.2.1 (by rw [HX.out.2.2.2.2.1]; exact n1) (by rw [HX.out.2.2.2.2.1]; omega) tt 4 (by decide)
              rw [(rturn_four s tt).1, (rturn_four s tt).2] at cA
              simp only [(rturn_four s tt).1, (rturn_four s tt).2] at cAA
              have HC := Lib.hid (And.intro cA (And.intro (sp_probe hS0 HX.out.2.2.2.1 tt) (And.intro (fun W (h : SpAt w W p b r hv dv s (s.probe tt)) => sp_probe h HX.out.2.2.2.1 tt) cAA)))
              clear hS0 cA cAA g0 g1 g2
              go_wp2
              go_region_held3 (fun w' => w'.cell? ⟨B, 1, none⟩ = some (.int .i64 tt)) (first | exact x1 | exact d1 | exact f1)
                (first
                  | (go_at_call 12; (with_reducible refine HC.out.1.mono ?_); intro e wA hq; unfold SpPost at hq; obtain ⟨rfl, hA, kA⟩ := hq; have d1 := kA _ _ x1)
                  | (go_at_call 14; (with_reducible refine HC.out.2.1.mono ?_); intro e wB hq; unfold SpPost at hq; obtain ⟨rfl, hBB, kB⟩ := hq; have d1 := kB _ _ x1)
                  | (go_at_call 14; (with_reducible refine (HC.out.2.2.1 _ hA).mono ?_); intro e wF hq; unfold SpPost at hq; obtain ⟨rfl, hF, kF⟩ := hq; have f1 := kF _ _ d1)
                  | (go_at_call 12; (with_reducible refine (HC.out.2.2.2 _ hBB).mono ?_); intro e wF hq; unfold SpPost at hq; obtain ⟨rfl, hF, kF⟩ := hq; have f1 := kF _ _ d1))
              all_goals
                go_wp2
                go_meet
                exact ⟨_, _, rfl, rfl, HN.out, hF⟩
            · have k3 : (K == 3) = false := beq_false_of_ne hK3
              by_cases hK4 : K = 4
              · subst hK4
                have HN := Lib.hid (show (s.fin tt N).n = n from by rw [SS.fin_n]; exact HX.out.2.2.2.2.1)
                have cA := sp_rend HX.out.2.1 HX.out.2.2.1 (by rw [HX.out.2.2.2.2.1]; exact n1) (by rw [HX.out.2.2.2.2.1]; omega) tt N
                have HC := Lib.hid (And.intro cA (fun W (h : SpAt w W p b r hv dv s (s.fin tt N)) => sp_end h HX.out.2.2.2.1 tt N))
                clear cA
                cases hE : endB s tt N
                all_goals
                  have hI := show endI s tt N = _ from by unfold endI; rw [hE]
                  have HI := Lib.hid (And.intro hE hI)
                  clear hE hI
                  go_wp2_with (first
                    | (go_at_call 15; (with_reducible refine HC.out.1.mono ?_); intro e wA hq; unfold SpPost at hq; obtain ⟨rfl, hA, kA⟩ := hq; have d1 := kA _ _ g1; have d2 := kA _ _ g2; rw [HI.out.2])
                    | (go_at_call 16; (with_reducible refine (HC.out.2 _ hA).mono ?_); intro e wF hq; unfold SpPost at hq; obtain ⟨rfl, hF, kF⟩ := hq; rw [HI.out.1]))
                  go_meet
                  exact ⟨_, _, rfl, rfl, HN.out, hF⟩
              · have k4 : (K == 4) = false := beq_false_of_ne hK4
                have HN := Lib.hid HX.out.2.2.2.2.1
                clear hK1 hK2 hK3 hK4 g1 g2
                go_wp2
                go_meet
                exact ⟨_, s, rfl, rfl, HN.out, HX.out.2.1⟩
      case rest =>
        obtain ⟨x, s', rfl, rfl, hsn, hS⟩ := hcut
        have cI := se_state hS.seat.at_ (-1)
        have cJ := se_state hS.seat.at_ (n : Int)
        have cD := se_deadline hS.seat.at_ (n : Int)
        rw [s'.stI_no (by omega)] at cI cJ
        rw [s'.dlI_no (by omega)] at cD
        have HS := Lib.hid (And.intro hsn hS)
        clear hsn hS g0 g1 g2
        go_wp2_with (first
          | (go_at_call 17; (first | (with_reducible refine cI.mono ?_) | (with_reducible refine cJ.mono ?_)); rintro e w3 ⟨rfl, rfl⟩)
          | (go_at_call 18; (with_reducible refine cD.mono ?_); rintro e w3 ⟨rfl, rfl⟩))
        go_loopw [142] (fun i wr => ∃ k : Nat, k ≤ n ∧ i = .int .i64 k ∧ SpAt w wr p b r hv dv s' s') (fun i _ => n - (intOf i).toNat)
        case atStart => exact ⟨0, Nat.zero_le _, rfl, HS.out.2⟩
        case round =>
          clear cI cJ cD
          obtain ⟨k, hk, rfl, hS⟩ := hrel
          by_cases hlk : k < n
          · have hks : k < s'.n := by rw [HS.out.1]; exact hlk
            obtain ⟨gs, cs, rfl, hgs⟩ := SrAt.stV hS.ref (by omega)
            obtain ⟨gd, cd, rfl, hgd⟩ := SrAt.dlV hS.ref (by omega)
            have e0 := (hgs k _ (stL_at s' hks)).1
            have e1 := (hgd k _ (dlL_at s' hks)).1
            have q0 := SrAt.cell0 hS.ref
            have q1 := SrAt.cell1 hS.ref
            have cA : ∀ m, Calls Try.prog 17 #[.pointer (some ⟨p, 0, none⟩), .int .i64 (k : Int)] (wr.drewN m) fun e w' => e = .returned (.int .i64 (s'.st k)) ∧ w' = wr.drewN m := fun m => by
              rw [← s'.stI_at hks]
              exact (se_state (hS.after ((Wrote.refl Nil wr).drewN m)).seat.at_ (k : Int)).mono fun e w' h => ⟨h.1, h.2.symm⟩
            have cB : ∀ m, Calls Try.prog 18 #[.pointer (some ⟨p, 0, none⟩), .int .i64 (k : Int)] (wr.drewN m) fun e w' => e = .returned (.int .i64 (s'.dlS k)) ∧ w' = wr.drewN m := fun m => by
              rw [← s'.dlI_at hks]
              exact (se_deadline (hS.after ((Wrote.refl Nil wr).drewN m)).seat.at_ (k : Int)).mono fun e w' h => ⟨h.1, h.2.symm⟩
            have HF := Lib.hid hS
            rw [HS.out.1] at q0 q1
            clear hS hgs hgd hks
            generalize s'.st k = v0 at *
            generalize s'.dlS k = v1 at *
            go_wp2
            go_big_quiet (first
              | (go_at_call 17; with_reducible exact Calls.quiet_of_same (cA _))
              | (go_at_call 18; with_reducible exact Calls.quiet_of_same (cB _)))
            go_wp2
            go_roundw
            case rel => exact ⟨k + 1, by omega, by go_num, HF.out.after ((Wrote.refl Nil wr).drewN _)⟩
            case measure => simp [intOf]; omega
          · have HF := Lib.hid (And.intro HS.out.1 hS)
            have hkI : ¬ (k : Int) < (n : Int) := by omega
            clear hS
            go_wp2
            go_roundw
            case rel => exact ⟨j + 1, by omega, by go_num, s', HF.out.1, HF.out.2⟩
            case measure => simp [intOf]; omega
    · have hlI : ¬ (j : Int) < (len0_3 : Int) := by omega
      have HF := Lib.hid hS
      clear hS
      go_wp2_with (go_at_call 6; refine (se_awake _).mono ?_; rintro e w6 ⟨rfl, hW6⟩)
      go_ret
      exact ⟨rfl, (HF.out.seat.wrote.nil hW6).law⟩

/-! the row -/
set_option maxRecDepth 100000 in
theorem lifted (os : Os) (started : os.Started) (H : Type) (enc : TypeId × Value → H) :
    ReturnsInHanded {} Try.checked os 3 .any (Rows.seatPlaysSpec.pre6 enc Try.prog Try.f3 Rows.seatPlaysRow.domain false) (Rows.seatPlaysSpec.post enc Try.prog Try.f3 false true false false) := by
  refine returnsInHanded_of_change (C := Try.checked) own started (by kernel_rfl) Try.func3
    (ChangeSpec.witness6 (enc := enc) (C := Try.checked) false ⟨#[], #[.agg #[.int .i64 0, .bool false, .bool false, .slice none 0 0]], []⟩ 8 (by kernel_rfl) (by kernel_rfl) (by kernel_rfl) (by kernel_rfl)) ?_
  intro W base args ds gs before hval0 hW hcnd _
  have hval : ∀ (j : Nat) t v, Try.f3.params[j]? = some t → args[j]? = some v → Value.okWide Try.prog W .any base t v := hval0
  have hW' := hW
  obtain ⟨p, q, hA0, hV, rfl, hfz, hnd⟩ := hW
  have hA : DataW.TrodAll enc Try.prog W 0 (fun _ => true) true Try.f3.params.toList args.toList ds p := hA0
  rw [Try.params3] at hA hval
  obtain ⟨v0, vs0, d0, ds0, p0, q0, hargs, rfl, rfl, h0, r0'⟩ := trodAll_cons hA
  obtain ⟨rfl, rfl, rfl⟩ := trodAll_nil r0'
  obtain rfl : args = #[v0] := by cases args; simp_all
  obtain ⟨rfl, rfl⟩ := trodVars_none hV
  have k0 := h0
  have lt0 : ∀ x ∈ p0, x.block < W.heap.size := by obtain ⟨m, hm⟩ := k0; exact DataW.trod_lt m _ _ _ hm
  obtain ⟨cs0, rfl, hl0, hf0⟩ := open_struct_fields (m := 4) Try.underlying24 (by kernel_rfl) (by kernel_rfl) (hval 0 24 v0 rfl rfl) h0
  obtain ⟨c0_0, c0_1, c0_2, c0_3, rfl⟩ := list4 hl0
  obtain ⟨n0_0, y0_0, e0_0⟩ := hf0 0 _ _ rfl rfl
  obtain ⟨a0_0, rfl, w0_0⟩ := fld_int Try.underlying3 e0_0
  obtain ⟨n0_1, y0_1, e0_1⟩ := hf0 1 _ _ rfl rfl
  obtain ⟨b0_1, rfl⟩ := fld_bool Try.underlying4 e0_1
  obtain ⟨n0_2, y0_2, e0_2⟩ := hf0 2 _ _ rfl rfl
  obtain ⟨b0_2, rfl⟩ := fld_bool Try.underlying4 e0_2
  obtain ⟨n0_3, y0_3, e0_3⟩ := hf0 3 _ _ rfl rfl
  obtain ⟨s0_3, len0_3, cap0_3, rfl, g0_3⟩ := fld_slice Try.underlying22 e0_3
  obtain ⟨l0_3, z0_3, r0_3⟩ := open_slice_ints (ks := [.i64, .i64, .i64]) Try.underlying22 Try.underlying34 (by kernel_rfl) (by kernel_rfl) g0_3
  clear hA0 hval0
  refine (walk a0_0 b0_1 b0_2 s0_3 len0_3 cap0_3 z0_3 W w0_0 l0_3 r0_3).mono fun e W' ⟨he, bel⟩ => ?_
  subst he
  exact ⟨_, rfl, _, _, _, [], _, [], hW', trodAll_mk1 (shut_bool Try.underlying4 _), (trodAll_cons_mk (Below.trod laidOut (by kernel_rfl) (of_decide_eq_true (by kernel_rfl)) k0 bel lt0) trodAll_mk0), rfl, bel.frame _, fun h => by cases h⟩

theorem over : Rows.seatPlaysRow.holds Try.pinned (OpenSpec.ofChange Rows.seatPlaysSpec) :=
  OpenClaim.holds_of_wide 3 Try.f3 rfl rfl rfl rfl rfl rfl rfl ⟨rfl, rfl, rfl, rfl, rfl⟩ rfl rfl rfl rfl rfl (by kernel_rfl) Try.func3 (by kernel_rfl)
    (of_decide_eq_true (by kernel_rfl)) (by unfold Func.isWrapper; first | (rw [if_pos (by decide +kernel)]; kernel_rfl) | (rw [if_neg (by decide +kernel)]; exact ⟨rfl, rfl⟩))
    (fun os started H enc _ => lifted os started H enc)

/-- the statement -/
theorem proved : Rows.SeatPlaysSaid := over
#print axioms proved
end Go.Proofs.Ytlmkikdopmppiaa.seatPlays
