/- For every input the Go function SlotsOne of weighlocklaw11 returns true, and its arguments read afterwards as before. Conditions: none. -/
import Derived.Test.YtiddapikahchkaaRows
import Derived.WalkKit
import Derived.ProofKit
import Derived.OpenShut
import Derived.ChangeOld
import Derived.Below
import Derived.Carry
import Derived.Deep.CutRange
import Derived.BigFrame
import Derived.BigQuiet
import Derived.Test.YtiddapikahchkaaMix
import Derived.Test.YtiddapikahchkaaSlotsLaw
import Derived.Test.YtiddapikahchkaaLockOrd
namespace Go.Proofs.Ytiddapikahchkaa.slotsOne
open Go.ChangeShapes Go.WideShapes Go.ChangeAt Go.RowKit
set_option linter.unusedVariables false

theorem own : ownKnob Try.prog.godebug = none := by kernel_rfl
theorem laidOut : laidOutB Try.prog = true := by kernel_rfl

/-! the walk -/
/-- between two calls -/
def OneSt (w0 wr : World) (L : Lp) (sz k : Nat) : Prop := ∃ (f : FL) (W : List Nat), LkS w0 wr L f ∧ OrdI f W ∧ f.ps.D.length ≤ k ∧ f.sz = sz
set_option maxRecDepth 100000 in
set_option maxHeartbeats 4000000 in
theorem walk (s0_0 : Option Addr) (len0_0 cap0_0 : Nat) (z0_0 : List Int) (a0_1 : Int) (a0_2 : Int) (s0_3 : Option Addr) (len0_3 cap0_3 : Nat) (z0_3 : Nat → Nat → Int) (w : World) (l0_0 : len0_0 ≤ cap0_0 ∧ cap0_0 ≤ maxLen ∧ (s0_0 = none → cap0_0 = 0)) (r0_0 : RowAt .i64 w s0_0 len0_0 z0_0) (w0_0 : ∀ z ∈ z0_0, (Lit.int .i64 z).wf = true) (w0_1 : (Lit.int .u8 a0_1).wf = true) (w0_2 : (Lit.int .u32 a0_2).wf = true) (l0_3 : len0_3 ≤ cap0_3 ∧ cap0_3 ≤ maxLen ∧ (s0_3 = none → cap0_3 = 0)) (r0_3 : Structs w [.i64, .i64, .i64, .i64] s0_3 len0_3 z0_3) :
    Calls Try.prog 4 #[.agg #[.slice s0_0 len0_0 cap0_0, .int .u8 a0_1, .int .u32 a0_2, .slice s0_3 len0_3 cap0_3]] w fun e w' => e = .returned (.bool true) ∧ Below w.heap.size w w' := by
  obtain ⟨u0, u1⟩ := u8_bd w0_1
  obtain ⟨v0, v1⟩ := u32_bd w0_2
  have hm0 : len0_0 ≤ 9223372036854775807 := by have := l0_0.1; have := l0_0.2.1; unfold maxLen at this; omega
  have hm3 : len0_3 ≤ 9223372036854775807 := by have := l0_3.1; have := l0_3.2.1; unfold maxLen at this; omega
  obtain ⟨sz, rfl⟩ := Int.eq_ofNat_of_zero_le u0
  obtain ⟨X, hX⟩ : ∃ X, X = w.alloc (.cells #[.slice s0_0 len0_0 cap0_0, .int .u8 (sz : Int), .int .u32 a0_2, .slice s0_3 len0_3 cap0_3] 26) := ⟨_, rfl⟩
  have hXb : X.heap[w.heap.size]? = some (.cells #[.slice s0_0 len0_0 cap0_0, .int .u8 (sz : Int), .int .u32 a0_2, .slice s0_3 len0_3 cap0_3] 26 (0, 0)) := by rw [hX]; exact Go.Deep.blk_alloc_new w _
  have b0 : X.cell? ⟨w.heap.size, 0, none⟩ = some (.slice s0_0 len0_0 cap0_0) := (blk_cell hXb 0).trans rfl
  have b1 : X.cell? ⟨w.heap.size, 1, none⟩ = some (.int .u8 (sz : Int)) := (blk_cell hXb 1).trans rfl
  have b2 : X.cell? ⟨w.heap.size, 2, none⟩ = some (.int .u32 a0_2) := (blk_cell hXb 2).trans rfl
  have b3 : X.cell? ⟨w.heap.size, 3, none⟩ = some (.slice s0_3 len0_3 cap0_3) := (blk_cell hXb 3).trans rfl
  have hat : OpsAt w s0_3 len0_3 z0_3 := by
    rcases r0_3.at (by decide) with e | ⟨b2, o2, rfl, hc2⟩
    · exact .inl e
    · exact .inr ⟨b2, o2, rfl, fun i hi j hj => (hc2 i hi j .i64 (by match j, hj with | 0, _ => rfl | 1, _ => rfl | 2, _ => rfl | 3, _ => rfl)).1⟩
  have kX : Wrote Nil w X := by rw [hX]; exact (Wrote.refl _ _).alloc _
  have HX := Lib.hid (And.intro hX (And.intro r0_0 hat))
  clear w0_0 w0_1 w0_2 l0_0 l0_3 r0_3 hXb hat
  go_enter Try.func4, Try.ntmps4
  go_wp2
  rw [← HX.out.1]
  clear hX
  go_big_quiet (fail)
  generalize hY : X.drewN _ = Y
  have kY : Wrote Nil w Y := by rw [← hY]; exact kX.drewN _
  have cF := fine_any (cap := cap0_0) (HX.out.2.1.after kY) hm0 s0_3 len0_3 cap0_3 hm3
  have cZ := fun W => size_any (sz : Int) W
  have HY := Lib.hid kY
  clear b0 b1 b2 b3 hY kX kY r0_0 hm3
  cases hf : fineB len0_0 z0_0 len0_3
  · rw [hf] at cF
    clear hf cZ
    go_wp2_with (first
      | (go_at_call 8; (with_reducible refine cF.mono ?_); rintro e w2 ⟨rfl, rfl⟩)
      | (go_at_call 10; (with_reducible refine (fl_awake _).mono ?_); intro e w2 hq; unfold AwakePost at hq; obtain ⟨rfl, hW⟩ := hq))
    go_ret
    exact ⟨rfl, (HY.out.nil hW).law⟩
  rw [hf] at cF
  obtain ⟨n1, n8, ho, hm⟩ := fineB_no hf
  clear hf
  cases hs : sizeB (sz : Int)
  · rw [hs] at cZ
    clear hs
    go_wp2_with (first
      | (go_at_call 8; (with_reducible refine cF.mono ?_); rintro e w2 ⟨rfl, rfl⟩)
      | (go_at_call 9; (with_reducible refine (cZ _).mono ?_); rintro e w2 ⟨rfl, rfl⟩)
      | (go_at_call 10; (with_reducible refine (fl_awake _).mono ?_); intro e w2 hq; unfold AwakePost at hq; obtain ⟨rfl, hW⟩ := hq))
    go_ret
    exact ⟨rfl, (HY.out.nil hW).law⟩
  rw [hs] at cZ
  by_cases hlt : sz < len0_0
  · clear hs
    go_wp2_with (first
      | (go_at_call 8; (with_reducible refine cF.mono ?_); rintro e w2 ⟨rfl, rfl⟩)
      | (go_at_call 9; (with_reducible refine (cZ _).mono ?_); rintro e w2 ⟨rfl, rfl⟩)
      | (go_at_call 10; (with_reducible refine (fl_awake _).mono ?_); intro e w2 hq; unfold AwakePost at hq; obtain ⟨rfl, hW⟩ := hq))
    go_ret
    exact ⟨rfl, (HY.out.nil hW).law⟩
  rcases HX.out.2.1.at with e0 | ⟨b, o, rfl, hc⟩
  · omega
  have hb : b < w.heap.size := World.block_lt_of_cell? w _ (hc 0 (by omega))
  obtain ⟨z, hz⟩ := Int.eq_ofNat_of_zero_le (Int.emod_nonneg a0_2 (show (sz : Int) ≠ 0 by omega))
  have HH := Lib.hid (And.intro ho (And.intro hb (And.intro hs (And.intro hz (And.intro v0 v1)))))
  have cP := fun W => plnew_any (len0_0 : Int) W
  have hle : len0_0 ≤ sz := by omega
  clear hc ho hb hs hz v0 v1
  go_wp2_with (first
      | (go_at_call 8; (with_reducible refine cF.mono ?_); rintro e w2 ⟨rfl, rfl⟩)
      | (go_at_call 9; (with_reducible refine (cZ _).mono ?_); rintro e w2 ⟨rfl, rfl⟩)
      | (go_at_call 11; (with_reducible refine (cP _).mono ?_); rintro e w1 ⟨q, rfl, hP, hnew, hW1⟩; have H1 := Lib.hid (And.intro hP (And.intro (fun k hk => Nat.le_trans HY.out.size (hnew k hk)) (HY.out.nil hW1))); clear hP hnew hW1)
      | (go_at_call 12; (with_reducible refine (fn_new (z := z) H1.out.1 (HX.out.2.1.after H1.out.2.2) HH.out.1 n1 (by omega) HH.out.2.2.1 hle (Nat.zero_le _) (fun e => by have := H1.out.2.1 _ e; have := HH.out.2.1; omega) HH.out.2.2.2.2 HH.out.2.2.2.1).mono ?_); intro e w2 hq; unfold NewSlotsPost at hq; obtain ⟨L0, q2, he, hR, hl, ha1, ha2, hqq, hP2, hW2, hC2⟩ := hq; obtain ⟨lb, hlb0⟩ : ∃ lb, lb = L0.lb := ⟨_, rfl⟩; rw [← hlb0] at he; subst he; have HB := Lib.hid hlb0; clear hlb0; have cQ := fl_port (w0 := w) (zs := z0_0) H1.out.2.2 H1.out.2.1 n1 (by omega) HH.out.1 HH.out.2.2.1 HH.out.2.2.2.2 hR hl ha1 ha2 hqq hP2 hW2 (blk_lt H1.out.1.obj); clear hR hl ha1 ha2 hqq hP2 hW2 hC2)
      | (go_at_call 13; (with_reducible refine cQ.mono ?_); clear cQ; rintro e w3 ⟨L, rfl, ⟨ha1, ha2, hL⟩, hlb, hhs, _, _⟩; rw [← HB.out] at hlb; clear HB; subst hlb; have HA := Lib.hid (And.intro ha1 (And.intro ha2 hhs)); have H2 := Lib.hid hL; clear ha1 ha2 hL hhs)
      | (go_at_call 20; (with_reducible refine (lp_use H2.out).mono ?_); rintro e w4 ⟨rfl, hL, _⟩; have H3 := Lib.hid hL; clear hL H2))
  have hst0 : OneSt w w4 L sz 0 := ⟨_, _, H3.out, ⟨none, a0_2.toNat, a0_2.toNat, ord_new len0_0 sz z a0_2 n8 hle HH.out.2.2.1 HH.out.2.2.2.2 HH.out.2.2.2.1⟩, Nat.le_refl _, rfl⟩
  have HS0 := Lib.hid hst0
  have s64 := (size_le HH.out.2.2.1).2
  clear hst0 H3 cF cZ cP
  go_loopw [71] (fun i wr => ∃ k : Nat, k ≤ len0_3 ∧ i = .int .i64 k ∧ OneSt w wr L sz k) (fun i _ => len0_3 - (intOf i).toNat)
  case atStart => exact ⟨0, Nat.zero_le _, rfl, HS0.out⟩
  case round =>
    clear HS0
    obtain ⟨k, hk, rfl, hst⟩ := hrel
    unfold OneSt at hst
    obtain ⟨f, W, hLs, hO, hD, hfz⟩ := hst
    by_cases hlt : k < len0_3
    · rcases HX.out.2.2 with e0 | ⟨gb, go, rfl, hcell⟩
      · omega
      have y0 : wr.cell? ⟨gb, go + k * 4, none⟩ = some (.int .i64 (z0_3 k 0)) := hLs.wr.old (hcell k hlt 0 (by decide))
      have y1 : wr.cell? ⟨gb, go + k * 4 + 1, none⟩ = some (.int .i64 (z0_3 k 1)) := hLs.wr.old (hcell k hlt 1 (by decide))
      have y2 : wr.cell? ⟨gb, go + k * 4 + 2, none⟩ = some (.int .i64 (z0_3 k 2)) := hLs.wr.old (hcell k hlt 2 (by decide))
      have y3 : wr.cell? ⟨gb, go + k * 4 + 3, none⟩ = some (.int .i64 (z0_3 k 3)) := hLs.wr.old (hcell k hlt 3 (by decide))
      generalize z0_3 k 0 = K at y0
      generalize z0_3 k 1 = t at y1
      generalize z0_3 k 2 = N at y2
      generalize z0_3 k 3 = la at y3
      clear hcell
      obtain ⟨X, hX⟩ : ∃ X, X = wr.alloc (.cells #[.int .i64 K, .int .i64 t, .int .i64 N, .int .i64 la] 55) := ⟨_, rfl⟩
      have hLX : LkS w X L f := by rw [hX]; exact hLs.after ((Wrote.refl _ _).alloc _)
      have hB : X.heap[wr.heap.size]? = some (.cells #[.int .i64 K, .int .i64 t, .int .i64 N, .int .i64 la] 55 (0, 0)) := by rw [hX]; exact Go.Deep.blk_alloc_new wr _
      obtain ⟨B, hBe⟩ : ∃ B, B = wr.heap.size := ⟨_, rfl⟩
      have hBq : L.q.k3 ≤ B := by rw [hBe]; exact hLs.lk.top
      rw [← hBe] at hB
      have b0 : X.cell? ⟨B, 0, none⟩ = some (.int .i64 K) := (blk_cell hB 0).trans rfl
      have b1 : X.cell? ⟨B, 1, none⟩ = some (.int .i64 t) := (blk_cell hB 1).trans rfl
      have b2 : X.cell? ⟨B, 2, none⟩ = some (.int .i64 N) := (blk_cell hB 2).trans rfl
      have c0 := hLX.cell0
      have HQ := Lib.hid (And.intro hX (And.intro hBe (And.intro hLX (And.intro hO (And.intro hD (And.intro hfz hBq))))))
      clear hLs hX hBe hLX hB hO hD hfz hBq
      go_upto_region 16 with fail
      rw [← HQ.out.1, ← HQ.out.2.1]
      clear y0 y1 y2 y3
      by_cases hK1 : K = 1
      · subst hK1
        have cK := ls_lock HQ.out.2.2.1.drew t N
        go_wp2
        go_region_held3 (fun w' => w'.cell? ⟨B, 1, none⟩ = some (.int .i64 t) ∧ w'.cell? ⟨B, 2, none⟩ = some (.int .i64 N) ∧ w'.cell? ⟨L.lb, 0, none⟩ = some (.pointer (some ⟨L.p, 0, none⟩))) (first | exact ⟨b1, b2, c0⟩ | exact ⟨d1, d2, d0⟩) (first | (go_at_call 21; (with_reducible refine cK.mono ?_); intro e w2 hq; unfold LsPost at hq; obtain ⟨rfl, hL2, hW2⟩ := hq; have hnB : ¬ Low L B := (fun e => by have := HQ.out.2.2.2.2.2.2; unfold Low at e; omega); have d1 := hW2.cell (a := ⟨B, 1, none⟩) b1 hnB; have d2 := hW2.cell (a := ⟨B, 2, none⟩) b2 hnB; have d0 := hL2.cell0; have H2 := Lib.hid (And.intro hL2 (And.intro (HQ.out.2.2.2.1.lock t N) (And.intro (Nat.le_succ_of_le HQ.out.2.2.2.2.1 : (f.lock t N).ps.D.length ≤ k + 1) (show (f.lock t N).sz = sz from HQ.out.2.2.2.2.2.1)))); clear hL2 hW2 hnB))
        have p0 := H2.out.1.lk.port.cell0
        have cW := words_any H2.out.1.lk.port.mem
        obtain ⟨nx, x, hws⟩ := H2.out.2.1.words
        rw [hws, H2.out.2.2.2] at cW
        have hlen : (((nx % 4294967296 : Nat) : Int) :: slotsL sz x).length = sz + 1 := by rw [List.length_cons, slots_len]
        have HWS := Lib.hid hlen
        clear hws hlen
        go_wp2_with (first | (go_at_call 24; (with_reducible refine cW.mono ?_); intro e w5 hq; unfold WordsPost at hq; rw [HWS.out] at hq; obtain ⟨g, rfl, hrow, hg, hW5⟩ := hq; have H5 := Lib.hid (And.intro (H2.out.1.after hW5) hrow); clear hrow hg hW5))
        clear cW p0
        go_loopw [15, 16] (fun v15 v16 wx => wx = w5 ∧ ∃ m : Nat, m ≤ sz ∧ v15 = .int .i64 (onesN x m) ∧ v16 = .int .i64 ((m : Int) + 1)) (fun _ v16 _ => sz + 1 - (intOf v16).toNat)
        case atStart => exact ⟨by first | rfl | trivial, 0, Nat.zero_le _, by cases x <;> simp [onesN], rfl⟩
        case round =>
          obtain ⟨rfl, m, hm, rfl, rfl⟩ := hrel
          obtain ⟨o0, o1⟩ := ones_rng x m
          by_cases hml : m < sz
          · have hc := H5.out.2.cell (show m + 1 < sz + 1 by omega)
            have hmore := ones_more sz x hml
            rw [List.getD_cons_succ] at hc
            have hr := slots_get sz x hml
            have hy : 0 ≤ (slotsL sz x).getD m 0 ∧ (slotsL sz x).getD m 0 ≤ 1 := by rw [hr]; split <;> omega
            generalize (slotsL sz x).getD m 0 = y at hc hmore hy
            generalize onesN x m = c at *
            have HM := Lib.hid hmore
            clear hr hmore
            go_wp2
            go_roundw
            case rel => exact ⟨by first | rfl | trivial, m + 1, by omega, by rw [← HM.out], by go_num⟩
            case measure => simp [intOf]; omega
          · obtain rfl : m = sz := by omega
            generalize onesN x m = c at *
            go_wp2
            go_roundw
            case rel => exact ⟨k + 1, by omega, by go_num, _, _, H5.out.1, H2.out.2.1, H2.out.2.2.1, H2.out.2.2.2⟩
            case measure => simp [intOf]; omega
      by_cases hK2 : K = 2
      · subst hK2
        have cK := ls_unlock HQ.out.2.2.1.drew t
        go_wp2
        go_region_held3 (fun w' => w'.cell? ⟨B, 1, none⟩ = some (.int .i64 t) ∧ w'.cell? ⟨L.lb, 0, none⟩ = some (.pointer (some ⟨L.p, 0, none⟩))) (first | exact ⟨b1, c0⟩ | exact ⟨d1, d0⟩) (first | (go_at_call 22; (with_reducible refine cK.mono ?_); intro e w2 hq; unfold LsPost at hq; obtain ⟨rfl, hL2, hW2⟩ := hq; have hnB : ¬ Low L B := (fun e => by have := HQ.out.2.2.2.2.2.2; unfold Low at e; omega); have d1 := hW2.cell (a := ⟨B, 1, none⟩) b1 hnB; have d0 := hL2.cell0; have H2 := Lib.hid (And.intro hL2 (And.intro (HQ.out.2.2.2.1.unlock t) (And.intro (Nat.le_succ_of_le HQ.out.2.2.2.2.1 : (f.turn t 3).ps.D.length ≤ k + 1) (show (f.turn t 3).sz = sz from HQ.out.2.2.2.2.2.1)))); clear hL2 hW2 hnB))
        have p0 := H2.out.1.lk.port.cell0
        have cW := words_any H2.out.1.lk.port.mem
        obtain ⟨nx, x, hws⟩ := H2.out.2.1.words
        rw [hws, H2.out.2.2.2] at cW
        have hlen : (((nx % 4294967296 : Nat) : Int) :: slotsL sz x).length = sz + 1 := by rw [List.length_cons, slots_len]
        have HWS := Lib.hid hlen
        clear hws hlen
        go_wp2_with (first | (go_at_call 24; (with_reducible refine cW.mono ?_); intro e w5 hq; unfold WordsPost at hq; rw [HWS.out] at hq; obtain ⟨g, rfl, hrow, hg, hW5⟩ := hq; have H5 := Lib.hid (And.intro (H2.out.1.after hW5) hrow); clear hrow hg hW5))
        clear cW p0
        go_loopw [15, 16] (fun v15 v16 wx => wx = w5 ∧ ∃ m : Nat, m ≤ sz ∧ v15 = .int .i64 (onesN x m) ∧ v16 = .int .i64 ((m : Int) + 1)) (fun _ v16 _ => sz + 1 - (intOf v16).toNat)
        case atStart => exact ⟨by first | rfl | trivial, 0, Nat.zero_le _, by cases x <;> simp [onesN], rfl⟩
        case round =>
          obtain ⟨rfl, m, hm, rfl, rfl⟩ := hrel
          obtain ⟨o0, o1⟩ := ones_rng x m
          by_cases hml : m < sz
          · have hc := H5.out.2.cell (show m + 1 < sz + 1 by omega)
            have hmore := ones_more sz x hml
            rw [List.getD_cons_succ] at hc
            have hr := slots_get sz x hml
            have hy : 0 ≤ (slotsL sz x).getD m 0 ∧ (slotsL sz x).getD m 0 ≤ 1 := by rw [hr]; split <;> omega
            generalize (slotsL sz x).getD m 0 = y at hc hmore hy
            generalize onesN x m = c at *
            have HM := Lib.hid hmore
            clear hr hmore
            go_wp2
            go_roundw
            case rel => exact ⟨by first | rfl | trivial, m + 1, by omega, by rw [← HM.out], by go_num⟩
            case measure => simp [intOf]; omega
          · obtain rfl : m = sz := by omega
            generalize onesN x m = c at *
            go_wp2
            go_roundw
            case rel => exact ⟨k + 1, by omega, by go_num, _, _, H5.out.1, H2.out.2.1, H2.out.2.2.1, H2.out.2.2.2⟩
            case measure => simp [intOf]; omega
      have k1 : (K == 1) = false := beq_false_of_ne hK1
      have k2 : (K == 2) = false := beq_false_of_ne hK2
      by_cases hK4 : K = 4
      · subst hK4
        obtain ⟨W', hO', hD', hq⟩ := HQ.out.2.2.2.1.step HA.out.1 HA.out.2.1 t
        have cK := ls_step HQ.out.2.2.1 t t 0 (by have := HQ.out.2.2.2.2.1; omega)
        have hz' : (f.step L t t).sz = sz := (f.mid_sz L t t).trans HQ.out.2.2.2.2.2.1
        have HO := Lib.hid (And.intro hO' (And.intro (show (f.step L t t).ps.D.length ≤ k + 1 by have := HQ.out.2.2.2.2.1; omega) hz'))
        clear hO' hD' hq hz'
        go_upto_region 22 with (go_at_call 23; (with_reducible refine cK.mono ?_); intro e w2 hq; unfold LsPost at hq; obtain ⟨rfl, hL2, hW2⟩ := hq; have H2 := Lib.hid (And.intro hL2 (And.intro HO.out.1 (And.intro HO.out.2.1 HO.out.2.2))); clear hL2 hW2 HO cK)
        have p0 := H2.out.1.lk.port.cell0
        have cW := words_any H2.out.1.lk.port.mem
        obtain ⟨nx, x, hws⟩ := H2.out.2.1.words
        rw [hws, H2.out.2.2.2] at cW
        have hlen : (((nx % 4294967296 : Nat) : Int) :: slotsL sz x).length = sz + 1 := by rw [List.length_cons, slots_len]
        have HWS := Lib.hid hlen
        clear hws hlen
        go_wp2_with (first | (go_at_call 24; (with_reducible refine cW.mono ?_); intro e w5 hq; unfold WordsPost at hq; rw [HWS.out] at hq; obtain ⟨g, rfl, hrow, hg, hW5⟩ := hq; have H5 := Lib.hid (And.intro (H2.out.1.after hW5) hrow); clear hrow hg hW5))
        clear cW p0
        go_loopw [15, 16] (fun v15 v16 wx => wx = w5 ∧ ∃ m : Nat, m ≤ sz ∧ v15 = .int .i64 (onesN x m) ∧ v16 = .int .i64 ((m : Int) + 1)) (fun _ v16 _ => sz + 1 - (intOf v16).toNat)
        case atStart => exact ⟨by first | rfl | trivial, 0, Nat.zero_le _, by cases x <;> simp [onesN], rfl⟩
        case round =>
          obtain ⟨rfl, m, hm, rfl, rfl⟩ := hrel
          obtain ⟨o0, o1⟩ := ones_rng x m
          by_cases hml : m < sz
          · have hc := H5.out.2.cell (show m + 1 < sz + 1 by omega)
            have hmore := ones_more sz x hml
            rw [List.getD_cons_succ] at hc
            have hr := slots_get sz x hml
            have hy : 0 ≤ (slotsL sz x).getD m 0 ∧ (slotsL sz x).getD m 0 ≤ 1 := by rw [hr]; split <;> omega
            generalize (slotsL sz x).getD m 0 = y at hc hmore hy
            generalize onesN x m = c at *
            have HM := Lib.hid hmore
            clear hr hmore
            go_wp2
            go_roundw
            case rel => exact ⟨by first | rfl | trivial, m + 1, by omega, by rw [← HM.out], by go_num⟩
            case measure => simp [intOf]; omega
          · obtain rfl : m = sz := by omega
            generalize onesN x m = c at *
            go_wp2
            go_roundw
            case rel => exact ⟨k + 1, by omega, by go_num, _, _, H5.out.1, H2.out.2.1, H2.out.2.2.1, H2.out.2.2.2⟩
            case measure => simp [intOf]; omega
      · have k4 : (K == 4) = false := beq_false_of_ne hK4
        have H2 := Lib.hid (And.intro HQ.out.2.2.1 (And.intro HQ.out.2.2.2.1 (And.intro (Nat.le_succ_of_le HQ.out.2.2.2.2.1 : f.ps.D.length ≤ k + 1) HQ.out.2.2.2.2.2.1)))
        have p0 := H2.out.1.lk.port.cell0
        have cW := words_any H2.out.1.lk.port.mem
        obtain ⟨nx, x, hws⟩ := H2.out.2.1.words
        rw [hws, H2.out.2.2.2] at cW
        have hlen : (((nx % 4294967296 : Nat) : Int) :: slotsL sz x).length = sz + 1 := by rw [List.length_cons, slots_len]
        have HWS := Lib.hid hlen
        clear hws hlen
        go_wp2_with (first | (go_at_call 24; (with_reducible refine cW.mono ?_); intro e w5 hq; unfold WordsPost at hq; rw [HWS.out] at hq; obtain ⟨g, rfl, hrow, hg, hW5⟩ := hq; have H5 := Lib.hid (And.intro (H2.out.1.after hW5) hrow); clear hrow hg hW5))
        clear cW p0
        go_loopw [15, 16] (fun v15 v16 wx => wx = w5 ∧ ∃ m : Nat, m ≤ sz ∧ v15 = .int .i64 (onesN x m) ∧ v16 = .int .i64 ((m : Int) + 1)) (fun _ v16 _ => sz + 1 - (intOf v16).toNat)
        case atStart => exact ⟨by first | rfl | trivial, 0, Nat.zero_le _, by cases x <;> simp [onesN], rfl⟩
        case round =>
          obtain ⟨rfl, m, hm, rfl, rfl⟩ := hrel
          obtain ⟨o0, o1⟩ := ones_rng x m
          by_cases hml : m < sz
          · have hc := H5.out.2.cell (show m + 1 < sz + 1 by omega)
            have hmore := ones_more sz x hml
            rw [List.getD_cons_succ] at hc
            have hr := slots_get sz x hml
            have hy : 0 ≤ (slotsL sz x).getD m 0 ∧ (slotsL sz x).getD m 0 ≤ 1 := by rw [hr]; split <;> omega
            generalize (slotsL sz x).getD m 0 = y at hc hmore hy
            generalize onesN x m = c at *
            have HM := Lib.hid hmore
            clear hr hmore
            go_wp2
            go_roundw
            case rel => exact ⟨by first | rfl | trivial, m + 1, by omega, by rw [← HM.out], by go_num⟩
            case measure => simp [intOf]; omega
          · obtain rfl : m = sz := by omega
            generalize onesN x m = c at *
            go_wp2
            go_roundw
            case rel => exact ⟨k + 1, by omega, by go_num, _, _, H5.out.1, H2.out.2.1, H2.out.2.2.1, H2.out.2.2.2⟩
            case measure => simp [intOf]; omega
    · obtain rfl : k = len0_3 := by omega
      have HL := Lib.hid hLs
      clear hLs hO hD hfz
      go_wp2_with (first
        | (go_at_call 10; (with_reducible refine (fl_awake _).mono ?_); intro e w5 hq; unfold AwakePost at hq; obtain ⟨rfl, hW5⟩ := hq))
      go_ret
      exact ⟨rfl, (HL.out.wr.nil hW5).law⟩

/-! the row -/
set_option maxRecDepth 100000 in
theorem lifted (os : Os) (started : os.Started) (H : Type) (enc : TypeId × Value → H) :
    ReturnsInHanded {} Try.checked os 4 .any (Rows.slotsOneSpec.pre6 enc Try.prog Try.f4 Rows.slotsOneRow.domain false) (Rows.slotsOneSpec.post enc Try.prog Try.f4 false true false false) := by
  refine returnsInHanded_of_change (C := Try.checked) own started (by kernel_rfl) Try.func4
    (ChangeSpec.witness6 (enc := enc) (C := Try.checked) false ⟨#[], #[.agg #[.slice none 0 0, .int .u8 0, .int .u32 0, .slice none 0 0]], []⟩ 8 (by kernel_rfl) (by kernel_rfl) (by kernel_rfl) (by kernel_rfl)) ?_
  intro W base args ds gs before hval0 hW hcnd _
  have hval : ∀ (j : Nat) t v, Try.f4.params[j]? = some t → args[j]? = some v → Value.okWide Try.prog W .any base t v := hval0
  have hW' := hW
  obtain ⟨p, q, hA0, hV, rfl, hfz, hnd⟩ := hW
  have hA : DataW.TrodAll enc Try.prog W 0 (fun _ => true) true Try.f4.params.toList args.toList ds p := hA0
  rw [Try.params4] at hA hval
  obtain ⟨v0, vs0, d0, ds0, p0, q0, hargs, rfl, rfl, h0, r0'⟩ := trodAll_cons hA
  obtain ⟨rfl, rfl, rfl⟩ := trodAll_nil r0'
  obtain rfl : args = #[v0] := by cases args; simp_all
  obtain ⟨rfl, rfl⟩ := trodVars_none hV
  have k0 := h0
  have lt0 : ∀ x ∈ p0, x.block < W.heap.size := by obtain ⟨m, hm⟩ := k0; exact DataW.trod_lt m _ _ _ hm
  obtain ⟨cs0, rfl, hl0, hf0⟩ := open_struct_fields (m := 4) Try.underlying26 (by kernel_rfl) (by kernel_rfl) (hval 0 26 v0 rfl rfl) h0
  obtain ⟨c0_0, c0_1, c0_2, c0_3, rfl⟩ := list4 hl0
  obtain ⟨n0_0, y0_0, e0_0⟩ := hf0 0 _ _ rfl rfl
  obtain ⟨s0_0, len0_0, cap0_0, rfl, g0_0⟩ := fld_slice Try.underlying22 e0_0
  obtain ⟨l0_0, z0_0, r0_0, w0_0⟩ := open_slice_row Try.underlying22 Try.underlying3 (by kernel_rfl) g0_0
  obtain ⟨n0_1, y0_1, e0_1⟩ := hf0 1 _ _ rfl rfl
  obtain ⟨a0_1, rfl, w0_1⟩ := fld_int Try.underlying5 e0_1
  obtain ⟨n0_2, y0_2, e0_2⟩ := hf0 2 _ _ rfl rfl
  obtain ⟨a0_2, rfl, w0_2⟩ := fld_int Try.underlying23 e0_2
  obtain ⟨n0_3, y0_3, e0_3⟩ := hf0 3 _ _ rfl rfl
  obtain ⟨s0_3, len0_3, cap0_3, rfl, g0_3⟩ := fld_slice Try.underlying24 e0_3
  obtain ⟨l0_3, z0_3, r0_3⟩ := open_slice_ints (ks := [.i64, .i64, .i64, .i64]) Try.underlying24 Try.underlying55 (by kernel_rfl) (by kernel_rfl) g0_3
  clear hA0 hval0
  refine (walk s0_0 len0_0 cap0_0 z0_0 a0_1 a0_2 s0_3 len0_3 cap0_3 z0_3 W l0_0 r0_0 w0_0 w0_1 w0_2 l0_3 r0_3).mono fun e W' ⟨he, bel⟩ => ?_
  subst he
  exact ⟨_, rfl, _, _, _, [], _, [], hW', trodAll_mk1 (shut_bool Try.underlying4 _), (trodAll_cons_mk (Below.trod laidOut (by kernel_rfl) (of_decide_eq_true (by kernel_rfl)) k0 bel lt0) trodAll_mk0), rfl, bel.frame _, fun h => by cases h⟩

theorem over : Rows.slotsOneRow.holds Try.pinned (OpenSpec.ofChange Rows.slotsOneSpec) :=
  OpenClaim.holds_of_wide 4 Try.f4 rfl rfl rfl rfl rfl rfl rfl ⟨rfl, rfl, rfl, rfl, rfl⟩ rfl rfl rfl rfl rfl (by kernel_rfl) Try.func4 (by kernel_rfl)
    (of_decide_eq_true (by kernel_rfl)) (by unfold Func.isWrapper; first | (rw [if_pos (by decide +kernel)]; kernel_rfl) | (rw [if_neg (by decide +kernel)]; exact ⟨rfl, rfl⟩))
    (fun os started H enc _ => lifted os started H enc)

/-- the statement -/
theorem proved : Rows.SlotsOneSaid := over
#print axioms proved
end Go.Proofs.Ytiddapikahchkaa.slotsOne
