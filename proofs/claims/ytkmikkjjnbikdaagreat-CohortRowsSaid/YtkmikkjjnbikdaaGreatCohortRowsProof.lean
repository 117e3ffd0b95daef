/- For every input the Go function CohortRows of weighlocklaw16 returns true, and its arguments read afterwards as before. Conditions: none. -/
import Derived.Test.YtkmikkjjnbikdaaGreatRows
import Derived.WalkKit
import Derived.ProofKit
import Derived.OpenShut
import Derived.ChangeOld
import Derived.Below
import Derived.Carry
import Derived.Test.YtkmikkjjnbikdaaGreatCohortLaw
import Derived.Test.YtkmikkjjnbikdaaGreatCohortRow
import Derived.Test.YtkmikkjjnbikdaaGreatCohRows
import Derived.Test.YtkmikkjjnbikdaaGreatCohMay
import Derived.BigFrame
import Derived.BigQuiet
import Derived.Deep.Cut
import Derived.Deep.CutBlock
import Derived.Deep.CutRange
import Derived.Deep.RegionHeld3
namespace Go.Proofs.YtkmikkjjnbikdaaGreat.cohortRows
open Go.ChangeShapes Go.WideShapes Go.ChangeAt Go.RowKit
set_option linter.unusedVariables false

theorem own : ownKnob Tryz.prog.godebug = none := by kernel_rfl
theorem laidOut : laidOutB Tryz.prog = true := by kernel_rfl

/-! the walk -/
/-- between two calls -/
def OdSt (w0 wr : World) (L : Lp) (Qb : Nat) (zs : List Int) (B : Int) (k : Nat) (row node : Int) : Prop := ∃ (f : FL) (vq : Nat → Value) (q : Nat → List Nat), RdA w0 wr L f Qb vq q ∧ OrdR f zs B q row node ∧ f.ps.D.length ≤ k

set_option maxRecDepth 100000 in
set_option maxHeartbeats 8000000 in
theorem walk (s0 : Option Addr) (len0 cap0 : Nat) (z0 : List Int) (a1_0 a1_1 a1_2 : Int) (s2 : Option Addr) (len2 cap2 : Nat) (z2 : Nat → Nat → Int) (w : World) (l0 : len0 ≤ cap0 ∧ cap0 ≤ maxLen ∧ (s0 = none → cap0 = 0)) (r0 : RowAt .i64 w s0 len0 z0) (w0 : ∀ z ∈ z0, (Lit.int .i64 z).wf = true) (w1_0 : (Lit.int .i64 a1_0).wf = true) (w1_1 : (Lit.int .i64 a1_1).wf = true) (w1_2 : (Lit.int .i64 a1_2).wf = true) (l2 : len2 ≤ cap2 ∧ cap2 ≤ maxLen ∧ (s2 = none → cap2 = 0)) (r2 : Structs w [.i64, .i64, .i64, .i64] s2 len2 z2) :
    Calls Tryz.prog 4 #[.slice s0 len0 cap0, .agg #[.int .i64 a1_0, .int .i64 a1_1, .int .i64 a1_2], .slice s2 len2 cap2] w fun e w' => e = .returned (.bool true) ∧ Below w.heap.size w w' := by
  have hm0 : len0 ≤ 9223372036854775807 := by have := l0.1; have := l0.2.1; unfold maxLen at this; omega
  have hm2 : len2 ≤ 9223372036854775807 := by have := l2.1; have := l2.2.1; unfold maxLen at this; omega
  have hat : OpsAt w s2 len2 z2 := by
    rcases r2.at (by decide) with e | ⟨b2, o2, rfl, hc2⟩
    · exact .inl e
    · exact .inr ⟨b2, o2, rfl, fun i hi j hj => (hc2 i hi j .i64 (by match j, hj with | 0, _ => rfl | 1, _ => rfl | 2, _ => rfl | 3, _ => rfl)).1⟩
  obtain ⟨X, hX⟩ : ∃ X, X = w.alloc (.cells #[.int .i64 a1_0, .int .i64 a1_1, .int .i64 a1_2] 24) := ⟨_, rfl⟩
  have hWX : Wrote Nil w X := by rw [hX]; exact (Wrote.refl _ w).alloc _
  have hblk : X.heap[w.heap.size]? = some (.cells #[.int .i64 a1_0, .int .i64 a1_1, .int .i64 a1_2] 24 (0, 0)) := by rw [hX]; exact Go.Deep.blk_alloc_new _ _
  have x0 : X.cell? ⟨w.heap.size, 0, none⟩ = some (.int .i64 a1_0) := (blk_cell hblk 0).trans rfl
  have x1 : X.cell? ⟨w.heap.size, 1, none⟩ = some (.int .i64 a1_1) := (blk_cell hblk 1).trans rfl
  have x2 : X.cell? ⟨w.heap.size, 2, none⟩ = some (.int .i64 a1_2) := (blk_cell hblk 2).trans rfl
  have cF := fine_any (cap := cap0) (r0.after hWX) hm0 s2 len2 cap2 hm2
  have cK := fl_may a1_0 a1_1 a1_2
  have HX := Lib.hid hX
  cases hf : fineB len0 z0 len2
  · rw [hf] at cF
    have HW := Lib.hid hWX
    clear r0 hf w0 l0 l2 r2 hat w1_0 w1_1 w1_2 hWX hblk hX
    go_enter Tryz.func4, Tryz.ntmps4
    go_wp2_with (first
      | (go_at_call 8; rw [← HX.out]; with_reducible refine cF.mono ?_; rintro e w2 ⟨rfl, hw2⟩; subst w2)
      | (go_at_call 10; with_reducible refine (fl_awake _).mono ?_; intro e w2 hq; unfold AwakePost at hq; obtain ⟨rfl, hW⟩ := hq))
    go_ret
    exact ⟨rfl, (HW.out.nil hW).law⟩
  cases hk : rightB a1_0 a1_1 a1_2
  · rw [hf] at cF
    rw [hk] at cK
    have HW := Lib.hid hWX
    clear r0 hf hk w0 l0 l2 r2 hat w1_0 w1_1 w1_2 hWX hblk hX
    go_enter Tryz.func4, Tryz.ntmps4
    go_wp2_with (first
      | (go_at_call 8; rw [← HX.out]; with_reducible refine cF.mono ?_; rintro e w2 ⟨rfl, hw2⟩; subst w2)
      | (go_at_call 9; (with_reducible refine (cK _).mono ?_); rintro e w3 ⟨rfl, hW3⟩; have HM := Lib.hid hW3; clear hW3 cK)
      | (go_at_call 10; with_reducible refine (fl_awake _).mono ?_; intro e w4 hq; unfold AwakePost at hq; obtain ⟨rfl, hW⟩ := hq))
    go_ret
    exact ⟨rfl, (HW.out.nil (HM.out.nil hW)).law⟩
  · rw [hf] at cF
    rw [hk] at cK
    obtain ⟨n1, n8, ho, hm⟩ := fineB_no hf
    rcases r0.at with e0 | ⟨b, o, rfl, hc⟩
    · omega
    have hb : b < w.heap.size := World.block_lt_of_cell? w _ (hc 0 (by omega))
    have HM := Lib.hid (fun (W : World) (k : Wrote Nil w W) => fl_made (cap := cap0) (r0.after k) (Nat.lt_of_lt_of_le hb k.size) ho n1 n8 hk)
    have HH := Lib.hid (And.intro ho hat)
    have HZ0 := Lib.hid r0
    have HS := Lib.hid r0.len
    have HB := Lib.hid (right_B hk)
    have HW := Lib.hid hWX
    clear r0 hf hk w0 l0 l2 r2 hat hc ho hb w1_0 w1_1 w1_2 hWX hblk hX
    go_enter Tryz.func4, Tryz.ntmps4
    go_upto_region 7 with (first
      | (go_at_call 8; rw [← HX.out]; with_reducible refine cF.mono ?_; rintro e w2 ⟨rfl, hw2⟩; subst w2)
      | (go_at_call 9; (with_reducible refine (cK _).mono ?_); rintro e w3 ⟨rfl, hW3⟩; have y0 := hW3.old x0; have y1 := hW3.old x1; have y2 := hW3.old x2; have H3 := Lib.hid (HW.out.nil hW3); clear hW3 cK x0 x1 x2)
      | (go_at_call 11; (with_reducible refine (HM.out _ H3.out).mono ?_); intro e w1 hq; unfold MdPost at hq; obtain ⟨L, rfl, hL, h1, hhs⟩ := hq; have HA := Lib.hid (And.intro h1 hhs); have HY := Lib.hid (And.intro H3.out y2); have H2 := Lib.hid hL; clear hL h1 hhs y0 y1 y2 H3))
    clear cF
    obtain ⟨Qb, hQb⟩ : ∃ Qb, Qb = w1.heap.size := ⟨_, rfl⟩
    obtain ⟨W1, hW1⟩ : ∃ W1, W1 = w1.alloc (.cells #[.slice none 0 0, .slice none 0 0, .slice none 0 0, .slice none 0 0, .slice none 0 0, .slice none 0 0, .slice none 0 0, .slice none 0 0] 56) := ⟨_, rfl⟩
    have HST := Lib.hid (show RdA w3 W1 L (newC z0 len0 a1_0 a1_1 a1_2 len0) Qb (fun _ => .slice none 0 0) (fun _ => []) by rw [hW1, hQb]; exact RdA.start H2.out)
    rw [← hW1, ← hQb]
    clear hW1 hQb H2
    go_wp2
    go_loopw [10, 11, 42] (fun v10 v11 i wr => ∃ (k : Nat) (row node : Int), k ≤ len2 ∧ v10 = .int .i64 row ∧ v11 = .int .i64 node ∧ i = .int .i64 k ∧ OdSt w3 wr L Qb z0 a1_2 k row node) (fun _ _ i _ => len2 - (intOf i).toNat)
    case atStart => exact ⟨0, 0, -1, Nat.zero_le _, rfl, rfl, rfl, _, _, _, HST.out, OrdR.start HS.out n8 HH.out.1 HB.out, Nat.le_refl _⟩
    case round =>
      clear HST HM
      obtain ⟨k, row, node, hk, rfl, rfl, rfl, hst⟩ := hrel
      unfold OdSt at hst
      obtain ⟨f, vq, q, hQ, hO, hD⟩ := hst
      by_cases hlt : k < len2
      · rcases HH.out.2 with e0 | ⟨gb, go, rfl, hcell⟩
        · omega
        have hkI : (k : Int) < len2 := by omega
        have y0 : wr.cell? ⟨gb, go + k * 4, none⟩ = some (.int .i64 (z2 k 0)) := hQ.ls.wr.old (HY.out.1.old (hcell k hlt 0 (by decide)))
        have y1 : wr.cell? ⟨gb, go + k * 4 + 1, none⟩ = some (.int .i64 (z2 k 1)) := hQ.ls.wr.old (HY.out.1.old (hcell k hlt 1 (by decide)))
        have y2 : wr.cell? ⟨gb, go + k * 4 + 2, none⟩ = some (.int .i64 (z2 k 2)) := hQ.ls.wr.old (HY.out.1.old (hcell k hlt 2 (by decide)))
        have y3 : wr.cell? ⟨gb, go + k * 4 + 3, none⟩ = some (.int .i64 (z2 k 3)) := hQ.ls.wr.old (HY.out.1.old (hcell k hlt 3 (by decide)))
        generalize z2 k 0 = K at y0
        generalize z2 k 1 = t at y1
        generalize z2 k 2 = N at y2
        generalize z2 k 3 = la at y3
        clear hcell
        obtain ⟨X, hX⟩ : ∃ X, X = wr.alloc (.cells #[.int .i64 K, .int .i64 t, .int .i64 N, .int .i64 la] 58) := ⟨_, rfl⟩
        have hQX : RdA w3 X L f Qb vq q := by rw [hX]; exact hQ.after ((Wrote.refl _ _).alloc _)
        have hB : X.heap[wr.heap.size]? = some (.cells #[.int .i64 K, .int .i64 t, .int .i64 N, .int .i64 la] 58 (0, 0)) := by rw [hX]; exact Go.Deep.blk_alloc_new wr _
        obtain ⟨B, hBe⟩ : ∃ B, B = wr.heap.size := ⟨_, rfl⟩
        have hBX : L.q.k3 ≤ B ∧ Qb < B ∧ ∀ c, c < 8 → ∀ j, (vq c).ownBlock = some j → j < B := by rw [hBe]; exact ⟨hQ.ls.lk.lk.top, blk_lt hQ.arr, fun c hc j hj => (hQ.row c hc).lt j hj⟩
        rw [← hBe] at hB
        have HX0 := Lib.hid (And.intro hX hBe)
        have HX := Lib.hid (And.intro hQX (And.intro hB (And.intro hO (And.intro hD hBX))))
        clear hQ hX hQX hB hO hD hBe hBX
        go_upto_region 11 with fail
        obtain ⟨hX, hBe⟩ := HX0.out
        rw [← hX, ← hBe]
        clear HX0 hX hBe y0 y1 y2 y3
        have x0 : X.cell? ⟨B, 0, none⟩ = some (.int .i64 K) := by rw [blk_cell HX.out.2.1]; rfl
        have x1 : X.cell? ⟨B, 1, none⟩ = some (.int .i64 t) := by rw [blk_cell HX.out.2.1]; rfl
        have x2 : X.cell? ⟨B, 2, none⟩ = some (.int .i64 N) := by rw [blk_cell HX.out.2.1]; rfl
        have c0 := HX.out.1.ls.cell0
        by_cases hK1 : K = 1
        · subst hK1
          go_wp2
          have C0 : X.drew.cell? ⟨L.lb, 0, none⟩ = some (.pointer (some ⟨L.p, 0, none⟩)) := c0
          have X1 : X.drew.cell? ⟨B, 1, none⟩ = some (.int .i64 t) := x1
          have X2 : X.drew.cell? ⟨B, 2, none⟩ = some (.int .i64 N) := x2
          have hQd := HX.out.1.after ((Wrote.refl Nil X).drew)
          have cL := ls_lock hQd.ls t N
          have HQd := Lib.hid hQd
          clear hQd
          go_region_held3 (fun w' => w'.cell? ⟨L.lb, 0, none⟩ = some (.pointer (some ⟨L.p, 0, none⟩)) ∧ w'.cell? ⟨B, 1, none⟩ = some (.int .i64 t) ∧ w'.cell? ⟨B, 2, none⟩ = some (.int .i64 N)) (first | with_reducible exact ⟨d0, d1, d2⟩ | exact ⟨C0, X1, X2⟩) ((go_at_call 18; (with_reducible refine cL.mono ?_); intro e w2 hq; unfold LsPost at hq; obtain ⟨rfl, hL2, hW2⟩ := hq; have b2 := (hW2.block B (blk_lt (show X.drew.heap[B]? = _ from HX.out.2.1)) (fun e => by have := HX.out.2.2.2.2.1; unfold Low at e; omega)).trans (show X.drew.heap[B]? = _ from HX.out.2.1); have d0 := hL2.cell0; have e0 : w2.cell? ⟨B, 0, none⟩ = some (.int .i64 1) := (by rw [blk_cell b2]; rfl); have d1 : w2.cell? ⟨B, 1, none⟩ = some (.int .i64 t) := (by rw [blk_cell b2]; rfl); have d2 : w2.cell? ⟨B, 2, none⟩ = some (.int .i64 N) := (by rw [blk_cell b2]; rfl); have H2 := Lib.hid (HQd.out.call hL2 hW2); clear hL2 hW2 b2))
          clear x0 x1 x2 c0 C0 X1 X2 cL
          go_wp2
          go_roundw
          case rel => exact ⟨k + 1, _, _, by omega, rfl, rfl, by go_num, _, vq, q, H2.out, HX.out.2.2.1.lock t N, Nat.le_succ_of_le HX.out.2.2.2.1⟩
          case measure => simp [intOf]; omega
        by_cases hK2 : K = 2
        · subst hK2
          go_wp2
          have C0 : X.drew.cell? ⟨L.lb, 0, none⟩ = some (.pointer (some ⟨L.p, 0, none⟩)) := c0
          have X1 : X.drew.cell? ⟨B, 1, none⟩ = some (.int .i64 t) := x1
          have hQd := HX.out.1.after ((Wrote.refl Nil X).drew)
          have cL := ls_unlock hQd.ls t
          have HQd := Lib.hid hQd
          clear hQd
          go_region_held3 (fun w' => w'.cell? ⟨L.lb, 0, none⟩ = some (.pointer (some ⟨L.p, 0, none⟩)) ∧ w'.cell? ⟨B, 1, none⟩ = some (.int .i64 t)) (first | with_reducible exact ⟨d0, d1⟩ | exact ⟨C0, X1⟩) ((go_at_call 19; (with_reducible refine cL.mono ?_); intro e w2 hq; unfold LsPost at hq; obtain ⟨rfl, hL2, hW2⟩ := hq; have b2 := (hW2.block B (blk_lt (show X.drew.heap[B]? = _ from HX.out.2.1)) (fun e => by have := HX.out.2.2.2.2.1; unfold Low at e; omega)).trans (show X.drew.heap[B]? = _ from HX.out.2.1); have d0 := hL2.cell0; have e0 : w2.cell? ⟨B, 0, none⟩ = some (.int .i64 2) := (by rw [blk_cell b2]; rfl); have d1 : w2.cell? ⟨B, 1, none⟩ = some (.int .i64 t) := (by rw [blk_cell b2]; rfl); have H2 := Lib.hid (HQd.out.call hL2 hW2); clear hL2 hW2 b2))
          clear x0 x1 x2 c0 C0 X1 cL
          go_wp2
          go_roundw
          case rel => exact ⟨k + 1, _, _, by omega, rfl, rfl, by go_num, _, vq, q, H2.out, HX.out.2.2.1.unlock t, Nat.le_succ_of_le HX.out.2.2.2.1⟩
          case measure => simp [intOf]; omega
        have k1 : (K == 1) = false := beq_false_of_ne hK1
        have k2 : (K == 2) = false := beq_false_of_ne hK2
        by_cases hK4 : K = 4
        · subst hK4
          clear k1 k2 hK1 hK2 x2
          by_cases ht0 : t < 0
          · go_wp2
            go_roundw
            case rel => exact ⟨k + 1, _, _, by omega, rfl, rfl, by go_num, f, vq, q, HX.out.1, HX.out.2.2.1, Nat.le_succ_of_le HX.out.2.2.2.1⟩
            case measure => simp [intOf]; omega
          by_cases ht1 : (len0 : Int) ≤ t
          · go_wp2
            go_roundw
            case rel => exact ⟨k + 1, _, _, by omega, rfl, rfl, by go_num, f, vq, q, HX.out.1, HX.out.2.2.1, Nat.le_succ_of_le HX.out.2.2.2.1⟩
            case measure => simp [intOf]; omega
          obtain ⟨kk, rfl⟩ := Int.eq_ofNat_of_zero_le (show 0 ≤ t by omega)
          have hkk : kk < len0 := by omega
          have kI : (kk : Int) < len0 := by omega
          have k0I : ¬ ((kk : Int) < 0) := by omega
          obtain ⟨hcl, hc8⟩ := hNo_of HS.out HH.out.1 kk hkk
          generalize hNo z0 kk = c at hcl hc8
          have yz : X.cell? ⟨b, o + kk, none⟩ = some (.int .i64 (c : Int)) := by
            have := HZ0.out.cell ⟨b, o, none⟩ rfl kk hkk
            rw [Go.Addr.add_lit, hcl] at this
            exact HX.out.1.ls.wr.old (HY.out.1.old this)
          obtain ⟨hD', hq⟩ := HX.out.2.2.1.step (L := L) HA.out.1 (show kk < z0.length by rw [HS.out]; exact hkk) hcl
          obtain ⟨d, hd⟩ : ∃ d, d = f.did L kk kk := ⟨_, rfl⟩
          rw [← hd] at hq
          have HD' := Lib.hid (show (f.step L kk kk).ps.D.length ≤ k + 1 by have := HX.out.2.2.2.1; omega)
          have HBX := Lib.hid (show ∀ (wz : World) (f : FL) (vq : Nat → Value) (q : Nat → List Nat), RdA w3 wz L f Qb vq q → wz.cell? ⟨w.heap.size, 2, none⟩ = some (.int .i64 a1_2) from fun _ _ _ _ hr => hr.ls.wr.old HY.out.2)
          clear hD' hcl ht0 ht1
          rcases hq with ⟨ha, hl, hO'⟩ | ⟨rfl, q', eq0, eq1, hO'⟩ | ⟨rfl, q', eq0, eq1, hO'⟩ | ⟨rfl, q', eq0, eq1, hnode, hrow, hO'⟩
          · skip
            obtain ⟨ev, enq, arr, lead⟩ := d
            obtain rfl : enq = false := ha
            have c1 : (ev == 1) = false := beq_false_of_ne hl
            have HD := Lib.hid hd.symm
            have HO := Lib.hid hO'
            clear hd hl hO'
            go_upto_region 28 with (go_at_call 20; (with_reducible refine (ls_step HX.out.1.ls (kk : Int) (kk : Int) 0 (by have := HX.out.2.2.2.1; omega)).mono ?_); intro e w2 hq; unfold LsPost at hq; obtain ⟨rfl, hL2, hW2⟩ := hq; rw [HD.out]; dsimp only [Dd.val]; have b2 := (hW2.block B (blk_lt HX.out.2.1) (fun e => by have := HX.out.2.2.2.2.1; unfold Low at e; omega)).trans HX.out.2.1; have H2 := Lib.hid (And.intro (HX.out.1.call hL2 hW2) b2); clear hL2 hW2 b2)
            obtain ⟨V, hV⟩ : ∃ V, V = w2.alloc (.cells #[.int .i64 ev, .bool false, .bool arr, .bool lead] 71) := ⟨_, rfl⟩
            have HT := Lib.hid (show ∃ vq', RdA w3 V L (f.step L kk kk) Qb vq' q from ⟨vq, by
              have := H2.out.1.after ((Wrote.refl _ w2).alloc (.cells #[.int .i64 ev, .bool false, .bool arr, .bool lead] 71))
              rw [← hV] at this
              exact this⟩)
            rw [← hV]
            clear hV H2
            obtain ⟨vq', hA⟩ := HT.out
            obtain ⟨fs, hfs⟩ : ∃ fs, fs = f.step L kk kk := ⟨_, rfl⟩
            rw [← hfs] at hA HO HD'
            have HRR := Lib.hid hA
            clear hA HT hfs
            go_wp2
            go_loopw [16, 147] (fun v16 i wy => ∃ (j : Nat) (cc : Int), j ≤ len0 ∧ v16 = .int .i64 cc ∧ i = .int .i64 j ∧ HoldQ fs j cc ∧ RdA w3 wy L fs Qb vq' q) (fun _ i _ => len0 - (intOf i).toNat)
            case atStart => exact ⟨0, 0, Nat.zero_le _, rfl, rfl, .inl ⟨rfl, fun t ht => by omega⟩, HRR.out⟩
            case round =>
              clear HRR
              obtain ⟨j, cc, hj, rfl, rfl, hH, hR⟩ := hrel
              by_cases hjn : j < len0
              · have jn : (j : Int) < len0 := by omega
                have hjs : j < fs.s.n := by have := HO.out.size; have := HS.out; omega
                have eS : fs.s.stI (j : Int) = fs.s.st j := by unfold SS.stI; rw [if_pos (by omega), Int.toNat_natCast]
                have cS := ls_state hR.ls (j : Int)
                rw [eS] at cS
                have c0 := hR.ls.cell0
                have HR2 := Lib.hid hR
                by_cases hs : fs.s.st j = 2
                · obtain ⟨rfl, hH2⟩ := HoldQ.yes HO.out hjs hH hs
                  rw [hs] at cS
                  have HH2 := Lib.hid hH2
                  clear hH hH2 hs eS hR
                  go_wp2_with (go_at_call 21; (with_reducible refine cS.mono ?_); rintro e w3 ⟨rfl, rfl⟩)
                  go_roundw
                  case rel => exact ⟨j + 1, 1, by omega, rfl, by go_num, HH2.out, HR2.out⟩
                  case measure => simp [intOf]; omega
                · have bs : (fs.s.st j == 2) = false := beq_false_of_ne hs
                  have HH2 := Lib.hid (hH.no hs)
                  generalize fs.s.st j = x at cS bs
                  clear hH hs eS hR
                  go_wp2_with (go_at_call 21; (with_reducible refine cS.mono ?_); rintro e w3 ⟨rfl, rfl⟩)
                  go_roundw
                  case rel => exact ⟨j + 1, cc, by omega, rfl, by go_num, HH2.out, HR2.out⟩
                  case measure => simp [intOf]; omega
              · have hc2 : ¬ (1 : Int) < cc := by rcases hH with ⟨e, _⟩ | ⟨e, _⟩ <;> omega
                have HF := Lib.hid hR
                clear hH hR
                go_wp2
                go_roundw
                case rel => exact ⟨k + 1, _, _, by omega, rfl, rfl, by go_num, fs, vq', q, HF.out, HO.out, HD'.out⟩
                case measure => simp [intOf]; omega
          · skip
            have HD := Lib.hid hd.symm
            have HO := Lib.hid hO'
            clear hd hO'
            go_upto_region 20 with (go_at_call 20; (with_reducible refine (ls_step HX.out.1.ls (kk : Int) (kk : Int) 0 (by have := HX.out.2.2.2.1; omega)).mono ?_); intro e w2 hq; unfold LsPost at hq; obtain ⟨rfl, hL2, hW2⟩ := hq; rw [HD.out]; dsimp only [Dd.val]; have b2 := (hW2.block B (blk_lt HX.out.2.1) (fun e => by have := HX.out.2.2.2.2.1; unfold Low at e; omega)).trans HX.out.2.1; have H2 := Lib.hid (And.intro (HX.out.1.call hL2 hW2) b2); clear hL2 hW2 b2)
            obtain ⟨Y, hY⟩ : ∃ Y, Y = w2.alloc (.cells #[.int .i64 0, .bool true, .bool false, .bool false] 71) := ⟨_, rfl⟩
            obtain ⟨C, hC⟩ : ∃ C, C = w2.heap.size := ⟨_, rfl⟩
            have yc : Y.heap[C]? = some (.cells #[.int .i64 0, .bool true, .bool false, .bool false] 71 (0, 0)) := by rw [hY, hC]; exact Go.Deep.blk_alloc_new w2 _
            have hBC : B < C := by rw [hC]; exact blk_lt H2.out.2
            have yB : Y.heap[B]? = some (.cells #[.int .i64 4, .int .i64 (kk : Int), .int .i64 N, .int .i64 la] 58 (0, 0)) := by rw [hY, Go.Deep.blk_alloc_lt _ _ _ (by rw [← hC]; exact hBC)]; exact H2.out.2
            have hAY : RdA w3 Y L (f.step L kk kk) Qb vq q := by rw [hY]; exact H2.out.1.after ((Wrote.refl _ _).alloc _)
            rw [← hY, ← hC]
            clear hY hC H2
            obtain ⟨Yd, hYd⟩ : ∃ Yd, Yd = Y.drew := ⟨_, rfl⟩
            have hAd : RdA w3 Yd L (f.step L kk kk) Qb vq q := by rw [hYd]; exact hAY.after ((Wrote.refl _ _).drew)
            have dB : Yd.heap[B]? = some (.cells #[.int .i64 4, .int .i64 (kk : Int), .int .i64 N, .int .i64 la] 58 (0, 0)) := by rw [hYd]; exact yB
            have dC : Yd.heap[C]? = some (.cells #[.int .i64 0, .bool true, .bool false, .bool false] 71 (0, 0)) := by rw [hYd]; exact yc
            clear hAY yB yc
            have y1 : Yd.cell? ⟨B, 1, none⟩ = some (.int .i64 (kk : Int)) := by rw [blk_cell dB]; rfl
            have q1 := hAd.cell hc8
            have cI : (c : Int) < 8 := by omega
            have c0I : (0 : Int) ≤ c := by omega
            obtain ⟨Y2, hY2⟩ : ∃ Y2, Y2 = Yd.alloc (.cells #[.int .i64 (kk : Int)] 3) := ⟨_, rfl⟩
            have k2 : Wrote Nil Yd Y2 := by rw [hY2]; exact (Wrote.refl _ _).alloc _
            have z1 : Y2.cell? ⟨B, 1, none⟩ = some (.int .i64 (kk : Int)) := k2.old y1
            have zq := k2.old q1
            have hA2 := hAd.after k2
            have zB := (k2.block B (blk_lt dB) id).trans dB
            have zC := (k2.block C (blk_lt dC) id).trans dC
            have zn : Y2.cell? ⟨Yd.heap.size, 0, none⟩ = some (natV kk) := by rw [hY2, blk_cell (Go.Deep.blk_alloc_new _ _)]; rfl
            have hlq : (List.map natV (q c)).length ≤ 1000000 := by rw [List.length_map]; have := HX.out.2.2.1.len c; omega
            have HP := Lib.hid (fun (v' : Value) (w5 : World) (hp : PushQ Y2 w5 (vq c) v' ((q c).map natV) (natV kk)) => And.intro (hp.2.1.cell z1 (fun e => by have := (HX.out.2.2.2.2.2.2 c hc8 B e); omega)) (And.intro (hp.2.1.cell zq (fun e => (hA2.low c hc8 Qb e).2 rfl)) (And.intro ((hp.2.1.block Qb (blk_lt hA2.arr) (fun e => (hA2.low c hc8 Qb e).2 rfl)).trans hA2.arr) (And.intro ((hp.2.1.block C (blk_lt zC) (fun e => by have := HX.out.2.2.2.2.2.2 c hc8 C e; omega)).trans zC) (hA2.push hc8 hp eq0 eq1)))))
            have HR := Lib.hid (And.intro (hA2.row c hc8) (And.intro zn hlq))
            have HQB := Lib.hid (show Qb < B ∧ Qb < C from ⟨HX.out.2.2.2.2.2.1, by have := HX.out.2.2.2.2.2.1; omega⟩)
            have Z1 := Lib.hid z1
            have ZQ := Lib.hid zq
            clear hAd dB dC k2 hA2 zB zC zn hlq z1 zq
            refine wp_region_held_drew (S := fun w' => w'.cell? ⟨B, 1, none⟩ = some (.int .i64 (kk : Int))) (by kernel_rfl) (by first | exact y1 | (rw [← hYd]; exact y1)) (fun hHeld => ?_)
            try rw [← hYd]
            try rw [← hYd] at hHeld
            clear hYd
            refine wpAnyH_take (i := 0) (v := ?v1) rfl (by kernel_rfl) (by kernel_rfl) (by kernel_rfl) (fun _ _ _ h => h) (Or.inl ⟨by rfl, ?hy1⟩) (by assumption) ?rest1
            case hy1 => intro w hSw; (try dsimp only at hSw); go_simp; try with_reducible rfl
            (try simp only [Act.put, List.setIfInBounds_toArray])
            refine wpAnyH_take (i := 1) (v := ?v2) rfl (by kernel_rfl) (by kernel_rfl) (by kernel_rfl) (fun _ _ _ h => h) (Or.inl ⟨by rfl, ?hy2⟩) (by assumption) ?rest2
            case hy2 => intro w hSw; (try dsimp only at hSw); go_simp; try with_reducible rfl
            (try simp only [Act.put])
            refine wpAnyH_take (i := 2) (v := ?v3) rfl (by kernel_rfl) (by kernel_rfl) (by kernel_rfl) (fun _ _ _ h => h) (Or.inl ⟨by rfl, ?hy3⟩) (by assumption) ?rest3
            case hy3 => intro w hSw; (try dsimp only at hSw); go_simp; try with_reducible rfl
            (try simp only [Act.put])
            refine wpAnyH_take (i := 4) (v := ?v4) rfl (by kernel_rfl) (by kernel_rfl) (by kernel_rfl) (fun _ _ _ h => h) (Or.inl ⟨by rfl, ?hy4⟩) (by assumption) ?rest4
            case hy4 => intro w hSw; (try dsimp only at hSw); go_simp; try with_reducible rfl
            (try simp only [Act.put])
            refine wpAnyH_take (i := 5) (v := ?v5) rfl (by kernel_rfl) (by kernel_rfl) (by kernel_rfl) (fun _ _ _ h => h) (Or.inl ⟨by rfl, ?hy5⟩) (by assumption) ?rest5
            case hy5 => intro w hSw; (try dsimp only at hSw); go_simp; try with_reducible rfl
            (try simp only [Act.put])
            refine wpAnyH_ready (rs := [3, 6]) (by kernel_rfl) (by simp) ?_
            refine AllReadyH.cons rfl (fun K hK => ?_) (AllReadyH.cons rfl (fun K hK => ?_) (AllReadyH.nil))
            case' refine_1 =>
              go_simp
              refine hK.out _ _ y1 (fun hHeld2 => ?_)
              clear hHeld K hK
              have hHeld := hHeld2
              clear hHeld2
              (try simp only [Act.put, List.setIfInBounds_toArray, List.set_cons_zero, List.set_cons_succ])
              refine wpAnyH_ready (rs := [6]) (by kernel_rfl) (by simp) ?_
              refine AllReadyH.cons rfl (fun K hK => ?_) (AllReadyH.nil)
              go_simp
              rw [← hY2]
              clear hY2
              refine hK.out _ _ Z1.out (fun hHeld2 => ?_)
              clear hHeld K hK
              have hHeld := hHeld2
              clear hHeld2
              (try simp only [Act.put, List.setIfInBounds_toArray, List.set_cons_zero, List.set_cons_succ])
              refine wpAnyH_ready (rs := [7]) (by kernel_rfl) (by simp) ?_
              refine AllReadyH.cons rfl (fun K hK => ?_) (AllReadyH.nil)
              refine step_push (by rfl) _ _ (by rfl) (by simp [Act.eval]) HR.out.1 ⟨Yd.heap.size, 0, none⟩ (natV kk) (by simp [Act.eval]) HR.out.2.1 (by simp [natV, Value.oneCell']) HR.out.2.2 ?_
              intro v' w5 hp
              obtain ⟨sa', ln', cp', hv'⟩ : ∃ sa ln cp, v' = .slice sa ln cp := by obtain ⟨sa, cp, e⟩ := hp.1.form; exact ⟨sa, _, cp, e⟩
              subst hv'
              obtain ⟨p1, p2, p3, p4, p5⟩ := HP.out _ w5 hp
              have f3 := blk_frozen p3 c
              have HE := Lib.hid (And.intro p4 p5)
              clear p3 p4 p5 hp
              refine hK.out _ _ p1 (fun hHeld2 => ?_)
              clear hHeld K hK
              have hHeld := hHeld2
              clear hHeld2
              (try simp only [Act.put, List.setIfInBounds_toArray])
              refine wpAnyH_take (i := 8) (v := ?v6) rfl (by kernel_rfl) (by kernel_rfl) (by kernel_rfl) (fun _ _ _ h => h) (Or.inl ⟨by rfl, ?hy6⟩) (by assumption) ?rest6
              case hy6 => intro w hSw; (try dsimp only at hSw); go_simp; try with_reducible rfl
              (try simp only [Act.put])
              refine wpAnyH_ready (rs := [9]) (by kernel_rfl) (by simp) ?_
              refine AllReadyH.cons rfl (fun K hK => ?_) (AllReadyH.nil)
              go_simp
              refine hK.out _ _ ((World.cell?_setCell_far w5 ⟨Qb, c, none⟩ ⟨B, 1, none⟩ _ (by have := HQB.out.1; show Qb ≠ B; omega)).trans p1) (fun hHeld2 => ?_)
              clear hHeld K hK
              have hHeld := hHeld2
              clear hHeld2
              (try simp only [Act.put, List.setIfInBounds_toArray, List.set_cons_zero, List.set_cons_succ])
              refine wpAnyH_done (by kernel_rfl) ?_ _
              have d0 : (w5.setCell ⟨Qb, c, none⟩ (.slice sa' ln' cp')).cell? ⟨C, 0, none⟩ = some (.int .i64 0) := by rw [World.cell?_setCell_far w5 _ _ _ (show Qb ≠ C by have := HQB.out.2; omega), blk_cell HE.out.1]; rfl
              have HT := Lib.hid (show ∃ vq', RdA w3 (w5.setCell ⟨Qb, c, none⟩ (.slice sa' ln' cp')) L (f.step L kk kk) Qb vq' q' from ⟨_, HE.out.2⟩)
              clear p1 p2 f3 HE hHeld
              generalize w5.setCell ⟨Qb, c, none⟩ (.slice sa' ln' cp') = V at *
              go_upto_region 28 with fail
              clear d0
            case' refine_2 =>
              go_simp
              rw [← hY2]
              clear hY2
              refine hK.out _ _ Z1.out (fun hHeld2 => ?_)
              clear hHeld K hK
              have hHeld := hHeld2
              clear hHeld2
              (try simp only [Act.put, List.setIfInBounds_toArray, List.set_cons_zero, List.set_cons_succ])
              have q1 := ZQ.out
              refine wpAnyH_ready (rs := [3]) (by kernel_rfl) (by simp) ?_
              refine AllReadyH.cons rfl (fun K hK => ?_) (AllReadyH.nil)
              go_simp
              refine hK.out _ _ Z1.out (fun hHeld2 => ?_)
              clear hHeld K hK
              have hHeld := hHeld2
              clear hHeld2
              (try simp only [Act.put, List.setIfInBounds_toArray, List.set_cons_zero, List.set_cons_succ])
              refine wpAnyH_ready (rs := [7]) (by kernel_rfl) (by simp) ?_
              refine AllReadyH.cons rfl (fun K hK => ?_) (AllReadyH.nil)
              refine step_push (by rfl) _ _ (by rfl) (by simp [Act.eval]) HR.out.1 ⟨Yd.heap.size, 0, none⟩ (natV kk) (by simp [Act.eval]) HR.out.2.1 (by simp [natV, Value.oneCell']) HR.out.2.2 ?_
              intro v' w5 hp
              obtain ⟨sa', ln', cp', hv'⟩ : ∃ sa ln cp, v' = .slice sa ln cp := by obtain ⟨sa, cp, e⟩ := hp.1.form; exact ⟨sa, _, cp, e⟩
              subst hv'
              obtain ⟨p1, p2, p3, p4, p5⟩ := HP.out _ w5 hp
              have f3 := blk_frozen p3 c
              have HE := Lib.hid (And.intro p4 p5)
              clear p3 p4 p5 hp
              refine hK.out _ _ p1 (fun hHeld2 => ?_)
              clear hHeld K hK
              have hHeld := hHeld2
              clear hHeld2
              (try simp only [Act.put, List.setIfInBounds_toArray])
              refine wpAnyH_take (i := 8) (v := ?v7) rfl (by kernel_rfl) (by kernel_rfl) (by kernel_rfl) (fun _ _ _ h => h) (Or.inl ⟨by rfl, ?hy7⟩) (by assumption) ?rest7
              case hy7 => intro w hSw; (try dsimp only at hSw); go_simp; try with_reducible rfl
              (try simp only [Act.put])
              refine wpAnyH_ready (rs := [9]) (by kernel_rfl) (by simp) ?_
              refine AllReadyH.cons rfl (fun K hK => ?_) (AllReadyH.nil)
              go_simp
              refine hK.out _ _ ((World.cell?_setCell_far w5 ⟨Qb, c, none⟩ ⟨B, 1, none⟩ _ (by have := HQB.out.1; show Qb ≠ B; omega)).trans p1) (fun hHeld2 => ?_)
              clear hHeld K hK
              have hHeld := hHeld2
              clear hHeld2
              (try simp only [Act.put, List.setIfInBounds_toArray, List.set_cons_zero, List.set_cons_succ])
              refine wpAnyH_done (by kernel_rfl) ?_ _
              have d0 : (w5.setCell ⟨Qb, c, none⟩ (.slice sa' ln' cp')).cell? ⟨C, 0, none⟩ = some (.int .i64 0) := by rw [World.cell?_setCell_far w5 _ _ _ (show Qb ≠ C by have := HQB.out.2; omega), blk_cell HE.out.1]; rfl
              have HT := Lib.hid (show ∃ vq', RdA w3 (w5.setCell ⟨Qb, c, none⟩ (.slice sa' ln' cp')) L (f.step L kk kk) Qb vq' q' from ⟨_, HE.out.2⟩)
              clear p1 p2 f3 HE hHeld
              generalize w5.setCell ⟨Qb, c, none⟩ (.slice sa' ln' cp') = V at *
              go_upto_region 28 with fail
              clear d0
            all_goals
              obtain ⟨vq', hA⟩ := HT.out
              obtain ⟨fs, hfs⟩ : ∃ fs, fs = f.step L kk kk := ⟨_, rfl⟩
              rw [← hfs] at hA HO HD'
              have HRR := Lib.hid hA
              clear hA HT hfs
              go_wp2
              go_loopw [16, 147] (fun v16 i wy => ∃ (j : Nat) (cc : Int), j ≤ len0 ∧ v16 = .int .i64 cc ∧ i = .int .i64 j ∧ HoldQ fs j cc ∧ RdA w3 wy L fs Qb vq' q') (fun _ i _ => len0 - (intOf i).toNat)
              case atStart => exact ⟨0, 0, Nat.zero_le _, rfl, rfl, .inl ⟨rfl, fun t ht => by omega⟩, HRR.out⟩
              case round =>
                clear HRR
                obtain ⟨j, cc, hj, rfl, rfl, hH, hR⟩ := hrel
                by_cases hjn : j < len0
                · have jn : (j : Int) < len0 := by omega
                  have hjs : j < fs.s.n := by have := HO.out.size; have := HS.out; omega
                  have eS : fs.s.stI (j : Int) = fs.s.st j := by unfold SS.stI; rw [if_pos (by omega), Int.toNat_natCast]
                  have cS := ls_state hR.ls (j : Int)
                  rw [eS] at cS
                  have c0 := hR.ls.cell0
                  have HR2 := Lib.hid hR
                  by_cases hs : fs.s.st j = 2
                  · obtain ⟨rfl, hH2⟩ := HoldQ.yes HO.out hjs hH hs
                    rw [hs] at cS
                    have HH2 := Lib.hid hH2
                    clear hH hH2 hs eS hR
                    go_wp2_with (go_at_call 21; (with_reducible refine cS.mono ?_); rintro e w3 ⟨rfl, rfl⟩)
                    go_roundw
                    case rel => exact ⟨j + 1, 1, by omega, rfl, by go_num, HH2.out, HR2.out⟩
                    case measure => simp [intOf]; omega
                  · have bs : (fs.s.st j == 2) = false := beq_false_of_ne hs
                    have HH2 := Lib.hid (hH.no hs)
                    generalize fs.s.st j = x at cS bs
                    clear hH hs eS hR
                    go_wp2_with (go_at_call 21; (with_reducible refine cS.mono ?_); rintro e w3 ⟨rfl, rfl⟩)
                    go_roundw
                    case rel => exact ⟨j + 1, cc, by omega, rfl, by go_num, HH2.out, HR2.out⟩
                    case measure => simp [intOf]; omega
                · have hc2 : ¬ (1 : Int) < cc := by rcases hH with ⟨e, _⟩ | ⟨e, _⟩ <;> omega
                  have HF := Lib.hid hR
                  clear hH hR
                  go_wp2
                  go_roundw
                  case rel => exact ⟨k + 1, _, _, by omega, rfl, rfl, by go_num, fs, vq', q', HF.out, HO.out, HD'.out⟩
                  case measure => simp [intOf]; omega
          · skip
            have HD := Lib.hid hd.symm
            have HO := Lib.hid hO'
            clear hd hO'
            have hgt : ¬ (a1_2 < 1) := by have := HB.out; omega
            obtain ⟨g, off, cap, hvc, hcap, _⟩ := (show RowQ X (vq c) ((kk :: q' c).map natV) by rw [← eq0]; exact HX.out.1.row c hc8).head
            rw [List.length_map] at hvc hcap
            obtain ⟨m, hm⟩ : ∃ m, m = (q' c).length + 1 := ⟨_, rfl⟩
            rw [← hm] at hcap hvc
            have m1' : ((m : Int) == 0) = false := beq_false_of_ne (by omega)
            have m1 : 1 ≤ m := by omega
            have m0 : (0 : Int) < m := by omega
            have m2 : ¬ ((m : Int) ≤ 0) := by omega
            have m8 : m ≤ 9 := by rw [hm]; have := HX.out.2.2.1.len c; rw [eq0, List.length_cons] at this; exact this
            clear hm
            go_upto_region 25 with (go_at_call 20; (with_reducible refine (ls_step HX.out.1.ls (kk : Int) (kk : Int) 0 (by have := HX.out.2.2.2.1; omega)).mono ?_); intro e w2 hq; unfold LsPost at hq; obtain ⟨rfl, hL2, hW2⟩ := hq; rw [HD.out]; dsimp only [Dd.val]; have b2 := (hW2.block B (blk_lt HX.out.2.1) (fun e => by have := HX.out.2.2.2.2.1; unfold Low at e; omega)).trans HX.out.2.1; have H2 := Lib.hid (And.intro (HX.out.1.call hL2 hW2) b2); clear hL2 hW2 b2)
            obtain ⟨Y, hY⟩ : ∃ Y, Y = w2.alloc (.cells #[.int .i64 1, .bool false, .bool false, .bool true] 71) := ⟨_, rfl⟩
            obtain ⟨C, hC⟩ : ∃ C, C = w2.heap.size := ⟨_, rfl⟩
            have y1 : Y.cell? ⟨B, 1, none⟩ = some (.int .i64 (kk : Int)) := by rw [hY]; exact ((Wrote.refl Nil w2).alloc _).old (by rw [blk_cell H2.out.2]; rfl)
            have hAY : RdA w3 Y L (f.step L kk kk) Qb vq q := by rw [hY]; exact H2.out.1.after ((Wrote.refl _ _).alloc _)
            have q1 := hAY.cell hc8
            have yB := HBX.out _ _ _ _ hAY
            rw [hvc] at q1
            obtain ⟨g', off', cap', he, _, r0⟩ := (show RowQ Y (.slice (some ⟨g, off, none⟩) m cap) ((kk :: q' c).map natV) by rw [← eq0, ← hvc]; exact hAY.row c hc8).head
            simp only [Value.slice.injEq, Option.some.injEq, Addr.mk.injEq, and_true] at he
            obtain ⟨⟨rfl, rfl⟩, he, rfl⟩ := he
            clear he
            replace r0 : Y.cell? ⟨g, off, none⟩ = some (.int .i64 (kk : Int)) := r0
            have H3 := Lib.hid hAY
            have cI : (c : Int) < 8 := by omega
            have c0I : (0 : Int) ≤ c := by omega
            rw [← hY, ← hC]
            clear hY hC H2 hAY
            go_big_quiet (fail)
            generalize hZ : Y.drewN _ = Z
            have hAZ : RdA w3 Z L (f.step L kk kk) Qb vq q := by rw [← hZ]; exact H3.out.after ((Wrote.refl _ _).drewN _)
            have q1 := hAZ.cell hc8
            rw [hvc] at q1
            have f1 := hAZ.frz c
            have H4 := Lib.hid hAZ
            have HV := Lib.hid hvc
            clear hZ y1 r0 H3 hAZ hvc yB
            go_upto_region 28 with fail
            have HT := Lib.hid (show ∃ vq', RdA w3 (Z.setCell ⟨Qb, c, none⟩ (.slice (if cap = 1 then some ⟨g, off, none⟩ else some ⟨g, off + 1, none⟩) (m - 1) (cap - 1))) L (f.step L kk kk) Qb vq' q' from ⟨_, H4.out.cut hc8 HV.out eq0 eq1 (by split <;> first | exact .inr rfl | exact .inl ⟨rfl, by assumption⟩)⟩)
            generalize (Value.slice (if cap = 1 then some ⟨g, off, none⟩ else some ⟨g, off + 1, none⟩) (m - 1) (cap - 1)) = qv at *
            generalize Z.setCell ⟨Qb, c, none⟩ qv = V at *
            clear q1 f1
            obtain ⟨vq', hA⟩ := HT.out
            obtain ⟨fs, hfs⟩ : ∃ fs, fs = f.step L kk kk := ⟨_, rfl⟩
            rw [← hfs] at hA HO HD'
            have HRR := Lib.hid hA
            clear hA HT hfs
            go_wp2
            go_loopw [16, 147] (fun v16 i wy => ∃ (j : Nat) (cc : Int), j ≤ len0 ∧ v16 = .int .i64 cc ∧ i = .int .i64 j ∧ HoldQ fs j cc ∧ RdA w3 wy L fs Qb vq' q') (fun _ i _ => len0 - (intOf i).toNat)
            case atStart => exact ⟨0, 0, Nat.zero_le _, rfl, rfl, .inl ⟨rfl, fun t ht => by omega⟩, HRR.out⟩
            case round =>
              clear HRR
              obtain ⟨j, cc, hj, rfl, rfl, hH, hR⟩ := hrel
              by_cases hjn : j < len0
              · have jn : (j : Int) < len0 := by omega
                have hjs : j < fs.s.n := by have := HO.out.size; have := HS.out; omega
                have eS : fs.s.stI (j : Int) = fs.s.st j := by unfold SS.stI; rw [if_pos (by omega), Int.toNat_natCast]
                have cS := ls_state hR.ls (j : Int)
                rw [eS] at cS
                have c0 := hR.ls.cell0
                have HR2 := Lib.hid hR
                by_cases hs : fs.s.st j = 2
                · obtain ⟨rfl, hH2⟩ := HoldQ.yes HO.out hjs hH hs
                  rw [hs] at cS
                  have HH2 := Lib.hid hH2
                  clear hH hH2 hs eS hR
                  go_wp2_with (go_at_call 21; (with_reducible refine cS.mono ?_); rintro e w3 ⟨rfl, rfl⟩)
                  go_roundw
                  case rel => exact ⟨j + 1, 1, by omega, rfl, by go_num, HH2.out, HR2.out⟩
                  case measure => simp [intOf]; omega
                · have bs : (fs.s.st j == 2) = false := beq_false_of_ne hs
                  have HH2 := Lib.hid (hH.no hs)
                  generalize fs.s.st j = x at cS bs
                  clear hH hs eS hR
                  go_wp2_with (go_at_call 21; (with_reducible refine cS.mono ?_); rintro e w3 ⟨rfl, rfl⟩)
                  go_roundw
                  case rel => exact ⟨j + 1, cc, by omega, rfl, by go_num, HH2.out, HR2.out⟩
                  case measure => simp [intOf]; omega
              · have hc2 : ¬ (1 : Int) < cc := by rcases hH with ⟨e, _⟩ | ⟨e, _⟩ <;> omega
                have HF := Lib.hid hR
                clear hH hR
                go_wp2
                go_roundw
                case rel => exact ⟨k + 1, _, _, by omega, rfl, rfl, by go_num, fs, vq', q', HF.out, HO.out, HD'.out⟩
                case measure => simp [intOf]; omega
          · skip
            have HD := Lib.hid hd.symm
            have HO := Lib.hid hO'
            clear hd hO'
            have hgt : ¬ (a1_2 < row + 1) := by omega
            have hw1 : IntKind.i64.wrap (row + 1) = row + 1 := by rw [IntKind.wrap_i64]; have := HB.out; omega
            obtain rfl := hnode
            obtain ⟨g, off, cap, hvc, hcap, _⟩ := (show RowQ X (vq c) ((kk :: q' c).map natV) by rw [← eq0]; exact HX.out.1.row c hc8).head
            rw [List.length_map] at hvc hcap
            obtain ⟨m, hm⟩ : ∃ m, m = (q' c).length + 1 := ⟨_, rfl⟩
            rw [← hm] at hcap hvc
            have m1' : ((m : Int) == 0) = false := beq_false_of_ne (by omega)
            have m1 : 1 ≤ m := by omega
            have m0 : (0 : Int) < m := by omega
            have m2 : ¬ ((m : Int) ≤ 0) := by omega
            have m8 : m ≤ 9 := by rw [hm]; have := HX.out.2.2.1.len c; rw [eq0, List.length_cons] at this; exact this
            clear hm
            go_upto_region 25 with (go_at_call 20; (with_reducible refine (ls_step HX.out.1.ls (kk : Int) (kk : Int) 0 (by have := HX.out.2.2.2.1; omega)).mono ?_); intro e w2 hq; unfold LsPost at hq; obtain ⟨rfl, hL2, hW2⟩ := hq; rw [HD.out]; dsimp only [Dd.val]; have b2 := (hW2.block B (blk_lt HX.out.2.1) (fun e => by have := HX.out.2.2.2.2.1; unfold Low at e; omega)).trans HX.out.2.1; have H2 := Lib.hid (And.intro (HX.out.1.call hL2 hW2) b2); clear hL2 hW2 b2)
            obtain ⟨Y, hY⟩ : ∃ Y, Y = w2.alloc (.cells #[.int .i64 1, .bool false, .bool false, .bool false] 71) := ⟨_, rfl⟩
            obtain ⟨C, hC⟩ : ∃ C, C = w2.heap.size := ⟨_, rfl⟩
            have y1 : Y.cell? ⟨B, 1, none⟩ = some (.int .i64 (kk : Int)) := by rw [hY]; exact ((Wrote.refl Nil w2).alloc _).old (by rw [blk_cell H2.out.2]; rfl)
            have hAY : RdA w3 Y L (f.step L kk kk) Qb vq q := by rw [hY]; exact H2.out.1.after ((Wrote.refl _ _).alloc _)
            have q1 := hAY.cell hc8
            have yB := HBX.out _ _ _ _ hAY
            rw [hvc] at q1
            obtain ⟨g', off', cap', he, _, r0⟩ := (show RowQ Y (.slice (some ⟨g, off, none⟩) m cap) ((kk :: q' c).map natV) by rw [← eq0, ← hvc]; exact hAY.row c hc8).head
            simp only [Value.slice.injEq, Option.some.injEq, Addr.mk.injEq, and_true] at he
            obtain ⟨⟨rfl, rfl⟩, he, rfl⟩ := he
            clear he
            replace r0 : Y.cell? ⟨g, off, none⟩ = some (.int .i64 (kk : Int)) := r0
            have H3 := Lib.hid hAY
            have cI : (c : Int) < 8 := by omega
            have c0I : (0 : Int) ≤ c := by omega
            rw [← hY, ← hC]
            clear hY hC H2 hAY
            go_big_quiet (fail)
            generalize hZ : Y.drewN _ = Z
            have hAZ : RdA w3 Z L (f.step L kk kk) Qb vq q := by rw [← hZ]; exact H3.out.after ((Wrote.refl _ _).drewN _)
            have q1 := hAZ.cell hc8
            rw [hvc] at q1
            have f1 := hAZ.frz c
            have H4 := Lib.hid hAZ
            have HV := Lib.hid hvc
            clear hZ y1 r0 H3 hAZ hvc yB
            go_upto_region 28 with fail
            have HT := Lib.hid (show ∃ vq', RdA w3 (Z.setCell ⟨Qb, c, none⟩ (.slice (if cap = 1 then some ⟨g, off, none⟩ else some ⟨g, off + 1, none⟩) (m - 1) (cap - 1))) L (f.step L kk kk) Qb vq' q' from ⟨_, H4.out.cut hc8 HV.out eq0 eq1 (by split <;> first | exact .inr rfl | exact .inl ⟨rfl, by assumption⟩)⟩)
            generalize (Value.slice (if cap = 1 then some ⟨g, off, none⟩ else some ⟨g, off + 1, none⟩) (m - 1) (cap - 1)) = qv at *
            generalize Z.setCell ⟨Qb, c, none⟩ qv = V at *
            clear q1 f1
            obtain ⟨vq', hA⟩ := HT.out
            obtain ⟨fs, hfs⟩ : ∃ fs, fs = f.step L kk kk := ⟨_, rfl⟩
            rw [← hfs] at hA HO HD'
            have HRR := Lib.hid hA
            clear hA HT hfs
            go_wp2
            go_loopw [16, 147] (fun v16 i wy => ∃ (j : Nat) (cc : Int), j ≤ len0 ∧ v16 = .int .i64 cc ∧ i = .int .i64 j ∧ HoldQ fs j cc ∧ RdA w3 wy L fs Qb vq' q') (fun _ i _ => len0 - (intOf i).toNat)
            case atStart => exact ⟨0, 0, Nat.zero_le _, rfl, rfl, .inl ⟨rfl, fun t ht => by omega⟩, HRR.out⟩
            case round =>
              clear HRR
              obtain ⟨j, cc, hj, rfl, rfl, hH, hR⟩ := hrel
              by_cases hjn : j < len0
              · have jn : (j : Int) < len0 := by omega
                have hjs : j < fs.s.n := by have := HO.out.size; have := HS.out; omega
                have eS : fs.s.stI (j : Int) = fs.s.st j := by unfold SS.stI; rw [if_pos (by omega), Int.toNat_natCast]
                have cS := ls_state hR.ls (j : Int)
                rw [eS] at cS
                have c0 := hR.ls.cell0
                have HR2 := Lib.hid hR
                by_cases hs : fs.s.st j = 2
                · obtain ⟨rfl, hH2⟩ := HoldQ.yes HO.out hjs hH hs
                  rw [hs] at cS
                  have HH2 := Lib.hid hH2
                  clear hH hH2 hs eS hR
                  go_wp2_with (go_at_call 21; (with_reducible refine cS.mono ?_); rintro e w3 ⟨rfl, rfl⟩)
                  go_roundw
                  case rel => exact ⟨j + 1, 1, by omega, rfl, by go_num, HH2.out, HR2.out⟩
                  case measure => simp [intOf]; omega
                · have bs : (fs.s.st j == 2) = false := beq_false_of_ne hs
                  have HH2 := Lib.hid (hH.no hs)
                  generalize fs.s.st j = x at cS bs
                  clear hH hs eS hR
                  go_wp2_with (go_at_call 21; (with_reducible refine cS.mono ?_); rintro e w3 ⟨rfl, rfl⟩)
                  go_roundw
                  case rel => exact ⟨j + 1, cc, by omega, rfl, by go_num, HH2.out, HR2.out⟩
                  case measure => simp [intOf]; omega
              · have hc2 : ¬ (1 : Int) < cc := by rcases hH with ⟨e, _⟩ | ⟨e, _⟩ <;> omega
                have HF := Lib.hid hR
                clear hH hR
                go_wp2
                go_roundw
                case rel => exact ⟨k + 1, _, _, by omega, rfl, rfl, by go_num, fs, vq', q', HF.out, HO.out, HD'.out⟩
                case measure => simp [intOf]; omega
        · have k4 : (K == 4) = false := beq_false_of_ne hK4
          have k5 : (K != 4) = true := by simpa [bne, BEq.beq] using hK4
          clear hK1 hK2 hK4
          go_wp2
          go_roundw
          case rel => exact ⟨k + 1, _, _, by omega, rfl, rfl, by go_num, f, vq, q, HX.out.1, HX.out.2.2.1, Nat.le_succ_of_le HX.out.2.2.2.1⟩
          case measure => simp [intOf]; omega
      · have HQ := Lib.hid hQ.ls.wr
        clear hQ hO hD
        go_wp2_with (go_at_call 10; with_reducible refine (fl_awake _).mono ?_; intro e w5 hq; unfold AwakePost at hq; obtain ⟨rfl, hW5⟩ := hq)
        go_ret
        exact ⟨rfl, (HY.out.1.nil (HQ.out.nil hW5)).law⟩


/-! the row -/
set_option maxRecDepth 100000 in
theorem lifted (os : Os) (started : os.Started) (H : Type) (enc : TypeId × Value → H) :
    ReturnsInHanded {} Tryz.checked os 4 .any (Rows.cohortRowsSpec.pre6 enc Tryz.prog Tryz.f4 Rows.cohortRowsRow.domain false) (Rows.cohortRowsSpec.post enc Tryz.prog Tryz.f4 false true false false) := by
  refine returnsInHanded_of_change (C := Tryz.checked) own started (by kernel_rfl) Tryz.func4
    (ChangeSpec.witness6 (enc := enc) (C := Tryz.checked) false ⟨#[], #[.slice none 0 0, .agg #[.int .i64 0, .int .i64 0, .int .i64 0], .slice none 0 0], []⟩ 8 (by kernel_rfl) (by kernel_rfl) (by kernel_rfl) (by kernel_rfl)) ?_
  intro W base args ds gs before hval0 hW hcnd _
  have hval : ∀ (j : Nat) t v, Tryz.f4.params[j]? = some t → args[j]? = some v → Value.okWide Tryz.prog W .any base t v := hval0
  have hW' := hW
  obtain ⟨p, q, hA0, hV, rfl, hfz, hnd⟩ := hW
  have hA : DataW.TrodAll enc Tryz.prog W 0 (fun _ => true) true Tryz.f4.params.toList args.toList ds p := hA0
  rw [Tryz.params4] at hA hval
  obtain ⟨v0, vs0, d0, ds0, p0, q0, hargs, rfl, rfl, h0, r0'⟩ := trodAll_cons hA
  obtain ⟨v1, vs1, d1, ds1, p1, q1, rfl, rfl, rfl, h1, r1'⟩ := trodAll_cons r0'
  obtain ⟨v2, vs2, d2, ds2, p2, q2, rfl, rfl, rfl, h2, r2'⟩ := trodAll_cons r1'
  obtain ⟨rfl, rfl, rfl⟩ := trodAll_nil r2'
  obtain rfl : args = #[v0, v1, v2] := by cases args; simp_all
  obtain ⟨rfl, rfl⟩ := trodVars_none hV
  have k0 := h0
  have lt0 : ∀ x ∈ p0, x.block < W.heap.size := by obtain ⟨m, hm⟩ := k0; exact DataW.trod_lt m _ _ _ hm
  obtain ⟨s0, len0, cap0, rfl⟩ := okWide_slice Tryz.underlying22 (hval 0 22 v0 rfl rfl)
  obtain ⟨l0, z0, r0, w0⟩ := open_slice_row Tryz.underlying22 Tryz.underlying3 (by kernel_rfl) h0
  have k1 := h1
  have lt1 : ∀ x ∈ p1, x.block < W.heap.size := by obtain ⟨m, hm⟩ := k1; exact DataW.trod_lt m _ _ _ hm
  obtain ⟨zs1, rfl, hl1, hz1⟩ := open_struct_list (ks := [.i64, .i64, .i64]) Tryz.underlying24 (by kernel_rfl) (by kernel_rfl) (hval 1 24 v1 rfl rfl) h1
  obtain ⟨a1_0, a1_1, a1_2, rfl⟩ := list3 hl1
  have k2 := h2
  have lt2 : ∀ x ∈ p2, x.block < W.heap.size := by obtain ⟨m, hm⟩ := k2; exact DataW.trod_lt m _ _ _ hm
  obtain ⟨s2, len2, cap2, rfl⟩ := okWide_slice Tryz.underlying25 (hval 2 25 v2 rfl rfl)
  obtain ⟨l2, z2, r2⟩ := open_slice_ints (ks := [.i64, .i64, .i64, .i64]) Tryz.underlying25 Tryz.underlying58 (by kernel_rfl) (by kernel_rfl) h2
  clear hA0 hval0
  refine (walk s0 len0 cap0 z0 a1_0 a1_1 a1_2 s2 len2 cap2 z2 W l0 r0 w0 (hz1 0 _ rfl) (hz1 1 _ rfl) (hz1 2 _ rfl) l2 r2).mono fun e W' ⟨he, bel⟩ => ?_
  subst he
  exact ⟨_, rfl, _, _, _, [], _, [], hW', trodAll_mk1 (shut_bool Tryz.underlying4 _), (trodAll_cons_mk (Below.trod laidOut (by kernel_rfl) (of_decide_eq_true (by kernel_rfl)) k0 bel lt0) (trodAll_cons_mk (Below.trod laidOut (by kernel_rfl) (of_decide_eq_true (by kernel_rfl)) k1 bel lt1) (trodAll_cons_mk (Below.trod laidOut (by kernel_rfl) (of_decide_eq_true (by kernel_rfl)) k2 bel lt2) trodAll_mk0))), rfl, bel.frame _, fun h => by cases h⟩

theorem over : Rows.cohortRowsRow.holds Tryz.pinned (OpenSpec.ofChange Rows.cohortRowsSpec) :=
  OpenClaim.holds_of_wide 4 Tryz.f4 rfl rfl rfl rfl rfl rfl rfl ⟨rfl, rfl, rfl, rfl, rfl⟩ rfl rfl rfl rfl rfl (by kernel_rfl) Tryz.func4 (by kernel_rfl)
    (of_decide_eq_true (by kernel_rfl)) (by unfold Func.isWrapper; first | (rw [if_pos (by decide +kernel)]; kernel_rfl) | (rw [if_neg (by decide +kernel)]; exact ⟨rfl, rfl⟩))
    (fun os started H enc _ => lifted os started H enc)

/-- the statement -/
theorem proved : Rows.CohortRowsSaid := over
#print axioms proved
end Go.Proofs.YtkmikkjjnbikdaaGreat.cohortRows
