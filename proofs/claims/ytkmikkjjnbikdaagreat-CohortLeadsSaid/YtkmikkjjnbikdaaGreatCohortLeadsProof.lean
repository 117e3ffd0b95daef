/- For every input the Go function CohortLeads of weighlocklaw16 returns true, and its arguments read afterwards as before. Conditions: none. -/
import Derived.Test.YtkmikkjjnbikdaaGreatRows
import Derived.WalkKit
import Derived.ProofKit
import Derived.OpenShut
import Derived.ChangeOld
import Derived.Below
import Derived.Carry
import Derived.Test.YtkmikkjjnbikdaaGreatCohortLaw
import Derived.Test.YtkmikkjjnbikdaaGreatCohortRow
import Derived.Test.YtkmikkjjnbikdaaGreatCohLead
import Derived.Test.YtkmikkjjnbikdaaGreatCohMay
import Derived.BigFrame
import Derived.BigQuiet
import Derived.Deep.Cut
import Derived.Deep.CutBlock
import Derived.Deep.CutRange
namespace Go.Proofs.YtkmikkjjnbikdaaGreat.cohortLeads
open Go.ChangeShapes Go.WideShapes Go.ChangeAt Go.RowKit
set_option linter.unusedVariables false

theorem own : ownKnob Tryz.prog.godebug = none := by kernel_rfl
theorem laidOut : laidOutB Tryz.prog = true := by kernel_rfl

/-! the walk -/
/-- between two calls -/
def LdSt (w0 wr : World) (L : Lp) (k : Nat) (v7 : Value) : Prop := ∃ (f : FL) (R : List Nat), RdC w0 wr L f R v7 ∧ OrdL f R ∧ f.ps.D.length ≤ k

set_option maxRecDepth 100000 in
set_option maxHeartbeats 4000000 in
theorem walk (s0 : Option Addr) (len0 cap0 : Nat) (z0 : List Int) (a1_0 a1_1 a1_2 : Int) (s2 : Option Addr) (len2 cap2 : Nat) (z2 : Nat → Nat → Int) (w : World) (l0 : len0 ≤ cap0 ∧ cap0 ≤ maxLen ∧ (s0 = none → cap0 = 0)) (r0 : RowAt .i64 w s0 len0 z0) (w0 : ∀ z ∈ z0, (Lit.int .i64 z).wf = true) (w1_0 : (Lit.int .i64 a1_0).wf = true) (w1_1 : (Lit.int .i64 a1_1).wf = true) (w1_2 : (Lit.int .i64 a1_2).wf = true) (l2 : len2 ≤ cap2 ∧ cap2 ≤ maxLen ∧ (s2 = none → cap2 = 0)) (r2 : Structs w [.i64, .i64, .i64, .i64] s2 len2 z2) :
    Calls Tryz.prog 7 #[.slice s0 len0 cap0, .agg #[.int .i64 a1_0, .int .i64 a1_1, .int .i64 a1_2], .slice s2 len2 cap2] w fun e w' => e = .returned (.bool true) ∧ Below w.heap.size w w' := by
  have hm0 : len0 ≤ 9223372036854775807 := by have := l0.1; have := l0.2.1; unfold maxLen at this; omega
  have hm2 : len2 ≤ 9223372036854775807 := by have := l2.1; have := l2.2.1; unfold maxLen at this; omega
  have hat : OpsAt w s2 len2 z2 := by
    rcases r2.at (by decide) with e | ⟨b2, o2, rfl, hc2⟩
    · exact .inl e
    · exact .inr ⟨b2, o2, rfl, fun i hi j hj => (hc2 i hi j .i64 (by match j, hj with | 0, _ => rfl | 1, _ => rfl | 2, _ => rfl | 3, _ => rfl)).1⟩
  obtain ⟨X, hX⟩ : ∃ X, X = w.alloc (.cells #[.int .i64 a1_0, .int .i64 a1_1, .int .i64 a1_2] 24) := ⟨_, rfl⟩
  have hWX : Wrote Nil w X := by rw [hX]; exact (Wrote.refl _ w).alloc _
  have hblk : X.heap[w.heap.size]? = some (.cells #[.int .i64 a1_0, .int .i64 a1_1, .int .i64 a1_2] 24 (0, 0)) := by rw [hX]; exact Go.Deep.blk_alloc_new _ _
  have x0 : X.cell? ⟨w.heap.size, 0, none⟩ = some (.int .i64 a1_0) := (blk_cell hblk 0).trans rfl
  have x1 : X.cell? ⟨w.heap.size, 1, none⟩ = some (.int .i64 a1_1) := (blk_cell hblk 1).trans rfl
  have x2 : X.cell? ⟨w.heap.size, 2, none⟩ = some (.int .i64 a1_2) := (blk_cell hblk 2).trans rfl
  have cF := fine_any (cap := cap0) (r0.after hWX) hm0 s2 len2 cap2 hm2
  have cK := fl_may a1_0 a1_1 a1_2
  have HX := Lib.hid hX
  cases hf : fineB len0 z0 len2
  · rw [hf] at cF
    have HW := Lib.hid hWX
    clear r0 hf w0 l0 l2 r2 hat w1_0 w1_1 w1_2 hWX hblk hX
    go_enter Tryz.func7, Tryz.ntmps7
    go_wp2_with (first
      | (go_at_call 8; rw [← HX.out]; with_reducible refine cF.mono ?_; rintro e w2 ⟨rfl, hw2⟩; subst w2)
      | (go_at_call 10; with_reducible refine (fl_awake _).mono ?_; intro e w2 hq; unfold AwakePost at hq; obtain ⟨rfl, hW⟩ := hq))
    go_ret
    exact ⟨rfl, (HW.out.nil hW).law⟩
  cases hk : rightB a1_0 a1_1 a1_2
  · rw [hf] at cF
    rw [hk] at cK
    have HW := Lib.hid hWX
    clear r0 hf hk w0 l0 l2 r2 hat w1_0 w1_1 w1_2 hWX hblk hX
    go_enter Tryz.func7, Tryz.ntmps7
    go_wp2_with (first
      | (go_at_call 8; rw [← HX.out]; with_reducible refine cF.mono ?_; rintro e w2 ⟨rfl, hw2⟩; subst w2)
      | (go_at_call 9; (with_reducible refine (cK _).mono ?_); rintro e w3 ⟨rfl, hW3⟩; have HM := Lib.hid hW3; clear hW3 cK)
      | (go_at_call 10; with_reducible refine (fl_awake _).mono ?_; intro e w4 hq; unfold AwakePost at hq; obtain ⟨rfl, hW⟩ := hq))
    go_ret
    exact ⟨rfl, (HW.out.nil (HM.out.nil hW)).law⟩
  · rw [hf] at cF
    rw [hk] at cK
    obtain ⟨n1, n8, ho, hm⟩ := fineB_no hf
    rcases r0.at with e0 | ⟨b, o, rfl, hc⟩
    · omega
    have hb : b < w.heap.size := World.block_lt_of_cell? w _ (hc 0 (by omega))
    have HM := Lib.hid (fun (W : World) (k : Wrote Nil w W) => fl_made (cap := cap0) (r0.after k) (Nat.lt_of_lt_of_le hb k.size) ho n1 n8 hk)
    have HH := Lib.hid (And.intro ho hat)
    have HS := Lib.hid r0.len
    have HB := Lib.hid (right_B hk)
    have HW := Lib.hid hWX
    clear r0 hf hk w0 l0 l2 r2 hat hc ho hb w1_0 w1_1 w1_2 hWX hblk hX
    go_enter Tryz.func7, Tryz.ntmps7
    go_wp2_with (first
      | (go_at_call 8; rw [← HX.out]; with_reducible refine cF.mono ?_; rintro e w2 ⟨rfl, hw2⟩; subst w2)
      | (go_at_call 9; (with_reducible refine (cK _).mono ?_); rintro e w3 ⟨rfl, hW3⟩; have y0 := hW3.old x0; have y1 := hW3.old x1; have y2 := hW3.old x2; have H3 := Lib.hid (HW.out.nil hW3); clear hW3 cK x0 x1 x2)
      | (go_at_call 11; (with_reducible refine (HM.out _ H3.out).mono ?_); intro e w1 hq; unfold MdPost at hq; obtain ⟨L, rfl, hL, h1, hhs⟩ := hq; have HA := Lib.hid (And.intro h1 hhs); have H2 := Lib.hid (ls_old H3.out hL); clear hL h1 hhs y0 y1 y2))
    clear cF
    go_loopw [9, 37] (fun v7 i wr => ∃ k : Nat, k ≤ len2 ∧ i = .int .i64 k ∧ LdSt w wr L k v7) (fun _ i _ => len2 - (intOf i).toNat)
    case atStart => exact ⟨0, Nat.zero_le _, rfl, _, [], RdC.empty H2.out, ⟨_, _, _, _, ord_new z0 len0 HS.out n8 HH.out.1 HB.out, Row.start fun _ => rfl⟩, Nat.le_refl _⟩
    case round =>
      clear H2 HM
      obtain ⟨k, hk, rfl, hst⟩ := hrel
      unfold LdSt at hst
      obtain ⟨f, R, hQ, hO, hD⟩ := hst
      by_cases hlt : k < len2
      · rcases HH.out.2 with e0 | ⟨gb, go, rfl, hcell⟩
        · omega
        have hkI : (k : Int) < len2 := by omega
        have y0 : wr.cell? ⟨gb, go + k * 4, none⟩ = some (.int .i64 (z2 k 0)) := hQ.ls.wr.old (hcell k hlt 0 (by decide))
        have y1 : wr.cell? ⟨gb, go + k * 4 + 1, none⟩ = some (.int .i64 (z2 k 1)) := hQ.ls.wr.old (hcell k hlt 1 (by decide))
        have y2 : wr.cell? ⟨gb, go + k * 4 + 2, none⟩ = some (.int .i64 (z2 k 2)) := hQ.ls.wr.old (hcell k hlt 2 (by decide))
        have y3 : wr.cell? ⟨gb, go + k * 4 + 3, none⟩ = some (.int .i64 (z2 k 3)) := hQ.ls.wr.old (hcell k hlt 3 (by decide))
        generalize z2 k 0 = K at y0
        generalize z2 k 1 = t at y1
        generalize z2 k 2 = N at y2
        generalize z2 k 3 = la at y3
        clear hcell
        obtain ⟨X, hX⟩ : ∃ X, X = wr.alloc (.cells #[.int .i64 K, .int .i64 t, .int .i64 N, .int .i64 la] 58) := ⟨_, rfl⟩
        have hQX : RdC w X L f R u9 := by rw [hX]; exact hQ.after ((Wrote.refl _ _).alloc _)
        have hB : X.heap[wr.heap.size]? = some (.cells #[.int .i64 K, .int .i64 t, .int .i64 N, .int .i64 la] 58 (0, 0)) := by rw [hX]; exact Go.Deep.blk_alloc_new wr _
        obtain ⟨B, hBe⟩ : ∃ B, B = wr.heap.size := ⟨_, rfl⟩
        have hBX : L.q.k3 ≤ B ∧ ∀ j, u9.ownBlock = some j → j < B := by rw [hBe]; exact ⟨hQ.ls.lk.lk.top, fun j hj => hQ.q.lt j hj⟩
        rw [← hBe] at hB
        have HX0 := Lib.hid (And.intro hX hBe)
        have HX := Lib.hid (And.intro hQX (And.intro hB (And.intro hO (And.intro hD hBX))))
        clear hQ hX hQX hB hO hD hBe hBX
        go_upto_region 10 with fail
        obtain ⟨hX, hBe⟩ := HX0.out
        rw [← hX, ← hBe]
        clear HX0 hX hBe y0 y1 y2 y3
        have x0 : X.cell? ⟨B, 0, none⟩ = some (.int .i64 K) := by rw [blk_cell HX.out.2.1]; rfl
        have x1 : X.cell? ⟨B, 1, none⟩ = some (.int .i64 t) := by rw [blk_cell HX.out.2.1]; rfl
        have x2 : X.cell? ⟨B, 2, none⟩ = some (.int .i64 N) := by rw [blk_cell HX.out.2.1]; rfl
        have c0 := HX.out.1.ls.cell0
        by_cases hK1 : K = 1
        · subst hK1
          go_wp2
          have C0 : X.drew.cell? ⟨L.lb, 0, none⟩ = some (.pointer (some ⟨L.p, 0, none⟩)) := c0
          have X1 : X.drew.cell? ⟨B, 1, none⟩ = some (.int .i64 t) := x1
          have X2 : X.drew.cell? ⟨B, 2, none⟩ = some (.int .i64 N) := x2
          have hQd := HX.out.1.after ((Wrote.refl Nil X).drew)
          have cL := ls_lock hQd.ls t N
          have HQd := Lib.hid hQd
          clear hQd
          go_region_held3 (fun w' => w'.cell? ⟨L.lb, 0, none⟩ = some (.pointer (some ⟨L.p, 0, none⟩)) ∧ w'.cell? ⟨B, 1, none⟩ = some (.int .i64 t) ∧ w'.cell? ⟨B, 2, none⟩ = some (.int .i64 N)) (first | with_reducible exact ⟨d0, d1, d2⟩ | exact ⟨C0, X1, X2⟩) ((go_at_call 18; (with_reducible refine cL.mono ?_); intro e w2 hq; unfold LsPost at hq; obtain ⟨rfl, hL2, hW2⟩ := hq; have b2 := (hW2.block B (blk_lt (show X.drew.heap[B]? = _ from HX.out.2.1)) (fun e => by have := HX.out.2.2.2.2.1; unfold Low at e; omega)).trans (show X.drew.heap[B]? = _ from HX.out.2.1); have d0 := hL2.cell0; have d1 : w2.cell? ⟨B, 1, none⟩ = some (.int .i64 t) := (by rw [blk_cell b2]; rfl); have d2 : w2.cell? ⟨B, 2, none⟩ = some (.int .i64 N) := (by rw [blk_cell b2]; rfl); have H2 := Lib.hid (HQd.out.call hL2 hW2); clear hL2 hW2 b2))
          go_wp2
          go_roundw
          case rel => exact ⟨k + 1, by omega, by go_num, _, R, H2.out, HX.out.2.2.1.lock t N, Nat.le_succ_of_le HX.out.2.2.2.1⟩
          case measure => simp [intOf]; omega
        by_cases hK2 : K = 2
        · subst hK2
          go_wp2
          have C0 : X.drew.cell? ⟨L.lb, 0, none⟩ = some (.pointer (some ⟨L.p, 0, none⟩)) := c0
          have X1 : X.drew.cell? ⟨B, 1, none⟩ = some (.int .i64 t) := x1
          have hQd := HX.out.1.after ((Wrote.refl Nil X).drew)
          have cL := ls_unlock hQd.ls t
          have HQd := Lib.hid hQd
          clear hQd
          go_region_held3 (fun w' => w'.cell? ⟨L.lb, 0, none⟩ = some (.pointer (some ⟨L.p, 0, none⟩)) ∧ w'.cell? ⟨B, 1, none⟩ = some (.int .i64 t)) (first | with_reducible exact ⟨d0, d1⟩ | exact ⟨C0, X1⟩) ((go_at_call 19; (with_reducible refine cL.mono ?_); intro e w2 hq; unfold LsPost at hq; obtain ⟨rfl, hL2, hW2⟩ := hq; have b2 := (hW2.block B (blk_lt (show X.drew.heap[B]? = _ from HX.out.2.1)) (fun e => by have := HX.out.2.2.2.2.1; unfold Low at e; omega)).trans (show X.drew.heap[B]? = _ from HX.out.2.1); have d0 := hL2.cell0; have d1 : w2.cell? ⟨B, 1, none⟩ = some (.int .i64 t) := (by rw [blk_cell b2]; rfl); have H2 := Lib.hid (HQd.out.call hL2 hW2); clear hL2 hW2 b2))
          go_wp2
          go_roundw
          case rel => exact ⟨k + 1, by omega, by go_num, _, R, H2.out, HX.out.2.2.1.unlock t, Nat.le_succ_of_le HX.out.2.2.2.1⟩
          case measure => simp [intOf]; omega
        have k1 : (K == 1) = false := beq_false_of_ne hK1
        have k2 : (K == 2) = false := beq_false_of_ne hK2
        by_cases hK4 : K = 4
        · subst hK4
          obtain ⟨R', hO', hD', hq⟩ := HX.out.2.2.1.step (L := L) HA.out.1 t
          obtain ⟨d, hd⟩ : ∃ d, d = f.did L t t := ⟨_, rfl⟩
          rw [← hd] at hq
          have HO := Lib.hid (And.intro hO' (show (f.step L t t).ps.D.length ≤ k + 1 by have := HX.out.2.2.2.1; omega))
          clear hO' hD' k1 k2 hK1 hK2
          have hcs : (d.arr = false ∧ d.lead = false ∧ R' = R) ∨ (∃ kk : Nat, t = kk ∧ d = ⟨0, false, true, false⟩ ∧ R' = R ++ [kk]) ∨ (∃ kk : Nat, t = kk ∧ d = ⟨1, false, false, true⟩ ∧ R = kk :: R') := by
            rcases hq with ⟨kk, rfl, hq⟩ | ⟨rfl, rfl⟩
            · cases hq with
              | same a b c => exact .inl ⟨a, b, c⟩
              | arr a b => exact .inr (.inl ⟨kk, rfl, a, b⟩)
              | lead a b => exact .inr (.inr ⟨kk, rfl, a, b⟩)
            · exact .inl ⟨rfl, rfl, rfl⟩
          clear hq
          rcases hcs with ⟨ha, hl, rfl⟩ | ⟨kk, rfl, rfl, rfl⟩ | ⟨kk, rfl, rfl, rfl⟩
          · obtain ⟨ev, enq, arr, lead⟩ := d
            obtain rfl : arr = false := ha
            obtain rfl : lead = false := hl
            have HD := Lib.hid hd.symm
            clear hd
            go_wp2_with (go_at_call 20; (with_reducible refine (ls_step HX.out.1.ls t t 0 (by have := HX.out.2.2.2.1; omega)).mono ?_); intro e w2 hq; unfold LsPost at hq; obtain ⟨rfl, hL2, hW2⟩ := hq; rw [HD.out]; dsimp only [Dd.val]; have H2 := Lib.hid (HX.out.1.call hL2 hW2); clear hL2 hW2)
            go_roundw
            case rel => exact ⟨k + 1, by omega, by go_num, _, R', H2.out.after ((Wrote.refl _ _).alloc _), HO.out.1, HO.out.2⟩
            case measure => simp [intOf]; omega
          · have HD := Lib.hid hd.symm
            clear hd
            have hl8 := HX.out.2.2.1.len
            go_wp2_with (first
              | (go_at_call 20; (with_reducible refine (ls_step HX.out.1.ls (kk : Int) (kk : Int) 0 (by have := HX.out.2.2.2.1; omega)).mono ?_); intro e w2 hq; unfold LsPost at hq; obtain ⟨rfl, hL2, hW2⟩ := hq; rw [HD.out]; dsimp only [Dd.val]; have b2 := (hW2.block B (blk_lt HX.out.2.1) (fun e => by have := HX.out.2.2.2.2.1; unfold Low at e; omega)).trans HX.out.2.1; have y1 : (w2.alloc (.cells #[.int .i64 0, .bool false, .bool true, .bool false] 71)).cell? ⟨B, 1, none⟩ = some (.int .i64 (kk : Int)) := ((Wrote.refl Nil w2).alloc _).old (by rw [blk_cell b2]; rfl); have H2 := Lib.hid (And.intro (HX.out.1.call hL2 hW2) b2); clear hL2 hW2 b2)
              | (at_builtin; refine wpList_push rfl _ _ rfl rfl (H2.out.1.after (((Wrote.refl _ _).alloc _).alloc _)).q ⟨w2.heap.size + 1, 0, none⟩ (natV kk) rfl (by rw [show w2.heap.size + 1 = (w2.alloc (.cells #[.int .i64 0, .bool false, .bool true, .bool false] 71)).heap.size from (Go.Deep.nblk_alloc _ _).symm, blk_cell (Go.Deep.blk_alloc_new _ _)]; rfl) (by simp [natV, Value.oneCell']) (by rw [List.length_map]; omega) ?_; intro v' w6 hpush; have hQ6 := (H2.out.1.after (((Wrote.refl _ _).alloc _).alloc _)).push hpush; have yc : w6.heap[w2.heap.size]? = some (.cells #[.int .i64 0, .bool false, .bool true, .bool false] 71 (0, 0)) := (by
                  have e2 := blk_lt H2.out.2
                  rw [hpush.2.1.block w2.heap.size (by rw [Go.Deep.nblk_alloc, Go.Deep.nblk_alloc]; omega) (fun e => by have := HX.out.2.2.2.2.2 _ e; omega), Go.Deep.blk_alloc_lt _ _ _ (by rw [Go.Deep.nblk_alloc]; omega)]
                  exact Go.Deep.blk_alloc_new w2 _); have d3 : w6.cell? ⟨w2.heap.size, 3, none⟩ = some (.bool false) := (by rw [blk_cell yc]; rfl); have H6 := Lib.hid hQ6; clear hpush hQ6 yc))
            go_roundw
            case rel => exact ⟨k + 1, by omega, by go_num, _, _, H6.out, HO.out.1, HO.out.2⟩
            case measure => simp [intOf]; omega
          · have HD := Lib.hid hd.symm
            clear hd
            obtain ⟨g, off, cap, hu9, hcap, _⟩ := HX.out.1.q.head
            rw [List.length_map] at hu9 hcap
            subst hu9
            obtain ⟨m, hm⟩ : ∃ m, m = R'.length + 1 := ⟨_, rfl⟩
            rw [← hm] at hcap
            have m1' : ((m : Int) == 0) = false := beq_false_of_ne (by omega)
            have m1 : 1 ≤ m := by omega
            have m0 : (0 : Int) < m := by omega
            have m2 : ¬ ((m : Int) ≤ 0) := by omega
            have m8 : m ≤ 9 := by rw [hm]; have := HX.out.2.2.1.len; rw [List.length_cons] at this; exact this
            have HM2 := Lib.hid hm
            rw [← hm] at HX
            rw [← hm]
            clear hm
            go_wp2_with (go_at_call 20; (with_reducible refine (ls_step HX.out.1.ls (kk : Int) (kk : Int) 0 (by have := HX.out.2.2.2.1; omega)).mono ?_); intro e w2 hq; unfold LsPost at hq; obtain ⟨rfl, hL2, hW2⟩ := hq; rw [HD.out]; dsimp only [Dd.val]; have b2 := (hW2.block B (blk_lt HX.out.2.1) (fun e => by have := HX.out.2.2.2.2.1; unfold Low at e; omega)).trans HX.out.2.1; have H2 := Lib.hid (And.intro (HX.out.1.call hL2 hW2) b2); clear hL2 hW2 b2)
            obtain ⟨Y, hY⟩ : ∃ Y, Y = w2.alloc (.cells #[.int .i64 1, .bool false, .bool false, .bool true] 71) := ⟨_, rfl⟩
            obtain ⟨C, hC⟩ : ∃ C, C = w2.heap.size := ⟨_, rfl⟩
            have yc : Y.heap[C]? = some (.cells #[.int .i64 1, .bool false, .bool false, .bool true] 71 (0, 0)) := by rw [hY, hC]; exact Go.Deep.blk_alloc_new w2 _
            have d0 : Y.cell? ⟨C, 0, none⟩ = some (.int .i64 1) := by rw [blk_cell yc]; rfl
            have y1 : Y.cell? ⟨B, 1, none⟩ = some (.int .i64 (kk : Int)) := by rw [hY]; exact ((Wrote.refl Nil w2).alloc _).old (by rw [blk_cell H2.out.2]; rfl)
            have hQY : RdC w Y L (f.step L kk kk) (kk :: R') (.slice (some ⟨g, off, none⟩) m cap) := by rw [hY]; exact H2.out.1.after ((Wrote.refl _ _).alloc _)
            obtain ⟨g', off', cap', he, _, r0⟩ := hQY.q.head
            simp only [Value.slice.injEq, Option.some.injEq, Addr.mk.injEq, and_true] at he
            obtain ⟨⟨rfl, rfl⟩, he, rfl⟩ := he
            clear he
            replace r0 : Y.cell? ⟨g, off, none⟩ = some (.int .i64 (kk : Int)) := r0
            have H3 := Lib.hid hQY
            rw [← hY, ← hC]
            clear hY hC yc H2 hQY
            go_big_quiet (fail)
            generalize hZ : Y.drewN _ = Z
            have H4 := Lib.hid (show RdC w Z L (f.step L kk kk) (kk :: R') (.slice (some ⟨g, off, none⟩) m cap) by rw [← hZ]; exact H3.out.after ((Wrote.refl _ _).drewN _))
            clear hZ d0 y1 r0 H3
            go_wp2
            go_roundw
            case rel => exact ⟨k + 1, by omega, by go_num, _, R', H4.out.cut (by first | exact .inr rfl | (split <;> first | exact .inr rfl | exact .inl ⟨rfl, by omega⟩)), HO.out.1, HO.out.2⟩
            case measure => simp [intOf]; omega
        · have k4 : (K == 4) = false := beq_false_of_ne hK4
          clear hK1 hK2 hK4
          go_wp2
          go_roundw
          case rel => exact ⟨k + 1, by omega, by go_num, f, R, HX.out.1, HX.out.2.2.1, Nat.le_succ_of_le HX.out.2.2.2.1⟩
          case measure => simp [intOf]; omega
      · have HQ := Lib.hid hQ.ls.wr
        clear hQ hO hD
        go_wp2_with (go_at_call 10; with_reducible refine (fl_awake _).mono ?_; intro e w5 hq; unfold AwakePost at hq; obtain ⟨rfl, hW5⟩ := hq)
        go_ret
        exact ⟨rfl, (HQ.out.nil hW5).law⟩


/-! the row -/
set_option maxRecDepth 100000 in
theorem lifted (os : Os) (started : os.Started) (H : Type) (enc : TypeId × Value → H) :
    ReturnsInHanded {} Tryz.checked os 7 .any (Rows.cohortLeadsSpec.pre6 enc Tryz.prog Tryz.f7 Rows.cohortLeadsRow.domain false) (Rows.cohortLeadsSpec.post enc Tryz.prog Tryz.f7 false true false false) := by
  refine returnsInHanded_of_change (C := Tryz.checked) own started (by kernel_rfl) Tryz.func7
    (ChangeSpec.witness6 (enc := enc) (C := Tryz.checked) false ⟨#[], #[.slice none 0 0, .agg #[.int .i64 0, .int .i64 0, .int .i64 0], .slice none 0 0], []⟩ 8 (by kernel_rfl) (by kernel_rfl) (by kernel_rfl) (by kernel_rfl)) ?_
  intro W base args ds gs before hval0 hW hcnd _
  have hval : ∀ (j : Nat) t v, Tryz.f7.params[j]? = some t → args[j]? = some v → Value.okWide Tryz.prog W .any base t v := hval0
  have hW' := hW
  obtain ⟨p, q, hA0, hV, rfl, hfz, hnd⟩ := hW
  have hA : DataW.TrodAll enc Tryz.prog W 0 (fun _ => true) true Tryz.f7.params.toList args.toList ds p := hA0
  rw [Tryz.params7] at hA hval
  obtain ⟨v0, vs0, d0, ds0, p0, q0, hargs, rfl, rfl, h0, r0'⟩ := trodAll_cons hA
  obtain ⟨v1, vs1, d1, ds1, p1, q1, rfl, rfl, rfl, h1, r1'⟩ := trodAll_cons r0'
  obtain ⟨v2, vs2, d2, ds2, p2, q2, rfl, rfl, rfl, h2, r2'⟩ := trodAll_cons r1'
  obtain ⟨rfl, rfl, rfl⟩ := trodAll_nil r2'
  obtain rfl : args = #[v0, v1, v2] := by cases args; simp_all
  obtain ⟨rfl, rfl⟩ := trodVars_none hV
  have k0 := h0
  have lt0 : ∀ x ∈ p0, x.block < W.heap.size := by obtain ⟨m, hm⟩ := k0; exact DataW.trod_lt m _ _ _ hm
  obtain ⟨s0, len0, cap0, rfl⟩ := okWide_slice Tryz.underlying22 (hval 0 22 v0 rfl rfl)
  obtain ⟨l0, z0, r0, w0⟩ := open_slice_row Tryz.underlying22 Tryz.underlying3 (by kernel_rfl) h0
  have k1 := h1
  have lt1 : ∀ x ∈ p1, x.block < W.heap.size := by obtain ⟨m, hm⟩ := k1; exact DataW.trod_lt m _ _ _ hm
  obtain ⟨zs1, rfl, hl1, hz1⟩ := open_struct_list (ks := [.i64, .i64, .i64]) Tryz.underlying24 (by kernel_rfl) (by kernel_rfl) (hval 1 24 v1 rfl rfl) h1
  obtain ⟨a1_0, a1_1, a1_2, rfl⟩ := list3 hl1
  have k2 := h2
  have lt2 : ∀ x ∈ p2, x.block < W.heap.size := by obtain ⟨m, hm⟩ := k2; exact DataW.trod_lt m _ _ _ hm
  obtain ⟨s2, len2, cap2, rfl⟩ := okWide_slice Tryz.underlying25 (hval 2 25 v2 rfl rfl)
  obtain ⟨l2, z2, r2⟩ := open_slice_ints (ks := [.i64, .i64, .i64, .i64]) Tryz.underlying25 Tryz.underlying58 (by kernel_rfl) (by kernel_rfl) h2
  clear hA0 hval0
  refine (walk s0 len0 cap0 z0 a1_0 a1_1 a1_2 s2 len2 cap2 z2 W l0 r0 w0 (hz1 0 _ rfl) (hz1 1 _ rfl) (hz1 2 _ rfl) l2 r2).mono fun e W' ⟨he, bel⟩ => ?_
  subst he
  exact ⟨_, rfl, _, _, _, [], _, [], hW', trodAll_mk1 (shut_bool Tryz.underlying4 _), (trodAll_cons_mk (Below.trod laidOut (by kernel_rfl) (of_decide_eq_true (by kernel_rfl)) k0 bel lt0) (trodAll_cons_mk (Below.trod laidOut (by kernel_rfl) (of_decide_eq_true (by kernel_rfl)) k1 bel lt1) (trodAll_cons_mk (Below.trod laidOut (by kernel_rfl) (of_decide_eq_true (by kernel_rfl)) k2 bel lt2) trodAll_mk0))), rfl, bel.frame _, fun h => by cases h⟩

theorem over : Rows.cohortLeadsRow.holds Tryz.pinned (OpenSpec.ofChange Rows.cohortLeadsSpec) :=
  OpenClaim.holds_of_wide 7 Tryz.f7 rfl rfl rfl rfl rfl rfl rfl ⟨rfl, rfl, rfl, rfl, rfl⟩ rfl rfl rfl rfl rfl (by kernel_rfl) Tryz.func7 (by kernel_rfl)
    (of_decide_eq_true (by kernel_rfl)) (by unfold Func.isWrapper; first | (rw [if_pos (by decide +kernel)]; kernel_rfl) | (rw [if_neg (by decide +kernel)]; exact ⟨rfl, rfl⟩))
    (fun os started H enc _ => lifted os started H enc)

/-- the statement -/
theorem proved : Rows.CohortLeadsSaid := over
#print axioms proved
end Go.Proofs.YtkmikkjjnbikdaaGreat.cohortLeads
