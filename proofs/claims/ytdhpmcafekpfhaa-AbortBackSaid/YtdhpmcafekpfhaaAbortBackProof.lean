/- For every input the Go function AbortBack of weighlocklaw14 returns true, and its arguments read afterwards as before. Conditions: none. -/
import Derived.Test.YtdhpmcafekpfhaaRows
import Derived.WalkKit
import Derived.ProofKit
import Derived.OpenShut
import Derived.ChangeOld
import Derived.Below
import Derived.Carry
import Derived.Test.YtdhpmcafekpfhaaAbortBk
namespace Go.Proofs.Ytdhpmcafekpfhaa.abortBack
open Go.ChangeShapes Go.WideShapes Go.ChangeAt Go.RowKit
set_option linter.unusedVariables false

theorem own : ownKnob Try.prog.godebug = none := by kernel_rfl
theorem laidOut : laidOutB Try.prog = true := by kernel_rfl

/-! the walk -/
set_option maxRecDepth 100000 in
set_option maxHeartbeats 4000000 in
theorem walk (s0 : Option Addr) (len0 cap0 : Nat) (z0 : List Int) (a1 : Int) (s2 : Option Addr) (len2 cap2 : Nat) (z2 : Nat → Nat → Int) (w : World) (l0 : len0 ≤ cap0 ∧ cap0 ≤ maxLen ∧ (s0 = none → cap0 = 0)) (r0 : RowAt .i64 w s0 len0 z0) (w0 : ∀ z ∈ z0, (Lit.int .i64 z).wf = true) (w1 : (Lit.int .i64 a1).wf = true) (l2 : len2 ≤ cap2 ∧ cap2 ≤ maxLen ∧ (s2 = none → cap2 = 0)) (r2 : Structs w [.i64, .i64, .i64, .i64] s2 len2 z2) :
    Calls Try.prog 4 #[.slice s0 len0 cap0, .int .i64 a1, .slice s2 len2 cap2] w fun e w' => e = .returned (.bool true) ∧ Below w.heap.size w w' := by
  have hm0 : len0 ≤ 9223372036854775807 := by have := l0.1; have := l0.2.1; unfold maxLen at this; omega
  have hat : OpsAt w s2 len2 z2 := by
    rcases r2.at (by decide) with e | ⟨b2, o2, rfl, hc2⟩
    · exact .inl e
    · exact .inr ⟨b2, o2, rfl, fun i hi j hj => (hc2 i hi j .i64 (by match j, hj with | 0, _ => rfl | 1, _ => rfl | 2, _ => rfl | 3, _ => rfl)).1⟩
  have hm2 : len2 ≤ 9223372036854775807 := by have := l2.1; have := l2.2.1; unfold maxLen at this; omega
  have cF := fine_any (cap := cap0) r0 hm0 s2 len2 cap2 (by omega)
  cases hf : fineB len0 z0 len2
  · rw [hf] at cF
    clear r0 hf w0 w1 l0 l2 r2 hat
    go_enter Try.func4, Try.ntmps4
    go_wp2_with (first
      | (go_at_call 8; with_reducible refine cF.mono ?_; rintro e w2 ⟨rfl, rfl⟩)
      | (go_at_call 9; with_reducible refine (fl_awake _).mono ?_; intro e w2 hq; unfold AwakePost at hq; obtain ⟨rfl, hW⟩ := hq))
    go_ret
    exact ⟨rfl, hW.law⟩
  · rw [hf] at cF
    by_cases he1 : a1 < 1
    · have b1 : decide (a1 < 1) = true := decide_eq_true he1
      clear r0 hf w0 w1 l0 l2 r2 hat
      go_enter Try.func4, Try.ntmps4
      go_wp2_with (first
        | (go_at_call 8; with_reducible refine cF.mono ?_; rintro e w2 ⟨rfl, rfl⟩)
        | (go_at_call 9; with_reducible refine (fl_awake _).mono ?_; intro e w2 hq; unfold AwakePost at hq; obtain ⟨rfl, hW⟩ := hq))
      go_ret
      exact ⟨rfl, hW.law⟩
    by_cases he8 : 8 < a1
    · have b1 : decide (8 < a1) = true := decide_eq_true he8
      clear r0 hf w0 w1 l0 l2 r2 hat
      go_enter Try.func4, Try.ntmps4
      go_wp2_with (first
        | (go_at_call 8; with_reducible refine cF.mono ?_; rintro e w2 ⟨rfl, rfl⟩)
        | (go_at_call 9; with_reducible refine (fl_awake _).mono ?_; intro e w2 hq; unfold AwakePost at hq; obtain ⟨rfl, hW⟩ := hq))
      go_ret
      exact ⟨rfl, hW.law⟩
    obtain ⟨ea, rfl⟩ := Int.eq_ofNat_of_zero_le (show 0 ≤ a1 by omega)
    have e1 : 1 ≤ ea := by omega
    have e2 : ea ≤ 8 := by omega
    obtain ⟨n1, n8, ho, hm⟩ := fineB_no hf
    rcases r0.at with e0 | ⟨b, o, rfl, hc⟩
    · omega
    have hb : b < w.heap.size := World.block_lt_of_cell? w _ (hc 0 (by omega))
    have cM := fl_made (cap := cap0) r0 hb ho n1 (by omega) ea e1 e2
    have HH := Lib.hid hat
    clear r0 hf w0 w1 l0 l2 r2 hat hc ho hb
    go_enter Try.func4, Try.ntmps4
    go_wp2_with (first
      | (go_at_call 8; with_reducible refine cF.mono ?_; rintro e w2 ⟨rfl, rfl⟩)
      | (go_at_call 10; (with_reducible refine cM.mono ?_); intro e w2 hq; unfold MdPost at hq; obtain ⟨L, rfl, hL, h1, h2, hhs⟩ := hq; have HA := Lib.hid (And.intro h1 (And.intro h2 hhs)); have H2 := Lib.hid hL; clear hL h1 h2 hhs))
    have HS0 := Lib.hid (show BkSt w w2 L len0 0 from ⟨newF len0 ea len0, none, [], H2.out, ord_new len0 ea n8 e1 e2, rfl, Nat.zero_le _⟩)
    clear H2
    go_loopw [9, 43] (fun v9 i wr => ∃ (k : Nat) (nw : Int), k ≤ len2 ∧ i = .int .i64 k ∧ v9 = .int .i64 nw ∧ (0 ≤ nw ∧ nw ≤ 1000 * (k : Int)) ∧ BkSt w wr L len0 k) (fun _ i _ => len2 - (intOf i).toNat)
    case atStart => exact ⟨0, 0, Nat.zero_le _, rfl, rfl, ⟨Int.le_refl _, by omega⟩, HS0.out⟩
    case round =>
      clear HS0
      obtain ⟨k, nw, hk, rfl, rfl, ⟨nw0, nw1⟩, hst⟩ := hrel
      unfold BkSt at hst
      obtain ⟨f, g, Q, hS, hO, hn, hD⟩ := hst
      by_cases hlt : k < len2
      · rcases HH.out with q0 | ⟨gb, go, rfl, hcell⟩
        · omega
        have y0 : wr.cell? ⟨gb, go + k * 4, none⟩ = some (.int .i64 (z2 k 0)) := hS.wr.old (hcell k hlt 0 (by decide))
        have y1 : wr.cell? ⟨gb, go + k * 4 + 1, none⟩ = some (.int .i64 (z2 k 1)) := hS.wr.old (hcell k hlt 1 (by decide))
        have y2 : wr.cell? ⟨gb, go + k * 4 + 2, none⟩ = some (.int .i64 (z2 k 2)) := hS.wr.old (hcell k hlt 2 (by decide))
        have y3 : wr.cell? ⟨gb, go + k * 4 + 3, none⟩ = some (.int .i64 (z2 k 3)) := hS.wr.old (hcell k hlt 3 (by decide))
        generalize z2 k 0 = K at y0
        generalize z2 k 1 = t at y1
        generalize z2 k 2 = N at y2
        generalize z2 k 3 = la at y3
        clear hcell
        obtain ⟨X, hX⟩ : ∃ X, X = wr.alloc (.cells #[.int .i64 K, .int .i64 t, .int .i64 N, .int .i64 la] 32) := ⟨_, rfl⟩
        have hSX : LkS w X L f := by rw [hX]; exact hS.after ((Wrote.refl _ _).alloc _)
        obtain ⟨B, hBe⟩ : ∃ B, B = wr.heap.size := ⟨_, rfl⟩
        have hB : X.heap[B]? = some (.cells #[.int .i64 K, .int .i64 t, .int .i64 N, .int .i64 la] 32 (0, 0)) := by rw [hX, hBe]; exact Go.Deep.blk_alloc_new wr _
        have hBL : ¬ Low L B := by rw [hBe]; have := hS.lk.top; unfold Low; omega
        have HX := Lib.hid (And.intro hSX (And.intro hO (And.intro hn (And.intro hD (And.intro hB hBL)))))
        have HXe := Lib.hid (And.intro hX hBe)
        clear hS hX hSX hB hO hn hD hBe hBL
        go_upto_region 11 with fail
        rw [← HXe.out.1, ← HXe.out.2]
        have hbnd : 0 ≤ nw + min (max la 0) 1000 ∧ nw + min (max la 0) 1000 ≤ 1000 * ((k + 1 : Nat) : Int) := by omega
        generalize nw + min (max la 0) 1000 = nv at hbnd ⊢
        have HT := Lib.hid hbnd
        have x0 : X.cell? ⟨B, 0, none⟩ = some (.int .i64 K) := (blk_cell HX.out.2.2.2.2.1 0).trans rfl
        have x1 : X.cell? ⟨B, 1, none⟩ = some (.int .i64 t) := (blk_cell HX.out.2.2.2.2.1 1).trans rfl
        have x2 : X.cell? ⟨B, 2, none⟩ = some (.int .i64 N) := (blk_cell HX.out.2.2.2.2.1 2).trans rfl
        have c0 := HX.out.1.cell0
        clear HXe hbnd nw0 nw1 y0 y1 y2 y3
        by_cases hK1 : K = 1
        · subst hK1
          have X1 : X.drew.cell? ⟨B, 1, none⟩ = some (.int .i64 t) := x1
          have X2 : X.drew.cell? ⟨B, 2, none⟩ = some (.int .i64 N) := x2
          have C0 : X.drew.cell? ⟨L.lb, 0, none⟩ = some (.pointer (some ⟨L.p, 0, none⟩)) := c0
          have HC := Lib.hid (ls_lock (HX.out.1.drew) t N)
          go_upto_region 13 with fail
          go_region_held3 (fun w' => w'.cell? ⟨L.lb, 0, none⟩ = some (.pointer (some ⟨L.p, 0, none⟩)) ∧ w'.cell? ⟨B, 1, none⟩ = some (.int .i64 t) ∧ w'.cell? ⟨B, 2, none⟩ = some (.int .i64 N)) (first | exact ⟨C0, X1, X2⟩ | exact ⟨D0, D1, D2⟩) (first
            | (go_at_call 11; (with_reducible refine HC.out.mono ?_); intro e w3 hq; unfold LsPost at hq; obtain ⟨rfl, hL3, hW3⟩ := hq; have D0 := hL3.cell0; have D1 := hW3.cell X1 HX.out.2.2.2.2.2; have D2 := hW3.cell X2 HX.out.2.2.2.2.2; have H3 := Lib.hid hL3; clear hL3 hW3))
          go_wp2
          go_roundw
          case rel => exact ⟨k + 1, nv, by omega, by go_num, rfl, HT.out, _, g, Q, H3.out, HX.out.2.1.lock _ _, (SS.lock_n _ _ _).trans HX.out.2.2.1, Nat.le_succ_of_le HX.out.2.2.2.1⟩
          case measure => simp [intOf]; omega
        by_cases hK2 : K = 2
        · subst hK2
          have X1 : X.drew.cell? ⟨B, 1, none⟩ = some (.int .i64 t) := x1
          have C0 : X.drew.cell? ⟨L.lb, 0, none⟩ = some (.pointer (some ⟨L.p, 0, none⟩)) := c0
          have HC := Lib.hid (ls_unlock (HX.out.1.drew) t)
          go_upto_region 15 with fail
          go_region_held3 (fun w' => w'.cell? ⟨L.lb, 0, none⟩ = some (.pointer (some ⟨L.p, 0, none⟩)) ∧ w'.cell? ⟨B, 1, none⟩ = some (.int .i64 t)) (first | exact ⟨C0, X1⟩ | exact ⟨D0, D1⟩) (first
            | (go_at_call 12; (with_reducible refine HC.out.mono ?_); intro e w3 hq; unfold LsPost at hq; obtain ⟨rfl, hL3, hW3⟩ := hq; have D0 := hL3.cell0; have D1 := hW3.cell X1 HX.out.2.2.2.2.2; have H3 := Lib.hid hL3; clear hL3 hW3))
          go_wp2
          go_roundw
          case rel => exact ⟨k + 1, nv, by omega, by go_num, rfl, HT.out, _, g, Q, H3.out, HX.out.2.1.turn _, (SS.turn_n _ _ _).trans HX.out.2.2.1, Nat.le_succ_of_le HX.out.2.2.2.1⟩
          case measure => simp [intOf]; omega
        by_cases hK4 : K = 4
        · subst hK4
          obtain ⟨g', Q', hO', hD', _⟩ := HX.out.2.1.step HA.out.1 HA.out.2.1 t nv
          have HO := Lib.hid (And.intro hO' (show (f.step L t t nv).ps.D.length ≤ k + 1 by have := HX.out.2.2.2.1; omega))
          have HC := Lib.hid (ls_step HX.out.1 t t nv (by have := HX.out.2.2.2.1; omega))
          clear hO' hD'
          go_wp2_with (first | (go_at_call 13; (with_reducible refine HC.out.mono ?_); intro e w3 hq; unfold LsPost at hq; obtain ⟨rfl, hL3, hW3⟩ := hq; dsimp only [Dd.val]; have H3 := Lib.hid hL3; clear hL3 hW3))
          go_roundw
          case rel => exact ⟨k + 1, nv, by omega, by go_num, rfl, HT.out, _, g', Q', H3.out, HO.out.1, (step_n _ _ _ _ _).trans HX.out.2.2.1, HO.out.2⟩
          case measure => simp [intOf]; omega
        · have k1 : (K == 1) = false := beq_false_of_ne hK1
          have k2 : (K == 2) = false := beq_false_of_ne hK2
          have k4 : (K == 4) = false := beq_false_of_ne hK4
          clear hK1 hK2 hK4
          go_wp2
          go_roundw
          case rel => exact ⟨k + 1, nv, by omega, by go_num, rfl, HT.out, f, g, Q, HX.out.1, HX.out.2.1, HX.out.2.2.1, Nat.le_succ_of_le HX.out.2.2.2.1⟩
          case measure => simp [intOf]; omega
      · have hR : BkRd w wr L len0 0 := ⟨f, g, Q, hS, hO, hn, by omega, by have := todo_le hO; omega⟩
        have HR := Lib.hid hR
        clear hS hO hn hD hR nw0 nw1
        go_wp2
        go_loopw [85] (fun i wy => ∃ r : Nat, r ≤ 2000 ∧ i = .int .i64 r ∧ BkRd w wy L len0 r) (fun i _ => 2000 - (intOf i).toNat)
        case atStart => exact ⟨0, Nat.zero_le _, rfl, HR.out⟩
        case round =>
          clear HR
          obtain ⟨r, hr, rfl, hB⟩ := hrel
          by_cases hrl : r < 2000
          · have hT := hB.turn (nw := nw)
            have HT := Lib.hid hT
            have rl : (r : Int) < 2000 := by omega
            clear hT hB
            go_wp2
            go_loopw [12, 89] (fun v12 i wy => ∃ (j c : Nat), j ≤ len0 ∧ i = .int .i64 j ∧ v12 = .int .i64 c ∧ BkTn w wy L len0 r nw j c) (fun _ i _ => len0 - (intOf i).toNat)
            case atStart => exact ⟨0, 0, Nat.zero_le _, rfl, rfl, HT.out⟩
            case round =>
              clear HT
              obtain ⟨j, c, hj, rfl, rfl, hT⟩ := hrel
              by_cases hjn : j < len0
              · have jn : (j : Int) < len0 := by omega
                unfold BkTn at hT
                obtain ⟨f, g, Q, hS, hO, hn, hD, hc, hcj, hw⟩ := hT
                have jf : j < f.s.n := by omega
                obtain ⟨g', Q', hO', hn', hD', hs', hq'⟩ := back_one hO HA.out.1 HA.out.2.1 jf nw
                obtain ⟨f', hf'⟩ : ∃ f', f' = f.back L j nw := ⟨_, rfl⟩
                rw [← hf'] at hO' hn' hD' hs' hq'
                have eS : f.s.stI (j : Int) = f.s.st j := by unfold SS.stI; rw [if_pos (by omega), Int.toNat_natCast]
                have eS' : f'.s.stI (j : Int) = f'.s.st j := by unfold SS.stI; rw [if_pos (by omega), Int.toNat_natCast]
                have hnx : ∀ c', (c' ≤ j + 1 ∧ (c' = j + 1 ↔ ∀ k, k < j + 1 → f'.s.st k = 0)) → ∀ wy, LkS w wy L f' → BkTn w wy L len0 r nw (j + 1) c' := fun c' q wy hL => bk_next hO' hn' hD' hs' hq' hn hD hw q hL
                have hcn := cnt_next (f := f) (f' := f') hs' hc hcj
                have cS := ls_state hS (j : Int)
                rw [eS] at cS
                have c0 := hS.cell0
                have HN := Lib.hid (And.intro hnx hcn)
                have HS := Lib.hid (And.intro hS hD)
                have HE := Lib.hid eS'
                have wc : IntKind.i64.wrap ((c : Int) + 1) = (c : Int) + 1 := by rw [IntKind.wrap_i64]; omega
                clear hS hO hn hD hc hw hO' hn' hD' hs' hq' eS eS' hnx hcn hcj
                by_cases h2 : f.s.st j = 2
                · rw [h2] at cS
                  have hb : f' = (f.turn j 3).step L j j nw := by rw [hf']; unfold FL.back; rw [if_pos h2]
                  have HB := Lib.hid hb
                  clear hf' h2 hb
                  by_cases h0 : f'.s.st j = 0
                  · have HZ := Lib.hid h0
                    clear h0
                    go_wp2_with (first
                      | (go_at_call 14; (with_reducible refine cS.mono ?_); rintro e w5 ⟨rfl, rfl⟩; clear cS)
                      | (go_at_call 12; (with_reducible refine (ls_unlock HS.out.1 (j : Int)).mono ?_); intro e w6 hq; unfold LsPost at hq; obtain ⟨rfl, hL, _⟩ := hq; have cT := ls_step hL (j : Int) (j : Int) nw (show f.ps.D.length < _ by have := HS.out.2; omega); rw [← HB.out] at cT; clear hL)
                      | (go_at_call 13; (with_reducible refine cT.mono ?_); intro e w7 hq; unfold LsPost at hq; obtain ⟨rfl, hL, _⟩ := hq; dsimp only [Dd.val]; have c1 := hL.cell0; have cZ := ls_state hL (j : Int); rw [HE.out, HZ.out] at cZ; have HL := Lib.hid hL; clear hL)
                      | (go_at_call 14; (with_reducible refine cZ.mono ?_); rintro e w5 ⟨rfl, rfl⟩))
                    go_roundw
                    case rel => exact ⟨j + 1, c + 1, by omega, by go_num, rfl, HN.out.1 _ (HN.out.2.1 HZ.out) _ HL.out⟩
                    case measure => simp [intOf]; omega
                  · obtain ⟨y, hy⟩ : ∃ y, y = f'.s.st j := ⟨_, rfl⟩
                    rw [← hy] at h0
                    have by0 : (y == 0) = false := beq_false_of_ne h0
                    have HZ := Lib.hid (And.intro hy h0)
                    clear h0 hy
                    go_wp2_with (first
                      | (go_at_call 14; (with_reducible refine cS.mono ?_); rintro e w5 ⟨rfl, rfl⟩; clear cS)
                      | (go_at_call 12; (with_reducible refine (ls_unlock HS.out.1 (j : Int)).mono ?_); intro e w6 hq; unfold LsPost at hq; obtain ⟨rfl, hL, _⟩ := hq; have cT := ls_step hL (j : Int) (j : Int) nw (show f.ps.D.length < _ by have := HS.out.2; omega); rw [← HB.out] at cT; clear hL)
                      | (go_at_call 13; (with_reducible refine cT.mono ?_); intro e w7 hq; unfold LsPost at hq; obtain ⟨rfl, hL, _⟩ := hq; dsimp only [Dd.val]; have c1 := hL.cell0; have cZ := ls_state hL (j : Int); rw [HE.out, ← HZ.out.1] at cZ; have HL := Lib.hid hL; clear hL)
                      | (go_at_call 14; (with_reducible refine cZ.mono ?_); rintro e w5 ⟨rfl, rfl⟩))
                    go_roundw
                    case rel => exact ⟨j + 1, c, by omega, by go_num, rfl, HN.out.1 _ (HN.out.2.2 (by rw [← HZ.out.1]; exact HZ.out.2)) _ HL.out⟩
                    case measure => simp [intOf]; omega
                · have hb : f' = f.step L j j nw := by rw [hf']; unfold FL.back; rw [if_neg h2]
                  have HB := Lib.hid hb
                  obtain ⟨x, hx⟩ : ∃ x, x = f.s.st j := ⟨_, rfl⟩
                  rw [← hx] at cS h2
                  have bx : (x == 2) = false := beq_false_of_ne h2
                  clear hf' h2 hb hx
                  by_cases h0 : f'.s.st j = 0
                  · have HZ := Lib.hid h0
                    clear h0
                    go_wp2_with (first
                      | (go_at_call 14; (with_reducible refine cS.mono ?_); rintro e w5 ⟨rfl, rfl⟩; clear cS; have cT := ls_step HS.out.1 (j : Int) (j : Int) nw (show f.ps.D.length < _ by have := HS.out.2; omega); rw [← HB.out] at cT)
                      | (go_at_call 13; (with_reducible refine cT.mono ?_); intro e w7 hq; unfold LsPost at hq; obtain ⟨rfl, hL, _⟩ := hq; dsimp only [Dd.val]; have c1 := hL.cell0; have cZ := ls_state hL (j : Int); rw [HE.out, HZ.out] at cZ; have HL := Lib.hid hL; clear hL)
                      | (go_at_call 14; (with_reducible refine cZ.mono ?_); rintro e w5 ⟨rfl, rfl⟩))
                    go_roundw
                    case rel => exact ⟨j + 1, c + 1, by omega, by go_num, rfl, HN.out.1 _ (HN.out.2.1 HZ.out) _ HL.out⟩
                    case measure => simp [intOf]; omega
                  · obtain ⟨y, hy⟩ : ∃ y, y = f'.s.st j := ⟨_, rfl⟩
                    rw [← hy] at h0
                    have by0 : (y == 0) = false := beq_false_of_ne h0
                    have HZ := Lib.hid (And.intro hy h0)
                    clear h0 hy
                    go_wp2_with (first
                      | (go_at_call 14; (with_reducible refine cS.mono ?_); rintro e w5 ⟨rfl, rfl⟩; clear cS; have cT := ls_step HS.out.1 (j : Int) (j : Int) nw (show f.ps.D.length < _ by have := HS.out.2; omega); rw [← HB.out] at cT)
                      | (go_at_call 13; (with_reducible refine cT.mono ?_); intro e w7 hq; unfold LsPost at hq; obtain ⟨rfl, hL, _⟩ := hq; dsimp only [Dd.val]; have c1 := hL.cell0; have cZ := ls_state hL (j : Int); rw [HE.out, ← HZ.out.1] at cZ; have HL := Lib.hid hL; clear hL)
                      | (go_at_call 14; (with_reducible refine cZ.mono ?_); rintro e w5 ⟨rfl, rfl⟩))
                    go_roundw
                    case rel => exact ⟨j + 1, c, by omega, by go_num, rfl, HN.out.1 _ (HN.out.2.2 (by rw [← HZ.out.1]; exact HZ.out.2)) _ HL.out⟩
                    case measure => simp [intOf]; omega
              · obtain rfl : j = len0 := by omega
                unfold BkTn at hT
                obtain ⟨f, g, Q, hS, hO, hn, hD, hc, hcj, hw⟩ := hT
                by_cases hcn : c = j
                · subst hcn
                  have hid := hcj.1 rfl
                  have hb := all_back hO (fun k hk => hid k (by omega))
                  have hz := fun t => outs_zero hO HA.out.2.1 (fun k hk => hid k (by omega)) t
                  have hlen := hO.len
                  have hw0 : f.ps.ws.getD 0 0 = 0 := hb.1
                  have m0 : ¬ f.ps.ws.length = 0 := by omega
                  have cW := words_any hS.lk.port.mem
                  have c0 : wr.cell? ⟨L.q.p, 0, none⟩ = some (.pointer (some ⟨L.q.m, 0, none⟩)) := by rw [blk_cell hS.lk.port.obj]; rfl
                  have m1 : ((f.ps.ws.length : Int) == 0) = false := beq_false_of_ne (by omega)
                  have m2 : (0 : Int) < (f.ps.ws.length : Int) := by omega
                  have HF := Lib.hid (And.intro hS (And.intro hz (And.intro hid (And.intro hn hw0))))
                  clear hS hO hD hc hcj hw hid hb hz hlen hw0 hn
                  generalize hm : f.ps.ws.length = m at *
                  have HM := Lib.hid hm
                  clear hm
                  go_wp2_with (first
                    | (go_at_call 15; (with_reducible refine cW.mono ?_); rintro e w6 ⟨gw, rfl, hrow, hnew, hW6⟩; rw [HM.out]; rw [HM.out] at hrow; have hc6 := hrow.cell (show 0 < m by omega); rw [HF.out.2.2.2.2] at hc6; have H6 := Lib.hid (HF.out.1.after hW6); clear hrow hnew hW6 cW))
                  go_loopw [141] (fun i wy => ∃ k : Nat, k ≤ c ∧ i = .int .i64 k ∧ LkS w wy L f) (fun i _ => c - (intOf i).toNat)
                  case atStart => exact ⟨0, Nat.zero_le _, rfl, H6.out⟩
                  case round =>
                    clear H6 hc6 c0
                    obtain ⟨k, hk, rfl, hL⟩ := hrel
                    by_cases hlk : k < c
                    · have jk : (k : Int) < c := by omega
                      have cO := fl_outs hL.lk (k : Int)
                      rw [HF.out.2.1] at cO
                      have cS := ls_state hL (k : Int)
                      have eS : f.s.stI (k : Int) = 0 := by unfold SS.stI; rw [if_pos (by have := HF.out.2.2.2.1; omega), Int.toNat_natCast]; exact HF.out.2.2.1 k hlk
                      rw [eS] at cS
                      have c0 := hL.cell0
                      have HL := Lib.hid hL
                      clear hL eS
                      go_wp2_with (first
                        | (go_at_call 14; (with_reducible refine cS.mono ?_); rintro e w5 ⟨rfl, rfl⟩)
                        | (go_at_call 16; (with_reducible refine cO.mono ?_); rintro e w8 ⟨rfl, hW8⟩; have H8 := Lib.hid (HL.out.after hW8); clear hW8))
                      go_roundw
                      case rel => exact ⟨k + 1, by omega, by go_num, H8.out⟩
                      case measure => simp [intOf]; omega
                    · have HL := Lib.hid hL
                      clear hL
                      go_wp2_with (first
                        | (go_at_call 9; with_reducible refine (fl_awake _).mono ?_; intro e w5 hq; unfold AwakePost at hq; obtain ⟨rfl, hW5⟩ := hq))
                      go_ret
                      exact ⟨rfl, (HL.out.wr.nil hW5).law⟩
                · have hB : BkRd w wr L j (r + 1) := by
                    refine ⟨f, g, Q, hS, hO, hn, by omega, ?_⟩
                    rcases hw with q | ⟨_, q⟩
                    · omega
                    · exact absurd (hcj.2 fun k hk => (all_idle hO (x := nw) fun u hu => q u (by omega)).2 k (by omega)) hcn
                  have b1 : ((c : Int) == (j : Int)) = false := beq_false_of_ne (by omega)
                  have HB := Lib.hid hB
                  clear hB hS hO hn hD hc hcj hw hcn
                  go_wp2
                  go_roundw
                  case rel => exact ⟨r + 1, by omega, by go_num, HB.out⟩
                  case measure => simp [intOf]; omega
          · exfalso
            obtain ⟨f, g, Q, q1, q2, q3, q4, q5⟩ := hB
            omega

/-! the row -/
set_option maxRecDepth 100000 in
theorem lifted (os : Os) (started : os.Started) (H : Type) (enc : TypeId × Value → H) :
    ReturnsInHanded {} Try.checked os 4 .any (Rows.abortBackSpec.pre6 enc Try.prog Try.f4 Rows.abortBackRow.domain false) (Rows.abortBackSpec.post enc Try.prog Try.f4 false true false false) := by
  refine returnsInHanded_of_change (C := Try.checked) own started (by kernel_rfl) Try.func4
    (ChangeSpec.witness6 (enc := enc) (C := Try.checked) false ⟨#[], #[.slice none 0 0, .int .i64 0, .slice none 0 0], []⟩ 8 (by kernel_rfl) (by kernel_rfl) (by kernel_rfl) (by kernel_rfl)) ?_
  intro W base args ds gs before hval0 hW hcnd _
  have hval : ∀ (j : Nat) t v, Try.f4.params[j]? = some t → args[j]? = some v → Value.okWide Try.prog W .any base t v := hval0
  have hW' := hW
  obtain ⟨p, q, hA0, hV, rfl, hfz, hnd⟩ := hW
  have hA : DataW.TrodAll enc Try.prog W 0 (fun _ => true) true Try.f4.params.toList args.toList ds p := hA0
  rw [Try.params4] at hA hval
  obtain ⟨v0, vs0, d0, ds0, p0, q0, hargs, rfl, rfl, h0, r0'⟩ := trodAll_cons hA
  obtain ⟨v1, vs1, d1, ds1, p1, q1, rfl, rfl, rfl, h1, r1'⟩ := trodAll_cons r0'
  obtain ⟨v2, vs2, d2, ds2, p2, q2, rfl, rfl, rfl, h2, r2'⟩ := trodAll_cons r1'
  obtain ⟨rfl, rfl, rfl⟩ := trodAll_nil r2'
  obtain rfl : args = #[v0, v1, v2] := by cases args; simp_all
  obtain ⟨rfl, rfl⟩ := trodVars_none hV
  have k0 := h0
  have lt0 : ∀ x ∈ p0, x.block < W.heap.size := by obtain ⟨m, hm⟩ := k0; exact DataW.trod_lt m _ _ _ hm
  obtain ⟨s0, len0, cap0, rfl⟩ := okWide_slice Try.underlying22 (hval 0 22 v0 rfl rfl)
  obtain ⟨l0, z0, r0, w0⟩ := open_slice_row Try.underlying22 Try.underlying3 (by kernel_rfl) h0
  obtain ⟨a1, rfl, rfl, rfl, w1⟩ := open_int Try.underlying3 (hval 1 3 v1 rfl rfl) h1
  have k2 := h2
  have lt2 : ∀ x ∈ p2, x.block < W.heap.size := by obtain ⟨m, hm⟩ := k2; exact DataW.trod_lt m _ _ _ hm
  obtain ⟨s2, len2, cap2, rfl⟩ := okWide_slice Try.underlying23 (hval 2 23 v2 rfl rfl)
  obtain ⟨l2, z2, r2⟩ := open_slice_ints (ks := [.i64, .i64, .i64, .i64]) Try.underlying23 Try.underlying32 (by kernel_rfl) (by kernel_rfl) h2
  clear hA0 hval0
  refine (walk s0 len0 cap0 z0 a1 s2 len2 cap2 z2 W l0 r0 w0 w1 l2 r2).mono fun e W' ⟨he, bel⟩ => ?_
  subst he
  exact ⟨_, rfl, _, _, _, [], _, [], hW', trodAll_mk1 (shut_bool Try.underlying4 _), (trodAll_cons_mk (Below.trod laidOut (by kernel_rfl) (of_decide_eq_true (by kernel_rfl)) k0 bel lt0) (trodAll_cons_mk (shut_int Try.underlying3 w1) (trodAll_cons_mk (Below.trod laidOut (by kernel_rfl) (of_decide_eq_true (by kernel_rfl)) k2 bel lt2) trodAll_mk0))), rfl, bel.frame _, fun h => by cases h⟩

theorem over : Rows.abortBackRow.holds Try.pinned (OpenSpec.ofChange Rows.abortBackSpec) :=
  OpenClaim.holds_of_wide 4 Try.f4 rfl rfl rfl rfl rfl rfl rfl ⟨rfl, rfl, rfl, rfl, rfl⟩ rfl rfl rfl rfl rfl (by kernel_rfl) Try.func4 (by kernel_rfl)
    (of_decide_eq_true (by kernel_rfl)) (by unfold Func.isWrapper; first | (rw [if_pos (by decide +kernel)]; kernel_rfl) | (rw [if_neg (by decide +kernel)]; exact ⟨rfl, rfl⟩))
    (fun os started H enc _ => lifted os started H enc)

/-- the statement -/
theorem proved : Rows.AbortBackSaid := over
#print axioms proved
end Go.Proofs.Ytdhpmcafekpfhaa.abortBack
