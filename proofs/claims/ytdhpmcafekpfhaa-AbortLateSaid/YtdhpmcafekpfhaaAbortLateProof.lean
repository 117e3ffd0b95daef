/- For every input the Go function AbortLate of weighlocklaw14 returns true, and its arguments read afterwards as before. Conditions: none. -/
import Derived.Test.YtdhpmcafekpfhaaRows
import Derived.WalkKit
import Derived.ProofKit
import Derived.OpenShut
import Derived.ChangeOld
import Derived.Below
import Derived.Carry
import Derived.Test.YtdhpmcafekpfhaaAbortArr
namespace Go.Proofs.Ytdhpmcafekpfhaa.abortLate
open Go.ChangeShapes Go.WideShapes Go.ChangeAt Go.RowKit
set_option linter.unusedVariables false

theorem own : ownKnob Try.prog.godebug = none := by kernel_rfl
theorem laidOut : laidOutB Try.prog = true := by kernel_rfl

/-! the walk -/
set_option maxRecDepth 100000 in
set_option maxHeartbeats 4000000 in
theorem walk (s0 : Option Addr) (len0 cap0 : Nat) (z0 : List Int) (a1 : Int) (s2 : Option Addr) (len2 cap2 : Nat) (z2 : Nat → Nat → Int) (w : World) (l0 : len0 ≤ cap0 ∧ cap0 ≤ maxLen ∧ (s0 = none → cap0 = 0)) (r0 : RowAt .i64 w s0 len0 z0) (w0 : ∀ z ∈ z0, (Lit.int .i64 z).wf = true) (w1 : (Lit.int .i64 a1).wf = true) (l2 : len2 ≤ cap2 ∧ cap2 ≤ maxLen ∧ (s2 = none → cap2 = 0)) (r2 : Structs w [.i64, .i64, .i64, .i64] s2 len2 z2) :
    Calls Try.prog 3 #[.slice s0 len0 cap0, .int .i64 a1, .slice s2 len2 cap2] w fun e w' => e = .returned (.bool true) ∧ Below w.heap.size w w' := by
  have hm0 : len0 ≤ 9223372036854775807 := by have := l0.1; have := l0.2.1; unfold maxLen at this; omega
  have hat : OpsAt w s2 len2 z2 := by
    rcases r2.at (by decide) with e | ⟨b2, o2, rfl, hc2⟩
    · exact .inl e
    · exact .inr ⟨b2, o2, rfl, fun i hi j hj => (hc2 i hi j .i64 (by match j, hj with | 0, _ => rfl | 1, _ => rfl | 2, _ => rfl | 3, _ => rfl)).1⟩
  have hm2 : len2 ≤ 9223372036854775807 := by have := l2.1; have := l2.2.1; unfold maxLen at this; omega
  have cF := fine_any (cap := cap0) r0 hm0 s2 len2 cap2 (by omega)
  cases hf : fineB len0 z0 len2
  · rw [hf] at cF
    clear r0 hf w0 w1 l0 l2 r2 hat
    go_enter Try.func3, Try.ntmps3
    go_wp2_with (first
      | (go_at_call 8; with_reducible refine cF.mono ?_; rintro e w2 ⟨rfl, rfl⟩)
      | (go_at_call 9; with_reducible refine (fl_awake _).mono ?_; intro e w2 hq; unfold AwakePost at hq; obtain ⟨rfl, hW⟩ := hq))
    go_ret
    exact ⟨rfl, hW.law⟩
  · rw [hf] at cF
    by_cases he1 : a1 < 1
    · have b1 : decide (a1 < 1) = true := decide_eq_true he1
      clear r0 hf w0 w1 l0 l2 r2 hat
      go_enter Try.func3, Try.ntmps3
      go_wp2_with (first
        | (go_at_call 8; with_reducible refine cF.mono ?_; rintro e w2 ⟨rfl, rfl⟩)
        | (go_at_call 9; with_reducible refine (fl_awake _).mono ?_; intro e w2 hq; unfold AwakePost at hq; obtain ⟨rfl, hW⟩ := hq))
      go_ret
      exact ⟨rfl, hW.law⟩
    by_cases he8 : 8 < a1
    · have b1 : decide (8 < a1) = true := decide_eq_true he8
      clear r0 hf w0 w1 l0 l2 r2 hat
      go_enter Try.func3, Try.ntmps3
      go_wp2_with (first
        | (go_at_call 8; with_reducible refine cF.mono ?_; rintro e w2 ⟨rfl, rfl⟩)
        | (go_at_call 9; with_reducible refine (fl_awake _).mono ?_; intro e w2 hq; unfold AwakePost at hq; obtain ⟨rfl, hW⟩ := hq))
      go_ret
      exact ⟨rfl, hW.law⟩
    obtain ⟨ea, rfl⟩ := Int.eq_ofNat_of_zero_le (show 0 ≤ a1 by omega)
    have e1 : 1 ≤ ea := by omega
    have e2 : ea ≤ 8 := by omega
    obtain ⟨n1, n8, ho, hm⟩ := fineB_no hf
    rcases r0.at with e0 | ⟨b, o, rfl, hc⟩
    · omega
    have hb : b < w.heap.size := World.block_lt_of_cell? w _ (hc 0 (by omega))
    have cM := fl_made (cap := cap0) r0 hb ho n1 (by omega) ea e1 e2
    have HH := Lib.hid hat
    clear r0 hf w0 w1 l0 l2 r2 hat hc ho hb
    go_enter Try.func3, Try.ntmps3
    go_wp2_with (first
      | (go_at_call 8; with_reducible refine cF.mono ?_; rintro e w2 ⟨rfl, rfl⟩)
      | (go_at_call 10; (with_reducible refine cM.mono ?_); intro e w2 hq; unfold MdPost at hq; obtain ⟨L, rfl, hL, h1, h2, hhs⟩ := hq; have HA := Lib.hid (And.intro h1 (And.intro h2 hhs)); have H2 := Lib.hid hL; clear hL h1 h2 hhs))
    obtain ⟨A, hA⟩ : ∃ A, A = w2.heap.size := ⟨_, rfl⟩
    have hSt : LtSt w (w2.alloc (.cells #[.int .i64 0, .int .i64 0, .int .i64 0, .int .i64 0, .int .i64 0, .int .i64 0, .int .i64 0, .int .i64 0] 30)) L A 0 0 :=
      ⟨newF len0 ea len0, [], fun _ => 0, ⟨H2.out.after ((Wrote.refl _ _).alloc _), by rw [hA]; exact Go.Deep.blk_alloc_new _ _, by rw [hA]; exact H2.out.lk.top⟩, ⟨none, [], ord_new len0 ea n8 e1 e2, rfl⟩, lt_new len0 ea, Nat.zero_le _⟩
    rw [← hA]
    have HS0 := Lib.hid hSt
    clear hSt H2 hA
    go_loopw [9, 41] (fun v9 i wr => ∃ (k : Nat) (nw : Int), k ≤ len2 ∧ i = .int .i64 k ∧ v9 = .int .i64 nw ∧ (0 ≤ nw ∧ nw ≤ 1000 * (k : Int)) ∧ LtSt w wr L A k nw) (fun _ i _ => len2 - (intOf i).toNat)
    case atStart => exact ⟨0, 0, Nat.zero_le _, rfl, rfl, ⟨Int.le_refl _, by omega⟩, HS0.out⟩
    case round =>
      clear HS0
      obtain ⟨k, nw, hk, rfl, rfl, ⟨nw0, nw1⟩, hst⟩ := hrel
      unfold LtSt at hst
      obtain ⟨f, W, g, hS, hO, hT, hD⟩ := hst
      by_cases hlt : k < len2
      · rcases HH.out with q0 | ⟨gb, go, rfl, hcell⟩
        · omega
        have y0 : wr.cell? ⟨gb, go + k * 4, none⟩ = some (.int .i64 (z2 k 0)) := hS.ls.wr.old (hcell k hlt 0 (by decide))
        have y1 : wr.cell? ⟨gb, go + k * 4 + 1, none⟩ = some (.int .i64 (z2 k 1)) := hS.ls.wr.old (hcell k hlt 1 (by decide))
        have y2 : wr.cell? ⟨gb, go + k * 4 + 2, none⟩ = some (.int .i64 (z2 k 2)) := hS.ls.wr.old (hcell k hlt 2 (by decide))
        have y3 : wr.cell? ⟨gb, go + k * 4 + 3, none⟩ = some (.int .i64 (z2 k 3)) := hS.ls.wr.old (hcell k hlt 3 (by decide))
        generalize z2 k 0 = K at y0
        generalize z2 k 1 = t at y1
        generalize z2 k 2 = N at y2
        generalize z2 k 3 = la at y3
        clear hcell
        obtain ⟨X, hX⟩ : ∃ X, X = wr.alloc (.cells #[.int .i64 K, .int .i64 t, .int .i64 N, .int .i64 la] 32) := ⟨_, rfl⟩
        have hSX : LtS w X L f A g := by rw [hX]; exact hS.after ((Wrote.refl _ _).alloc _)
        obtain ⟨B, hBe⟩ : ∃ B, B = wr.heap.size := ⟨_, rfl⟩
        have hB : X.heap[B]? = some (.cells #[.int .i64 K, .int .i64 t, .int .i64 N, .int .i64 la] 32 (0, 0)) := by rw [hX, hBe]; exact Go.Deep.blk_alloc_new wr _
        have hBL : ¬ Low L B := by rw [hBe]; have := hS.ls.lk.top; unfold Low; omega
        have HX := Lib.hid (And.intro hSX (And.intro hO (And.intro hT (And.intro hD (And.intro hB hBL)))))
        have HXe := Lib.hid (And.intro hX hBe)
        clear hS hX hSX hB hO hT hD hBe hBL
        go_upto_region 12 with fail
        rw [← HXe.out.1, ← HXe.out.2]
        have hbnd : 0 ≤ nw + min (max la 0) 1000 ∧ nw + min (max la 0) 1000 ≤ 1000 * ((k + 1 : Nat) : Int) ∧ nw ≤ nw + min (max la 0) 1000 := by omega
        generalize nw + min (max la 0) 1000 = nv at hbnd ⊢
        have HT := Lib.hid (And.intro hbnd.1 (And.intro hbnd.2.1 (HX.out.2.2.1.later hbnd.2.2)))
        have x0 : X.cell? ⟨B, 0, none⟩ = some (.int .i64 K) := (blk_cell HX.out.2.2.2.2.1 0).trans rfl
        have x1 : X.cell? ⟨B, 1, none⟩ = some (.int .i64 t) := (blk_cell HX.out.2.2.2.2.1 1).trans rfl
        have x2 : X.cell? ⟨B, 2, none⟩ = some (.int .i64 N) := (blk_cell HX.out.2.2.2.2.1 2).trans rfl
        have c0 := HX.out.1.ls.cell0
        clear HXe hbnd nw0 nw1 y0 y1 y2 y3
        by_cases hK1 : K = 1
        · subst hK1
          have X1 : X.drew.cell? ⟨B, 1, none⟩ = some (.int .i64 t) := x1
          have X2 : X.drew.cell? ⟨B, 2, none⟩ = some (.int .i64 N) := x2
          have C0 : X.drew.cell? ⟨L.lb, 0, none⟩ = some (.pointer (some ⟨L.p, 0, none⟩)) := c0
          have cC := ls_lock (HX.out.1.ls.drew) t N
          have hl := HT.out.2.2.lock t N
          have HC := Lib.hid cC
          by_cases he : lockE f.s t N = 0
          · have htr := lockE_0 he
            have hn8 := HX.out.2.1.n8
            obtain ⟨j, rfl⟩ := Int.eq_ofNat_of_zero_le htr.1
            have j8 : (j : Int) < 8 := by omega
            have jn8 : j < 8 := by omega
            have j0 : (0 : Int) ≤ (j : Int) := by omega
            rw [if_pos he, Int.toNat_natCast] at hl
            rw [he] at HC
            have HL := Lib.hid (And.intro hl jn8)
            clear hl he htr hn8 cC jn8
            go_upto_region 14 with fail
            go_region_held3 (fun w' => w'.cell? ⟨L.lb, 0, none⟩ = some (.pointer (some ⟨L.p, 0, none⟩)) ∧ w'.cell? ⟨B, 1, none⟩ = some (.int .i64 (j : Int)) ∧ w'.cell? ⟨B, 2, none⟩ = some (.int .i64 N)) (first | exact ⟨C0, X1, X2⟩ | exact ⟨D0, D1, D2⟩) (first
              | (go_at_call 11; (with_reducible refine HC.out.mono ?_); intro e w3 hq; unfold LsPost at hq; obtain ⟨rfl, hL3, hW3⟩ := hq; have D0 := hL3.cell0; have D1 := hW3.cell X1 HX.out.2.2.2.2.2; have D2 := hW3.cell X2 HX.out.2.2.2.2.2; have h3 := (HX.out.1.after ((Wrote.refl Nil X).drew)).call hL3 hW3; have a0 := h3.cell HL.out.2; have a1 := h3.frz j; have H3 := Lib.hid h3; clear h3 hL3 hW3))
            go_wp2
            go_roundw
            case rel => exact ⟨k + 1, nv, by omega, by go_num, rfl, ⟨HT.out.1, HT.out.2.1⟩, _, W, _, H3.out.set j N, HX.out.2.1.lock _ _, HL.out.1, Nat.le_succ_of_le HX.out.2.2.2.1⟩
            case measure => simp [intOf]; omega
          · have hev := lockE_12 he
            rw [if_neg he] at hl
            have HL := Lib.hid hl
            clear hl he cC
            rcases hev with hev | hev
            · rw [hev] at HC
              clear hev
              go_upto_region 14 with fail
              refine wp_region_held_drew (S := fun w' => w'.cell? ⟨L.lb, 0, none⟩ = some (.pointer (some ⟨L.p, 0, none⟩)) ∧ w'.cell? ⟨B, 1, none⟩ = some (.int .i64 t) ∧ w'.cell? ⟨B, 2, none⟩ = some (.int .i64 N)) (by kernel_rfl) ⟨C0, X1, X2⟩ (fun hHeld => ?_)
              refine wpAnyH_take (i := 0) (v := ?va0) rfl (by kernel_rfl) (by kernel_rfl) (by kernel_rfl) (fun _ _ _ h => h) (Or.inl ⟨by rfl, ?hya0⟩) (by assumption) ?resta0
              case hya0 => intro w hSw; (try dsimp only at hSw); go_simp; try with_reducible rfl
              (try simp only [Act.put, List.getElem_toArray, List.getElem_cons_zero, List.setIfInBounds_toArray, List.set_cons_zero, List.set_cons_succ])
              refine wpAnyH_take (i := 1) (v := ?va1) rfl (by kernel_rfl) (by kernel_rfl) (by kernel_rfl) (fun _ _ _ h => h) (Or.inl ⟨by rfl, ?hya1⟩) (by assumption) ?resta1
              case hya1 => intro w hSw; (try dsimp only at hSw); go_simp; try with_reducible rfl
              (try simp only [Act.put, List.getElem_toArray, List.getElem_cons_succ, List.getElem_cons_zero, List.setIfInBounds_toArray, List.set_cons_zero, List.set_cons_succ])
              refine wpAnyH_take (i := 2) (v := ?va2) rfl (by kernel_rfl) (by kernel_rfl) (by kernel_rfl) (fun _ _ _ h => h) (Or.inl ⟨by rfl, ?hya2⟩) (by assumption) ?resta2
              case hya2 => intro w hSw; (try dsimp only at hSw); go_simp; try with_reducible rfl
              (try simp only [Act.put, List.getElem_toArray, List.getElem_cons_succ, List.getElem_cons_zero, List.setIfInBounds_toArray, List.set_cons_zero, List.set_cons_succ])
              refine wpAnyH_take (i := 3) (v := ?va3) rfl (by kernel_rfl) (by kernel_rfl) (by kernel_rfl) (fun _ _ _ h => h) (Or.inl ⟨by rfl, ?hya3⟩) (by assumption) ?resta3
              case hya3 => intro w hSw; (try dsimp only at hSw); go_simp; try with_reducible rfl
              (try simp only [Act.put, List.getElem_toArray, List.getElem_cons_succ, List.getElem_cons_zero, List.setIfInBounds_toArray, List.set_cons_zero, List.set_cons_succ])
              refine wpAnyH_take (i := 4) (v := ?va4) rfl (by kernel_rfl) (by kernel_rfl) (by kernel_rfl) (fun _ _ _ h => h) (Or.inl ⟨by rfl, ?hya4⟩) (by assumption) ?resta4
              case hya4 => intro w hSw; (try dsimp only at hSw); go_simp; try with_reducible rfl
              (try simp only [Act.put, List.getElem_toArray, List.getElem_cons_succ, List.getElem_cons_zero, List.setIfInBounds_toArray, List.set_cons_zero, List.set_cons_succ])
              refine wpAnyH_take (i := 5) (v := ?va5) rfl (by kernel_rfl) (by kernel_rfl) (by kernel_rfl) (fun _ _ _ h => h) (Or.inl ⟨by rfl, ?hya5⟩) (by assumption) ?resta5
              case hya5 => intro w hSw; (try dsimp only at hSw); go_simp; try with_reducible rfl
              (try simp only [Act.put, List.getElem_toArray, List.getElem_cons_succ, List.getElem_cons_zero, List.setIfInBounds_toArray, List.set_cons_zero, List.set_cons_succ])
              refine wpAnyH_take (i := 6) (v := ?va6) rfl (by kernel_rfl) (by kernel_rfl) (by kernel_rfl) (fun _ _ _ h => h) (Or.inl ⟨by rfl, ?hya6⟩) (by assumption) ?resta6
              case hya6 => intro w hSw; (try dsimp only at hSw); go_simp; try with_reducible rfl
              (try simp only [Act.put, List.getElem_toArray, List.getElem_cons_succ, List.getElem_cons_zero, List.setIfInBounds_toArray, List.set_cons_zero, List.set_cons_succ])
              refine wpAnyH_take (i := 7) (v := ?va7) rfl (by kernel_rfl) (by kernel_rfl) (by kernel_rfl) (fun _ _ _ h => h) (Or.inl ⟨by rfl, ?hya7⟩) (by assumption) ?resta7
              case hya7 => intro w hSw; (try dsimp only at hSw); go_simp; try with_reducible rfl
              (try simp only [Act.put, List.getElem_toArray, List.getElem_cons_succ, List.getElem_cons_zero, List.setIfInBounds_toArray, List.set_cons_zero, List.set_cons_succ])
              refine wpAnyH_ready (rs := [8]) (by kernel_rfl) (by simp) ?_
              refine AllReadyH.cons rfl (fun K hK => ?_) AllReadyH.nil
              go_simp
              go_at_call 11
              with_reducible refine HC.out.mono ?_
              intro e w3 hq
              unfold LsPost at hq
              obtain ⟨rfl, hL3, hW3⟩ := hq
              have D0 := hL3.cell0
              have D1 := hW3.cell X1 HX.out.2.2.2.2.2
              have D2 := hW3.cell X2 HX.out.2.2.2.2.2
              have h3 := (HX.out.1.after ((Wrote.refl Nil X).drew)).call hL3 hW3
              have H3 := Lib.hid h3
              clear h3 hL3 hW3
              go_wp2
              refine hK.out _ _ ⟨D0, D1, D2⟩ (fun hHeld2 => ?_)
              clear hHeld K hK
              have hHeld := hHeld2
              clear hHeld2
              (try simp only [Act.put, List.getElem_toArray, List.getElem_cons_succ, List.getElem_cons_zero, List.setIfInBounds_toArray, List.set_cons_zero, List.set_cons_succ])
              refine wpAnyH_take (i := 9) (v := ?va9) rfl (by kernel_rfl) (by kernel_rfl) (by kernel_rfl) (fun _ _ _ h => h) (Or.inl ⟨by rfl, ?hya9⟩) (by assumption) ?resta9
              case hya9 => intro w hSw; (try dsimp only at hSw); go_simp; try with_reducible rfl
              (try simp only [Act.put, List.getElem_toArray, List.getElem_cons_succ, List.getElem_cons_zero, List.setIfInBounds_toArray, List.set_cons_zero, List.set_cons_succ])
              refine wpAnyH_take (i := 10) (v := ?va10) rfl (by kernel_rfl) (by kernel_rfl) (by kernel_rfl) (fun _ _ _ h => h) (Or.inl ⟨by rfl, ?hya10⟩) (by assumption) ?resta10
              case hya10 => intro w hSw; (try dsimp only at hSw); go_simp; try with_reducible rfl
              (try simp only [Act.put, List.getElem_toArray, List.getElem_cons_succ, List.getElem_cons_zero, List.setIfInBounds_toArray, List.set_cons_zero, List.set_cons_succ])
              refine wpAnyH_take (i := 11) (v := undef) rfl (by kernel_rfl) (by kernel_rfl) (by kernel_rfl) (fun _ _ _ h => h) (Or.inr ⟨by rfl, rfl⟩) (by assumption) ?resta11
              (try simp only [Act.put, List.getElem_toArray, List.getElem_cons_succ, List.getElem_cons_zero, List.setIfInBounds_toArray, List.set_cons_zero, List.set_cons_succ])
              refine wpAnyH_take (i := 12) (v := undef) rfl (by kernel_rfl) (by kernel_rfl) (by kernel_rfl) (fun _ _ _ h => h) (Or.inr ⟨by rfl, rfl⟩) (by assumption) ?resta12
              (try simp only [Act.put, List.getElem_toArray, List.getElem_cons_succ, List.getElem_cons_zero, List.setIfInBounds_toArray, List.set_cons_zero, List.set_cons_succ])
              refine wpAnyH_take (i := 13) (v := undef) rfl (by kernel_rfl) (by kernel_rfl) (by kernel_rfl) (fun _ _ _ h => h) (Or.inr ⟨by rfl, rfl⟩) (by assumption) ?resta13
              (try simp only [Act.put, List.getElem_toArray, List.getElem_cons_succ, List.getElem_cons_zero, List.setIfInBounds_toArray, List.set_cons_zero, List.set_cons_succ])
              refine wpAnyH_take (i := 14) (v := ?va14) rfl (by kernel_rfl) (by kernel_rfl) (by kernel_rfl) (fun _ _ _ h => h) (Or.inl ⟨by rfl, ?hya14⟩) (by assumption) ?resta14
              case hya14 => intro w hSw; (try dsimp only at hSw); go_simp; try with_reducible rfl
              (try simp only [Act.put, List.getElem_toArray, List.getElem_cons_succ, List.getElem_cons_zero, List.setIfInBounds_toArray, List.set_cons_zero, List.set_cons_succ])
              refine wpAnyH_take (i := 15) (v := ?va15) rfl (by kernel_rfl) (by kernel_rfl) (by kernel_rfl) (fun _ _ _ h => h) (Or.inl ⟨by rfl, ?hya15⟩) (by assumption) ?resta15
              case hya15 => intro w hSw; (try dsimp only at hSw); go_simp; try with_reducible rfl
              (try simp only [Act.put, List.getElem_toArray, List.getElem_cons_succ, List.getElem_cons_zero, List.setIfInBounds_toArray, List.set_cons_zero, List.set_cons_succ])
              refine wpAnyH_take (i := 16) (v := undef) rfl (by kernel_rfl) (by kernel_rfl) (by kernel_rfl) (fun _ _ _ h => h) (Or.inr ⟨by rfl, rfl⟩) (by assumption) ?resta16
              (try simp only [Act.put, List.getElem_toArray, List.getElem_cons_succ, List.getElem_cons_zero, List.setIfInBounds_toArray, List.set_cons_zero, List.set_cons_succ])
              refine wpAnyH_take (i := 17) (v := undef) rfl (by kernel_rfl) (by kernel_rfl) (by kernel_rfl) (fun _ _ _ h => h) (Or.inr ⟨by rfl, rfl⟩) (by assumption) ?resta17
              (try simp only [Act.put, List.getElem_toArray, List.getElem_cons_succ, List.getElem_cons_zero, List.setIfInBounds_toArray, List.set_cons_zero, List.set_cons_succ])
              refine wpAnyH_take (i := 18) (v := undef) rfl (by kernel_rfl) (by kernel_rfl) (by kernel_rfl) (fun _ _ _ h => h) (Or.inr ⟨by rfl, rfl⟩) (by assumption) ?resta18
              (try simp only [Act.put, List.getElem_toArray, List.getElem_cons_succ, List.getElem_cons_zero, List.setIfInBounds_toArray, List.set_cons_zero, List.set_cons_succ])
              refine wpAnyH_take (i := 19) (v := ?va19) rfl (by kernel_rfl) (by kernel_rfl) (by kernel_rfl) (fun _ _ _ h => h) (Or.inl ⟨by rfl, ?hya19⟩) (by assumption) ?resta19
              case hya19 => intro w hSw; (try dsimp only at hSw); go_simp; try with_reducible rfl
              (try simp only [Act.put, List.getElem_toArray, List.getElem_cons_succ, List.getElem_cons_zero, List.setIfInBounds_toArray, List.set_cons_zero, List.set_cons_succ])
              refine wpAnyH_done (by kernel_rfl) ?_ _
              go_wp2
              go_roundw
              case rel => exact ⟨k + 1, nv, by omega, by go_num, rfl, ⟨HT.out.1, HT.out.2.1⟩, _, W, _, H3.out, HX.out.2.1.lock _ _, HL.out, Nat.le_succ_of_le HX.out.2.2.2.1⟩
              case measure => simp [intOf]; omega
            · rw [hev] at HC
              clear hev
              go_upto_region 14 with fail
              refine wp_region_held_drew (S := fun w' => w'.cell? ⟨L.lb, 0, none⟩ = some (.pointer (some ⟨L.p, 0, none⟩)) ∧ w'.cell? ⟨B, 1, none⟩ = some (.int .i64 t) ∧ w'.cell? ⟨B, 2, none⟩ = some (.int .i64 N)) (by kernel_rfl) ⟨C0, X1, X2⟩ (fun hHeld => ?_)
              refine wpAnyH_take (i := 0) (v := ?vb0) rfl (by kernel_rfl) (by kernel_rfl) (by kernel_rfl) (fun _ _ _ h => h) (Or.inl ⟨by rfl, ?hyb0⟩) (by assumption) ?restb0
              case hyb0 => intro w hSw; (try dsimp only at hSw); go_simp; try with_reducible rfl
              (try simp only [Act.put, List.getElem_toArray, List.getElem_cons_zero, List.setIfInBounds_toArray, List.set_cons_zero, List.set_cons_succ])
              refine wpAnyH_take (i := 1) (v := ?vb1) rfl (by kernel_rfl) (by kernel_rfl) (by kernel_rfl) (fun _ _ _ h => h) (Or.inl ⟨by rfl, ?hyb1⟩) (by assumption) ?restb1
              case hyb1 => intro w hSw; (try dsimp only at hSw); go_simp; try with_reducible rfl
              (try simp only [Act.put, List.getElem_toArray, List.getElem_cons_succ, List.getElem_cons_zero, List.setIfInBounds_toArray, List.set_cons_zero, List.set_cons_succ])
              refine wpAnyH_take (i := 2) (v := ?vb2) rfl (by kernel_rfl) (by kernel_rfl) (by kernel_rfl) (fun _ _ _ h => h) (Or.inl ⟨by rfl, ?hyb2⟩) (by assumption) ?restb2
              case hyb2 => intro w hSw; (try dsimp only at hSw); go_simp; try with_reducible rfl
              (try simp only [Act.put, List.getElem_toArray, List.getElem_cons_succ, List.getElem_cons_zero, List.setIfInBounds_toArray, List.set_cons_zero, List.set_cons_succ])
              refine wpAnyH_take (i := 3) (v := ?vb3) rfl (by kernel_rfl) (by kernel_rfl) (by kernel_rfl) (fun _ _ _ h => h) (Or.inl ⟨by rfl, ?hyb3⟩) (by assumption) ?restb3
              case hyb3 => intro w hSw; (try dsimp only at hSw); go_simp; try with_reducible rfl
              (try simp only [Act.put, List.getElem_toArray, List.getElem_cons_succ, List.getElem_cons_zero, List.setIfInBounds_toArray, List.set_cons_zero, List.set_cons_succ])
              refine wpAnyH_take (i := 4) (v := ?vb4) rfl (by kernel_rfl) (by kernel_rfl) (by kernel_rfl) (fun _ _ _ h => h) (Or.inl ⟨by rfl, ?hyb4⟩) (by assumption) ?restb4
              case hyb4 => intro w hSw; (try dsimp only at hSw); go_simp; try with_reducible rfl
              (try simp only [Act.put, List.getElem_toArray, List.getElem_cons_succ, List.getElem_cons_zero, List.setIfInBounds_toArray, List.set_cons_zero, List.set_cons_succ])
              refine wpAnyH_take (i := 5) (v := ?vb5) rfl (by kernel_rfl) (by kernel_rfl) (by kernel_rfl) (fun _ _ _ h => h) (Or.inl ⟨by rfl, ?hyb5⟩) (by assumption) ?restb5
              case hyb5 => intro w hSw; (try dsimp only at hSw); go_simp; try with_reducible rfl
              (try simp only [Act.put, List.getElem_toArray, List.getElem_cons_succ, List.getElem_cons_zero, List.setIfInBounds_toArray, List.set_cons_zero, List.set_cons_succ])
              refine wpAnyH_take (i := 6) (v := ?vb6) rfl (by kernel_rfl) (by kernel_rfl) (by kernel_rfl) (fun _ _ _ h => h) (Or.inl ⟨by rfl, ?hyb6⟩) (by assumption) ?restb6
              case hyb6 => intro w hSw; (try dsimp only at hSw); go_simp; try with_reducible rfl
              (try simp only [Act.put, List.getElem_toArray, List.getElem_cons_succ, List.getElem_cons_zero, List.setIfInBounds_toArray, List.set_cons_zero, List.set_cons_succ])
              refine wpAnyH_take (i := 7) (v := ?vb7) rfl (by kernel_rfl) (by kernel_rfl) (by kernel_rfl) (fun _ _ _ h => h) (Or.inl ⟨by rfl, ?hyb7⟩) (by assumption) ?restb7
              case hyb7 => intro w hSw; (try dsimp only at hSw); go_simp; try with_reducible rfl
              (try simp only [Act.put, List.getElem_toArray, List.getElem_cons_succ, List.getElem_cons_zero, List.setIfInBounds_toArray, List.set_cons_zero, List.set_cons_succ])
              refine wpAnyH_ready (rs := [8]) (by kernel_rfl) (by simp) ?_
              refine AllReadyH.cons rfl (fun K hK => ?_) AllReadyH.nil
              go_simp
              go_at_call 11
              with_reducible refine HC.out.mono ?_
              intro e w3 hq
              unfold LsPost at hq
              obtain ⟨rfl, hL3, hW3⟩ := hq
              have D0 := hL3.cell0
              have D1 := hW3.cell X1 HX.out.2.2.2.2.2
              have D2 := hW3.cell X2 HX.out.2.2.2.2.2
              have h3 := (HX.out.1.after ((Wrote.refl Nil X).drew)).call hL3 hW3
              have H3 := Lib.hid h3
              clear h3 hL3 hW3
              go_wp2
              refine hK.out _ _ ⟨D0, D1, D2⟩ (fun hHeld2 => ?_)
              clear hHeld K hK
              have hHeld := hHeld2
              clear hHeld2
              (try simp only [Act.put, List.getElem_toArray, List.getElem_cons_succ, List.getElem_cons_zero, List.setIfInBounds_toArray, List.set_cons_zero, List.set_cons_succ])
              refine wpAnyH_take (i := 9) (v := ?vb9) rfl (by kernel_rfl) (by kernel_rfl) (by kernel_rfl) (fun _ _ _ h => h) (Or.inl ⟨by rfl, ?hyb9⟩) (by assumption) ?restb9
              case hyb9 => intro w hSw; (try dsimp only at hSw); go_simp; try with_reducible rfl
              (try simp only [Act.put, List.getElem_toArray, List.getElem_cons_succ, List.getElem_cons_zero, List.setIfInBounds_toArray, List.set_cons_zero, List.set_cons_succ])
              refine wpAnyH_take (i := 10) (v := ?vb10) rfl (by kernel_rfl) (by kernel_rfl) (by kernel_rfl) (fun _ _ _ h => h) (Or.inl ⟨by rfl, ?hyb10⟩) (by assumption) ?restb10
              case hyb10 => intro w hSw; (try dsimp only at hSw); go_simp; try with_reducible rfl
              (try simp only [Act.put, List.getElem_toArray, List.getElem_cons_succ, List.getElem_cons_zero, List.setIfInBounds_toArray, List.set_cons_zero, List.set_cons_succ])
              refine wpAnyH_take (i := 11) (v := undef) rfl (by kernel_rfl) (by kernel_rfl) (by kernel_rfl) (fun _ _ _ h => h) (Or.inr ⟨by rfl, rfl⟩) (by assumption) ?restb11
              (try simp only [Act.put, List.getElem_toArray, List.getElem_cons_succ, List.getElem_cons_zero, List.setIfInBounds_toArray, List.set_cons_zero, List.set_cons_succ])
              refine wpAnyH_take (i := 12) (v := undef) rfl (by kernel_rfl) (by kernel_rfl) (by kernel_rfl) (fun _ _ _ h => h) (Or.inr ⟨by rfl, rfl⟩) (by assumption) ?restb12
              (try simp only [Act.put, List.getElem_toArray, List.getElem_cons_succ, List.getElem_cons_zero, List.setIfInBounds_toArray, List.set_cons_zero, List.set_cons_succ])
              refine wpAnyH_take (i := 13) (v := undef) rfl (by kernel_rfl) (by kernel_rfl) (by kernel_rfl) (fun _ _ _ h => h) (Or.inr ⟨by rfl, rfl⟩) (by assumption) ?restb13
              (try simp only [Act.put, List.getElem_toArray, List.getElem_cons_succ, List.getElem_cons_zero, List.setIfInBounds_toArray, List.set_cons_zero, List.set_cons_succ])
              refine wpAnyH_take (i := 14) (v := ?vb14) rfl (by kernel_rfl) (by kernel_rfl) (by kernel_rfl) (fun _ _ _ h => h) (Or.inl ⟨by rfl, ?hyb14⟩) (by assumption) ?restb14
              case hyb14 => intro w hSw; (try dsimp only at hSw); go_simp; try with_reducible rfl
              (try simp only [Act.put, List.getElem_toArray, List.getElem_cons_succ, List.getElem_cons_zero, List.setIfInBounds_toArray, List.set_cons_zero, List.set_cons_succ])
              refine wpAnyH_take (i := 15) (v := ?vb15) rfl (by kernel_rfl) (by kernel_rfl) (by kernel_rfl) (fun _ _ _ h => h) (Or.inl ⟨by rfl, ?hyb15⟩) (by assumption) ?restb15
              case hyb15 => intro w hSw; (try dsimp only at hSw); go_simp; try with_reducible rfl
              (try simp only [Act.put, List.getElem_toArray, List.getElem_cons_succ, List.getElem_cons_zero, List.setIfInBounds_toArray, List.set_cons_zero, List.set_cons_succ])
              refine wpAnyH_take (i := 16) (v := undef) rfl (by kernel_rfl) (by kernel_rfl) (by kernel_rfl) (fun _ _ _ h => h) (Or.inr ⟨by rfl, rfl⟩) (by assumption) ?restb16
              (try simp only [Act.put, List.getElem_toArray, List.getElem_cons_succ, List.getElem_cons_zero, List.setIfInBounds_toArray, List.set_cons_zero, List.set_cons_succ])
              refine wpAnyH_take (i := 17) (v := undef) rfl (by kernel_rfl) (by kernel_rfl) (by kernel_rfl) (fun _ _ _ h => h) (Or.inr ⟨by rfl, rfl⟩) (by assumption) ?restb17
              (try simp only [Act.put, List.getElem_toArray, List.getElem_cons_succ, List.getElem_cons_zero, List.setIfInBounds_toArray, List.set_cons_zero, List.set_cons_succ])
              refine wpAnyH_take (i := 18) (v := undef) rfl (by kernel_rfl) (by kernel_rfl) (by kernel_rfl) (fun _ _ _ h => h) (Or.inr ⟨by rfl, rfl⟩) (by assumption) ?restb18
              (try simp only [Act.put, List.getElem_toArray, List.getElem_cons_succ, List.getElem_cons_zero, List.setIfInBounds_toArray, List.set_cons_zero, List.set_cons_succ])
              refine wpAnyH_take (i := 19) (v := ?vb19) rfl (by kernel_rfl) (by kernel_rfl) (by kernel_rfl) (fun _ _ _ h => h) (Or.inl ⟨by rfl, ?hyb19⟩) (by assumption) ?restb19
              case hyb19 => intro w hSw; (try dsimp only at hSw); go_simp; try with_reducible rfl
              (try simp only [Act.put, List.getElem_toArray, List.getElem_cons_succ, List.getElem_cons_zero, List.setIfInBounds_toArray, List.set_cons_zero, List.set_cons_succ])
              refine wpAnyH_done (by kernel_rfl) ?_ _
              go_wp2
              go_roundw
              case rel => exact ⟨k + 1, nv, by omega, by go_num, rfl, ⟨HT.out.1, HT.out.2.1⟩, _, W, _, H3.out, HX.out.2.1.lock _ _, HL.out, Nat.le_succ_of_le HX.out.2.2.2.1⟩
              case measure => simp [intOf]; omega
        by_cases hK2 : K = 2
        · subst hK2
          have X1 : X.drew.cell? ⟨B, 1, none⟩ = some (.int .i64 t) := x1
          have C0 : X.drew.cell? ⟨L.lb, 0, none⟩ = some (.pointer (some ⟨L.p, 0, none⟩)) := c0
          have HC := Lib.hid (ls_unlock (HX.out.1.ls.drew) t)
          go_upto_region 17 with fail
          go_region_held3 (fun w' => w'.cell? ⟨L.lb, 0, none⟩ = some (.pointer (some ⟨L.p, 0, none⟩)) ∧ w'.cell? ⟨B, 1, none⟩ = some (.int .i64 t)) (first | exact ⟨C0, X1⟩ | exact ⟨D0, D1⟩) (first
            | (go_at_call 12; (with_reducible refine HC.out.mono ?_); intro e w3 hq; unfold LsPost at hq; obtain ⟨rfl, hL3, hW3⟩ := hq; have D0 := hL3.cell0; have D1 := hW3.cell X1 HX.out.2.2.2.2.2; have h3 := (HX.out.1.after ((Wrote.refl Nil X).drew)).call hL3 hW3; have H3 := Lib.hid h3; clear h3 hL3 hW3))
          go_wp2
          go_roundw
          case rel => exact ⟨k + 1, nv, by omega, by go_num, rfl, ⟨HT.out.1, HT.out.2.1⟩, _, W, _, H3.out, HX.out.2.1.unlock _, HT.out.2.2.turn _ _ (by decide), Nat.le_succ_of_le HX.out.2.2.2.1⟩
          case measure => simp [intOf]; omega
        by_cases hK4 : K = 4
        · subst hK4
          obtain ⟨W', hO', hD', _⟩ := HX.out.2.1.step HA.out.1 HA.out.2.1 t nv
          obtain ⟨hT', hev⟩ := HT.out.2.2.step (L := L) t t
          obtain ⟨d, hd⟩ : ∃ d, d = f.did L t t nv := ⟨_, rfl⟩
          rw [← hd] at hev
          have HO := Lib.hid (And.intro hO' (And.intro (show (f.step L t t nv).ps.D.length ≤ k + 1 by have := HX.out.2.2.2.1; omega) hT'))
          have HD := Lib.hid hd.symm
          obtain ⟨ev, enq, arr, lead⟩ := d
          clear hO' hD' hT' hd
          have cC := ls_step HX.out.1.ls t t nv (by have := HX.out.2.2.2.1; omega)
          rw [HD.out] at cC
          by_cases h2 : ev = 2
          · obtain ⟨j, rfl, hjn, j1, j2⟩ := hev h2
            have hn8 := HX.out.2.1.n8
            subst h2
            have b1 : ¬ ((j : Int) < 0) := by omega
            have b2 : ¬ (7 < (j : Int)) := by omega
            have b3 : ¬ (g j < 0) := by omega
            have b4 : ¬ (nv < g j) := by omega
            have j0 : (0 : Int) ≤ (j : Int) := by omega
            have j8 : (j : Int) < 8 := by omega
            have jn8 : j < 8 := by omega
            clear hev hn8 j1 j2
            go_upto_region 20 with (first | (go_at_call 13; (with_reducible refine cC.mono ?_); intro e w3 hq; unfold LsPost at hq; obtain ⟨rfl, hL3, hW3⟩ := hq; dsimp only [Dd.val]; have D1 := hW3.cell x1 HX.out.2.2.2.2.2; have h3 := (HX.out.1).call hL3 hW3; have a0 := h3.cell jn8; have H3 := Lib.hid h3; clear h3 hL3 hW3))
            obtain ⟨Y, hY⟩ : ∃ Y, Y = w3.alloc (.cells #[.int .i64 2, .bool enq, .bool arr, .bool lead] 42) := ⟨_, rfl⟩
            obtain ⟨C, hC⟩ : ∃ C, C = w3.heap.size := ⟨_, rfl⟩
            have kY : Wrote Nil w3 Y := by rw [hY]; exact (Wrote.refl _ _).alloc _
            have yc : Y.heap[C]? = some (.cells #[.int .i64 2, .bool enq, .bool arr, .bool lead] 42 (0, 0)) := by rw [hY, hC]; exact Go.Deep.blk_alloc_new _ _
            have u0 : Y.cell? ⟨C, 0, none⟩ = some (.int .i64 2) := (blk_cell yc 0).trans rfl
            have u1 := kY.cell D1 id
            have u2 := kY.cell a0 id
            rw [← hY, ← hC]
            have H4 := Lib.hid (H3.out.after kY)
            clear hY hC kY yc D1 a0
            go_wp2
            go_roundw
            case rel => exact ⟨k + 1, nv, by omega, by go_num, rfl, ⟨HT.out.1, HT.out.2.1⟩, _, W', _, H4.out, HO.out.1, HO.out.2.2, HO.out.2.1⟩
            case measure => simp [intOf]; omega
          · have b1 : (ev == 2) = false := beq_false_of_ne h2
            clear hev h2
            go_upto_region 20 with (first | (go_at_call 13; (with_reducible refine cC.mono ?_); intro e w3 hq; unfold LsPost at hq; obtain ⟨rfl, hL3, hW3⟩ := hq; dsimp only [Dd.val]; have D1 := hW3.cell x1 HX.out.2.2.2.2.2; have h3 := (HX.out.1).call hL3 hW3; have H3 := Lib.hid h3; clear h3 hL3 hW3))
            obtain ⟨Y, hY⟩ : ∃ Y, Y = w3.alloc (.cells #[.int .i64 ev, .bool enq, .bool arr, .bool lead] 42) := ⟨_, rfl⟩
            obtain ⟨C, hC⟩ : ∃ C, C = w3.heap.size := ⟨_, rfl⟩
            have kY : Wrote Nil w3 Y := by rw [hY]; exact (Wrote.refl _ _).alloc _
            have yc : Y.heap[C]? = some (.cells #[.int .i64 ev, .bool enq, .bool arr, .bool lead] 42 (0, 0)) := by rw [hY, hC]; exact Go.Deep.blk_alloc_new _ _
            have u0 : Y.cell? ⟨C, 0, none⟩ = some (.int .i64 ev) := (blk_cell yc 0).trans rfl
            rw [← hY, ← hC]
            have H4 := Lib.hid (H3.out.after kY)
            clear hY hC kY yc D1
            go_wp2
            go_roundw
            case rel => exact ⟨k + 1, nv, by omega, by go_num, rfl, ⟨HT.out.1, HT.out.2.1⟩, _, W', _, H4.out, HO.out.1, HO.out.2.2, HO.out.2.1⟩
            case measure => simp [intOf]; omega
        · have k1 : (K == 1) = false := beq_false_of_ne hK1
          have k2 : (K == 2) = false := beq_false_of_ne hK2
          have k4 : (K == 4) = false := beq_false_of_ne hK4
          clear hK1 hK2 hK4
          go_wp2
          go_roundw
          case rel => exact ⟨k + 1, nv, by omega, by go_num, rfl, ⟨HT.out.1, HT.out.2.1⟩, f, W, g, HX.out.1, HX.out.2.1, HT.out.2.2, Nat.le_succ_of_le HX.out.2.2.2.1⟩
          case measure => simp [intOf]; omega
      · have HL := Lib.hid hS.ls.wr
        clear hS hO hT hD
        go_wp2_with (first
          | (go_at_call 9; with_reducible refine (fl_awake _).mono ?_; intro e w5 hq; unfold AwakePost at hq; obtain ⟨rfl, hW5⟩ := hq))
        go_ret
        exact ⟨rfl, (HL.out.nil hW5).law⟩

/-! the row -/
set_option maxRecDepth 100000 in
theorem lifted (os : Os) (started : os.Started) (H : Type) (enc : TypeId × Value → H) :
    ReturnsInHanded {} Try.checked os 3 .any (Rows.abortLateSpec.pre6 enc Try.prog Try.f3 Rows.abortLateRow.domain false) (Rows.abortLateSpec.post enc Try.prog Try.f3 false true false false) := by
  refine returnsInHanded_of_change (C := Try.checked) own started (by kernel_rfl) Try.func3
    (ChangeSpec.witness6 (enc := enc) (C := Try.checked) false ⟨#[], #[.slice none 0 0, .int .i64 0, .slice none 0 0], []⟩ 8 (by kernel_rfl) (by kernel_rfl) (by kernel_rfl) (by kernel_rfl)) ?_
  intro W base args ds gs before hval0 hW hcnd _
  have hval : ∀ (j : Nat) t v, Try.f3.params[j]? = some t → args[j]? = some v → Value.okWide Try.prog W .any base t v := hval0
  have hW' := hW
  obtain ⟨p, q, hA0, hV, rfl, hfz, hnd⟩ := hW
  have hA : DataW.TrodAll enc Try.prog W 0 (fun _ => true) true Try.f3.params.toList args.toList ds p := hA0
  rw [Try.params3] at hA hval
  obtain ⟨v0, vs0, d0, ds0, p0, q0, hargs, rfl, rfl, h0, r0'⟩ := trodAll_cons hA
  obtain ⟨v1, vs1, d1, ds1, p1, q1, rfl, rfl, rfl, h1, r1'⟩ := trodAll_cons r0'
  obtain ⟨v2, vs2, d2, ds2, p2, q2, rfl, rfl, rfl, h2, r2'⟩ := trodAll_cons r1'
  obtain ⟨rfl, rfl, rfl⟩ := trodAll_nil r2'
  obtain rfl : args = #[v0, v1, v2] := by cases args; simp_all
  obtain ⟨rfl, rfl⟩ := trodVars_none hV
  have k0 := h0
  have lt0 : ∀ x ∈ p0, x.block < W.heap.size := by obtain ⟨m, hm⟩ := k0; exact DataW.trod_lt m _ _ _ hm
  obtain ⟨s0, len0, cap0, rfl⟩ := okWide_slice Try.underlying22 (hval 0 22 v0 rfl rfl)
  obtain ⟨l0, z0, r0, w0⟩ := open_slice_row Try.underlying22 Try.underlying3 (by kernel_rfl) h0
  obtain ⟨a1, rfl, rfl, rfl, w1⟩ := open_int Try.underlying3 (hval 1 3 v1 rfl rfl) h1
  have k2 := h2
  have lt2 : ∀ x ∈ p2, x.block < W.heap.size := by obtain ⟨m, hm⟩ := k2; exact DataW.trod_lt m _ _ _ hm
  obtain ⟨s2, len2, cap2, rfl⟩ := okWide_slice Try.underlying23 (hval 2 23 v2 rfl rfl)
  obtain ⟨l2, z2, r2⟩ := open_slice_ints (ks := [.i64, .i64, .i64, .i64]) Try.underlying23 Try.underlying32 (by kernel_rfl) (by kernel_rfl) h2
  clear hA0 hval0
  refine (walk s0 len0 cap0 z0 a1 s2 len2 cap2 z2 W l0 r0 w0 w1 l2 r2).mono fun e W' ⟨he, bel⟩ => ?_
  subst he
  exact ⟨_, rfl, _, _, _, [], _, [], hW', trodAll_mk1 (shut_bool Try.underlying4 _), (trodAll_cons_mk (Below.trod laidOut (by kernel_rfl) (of_decide_eq_true (by kernel_rfl)) k0 bel lt0) (trodAll_cons_mk (shut_int Try.underlying3 w1) (trodAll_cons_mk (Below.trod laidOut (by kernel_rfl) (of_decide_eq_true (by kernel_rfl)) k2 bel lt2) trodAll_mk0))), rfl, bel.frame _, fun h => by cases h⟩

theorem over : Rows.abortLateRow.holds Try.pinned (OpenSpec.ofChange Rows.abortLateSpec) :=
  OpenClaim.holds_of_wide 3 Try.f3 rfl rfl rfl rfl rfl rfl rfl ⟨rfl, rfl, rfl, rfl, rfl⟩ rfl rfl rfl rfl rfl (by kernel_rfl) Try.func3 (by kernel_rfl)
    (of_decide_eq_true (by kernel_rfl)) (by unfold Func.isWrapper; first | (rw [if_pos (by decide +kernel)]; kernel_rfl) | (rw [if_neg (by decide +kernel)]; exact ⟨rfl, rfl⟩))
    (fun os started H enc _ => lifted os started H enc)

/-- the statement -/
theorem proved : Rows.AbortLateSaid := over
#print axioms proved
end Go.Proofs.Ytdhpmcafekpfhaa.abortLate
