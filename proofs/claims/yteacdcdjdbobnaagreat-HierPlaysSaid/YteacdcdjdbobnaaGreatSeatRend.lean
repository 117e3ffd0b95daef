/- The contract of the reference's End on seats. -/
import Derived.Test.YteacdcdjdbobnaaGreatSeatRdo
import Derived.BigFrame
namespace Go.Proofs.YteacdcdjdbobnaaGreat
open Go.RowKit Go.BigFrame
set_option linter.unusedVariables false
set_option maxRecDepth 100000

theorem s_u3 : Tryz.prog.underlying 109 = some (.array 3 3) := by kernel_rfl
theorem s_u6 : Tryz.prog.underlying 180 = some (.array 6 109) := by kernel_rfl
theorem s_i3 : (Tryz.prog.info? 109).map (fun i => (i.zero, i.size, i.bytes)) = some (some (.agg #[.int .i64 0, .int .i64 0, .int .i64 0]), 3, 24) := by kernel_rfl
theorem s_idx (cs : Array Value) (j : Nat) (hj : j < 6) (w : World) : (Instr.index 180 (.agg cs) (.int .i64 (j : Int))).run Tryz.prog w = .ok (.agg (cs.extract (j * 3) (j * 3 + 3))) w := by
  obtain ⟨i0, hi, hz0, hz1, hz2⟩ := info_parts s_i3
  simp [Instr.index, asIntOf, run_underlying s_u6, part, isAgg, run_underlying s_u3, sizeOf, typeInfo, hi, hz1, hj]
def tabC : Array Value := #[.int .i64 1, .int .i64 1, .int .i64 2, .int .i64 1, .int .i64 2, .int .i64 0, .int .i64 1, .int .i64 6, .int .i64 0, .int .i64 3, .int .i64 3, .int .i64 0, .int .i64 4, .int .i64 4, .int .i64 2, .int .i64 4, .int .i64 5, .int .i64 2]
theorem s_idx0 (w : World) : (Instr.index 180 (.agg #[.int .i64 1, .int .i64 1, .int .i64 2, .int .i64 1, .int .i64 2, .int .i64 0, .int .i64 1, .int .i64 6, .int .i64 0, .int .i64 3, .int .i64 3, .int .i64 0, .int .i64 4, .int .i64 4, .int .i64 2, .int .i64 4, .int .i64 5, .int .i64 2]) (.int .i64 0)).run Tryz.prog w = .ok (.agg #[.int .i64 1, .int .i64 1, .int .i64 2]) w := s_idx _ 0 (by decide) w
theorem s_idx1 (w : World) : (Instr.index 180 (.agg #[.int .i64 1, .int .i64 1, .int .i64 2, .int .i64 1, .int .i64 2, .int .i64 0, .int .i64 1, .int .i64 6, .int .i64 0, .int .i64 3, .int .i64 3, .int .i64 0, .int .i64 4, .int .i64 4, .int .i64 2, .int .i64 4, .int .i64 5, .int .i64 2]) (.int .i64 1)).run Tryz.prog w = .ok (.agg #[.int .i64 1, .int .i64 2, .int .i64 0]) w := s_idx _ 1 (by decide) w
theorem s_idx2 (w : World) : (Instr.index 180 (.agg #[.int .i64 1, .int .i64 1, .int .i64 2, .int .i64 1, .int .i64 2, .int .i64 0, .int .i64 1, .int .i64 6, .int .i64 0, .int .i64 3, .int .i64 3, .int .i64 0, .int .i64 4, .int .i64 4, .int .i64 2, .int .i64 4, .int .i64 5, .int .i64 2]) (.int .i64 2)).run Tryz.prog w = .ok (.agg #[.int .i64 1, .int .i64 6, .int .i64 0]) w := s_idx _ 2 (by decide) w
theorem s_idx3 (w : World) : (Instr.index 180 (.agg #[.int .i64 1, .int .i64 1, .int .i64 2, .int .i64 1, .int .i64 2, .int .i64 0, .int .i64 1, .int .i64 6, .int .i64 0, .int .i64 3, .int .i64 3, .int .i64 0, .int .i64 4, .int .i64 4, .int .i64 2, .int .i64 4, .int .i64 5, .int .i64 2]) (.int .i64 3)).run Tryz.prog w = .ok (.agg #[.int .i64 3, .int .i64 3, .int .i64 0]) w := s_idx _ 3 (by decide) w
theorem s_idx4 (w : World) : (Instr.index 180 (.agg #[.int .i64 1, .int .i64 1, .int .i64 2, .int .i64 1, .int .i64 2, .int .i64 0, .int .i64 1, .int .i64 6, .int .i64 0, .int .i64 3, .int .i64 3, .int .i64 0, .int .i64 4, .int .i64 4, .int .i64 2, .int .i64 4, .int .i64 5, .int .i64 2]) (.int .i64 4)).run Tryz.prog w = .ok (.agg #[.int .i64 4, .int .i64 4, .int .i64 2]) w := s_idx _ 4 (by decide) w
theorem s_idx5 (w : World) : (Instr.index 180 (.agg #[.int .i64 1, .int .i64 1, .int .i64 2, .int .i64 1, .int .i64 2, .int .i64 0, .int .i64 1, .int .i64 6, .int .i64 0, .int .i64 3, .int .i64 3, .int .i64 0, .int .i64 4, .int .i64 4, .int .i64 2, .int .i64 4, .int .i64 5, .int .i64 2]) (.int .i64 5)).run Tryz.prog w = .ok (.agg #[.int .i64 4, .int .i64 5, .int .i64 2]) w := s_idx _ 5 (by decide) w

/-- the table of ends: the state ahead, the event, the state behind -/
def tabA (k : Nat) : Int := [1, 1, 1, 3, 4, 4].getD k 0
def tabE (k : Nat) : Int := [1, 2, 6, 3, 4, 5].getD k 0
def tabN (k : Nat) : Int := [2, 0, 0, 0, 2, 2].getD k 0
theorem tab_hit {x ev : Int} {k : Nat} (hk : k < 6) (hx : x = tabA k) (he : ev = tabE k) : behindI x ev = some (tabN k) := by
  subst hx he
  have : k = 0 ∨ k = 1 ∨ k = 2 ∨ k = 3 ∨ k = 4 ∨ k = 5 := by omega
  rcases this with rfl | rfl | rfl | rfl | rfl | rfl <;> rfl
/-- none of the first k rows fits -/
def NoRow (x ev : Int) (k : Nat) : Prop := ∀ j, j < k → ¬ (x = tabA j ∧ ev = tabE j)
theorem NoRow.snoc {x ev : Int} {k : Nat} (h : NoRow x ev k) (hk : ¬ (x = tabA k ∧ ev = tabE k)) : NoRow x ev (k + 1) := fun j hj => by
  by_cases e : j = k
  · rw [e]; exact hk
  · exact h j (by omega)
theorem tab_miss {x ev : Int} (h : NoRow x ev 6) : behindI x ev = none := by
  have h0 := h 0 (by decide)
  have h1 := h 1 (by decide)
  have h2 := h 2 (by decide)
  have h3 := h 3 (by decide)
  have h4 := h 4 (by decide)
  have h5 := h 5 (by decide)
  simp only [tabA, tabE, List.getD_cons_zero, List.getD_cons_succ] at h0 h1 h2 h3 h4 h5
  unfold behindI
  rw [if_neg h0, if_neg (fun e => e.2.elim (fun y => h1 ⟨e.1, y⟩) (fun y => h2 ⟨e.1, y⟩)), if_neg h3, if_neg (fun e => e.2.elim (fun y => h4 ⟨e.1, y⟩) (fun y => h5 ⟨e.1, y⟩))]
def endI (s : SS) (t ev : Int) : Int := if endB s t ev = true then 1 else 0
def REndPost (w : World) (r : Nat) (hv dv : Value) (s : SS) (t ev : Int) (e : Ending) (w' : World) : Prop := RsPost w r hv dv (s.fin t ev) (endI s t ev) e w'

set_option maxHeartbeats 4000000 in
theorem rs_end {w : World} {r : Nat} {hv dv : Value} {s : SS} (h : RsAt w r hv dv s) (n1 : 1 ≤ s.n) (n2 : s.n ≤ 64) (t ev : Int) :
    Calls Tryz.prog 116 #[.pointer (some ⟨r, 0, none⟩), .int .i64 t, .int .i64 ev] w (RsPost w r hv dv (s.fin t ev) (endI s t ev)) := by
  obtain ⟨g, cap, rfl, hg⟩ := SrAt.stV h (by omega)
  obtain ⟨g2, cap2, rfl, hg2⟩ := SrAt.dlV h (by omega)
  have c0 := SrAt.cell0 h
  have c1 := SrAt.cell1 h
  by_cases ht : 0 ≤ t ∧ t < s.n
  · have eO : endO s t ev = behindI (s.st t.toNat) ev := if_pos ht
    obtain ⟨k, rfl⟩ := Int.eq_ofNat_of_zero_le ht.1
    rw [Int.toNat_natCast] at eO
    have hk : k < s.n := by omega
    obtain ⟨e0, f0⟩ := hg k _ (stL_at s hk)
    obtain ⟨e1, f1⟩ := hg2 k _ (dlL_at s hk)
    have q1 : ¬ (k : Int) < 0 := by omega
    have q2 : ¬ (s.n : Int) ≤ (k : Int) := by omega
    have p1 : ¬ g = g2 := fun e => h.apart g rfl (by rw [e]; rfl)
    have p2 : ¬ g2 = g := fun e => p1 e.symm
    have HE : ∀ (Y : World) (j : Nat) (x : Int), Wrote Nil w Y → j < 6 → s.st k = tabA j → ev = tabE j → x = tabN j → RsPost w r (.slice (some ⟨g, 0, none⟩) s.n cap) (.slice (some ⟨g2, 0, none⟩) s.n cap2) (s.fin (k : Int) ev) (endI s (k : Int) ev) (.returned (.int .i64 1)) ((Y.setCell ⟨g, k, none⟩ (.int .i64 x)).setCell ⟨g2, k, none⟩ (.int .i64 (-1))) ∧ RsPost w r (.slice (some ⟨g, 0, none⟩) s.n cap) (.slice (some ⟨g2, 0, none⟩) s.n cap2) (s.fin (k : Int) ev) (endI s (k : Int) ev) (.returned (.int .i64 1)) ((Y.setCell ⟨g2, k, none⟩ (.int .i64 (-1))).setCell ⟨g, k, none⟩ (.int .i64 x)) := fun Y j x hY hj hA hEv hx => by
      have hb := tab_hit hj hA hEv
      rw [← hx] at hb
      rw [hb] at eO
      have e3 : s.fin (k : Int) ev = s.set k x 0 := by unfold SS.fin; rw [eO, Int.toNat_natCast]
      have e4 : endI s (k : Int) ev = 1 := by unfold endI endB; rw [eO]; rfl
      have hx1 : x ≠ 1 := by
        rw [hx]
        have : j = 0 ∨ j = 1 ∨ j = 2 ∨ j = 3 ∨ j = 4 ∨ j = 5 := by omega
        rcases this with rfl | rfl | rfl | rfl | rfl | rfl <;> decide
      rw [e3, e4]
      obtain ⟨⟨a1, a2⟩, b1, b2⟩ := rs_two (h.after hY) k hk x (-1)
      rw [← stL_set s k x 0, ← dlL_set s k x 0 (-1) (by simp [SS.dlS, SS.set, upd_same, hx1])] at a1 b1
      have m1 := (hY.mono (T := SF r (.slice (some ⟨g, 0, none⟩) s.n cap) (.slice (some ⟨g2, 0, none⟩) s.n cap2)) fun _ _ x => x.elim)
      exact ⟨⟨rfl, a1, m1.trans a2 fun _ _ x => x⟩, ⟨rfl, b1, m1.trans b2 fun _ _ x => x⟩⟩
    have HN : ∀ (Y : World), Wrote Nil w Y → NoRow (s.st k) ev 6 → RsPost w r (.slice (some ⟨g, 0, none⟩) s.n cap) (.slice (some ⟨g2, 0, none⟩) s.n cap2) (s.fin (k : Int) ev) (endI s (k : Int) ev) (.returned (.int .i64 0)) Y := fun Y hY hN => by
      rw [tab_miss hN] at eO
      have e3 : s.fin (k : Int) ev = s := by unfold SS.fin; rw [eO]
      have e4 : endI s (k : Int) ev = 0 := by unfold endI endB; rw [eO]; rfl
      rw [e3, e4]
      exact ⟨rfl, h.after hY, hY.mono fun _ _ x => x.elim⟩
    have K0 : ∀ Y, Wrote Nil w Y → Y.cell? ⟨r, 0, none⟩ = some (.slice (some ⟨g, 0, none⟩) s.n cap) ∧ Y.cell? ⟨r, 1, none⟩ = some (.slice (some ⟨g2, 0, none⟩) s.n cap2) ∧ Y.cell? ⟨g, k, none⟩ = some (.int .i64 (s.st k)) ∧ Y.cell? ⟨g2, k, none⟩ = some (.int .i64 (s.dlS k)) ∧ Y.frozen? ⟨g, k, none⟩ = false ∧ Y.frozen? ⟨g2, k, none⟩ = false := fun Y hY => by
      have hY' := h.after hY
      obtain ⟨g', cap', q, hg'⟩ := SrAt.stV hY' (by omega)
      obtain ⟨g2', cap2', q', hg2'⟩ := SrAt.dlV hY' (by omega)
      simp only [Value.slice.injEq, Option.some.injEq, Addr.mk.injEq, and_true, true_and] at q q'
      obtain ⟨rfl, rfl⟩ := q
      obtain ⟨rfl, rfl⟩ := q'
      exact ⟨SrAt.cell0 hY', SrAt.cell1 hY', (hg' k _ (stL_at s hk)).1, (hg2' k _ (dlL_at s hk)).1, (hg' k _ (stL_at s hk)).2, (hg2' k _ (dlL_at s hk)).2⟩
    have KK := Lib.hid (And.intro HE (And.intro HN K0))
    generalize s.st k = x at KK
    generalize s.dlS k = y at KK
    have hn := n2
    clear h eO hg hg2 ht HE HN K0 e0 f0 e1 f1
    generalize s.n = n at *
    generalize (s.fin (k : Int) ev) = S' at *
    generalize (endI s (k : Int) ev) = E' at *
    have hW0 : Wrote Nil w w := Wrote.refl _ _
    go_enter Tryz.func116, Tryz.ntmps116
    go_wp2
    clear c0 c1
    go_loopw [27] (fun i wr => ∃ j : Nat, j ≤ 6 ∧ i = .int .i64 j ∧ Hid (Wrote Nil w wr ∧ NoRow x ev j)) (fun i _ => 6 - (intOf i).toNat)
    case atStart => exact ⟨0, by decide, rfl, Lib.hid ⟨hW0, fun j hj => by omega⟩⟩
    case round =>
      clear hW0
      obtain ⟨j, hj, rfl, hH⟩ := hrel
      have hjj : j = 0 ∨ j = 1 ∨ j = 2 ∨ j = 3 ∨ j = 4 ∨ j = 5 ∨ j = 6 := by omega
      clear hj
      rcases hjj with rfl | rfl | rfl | rfl | rfl | rfl | rfl
      · obtain ⟨X, hX⟩ : ∃ X, X = wr.alloc (.cells #[.int .i64 1, .int .i64 1, .int .i64 2] 109) := ⟨_, rfl⟩
        have hWX : Wrote Nil w X := by rw [hX]; exact hH.out.1.alloc _
        obtain ⟨c0, c1, e0, e1, f0, f1⟩ := KK.out.2.2 _ hWX
        have b0 : X.cell? ⟨wr.heap.size, 0, none⟩ = some (.int .i64 1) := by rw [hX]; simp
        have b1 : X.cell? ⟨wr.heap.size, 1, none⟩ = some (.int .i64 1) := by rw [hX]; simp
        have b2 : X.cell? ⟨wr.heap.size, 2, none⟩ = some (.int .i64 2) := by rw [hX]; simp
        have hIx := s_idx0
        have HX := Lib.hid (And.intro hX hWX)
        clear hX hWX
        by_cases hx : x = 1
        · by_cases he : ev = 1
          · have HV := Lib.hid (And.intro hx he)
            subst hx he
            go_wp2
            rw [← HX.out.1]
            go_big_quiet (fail)
            go_wp2
            go_region
            all_goals
              go_wp2
              go_ret
              first
                | exact (KK.out.1 _ 0 2 (HX.out.2.drewN _) (by decide) rfl rfl rfl).1
                | exact (KK.out.1 _ 0 2 (HX.out.2.drewN _) (by decide) rfl rfl rfl).2
          · have he2 : (ev == 1) = false := beq_false_of_ne he
            have HR := Lib.hid (hH.out.2.snoc fun y => he y.2)
            subst hx
            clear he
            go_wp2
            rw [← HX.out.1]
            go_big_quiet (fail)
            go_wp2
            go_roundw
            case rel => exact ⟨1, by decide, rfl, Lib.hid ⟨HX.out.2.drewN _, HR.out⟩⟩
            case measure => simp [intOf]
        · have hx2 : (x == 1) = false := beq_false_of_ne hx
          have HR := Lib.hid (hH.out.2.snoc fun y => hx y.1)
          clear hx
          go_wp2
          rw [← HX.out.1]
          go_big_quiet (fail)
          go_wp2
          go_roundw
          case rel => exact ⟨1, by decide, rfl, Lib.hid ⟨HX.out.2.drewN _, HR.out⟩⟩
          case measure => simp [intOf]
      · obtain ⟨X, hX⟩ : ∃ X, X = wr.alloc (.cells #[.int .i64 1, .int .i64 2, .int .i64 0] 109) := ⟨_, rfl⟩
        have hWX : Wrote Nil w X := by rw [hX]; exact hH.out.1.alloc _
        obtain ⟨c0, c1, e0, e1, f0, f1⟩ := KK.out.2.2 _ hWX
        have b0 : X.cell? ⟨wr.heap.size, 0, none⟩ = some (.int .i64 1) := by rw [hX]; simp
        have b1 : X.cell? ⟨wr.heap.size, 1, none⟩ = some (.int .i64 2) := by rw [hX]; simp
        have b2 : X.cell? ⟨wr.heap.size, 2, none⟩ = some (.int .i64 0) := by rw [hX]; simp
        have hIx := s_idx1
        have HX := Lib.hid (And.intro hX hWX)
        clear hX hWX
        by_cases hx : x = 1
        · by_cases he : ev = 2
          · have HV := Lib.hid (And.intro hx he)
            subst hx he
            go_wp2
            rw [← HX.out.1]
            go_big_quiet (fail)
            go_wp2
            go_region
            all_goals
              go_wp2
              go_ret
              first
                | exact (KK.out.1 _ 1 0 (HX.out.2.drewN _) (by decide) rfl rfl rfl).1
                | exact (KK.out.1 _ 1 0 (HX.out.2.drewN _) (by decide) rfl rfl rfl).2
          · have he2 : (ev == 2) = false := beq_false_of_ne he
            have HR := Lib.hid (hH.out.2.snoc fun y => he y.2)
            subst hx
            clear he
            go_wp2
            rw [← HX.out.1]
            go_big_quiet (fail)
            go_wp2
            go_roundw
            case rel => exact ⟨2, by decide, rfl, Lib.hid ⟨HX.out.2.drewN _, HR.out⟩⟩
            case measure => simp [intOf]
        · have hx2 : (x == 1) = false := beq_false_of_ne hx
          have HR := Lib.hid (hH.out.2.snoc fun y => hx y.1)
          clear hx
          go_wp2
          rw [← HX.out.1]
          go_big_quiet (fail)
          go_wp2
          go_roundw
          case rel => exact ⟨2, by decide, rfl, Lib.hid ⟨HX.out.2.drewN _, HR.out⟩⟩
          case measure => simp [intOf]
      · obtain ⟨X, hX⟩ : ∃ X, X = wr.alloc (.cells #[.int .i64 1, .int .i64 6, .int .i64 0] 109) := ⟨_, rfl⟩
        have hWX : Wrote Nil w X := by rw [hX]; exact hH.out.1.alloc _
        obtain ⟨c0, c1, e0, e1, f0, f1⟩ := KK.out.2.2 _ hWX
        have b0 : X.cell? ⟨wr.heap.size, 0, none⟩ = some (.int .i64 1) := by rw [hX]; simp
        have b1 : X.cell? ⟨wr.heap.size, 1, none⟩ = some (.int .i64 6) := by rw [hX]; simp
        have b2 : X.cell? ⟨wr.heap.size, 2, none⟩ = some (.int .i64 0) := by rw [hX]; simp
        have hIx := s_idx2
        have HX := Lib.hid (And.intro hX hWX)
        clear hX hWX
        by_cases hx : x = 1
        · by_cases he : ev = 6
          · have HV := Lib.hid (And.intro hx he)
            subst hx he
            go_wp2
            rw [← HX.out.1]
            go_big_quiet (fail)
            go_wp2
            go_region
            all_goals
              go_wp2
              go_ret
              first
                | exact (KK.out.1 _ 2 0 (HX.out.2.drewN _) (by decide) rfl rfl rfl).1
                | exact (KK.out.1 _ 2 0 (HX.out.2.drewN _) (by decide) rfl rfl rfl).2
          · have he2 : (ev == 6) = false := beq_false_of_ne he
            have HR := Lib.hid (hH.out.2.snoc fun y => he y.2)
            subst hx
            clear he
            go_wp2
            rw [← HX.out.1]
            go_big_quiet (fail)
            go_wp2
            go_roundw
            case rel => exact ⟨3, by decide, rfl, Lib.hid ⟨HX.out.2.drewN _, HR.out⟩⟩
            case measure => simp [intOf]
        · have hx2 : (x == 1) = false := beq_false_of_ne hx
          have HR := Lib.hid (hH.out.2.snoc fun y => hx y.1)
          clear hx
          go_wp2
          rw [← HX.out.1]
          go_big_quiet (fail)
          go_wp2
          go_roundw
          case rel => exact ⟨3, by decide, rfl, Lib.hid ⟨HX.out.2.drewN _, HR.out⟩⟩
          case measure => simp [intOf]
      · obtain ⟨X, hX⟩ : ∃ X, X = wr.alloc (.cells #[.int .i64 3, .int .i64 3, .int .i64 0] 109) := ⟨_, rfl⟩
        have hWX : Wrote Nil w X := by rw [hX]; exact hH.out.1.alloc _
        obtain ⟨c0, c1, e0, e1, f0, f1⟩ := KK.out.2.2 _ hWX
        have b0 : X.cell? ⟨wr.heap.size, 0, none⟩ = some (.int .i64 3) := by rw [hX]; simp
        have b1 : X.cell? ⟨wr.heap.size, 1, none⟩ = some (.int .i64 3) := by rw [hX]; simp
        have b2 : X.cell? ⟨wr.heap.size, 2, none⟩ = some (.int .i64 0) := by rw [hX]; simp
        have hIx := s_idx3
        have HX := Lib.hid (And.intro hX hWX)
        clear hX hWX
        by_cases hx : x = 3
        · by_cases he : ev = 3
          · have HV := Lib.hid (And.intro hx he)
            subst hx he
            go_wp2
            rw [← HX.out.1]
            go_big_quiet (fail)
            go_wp2
            go_region
            all_goals
              go_wp2
              go_ret
              first
                | exact (KK.out.1 _ 3 0 (HX.out.2.drewN _) (by decide) rfl rfl rfl).1
                | exact (KK.out.1 _ 3 0 (HX.out.2.drewN _) (by decide) rfl rfl rfl).2
          · have he2 : (ev == 3) = false := beq_false_of_ne he
            have HR := Lib.hid (hH.out.2.snoc fun y => he y.2)
            subst hx
            clear he
            go_wp2
            rw [← HX.out.1]
            go_big_quiet (fail)
            go_wp2
            go_roundw
            case rel => exact ⟨4, by decide, rfl, Lib.hid ⟨HX.out.2.drewN _, HR.out⟩⟩
            case measure => simp [intOf]
        · have hx2 : (x == 3) = false := beq_false_of_ne hx
          have HR := Lib.hid (hH.out.2.snoc fun y => hx y.1)
          clear hx
          go_wp2
          rw [← HX.out.1]
          go_big_quiet (fail)
          go_wp2
          go_roundw
          case rel => exact ⟨4, by decide, rfl, Lib.hid ⟨HX.out.2.drewN _, HR.out⟩⟩
          case measure => simp [intOf]
      · obtain ⟨X, hX⟩ : ∃ X, X = wr.alloc (.cells #[.int .i64 4, .int .i64 4, .int .i64 2] 109) := ⟨_, rfl⟩
        have hWX : Wrote Nil w X := by rw [hX]; exact hH.out.1.alloc _
        obtain ⟨c0, c1, e0, e1, f0, f1⟩ := KK.out.2.2 _ hWX
        have b0 : X.cell? ⟨wr.heap.size, 0, none⟩ = some (.int .i64 4) := by rw [hX]; simp
        have b1 : X.cell? ⟨wr.heap.size, 1, none⟩ = some (.int .i64 4) := by rw [hX]; simp
        have b2 : X.cell? ⟨wr.heap.size, 2, none⟩ = some (.int .i64 2) := by rw [hX]; simp
        have hIx := s_idx4
        have HX := Lib.hid (And.intro hX hWX)
        clear hX hWX
        by_cases hx : x = 4
        · by_cases he : ev = 4
          · have HV := Lib.hid (And.intro hx he)
            subst hx he
            go_wp2
            rw [← HX.out.1]
            go_big_quiet (fail)
            go_wp2
            go_region
            all_goals
              go_wp2
              go_ret
              first
                | exact (KK.out.1 _ 4 2 (HX.out.2.drewN _) (by decide) rfl rfl rfl).1
                | exact (KK.out.1 _ 4 2 (HX.out.2.drewN _) (by decide) rfl rfl rfl).2
          · have he2 : (ev == 4) = false := beq_false_of_ne he
            have HR := Lib.hid (hH.out.2.snoc fun y => he y.2)
            subst hx
            clear he
            go_wp2
            rw [← HX.out.1]
            go_big_quiet (fail)
            go_wp2
            go_roundw
            case rel => exact ⟨5, by decide, rfl, Lib.hid ⟨HX.out.2.drewN _, HR.out⟩⟩
            case measure => simp [intOf]
        · have hx2 : (x == 4) = false := beq_false_of_ne hx
          have HR := Lib.hid (hH.out.2.snoc fun y => hx y.1)
          clear hx
          go_wp2
          rw [← HX.out.1]
          go_big_quiet (fail)
          go_wp2
          go_roundw
          case rel => exact ⟨5, by decide, rfl, Lib.hid ⟨HX.out.2.drewN _, HR.out⟩⟩
          case measure => simp [intOf]
      · obtain ⟨X, hX⟩ : ∃ X, X = wr.alloc (.cells #[.int .i64 4, .int .i64 5, .int .i64 2] 109) := ⟨_, rfl⟩
        have hWX : Wrote Nil w X := by rw [hX]; exact hH.out.1.alloc _
        obtain ⟨c0, c1, e0, e1, f0, f1⟩ := KK.out.2.2 _ hWX
        have b0 : X.cell? ⟨wr.heap.size, 0, none⟩ = some (.int .i64 4) := by rw [hX]; simp
        have b1 : X.cell? ⟨wr.heap.size, 1, none⟩ = some (.int .i64 5) := by rw [hX]; simp
        have b2 : X.cell? ⟨wr.heap.size, 2, none⟩ = some (.int .i64 2) := by rw [hX]; simp
        have hIx := s_idx5
        have HX := Lib.hid (And.intro hX hWX)
        clear hX hWX
        by_cases hx : x = 4
        · by_cases he : ev = 5
          · have HV := Lib.hid (And.intro hx he)
            subst hx he
            go_wp2
            rw [← HX.out.1]
            go_big_quiet (fail)
            go_wp2
            go_region
            all_goals
              go_wp2
              go_ret
              first
                | exact (KK.out.1 _ 5 2 (HX.out.2.drewN _) (by decide) rfl rfl rfl).1
                | exact (KK.out.1 _ 5 2 (HX.out.2.drewN _) (by decide) rfl rfl rfl).2
          · have he2 : (ev == 5) = false := beq_false_of_ne he
            have HR := Lib.hid (hH.out.2.snoc fun y => he y.2)
            subst hx
            clear he
            go_wp2
            rw [← HX.out.1]
            go_big_quiet (fail)
            go_wp2
            go_roundw
            case rel => exact ⟨6, by decide, rfl, Lib.hid ⟨HX.out.2.drewN _, HR.out⟩⟩
            case measure => simp [intOf]
        · have hx2 : (x == 4) = false := beq_false_of_ne hx
          have HR := Lib.hid (hH.out.2.snoc fun y => hx y.1)
          clear hx
          go_wp2
          rw [← HX.out.1]
          go_big_quiet (fail)
          go_wp2
          go_roundw
          case rel => exact ⟨6, by decide, rfl, Lib.hid ⟨HX.out.2.drewN _, HR.out⟩⟩
          case measure => simp [intOf]
      · go_wp2
        go_ret
        exact KK.out.2.1 _ hH.out.1 hH.out.2
  · have eO : endO s t ev = none := if_neg ht
    have e3 : s.fin t ev = s := by unfold SS.fin; rw [eO]
    have e4 : endI s t ev = 0 := by unfold endI endB; rw [eO]; rfl
    rw [e3, e4]
    have HE := Lib.hid h
    have hn := n2
    have ht2 : t < 0 ∨ (¬ t < 0 ∧ (s.n : Int) ≤ t) := by omega
    generalize s.n = n at *
    clear h eO e3 e4 hg hg2 ht
    rcases ht2 with ht | ⟨ht, ht2⟩
    all_goals
      go_enter Tryz.func116, Tryz.ntmps116
      go_wp2
      go_ret
      exact ⟨rfl, HE.out, Wrote.refl _ _⟩
end Go.Proofs.YteacdcdjdbobnaaGreat
