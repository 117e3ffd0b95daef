/- The contracts of a lock of locks' steps: asks. -/
import Derived.Test.YtkmikkjjnbikdaaGreatCohortDo
import Derived.Test.YtkmikkjjnbikdaaGreatCohortAcq
import Derived.Deep.Cut
import Derived.Laws.EntriesVeiled
import Derived.Deep.CutRange
namespace Go.Proofs.YtkmikkjjnbikdaaGreat
open Go.RowKit Go.BigFrame
set_option linter.unusedVariables false
set_option maxRecDepth 100000
set_option maxHeartbeats 8000000

theorem fl_asks {w : World} {L : Lp} {f : FL} {nx : Nat → Value} (h : LkM w L f nx) {k : Nat} (hk : k < f.s.n) (u : Int) (hD : f.ps.D.length < 4611686018427387904) :
    Calls Tryz.prog 96 #[.pointer (some ⟨L.lb, 0, none⟩), .pointer (some ⟨L.tb, k * 4, none⟩), .int .i64 u] w
      (LmPost w L { f with Lc := upd f.Lc (f.nd k) ((f.lk (f.nd k)).step (f.la (f.nd k) : Nat) (f.own k : Nat) u), ps := ((f.lk (f.nd k)).step (f.la (f.nd k) : Nat) (f.own k : Nat) u).ps }
        (if ((f.lk (f.nd k)).did (f.la (f.nd k) : Nat) (f.own k : Nat) u).ev = 4 then upd nx k (.func (.func 95) #[] #[]) else upd nx k (.func (.func 102) #[] #[]))
        Dd.no.val) := by
  have hF := Fr.start h
  obtain ⟨n1, n2⟩ := h.raw.nod k hk
  obtain ⟨Z, hZ⟩ : ∃ Z, Z = w.alloc (.cells #[.int .i64 0, .bool false, .bool false, .bool false] 71) := ⟨_, rfl⟩
  rw [← hZ] at hF
  have cN := hF.lk.raw.cx2 hk
  have zN := hF.lk.raw.cxz (k * 4 + 2)
  have hN0 := hF.lk.setN k (.func (.func 102) #[] #[])
  have hY := Fr.call h hF hN0.1 (lf_t hF.lk hN0.2)
  clear hN0
  obtain ⟨Y, hYe⟩ : ∃ Y, Y = Z.setCell ⟨L.tb, k * 4 + 2, none⟩ (.func (.func 102) #[] #[]) := ⟨_, rfl⟩
  rw [← hYe] at hY
  have r1 := hY.lk.raw.cx1 hk
  have cL := fun W (q : Wrote Nil Y W) => fl_local (hY.lk.after q) hk
  have vS := (hY.lk.raw.loc _ n1 n2).via_step
  have nS := (hY.lk.raw.loc _ n1 n2).nil_step
  have cI := fun W (q : Wrote Nil Y W) => lm_lstep (X := w) (hY.lk.after q) hk u 0 hD
  generalize ((f.lk (f.nd k)).step (f.la (f.nd k) : Nat) (f.own k : Nat) u) = x' at *
  generalize ((f.lk (f.nd k)).did (f.la (f.nd k) : Nat) (f.own k : Nat) u) = d at *
  have iF := i_fld
  have hF3 := (f.Lc (f.nd k)).step_enter
  generalize (f.Lc (f.nd k)).stepF = F at *
  unfold Ip.val at cL
  obtain ⟨f', hf'⟩ : ∃ f', f' = ({ f with Lc := upd f.Lc (f.nd k) x', ps := x'.ps } : FL) := ⟨_, rfl⟩
  rw [← hf'] at cI
  rw [← hf']
  have hk' : k < f'.s.n := by rw [hf']; exact hk
  have how : f'.own = f.own := by rw [hf']
  clear hf'
  have HK := Lib.hid hk'
  have HH := Lib.hid how
  clear hk' how
  have HE := Lib.hid (And.intro h (And.intro hk hY))
  have HZ := Lib.hid hZ
  have HYe := Lib.hid hYe
  rw [hZ] at cN zN
  clear h hF hZ hY hYe n1 n2
  by_cases e1 : d.ev = 4
  all_goals
    first | rw [if_pos e1] | rw [if_neg e1]
    have b1 : (d.ev == 4) = decide (d.ev = 4) := rfl
    first | rw [decide_eq_true e1] at b1 | rw [decide_eq_false e1] at b1
    go_enter Tryz.func96, Tryz.ntmps96
    go_wp2
    rw [← HZ.out, ← HYe.out]
    clear cN zN
    go_region_held3 (fun w' => w'.cell? ⟨L.tb, k * 4 + 1, none⟩ = some (.int .i64 (f.own k : Nat))) (first | exact r1 | go_keep) (first
      | (go_at_call 85; (first | (with_reducible refine (cL _ ((Wrote.refl _ _).drew)).mono ?_) | (with_reducible refine (cL _ (((Wrote.refl _ _).alloc _).drew)).mono ?_)); rintro e w1 ⟨rfl, n, rfl⟩)
      | ((with_reducible refine (cI _ ((Wrote.refl _ _).drewN _)).mono ?_); intro e w2 hq; unfold LmPost at hq; obtain ⟨rfl, hA, hW⟩ := hq; dsimp only [Dd.val]; have r1 := hA.raw.cx1 HK.out; rw [HH.out] at r1; have HX := Lib.hid (Fr.call HE.out.1 (HE.out.2.2.after ((Wrote.refl _ Y).drewN (1 + n))) hA hW); clear hA hW))
  · have q0 := 0
    have q1 : upd (upd nx k (.func (.func 102) #[] #[])) k (.func (.func 95) #[] #[]) = upd nx k (.func (.func 95) #[] #[]) := upd_upd _ _ _ _
    have cN := HX.out.lk.raw.cx2 HK.out
    have zN := HX.out.lk.raw.cxz (k * 4 + 2)
    have hN := HX.out.lk.setN k (.func (.func 95) #[] #[])
    rw [q1] at hN; clear q1
    have h2 := Fr.call HE.out.1 HX.out hN.1 (lf_t HX.out.lk hN.2)
    obtain ⟨v0, v1, v2, v3⟩ := h2.cell
    obtain ⟨x0, x1, x2, x3⟩ := h2.frz
    have HT := Lib.hid h2
    clear h2 hN
    go_wp2
    refine bodyPost_ret (v := Dd.val Dd.no) (results_cell_row rfl _ _ w.heap.size 71 _ (0, 0) _ rfl (set4 HT.out.res rfl _ _ _ _) Tryz.underlying71 rfl i_did) rfl (HT.out.told HE.out.1 Dd.no)
  · have h2 := HX.out
    obtain ⟨v0, v1, v2, v3⟩ := h2.cell
    obtain ⟨x0, x1, x2, x3⟩ := h2.frz
    clear h2
    go_wp2
    refine bodyPost_ret (v := Dd.val Dd.no) (results_cell_row rfl _ _ w.heap.size 71 _ (0, 0) _ rfl (set4 HX.out.res rfl _ _ _ _) Tryz.underlying71 rfl i_did) rfl (HX.out.told HE.out.1 Dd.no)
end Go.Proofs.YtkmikkjjnbikdaaGreat
