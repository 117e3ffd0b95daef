/- The contracts of a lock of locks' steps: yields. -/
import Derived.Test.YtkmikkjjnbikdaaGreatCohortDo
import Derived.Test.YtkmikkjjnbikdaaGreatCohArrives
import Derived.Test.YtkmikkjjnbikdaaGreatCohLeave
import Derived.Deep.Cut
import Derived.Laws.EntriesVeiled
import Derived.Deep.CutRange
namespace Go.Proofs.YtkmikkjjnbikdaaGreat
open Go.RowKit Go.BigFrame
set_option linter.unusedVariables false
set_option maxRecDepth 100000
set_option maxHeartbeats 8000000

theorem fl_yields {w : World} {L : Lp} {f : FL} {nx : Nat → Value} (h : LkM w L f nx) {k : Nat} (hk : k < f.s.n) (u : Int) (hD : f.ps.D.length < 4611686018427387904) :
    Calls Tryz.prog 101 #[.pointer (some ⟨L.lb, 0, none⟩), .pointer (some ⟨L.tb, k * 4, none⟩), .int .i64 u] w
      (LmPost w L (if (f.gl.did (f.ga : Nat) (f.nd k : Nat) u).ev = 3 then { f with G := (f.gl.step (f.ga : Nat) (f.nd k : Nat) u), ps := (f.gl.step (f.ga : Nat) (f.nd k : Nat) u).ps, Lc := upd f.Lc (f.nd k) ((f.Lc (f.nd k)).turn (f.own k : Nat) 3) } else { f with G := (f.gl.step (f.ga : Nat) (f.nd k : Nat) u), ps := (f.gl.step (f.ga : Nat) (f.nd k : Nat) u).ps })
        (if (f.gl.did (f.ga : Nat) (f.nd k : Nat) u).ev = 3 then upd nx k (.func (.func 106) #[] #[]) else nx)
        Dd.no.val) := by
  have hF := Fr.start h
  obtain ⟨n1, n2⟩ := h.raw.nod k hk
  obtain ⟨Z, hZ⟩ : ∃ Z, Z = w.alloc (.cells #[.int .i64 0, .bool false, .bool false, .bool false] 71) := ⟨_, rfl⟩
  rw [← hZ] at hF
  have c4 := hF.lk.raw.cell4
  unfold Ip.val at c4
  have r0 := hF.lk.raw.cx0 hk
  have hFd := hF.drew
  have vS := hF.lk.raw.glo.via_step
  have cI := lm_gstep hFd.lk hk u 0 hD
  have iF := i_fld
  have hF3 := f.G.step_enter
  generalize (f.gl.step (f.ga : Nat) (f.nd k : Nat) u) = x' at *
  generalize (f.gl.did (f.ga : Nat) (f.nd k : Nat) u) = d at *
  generalize f.G.stepF = F at *
  have HK := Lib.hid hk
  have HE := Lib.hid (And.intro h (And.intro hk hF))
  have HZ := Lib.hid hZ
  clear h hF hZ n1 n2 hFd
  by_cases e1 : d.ev = 3
  all_goals
    first | rw [if_pos e1, if_pos e1] | rw [if_neg e1, if_neg e1]
    have b1 : (d.ev == 3) = decide (d.ev = 3) := rfl
    first | rw [decide_eq_true e1] at b1 | rw [decide_eq_false e1] at b1
    go_enter Tryz.func101, Tryz.ntmps101
    go_wp2
    rw [← HZ.out]
    go_still_tail 11, (by kernel_rfl)
    change wpList _ _ _ _ _ Z.drew
    generalize hY : Z.drew = Y at *
    have HY := Lib.hid hY
    clear hY
    go_wp2_with (first
      | (go_at_call 105; (with_reducible refine cV.mono ?_); intro e w3 hq; unfold LmPost at hq; obtain ⟨rfl, hA, hW⟩ := hq; have h3 := Fr.call HE.out.1 HX.out hA hW; obtain ⟨v0, v1, v2, v3⟩ := h3.cell; obtain ⟨x0, x1, x2, x3⟩ := h3.frz; have HU := Lib.hid h3; clear h3 hA hW)
      | ((with_reducible refine cI.mono ?_); intro e w2 hq; unfold LmPost at hq; obtain ⟨rfl, hA, hW⟩ := hq; dsimp only [Dd.val]; have hX2 := HE.out.2.2.drew; rw [HY.out] at hX2; have hX := Fr.call HE.out.1 hX2 hA hW; have cV := fl_leave hX.lk HK.out; dsimp only at cV; obtain ⟨v0, v1, v2, v3⟩ := hX.cell; obtain ⟨x0, x1, x2, x3⟩ := hX.frz; have HX := Lib.hid hX; clear hX hX2 hA hW))
  · refine bodyPost_ret (v := Dd.val Dd.no) (results_cell_row rfl _ _ w.heap.size 71 _ (0, 0) _ rfl (set4 HU.out.res rfl _ _ _ _) Tryz.underlying71 rfl i_did) rfl (HU.out.told HE.out.1 Dd.no)
  · refine bodyPost_ret (v := Dd.val Dd.no) (results_cell_row rfl _ _ w.heap.size 71 _ (0, 0) _ rfl (set4 HX.out.res rfl _ _ _ _) Tryz.underlying71 rfl i_did) rfl (HX.out.told HE.out.1 Dd.no)
end Go.Proofs.YtkmikkjjnbikdaaGreat
