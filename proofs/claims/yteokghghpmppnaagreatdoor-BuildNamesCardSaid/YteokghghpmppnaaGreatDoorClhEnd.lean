/- The contract of a CLH lock's Step. -/
import Derived.Test.YteokghghpmppnaaGreatDoorClhStep
import Derived.WalkLawsBesides
import Derived.Outline
import Derived.Deep.QuietTactic
import Derived.Deep.RegionHeld3
import Derived.BigQuiet
import Derived.BigFrame
import Derived.Handy
import Derived.OpenShut
import Derived.Lib.Walk
import Derived.WalkKit
import Derived.Lib.Hide
namespace Go.Proofs.YteokghghpmppnaaGreatDoor.Kc
open Go.RowKit Go.BigFrame
set_option linter.unusedVariables false
set_option maxRecDepth 100000

set_option maxHeartbeats 4000000 in
theorem fl_step {w : World} {L : Lp} {f : FL} (h : LkAt w L f) (t u x : Int) (hD : f.ps.D.length < 4611686018427387904) :
    Calls Tryz.prog 122 #[.pointer (some ⟨L.lb, 0, none⟩), .int .i64 t, .int .i64 u, .int .i64 x] w (LkPost w L (f.step L t u) (f.did L t u).val) := by
  have hF := Fr.start h
  obtain ⟨Z, hZ⟩ : ∃ Z, Z = w.alloc (.cells #[.int .i64 0, .bool false, .bool false, .bool false] 164) := ⟨_, rfl⟩
  rw [← hZ] at hF
  have cM := hs_step hF.lk t u hD
  have c0 := hF.lk.raw.cell0
  rw [hZ] at c0
  generalize f.step L t u = g at *
  generalize f.did L t u = d at *
  have HE := Lib.hid (And.intro h hF)
  have HZ := Lib.hid hZ
  clear h hF hZ
  go_enter Tryz.func122, Tryz.ntmps122
  go_wp2_with (first
    | (go_at_call 108; rw [← HZ.out]; (with_reducible refine cM.mono ?_); intro e w2 hq; unfold LkPost at hq; obtain ⟨rfl, hA, hW⟩ := hq; dsimp only [Dd.val]; have hA3 := Fr.call HE.out.1 HE.out.2 hA hW; obtain ⟨v0, v1, v2, v3⟩ := hA3.cell; obtain ⟨x0, x1, x2, x3⟩ := hA3.frz; have HT := Lib.hid hA3; clear hA hA3 hW))
  refine bodyPost_ret (v := Dd.val d) (results_cell_row rfl _ _ w.heap.size 164 _ (0, 0) _ rfl (set4 HT.out.res rfl _ _ _ _) Tryz.underlying164 rfl i_did) rfl (HT.out.told HE.out.1 d)
end Go.Proofs.YteokghghpmppnaaGreatDoor.Kc
