/- The contracts of a lock of locks' steps: leads. -/
import Derived.Test.YtkmikkjjnbikdaaGreatCohortDo
import Derived.Deep.Cut
import Derived.Laws.EntriesVeiled
import Derived.Deep.CutRange
namespace Go.Proofs.YtkmikkjjnbikdaaGreat
open Go.RowKit Go.BigFrame
set_option linter.unusedVariables false
set_option maxRecDepth 100000
set_option maxHeartbeats 8000000

theorem fl_leads {w : World} {L : Lp} {f : FL} {nx : Nat → Value} (h : LkM w L f nx) {k : Nat} (hk : k < f.s.n) (u : Int) (hD : f.ps.D.length < 4611686018427387904) :
    Calls Tryz.prog 97 #[.pointer (some ⟨L.lb, 0, none⟩), .pointer (some ⟨L.tb, k * 4, none⟩), .int .i64 u] w
      (LmPost w L { f with ps := (doS f.ps u 2 (L.pA (f.nd k)) 0 1) }
        (upd nx k (.func (.func 91) #[] #[]))
        (Dd.val ⟨1, false, false, true⟩)) := by
  have hF := Fr.start h
  obtain ⟨n1, n2⟩ := h.raw.nod k hk
  obtain ⟨Z, hZ⟩ : ∃ Z, Z = w.alloc (.cells #[.int .i64 0, .bool false, .bool false, .bool false] 71) := ⟨_, rfl⟩
  rw [← hZ] at hF
  have c1 := hF.lk.raw.cell1
  have cP := fun W (q : Wrote Nil Z W) => fl_pass (hF.lk.after q) hk
  have cA := fun W (q : Wrote Nil Z W) => pstore_any (hF.lk.after q).port u (L.pA (f.nd k)) 1 (by decide) (by decide) hD
  generalize doS f.ps u 2 (L.pA (f.nd k)) 0 1 = ps' at *
  have HK := Lib.hid hk
  have HE := Lib.hid (And.intro h (And.intro hk hF))
  have HZ := Lib.hid hZ
  clear h hF hZ
  go_enter Tryz.func97, Tryz.ntmps97
  go_wp2
  rw [← HZ.out]
  go_region_held3 (fun w' => w'.cell? ⟨L.lb, 1, none⟩ = some (.pointer (some ⟨L.q.p, 0, none⟩))) (first | exact c1 | exact d1 | go_keep) (first | (go_at_call 90; (with_reducible refine (cP _ ((Wrote.refl _ _).drew)).mono ?_); rintro e w1 ⟨rfl, n, rfl⟩) | (go_at_call 100; (with_reducible refine (cA _ ((Wrote.refl _ _).drewN _)).mono ?_); intro e w2 hq; unfold AccPost at hq; obtain ⟨rfl, hP, hW⟩ := hq; have hZ2 := HE.out.2.2.after ((Wrote.refl _ Z).drewN (1 + n)); have hA := hZ2.lk.ports hP hW; have d1 := hA.raw.cell1; have HX := Lib.hid (Fr.call HE.out.1 hZ2 hA (lf_q hZ2.lk hW)); clear hZ2 hA hP hW))
  have cN := HX.out.lk.raw.cx2 HK.out
  have zN := HX.out.lk.raw.cxz (k * 4 + 2)
  have hN := HX.out.lk.setN k (.func (.func 91) #[] #[])
  have h2 := Fr.call HE.out.1 HX.out hN.1 (lf_t HX.out.lk hN.2)
  obtain ⟨v0, v1, v2, v3⟩ := h2.cell
  obtain ⟨x0, x1, x2, x3⟩ := h2.frz
  have HT := Lib.hid h2
  clear h2 hN
  go_wp2
  refine bodyPost_ret (v := Dd.val ⟨1, false, false, true⟩) (results_cell_row rfl _ _ w.heap.size 71 _ (0, 0) _ rfl (set4 HT.out.res rfl _ _ _ _) Tryz.underlying71 rfl i_did) rfl (HT.out.told HE.out.1 ⟨1, false, false, true⟩)
end Go.Proofs.YtkmikkjjnbikdaaGreat
