/- The contracts of a lock of locks' steps: keeps. -/
import Derived.Test.YtkmikkjjnbikdaaGreatCohortDo
import Derived.Test.YtkmikkjjnbikdaaGreatCohLeave
import Derived.Deep.Cut
import Derived.Laws.EntriesVeiled
import Derived.Deep.CutRange
namespace Go.Proofs.YtkmikkjjnbikdaaGreat
open Go.RowKit Go.BigFrame
set_option linter.unusedVariables false
set_option maxRecDepth 100000
set_option maxHeartbeats 8000000

theorem fl_keeps {w : World} {L : Lp} {f : FL} {nx : Nat → Value} (h : LkM w L f nx) {k : Nat} (hk : k < f.s.n) (u : Int) (hD : f.ps.D.length < 4611686018427387904) (hg : 0 ≤ f.got k ∧ f.got k ≤ 1000000) :
    Calls Tryz.prog 102 #[.pointer (some ⟨L.lb, 0, none⟩), .pointer (some ⟨L.tb, k * 4, none⟩), .int .i64 u] w
      (LmPost w L { f with Lc := upd f.Lc (f.nd k) ((f.Lc (f.nd k)).turn (f.own k : Nat) 3), ps := (doS f.ps u 2 (L.pA (f.nd k)) 0 (f.got k + 1)) }
        (upd nx k (.func (.func 106) #[] #[]))
        Dd.no.val) := by
  have hF := Fr.start h
  obtain ⟨n1, n2⟩ := h.raw.nod k hk
  obtain ⟨Z, hZ⟩ : ∃ Z, Z = w.alloc (.cells #[.int .i64 0, .bool false, .bool false, .bool false] 71) := ⟨_, rfl⟩
  rw [← hZ] at hF
  have c1 := hF.lk.raw.cell1
  have cP := fun W (q : Wrote Nil Z W) => fl_pass (hF.lk.after q) hk
  have cA := fun W (q : Wrote Nil Z W) => pstore_any (hF.lk.after q).port u (L.pA (f.nd k)) (f.got k + 1) (by omega) (by omega) hD
  have r3 := hF.lk.raw.cx3 hk
  have w1 : IntKind.u32.wrap (f.got k + 1) = f.got k + 1 := by rw [IntKind.wrap_u32]; omega
  generalize doS f.ps u 2 (L.pA (f.nd k)) 0 (f.got k + 1) = ps' at *
  have HK := Lib.hid hk
  have HE := Lib.hid (And.intro h (And.intro hk hF))
  have HZ := Lib.hid hZ
  clear h hF hZ n1 n2 hg
  go_enter Tryz.func102, Tryz.ntmps102
  go_wp2
  rw [← HZ.out]
  go_region_held3 (fun w' => w'.cell? ⟨L.lb, 1, none⟩ = some (.pointer (some ⟨L.q.p, 0, none⟩)) ∧ w'.cell? ⟨L.tb, k * 4 + 3, none⟩ = some (.int .u32 (f.got k))) (first | exact ⟨c1, r3⟩ | exact ⟨d1, d3⟩ | go_keep) (first | (go_at_call 90; (with_reducible refine (cP _ ((Wrote.refl _ _).drew)).mono ?_); rintro e w1 ⟨rfl, n, rfl⟩) | (go_at_call 100; (with_reducible refine (cA _ ((Wrote.refl _ _).drewN _)).mono ?_); intro e w2 hq; unfold AccPost at hq; obtain ⟨rfl, hP, hW⟩ := hq; have hZ2 := HE.out.2.2.after ((Wrote.refl _ Z).drewN (1 + n)); have hA := hZ2.lk.ports hP hW; have d1 := hA.raw.cell1; have d3 := hA.raw.cx3 hk; have HX := Lib.hid (Fr.call HE.out.1 hZ2 hA (lf_q hZ2.lk hW)); clear hZ2 hA hP hW))
  have cV := fl_leave HX.out.lk HK.out
  dsimp only at cV
  go_wp2_with (go_at_call 105; (with_reducible refine cV.mono ?_); intro e w3 hq; unfold LmPost at hq; obtain ⟨rfl, hA, hW⟩ := hq; have h3 := Fr.call HE.out.1 HX.out hA hW; obtain ⟨v0, v1, v2, v3⟩ := h3.cell; obtain ⟨x0, x1, x2, x3⟩ := h3.frz; have HU := Lib.hid h3; clear h3 hA hW)
  refine bodyPost_ret (v := Dd.val Dd.no) (results_cell_row rfl _ _ w.heap.size 71 _ (0, 0) _ rfl (set4 HU.out.res rfl _ _ _ _) Tryz.underlying71 rfl i_did) rfl (HU.out.told HE.out.1 Dd.no)
end Go.Proofs.YtkmikkjjnbikdaaGreat
