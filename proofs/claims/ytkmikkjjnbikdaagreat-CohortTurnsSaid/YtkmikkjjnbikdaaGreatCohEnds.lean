/- The contracts of a lock of locks' steps: ends. -/
import Derived.Test.YtkmikkjjnbikdaaGreatCohortDo
import Derived.Deep.Cut
import Derived.Laws.EntriesVeiled
import Derived.Deep.CutRange
namespace Go.Proofs.YtkmikkjjnbikdaaGreat
open Go.RowKit Go.BigFrame
set_option linter.unusedVariables false
set_option maxRecDepth 100000
set_option maxHeartbeats 8000000

theorem fl_ends {w : World} {L : Lp} {f : FL} {nx : Nat → Value} (h : LkM w L f nx) {k : Nat} (hk : k < f.s.n) (u : Int) (hD : f.ps.D.length < 4611686018427387904) :
    Calls Tryz.prog 95 #[.pointer (some ⟨L.lb, 0, none⟩), .pointer (some ⟨L.tb, k * 4, none⟩), .int .i64 u] w
      (LmPost w L { f with G := f.G.turn (f.nd k : Nat) 3, ps := (doS f.ps u 2 (L.pA (f.nd k)) 0 0) }
        (upd nx k (.func (.func 101) #[] #[]))
        Dd.no.val) := by
  have hF := Fr.start h
  obtain ⟨n1, n2⟩ := h.raw.nod k hk
  obtain ⟨Z, hZ⟩ : ∃ Z, Z = w.alloc (.cells #[.int .i64 0, .bool false, .bool false, .bool false] 71) := ⟨_, rfl⟩
  rw [← hZ] at hF
  have c1 := hF.lk.raw.cell1
  have cP := fun W (q : Wrote Nil Z W) => fl_pass (hF.lk.after q) hk
  have cA := fun W (q : Wrote Nil Z W) => pstore_any (hF.lk.after q).port u (L.pA (f.nd k)) 0 (by decide) (by decide) hD
  have nL := hF.lk.raw.glo.nil_unlock
  generalize doS f.ps u 2 (L.pA (f.nd k)) 0 0 = ps' at *
  have HK := Lib.hid hk
  have HE := Lib.hid (And.intro h (And.intro hk hF))
  have HZ := Lib.hid hZ
  clear h hF hZ n1 n2
  go_enter Tryz.func95, Tryz.ntmps95
  go_wp2
  rw [← HZ.out]
  go_region_held3 (fun w' => w'.cell? ⟨L.lb, 1, none⟩ = some (.pointer (some ⟨L.q.p, 0, none⟩))) (first | exact c1 | exact d1 | go_keep) (first | (go_at_call 90; (with_reducible refine (cP _ ((Wrote.refl _ _).drew)).mono ?_); rintro e w1 ⟨rfl, n, rfl⟩) | (go_at_call 100; (with_reducible refine (cA _ ((Wrote.refl _ _).drewN _)).mono ?_); intro e w2 hq; unfold AccPost at hq; obtain ⟨rfl, hP, hW⟩ := hq; have hZ2 := HE.out.2.2.after ((Wrote.refl _ Z).drewN (1 + n)); have hA := hZ2.lk.ports hP hW; have d1 := hA.raw.cell1; have HX := Lib.hid (Fr.call HE.out.1 hZ2 hA (lf_q hZ2.lk hW)); clear hZ2 hA hP hW))
  have q0 := HX.out.lk.raw.cx0 hk
  have q4 := HX.out.lk.raw.cell4
  unfold Ip.val at q4
  have cI := in_unlock (HX.out.after ((Wrote.refl _ w2).drew)).lk.raw.glo (f.nd k : Nat)
  have vL := (HX.out.after ((Wrote.refl _ w2).drew)).lk.raw.glo.via_unlock
  go_wp2
  go_still_tail 10, (by kernel_rfl)
  change wpList _ _ _ _ _ w2.drew
  generalize hY : w2.drew = Y at *
  have HY := Lib.hid hY
  clear hY
  go_wp2_with (go_at_call 19; (with_reducible refine cI.mono ?_); intro e w3 hq; unfold InPost at hq; obtain ⟨rfl, hI, hW⟩ := hq; have hX2 := HX.out.after ((Wrote.refl _ w2).drew); rw [HY.out] at hX2; have hG := hX2.lk.glob hI hW; have HX := Lib.hid (Fr.call HE.out.1 hX2 hG (lf_g hX2.lk hW)); clear hX2 hG hI hW; have cN := HX.out.lk.raw.cx2 HK.out; have zN := HX.out.lk.raw.cxz (k * 4 + 2); have hN := HX.out.lk.setN k (.func (.func 101) #[] #[]); have h2 := Fr.call HE.out.1 HX.out hN.1 (lf_t HX.out.lk hN.2); obtain ⟨v0, v1, v2, v3⟩ := h2.cell; obtain ⟨x0, x1, x2, x3⟩ := h2.frz; have HT := Lib.hid h2; clear h2 hN)
  refine bodyPost_ret (v := Dd.val Dd.no) (results_cell_row rfl _ _ w.heap.size 71 _ (0, 0) _ rfl (set4 HT.out.res rfl _ _ _ _) Tryz.underlying71 rfl i_did) rfl (HT.out.told HE.out.1 Dd.no)
end Go.Proofs.YtkmikkjjnbikdaaGreat
