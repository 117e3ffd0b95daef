/- The contracts of a lock of locks' steps: counts. -/
import Derived.Test.YtkmikkjjnbikdaaGreatCohortDo
import Derived.Deep.Cut
import Derived.Laws.EntriesVeiled
import Derived.Deep.CutRange
namespace Go.Proofs.YtkmikkjjnbikdaaGreat
open Go.RowKit Go.BigFrame
set_option linter.unusedVariables false
set_option maxRecDepth 100000
set_option maxHeartbeats 8000000

theorem fl_counts {w : World} {L : Lp} {f : FL} {nx : Nat → Value} (h : LkM w L f nx) {k : Nat} (hk : k < f.s.n) (u : Int) (hD : f.ps.D.length < 4611686018427387904) :
    Calls Tryz.prog 91 #[.pointer (some ⟨L.lb, 0, none⟩), .pointer (some ⟨L.tb, k * 4, none⟩), .int .i64 u] w
      (LmPost w L (if (tellS f.ps u 1 (L.pA (f.nd k))) < f.bud then { f with got := upd f.got k (tellS f.ps u 1 (L.pA (f.nd k))), Lc := upd f.Lc (f.nd k) ((f.Lc (f.nd k)).turn (f.own k : Nat) 4), ps := (doS f.ps u 1 (L.pA (f.nd k)) 0 0) } else { f with got := upd f.got k (tellS f.ps u 1 (L.pA (f.nd k))), ps := (doS f.ps u 1 (L.pA (f.nd k)) 0 0) })
        (if (tellS f.ps u 1 (L.pA (f.nd k))) < f.bud then upd nx k (.func (.func 96) #[] #[]) else upd nx k (.func (.func 95) #[] #[]))
        Dd.no.val) := by
  have hF := Fr.start h
  obtain ⟨n1, n2⟩ := h.raw.nod k hk
  obtain ⟨Z, hZ⟩ : ∃ Z, Z = w.alloc (.cells #[.int .i64 0, .bool false, .bool false, .bool false] 71) := ⟨_, rfl⟩
  rw [← hZ] at hF
  have c1 := hF.lk.raw.cell1
  have cP := fun W (q : Wrote Nil Z W) => fl_pass (hF.lk.after q) hk
  have cA := fun W (q : Wrote Nil Z W) => pload_any (hF.lk.after q).port u (L.pA (f.nd k)) hD
  have hv := h.tell u 1 (L.pA (f.nd k))
  generalize tellS f.ps u 1 (L.pA (f.nd k)) = v at *
  generalize doS f.ps u 1 (L.pA (f.nd k)) 0 0 = ps' at *
  have HV := Lib.hid hv
  have HK := Lib.hid hk
  have HE := Lib.hid (And.intro h (And.intro hk hF))
  have HB := Lib.hid (And.intro n1 n2)
  have HZ := Lib.hid hZ
  clear h hF hZ n1 n2 hv
  by_cases e1 : v < f.bud
  all_goals
    first | rw [if_pos e1, if_pos e1] | rw [if_neg e1, if_neg e1]
    have b1 : decide (v ≥ f.bud) = decide (¬ v < f.bud) := by simp
    have b2 : decide (f.bud ≤ v) = decide (¬ v < f.bud) := by simp
    first | rw [decide_eq_false (not_not_intro e1)] at b1 b2 | rw [decide_eq_true e1] at b1 b2
    go_enter Tryz.func91, Tryz.ntmps91
    go_wp2
    rw [← HZ.out]
    go_region_held3 (fun w' => w'.cell? ⟨L.lb, 1, none⟩ = some (.pointer (some ⟨L.q.p, 0, none⟩))) (first | exact c1 | exact d1 | exact g1 | go_keep) (first | (go_at_call 90; (with_reducible refine (cP _ ((Wrote.refl _ _).drew)).mono ?_); rintro e w1 ⟨rfl, n, rfl⟩) | (go_at_call 89; (with_reducible refine (cA _ ((Wrote.refl _ _).drewN _)).mono ?_); intro e w2 hq; unfold AccPost at hq; obtain ⟨rfl, hP, hW⟩ := hq; have hZ2 := HE.out.2.2.after ((Wrote.refl _ Z).drewN (1 + n)); have hA := hZ2.lk.ports hP hW; have d1 := hA.raw.cell1; have hG := hA.setG k v HV.out; have g3 := hA.raw.cx3 hk; have gz := hA.raw.cxz (k * 4 + 3); have g1 := hG.1.raw.cell1; have HX := Lib.hid (Fr.call HE.out.1 (Fr.call HE.out.1 hZ2 hA (lf_q hZ2.lk hW)) hG.1 (lf_t hA hG.2)); clear hZ2 hA hP hW hG))
    have q3 := HX.out.lk.raw.cx3 HK.out
    have q2 := HX.out.lk.raw.cell2
    dsimp only at q3 q2
    rw [upd_same] at q3
    go_wp2
    go_big_quiet (fail)
    generalize hY : (w2.setCell ⟨L.tb, k * 4 + 3, none⟩ (.int .u32 v)).drewN nq = Y
    have hYF := HX.out.after ((Wrote.refl Nil (w2.setCell ⟨L.tb, k * 4 + 3, none⟩ (.int .u32 v))).drewN nq)
    rw [hY] at hYF
    have HYF := Lib.hid hYF
    clear hYF hY q3 q2
  · have r1 := HYF.out.lk.raw.cx1 HK.out
    have cL := fun W (q : Wrote Nil Y W) => fl_local (HYF.out.lk.after q) HK.out
    dsimp only at cL r1
    unfold Ip.val at cL
    have cI := fun W (q : Wrote Nil Y W) => in_probe ((HYF.out.lk.after q).raw.loc _ HB.out.1 HB.out.2) (f.own k : Nat)
    have vL := fun m => ((HYF.out.lk.after ((Wrote.refl _ Y).drewN m)).raw.loc _ HB.out.1 HB.out.2).via_probe
    have nL := (HYF.out.lk.raw.loc _ HB.out.1 HB.out.2).nil_probe
    go_wp2
    go_region_held3 (fun w' => w'.cell? ⟨L.tb, k * 4 + 1, none⟩ = some (.int .i64 (f.own k : Nat))) (first | exact r1 | go_keep) (first
      | (go_at_call 85; (first | (with_reducible refine (cL _ ((Wrote.refl _ _).drew)).mono ?_) | (with_reducible refine (cL _ (((Wrote.refl _ _).alloc _).drew)).mono ?_)); rintro e w1 ⟨rfl, n, rfl⟩)
      | (go_at_call 123; (with_reducible refine (cI _ ((Wrote.refl _ _).drewN _)).mono ?_); intro e w3 hq; unfold InPost at hq; obtain ⟨rfl, hI, hW⟩ := hq; have hX2 := HYF.out.after ((Wrote.refl _ Y).drewN (1 + n)); have hG := hX2.lk.locl HB.out.1 HB.out.2 hI hW; have r1 := hG.raw.cx1 hk; have HX3 := Lib.hid (Fr.call HE.out.1 hX2 hG (lf_l hX2.lk HB.out.1 HB.out.2 hW)); clear hX2 hG hI hW))
    have cN := HX3.out.lk.raw.cx2 HK.out
    have zN := HX3.out.lk.raw.cxz (k * 4 + 2)
    have hN := HX3.out.lk.setN k (.func (.func 96) #[] #[])
    have h2 := Fr.call HE.out.1 HX3.out hN.1 (lf_t HX3.out.lk hN.2)
    obtain ⟨v0, v1, v2, v3⟩ := h2.cell
    obtain ⟨x0, x1, x2, x3⟩ := h2.frz
    have HT := Lib.hid h2
    clear h2 hN
    go_wp2
    refine bodyPost_ret (v := Dd.val Dd.no) (results_cell_row rfl _ _ w.heap.size 71 _ (0, 0) _ rfl (set4 HT.out.res rfl _ _ _ _) Tryz.underlying71 rfl i_did) rfl (HT.out.told HE.out.1 Dd.no)
  · have q0 := 0
    have cN := HYF.out.lk.raw.cx2 HK.out
    have zN := HYF.out.lk.raw.cxz (k * 4 + 2)
    have hN := HYF.out.lk.setN k (.func (.func 95) #[] #[])
    have h2 := Fr.call HE.out.1 HYF.out hN.1 (lf_t HYF.out.lk hN.2)
    obtain ⟨v0, v1, v2, v3⟩ := h2.cell
    obtain ⟨x0, x1, x2, x3⟩ := h2.frz
    have HT := Lib.hid h2
    clear h2 hN
    go_wp2
    refine bodyPost_ret (v := Dd.val Dd.no) (results_cell_row rfl _ _ w.heap.size 71 _ (0, 0) _ rfl (set4 HT.out.res rfl _ _ _ _) Tryz.underlying71 rfl i_did) rfl (HT.out.told HE.out.1 Dd.no)
end Go.Proofs.YtkmikkjjnbikdaaGreat
