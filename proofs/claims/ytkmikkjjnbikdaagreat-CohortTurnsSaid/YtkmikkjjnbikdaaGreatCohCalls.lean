/- The contracts of a lock of locks' steps: calls. -/
import Derived.Test.YtkmikkjjnbikdaaGreatCohortDo
import Derived.Test.YtkmikkjjnbikdaaGreatCohortAcq
import Derived.Deep.Cut
import Derived.Laws.EntriesVeiled
import Derived.Deep.CutRange
namespace Go.Proofs.YtkmikkjjnbikdaaGreat
open Go.RowKit Go.BigFrame
set_option linter.unusedVariables false
set_option maxRecDepth 100000
set_option maxHeartbeats 8000000

theorem fl_calls {w : World} {L : Lp} {f f1 : FL} {nx : Nat → Value} (h : LkM w L f nx) {k : Nat} (hk : k < f.s.n) (u : Int) (hD : f.ps.D.length < 4611686018427387904) (hf1 : f1 = { f with Lc := upd f.Lc (f.nd k) ((f.Lc (f.nd k)).lock (f.own k : Nat) (-1)) }) :
    Calls Tryz.prog 80 #[.pointer (some ⟨L.lb, 0, none⟩), .pointer (some ⟨L.tb, k * 4, none⟩), .int .i64 u] w
      (LmPost w L { f1 with Lc := upd f1.Lc (f1.nd k) ((f1.lk (f1.nd k)).step (f1.la (f1.nd k) : Nat) (f1.own k : Nat) u), ps := ((f1.lk (f1.nd k)).step (f1.la (f1.nd k) : Nat) (f1.own k : Nat) u).ps }
        (if ((f1.lk (f1.nd k)).did (f1.la (f1.nd k) : Nat) (f1.own k : Nat) u).ev = 1 then upd (upd nx k (.func (.func 86) #[] #[])) k (.func (.func 88) #[] #[]) else upd nx k (.func (.func 86) #[] #[]))
        (Dd.val ⟨0, ((f1.lk (f1.nd k)).did (f1.la (f1.nd k) : Nat) (f1.own k : Nat) u).enq, false, false⟩)) := by
  have hF := Fr.start h
  obtain ⟨n1, n2⟩ := h.raw.nod k hk
  obtain ⟨Z, hZ⟩ : ∃ Z, Z = w.alloc (.cells #[.int .i64 0, .bool false, .bool false, .bool false] 71) := ⟨_, rfl⟩
  rw [← hZ] at hF
  have r1 := hF.lk.raw.cx1 hk
  have cL := fun W (q : Wrote Nil Z W) => fl_local (hF.lk.after q) hk
  unfold Ip.val at cL
  have cI := fun W (q : Wrote Nil Z W) => in_lock ((hF.lk.after q).raw.loc _ n1 n2) (f.own k : Nat) (-1)
  have vL := fun m => ((hF.lk.after ((Wrote.refl _ Z).drewN m)).raw.loc _ n1 n2).via_lock
  have nL := (hF.lk.raw.loc _ n1 n2).nil_lock
  have hk1 : k < f1.s.n := by rw [hf1]; exact hk
  have hD1 : f1.ps.D.length < 4611686018427387904 := by rw [hf1]; exact hD
  have cQ := fun W (q : LkM W L f1 (upd nx k (.func (.func 86) #[] #[]))) => fl_queues q hk1 u hD1
  generalize ((f1.lk (f1.nd k)).step (f1.la (f1.nd k) : Nat) (f1.own k : Nat) u) = x' at *
  generalize ((f1.lk (f1.nd k)).did (f1.la (f1.nd k) : Nat) (f1.own k : Nat) u) = d at *
  generalize (if d.ev = 1 then upd (upd nx k (.func (.func 86) #[] #[])) k (.func (.func 88) #[] #[]) else upd nx k (.func (.func 86) #[] #[])) = nx' at *
  have HK := Lib.hid hk1
  have HE := Lib.hid (And.intro h (And.intro hk (And.intro hF (And.intro n1 (And.intro n2 (And.intro hf1 hD1))))))
  have HZ := Lib.hid hZ
  clear h hF hZ n1 n2 hf1 hD1
  go_enter Tryz.func80, Tryz.ntmps80
  go_wp2
  rw [← HZ.out]
  go_region_held3 (fun w' => w'.cell? ⟨L.tb, k * 4 + 1, none⟩ = some (.int .i64 (f.own k : Nat))) (first | exact r1 | go_keep) (first
    | (go_at_call 85; (first | (with_reducible refine (cL _ ((Wrote.refl _ _).drew)).mono ?_) | (with_reducible refine (cL _ (((Wrote.refl _ _).alloc _).drew)).mono ?_)); rintro e w1 ⟨rfl, n, rfl⟩)
    | (go_at_call 18; (with_reducible refine (cI _ ((Wrote.refl _ _).drewN _)).mono ?_); intro e w2 hq; unfold InPost at hq; obtain ⟨rfl, hI, hW⟩ := hq; have hX2 := HE.out.2.2.1.after ((Wrote.refl _ Z).drewN (1 + n)); have hG := hX2.lk.locl HE.out.2.2.2.1 HE.out.2.2.2.2.1 hI hW; have r1 := hG.raw.cx1 hk; rw [← HE.out.2.2.2.2.2.1] at hG; have HX := Lib.hid (Fr.call HE.out.1 hX2 hG (lf_l hX2.lk HE.out.2.2.2.1 HE.out.2.2.2.2.1 hW)); clear hX2 hG hI hW))
  have cN := HX.out.lk.raw.cx2 HK.out
  have zN := HX.out.lk.raw.cxz (k * 4 + 2)
  have hN := HX.out.lk.setN k (.func (.func 86) #[] #[])
  have h2 := Fr.call HE.out.1 HX.out hN.1 (lf_t HX.out.lk hN.2)
  obtain ⟨v0, v1, v2, v3⟩ := h2.cell
  obtain ⟨x0, x1, x2, x3⟩ := h2.frz
  have HT := Lib.hid h2
  clear h2 hN
  go_wp2_with (go_at_call 86; (with_reducible refine (cQ _ HT.out.lk).mono ?_); intro e w3 hq; unfold LmPost at hq; obtain ⟨rfl, hA, hW⟩ := hq; dsimp only [Dd.val]; have h3 := Fr.call HE.out.1 HT.out hA hW; obtain ⟨v0, v1, v2, v3⟩ := h3.cell; obtain ⟨x0, x1, x2, x3⟩ := h3.frz; have HU := Lib.hid h3; clear h3 hA hW)
  refine bodyPost_ret (v := Dd.val ⟨0, d.enq, false, false⟩) (results_cell_row rfl _ _ w.heap.size 71 _ (0, 0) _ rfl (set4 HU.out.res rfl _ _ _ _) Tryz.underlying71 rfl i_did) rfl (HU.out.told HE.out.1 ⟨0, d.enq, false, false⟩)
end Go.Proofs.YtkmikkjjnbikdaaGreat
