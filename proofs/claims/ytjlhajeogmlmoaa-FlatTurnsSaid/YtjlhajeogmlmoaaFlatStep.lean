/- A whole step of a ticket lock: what it tells, and what it leaves. -/
import Derived.Test.YtjlhajeogmlmoaaFlatDo
import Derived.WalkLawsBesides
import Derived.Outline
import Derived.Deep.QuietTactic
import Derived.Deep.RegionHeld3
import Derived.BigQuiet
import Derived.BigFrame
import Derived.Handy
import Derived.OpenShut
import Derived.Lib.Walk
import Derived.WalkKit
import Derived.Lib.Hide
namespace Go.Proofs.Ytjlhajeogmlmoaa
open Go.RowKit Go.BigFrame
set_option linter.unusedVariables false
set_option maxRecDepth 100000

/-! ### step -/
set_option maxHeartbeats 1000000 in
theorem fl_mid {w : World} {L : Lp} {f : FL} (h : LkAt w L f) (t u : Int) (hD : f.ps.D.length < 4611686018427387904) :
    Calls Try.prog 34 #[.pointer (some ⟨L.lb, 0, none⟩), .int .i64 t, .int .i64 u] w (LkPost w L (f.mid L t u) (f.did L t u).val) := by
  have hF := Fr.start h
  have c0 := hF.lk.raw.cell0
  have c4 := hF.lk.raw.cell4
  have cS := se_state hF.lk.raw.seat t
  obtain ⟨v0, v1, v2, v3⟩ := hF.cell
  obtain ⟨x0, x1, x2, x3⟩ := hF.frz
  have hn := h.raw.seat.n2
  by_cases ht : 0 ≤ t ∧ t < f.s.n
  · obtain ⟨k, rfl⟩ := Int.eq_ofNat_of_zero_le ht.1
    have hk : k < f.s.n := by omega
    have eS : f.s.stI (k : Int) = f.s.st k := by unfold SS.stI; rw [if_pos ht, Int.toNat_natCast]
    rw [eS] at cS
    unfold FL.mid FL.did
    rw [if_pos ht, if_pos ht, Int.toNat_natCast]
    by_cases h1 : f.s.st k = 1
    · rw [if_pos h1, if_pos h1]
      rw [h1] at cS
      have cA := fl_acq hF.lk k hk u hD
      generalize f.acq L k u = g at *
      generalize f.acqD L k u = d at *
      have HE := Lib.hid (And.intro h hF)
      clear h hF eS h1
      generalize f.s.n = n at *
      go_enter Try.func34, Try.ntmps34
      go_wp2_with (first
        | (go_at_call 22; with_reducible refine cS.mono ?_; rintro e w' ⟨rfl, rfl⟩)
        | (go_at_call 51; with_reducible refine cA.mono ?_; intro e w2 hq; unfold LkPost at hq; obtain ⟨rfl, hA, hW⟩ := hq; dsimp only [Dd.val]; have hA3 := Fr.call HE.out.1 HE.out.2 hA hW; obtain ⟨v0, v1, v2, v3⟩ := hA3.cell; obtain ⟨x0, x1, x2, x3⟩ := hA3.frz; have HT := Lib.hid hA3; clear hA hA3 hW))
      refine bodyPost_ret (v := Dd.val d) (results_cell_row rfl _ _ w.heap.size 60 _ (0, 0) _ rfl (set4 HT.out.res rfl _ _ _ _) Try.underlying60 rfl i_did) rfl (HT.out.told HE.out.1 d)
    · rw [if_neg h1, if_neg h1]
      by_cases h3 : f.s.st k = 3
      · rw [if_pos h3, if_pos h3]
        rw [h3] at cS
        have cA := fl_rel hF.lk k hk u hD
        generalize f.rel L k u = g at *
        have HE := Lib.hid (And.intro h hF)
        clear h hF eS h1 h3
        generalize f.s.n = n at *
        go_enter Try.func34, Try.ntmps34
        go_wp2_with (first
          | (go_at_call 22; with_reducible refine cS.mono ?_; rintro e w' ⟨rfl, rfl⟩)
          | (go_at_call 52; with_reducible refine cA.mono ?_; intro e w2 hq; unfold LkPost at hq; obtain ⟨rfl, hA, hW⟩ := hq; dsimp only [Dd.val]; have hA3 := Fr.call HE.out.1 HE.out.2 hA hW; obtain ⟨v0, v1, v2, v3⟩ := hA3.cell; obtain ⟨x0, x1, x2, x3⟩ := hA3.frz; have HT := Lib.hid hA3; clear hA hA3 hW))
        refine bodyPost_ret (v := Dd.val ⟨3, false, false, false⟩) (results_cell_row rfl _ _ w.heap.size 60 _ (0, 0) _ rfl (set4 HT.out.res rfl _ _ _ _) Try.underlying60 rfl i_did) rfl (HT.out.told HE.out.1 ⟨3, false, false, false⟩)
      · rw [if_neg h3, if_neg h3]
        by_cases h4 : f.s.st k = 4
        · rw [if_pos h4, if_pos h4]
          rw [h4] at cS
          have cA := fl_ask hF.lk k hk u hD
          generalize f.ask L k u = g at *
          generalize f.askD L k u = d at *
          have HE := Lib.hid (And.intro h hF)
          clear h hF eS h1 h3 h4
          generalize f.s.n = n at *
          go_enter Try.func34, Try.ntmps34
          go_wp2_with (first
            | (go_at_call 22; with_reducible refine cS.mono ?_; rintro e w' ⟨rfl, rfl⟩)
            | (go_at_call 53; with_reducible refine cA.mono ?_; intro e w2 hq; unfold LkPost at hq; obtain ⟨rfl, hA, hW⟩ := hq; dsimp only [Dd.val]; have hA3 := Fr.call HE.out.1 HE.out.2 hA hW; obtain ⟨v0, v1, v2, v3⟩ := hA3.cell; obtain ⟨x0, x1, x2, x3⟩ := hA3.frz; have HT := Lib.hid hA3; clear hA hA3 hW))
          refine bodyPost_ret (v := Dd.val d) (results_cell_row rfl _ _ w.heap.size 60 _ (0, 0) _ rfl (set4 HT.out.res rfl _ _ _ _) Try.underlying60 rfl i_did) rfl (HT.out.told HE.out.1 d)
        · rw [if_neg h4, if_neg h4]
          have HE := Lib.hid (And.intro h hF)
          clear h hF eS
          generalize f.s.st k = x at *
          go_enter Try.func34, Try.ntmps34
          go_wp2_with (first
            | (go_at_call 22; with_reducible refine cS.mono ?_; rintro e w' ⟨rfl, rfl⟩))
          refine bodyPost_ret (v := Dd.val Dd.no) (results_cell_row rfl _ _ w.heap.size 60 _ (0, 0) _ rfl HE.out.2.res Try.underlying60 rfl i_did) rfl ⟨rfl, HE.out.2.lk, HE.out.2.wr⟩
  · have eS : f.s.stI t = 0 := if_neg ht
    rw [eS] at cS
    unfold FL.mid FL.did
    rw [if_neg ht, if_neg ht]
    have HE := Lib.hid (And.intro h hF)
    clear h hF eS ht
    go_enter Try.func34, Try.ntmps34
    go_wp2_with (first
      | (go_at_call 22; with_reducible refine cS.mono ?_; rintro e w' ⟨rfl, rfl⟩))
    refine bodyPost_ret (v := Dd.val Dd.no) (results_cell_row rfl _ _ w.heap.size 60 _ (0, 0) _ rfl HE.out.2.res Try.underlying60 rfl i_did) rfl ⟨rfl, HE.out.2.lk, HE.out.2.wr⟩
end Go.Proofs.Ytjlhajeogmlmoaa
