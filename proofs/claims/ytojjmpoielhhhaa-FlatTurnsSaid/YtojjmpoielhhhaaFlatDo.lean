/- The contracts of a ticket lock's steps: what each tells, and what it leaves. -/
import Derived.Test.YtojjmpoielhhhaaFlat
import Derived.WalkLawsBesides
import Derived.Outline
import Derived.Deep.QuietTactic
import Derived.Deep.RegionHeld3
import Derived.BigQuiet
import Derived.BigFrame
import Derived.Handy
import Derived.OpenShut
import Derived.Lib.Walk
import Derived.WalkKit
import Derived.Lib.Hide
namespace Go.Proofs.Ytojjmpoielhhhaa
open Go.RowKit Go.BigFrame
set_option linter.unusedVariables false
set_option maxRecDepth 100000

theorem fl_use {w : World} {L : Lp} {pv : Value} {s : SS} {num : Nat → Int} {dr : Nat → Bool} (h : FlRaw w L pv s num dr) (a : Addr) :
    Calls Try.prog 19 #[.pointer (some ⟨L.lb, 0, none⟩), .pointer (some a)] w fun e w' => e = .returned (.tuple #[]) ∧ w' = w.setCell ⟨L.lb, 1, none⟩ (.pointer (some a)) := by
  have c1 := h.cell1
  have f1 := h.frozen 1
  clear h
  go_enter Try.func19, Try.ntmps19
  go_wp2
  go_end0
  exact ⟨rfl, rfl⟩

/-! ### acquire -/
theorem fl_acq0 {w : World} {L : Lp} {f : FL} (h : LkAt w L f) (k : Nat) (hk : k < f.s.n) (u : Int) (hd : f.dr k = false) (hD : f.ps.D.length < 4611686018427387904) :
    Calls Try.prog 35 #[.pointer (some ⟨L.lb, 0, none⟩), .int .i64 (k : Int), .int .i64 u] w (LkPost w L (f.acq L k u) (f.acqD L k u).val) := by
  have e1 : f.acq L k u = { f with num := upd f.num k (tellS f.ps u 5 L.a1), dr := upd f.dr k true, ps := doS f.ps u 5 L.a1 0 1 } := by unfold FL.acq; rw [hd]; rfl
  have e2 : f.acqD L k u = ⟨0, true, false, false⟩ := by unfold FL.acqD; rw [hd]; rfl
  rw [e1, e2]
  clear e1 e2
  have hF := Fr.start h
  obtain ⟨Z, hZ⟩ : ∃ Z, Z = w.alloc (.cells #[.int .i64 0, .bool false, .bool false, .bool false] 60) := ⟨_, rfl⟩
  rw [← hZ] at hF
  have c1 := hF.lk.raw.cell1
  have c4 := hF.lk.raw.cell4
  have hkI : (k : Int) < f.s.n := by omega
  have hn64 := h.raw.seat.n2
  have c2 := hF.lk.raw.cell2
  have t0 := hF.lk.raw.tk0 hk
  have t1 := hF.lk.raw.tk1 hk
  have z0 := hF.lk.raw.tkz (k * 2)
  have z1 := hF.lk.raw.tkz (k * 2 + 1)
  rw [hd] at t1
  have cA := padd_any hF.drew.lk.port u L.a1 1 (by omega) (by omega) hD
  have HE := Lib.hid (And.intro h (And.intro hk (And.intro hF (h.tell u 5 L.a1))))
  clear h hF
  rw [hZ] at t1 c4
  go_enter Try.func35, Try.ntmps35
  go_wp2
  rw [← hZ]
  clear hZ t1 c4
  go_region_held3 (fun w' => w'.cell? ⟨L.lb, 1, none⟩ = some (.pointer (some ⟨L.q.p, 0, none⟩)) ∧ w'.cell? ⟨L.lb, 2, none⟩ = some (.int .i64 L.a1)) (first | exact ⟨c1, c2⟩ | exact ⟨d1, d2⟩ | exact ⟨g1, g2⟩) (first | (go_at_call 54; (with_reducible refine cA.mono ?_); intro e w2 hq; unfold AccPost at hq; obtain ⟨rfl, hP, hW⟩ := hq; have hA := HE.out.2.2.1.drew.lk.ports hP hW; have hA2 := Fr.call HE.out.1 HE.out.2.2.1.drew hA (lf_q hW); have d1 := hA.raw.cell1; have d2 := hA.raw.cell2; have y0 := hA.raw.tk0 HE.out.2.1; have y1 := hA.raw.tk1 HE.out.2.1; have y2 := hA.raw.tkz (k * 2); have y3 := hA.raw.tkz (k * 2 + 1); have hT := hA.ticks HE.out.2.1 (tellS f.ps u 5 L.a1) true HE.out.2.2.2; have g1 := hT.1.raw.cell1; have g2 := hT.1.raw.cell2; have hA3 := Fr.call HE.out.1 hA2 hT.1 (lf_t hT.2); obtain ⟨v0, v1, v2, v3⟩ := hA3.cell; obtain ⟨x0, x1, x2, x3⟩ := hA3.frz; have HT := Lib.hid hA3; clear hA hA2 hA3 hT hP hW))
  go_wp2
  refine bodyPost_ret (v := Dd.val ⟨0, true, false, false⟩) (results_cell_row rfl _ _ w.heap.size 60 _ (0, 0) _ rfl (set4 HT.out.res rfl _ _ _ _) Try.underlying60 rfl i_did) rfl (HT.out.told HE.out.1 ⟨0, true, false, false⟩)
theorem fl_acq1 {w : World} {L : Lp} {f : FL} (h : LkAt w L f) (k : Nat) (hk : k < f.s.n) (u : Int) (hd : f.dr k = true) (hD : f.ps.D.length < 4611686018427387904) :
    Calls Try.prog 35 #[.pointer (some ⟨L.lb, 0, none⟩), .int .i64 (k : Int), .int .i64 u] w (LkPost w L (f.acq L k u) (f.acqD L k u).val) := by
  have e1 : f.acq L k u = { f with ps := doS f.ps u 1 L.a2 0 0 } := by unfold FL.acq; rw [hd]; rfl
  have e2 : f.acqD L k u = if tellS f.ps u 1 L.a2 = f.num k then ⟨1, false, false, false⟩ else Dd.no := by unfold FL.acqD; rw [hd]; rfl
  rw [e1, e2]
  clear e1 e2
  have hF := Fr.start h
  obtain ⟨Z, hZ⟩ : ∃ Z, Z = w.alloc (.cells #[.int .i64 0, .bool false, .bool false, .bool false] 60) := ⟨_, rfl⟩
  rw [← hZ] at hF
  have c1 := hF.lk.raw.cell1
  have c4 := hF.lk.raw.cell4
  have hkI : (k : Int) < f.s.n := by omega
  have hn64 := h.raw.seat.n2
  have c3 := hF.lk.raw.cell3
  have t0 := hF.lk.raw.tk0 hk
  have t1 := hF.lk.raw.tk1 hk
  rw [hd] at t1
  have cA := pload_any hF.drew.lk.port u L.a2 hD
  have HE := Lib.hid (And.intro h (And.intro hk hF))
  clear h hF
  rw [hZ] at t1 c4
  by_cases hx : tellS f.ps u 1 L.a2 = f.num k
  all_goals
    first | rw [if_pos hx] | rw [if_neg hx]
    have b1 : (tellS f.ps u 1 L.a2 != f.num k) = decide (¬ tellS f.ps u 1 L.a2 = f.num k) := by simp [bne, BEq.beq]
    first | rw [decide_eq_true hx] at b1 | rw [decide_eq_false (not_not_intro hx)] at b1
    go_enter Try.func35, Try.ntmps35
    go_wp2
    rw [← hZ]
    clear hZ t1 c4
    go_region_held3 (fun w' => w'.cell? ⟨L.lb, 1, none⟩ = some (.pointer (some ⟨L.q.p, 0, none⟩)) ∧ w'.cell? ⟨L.lb, 3, none⟩ = some (.int .i64 L.a2) ∧ w'.cell? ⟨L.tb, k * 2, none⟩ = some (.int .u32 (f.num k))) (first | exact ⟨c1, c3, t0⟩ | exact ⟨d1, d3, y0⟩) (first | (go_at_call 55; (with_reducible refine cA.mono ?_); intro e w2 hq; unfold AccPost at hq; obtain ⟨rfl, hP, hW⟩ := hq; have hA := HE.out.2.2.drew.lk.ports hP hW; have d1 := hA.raw.cell1; have d3 := hA.raw.cell3; have y0 := hA.raw.tk0 HE.out.2.1; have hA3 := Fr.call HE.out.1 HE.out.2.2.drew hA (lf_q hW); obtain ⟨v0, v1, v2, v3⟩ := hA3.cell; obtain ⟨x0, x1, x2, x3⟩ := hA3.frz; have HT := Lib.hid hA3; clear hA hA3 hP hW))
    all_goals
      go_wp2
      first
        | refine bodyPost_ret (v := Dd.val ⟨1, false, false, false⟩) (results_cell_row rfl _ _ w.heap.size 60 _ (0, 0) _ rfl (set4 HT.out.res rfl _ _ _ _) Try.underlying60 rfl i_did) rfl (HT.out.told HE.out.1 ⟨1, false, false, false⟩)
        | refine bodyPost_ret (v := Dd.val ⟨0, false, false, false⟩) (results_cell_row rfl _ _ w.heap.size 60 _ (0, 0) _ rfl (set4 HT.out.res rfl _ _ _ _) Try.underlying60 rfl i_did) rfl (HT.out.told HE.out.1 ⟨0, false, false, false⟩)

theorem fl_acq {w : World} {L : Lp} {f : FL} (h : LkAt w L f) (k : Nat) (hk : k < f.s.n) (u : Int) (hD : f.ps.D.length < 4611686018427387904) :
    Calls Try.prog 35 #[.pointer (some ⟨L.lb, 0, none⟩), .int .i64 (k : Int), .int .i64 u] w (LkPost w L (f.acq L k u) (f.acqD L k u).val) := by
  cases hd : f.dr k
  · exact fl_acq0 h k hk u hd hD
  · exact fl_acq1 h k hk u hd hD

/-! ### release -/
theorem fl_rel {w : World} {L : Lp} {f : FL} (h : LkAt w L f) (k : Nat) (hk : k < f.s.n) (u : Int) (hD : f.ps.D.length < 4611686018427387904) :
    Calls Try.prog 36 #[.pointer (some ⟨L.lb, 0, none⟩), .int .i64 (k : Int), .int .i64 u] w (LkPost w L (f.rel L k u) (Dd.val ⟨3, false, false, false⟩)) := by
  unfold FL.rel
  obtain ⟨m, hm⟩ : ∃ m, m = (f.num k + 1) % 4294967296 := ⟨_, rfl⟩
  have ew : IntKind.u32.wrap (f.num k + 1) = m := by rw [hm]; rfl
  have hm1 : 0 ≤ m ∧ m < 4294967296 := by omega
  rw [← hm]
  have hF := Fr.start h
  obtain ⟨Z, hZ⟩ : ∃ Z, Z = w.alloc (.cells #[.int .i64 0, .bool false, .bool false, .bool false] 60) := ⟨_, rfl⟩
  rw [← hZ] at hF
  have c1 := hF.lk.raw.cell1
  have c4 := hF.lk.raw.cell4
  have hkI : (k : Int) < f.s.n := by omega
  have hn64 := h.raw.seat.n2
  have c3 := hF.lk.raw.cell3
  have t0 := hF.lk.raw.tk0 hk
  have cA := pstore_any hF.drew.lk.port u L.a2 m hm1.1 hm1.2 hD
  have HE := Lib.hid (And.intro h (And.intro hk hF))
  clear h hF hm hm1
  rw [hZ] at c4
  go_enter Try.func36, Try.ntmps36
  go_wp2
  rw [← hZ]
  clear hZ c4
  go_region_held3 (fun w' => w'.cell? ⟨L.lb, 1, none⟩ = some (.pointer (some ⟨L.q.p, 0, none⟩)) ∧ w'.cell? ⟨L.lb, 3, none⟩ = some (.int .i64 L.a2) ∧ w'.cell? ⟨L.tb, k * 2, none⟩ = some (.int .u32 (f.num k))) (first | exact ⟨c1, c3, t0⟩ | exact ⟨d1, d3, y0⟩) (first | (go_at_call 56; (with_reducible refine cA.mono ?_); intro e w2 hq; unfold AccPost at hq; obtain ⟨rfl, hP, hW⟩ := hq; have hA := HE.out.2.2.drew.lk.ports hP hW; have d1 := hA.raw.cell1; have d3 := hA.raw.cell3; have y0 := hA.raw.tk0 HE.out.2.1; have y1 := hA.raw.tk1 HE.out.2.1; have y2 := hA.raw.tkz (k * 2); have y3 := hA.raw.tkz (k * 2 + 1); have hA3 := Fr.call HE.out.1 HE.out.2.2.drew hA (lf_q hW); have hT := hA.ticks HE.out.2.1 0 false (by omega); have hA4 := Fr.call HE.out.1 hA3 hT.1 (lf_t hT.2); obtain ⟨v0, v1, v2, v3⟩ := hA4.cell; obtain ⟨x0, x1, x2, x3⟩ := hA4.frz; have HT := Lib.hid hA4; clear hA hA3 hA4 hT hP hW))
  go_wp2
  refine bodyPost_ret (v := Dd.val ⟨3, false, false, false⟩) (results_cell_row rfl _ _ w.heap.size 60 _ (0, 0) _ rfl (set4 HT.out.res rfl _ _ _ _) Try.underlying60 rfl i_did) rfl (HT.out.told HE.out.1 ⟨3, false, false, false⟩)

/-! ### ask -/
theorem fl_ask {w : World} {L : Lp} {f : FL} (h : LkAt w L f) (k : Nat) (hk : k < f.s.n) (u : Int) (hD : f.ps.D.length < 4611686018427387904) :
    Calls Try.prog 37 #[.pointer (some ⟨L.lb, 0, none⟩), .int .i64 (k : Int), .int .i64 u] w (LkPost w L (f.ask L k u) (f.askD L k u).val) := by
  unfold FL.ask FL.askD
  obtain ⟨m, hm⟩ : ∃ m, m = (f.num k + 1) % 4294967296 := ⟨_, rfl⟩
  have ew : IntKind.u32.wrap (f.num k + 1) = m := by rw [hm]; rfl
  rw [← hm]
  have hF := Fr.start h
  obtain ⟨Z, hZ⟩ : ∃ Z, Z = w.alloc (.cells #[.int .i64 0, .bool false, .bool false, .bool false] 60) := ⟨_, rfl⟩
  rw [← hZ] at hF
  have c1 := hF.lk.raw.cell1
  have c4 := hF.lk.raw.cell4
  have hkI : (k : Int) < f.s.n := by omega
  have hn64 := h.raw.seat.n2
  have c2 := hF.lk.raw.cell2
  have t0 := hF.lk.raw.tk0 hk
  have cA := pload_any hF.drew.lk.port u L.a1 hD
  have HE := Lib.hid (And.intro h (And.intro hk hF))
  clear h hF hm
  by_cases hx : tellS f.ps u 1 L.a1 = m
  all_goals
    first | rw [if_pos hx] | rw [if_neg hx]
    have b1 : (tellS f.ps u 1 L.a1 != m) = decide (¬ tellS f.ps u 1 L.a1 = m) := by simp [bne, BEq.beq]
    first | rw [decide_eq_true hx] at b1 | rw [decide_eq_false (not_not_intro hx)] at b1
    go_enter Try.func37, Try.ntmps37
    go_wp2
    rw [← hZ]
    clear hZ
    go_region_held3 (fun w' => w'.cell? ⟨L.lb, 1, none⟩ = some (.pointer (some ⟨L.q.p, 0, none⟩)) ∧ w'.cell? ⟨L.lb, 2, none⟩ = some (.int .i64 L.a1) ∧ w'.cell? ⟨L.lb, 4, none⟩ = some (.slice (some ⟨L.tb, 0, none⟩) f.s.n f.s.n) ∧ w'.cell? ⟨L.tb, k * 2, none⟩ = some (.int .u32 (f.num k))) (first | exact ⟨c1, c2, c4, t0⟩ | exact ⟨d1, d3, d4, y0⟩) (first | (go_at_call 55; (with_reducible refine cA.mono ?_); intro e w2 hq; unfold AccPost at hq; obtain ⟨rfl, hP, hW⟩ := hq; have hA := HE.out.2.2.drew.lk.ports hP hW; have d1 := hA.raw.cell1; have d3 := hA.raw.cell2; have d4 := hA.raw.cell4; have y0 := hA.raw.tk0 HE.out.2.1; have hA3 := Fr.call HE.out.1 HE.out.2.2.drew hA (lf_q hW); obtain ⟨v0, v1, v2, v3⟩ := hA3.cell; obtain ⟨x0, x1, x2, x3⟩ := hA3.frz; have HT := Lib.hid hA3; clear hA hA3 hP hW))
    all_goals
      go_wp2
      first
        | refine bodyPost_ret (v := Dd.val ⟨4, false, false, false⟩) (results_cell_row rfl _ _ w.heap.size 60 _ (0, 0) _ rfl (set4 HT.out.res rfl _ _ _ _) Try.underlying60 rfl i_did) rfl (HT.out.told HE.out.1 ⟨4, false, false, false⟩)
        | refine bodyPost_ret (v := Dd.val ⟨5, false, false, false⟩) (results_cell_row rfl _ _ w.heap.size 60 _ (0, 0) _ rfl (set4 HT.out.res rfl _ _ _ _) Try.underlying60 rfl i_did) rfl (HT.out.told HE.out.1 ⟨5, false, false, false⟩)
end Go.Proofs.Ytojjmpoielhhhaa
