/- The contracts of a lock with slots's steps: what each tells, and what it leaves. -/
import Derived.Test.YtiddapikahchkaaSlots
import Derived.WalkLawsBesides
import Derived.Outline
import Derived.Deep.QuietTactic
import Derived.Deep.RegionHeld3
import Derived.BigQuiet
import Derived.BigFrame
import Derived.Handy
import Derived.OpenShut
import Derived.Lib.Walk
import Derived.WalkKit
import Derived.Lib.Hide
namespace Go.Proofs.Ytiddapikahchkaa
open Go.RowKit Go.BigFrame
set_option linter.unusedVariables false
set_option maxRecDepth 100000

theorem fl_use {w : World} {L : Lp} {pv : Value} {s : SS} {sz : Nat} {pc own : Nat → Int} (h : FlRaw w L pv s sz pc own) (a : Addr) :
    Calls Try.prog 20 #[.pointer (some ⟨L.lb, 0, none⟩), .pointer (some a)] w fun e w' => e = .returned (.tuple #[]) ∧ w' = w.setCell ⟨L.lb, 1, none⟩ (.pointer (some a)) := by
  have c1 := h.cell1
  have f1 := h.frozen 1
  clear h
  go_enter Try.func20, Try.ntmps20
  go_wp2
  go_end0
  exact ⟨rfl, rfl⟩

/-! ### sums that stay in range -/
theorem LkAt.bd {w : World} {L : Lp} {f : FL} (h : LkAt w L f) (k : Nat) : 0 ≤ f.own k ∧ f.own k < f.sz ∧ 1 ≤ f.sz ∧ f.sz ≤ 64 ∧ 0 ≤ L.a2 ∧ L.a2 ≤ 2000000 := by
  have := h.raw.rng k
  have := h.raw.adr
  have := h.raw.size_cases
  omega
theorem wrap_first {a o : Int} (h0 : 0 ≤ a) (h1 : a ≤ 2000000) (h2 : 0 ≤ o) (h3 : o < 64) : IntKind.i64.wrap (a + o) = a + o := by rw [IntKind.wrap_i64]; omega
theorem mod_rng {x : Int} {n : Nat} (h1 : 1 ≤ n) : 0 ≤ x % (n : Int) ∧ x % (n : Int) < n := ⟨Int.emod_nonneg x (by omega), Int.emod_lt_of_pos x (by omega)⟩

/-! ### acquire -/
set_option maxHeartbeats 1000000 in
theorem fl_acq0 {w : World} {L : Lp} {f : FL} (h : LkAt w L f) (k : Nat) (hk : k < f.s.n) (u : Int) (hd : f.pc k = 0) (hD : f.ps.D.length < 4611686018427387904) :
    Calls Try.prog 46 #[.pointer (some ⟨L.lb, 0, none⟩), .int .i64 (k : Int), .int .i64 u] w (LkPost w L (f.acq L k u) (f.acqD L k u).val) := by
  have e1 : f.acq L k u = { f with pc := upd f.pc k 1, own := upd f.own k (tellS f.ps u 5 L.a1 % f.sz), ps := doS f.ps u 5 L.a1 0 1 } := by unfold FL.acq; rw [if_pos hd]
  have e2 : f.acqD L k u = ⟨0, true, false, false⟩ := by unfold FL.acqD; rw [if_pos hd]
  rw [e1, e2]
  clear e1 e2
  obtain ⟨_, _, s1, s2, _⟩ := h.bd k
  have hT0 := h.tell u 5 L.a1
  have cS := fun W => slot_yes (tellS f.ps u 5 L.a1) f.sz hT0.1 hT0.2 h.raw.siz W
  have hm := mod_rng (x := tellS f.ps u 5 L.a1) s1
  have hF := Fr.start h
  obtain ⟨Z, hZ⟩ : ∃ Z, Z = w.alloc (.cells #[.int .i64 0, .bool false, .bool false, .bool false] 63) := ⟨_, rfl⟩
  rw [← hZ] at hF
  have c1 := hF.lk.raw.cell1
  have c5 := hF.lk.raw.cell5
  have hkI : (k : Int) < f.s.n := by omega
  have hn64 := h.raw.seat.n2
  have c2 := hF.lk.raw.cell2
  have t0 := hF.lk.raw.tk0 hk
  rw [hd] at t0
  have cA := padd_any hF.drew.lk.port u L.a1 1 (by omega) (by omega) hD
  have HE := Lib.hid (And.intro h (And.intro hk (And.intro hF hm)))
  clear h hF hm hT0
  rw [hZ] at t0 c5
  go_enter Try.func46, Try.ntmps46
  go_wp2
  rw [← hZ]
  clear hZ t0 c5
  go_region_held3 (fun w' => w'.cell? ⟨L.lb, 1, none⟩ = some (.pointer (some ⟨L.q.p, 0, none⟩)) ∧ w'.cell? ⟨L.lb, 2, none⟩ = some (.int .i64 L.a1)) (first | exact ⟨c1, c2⟩ | exact ⟨d1, d2⟩) (first | (go_at_call 68; (with_reducible refine cA.mono ?_); intro e w2 hq; unfold AccPost at hq; obtain ⟨rfl, hP, hW⟩ := hq; have hA := HE.out.2.2.1.drew.lk.ports hP hW; have d1 := hA.raw.cell1; have d2 := hA.raw.cell2; have d4 := hA.raw.cell4; have y0 := hA.raw.tk0 HE.out.2.1; have y1 := hA.raw.tk1 HE.out.2.1; have y2 := hA.raw.tkz (k * 2); have y3 := hA.raw.tkz (k * 2 + 1); have hT := hA.ticks HE.out.2.1 1 (tellS f.ps u 5 L.a1 % f.sz) (.inr (.inl rfl)) HE.out.2.2.2; have hA2 := Fr.call HE.out.1 HE.out.2.2.1.drew hA (lf_q hW); have hA3 := Fr.call HE.out.1 hA2 hT.1 (lf_t hT.2); obtain ⟨v0, v1, v2, v3⟩ := hA3.cell; obtain ⟨x0, x1, x2, x3⟩ := hA3.frz; have HT := Lib.hid hA3; clear hA hA2 hA3 hT hP hW))
  go_wp2_with (first | (go_at_call 54; (with_reducible refine (cS _).mono ?_); rintro e w3 ⟨rfl, rfl⟩))
  refine bodyPost_ret (v := Dd.val ⟨0, true, false, false⟩) (results_cell_row rfl _ _ w.heap.size 63 _ (0, 0) _ rfl (set4 HT.out.res rfl _ _ _ _) Try.underlying63 rfl i_did) rfl (HT.out.told HE.out.1 ⟨0, true, false, false⟩)
set_option maxHeartbeats 1000000 in
theorem fl_acq1 {w : World} {L : Lp} {f : FL} (h : LkAt w L f) (k : Nat) (hk : k < f.s.n) (u : Int) (hd : f.pc k = 1) (hD : f.ps.D.length < 4611686018427387904) :
    Calls Try.prog 46 #[.pointer (some ⟨L.lb, 0, none⟩), .int .i64 (k : Int), .int .i64 u] w (LkPost w L (f.acq L k u) (f.acqD L k u).val) := by
  have e1 : f.acq L k u = if tellS f.ps u 1 (L.a2 + f.own k) = 0 then { f with ps := doS f.ps u 1 (L.a2 + f.own k) 0 0 } else { f with pc := upd f.pc k 2, ps := doS f.ps u 1 (L.a2 + f.own k) 0 0 } := by unfold FL.acq; rw [if_neg (by omega), if_pos hd]
  have e2 : f.acqD L k u = Dd.no := by unfold FL.acqD; rw [if_neg (by omega), if_pos hd]
  rw [e1, e2]
  clear e1 e2
  obtain ⟨o0, o1, s1, s2, a0, a9⟩ := h.bd k
  have hwa := wrap_first a0 a9 o0 (show f.own k < 64 by omega)
  have hF := Fr.start h
  obtain ⟨Z, hZ⟩ : ∃ Z, Z = w.alloc (.cells #[.int .i64 0, .bool false, .bool false, .bool false] 63) := ⟨_, rfl⟩
  rw [← hZ] at hF
  have c1 := hF.lk.raw.cell1
  have c5 := hF.lk.raw.cell5
  have hkI : (k : Int) < f.s.n := by omega
  have hn64 := h.raw.seat.n2
  have c3 := hF.lk.raw.cell3
  have t0 := hF.lk.raw.tk0 hk
  have t1 := hF.lk.raw.tk1 hk
  rw [hd] at t0
  have cA := pload_any hF.drew.lk.port u (L.a2 + f.own k) hD
  have HE := Lib.hid (And.intro h (And.intro hk hF))
  clear h hF o0 o1 s1 s2 a0 a9
  rw [hZ] at t0 c5
  obtain ⟨v, hv⟩ : ∃ v, v = tellS f.ps u 1 (L.a2 + f.own k) := ⟨_, rfl⟩
  obtain ⟨g, hg⟩ : ∃ g, g = doS f.ps u 1 (L.a2 + f.own k) 0 0 := ⟨_, rfl⟩
  rw [← hv, ← hg] at cA ⊢
  clear hv hg
  by_cases hx : v = 0
  · rw [if_pos hx]
    have b1 : (v != 0) = decide (¬ v = 0) := by simp [bne, BEq.beq]
    rw [decide_eq_false (not_not_intro hx)] at b1
    clear hx
    go_enter Try.func46, Try.ntmps46
    go_wp2
    rw [← hZ]
    clear hZ t0 c5
    go_region_held3 (fun w' => w'.cell? ⟨L.lb, 1, none⟩ = some (.pointer (some ⟨L.q.p, 0, none⟩)) ∧ w'.cell? ⟨L.lb, 3, none⟩ = some (.int .i64 L.a2) ∧ w'.cell? ⟨L.tb, k * 2 + 1, none⟩ = some (.int .i64 (f.own k))) (first | exact ⟨c1, c3, t1⟩ | exact ⟨d1, d3, y1⟩) (first | (go_at_call 69; (with_reducible refine cA.mono ?_); intro e w2 hq; unfold AccPost at hq; obtain ⟨rfl, hP, hW⟩ := hq; have hA := HE.out.2.2.drew.lk.ports hP hW; have d1 := hA.raw.cell1; have d3 := hA.raw.cell3; have y0 := hA.raw.tk0 HE.out.2.1; have y1 := hA.raw.tk1 HE.out.2.1; have y2 := hA.raw.tkz (k * 2); have hA3 := Fr.call HE.out.1 HE.out.2.2.drew hA (lf_q hW); obtain ⟨v0, v1, v2, v3⟩ := hA3.cell; obtain ⟨x0, x1, x2, x3⟩ := hA3.frz; have HT := Lib.hid hA3; clear hA hA3 hP hW))
    go_wp2
    refine bodyPost_ret (v := Dd.val ⟨0, false, false, false⟩) (results_cell_row rfl _ _ w.heap.size 63 _ (0, 0) _ rfl (set4 HT.out.res rfl _ _ _ _) Try.underlying63 rfl i_did) rfl (HT.out.told HE.out.1 ⟨0, false, false, false⟩)
  · rw [if_neg hx]
    have b1 : (v != 0) = decide (¬ v = 0) := by simp [bne, BEq.beq]
    rw [decide_eq_true hx] at b1
    clear hx
    go_enter Try.func46, Try.ntmps46
    go_wp2
    rw [← hZ]
    clear hZ t0 c5
    go_region_held3 (fun w' => w'.cell? ⟨L.lb, 1, none⟩ = some (.pointer (some ⟨L.q.p, 0, none⟩)) ∧ w'.cell? ⟨L.lb, 3, none⟩ = some (.int .i64 L.a2) ∧ w'.cell? ⟨L.tb, k * 2 + 1, none⟩ = some (.int .i64 (f.own k))) (first | exact ⟨c1, c3, t1⟩ | exact ⟨d1, d3, y1⟩) (first | (go_at_call 69; (with_reducible refine cA.mono ?_); intro e w2 hq; unfold AccPost at hq; obtain ⟨rfl, hP, hW⟩ := hq; have hA := HE.out.2.2.drew.lk.ports hP hW; have d1 := hA.raw.cell1; have d3 := hA.raw.cell3; have y0 := hA.raw.tk0 HE.out.2.1; have y1 := hA.raw.tk1 HE.out.2.1; have y2 := hA.raw.tkz (k * 2); have hA3 := Fr.call HE.out.1 HE.out.2.2.drew hA (lf_q hW); have hT := hA.tick0 HE.out.2.1 2 (.inr (.inr rfl)); have hA4 := Fr.call HE.out.1 hA3 hT.1 (lf_t hT.2); obtain ⟨v4, v5, v6, v7⟩ := hA4.cell; obtain ⟨x4, x5, x6, x7⟩ := hA4.frz; have HT := Lib.hid hA4; clear hA hA3 hA4 hT hP hW))
    go_wp2
    refine bodyPost_ret (v := Dd.val ⟨0, false, false, false⟩) (results_cell_row rfl _ _ w.heap.size 63 _ (0, 0) _ rfl (set4 HT.out.res rfl _ _ _ _) Try.underlying63 rfl i_did) rfl (HT.out.told HE.out.1 ⟨0, false, false, false⟩)
set_option maxHeartbeats 1000000 in
theorem fl_acq2 {w : World} {L : Lp} {f : FL} (h : LkAt w L f) (k : Nat) (hk : k < f.s.n) (u : Int) (hd : f.pc k = 2) (hD : f.ps.D.length < 4611686018427387904) :
    Calls Try.prog 46 #[.pointer (some ⟨L.lb, 0, none⟩), .int .i64 (k : Int), .int .i64 u] w (LkPost w L (f.acq L k u) (f.acqD L k u).val) := by
  have e1 : f.acq L k u = { f with ps := doS f.ps u 2 (L.a2 + f.own k) 0 0 } := by unfold FL.acq; rw [if_neg (by omega), if_neg (by omega)]
  have e2 : f.acqD L k u = ⟨1, false, false, false⟩ := by unfold FL.acqD; rw [if_neg (by omega), if_neg (by omega)]
  rw [e1, e2]
  clear e1 e2
  obtain ⟨o0, o1, s1, s2, a0, a9⟩ := h.bd k
  have hwa := wrap_first a0 a9 o0 (show f.own k < 64 by omega)
  have hF := Fr.start h
  obtain ⟨Z, hZ⟩ : ∃ Z, Z = w.alloc (.cells #[.int .i64 0, .bool false, .bool false, .bool false] 63) := ⟨_, rfl⟩
  rw [← hZ] at hF
  have c1 := hF.lk.raw.cell1
  have c5 := hF.lk.raw.cell5
  have hkI : (k : Int) < f.s.n := by omega
  have hn64 := h.raw.seat.n2
  have c3 := hF.lk.raw.cell3
  have t0 := hF.lk.raw.tk0 hk
  have t1 := hF.lk.raw.tk1 hk
  rw [hd] at t0
  have cA := pstore_any hF.drew.lk.port u (L.a2 + f.own k) 0 (by omega) (by omega) hD
  have HE := Lib.hid (And.intro h (And.intro hk hF))
  clear h hF o0 o1 s1 s2 a0 a9
  rw [hZ] at t0 c5
  go_enter Try.func46, Try.ntmps46
  go_wp2
  rw [← hZ]
  clear hZ t0 c5
  go_region_held3 (fun w' => w'.cell? ⟨L.lb, 1, none⟩ = some (.pointer (some ⟨L.q.p, 0, none⟩)) ∧ w'.cell? ⟨L.lb, 3, none⟩ = some (.int .i64 L.a2) ∧ w'.cell? ⟨L.tb, k * 2 + 1, none⟩ = some (.int .i64 (f.own k))) (first | exact ⟨c1, c3, t1⟩ | exact ⟨d1, d3, y1⟩) (first | (go_at_call 70; (with_reducible refine cA.mono ?_); intro e w2 hq; unfold AccPost at hq; obtain ⟨rfl, hP, hW⟩ := hq; have hA := HE.out.2.2.drew.lk.ports hP hW; have d1 := hA.raw.cell1; have d3 := hA.raw.cell3; have y1 := hA.raw.tk1 HE.out.2.1; have hA3 := Fr.call HE.out.1 HE.out.2.2.drew hA (lf_q hW); obtain ⟨v0, v1, v2, v3⟩ := hA3.cell; obtain ⟨x0, x1, x2, x3⟩ := hA3.frz; have HT := Lib.hid hA3; clear hA hA3 hP hW))
  go_wp2
  refine bodyPost_ret (v := Dd.val ⟨1, false, false, false⟩) (results_cell_row rfl _ _ w.heap.size 63 _ (0, 0) _ rfl (set4 HT.out.res rfl _ _ _ _) Try.underlying63 rfl i_did) rfl (HT.out.told HE.out.1 ⟨1, false, false, false⟩)

theorem fl_acq {w : World} {L : Lp} {f : FL} (h : LkAt w L f) (k : Nat) (hk : k < f.s.n) (u : Int) (hD : f.ps.D.length < 4611686018427387904) :
    Calls Try.prog 46 #[.pointer (some ⟨L.lb, 0, none⟩), .int .i64 (k : Int), .int .i64 u] w (LkPost w L (f.acq L k u) (f.acqD L k u).val) := by
  rcases (h.raw.rng k).1 with hd | hd | hd
  · exact fl_acq0 h k hk u hd hD
  · exact fl_acq1 h k hk u hd hD
  · exact fl_acq2 h k hk u hd hD

/-! ### release -/
set_option maxHeartbeats 1000000 in
theorem fl_rel {w : World} {L : Lp} {f : FL} (h : LkAt w L f) (k : Nat) (hk : k < f.s.n) (u : Int) (hD : f.ps.D.length < 4611686018427387904) :
    Calls Try.prog 47 #[.pointer (some ⟨L.lb, 0, none⟩), .int .i64 (k : Int), .int .i64 u] w (LkPost w L (f.rel L k u) (Dd.val ⟨3, false, false, false⟩)) := by
  unfold FL.rel
  obtain ⟨o0, o1, s1, s2, a0, a9⟩ := h.bd k
  have o64 : f.own k < 64 := by omega
  have hm := mod_rng (x := f.own k + 1) s1
  have cS := fun W => slot_quiet (f.own k + 1) f.sz (by omega) (by omega) h.raw.siz W
  obtain ⟨m, hm0⟩ : ∃ m, m = (f.own k + 1) % (f.sz : Int) := ⟨_, rfl⟩
  rw [← hm0] at cS hm ⊢
  have hwa := wrap_first a0 a9 hm.1 (show m < 64 by omega)
  have ew1 : IntKind.u32.wrap (f.own k) = f.own k := by show f.own k % 4294967296 = f.own k; omega
  have ew2 : IntKind.u32.wrap (f.own k + 1) = f.own k + 1 := by show (f.own k + 1) % 4294967296 = f.own k + 1; omega
  have hF := Fr.start h
  obtain ⟨Z, hZ⟩ : ∃ Z, Z = w.alloc (.cells #[.int .i64 0, .bool false, .bool false, .bool false] 63) := ⟨_, rfl⟩
  rw [← hZ] at hF
  have c1 := hF.lk.raw.cell1
  have c5 := hF.lk.raw.cell5
  have hkI : (k : Int) < f.s.n := by omega
  have hn64 := h.raw.seat.n2
  have c3 := hF.lk.raw.cell3
  have c4 := hF.lk.raw.cell4
  have t1 := hF.lk.raw.tk1 hk
  have HE := Lib.hid (And.intro h (And.intro hk (And.intro hF (show (0 : Int) ≤ 0 ∧ (0 : Int) < f.sz by omega))))
  clear h hF hm0 hm o64 o0 o1 s1 s2 a0 a9
  rw [hZ] at c5
  go_enter Try.func47, Try.ntmps47
  go_wp2
  rw [← hZ]
  clear hZ c5
  go_big_quiet ((go_at_call 54; (with_reducible exact Calls.quiet_of_same (cS _))))
  generalize hY : Z.drewN _ = Y
  have hFY : Fr w w.heap.size Y L f := by rw [← hY]; exact HE.out.2.2.1.after ((Wrote.refl _ _).drewN _)
  have e1 := hFY.lk.raw.cell1
  have e3 := hFY.lk.raw.cell3
  have cA := pstore_any hFY.drew.lk.port u (L.a2 + m) 1 (by omega) (by omega) hD
  have HY := Lib.hid hFY
  clear hFY hY c1 c3 c4 t1 cS
  go_wp2
  go_region_held3 (fun w' => w'.cell? ⟨L.lb, 1, none⟩ = some (.pointer (some ⟨L.q.p, 0, none⟩)) ∧ w'.cell? ⟨L.lb, 3, none⟩ = some (.int .i64 L.a2)) (first | exact ⟨e1, e3⟩ | exact ⟨d1, d3⟩) (first | (go_at_call 70; (with_reducible refine cA.mono ?_); intro e w2 hq; unfold AccPost at hq; obtain ⟨rfl, hP, hW⟩ := hq; have hA := HY.out.drew.lk.ports hP hW; have d1 := hA.raw.cell1; have d3 := hA.raw.cell3; have y0 := hA.raw.tk0 HE.out.2.1; have y1 := hA.raw.tk1 HE.out.2.1; have y2 := hA.raw.tkz (k * 2); have y3 := hA.raw.tkz (k * 2 + 1); have hA3 := Fr.call HE.out.1 HY.out.drew hA (lf_q hW); have hT := hA.ticks HE.out.2.1 0 0 (.inl rfl) HE.out.2.2.2; have hA4 := Fr.call HE.out.1 hA3 hT.1 (lf_t hT.2); obtain ⟨v0, v1, v2, v3⟩ := hA4.cell; obtain ⟨x0, x1, x2, x3⟩ := hA4.frz; have HT := Lib.hid hA4; clear hA hA3 hA4 hT hP hW))
  go_wp2
  refine bodyPost_ret (v := Dd.val ⟨3, false, false, false⟩) (results_cell_row rfl _ _ w.heap.size 63 _ (0, 0) _ rfl (set4 HT.out.res rfl _ _ _ _) Try.underlying63 rfl i_did) rfl (HT.out.told HE.out.1 ⟨3, false, false, false⟩)
end Go.Proofs.Ytiddapikahchkaa
