/- The contracts of a CLH lock's steps: what each tells, and what it leaves. -/
import Derived.Test.YteokghghpmppnaaGreatDoorClh
import Derived.WalkLawsBesides
import Derived.Outline
import Derived.Deep.QuietTactic
import Derived.Deep.RegionHeld3
import Derived.BigQuiet
import Derived.BigFrame
import Derived.Handy
import Derived.OpenShut
import Derived.Lib.Walk
import Derived.WalkKit
import Derived.Lib.Hide
namespace Go.Proofs.YteokghghpmppnaaGreatDoor.Kc
open Go.RowKit Go.BigFrame
set_option linter.unusedVariables false
set_option maxRecDepth 100000

theorem fl_use {w : World} {L : Lp} {pv : Value} {s : SS} {pc node ahd : Nat → Int} (h : FlRaw w L pv s pc node ahd) (a : Addr) :
    Calls Tryz.prog 123 #[.pointer (some ⟨L.lb, 0, none⟩), .pointer (some a)] w fun e w' => e = .returned (.tuple #[]) ∧ w' = w.setCell ⟨L.lb, 1, none⟩ (.pointer (some a)) := by
  have c1 := h.cell1
  have f1 := h.frozen 1
  clear h
  go_enter Tryz.func123, Tryz.ntmps123
  go_wp2
  go_end0
  exact ⟨rfl, rfl⟩

/-! ### sums that stay in range -/
theorem LkAt.bd {w : World} {L : Lp} {f : FL} (h : LkAt w L f) (k : Nat) : (0 ≤ f.node k ∧ f.node k < 4294967296) ∧ (0 ≤ f.ahd k ∧ f.ahd k < 4294967296) ∧ 0 ≤ L.a2 ∧ L.a2 ≤ 2000000 := by
  have := h.raw.rng k
  have := h.raw.adr
  omega
theorem wrap_flag {a x : Int} (h0 : 0 ≤ a) (h1 : a ≤ 2000000) (h2 : 0 ≤ x) (h3 : x < 4294967296) : IntKind.i64.wrap (a + x) = a + x ∧ IntKind.i64.wrap x = x := by rw [IntKind.wrap_i64, IntKind.wrap_i64]; omega

/-! ### flag, Node -/
theorem fl_flag {w : World} {L : Lp} {f : FL} (h : LkAt w L f) (x : Int) (hx : 0 ≤ x ∧ x < 4294967296) :
    Calls Tryz.prog 127 #[.pointer (some ⟨L.lb, 0, none⟩), .int .u32 x] w fun e w' => e = .returned (.int .i64 (L.a2 + x)) ∧ w = w' := by
  have c3 := h.raw.cell3
  obtain ⟨_, _, a0, a1⟩ := h.bd 0
  obtain ⟨w1, w2⟩ := wrap_flag a0 a1 hx.1 hx.2
  clear h
  go_enter Tryz.func127, Tryz.ntmps127
  go_wp2
  go_ret
  exact ⟨rfl, rfl⟩
/-- what Node answers -/
def FL.nodeI (f : FL) (t : Int) : Int := if 0 ≤ t ∧ t < f.s.n then f.node t.toNat else -1
/-! ### acquire -/
set_option maxHeartbeats 1000000 in
theorem fl_acq0 {w : World} {L : Lp} {f : FL} (h : LkAt w L f) (k : Nat) (hk : k < f.s.n) (u : Int) (hd : f.pc k = 0) (hD : f.ps.D.length < 4611686018427387904) :
    Calls Tryz.prog 124 #[.pointer (some ⟨L.lb, 0, none⟩), .int .i64 (k : Int), .int .i64 u] w (LkPost w L (f.acq L k u) (f.acqD L k u).val) := by
  have e1 : f.acq L k u = { f with pc := upd f.pc k 1, ps := doS f.ps u 2 (L.a2 + f.node k) 0 1 } := by unfold FL.acq; rw [if_pos hd]
  have e2 : f.acqD L k u = Dd.no := by unfold FL.acqD; rw [if_pos hd]
  rw [e1, e2]
  clear e1 e2
  obtain ⟨bn, ba, a0, a1⟩ := h.bd k
  have hF := Fr.start h
  obtain ⟨Z, hZ⟩ : ∃ Z, Z = w.alloc (.cells #[.int .i64 0, .bool false, .bool false, .bool false] 164) := ⟨_, rfl⟩
  rw [← hZ] at hF
  have c1 := hF.lk.raw.cell1
  have c4 := hF.lk.raw.cell4
  have t0 := hF.lk.raw.tk0 hk
  have t1 := hF.lk.raw.tk1 hk
  rw [hd] at t0
  have cG := fl_flag hF.drew.lk (f.node k) bn
  have cA := pstore_any hF.drew.lk.port u (L.a2 + f.node k) 1 (by omega) (by omega) hD
  have HE := Lib.hid (And.intro h (And.intro hk hF))
  have hkI : (k : Int) < f.s.n := by omega
  have hn64 := h.raw.seat.n2
  clear h hF bn ba a0 a1
  rw [hZ] at t0 c4
  go_enter Tryz.func124, Tryz.ntmps124
  go_wp2
  rw [← hZ]
  clear hZ t0 c4
  go_region_held3 (fun w' => w'.cell? ⟨L.lb, 1, none⟩ = some (.pointer (some ⟨L.q.p, 0, none⟩)) ∧ w'.cell? ⟨L.tb, k * 3 + 1, none⟩ = some (.int .u32 (f.node k))) (first | exact ⟨c1, t1⟩ | exact ⟨d1, y1⟩) (first | (go_at_call 127; (with_reducible refine cG.mono ?_); rintro e w' ⟨rfl, rfl⟩) | (go_at_call 73; (with_reducible refine cA.mono ?_); intro e w2 hq; unfold AccPost at hq; obtain ⟨rfl, hP, hW⟩ := hq; have hA := HE.out.2.2.drew.lk.ports hP hW; have d1 := hA.raw.cell1; have d2 := hA.raw.cell2; have d4 := hA.raw.cell4; have y0 := hA.raw.tk0 HE.out.2.1; have y1 := hA.raw.tk1 HE.out.2.1; have y2 := hA.raw.tk2 HE.out.2.1; have z0 := hA.raw.tkz (k * 3); have z1 := hA.raw.tkz (k * 3 + 1); have z2 := hA.raw.tkz (k * 3 + 2); have hA3 := Fr.call HE.out.1 HE.out.2.2.drew hA (lf_q hW); have hT := hA.tick0 k 1 (.inr (.inl rfl)); have hA4 := Fr.call HE.out.1 hA3 hT.1 (lf_t hT.2); obtain ⟨v0, v1, v2, v3⟩ := hA4.cell; obtain ⟨x0, x1, x2, x3⟩ := hA4.frz; have HT := Lib.hid hA4; clear hA hA3 hA4 hP hW))
  go_wp2
  refine bodyPost_ret (v := Dd.val ⟨0, false, false, false⟩) (results_cell_row rfl _ _ w.heap.size 164 _ (0, 0) _ rfl (set4 HT.out.res rfl _ _ _ _) Tryz.underlying164 rfl i_did) rfl (HT.out.told HE.out.1 ⟨0, false, false, false⟩)
set_option maxHeartbeats 1000000 in
theorem fl_acq1 {w : World} {L : Lp} {f : FL} (h : LkAt w L f) (k : Nat) (hk : k < f.s.n) (u : Int) (hd : f.pc k = 1) (hD : f.ps.D.length < 4611686018427387904) :
    Calls Tryz.prog 124 #[.pointer (some ⟨L.lb, 0, none⟩), .int .i64 (k : Int), .int .i64 u] w (LkPost w L (f.acq L k u) (f.acqD L k u).val) := by
  have e1 : f.acq L k u = { f with pc := upd f.pc k 2, ahd := upd f.ahd k (tellS f.ps u 3 L.a1), ps := doS f.ps u 3 L.a1 0 (f.node k) } := by unfold FL.acq; rw [if_neg (by omega), if_pos hd]
  have e2 : f.acqD L k u = ⟨0, true, false, false⟩ := by unfold FL.acqD; rw [if_neg (by omega), if_pos hd]
  rw [e1, e2]
  clear e1 e2
  obtain ⟨bn, ba, a0, a1⟩ := h.bd k
  have hT0 := h.tell u 3 L.a1
  have hF := Fr.start h
  obtain ⟨Z, hZ⟩ : ∃ Z, Z = w.alloc (.cells #[.int .i64 0, .bool false, .bool false, .bool false] 164) := ⟨_, rfl⟩
  rw [← hZ] at hF
  have c1 := hF.lk.raw.cell1
  have c2 := hF.lk.raw.cell2
  have c4 := hF.lk.raw.cell4
  have t0 := hF.lk.raw.tk0 hk
  have t1 := hF.lk.raw.tk1 hk
  rw [hd] at t0
  have cA := pswap_any hF.drew.lk.port u L.a1 (f.node k) bn.1 bn.2 hD
  have HT0 := Lib.hid hT0
  have HE := Lib.hid (And.intro h (And.intro hk hF))
  have hkI : (k : Int) < f.s.n := by omega
  have hn64 := h.raw.seat.n2
  clear h hF bn ba a0 a1 hT0
  rw [hZ] at t0 c4
  go_enter Tryz.func124, Tryz.ntmps124
  go_wp2
  rw [← hZ]
  clear hZ t0 c4
  go_region_held3 (fun w' => w'.cell? ⟨L.lb, 1, none⟩ = some (.pointer (some ⟨L.q.p, 0, none⟩)) ∧ w'.cell? ⟨L.lb, 2, none⟩ = some (.int .i64 L.a1) ∧ w'.cell? ⟨L.tb, k * 3 + 1, none⟩ = some (.int .u32 (f.node k))) (first | exact ⟨c1, c2, t1⟩ | exact ⟨d1, d2, y1⟩ | exact ⟨q1, q2, r1⟩) (first | (go_at_call 128; (with_reducible refine cA.mono ?_); intro e w2 hq; unfold AccPost at hq; obtain ⟨rfl, hP, hW⟩ := hq; have hA := HE.out.2.2.drew.lk.ports hP hW; have d1 := hA.raw.cell1; have d2 := hA.raw.cell2; have d4 := hA.raw.cell4; have y0 := hA.raw.tk0 HE.out.2.1; have y1 := hA.raw.tk1 HE.out.2.1; have y2 := hA.raw.tk2 HE.out.2.1; have z0 := hA.raw.tkz (k * 3); have z1 := hA.raw.tkz (k * 3 + 1); have z2 := hA.raw.tkz (k * 3 + 2); have hA3 := Fr.call HE.out.1 HE.out.2.2.drew hA (lf_q hW); have hB := hA.turns (hA.raw.tset2 k (tellS f.ps u 3 L.a1) HT0.out); have q1 := hB.1.raw.cell1; have q2 := hB.1.raw.cell2; have r1 := hB.1.raw.tk1 HE.out.2.1; have r0 := hB.1.raw.tk0 HE.out.2.1; have s0 := hB.1.raw.tkz (k * 3); have hT := hA.tick20 k 2 (tellS f.ps u 3 L.a1) (.inr (.inr rfl)) HT0.out; have hA4 := Fr.call HE.out.1 hA3 hT.1 (lf_t hT.2); clear hB; obtain ⟨v0, v1, v2, v3⟩ := hA4.cell; obtain ⟨x0, x1, x2, x3⟩ := hA4.frz; have HT := Lib.hid hA4; clear hA hA3 hA4 hP hW))
  go_wp2
  refine bodyPost_ret (v := Dd.val ⟨0, true, false, false⟩) (results_cell_row rfl _ _ w.heap.size 164 _ (0, 0) _ rfl (set4 HT.out.res rfl _ _ _ _) Tryz.underlying164 rfl i_did) rfl (HT.out.told HE.out.1 ⟨0, true, false, false⟩)
set_option maxHeartbeats 1000000 in
theorem fl_acq2 {w : World} {L : Lp} {f : FL} (h : LkAt w L f) (k : Nat) (hk : k < f.s.n) (u : Int) (hd : f.pc k = 2) (hD : f.ps.D.length < 4611686018427387904) :
    Calls Tryz.prog 124 #[.pointer (some ⟨L.lb, 0, none⟩), .int .i64 (k : Int), .int .i64 u] w (LkPost w L (f.acq L k u) (f.acqD L k u).val) := by
  have e1 : f.acq L k u = { f with ps := doS f.ps u 1 (L.a2 + f.ahd k) 0 0 } := by unfold FL.acq; rw [if_neg (by omega), if_neg (by omega)]
  have e2 : f.acqD L k u = if tellS f.ps u 1 (L.a2 + f.ahd k) = 0 then ⟨1, false, false, false⟩ else Dd.no := by unfold FL.acqD; rw [if_neg (by omega), if_neg (by omega)]
  rw [e1, e2]
  clear e1 e2
  obtain ⟨bn, ba, a0, a1⟩ := h.bd k
  have hF := Fr.start h
  obtain ⟨Z, hZ⟩ : ∃ Z, Z = w.alloc (.cells #[.int .i64 0, .bool false, .bool false, .bool false] 164) := ⟨_, rfl⟩
  rw [← hZ] at hF
  have c1 := hF.lk.raw.cell1
  have c4 := hF.lk.raw.cell4
  have t0 := hF.lk.raw.tk0 hk
  have t2 := hF.lk.raw.tk2 hk
  rw [hd] at t0
  have cG := fl_flag hF.drew.lk (f.ahd k) ba
  have cA := pload_any hF.drew.lk.port u (L.a2 + f.ahd k) hD
  obtain ⟨v, hv⟩ : ∃ v, v = tellS f.ps u 1 (L.a2 + f.ahd k) := ⟨_, rfl⟩
  rw [← hv] at cA ⊢
  have HE := Lib.hid (And.intro h (And.intro hk hF))
  have hkI : (k : Int) < f.s.n := by omega
  have hn64 := h.raw.seat.n2
  clear h hF bn ba a0 a1 hv
  rw [hZ] at t0 c4
  by_cases hx : v = 0
  · rw [if_pos hx]
    subst hx
    go_enter Tryz.func124, Tryz.ntmps124
    go_wp2
    rw [← hZ]
    clear hZ t0 c4
    go_region_held3 (fun w' => w'.cell? ⟨L.lb, 1, none⟩ = some (.pointer (some ⟨L.q.p, 0, none⟩)) ∧ w'.cell? ⟨L.tb, k * 3 + 2, none⟩ = some (.int .u32 (f.ahd k))) (first | exact ⟨c1, t2⟩ | exact ⟨d1, y2⟩) (first | (go_at_call 127; (with_reducible refine cG.mono ?_); rintro e w' ⟨rfl, rfl⟩) | (go_at_call 60; (with_reducible refine cA.mono ?_); intro e w2 hq; unfold AccPost at hq; obtain ⟨rfl, hP, hW⟩ := hq; have hA := HE.out.2.2.drew.lk.ports hP hW; have d1 := hA.raw.cell1; have d2 := hA.raw.cell2; have d4 := hA.raw.cell4; have y0 := hA.raw.tk0 HE.out.2.1; have y1 := hA.raw.tk1 HE.out.2.1; have y2 := hA.raw.tk2 HE.out.2.1; have z0 := hA.raw.tkz (k * 3); have z1 := hA.raw.tkz (k * 3 + 1); have z2 := hA.raw.tkz (k * 3 + 2); have hA3 := Fr.call HE.out.1 HE.out.2.2.drew hA (lf_q hW); obtain ⟨v0, v1, v2, v3⟩ := hA3.cell; obtain ⟨x0, x1, x2, x3⟩ := hA3.frz; have HT := Lib.hid hA3; clear hA hA3 hP hW))
    go_wp2
    refine bodyPost_ret (v := Dd.val ⟨1, false, false, false⟩) (results_cell_row rfl _ _ w.heap.size 164 _ (0, 0) _ rfl (set4 HT.out.res rfl _ _ _ _) Tryz.underlying164 rfl i_did) rfl (HT.out.told HE.out.1 ⟨1, false, false, false⟩)
  · rw [if_neg hx]
    have b1 : (v == 0) = false := beq_false_of_ne hx
    clear hx
    go_enter Tryz.func124, Tryz.ntmps124
    go_wp2
    rw [← hZ]
    clear hZ t0 c4
    go_region_held3 (fun w' => w'.cell? ⟨L.lb, 1, none⟩ = some (.pointer (some ⟨L.q.p, 0, none⟩)) ∧ w'.cell? ⟨L.tb, k * 3 + 2, none⟩ = some (.int .u32 (f.ahd k))) (first | exact ⟨c1, t2⟩ | exact ⟨d1, y2⟩) (first | (go_at_call 127; (with_reducible refine cG.mono ?_); rintro e w' ⟨rfl, rfl⟩) | (go_at_call 60; (with_reducible refine cA.mono ?_); intro e w2 hq; unfold AccPost at hq; obtain ⟨rfl, hP, hW⟩ := hq; have hA := HE.out.2.2.drew.lk.ports hP hW; have d1 := hA.raw.cell1; have d2 := hA.raw.cell2; have d4 := hA.raw.cell4; have y0 := hA.raw.tk0 HE.out.2.1; have y1 := hA.raw.tk1 HE.out.2.1; have y2 := hA.raw.tk2 HE.out.2.1; have z0 := hA.raw.tkz (k * 3); have z1 := hA.raw.tkz (k * 3 + 1); have z2 := hA.raw.tkz (k * 3 + 2); have hA3 := Fr.call HE.out.1 HE.out.2.2.drew hA (lf_q hW); obtain ⟨v0, v1, v2, v3⟩ := hA3.cell; obtain ⟨x0, x1, x2, x3⟩ := hA3.frz; have HT := Lib.hid hA3; clear hA hA3 hP hW))
    go_wp2
    refine bodyPost_ret (v := Dd.val ⟨0, false, false, false⟩) (results_cell_row rfl _ _ w.heap.size 164 _ (0, 0) _ rfl (set4 HT.out.res rfl _ _ _ _) Tryz.underlying164 rfl i_did) rfl (HT.out.told HE.out.1 ⟨0, false, false, false⟩)
theorem fl_acq {w : World} {L : Lp} {f : FL} (h : LkAt w L f) (k : Nat) (hk : k < f.s.n) (u : Int) (hD : f.ps.D.length < 4611686018427387904) :
    Calls Tryz.prog 124 #[.pointer (some ⟨L.lb, 0, none⟩), .int .i64 (k : Int), .int .i64 u] w (LkPost w L (f.acq L k u) (f.acqD L k u).val) := by
  rcases (h.raw.rng k).1 with hd | hd | hd
  · exact fl_acq0 h k hk u hd hD
  · exact fl_acq1 h k hk u hd hD
  · exact fl_acq2 h k hk u hd hD

/-! ### release, ask -/
set_option maxHeartbeats 1000000 in
theorem fl_rel {w : World} {L : Lp} {f : FL} (h : LkAt w L f) (k : Nat) (hk : k < f.s.n) (u : Int) (hD : f.ps.D.length < 4611686018427387904) :
    Calls Tryz.prog 125 #[.pointer (some ⟨L.lb, 0, none⟩), .int .i64 (k : Int), .int .i64 u] w (LkPost w L (f.rel L k u) (Dd.val ⟨3, false, false, false⟩)) := by
  unfold FL.rel
  obtain ⟨bn, ba, a0, a1⟩ := h.bd k
  have hF := Fr.start h
  obtain ⟨Z, hZ⟩ : ∃ Z, Z = w.alloc (.cells #[.int .i64 0, .bool false, .bool false, .bool false] 164) := ⟨_, rfl⟩
  rw [← hZ] at hF
  have c1 := hF.lk.raw.cell1
  have c4 := hF.lk.raw.cell4
  have t1 := hF.lk.raw.tk1 hk
  have cG := fl_flag hF.drew.lk (f.node k) bn
  have cA := pstore_any hF.drew.lk.port u (L.a2 + f.node k) 0 (by omega) (by omega) hD
  have HB := Lib.hid ba
  have HE := Lib.hid (And.intro h (And.intro hk hF))
  have hkI : (k : Int) < f.s.n := by omega
  have hn64 := h.raw.seat.n2
  clear h hF bn ba a0 a1
  rw [hZ] at c4
  go_enter Tryz.func125, Tryz.ntmps125
  go_wp2
  rw [← hZ]
  clear hZ c4
  go_region_held3 (fun w' => w'.cell? ⟨L.lb, 1, none⟩ = some (.pointer (some ⟨L.q.p, 0, none⟩)) ∧ w'.cell? ⟨L.tb, k * 3 + 1, none⟩ = some (.int .u32 (f.node k))) (first | exact ⟨c1, t1⟩ | exact ⟨d1, y1⟩) (first | (go_at_call 127; (with_reducible refine cG.mono ?_); rintro e w' ⟨rfl, rfl⟩) | (go_at_call 73; (with_reducible refine cA.mono ?_); intro e w2 hq; unfold AccPost at hq; obtain ⟨rfl, hP, hW⟩ := hq; have hA := HE.out.2.2.drew.lk.ports hP hW; have d1 := hA.raw.cell1; have d2 := hA.raw.cell2; have d4 := hA.raw.cell4; have y0 := hA.raw.tk0 HE.out.2.1; have y1 := hA.raw.tk1 HE.out.2.1; have y2 := hA.raw.tk2 HE.out.2.1; have z0 := hA.raw.tkz (k * 3); have z1 := hA.raw.tkz (k * 3 + 1); have z2 := hA.raw.tkz (k * 3 + 2); have hA3 := Fr.call HE.out.1 HE.out.2.2.drew hA (lf_q hW); have hT := hA.tick3 k 0 (f.ahd k) 0 (.inl rfl) HB.out (by decide); have hA4 := Fr.call HE.out.1 hA3 hT.1 (lf_t hT.2); obtain ⟨v0, v1, v2, v3⟩ := hA4.cell; obtain ⟨x0, x1, x2, x3⟩ := hA4.frz; have HT := Lib.hid hA4; clear hA hA3 hA4 hP hW))
  go_wp2
  refine bodyPost_ret (v := Dd.val ⟨3, false, false, false⟩) (results_cell_row rfl _ _ w.heap.size 164 _ (0, 0) _ rfl (set4 HT.out.res rfl _ _ _ _) Tryz.underlying164 rfl i_did) rfl (HT.out.told HE.out.1 ⟨3, false, false, false⟩)
set_option maxHeartbeats 1000000 in
theorem fl_ask {w : World} {L : Lp} {f : FL} (h : LkAt w L f) (k : Nat) (hk : k < f.s.n) (u : Int) (hD : f.ps.D.length < 4611686018427387904) :
    Calls Tryz.prog 126 #[.pointer (some ⟨L.lb, 0, none⟩), .int .i64 (k : Int), .int .i64 u] w (LkPost w L (f.ask L k u) (f.askD L k u).val) := by
  unfold FL.ask FL.askD
  obtain ⟨bn, ba, a0, a1⟩ := h.bd k
  have hF := Fr.start h
  obtain ⟨Z, hZ⟩ : ∃ Z, Z = w.alloc (.cells #[.int .i64 0, .bool false, .bool false, .bool false] 164) := ⟨_, rfl⟩
  rw [← hZ] at hF
  have c1 := hF.lk.raw.cell1
  have c2 := hF.lk.raw.cell2
  have c4 := hF.lk.raw.cell4
  have t1 := hF.lk.raw.tk1 hk
  have cA := pload_any hF.drew.lk.port u L.a1 hD
  obtain ⟨v, hv⟩ : ∃ v, v = tellS f.ps u 1 L.a1 := ⟨_, rfl⟩
  rw [← hv] at cA ⊢
  have HE := Lib.hid (And.intro h (And.intro hk hF))
  have hkI : (k : Int) < f.s.n := by omega
  have hn64 := h.raw.seat.n2
  clear h hF bn ba a0 a1 hv
  by_cases hx : v = f.node k
  · rw [if_pos hx]
    have b1 : (v != f.node k) = false := by rw [hx]; simp
    clear hx
    go_enter Tryz.func126, Tryz.ntmps126
    go_wp2
    rw [← hZ]
    clear hZ
    go_region_held3 (fun w' => w'.cell? ⟨L.lb, 1, none⟩ = some (.pointer (some ⟨L.q.p, 0, none⟩)) ∧ w'.cell? ⟨L.lb, 2, none⟩ = some (.int .i64 L.a1) ∧ w'.cell? ⟨L.lb, 4, none⟩ = some (.slice (some ⟨L.tb, 0, none⟩) f.s.n f.s.n) ∧ w'.cell? ⟨L.tb, k * 3 + 1, none⟩ = some (.int .u32 (f.node k))) (first | exact ⟨c1, c2, c4, t1⟩ | exact ⟨d1, d2, d4, y1⟩) (first | (go_at_call 60; (with_reducible refine cA.mono ?_); intro e w2 hq; unfold AccPost at hq; obtain ⟨rfl, hP, hW⟩ := hq; have hA := HE.out.2.2.drew.lk.ports hP hW; have d1 := hA.raw.cell1; have d2 := hA.raw.cell2; have d4 := hA.raw.cell4; have y0 := hA.raw.tk0 HE.out.2.1; have y1 := hA.raw.tk1 HE.out.2.1; have y2 := hA.raw.tk2 HE.out.2.1; have z0 := hA.raw.tkz (k * 3); have z1 := hA.raw.tkz (k * 3 + 1); have z2 := hA.raw.tkz (k * 3 + 2); have hA3 := Fr.call HE.out.1 HE.out.2.2.drew hA (lf_q hW); obtain ⟨v0, v1, v2, v3⟩ := hA3.cell; obtain ⟨x0, x1, x2, x3⟩ := hA3.frz; have HT := Lib.hid hA3; clear hA hA3 hP hW))
    go_wp2
    refine bodyPost_ret (v := Dd.val ⟨4, false, false, false⟩) (results_cell_row rfl _ _ w.heap.size 164 _ (0, 0) _ rfl (set4 HT.out.res rfl _ _ _ _) Tryz.underlying164 rfl i_did) rfl (HT.out.told HE.out.1 ⟨4, false, false, false⟩)
  · rw [if_neg hx]
    have b1 : (v != f.node k) = true := by simpa [bne, BEq.beq] using hx
    clear hx
    go_enter Tryz.func126, Tryz.ntmps126
    go_wp2
    rw [← hZ]
    clear hZ
    go_region_held3 (fun w' => w'.cell? ⟨L.lb, 1, none⟩ = some (.pointer (some ⟨L.q.p, 0, none⟩)) ∧ w'.cell? ⟨L.lb, 2, none⟩ = some (.int .i64 L.a1) ∧ w'.cell? ⟨L.lb, 4, none⟩ = some (.slice (some ⟨L.tb, 0, none⟩) f.s.n f.s.n) ∧ w'.cell? ⟨L.tb, k * 3 + 1, none⟩ = some (.int .u32 (f.node k))) (first | exact ⟨c1, c2, c4, t1⟩ | exact ⟨d1, d2, d4, y1⟩) (first | (go_at_call 60; (with_reducible refine cA.mono ?_); intro e w2 hq; unfold AccPost at hq; obtain ⟨rfl, hP, hW⟩ := hq; have hA := HE.out.2.2.drew.lk.ports hP hW; have d1 := hA.raw.cell1; have d2 := hA.raw.cell2; have d4 := hA.raw.cell4; have y0 := hA.raw.tk0 HE.out.2.1; have y1 := hA.raw.tk1 HE.out.2.1; have y2 := hA.raw.tk2 HE.out.2.1; have z0 := hA.raw.tkz (k * 3); have z1 := hA.raw.tkz (k * 3 + 1); have z2 := hA.raw.tkz (k * 3 + 2); have hA3 := Fr.call HE.out.1 HE.out.2.2.drew hA (lf_q hW); obtain ⟨v0, v1, v2, v3⟩ := hA3.cell; obtain ⟨x0, x1, x2, x3⟩ := hA3.frz; have HT := Lib.hid hA3; clear hA hA3 hP hW))
    go_wp2
    refine bodyPost_ret (v := Dd.val ⟨5, false, false, false⟩) (results_cell_row rfl _ _ w.heap.size 164 _ (0, 0) _ rfl (set4 HT.out.res rfl _ _ _ _) Tryz.underlying164 rfl i_did) rfl (HT.out.told HE.out.1 ⟨5, false, false, false⟩)
end Go.Proofs.YteokghghpmppnaaGreatDoor.Kc
