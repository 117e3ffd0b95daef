/- The contracts of an MCS lock's steps: what each tells, and what it leaves. -/
import Derived.Test.YtpaihjlohcakjaaMcs
import Derived.WalkLawsBesides
import Derived.Outline
import Derived.Deep.QuietTactic
import Derived.Deep.RegionHeld3
import Derived.BigQuiet
import Derived.BigFrame
import Derived.Handy
import Derived.OpenShut
import Derived.Lib.Walk
import Derived.WalkKit
import Derived.Lib.Hide
namespace Go.Proofs.Ytpaihjlohcakjaa
open Go.RowKit Go.BigFrame
set_option linter.unusedVariables false
set_option maxRecDepth 100000

theorem fl_use {w : World} {L : Lp} {pv : Value} {s : SS} {pc oth : Nat → Int} (h : FlRaw w L pv s pc oth) (a : Addr) :
    Calls Try.prog 23 #[.pointer (some ⟨L.lb, 0, none⟩), .pointer (some a)] w fun e w' => e = .returned (.tuple #[]) ∧ w' = w.setCell ⟨L.lb, 1, none⟩ (.pointer (some a)) := by
  have c1 := h.cell1
  have f1 := h.frozen 1
  clear h
  go_enter Try.func23, Try.ntmps23
  go_wp2
  go_end0
  exact ⟨rfl, rfl⟩

/-! ### numbers, addresses -/
theorem LkAt.bd {w : World} {L : Lp} {f : FL} (h : LkAt w L f) (k : Nat) : (0 ≤ f.oth k ∧ f.oth k < 4294967296) ∧ 0 ≤ L.a1 ∧ L.a1 ≤ 2000000 ∧ L.a2 = L.a1 + 1 := ⟨(h.raw.rng k).2, h.raw.adr⟩
theorem LkAt.ogf {w : World} {L : Lp} {f : FL} (h : LkAt w L f) (k : Nat) : 0 ≤ ogf f.pc f.oth k ∧ ogf f.pc f.oth k < 4294967296 := by
  unfold Proofs.Ytpaihjlohcakjaa.ogf
  split
  · decide
  · exact (h.raw.rng k).2
theorem fl_number (w : World) (k : Nat) (hk : k < 64) :
    Calls Try.prog 59 #[.int .i64 (k : Int)] w fun e w' => e = .returned (.int .u32 ((k : Int) + 1)) ∧ w = w' := by
  have w1 : IntKind.u32.wrap (k : Int) = k := by rw [IntKind.wrap_u32]; omega
  have w2 : IntKind.u32.wrap ((k : Int) + 1) = (k : Int) + 1 := by rw [IntKind.wrap_u32]; omega
  clear hk
  go_enter Try.func59, Try.ntmps59
  go_wp2
  go_ret
  exact ⟨rfl, rfl⟩
theorem wraps {a x : Int} (h0 : 0 ≤ a) (h1 : a ≤ 2000000) (h2 : 0 ≤ x) (h3 : x < 4294967296) : IntKind.i64.wrap x = x ∧ IntKind.i64.wrap (2 * x) = 2 * x ∧ IntKind.i64.wrap (a + 2 * x) = a + 2 * x ∧ IntKind.i64.wrap (a + 2 * x - 1) = a + 2 * x - 1 := by
  rw [IntKind.wrap_i64, IntKind.wrap_i64, IntKind.wrap_i64, IntKind.wrap_i64]; omega
theorem fl_next {w : World} {L : Lp} {f : FL} (h : LkAt w L f) (x y : Int) (hx : 0 ≤ x ∧ x < 4294967296) (hy : y = x - 1) :
    Calls Try.prog 61 #[.pointer (some ⟨L.lb, 0, none⟩), .int .u32 x] w fun e w' => e = .returned (.int .i64 (L.nx y)) ∧ w = w' := by
  have c2 := h.raw.cell2
  obtain ⟨_, a0, a1, a2⟩ := h.bd 0
  obtain ⟨w1, w2, w3, w4⟩ := wraps a0 a1 hx.1 hx.2
  have e : L.nx y = L.a1 + 2 * x - 1 := by unfold Lp.nx; omega
  rw [e]
  clear h e hy
  go_enter Try.func61, Try.ntmps61
  go_wp2
  go_ret
  exact ⟨rfl, rfl⟩
theorem fl_locked {w : World} {L : Lp} {f : FL} (h : LkAt w L f) (x y : Int) (hx : 0 ≤ x ∧ x < 4294967296) (hy : y = x - 1) :
    Calls Try.prog 64 #[.pointer (some ⟨L.lb, 0, none⟩), .int .u32 x] w fun e w' => e = .returned (.int .i64 (L.lk y)) ∧ w = w' := by
  have c2 := h.raw.cell2
  obtain ⟨_, a0, a1, a2⟩ := h.bd 0
  obtain ⟨w1, w2, w3, w4⟩ := wraps a0 a1 hx.1 hx.2
  have e : L.lk y = L.a1 + 2 * x := by unfold Lp.lk; omega
  rw [e]
  clear h e hy w4
  go_enter Try.func64, Try.ntmps64
  go_wp2
  go_ret
  exact ⟨rfl, rfl⟩

/-! ### a call's end, what behind a swap, what behind a load of its next -/
set_option maxHeartbeats 1000000 in
theorem fl_ends {w : World} {L : Lp} {f : FL} (h : LkAt w L f) (k : Nat) (hk : k < f.s.n) (ev : Int) :
    Calls Try.prog 66 #[.pointer (some ⟨L.tb, k * 2, none⟩), .int .i64 ev] w (LkPost w L { f with pc := upd f.pc k 0 } (Dd.val ⟨ev, false, false, false⟩)) := by
  have hF := Fr.start h
  have t0 := hF.lk.raw.tk0 hk
  have t1 := hF.lk.raw.tk1 hk
  have z0 := hF.lk.raw.tkz (k * 2)
  have z1 := hF.lk.raw.tkz (k * 2 + 1)
  have hT := hF.lk.tick0 k
  have hA := Fr.call h hF hT.1 (lf_t hT.2)
  obtain ⟨v0, v1, v2, v3⟩ := hA.cell
  obtain ⟨x0, x1, x2, x3⟩ := hA.frz
  have HE := Lib.hid (And.intro h hA)
  clear h hF hT hA
  go_enter Try.func66, Try.ntmps66
  go_wp2
  refine bodyPost_ret (v := Dd.val ⟨ev, false, false, false⟩) (results_cell_row rfl _ _ w.heap.size 61 _ (0, 0) _ rfl (set4 HE.out.2.res rfl _ _ _ _) Try.underlying61 rfl i_did) rfl (HE.out.2.told HE.out.1 ⟨ev, false, false, false⟩)
set_option maxHeartbeats 1000000 in
theorem fl_ent0 {w : World} {L : Lp} {f : FL} (h : LkAt w L f) (k : Nat) (hk : k < f.s.n) (hs : f.s.st k = 1) (a : Int) (ha : 0 ≤ a ∧ a < 4294967296) (hz : a = 0) :
    Calls Try.prog 62 #[.pointer (some ⟨L.tb, k * 2, none⟩), .int .u32 a] w (LkPost w L { f with pc := upd f.pc k 0, oth := upd f.oth k a } (Dd.val ⟨1, true, false, false⟩)) := by
  have hF := Fr.start h
  have t0 := hF.lk.raw.tk0 hk
  have t1 := hF.lk.raw.tk1 hk
  have z0 := hF.lk.raw.tkz (k * 2)
  have z1 := hF.lk.raw.tkz (k * 2 + 1)
  have hT := hF.lk.turns (hF.lk.raw.set2 k 0 a 0 (by omega) ha rfl fun q => absurd hs q)
  have hA := Fr.call h hF hT.1 (lf_t hT.2)
  obtain ⟨v0, v1, v2, v3⟩ := hA.cell
  obtain ⟨x0, x1, x2, x3⟩ := hA.frz
  have HE := Lib.hid (And.intro h hA)
  clear h hF hT hA hs
  have b1 : (a == 0) = true := by rw [hz]; rfl
  clear hz
  go_enter Try.func62, Try.ntmps62
  go_wp2
  refine bodyPost_ret (v := Dd.val ⟨1, true, false, false⟩) (results_cell_row rfl _ _ w.heap.size 61 _ (0, 0) _ rfl (set4 HE.out.2.res rfl _ _ _ _) Try.underlying61 rfl i_did) rfl (HE.out.2.told HE.out.1 ⟨1, true, false, false⟩)
set_option maxHeartbeats 1000000 in
theorem fl_ent1 {w : World} {L : Lp} {f : FL} (h : LkAt w L f) (k : Nat) (hk : k < f.s.n) (hs : f.s.st k = 1) (a : Int) (ha : 0 ≤ a ∧ a < 4294967296) (hz : a ≠ 0) :
    Calls Try.prog 62 #[.pointer (some ⟨L.tb, k * 2, none⟩), .int .u32 a] w (LkPost w L { f with pc := upd f.pc k 2, oth := upd f.oth k a } (Dd.val ⟨0, true, false, false⟩)) := by
  have hF := Fr.start h
  have t0 := hF.lk.raw.tk0 hk
  have t1 := hF.lk.raw.tk1 hk
  have z0 := hF.lk.raw.tkz (k * 2)
  have z1 := hF.lk.raw.tkz (k * 2 + 1)
  have hT := hF.lk.turns (hF.lk.raw.set2 k 2 a a (by omega) ha rfl fun q => absurd hs q)
  have hA := Fr.call h hF hT.1 (lf_t hT.2)
  obtain ⟨v0, v1, v2, v3⟩ := hA.cell
  obtain ⟨x0, x1, x2, x3⟩ := hA.frz
  have HE := Lib.hid (And.intro h hA)
  clear h hF hT hA hs
  have b1 : (a == 0) = false := beq_false_of_ne hz
  clear hz
  go_enter Try.func62, Try.ntmps62
  go_wp2
  refine bodyPost_ret (v := Dd.val ⟨0, true, false, false⟩) (results_cell_row rfl _ _ w.heap.size 61 _ (0, 0) _ rfl (set4 HE.out.2.res rfl _ _ _ _) Try.underlying61 rfl i_did) rfl (HE.out.2.told HE.out.1 ⟨0, true, false, false⟩)
theorem fl_enters {w : World} {L : Lp} {f : FL} (h : LkAt w L f) (k : Nat) (hk : k < f.s.n) (hs : f.s.st k = 1) (a : Int) (ha : 0 ≤ a ∧ a < 4294967296) :
    Calls Try.prog 62 #[.pointer (some ⟨L.tb, k * 2, none⟩), .int .u32 a] w (LkPost w L { f with pc := upd f.pc k (if a = 0 then 0 else 2), oth := upd f.oth k a } (Dd.val ⟨if a = 0 then 1 else 0, true, false, false⟩)) := by
  by_cases hz : a = 0
  · rw [if_pos hz, if_pos hz]; exact fl_ent0 h k hk hs a ha hz
  · rw [if_neg hz, if_neg hz]; exact fl_ent1 h k hk hs a ha hz
/-- behind finds -/
def FiPost (w : World) (L : Lp) (f : FL) (e : Ending) (w' : World) : Prop := e = .returned (.tuple #[]) ∧ LkAt w' L f ∧ Wrote (LF L) w w'
set_option maxHeartbeats 1000000 in
theorem fl_fin0 {w : World} {L : Lp} {f : FL} (h : LkAt w L f) (k : Nat) (hk : k < f.s.n) (a : Int) (ha : 0 ≤ a ∧ a < 4294967296) (hz : a ≠ 0) :
    Calls Try.prog 67 #[.pointer (some ⟨L.tb, k * 2, none⟩), .int .u32 a] w (FiPost w L { f with pc := upd f.pc k 3, oth := upd f.oth k a }) := by
  have t0 := h.raw.tk0 hk
  have t1 := h.raw.tk1 hk
  have z0 := h.raw.tkz (k * 2)
  have z1 := h.raw.tkz (k * 2 + 1)
  have hT := h.turns (h.raw.set2 k 3 a a (by omega) ha rfl fun q => ⟨by omega, by omega⟩)
  have HE := Lib.hid hT
  have b1 : (a != 0) = true := by simpa [bne, BEq.beq] using hz
  clear h hT hz
  go_enter Try.func67, Try.ntmps67
  go_wp2
  go_end0
  exact ⟨rfl, HE.out.1, lf_t HE.out.2⟩
set_option maxHeartbeats 1000000 in
theorem fl_fin1 {w : World} {L : Lp} {f : FL} (h : LkAt w L f) (k : Nat) (hk : k < f.s.n) (hp : f.pc k = 0) :
    Calls Try.prog 67 #[.pointer (some ⟨L.tb, k * 2, none⟩), .int .u32 0] w (FiPost w L { f with pc := upd f.pc k 1, oth := upd f.oth k 0 }) := by
  have t0 := h.raw.tk0 hk
  rw [hp] at t0
  have z0 := h.raw.tkz (k * 2)
  have hT := h.turns (h.raw.set1 k 1 0 (by omega) (by omega) (by unfold ogf; rw [hp]; rfl) fun q => ⟨by omega, fun _ => rfl⟩)
  have HE := Lib.hid hT
  clear h hT hp
  go_enter Try.func67, Try.ntmps67
  go_wp2
  go_end0
  exact ⟨rfl, HE.out.1, lf_t HE.out.2⟩
set_option maxHeartbeats 1000000 in
theorem fl_fin2 {w : World} {L : Lp} {f : FL} (h : LkAt w L f) (k : Nat) (hk : k < f.s.n) (hp : f.pc k = 2) (hs : f.s.st k ≠ 1) :
    Calls Try.prog 67 #[.pointer (some ⟨L.tb, k * 2, none⟩), .int .u32 0] w (FiPost w L { f with pc := upd f.pc k 2, oth := upd f.oth k 0 }) := by
  have t0 := h.raw.tk0 hk
  rw [hp] at t0
  have e : ({ f with pc := upd f.pc k 2, oth := upd f.oth k 0 } : FL) = f := by
    rw [upd_id f.pc k hp.symm, upd_id f.oth k ((h.raw.inv k hs).2 (.inr hp)).symm]
  rw [e]
  have HE := Lib.hid h
  clear h hp hs e
  go_enter Try.func67, Try.ntmps67
  go_wp2
  go_end0
  exact ⟨rfl, HE.out, Wrote.refl _ _⟩
theorem fl_finds {w : World} {L : Lp} {f : FL} (h : LkAt w L f) (k : Nat) (hk : k < f.s.n) (hs : f.s.st k ≠ 1) (x : Int) (hp : (f.pc k = 0 ∧ x = 1) ∨ (f.pc k = 2 ∧ x = 2)) (a : Int) (ha : 0 ≤ a ∧ a < 4294967296) :
    Calls Try.prog 67 #[.pointer (some ⟨L.tb, k * 2, none⟩), .int .u32 a] w (FiPost w L { f with pc := upd f.pc k (if a = 0 then x else 3), oth := upd f.oth k a }) := by
  by_cases hz : a = 0
  · subst hz
    rw [if_pos rfl]
    rcases hp with ⟨hp, rfl⟩ | ⟨hp, rfl⟩
    · exact fl_fin1 h k hk hp
    · exact fl_fin2 h k hk hp hs
  · rw [if_neg hz]; exact fl_fin0 h k hk a ha hz

/-! ### acquire -/
set_option maxHeartbeats 1000000 in
theorem fl_acq0 {w : World} {L : Lp} {f : FL} (h : LkAt w L f) (k : Nat) (hk : k < f.s.n) (u : Int) (hs : f.s.st k = 1) (hd : f.pc k = 0) (hD : f.ps.D.length < 4611686018427387904) :
    Calls Try.prog 38 #[.pointer (some ⟨L.lb, 0, none⟩), .int .i64 (k : Int), .int .i64 u] w (LkPost w L (f.acq L k u) (f.acqD L k u).val) := by
  have e1 : f.acq L k u = { f with pc := upd f.pc k 1, ps := doS f.ps u 2 (L.nx k) 0 (0) } := by unfold FL.acq; rw [if_pos hd]
  have e2 : f.acqD L k u = Dd.no := by unfold FL.acqD; rw [if_pos hd]
  rw [e1, e2]
  clear e1 e2
  obtain ⟨bo, a0, a1, a2⟩ := h.bd k
  have hF := Fr.start h
  obtain ⟨Z, hZ⟩ : ∃ Z, Z = w.alloc (.cells #[.int .i64 0, .bool false, .bool false, .bool false] 61) := ⟨_, rfl⟩
  rw [← hZ] at hF
  have hn64 := h.raw.seat.n2
  have kn : 0 ≤ (k : Int) + 1 ∧ (k : Int) + 1 < 4294967296 := by omega
  have c1 := hF.drew.lk.raw.cell1
  have c2 := hF.drew.lk.raw.cell2
  have c3 := hF.lk.raw.cell3
  have t0 := hF.drew.lk.raw.tk0 hk
  have t1 := hF.drew.lk.raw.tk1 hk
  rw [hd] at t0
  have hog : ogf f.pc f.oth k = 0 := by unfold ogf; rw [hd]; rfl
  have cN := fl_number Z.drew k (by omega)
  have cG := fl_next hF.drew.drew.lk ((k : Int) + 1) k kn (by omega)
  have cA := pstore_any hF.drew.drew.lk.port u (L.nx k) 0 (by omega) (by omega) hD
  have HE := Lib.hid (And.intro h (And.intro hk (And.intro (And.intro hs hd) hF)))
  have HO := Lib.hid hog
  have HI := Lib.hid (And.intro h.raw.inv (And.intro bo kn))
  have hkI : (k : Int) < f.s.n := by omega
  clear h hF bo a0 a1 a2 hog hs hd kn
  go_enter Try.func38, Try.ntmps38
  go_wp2
  rw [← hZ]
  clear hZ
  go_region_held3 (fun w' => w'.cell? ⟨L.lb, 3, none⟩ = some (.slice (some ⟨L.tb, 0, none⟩) f.s.n f.s.n)) (exact c3) (first | (go_at_call 59; (with_reducible refine cN.mono ?_); rintro e w' ⟨rfl, rfl⟩))
  go_wp2
  go_region_held3 (fun w' => w'.cell? ⟨L.lb, 1, none⟩ = some (.pointer (some ⟨L.q.p, 0, none⟩))) (first | exact c1 | exact d1) (first | (go_at_call 61; (with_reducible refine cG.mono ?_); rintro e w' ⟨rfl, rfl⟩) | (go_at_call 60; (with_reducible refine cA.mono ?_); intro e w2 hq; unfold AccPost at hq; obtain ⟨rfl, hP, hW⟩ := hq; have hA := HE.out.2.2.2.drew.drew.lk.ports hP hW; have hA3 := Fr.call HE.out.1 HE.out.2.2.2.drew.drew hA (lf_q hW); have d1 := hA.raw.cell1; have d2 := hA.raw.cell2; have y0 := hA.raw.tk0 HE.out.2.1; have y1 := hA.raw.tk1 HE.out.2.1; rw [HE.out.2.2.1.2] at y0; have z0 := hA.raw.tkz (k * 2); have hT := hA.tick1 k 1 (by omega) (HO.out.trans rfl) fun q => absurd HE.out.2.2.1.1 q; have hA4 := Fr.call HE.out.1 hA3 hT.1 (lf_t hT.2); obtain ⟨v0, v1, v2, v3⟩ := hA4.cell; obtain ⟨x0, x1, x2, x3⟩ := hA4.frz; have HT := Lib.hid hA4; clear hA4 hT; clear hA hA3 hP hW))
  go_wp2
  refine bodyPost_ret (v := Dd.val ⟨0, false, false, false⟩) (results_cell_row rfl _ _ w.heap.size 61 _ (0, 0) _ rfl (set4 HT.out.res rfl _ _ _ _) Try.underlying61 rfl i_did) rfl (HT.out.told HE.out.1 ⟨0, false, false, false⟩)
set_option maxHeartbeats 1000000 in
theorem fl_acq2 {w : World} {L : Lp} {f : FL} (h : LkAt w L f) (k : Nat) (hk : k < f.s.n) (u : Int) (hs : f.s.st k = 1) (hd : f.pc k = 2) (hD : f.ps.D.length < 4611686018427387904) :
    Calls Try.prog 38 #[.pointer (some ⟨L.lb, 0, none⟩), .int .i64 (k : Int), .int .i64 u] w (LkPost w L (f.acq L k u) (f.acqD L k u).val) := by
  have e1 : f.acq L k u = { f with pc := upd f.pc k 3, ps := doS f.ps u 2 (L.lk k) 0 (1) } := by unfold FL.acq; rw [if_neg (by omega), if_neg (by omega), if_pos hd]
  have e2 : f.acqD L k u = Dd.no := by unfold FL.acqD; rw [if_neg (by omega), if_neg (by omega), if_pos hd]
  rw [e1, e2]
  clear e1 e2
  obtain ⟨bo, a0, a1, a2⟩ := h.bd k
  have hF := Fr.start h
  obtain ⟨Z, hZ⟩ : ∃ Z, Z = w.alloc (.cells #[.int .i64 0, .bool false, .bool false, .bool false] 61) := ⟨_, rfl⟩
  rw [← hZ] at hF
  have hn64 := h.raw.seat.n2
  have kn : 0 ≤ (k : Int) + 1 ∧ (k : Int) + 1 < 4294967296 := by omega
  have c1 := hF.drew.lk.raw.cell1
  have c2 := hF.drew.lk.raw.cell2
  have c3 := hF.lk.raw.cell3
  have t0 := hF.drew.lk.raw.tk0 hk
  have t1 := hF.drew.lk.raw.tk1 hk
  rw [hd] at t0
  have hog : ogf f.pc f.oth k = f.oth k := by unfold ogf; rw [hd]; rfl
  have cN := fl_number Z.drew k (by omega)
  have cG := fl_locked hF.drew.drew.lk ((k : Int) + 1) k kn (by omega)
  have cA := pstore_any hF.drew.drew.lk.port u (L.lk k) 1 (by omega) (by omega) hD
  have HE := Lib.hid (And.intro h (And.intro hk (And.intro (And.intro hs hd) hF)))
  have HO := Lib.hid hog
  have HI := Lib.hid (And.intro h.raw.inv (And.intro bo kn))
  have hkI : (k : Int) < f.s.n := by omega
  clear h hF bo a0 a1 a2 hog hs hd kn
  go_enter Try.func38, Try.ntmps38
  go_wp2
  rw [← hZ]
  clear hZ
  go_region_held3 (fun w' => w'.cell? ⟨L.lb, 3, none⟩ = some (.slice (some ⟨L.tb, 0, none⟩) f.s.n f.s.n)) (exact c3) (first | (go_at_call 59; (with_reducible refine cN.mono ?_); rintro e w' ⟨rfl, rfl⟩))
  go_wp2
  go_region_held3 (fun w' => w'.cell? ⟨L.lb, 1, none⟩ = some (.pointer (some ⟨L.q.p, 0, none⟩))) (first | exact c1 | exact d1) (first | (go_at_call 64; (with_reducible refine cG.mono ?_); rintro e w' ⟨rfl, rfl⟩) | (go_at_call 60; (with_reducible refine cA.mono ?_); intro e w2 hq; unfold AccPost at hq; obtain ⟨rfl, hP, hW⟩ := hq; have hA := HE.out.2.2.2.drew.drew.lk.ports hP hW; have hA3 := Fr.call HE.out.1 HE.out.2.2.2.drew.drew hA (lf_q hW); have d1 := hA.raw.cell1; have d2 := hA.raw.cell2; have y0 := hA.raw.tk0 HE.out.2.1; have y1 := hA.raw.tk1 HE.out.2.1; rw [HE.out.2.2.1.2] at y0; have z0 := hA.raw.tkz (k * 2); have hT := hA.tick1 k 3 (by omega) (HO.out.trans rfl) fun q => absurd HE.out.2.2.1.1 q; have hA4 := Fr.call HE.out.1 hA3 hT.1 (lf_t hT.2); obtain ⟨v0, v1, v2, v3⟩ := hA4.cell; obtain ⟨x0, x1, x2, x3⟩ := hA4.frz; have HT := Lib.hid hA4; clear hA4 hT; clear hA hA3 hP hW))
  go_wp2
  refine bodyPost_ret (v := Dd.val ⟨0, false, false, false⟩) (results_cell_row rfl _ _ w.heap.size 61 _ (0, 0) _ rfl (set4 HT.out.res rfl _ _ _ _) Try.underlying61 rfl i_did) rfl (HT.out.told HE.out.1 ⟨0, false, false, false⟩)
set_option maxHeartbeats 1000000 in
theorem fl_acq3 {w : World} {L : Lp} {f : FL} (h : LkAt w L f) (k : Nat) (hk : k < f.s.n) (u : Int) (hs : f.s.st k = 1) (hd : f.pc k = 3) (hD : f.ps.D.length < 4611686018427387904) :
    Calls Try.prog 38 #[.pointer (some ⟨L.lb, 0, none⟩), .int .i64 (k : Int), .int .i64 u] w (LkPost w L (f.acq L k u) (f.acqD L k u).val) := by
  have e1 : f.acq L k u = { f with pc := upd f.pc k 4, ps := doS f.ps u 2 (L.nx (f.oth k - 1)) 0 ((k : Int) + 1) } := by unfold FL.acq; rw [if_neg (by omega), if_neg (by omega), if_neg (by omega), if_pos hd]
  have e2 : f.acqD L k u = Dd.no := by unfold FL.acqD; rw [if_neg (by omega), if_neg (by omega), if_neg (by omega), if_pos hd]
  rw [e1, e2]
  clear e1 e2
  obtain ⟨bo, a0, a1, a2⟩ := h.bd k
  have hF := Fr.start h
  obtain ⟨Z, hZ⟩ : ∃ Z, Z = w.alloc (.cells #[.int .i64 0, .bool false, .bool false, .bool false] 61) := ⟨_, rfl⟩
  rw [← hZ] at hF
  have hn64 := h.raw.seat.n2
  have kn : 0 ≤ (k : Int) + 1 ∧ (k : Int) + 1 < 4294967296 := by omega
  have c1 := hF.drew.lk.raw.cell1
  have c2 := hF.drew.lk.raw.cell2
  have c3 := hF.lk.raw.cell3
  have t0 := hF.drew.lk.raw.tk0 hk
  have t1 := hF.drew.lk.raw.tk1 hk
  rw [hd] at t0
  have hog : ogf f.pc f.oth k = f.oth k := by unfold ogf; rw [hd]; rfl
  have cN := fl_number Z.drew k (by omega)
  rw [hog] at t1
  have cG := fl_next hF.drew.drew.lk (f.oth k) (f.oth k - 1) bo rfl
  have cA := pstore_any hF.drew.drew.lk.port u (L.nx (f.oth k - 1)) ((k : Int) + 1) kn.1 kn.2 hD
  have HE := Lib.hid (And.intro h (And.intro hk (And.intro (And.intro hs hd) hF)))
  have HO := Lib.hid hog
  have HI := Lib.hid (And.intro h.raw.inv (And.intro bo kn))
  have hkI : (k : Int) < f.s.n := by omega
  clear h hF bo a0 a1 a2 hog hs hd kn
  go_enter Try.func38, Try.ntmps38
  go_wp2
  rw [← hZ]
  clear hZ
  go_region_held3 (fun w' => w'.cell? ⟨L.lb, 3, none⟩ = some (.slice (some ⟨L.tb, 0, none⟩) f.s.n f.s.n)) (exact c3) (first | (go_at_call 59; (with_reducible refine cN.mono ?_); rintro e w' ⟨rfl, rfl⟩))
  go_wp2
  go_region_held3 (fun w' => w'.cell? ⟨L.lb, 1, none⟩ = some (.pointer (some ⟨L.q.p, 0, none⟩)) ∧ w'.cell? ⟨L.tb, k * 2 + 1, none⟩ = some (.int .u32 (f.oth k))) (first | exact ⟨c1, t1⟩ | exact ⟨d1, y1⟩) (first | (go_at_call 61; (with_reducible refine cG.mono ?_); rintro e w' ⟨rfl, rfl⟩) | (go_at_call 60; (with_reducible refine cA.mono ?_); intro e w2 hq; unfold AccPost at hq; obtain ⟨rfl, hP, hW⟩ := hq; have hA := HE.out.2.2.2.drew.drew.lk.ports hP hW; have hA3 := Fr.call HE.out.1 HE.out.2.2.2.drew.drew hA (lf_q hW); have d1 := hA.raw.cell1; have d2 := hA.raw.cell2; have y0 := hA.raw.tk0 HE.out.2.1; have y1 := hA.raw.tk1 HE.out.2.1; rw [HE.out.2.2.1.2] at y0; rw [HO.out] at y1; have z0 := hA.raw.tkz (k * 2); have hT := hA.tick1 k 4 (by omega) (HO.out.trans rfl) fun q => absurd HE.out.2.2.1.1 q; have hA4 := Fr.call HE.out.1 hA3 hT.1 (lf_t hT.2); obtain ⟨v0, v1, v2, v3⟩ := hA4.cell; obtain ⟨x0, x1, x2, x3⟩ := hA4.frz; have HT := Lib.hid hA4; clear hA4 hT; clear hA hA3 hP hW))
  go_wp2
  refine bodyPost_ret (v := Dd.val ⟨0, false, false, false⟩) (results_cell_row rfl _ _ w.heap.size 61 _ (0, 0) _ rfl (set4 HT.out.res rfl _ _ _ _) Try.underlying61 rfl i_did) rfl (HT.out.told HE.out.1 ⟨0, false, false, false⟩)
set_option maxHeartbeats 1000000 in
theorem fl_acq1 {w : World} {L : Lp} {f : FL} (h : LkAt w L f) (k : Nat) (hk : k < f.s.n) (u : Int) (hs : f.s.st k = 1) (hd : f.pc k = 1) (hD : f.ps.D.length < 4611686018427387904) :
    Calls Try.prog 38 #[.pointer (some ⟨L.lb, 0, none⟩), .int .i64 (k : Int), .int .i64 u] w (LkPost w L (f.acq L k u) (f.acqD L k u).val) := by
  have e1 : f.acq L k u = { f with pc := upd f.pc k (if tellS f.ps u 3 L.a1 = 0 then 0 else 2), oth := upd f.oth k (tellS f.ps u 3 L.a1), ps := doS f.ps u 3 L.a1 0 ((k : Int) + 1) } := by unfold FL.acq; rw [if_neg (by omega), if_pos hd]
  have e2 : f.acqD L k u = ⟨if tellS f.ps u 3 L.a1 = 0 then 1 else 0, true, false, false⟩ := by unfold FL.acqD; rw [if_neg (by omega), if_pos hd]
  rw [e1, e2]
  clear e1 e2
  obtain ⟨bo, a0, a1, a2⟩ := h.bd k
  have hF := Fr.start h
  obtain ⟨Z, hZ⟩ : ∃ Z, Z = w.alloc (.cells #[.int .i64 0, .bool false, .bool false, .bool false] 61) := ⟨_, rfl⟩
  rw [← hZ] at hF
  have hn64 := h.raw.seat.n2
  have kn : 0 ≤ (k : Int) + 1 ∧ (k : Int) + 1 < 4294967296 := by omega
  have c1 := hF.drew.lk.raw.cell1
  have c2 := hF.drew.lk.raw.cell2
  have c3 := hF.lk.raw.cell3
  have t0 := hF.drew.lk.raw.tk0 hk
  have t1 := hF.drew.lk.raw.tk1 hk
  rw [hd] at t0
  have hog : ogf f.pc f.oth k = 0 := by unfold ogf; rw [hd]; rfl
  have cN := fl_number Z.drew k (by omega)
  have cA := pswap_any hF.drew.drew.lk.port u L.a1 ((k : Int) + 1) kn.1 kn.2 hD
  have hT0 := h.tell u 3 L.a1
  generalize tellS f.ps u 3 L.a1 = v at *
  have HE := Lib.hid (And.intro h (And.intro hk (And.intro (And.intro hs hd) hF)))
  have HO := Lib.hid hog
  have HI := Lib.hid (And.intro h.raw.inv (And.intro bo kn))
  have hkI : (k : Int) < f.s.n := by omega
  clear h hF bo a0 a1 a2 hog hs hd kn
  have HV := Lib.hid hT0
  clear hT0
  obtain ⟨x, hx⟩ : ∃ x : Int, x = if v = 0 then 0 else 2 := ⟨_, rfl⟩
  obtain ⟨y, hy⟩ : ∃ y : Int, y = if v = 0 then 1 else 0 := ⟨_, rfl⟩
  rw [← hx, ← hy]
  have HX := Lib.hid hx
  have HY := Lib.hid hy
  clear hx hy
  go_enter Try.func38, Try.ntmps38
  go_wp2
  rw [← hZ]
  clear hZ
  go_region_held3 (fun w' => w'.cell? ⟨L.lb, 3, none⟩ = some (.slice (some ⟨L.tb, 0, none⟩) f.s.n f.s.n)) (exact c3) (first | (go_at_call 59; (with_reducible refine cN.mono ?_); rintro e w' ⟨rfl, rfl⟩))
  go_wp2
  go_region_held3 (fun w' => w'.cell? ⟨L.lb, 1, none⟩ = some (.pointer (some ⟨L.q.p, 0, none⟩)) ∧ w'.cell? ⟨L.lb, 2, none⟩ = some (.int .i64 L.a1)) (first | with_reducible exact ⟨d1, d2⟩ | with_reducible exact ⟨q1, q2⟩ | with_reducible exact ⟨r1, r2⟩ | exact ⟨c1, c2⟩) (first | (go_at_call 63; (with_reducible refine cA.mono ?_); intro e w2 hq; unfold AccPost at hq; obtain ⟨rfl, hP, hW⟩ := hq; have hA := HE.out.2.2.2.drew.drew.lk.ports hP hW; have hA3 := Fr.call HE.out.1 HE.out.2.2.2.drew.drew hA (lf_q hW); have d1 := hA.raw.cell1; have d2 := hA.raw.cell2; have y0 := hA.raw.tk0 HE.out.2.1; have y1 := hA.raw.tk1 HE.out.2.1; have HA := Lib.hid hA3; have cE := fl_enters hA k HE.out.2.1 HE.out.2.2.1.1 v HV.out; rw [← HX.out, ← HY.out] at cE; clear hA hA3 hP hW) | (go_at_call 62; (with_reducible refine cE.mono ?_); intro e w3 hq; unfold LkPost at hq; obtain ⟨rfl, hB, hW2⟩ := hq; dsimp only [Dd.val]; have hB3 := Fr.call HE.out.1 HA.out hB hW2; have q1 := hB.raw.cell1; have q2 := hB.raw.cell2; have hC := (hB3.told HE.out.1 ⟨y, true, false, false⟩).2.1; have r1 := hC.raw.cell1; have r2 := hC.raw.cell2; obtain ⟨v0, v1, v2, v3⟩ := hB3.cell; obtain ⟨x0, x1, x2, x3⟩ := hB3.frz; have HT := Lib.hid hB3; clear hB hB3 hW2 hC))
  go_wp2
  refine bodyPost_ret (v := Dd.val ⟨y, true, false, false⟩) (results_cell_row rfl _ _ w.heap.size 61 _ (0, 0) _ rfl (set4 HT.out.res rfl _ _ _ _) Try.underlying61 rfl i_did) rfl (HT.out.told HE.out.1 ⟨y, true, false, false⟩)
set_option maxHeartbeats 1000000 in
theorem fl_acq4 {w : World} {L : Lp} {f : FL} (h : LkAt w L f) (k : Nat) (hk : k < f.s.n) (u : Int) (hs : f.s.st k = 1) (hd : f.pc k = 4) (hD : f.ps.D.length < 4611686018427387904) :
    Calls Try.prog 38 #[.pointer (some ⟨L.lb, 0, none⟩), .int .i64 (k : Int), .int .i64 u] w (LkPost w L (f.acq L k u) (f.acqD L k u).val) := by
  have e1 : f.acq L k u = { f with pc := upd f.pc k (if tellS f.ps u 1 (L.lk k) = 0 then 0 else 4), ps := doS f.ps u 1 (L.lk k) 0 0 } := by unfold FL.acq; rw [if_neg (by omega), if_neg (by omega), if_neg (by omega), if_neg (by omega)]
  have e2 : f.acqD L k u = if tellS f.ps u 1 (L.lk k) = 0 then ⟨1, false, false, false⟩ else Dd.no := by unfold FL.acqD; rw [if_neg (by omega), if_neg (by omega), if_neg (by omega), if_neg (by omega)]
  rw [e1, e2]
  clear e1 e2
  obtain ⟨bo, a0, a1, a2⟩ := h.bd k
  have hF := Fr.start h
  obtain ⟨Z, hZ⟩ : ∃ Z, Z = w.alloc (.cells #[.int .i64 0, .bool false, .bool false, .bool false] 61) := ⟨_, rfl⟩
  rw [← hZ] at hF
  have hn64 := h.raw.seat.n2
  have kn : 0 ≤ (k : Int) + 1 ∧ (k : Int) + 1 < 4294967296 := by omega
  have c1 := hF.drew.lk.raw.cell1
  have c2 := hF.drew.lk.raw.cell2
  have c3 := hF.lk.raw.cell3
  have t0 := hF.drew.lk.raw.tk0 hk
  have t1 := hF.drew.lk.raw.tk1 hk
  rw [hd] at t0
  have hog : ogf f.pc f.oth k = f.oth k := by unfold ogf; rw [hd]; rfl
  have cN := fl_number Z.drew k (by omega)
  have cG := fl_locked hF.drew.drew.lk ((k : Int) + 1) k kn (by omega)
  have cA := pload_any hF.drew.drew.lk.port u (L.lk k) hD
  have hpd : upd f.pc k 4 = f.pc := upd_id f.pc k hd.symm
  generalize tellS f.ps u 1 (L.lk k) = v at *
  have HE := Lib.hid (And.intro h (And.intro hk (And.intro (And.intro hs hd) hF)))
  have HO := Lib.hid hog
  have HI := Lib.hid (And.intro h.raw.inv (And.intro bo kn))
  have hkI : (k : Int) < f.s.n := by omega
  clear h hF bo a0 a1 a2 hog hs hd kn
  by_cases hx : v = 0
  · rw [if_pos hx, if_pos hx]
    subst hx
    clear hpd
    go_enter Try.func38, Try.ntmps38
    go_wp2
    rw [← hZ]
    clear hZ
    go_region_held3 (fun w' => w'.cell? ⟨L.lb, 3, none⟩ = some (.slice (some ⟨L.tb, 0, none⟩) f.s.n f.s.n)) (exact c3) (first | (go_at_call 59; (with_reducible refine cN.mono ?_); rintro e w' ⟨rfl, rfl⟩))
    go_wp2
    go_region_held3 (fun w' => w'.cell? ⟨L.lb, 1, none⟩ = some (.pointer (some ⟨L.q.p, 0, none⟩))) (first | exact c1 | exact d1) (first | (go_at_call 64; (with_reducible refine cG.mono ?_); rintro e w' ⟨rfl, rfl⟩) | (go_at_call 65; (with_reducible refine cA.mono ?_); intro e w2 hq; unfold AccPost at hq; obtain ⟨rfl, hP, hW⟩ := hq; have hA := HE.out.2.2.2.drew.drew.lk.ports hP hW; have hA3 := Fr.call HE.out.1 HE.out.2.2.2.drew.drew hA (lf_q hW); have d1 := hA.raw.cell1; have d2 := hA.raw.cell2; have y0 := hA.raw.tk0 HE.out.2.1; have y1 := hA.raw.tk1 HE.out.2.1; have HA := Lib.hid hA3; have cE := fl_ends hA k HE.out.2.1 1; clear hA hA3 hP hW))
    go_wp2_with (first | (go_at_call 66; (with_reducible refine cE.mono ?_); intro e w3 hq; unfold LkPost at hq; obtain ⟨rfl, hB, hW2⟩ := hq; dsimp only [Dd.val]; have hB3 := Fr.call HE.out.1 HA.out hB hW2; obtain ⟨v0, v1, v2, v3⟩ := hB3.cell; obtain ⟨x0, x1, x2, x3⟩ := hB3.frz; have HT := Lib.hid hB3; clear hB hB3 hW2))
    refine bodyPost_ret (v := Dd.val ⟨1, false, false, false⟩) (results_cell_row rfl _ _ w.heap.size 61 _ (0, 0) _ rfl (set4 HT.out.res rfl _ _ _ _) Try.underlying61 rfl i_did) rfl (HT.out.told HE.out.1 ⟨1, false, false, false⟩)
  · rw [if_neg hx, if_neg hx, hpd]
    have b1 : (v == 0) = false := beq_false_of_ne hx
    clear hx hpd
    go_enter Try.func38, Try.ntmps38
    go_wp2
    rw [← hZ]
    clear hZ
    go_region_held3 (fun w' => w'.cell? ⟨L.lb, 3, none⟩ = some (.slice (some ⟨L.tb, 0, none⟩) f.s.n f.s.n)) (exact c3) (first | (go_at_call 59; (with_reducible refine cN.mono ?_); rintro e w' ⟨rfl, rfl⟩))
    go_wp2
    go_region_held3 (fun w' => w'.cell? ⟨L.lb, 1, none⟩ = some (.pointer (some ⟨L.q.p, 0, none⟩))) (first | exact c1 | exact d1) (first | (go_at_call 64; (with_reducible refine cG.mono ?_); rintro e w' ⟨rfl, rfl⟩) | (go_at_call 65; (with_reducible refine cA.mono ?_); intro e w2 hq; unfold AccPost at hq; obtain ⟨rfl, hP, hW⟩ := hq; have hA := HE.out.2.2.2.drew.drew.lk.ports hP hW; have hA3 := Fr.call HE.out.1 HE.out.2.2.2.drew.drew hA (lf_q hW); have d1 := hA.raw.cell1; have d2 := hA.raw.cell2; have y0 := hA.raw.tk0 HE.out.2.1; have y1 := hA.raw.tk1 HE.out.2.1; obtain ⟨v0, v1, v2, v3⟩ := hA3.cell; obtain ⟨x0, x1, x2, x3⟩ := hA3.frz; have HT := Lib.hid hA3; clear hA hA3 hP hW))
    go_wp2
    refine bodyPost_ret (v := Dd.val ⟨0, false, false, false⟩) (results_cell_row rfl _ _ w.heap.size 61 _ (0, 0) _ rfl (set4 HT.out.res rfl _ _ _ _) Try.underlying61 rfl i_did) rfl (HT.out.told HE.out.1 ⟨0, false, false, false⟩)
theorem fl_acq {w : World} {L : Lp} {f : FL} (h : LkAt w L f) (k : Nat) (hk : k < f.s.n) (u : Int) (hs : f.s.st k = 1) (hD : f.ps.D.length < 4611686018427387904) :
    Calls Try.prog 38 #[.pointer (some ⟨L.lb, 0, none⟩), .int .i64 (k : Int), .int .i64 u] w (LkPost w L (f.acq L k u) (f.acqD L k u).val) := by
  have hr := (h.raw.rng k).1
  have : f.pc k = 0 ∨ f.pc k = 1 ∨ f.pc k = 2 ∨ f.pc k = 3 ∨ f.pc k = 4 := by omega
  rcases this with hd | hd | hd | hd | hd
  · exact fl_acq0 h k hk u hs hd hD
  · exact fl_acq1 h k hk u hs hd hD
  · exact fl_acq2 h k hk u hs hd hD
  · exact fl_acq3 h k hk u hs hd hD
  · exact fl_acq4 h k hk u hs hd hD

/-! ### release, ask -/
set_option maxHeartbeats 1000000 in
theorem fl_rel0 {w : World} {L : Lp} {f : FL} (h : LkAt w L f) (k : Nat) (hk : k < f.s.n) (u : Int) (hs : f.s.st k = 3) (hd : f.pc k = 0) (hD : f.ps.D.length < 4611686018427387904) :
    Calls Try.prog 39 #[.pointer (some ⟨L.lb, 0, none⟩), .int .i64 (k : Int), .int .i64 u] w (LkPost w L (f.rel L k u) (f.relD L k u).val) := by
  have e1 : f.rel L k u = { f with pc := upd f.pc k (if tellS f.ps u 1 (L.nx k) = 0 then 1 else 3), oth := upd f.oth k (tellS f.ps u 1 (L.nx k)), ps := doS f.ps u 1 (L.nx k) 0 0 } := by unfold FL.rel; rw [if_pos hd]
  have e2 : f.relD L k u = Dd.no := by unfold FL.relD; rw [if_pos hd]
  rw [e1, e2]
  clear e1 e2
  obtain ⟨bo, a0, a1, a2⟩ := h.bd k
  have hF := Fr.start h
  obtain ⟨Z, hZ⟩ : ∃ Z, Z = w.alloc (.cells #[.int .i64 0, .bool false, .bool false, .bool false] 61) := ⟨_, rfl⟩
  rw [← hZ] at hF
  have hn64 := h.raw.seat.n2
  have kn : 0 ≤ (k : Int) + 1 ∧ (k : Int) + 1 < 4294967296 := by omega
  have c1 := hF.drew.lk.raw.cell1
  have c2 := hF.drew.lk.raw.cell2
  have c3 := hF.lk.raw.cell3
  have t0 := hF.drew.lk.raw.tk0 hk
  have t1 := hF.drew.lk.raw.tk1 hk
  rw [hd] at t0
  have hog : ogf f.pc f.oth k = 0 := by unfold ogf; rw [hd]; rfl
  have cN := fl_number Z.drew k (by omega)
  have cG := fl_next hF.drew.drew.lk ((k : Int) + 1) k kn (by omega)
  have cA := pload_any hF.drew.drew.lk.port u (L.nx k) hD
  have hT0 := h.tell u 1 (L.nx k)
  generalize tellS f.ps u 1 (L.nx k) = v at *
  have HE := Lib.hid (And.intro h (And.intro hk (And.intro (And.intro hs hd) hF)))
  have HO := Lib.hid hog
  have HI := Lib.hid (And.intro h.raw.inv (And.intro bo kn))
  have hkI : (k : Int) < f.s.n := by omega
  clear h hF bo a0 a1 a2 hog hs hd kn
  have HV := Lib.hid hT0
  clear hT0
  obtain ⟨x, hx⟩ : ∃ x : Int, x = if v = 0 then 1 else 3 := ⟨_, rfl⟩
  rw [← hx]
  have HX := Lib.hid hx
  clear hx
  go_enter Try.func39, Try.ntmps39
  go_wp2
  rw [← hZ]
  clear hZ
  go_region_held3 (fun w' => w'.cell? ⟨L.lb, 3, none⟩ = some (.slice (some ⟨L.tb, 0, none⟩) f.s.n f.s.n)) (exact c3) (first | (go_at_call 59; (with_reducible refine cN.mono ?_); rintro e w' ⟨rfl, rfl⟩))
  go_wp2
  go_region_held3 (fun w' => w'.cell? ⟨L.lb, 1, none⟩ = some (.pointer (some ⟨L.q.p, 0, none⟩))) (first | exact c1 | exact d1 | exact q1) (first | (go_at_call 61; (with_reducible refine cG.mono ?_); rintro e w' ⟨rfl, rfl⟩) | (go_at_call 65; (with_reducible refine cA.mono ?_); intro e w2 hq; unfold AccPost at hq; obtain ⟨rfl, hP, hW⟩ := hq; have hA := HE.out.2.2.2.drew.drew.lk.ports hP hW; have hA3 := Fr.call HE.out.1 HE.out.2.2.2.drew.drew hA (lf_q hW); have d1 := hA.raw.cell1; have d2 := hA.raw.cell2; have y0 := hA.raw.tk0 HE.out.2.1; have y1 := hA.raw.tk1 HE.out.2.1; have HA := Lib.hid hA3; have cE := fl_finds hA k HE.out.2.1 (by rw [HE.out.2.2.1.1]; decide) 1 (.inl ⟨HE.out.2.2.1.2, rfl⟩) v HV.out; rw [← HX.out] at cE; clear hA hA3 hP hW) | (go_at_call 67; (with_reducible refine cE.mono ?_); intro e w3 hq; unfold FiPost at hq; obtain ⟨rfl, hB, hW2⟩ := hq; have hB3 := Fr.call HE.out.1 HA.out hB hW2; have q1 := hB.raw.cell1; obtain ⟨v0, v1, v2, v3⟩ := hB3.cell; obtain ⟨x0, x1, x2, x3⟩ := hB3.frz; have HT := Lib.hid hB3; clear hB hB3 hW2))
  go_wp2
  refine bodyPost_ret (v := Dd.val ⟨0, false, false, false⟩) (results_cell_row rfl _ _ w.heap.size 61 _ (0, 0) _ rfl (set4 HT.out.res rfl _ _ _ _) Try.underlying61 rfl i_did) rfl (HT.out.told HE.out.1 ⟨0, false, false, false⟩)
set_option maxHeartbeats 1000000 in
theorem fl_rel2 {w : World} {L : Lp} {f : FL} (h : LkAt w L f) (k : Nat) (hk : k < f.s.n) (u : Int) (hs : f.s.st k = 3) (hd : f.pc k = 2) (hD : f.ps.D.length < 4611686018427387904) :
    Calls Try.prog 39 #[.pointer (some ⟨L.lb, 0, none⟩), .int .i64 (k : Int), .int .i64 u] w (LkPost w L (f.rel L k u) (f.relD L k u).val) := by
  have e1 : f.rel L k u = { f with pc := upd f.pc k (if tellS f.ps u 1 (L.nx k) = 0 then 2 else 3), oth := upd f.oth k (tellS f.ps u 1 (L.nx k)), ps := doS f.ps u 1 (L.nx k) 0 0 } := by unfold FL.rel; rw [if_neg (by omega), if_neg (by omega), if_pos hd]
  have e2 : f.relD L k u = Dd.no := by unfold FL.relD; rw [if_neg (by omega), if_neg (by omega), if_pos hd]
  rw [e1, e2]
  clear e1 e2
  obtain ⟨bo, a0, a1, a2⟩ := h.bd k
  have hF := Fr.start h
  obtain ⟨Z, hZ⟩ : ∃ Z, Z = w.alloc (.cells #[.int .i64 0, .bool false, .bool false, .bool false] 61) := ⟨_, rfl⟩
  rw [← hZ] at hF
  have hn64 := h.raw.seat.n2
  have kn : 0 ≤ (k : Int) + 1 ∧ (k : Int) + 1 < 4294967296 := by omega
  have c1 := hF.drew.lk.raw.cell1
  have c2 := hF.drew.lk.raw.cell2
  have c3 := hF.lk.raw.cell3
  have t0 := hF.drew.lk.raw.tk0 hk
  have t1 := hF.drew.lk.raw.tk1 hk
  rw [hd] at t0
  have hog : ogf f.pc f.oth k = f.oth k := by unfold ogf; rw [hd]; rfl
  have cN := fl_number Z.drew k (by omega)
  have cG := fl_next hF.drew.drew.lk ((k : Int) + 1) k kn (by omega)
  have cA := pload_any hF.drew.drew.lk.port u (L.nx k) hD
  have hT0 := h.tell u 1 (L.nx k)
  generalize tellS f.ps u 1 (L.nx k) = v at *
  have HE := Lib.hid (And.intro h (And.intro hk (And.intro (And.intro hs hd) hF)))
  have HO := Lib.hid hog
  have HI := Lib.hid (And.intro h.raw.inv (And.intro bo kn))
  have hkI : (k : Int) < f.s.n := by omega
  clear h hF bo a0 a1 a2 hog hs hd kn
  have HV := Lib.hid hT0
  clear hT0
  obtain ⟨x, hx⟩ : ∃ x : Int, x = if v = 0 then 2 else 3 := ⟨_, rfl⟩
  rw [← hx]
  have HX := Lib.hid hx
  clear hx
  go_enter Try.func39, Try.ntmps39
  go_wp2
  rw [← hZ]
  clear hZ
  go_region_held3 (fun w' => w'.cell? ⟨L.lb, 3, none⟩ = some (.slice (some ⟨L.tb, 0, none⟩) f.s.n f.s.n)) (exact c3) (first | (go_at_call 59; (with_reducible refine cN.mono ?_); rintro e w' ⟨rfl, rfl⟩))
  go_wp2
  go_region_held3 (fun w' => w'.cell? ⟨L.lb, 1, none⟩ = some (.pointer (some ⟨L.q.p, 0, none⟩))) (first | exact c1 | exact d1 | exact q1) (first | (go_at_call 61; (with_reducible refine cG.mono ?_); rintro e w' ⟨rfl, rfl⟩) | (go_at_call 65; (with_reducible refine cA.mono ?_); intro e w2 hq; unfold AccPost at hq; obtain ⟨rfl, hP, hW⟩ := hq; have hA := HE.out.2.2.2.drew.drew.lk.ports hP hW; have hA3 := Fr.call HE.out.1 HE.out.2.2.2.drew.drew hA (lf_q hW); have d1 := hA.raw.cell1; have d2 := hA.raw.cell2; have y0 := hA.raw.tk0 HE.out.2.1; have y1 := hA.raw.tk1 HE.out.2.1; have HA := Lib.hid hA3; have cE := fl_finds hA k HE.out.2.1 (by rw [HE.out.2.2.1.1]; decide) 2 (.inr ⟨HE.out.2.2.1.2, rfl⟩) v HV.out; rw [← HX.out] at cE; clear hA hA3 hP hW) | (go_at_call 67; (with_reducible refine cE.mono ?_); intro e w3 hq; unfold FiPost at hq; obtain ⟨rfl, hB, hW2⟩ := hq; have hB3 := Fr.call HE.out.1 HA.out hB hW2; have q1 := hB.raw.cell1; obtain ⟨v0, v1, v2, v3⟩ := hB3.cell; obtain ⟨x0, x1, x2, x3⟩ := hB3.frz; have HT := Lib.hid hB3; clear hB hB3 hW2))
  go_wp2
  refine bodyPost_ret (v := Dd.val ⟨0, false, false, false⟩) (results_cell_row rfl _ _ w.heap.size 61 _ (0, 0) _ rfl (set4 HT.out.res rfl _ _ _ _) Try.underlying61 rfl i_did) rfl (HT.out.told HE.out.1 ⟨0, false, false, false⟩)
set_option maxHeartbeats 1000000 in
theorem fl_rel1 {w : World} {L : Lp} {f : FL} (h : LkAt w L f) (k : Nat) (hk : k < f.s.n) (u : Int) (hs : f.s.st k = 3) (hd : f.pc k = 1) (hD : f.ps.D.length < 4611686018427387904) :
    Calls Try.prog 39 #[.pointer (some ⟨L.lb, 0, none⟩), .int .i64 (k : Int), .int .i64 u] w (LkPost w L (f.rel L k u) (f.relD L k u).val) := by
  have e1 : f.rel L k u = { f with pc := upd f.pc k (if casT f.ps u L.a1 ((k : Int) + 1) = true then 0 else 2), ps := doS f.ps u 4 L.a1 ((k : Int) + 1) 0 } := by unfold FL.rel; rw [if_neg (by omega), if_pos hd]
  have e2 : f.relD L k u = if casT f.ps u L.a1 ((k : Int) + 1) = true then ⟨3, false, false, false⟩ else Dd.no := by unfold FL.relD; rw [if_neg (by omega), if_pos hd]
  rw [e1, e2]
  clear e1 e2
  obtain ⟨bo, a0, a1, a2⟩ := h.bd k
  have hF := Fr.start h
  obtain ⟨Z, hZ⟩ : ∃ Z, Z = w.alloc (.cells #[.int .i64 0, .bool false, .bool false, .bool false] 61) := ⟨_, rfl⟩
  rw [← hZ] at hF
  have hn64 := h.raw.seat.n2
  have kn : 0 ≤ (k : Int) + 1 ∧ (k : Int) + 1 < 4294967296 := by omega
  have c1 := hF.drew.lk.raw.cell1
  have c2 := hF.drew.lk.raw.cell2
  have c3 := hF.lk.raw.cell3
  have t0 := hF.drew.lk.raw.tk0 hk
  have t1 := hF.drew.lk.raw.tk1 hk
  rw [hd] at t0
  have hog : ogf f.pc f.oth k = 0 := by unfold ogf; rw [hd]; rfl
  have cN := fl_number Z.drew k (by omega)
  have cA := pcas_any hF.drew.drew.lk.port u L.a1 ((k : Int) + 1) 0 (by omega) (by omega) hD
  have e0 : f.oth k = 0 := (h.raw.inv k (by rw [hs]; decide)).2 (.inl hd)
  change Calls _ _ _ _ (AccPost _ _ _ (.bool (casT f.ps u L.a1 ((k : Int) + 1))) _) at cA
  generalize casT f.ps u L.a1 ((k : Int) + 1) = v at *
  have HE := Lib.hid (And.intro h (And.intro hk (And.intro (And.intro hs hd) hF)))
  have HO := Lib.hid hog
  have HI := Lib.hid (And.intro h.raw.inv (And.intro bo kn))
  have hkI : (k : Int) < f.s.n := by omega
  clear h hF bo a0 a1 a2 hog hs hd kn
  have H0 := Lib.hid e0
  clear e0
  cases v
  · rw [if_neg (by decide), if_neg (by decide)]
    go_enter Try.func39, Try.ntmps39
    go_wp2
    rw [← hZ]
    clear hZ
    go_region_held3 (fun w' => w'.cell? ⟨L.lb, 3, none⟩ = some (.slice (some ⟨L.tb, 0, none⟩) f.s.n f.s.n)) (exact c3) (first | (go_at_call 59; (with_reducible refine cN.mono ?_); rintro e w' ⟨rfl, rfl⟩))
    go_wp2
    go_region_held3 (fun w' => w'.cell? ⟨L.lb, 1, none⟩ = some (.pointer (some ⟨L.q.p, 0, none⟩)) ∧ w'.cell? ⟨L.lb, 2, none⟩ = some (.int .i64 L.a1)) (first | exact ⟨c1, c2⟩ | exact ⟨d1, d2⟩) (first | (go_at_call 68; (with_reducible refine cA.mono ?_); intro e w2 hq; unfold AccPost at hq; obtain ⟨rfl, hP, hW⟩ := hq; have hA := HE.out.2.2.2.drew.drew.lk.ports hP hW; have hA3 := Fr.call HE.out.1 HE.out.2.2.2.drew.drew hA (lf_q hW); have d1 := hA.raw.cell1; have d2 := hA.raw.cell2; have y0 := hA.raw.tk0 HE.out.2.1; have y1 := hA.raw.tk1 HE.out.2.1; rw [HE.out.2.2.1.2] at y0; have z0 := hA.raw.tkz (k * 2); have hT := hA.tick1 k 2 (by omega) (HO.out.trans H0.out.symm) (fun q => ⟨by omega, fun _ => H0.out⟩); have hA4 := Fr.call HE.out.1 hA3 hT.1 (lf_t hT.2); obtain ⟨v0, v1, v2, v3⟩ := hA4.cell; obtain ⟨x0, x1, x2, x3⟩ := hA4.frz; have HT := Lib.hid hA4; clear hA4 hT; clear hA hA3 hP hW))
    go_wp2
    refine bodyPost_ret (v := Dd.val ⟨0, false, false, false⟩) (results_cell_row rfl _ _ w.heap.size 61 _ (0, 0) _ rfl (set4 HT.out.res rfl _ _ _ _) Try.underlying61 rfl i_did) rfl (HT.out.told HE.out.1 ⟨0, false, false, false⟩)
  · rw [if_pos rfl, if_pos rfl]
    go_enter Try.func39, Try.ntmps39
    go_wp2
    rw [← hZ]
    clear hZ
    go_region_held3 (fun w' => w'.cell? ⟨L.lb, 3, none⟩ = some (.slice (some ⟨L.tb, 0, none⟩) f.s.n f.s.n)) (exact c3) (first | (go_at_call 59; (with_reducible refine cN.mono ?_); rintro e w' ⟨rfl, rfl⟩))
    go_wp2
    go_region_held3 (fun w' => w'.cell? ⟨L.lb, 1, none⟩ = some (.pointer (some ⟨L.q.p, 0, none⟩)) ∧ w'.cell? ⟨L.lb, 2, none⟩ = some (.int .i64 L.a1)) (first | exact ⟨c1, c2⟩ | exact ⟨d1, d2⟩) (first | (go_at_call 68; (with_reducible refine cA.mono ?_); intro e w2 hq; unfold AccPost at hq; obtain ⟨rfl, hP, hW⟩ := hq; have hA := HE.out.2.2.2.drew.drew.lk.ports hP hW; have hA3 := Fr.call HE.out.1 HE.out.2.2.2.drew.drew hA (lf_q hW); have d1 := hA.raw.cell1; have d2 := hA.raw.cell2; have y0 := hA.raw.tk0 HE.out.2.1; have y1 := hA.raw.tk1 HE.out.2.1; have HA := Lib.hid hA3; have cE := fl_ends hA k HE.out.2.1 3; clear hA hA3 hP hW))
    go_wp2_with (first | (go_at_call 66; (with_reducible refine cE.mono ?_); intro e w3 hq; unfold LkPost at hq; obtain ⟨rfl, hB, hW2⟩ := hq; dsimp only [Dd.val]; have hB3 := Fr.call HE.out.1 HA.out hB hW2; obtain ⟨v0, v1, v2, v3⟩ := hB3.cell; obtain ⟨x0, x1, x2, x3⟩ := hB3.frz; have HT := Lib.hid hB3; clear hB hB3 hW2))
    refine bodyPost_ret (v := Dd.val ⟨3, false, false, false⟩) (results_cell_row rfl _ _ w.heap.size 61 _ (0, 0) _ rfl (set4 HT.out.res rfl _ _ _ _) Try.underlying61 rfl i_did) rfl (HT.out.told HE.out.1 ⟨3, false, false, false⟩)
set_option maxHeartbeats 1000000 in
theorem fl_rel3 {w : World} {L : Lp} {f : FL} (h : LkAt w L f) (k : Nat) (hk : k < f.s.n) (u : Int) (hs : f.s.st k = 3) (hd : f.pc k = 3) (hD : f.ps.D.length < 4611686018427387904) :
    Calls Try.prog 39 #[.pointer (some ⟨L.lb, 0, none⟩), .int .i64 (k : Int), .int .i64 u] w (LkPost w L (f.rel L k u) (f.relD L k u).val) := by
  have e1 : f.rel L k u = { f with pc := upd f.pc k 0, ps := doS f.ps u 2 (L.lk (f.oth k - 1)) 0 0 } := by unfold FL.rel; rw [if_neg (by omega), if_neg (by omega), if_neg (by omega)]
  have e2 : f.relD L k u = ⟨3, false, false, false⟩ := by unfold FL.relD; rw [if_neg (by omega), if_neg (by omega), if_neg (by omega)]
  rw [e1, e2]
  clear e1 e2
  obtain ⟨bo, a0, a1, a2⟩ := h.bd k
  have hF := Fr.start h
  obtain ⟨Z, hZ⟩ : ∃ Z, Z = w.alloc (.cells #[.int .i64 0, .bool false, .bool false, .bool false] 61) := ⟨_, rfl⟩
  rw [← hZ] at hF
  have hn64 := h.raw.seat.n2
  have kn : 0 ≤ (k : Int) + 1 ∧ (k : Int) + 1 < 4294967296 := by omega
  have c1 := hF.drew.lk.raw.cell1
  have c2 := hF.drew.lk.raw.cell2
  have c3 := hF.lk.raw.cell3
  have t0 := hF.drew.lk.raw.tk0 hk
  have t1 := hF.drew.lk.raw.tk1 hk
  rw [hd] at t0
  have hog : ogf f.pc f.oth k = f.oth k := by unfold ogf; rw [hd]; rfl
  have cN := fl_number Z.drew k (by omega)
  rw [hog] at t1
  have cG := fl_locked hF.drew.drew.lk (f.oth k) (f.oth k - 1) bo rfl
  have cA := pstore_any hF.drew.drew.lk.port u (L.lk (f.oth k - 1)) 0 (by omega) (by omega) hD
  have HE := Lib.hid (And.intro h (And.intro hk (And.intro (And.intro hs hd) hF)))
  have HO := Lib.hid hog
  have HI := Lib.hid (And.intro h.raw.inv (And.intro bo kn))
  have hkI : (k : Int) < f.s.n := by omega
  clear h hF bo a0 a1 a2 hog hs hd kn
  go_enter Try.func39, Try.ntmps39
  go_wp2
  rw [← hZ]
  clear hZ
  go_region_held3 (fun w' => w'.cell? ⟨L.lb, 3, none⟩ = some (.slice (some ⟨L.tb, 0, none⟩) f.s.n f.s.n)) (exact c3) (first | (go_at_call 59; (with_reducible refine cN.mono ?_); rintro e w' ⟨rfl, rfl⟩))
  go_wp2
  go_region_held3 (fun w' => w'.cell? ⟨L.lb, 1, none⟩ = some (.pointer (some ⟨L.q.p, 0, none⟩)) ∧ w'.cell? ⟨L.tb, k * 2 + 1, none⟩ = some (.int .u32 (f.oth k))) (first | exact ⟨c1, t1⟩ | exact ⟨d1, y1⟩) (first | (go_at_call 64; (with_reducible refine cG.mono ?_); rintro e w' ⟨rfl, rfl⟩) | (go_at_call 60; (with_reducible refine cA.mono ?_); intro e w2 hq; unfold AccPost at hq; obtain ⟨rfl, hP, hW⟩ := hq; have hA := HE.out.2.2.2.drew.drew.lk.ports hP hW; have hA3 := Fr.call HE.out.1 HE.out.2.2.2.drew.drew hA (lf_q hW); have d1 := hA.raw.cell1; have d2 := hA.raw.cell2; have y0 := hA.raw.tk0 HE.out.2.1; have y1 := hA.raw.tk1 HE.out.2.1; rw [HO.out] at y1; have HA := Lib.hid hA3; have cE := fl_ends hA k HE.out.2.1 3; clear hA hA3 hP hW))
  go_wp2_with (first | (go_at_call 66; (with_reducible refine cE.mono ?_); intro e w3 hq; unfold LkPost at hq; obtain ⟨rfl, hB, hW2⟩ := hq; dsimp only [Dd.val]; have hB3 := Fr.call HE.out.1 HA.out hB hW2; obtain ⟨v0, v1, v2, v3⟩ := hB3.cell; obtain ⟨x0, x1, x2, x3⟩ := hB3.frz; have HT := Lib.hid hB3; clear hB hB3 hW2))
  refine bodyPost_ret (v := Dd.val ⟨3, false, false, false⟩) (results_cell_row rfl _ _ w.heap.size 61 _ (0, 0) _ rfl (set4 HT.out.res rfl _ _ _ _) Try.underlying61 rfl i_did) rfl (HT.out.told HE.out.1 ⟨3, false, false, false⟩)
theorem fl_rel {w : World} {L : Lp} {f : FL} (h : LkAt w L f) (k : Nat) (hk : k < f.s.n) (u : Int) (hs : f.s.st k = 3) (hD : f.ps.D.length < 4611686018427387904) :
    Calls Try.prog 39 #[.pointer (some ⟨L.lb, 0, none⟩), .int .i64 (k : Int), .int .i64 u] w (LkPost w L (f.rel L k u) (f.relD L k u).val) := by
  have hr := (h.raw.rng k).1
  have hi := (h.raw.inv k (by rw [hs]; decide)).1
  have : f.pc k = 0 ∨ f.pc k = 1 ∨ f.pc k = 2 ∨ f.pc k = 3 := by omega
  rcases this with hd | hd | hd | hd
  · exact fl_rel0 h k hk u hs hd hD
  · exact fl_rel1 h k hk u hs hd hD
  · exact fl_rel2 h k hk u hs hd hD
  · exact fl_rel3 h k hk u hs hd hD
set_option maxHeartbeats 1000000 in
theorem fl_ask {w : World} {L : Lp} {f : FL} (h : LkAt w L f) (k : Nat) (hk : k < f.s.n) (u : Int) (hD : f.ps.D.length < 4611686018427387904) :
    Calls Try.prog 40 #[.pointer (some ⟨L.lb, 0, none⟩), .int .i64 (k : Int), .int .i64 u] w (LkPost w L (f.ask L k u) (f.askD L k u).val) := by
  unfold FL.ask FL.askD
  have hF := Fr.start h
  obtain ⟨Z, hZ⟩ : ∃ Z, Z = w.alloc (.cells #[.int .i64 0, .bool false, .bool false, .bool false] 61) := ⟨_, rfl⟩
  rw [← hZ] at hF
  have hn64 := h.raw.seat.n2
  have kn : 0 ≤ (k : Int) + 1 ∧ (k : Int) + 1 < 4294967296 := by omega
  have c1 := hF.lk.raw.cell1
  have cN := fl_number Z.drew k (by omega)
  have cG := fl_next hF.drew.lk ((k : Int) + 1) k kn (by omega)
  have cA := pload_any hF.drew.lk.port u (L.nx k) hD
  generalize tellS f.ps u 1 (L.nx k) = v at *
  have HE := Lib.hid (And.intro h (And.intro hk hF))
  clear h hF kn
  by_cases hx : v = 0
  · rw [if_pos hx]
    subst hx
    go_enter Try.func40, Try.ntmps40
    go_wp2
    rw [← hZ]
    clear hZ
    go_region_held3 (fun w' => w'.cell? ⟨L.lb, 1, none⟩ = some (.pointer (some ⟨L.q.p, 0, none⟩))) (first | exact c1 | exact d1) (first | (go_at_call 59; (with_reducible refine cN.mono ?_); rintro e w' ⟨rfl, rfl⟩) | (go_at_call 61; (with_reducible refine cG.mono ?_); rintro e w' ⟨rfl, rfl⟩) | (go_at_call 65; (with_reducible refine cA.mono ?_); intro e w2 hq; unfold AccPost at hq; obtain ⟨rfl, hP, hW⟩ := hq; have hA := HE.out.2.2.drew.lk.ports hP hW; have hA3 := Fr.call HE.out.1 HE.out.2.2.drew hA (lf_q hW); have d1 := hA.raw.cell1; have d2 := hA.raw.cell2; obtain ⟨v0, v1, v2, v3⟩ := hA3.cell; obtain ⟨x0, x1, x2, x3⟩ := hA3.frz; have HT := Lib.hid hA3; clear hA hA3 hP hW))
    go_wp2
    refine bodyPost_ret (v := Dd.val ⟨4, false, false, false⟩) (results_cell_row rfl _ _ w.heap.size 61 _ (0, 0) _ rfl (set4 HT.out.res rfl _ _ _ _) Try.underlying61 rfl i_did) rfl (HT.out.told HE.out.1 ⟨4, false, false, false⟩)
  · rw [if_neg hx]
    have b1 : (v != 0) = true := by simpa [bne, BEq.beq] using hx
    clear hx
    go_enter Try.func40, Try.ntmps40
    go_wp2
    rw [← hZ]
    clear hZ
    go_region_held3 (fun w' => w'.cell? ⟨L.lb, 1, none⟩ = some (.pointer (some ⟨L.q.p, 0, none⟩))) (first | exact c1 | exact d1) (first | (go_at_call 59; (with_reducible refine cN.mono ?_); rintro e w' ⟨rfl, rfl⟩) | (go_at_call 61; (with_reducible refine cG.mono ?_); rintro e w' ⟨rfl, rfl⟩) | (go_at_call 65; (with_reducible refine cA.mono ?_); intro e w2 hq; unfold AccPost at hq; obtain ⟨rfl, hP, hW⟩ := hq; have hA := HE.out.2.2.drew.lk.ports hP hW; have hA3 := Fr.call HE.out.1 HE.out.2.2.drew hA (lf_q hW); have d1 := hA.raw.cell1; have d2 := hA.raw.cell2; obtain ⟨v0, v1, v2, v3⟩ := hA3.cell; obtain ⟨x0, x1, x2, x3⟩ := hA3.frz; have HT := Lib.hid hA3; clear hA hA3 hP hW))
    go_wp2
    refine bodyPost_ret (v := Dd.val ⟨5, false, false, false⟩) (results_cell_row rfl _ _ w.heap.size 61 _ (0, 0) _ rfl (set4 HT.out.res rfl _ _ _ _) Try.underlying61 rfl i_did) rfl (HT.out.told HE.out.1 ⟨5, false, false, false⟩)
end Go.Proofs.Ytpaihjlohcakjaa
