/- A step of a call of the reference's hierarchical lock: what it tells, and what it leaves. -/
import Derived.Test.YteacdcdjdbobnaaGreatHierRdo
import Derived.WalkLawsBesides
import Derived.Outline
import Derived.Deep.QuietTactic
import Derived.Deep.RegionHeld3
import Derived.BigQuiet
import Derived.BigFrame
import Derived.Handy
import Derived.OpenShut
import Derived.Lib.Walk
import Derived.WalkKit
import Derived.Lib.Hide
namespace Go.Proofs.YteacdcdjdbobnaaGreat
open Go.RowKit Go.BigFrame
set_option linter.unusedVariables false
set_option maxRecDepth 100000

/-- what bounds a context's numbers -/
structure RkIn (f : FL) (k : Nat) (u : Int) : Prop where
  cl : 0 ≤ f.cl k ∧ f.cl k ≤ 7
  nd : 0 ≤ f.nd k ∧ f.nd k < 4294967296
  ah : 0 ≤ f.ahd k ∧ f.ahd k < 4294967296
  of : 0 ≤ f.of k ∧ f.of k < 4294967296
  wv : 0 ≤ f.wv k ∧ f.wv k < 4294967296
  hT : ∀ K a, 0 ≤ tellS f.ps u K a ∧ tellS f.ps u K a < 4294967296

set_option maxHeartbeats 4000000 in
theorem rl_lock0 {w : World} {M : Mp} {bk : Nat} {so : Option Addr} {cap : Nat} {dv : Value} {f : FL} {L : Lp} (h : MsIn w M bk so cap dv f.s (fv f) f.ps) (hL1 : L.a1 = M.a) (hL2 : L.a2 = M.a + 1) (k : Nat) (hk : k < f.s.n) (u x : Int) (hB : RkIn f k u) (hp : f.pc k = 0) :
    Calls Tryz.prog 112 #[.pointer (some ⟨M.r, 0, none⟩), .pointer (some ⟨M.pr, 0, none⟩), .int .i64 (k : Int), .int .i64 u] w (RkPost w M bk dv f.s (vk (fv f) k (f.cl k) 1 (f.nd k) (f.ahd k) (f.of k) (f.wv k)) (doS f.ps u 2 (L.nA (f.nd k)) 0 (wd (f.cl k) 1 0)) (Dd.rval Dd.no)) := by
  obtain ⟨Z, hZ⟩ : ∃ Z, Z = (w.alloc (.cells #[.int .i64 0, .int .i64 0, .int .i64 0, .int .i64 0] 105)).alloc (.cells #[.int .i64 0, .int .i64 0, .int .i64 0, .int .i64 0] 105) := ⟨_, rfl⟩
  obtain ⟨hF0, hR, hWZ⟩ := h.start Z hZ
  have hF : Fm w Z M bk dv f.s (vk (fv f) k (f.cl k) 0 (f.nd k) (f.ahd k) (f.of k) (f.wv k)) f.ps w.heap.size (w.heap.size + 1) Dd.no := by
    have e : vk (fv f) k (f.cl k) 0 (f.nd k) (f.ahd k) (f.of k) (f.wv k) = fv f := by have := vk_self (fv f) k; rw [show fv f 1 k = 0 from hp] at this; exact this
    rw [e]; exact hF0
  have i0 : (0 : Int) ≤ (k : Int) := by omega
  have i1 : (k : Int) < f.s.n := by omega
  have hRd := hR.after (w' := Z.drew) ((Wrote.refl Nil Z).drew) fun _ _ => id
  have bz : M.base ≤ Z.drew.heap.size := Nat.le_trans h.hb hWZ.size
  have hA0 := (h.raw.after ((Wrote.refl Nil w).alloc (.cells #[.int .i64 0, .int .i64 0, .int .i64 0, .int .i64 0] 105))).cells hk
  have k2 := hA0.c2
  have k3 := hA0.c3
  have k4 : (w.alloc (.cells #[.int .i64 0, .int .i64 0, .int .i64 0, .int .i64 0] 105)).cell? ⟨M.rw 0, k, none⟩ = some (.int .i64 (f.cl k)) := hA0.r0
  have k5 : (w.alloc (.cells #[.int .i64 0, .int .i64 0, .int .i64 0, .int .i64 0] 105)).cell? ⟨M.rw 1, k, none⟩ = some (.int .i64 0) := by have := hA0.r1; rw [show fv f 1 k = 0 from hp] at this; exact this
  clear hA0
  obtain ⟨hcl, hnd, hah, hof, hwv, hT⟩ := hB
  have ma := h.ha
  have eA : L.nA (f.nd k) = M.a + 8 + (f.nd k) := by unfold Lp.nA; omega
  have wv2 := wd_rng (c := f.cl k) (x := 1) (y := 0) (by omega) (.inr rfl) (.inl rfl)
  have cA := ra_store hRd u (L.nA (f.nd k)) (wd (f.cl k) 1 0) wv2.1 wv2.2 h.hD h.hws h.hac bz
  rw [eA] at cA ⊢
  have cP := rp_word (f.cl k) 1 0 (by omega) (by decide) (by decide)
  have w1 : IntKind.i64.wrap (M.a + 8) = M.a + 8 := by rw [IntKind.wrap_i64]; omega
  have w2 : IntKind.i64.wrap (M.a + 8 + f.nd k) = M.a + 8 + f.nd k := by rw [IntKind.wrap_i64]; omega
  clear wv2 eA
  have nA := hF.raw.cellsK hk
  have nc1 : Z.drew.cell? ⟨M.r, 1, none⟩ = some (.int .i64 M.a) := nA.c1
  have nc4 : Z.drew.cell? ⟨M.r, 4, none⟩ = some (.slice (some ⟨M.rw 2, 0, none⟩) f.s.n M.nc) := nA.c4
  have nr2 : Z.drew.cell? ⟨M.rw 2, k, none⟩ = some (.int .i64 (f.nd k)) := nA.r2
  clear nA
  have HE := Lib.hid (And.intro h (And.intro hk hF))
  clear h hF hF0 hR hRd hWZ bz hp hcl hnd hah hof hwv hT ma
  go_enter Tryz.func112, Tryz.ntmps112
  go_upto_region 4 with fail
  rw [← hZ]
  clear hZ k2 k3 k4 k5
  go_wp2
  go_region_held3 (fun w' => w'.cell? ⟨M.r, 1, none⟩ = some (.int .i64 M.a) ∧ w'.cell? ⟨M.r, 4, none⟩ = some (.slice (some ⟨M.rw 2, 0, none⟩) f.s.n M.nc) ∧ w'.cell? ⟨M.rw 2, k, none⟩ = some (.int .i64 (f.nd k))) (first | with_reducible exact ⟨ac1, ac4, ar2⟩ | exact ⟨nc1, nc4, nr2⟩) (first | (go_at_call 26; (with_reducible refine (cP _).mono ?_); rintro e w' ⟨rfl, rfl⟩) | (go_at_call 117; (with_reducible refine cA.mono ?_); intro e w2 hq; unfold RaPost at hq; obtain ⟨rfl, hRS, hW⟩ := hq; have hA := HE.out.2.2.drew.port hRS hW; have aA := hA.raw.cellsK HE.out.2.1; have ac1 := aA.c1; have ac4 := aA.c4; have ar2 := aA.r2; clear aA; have eB := hA.raw.cellsK HE.out.2.1; have ez1 := eB.z1; have es1 := eB.r1; clear eB; have ec3 := (hA.raw.cellsK HE.out.2.1).c3; have hS := hA.s1 1; obtain ⟨q0, q1, q2, q3⟩ := hS.dcell; obtain ⟨u0, u1, u2, u3⟩ := hS.rcell; obtain ⟨t0, t1, t2, t3⟩ := hS.rfrz; have HT := Lib.hid hS; clear hS; clear hA hRS hW))
  go_wp2
  refine bodyPost_ret (v := Dd.rval Dd.no) (results_cell_row rfl _ _ w.heap.size 105 _ (0, 0) _ rfl (set4 HT.out.res rfl _ _ _ _) Tryz.underlying105 rfl i_rid) rfl HT.out.told

set_option maxHeartbeats 4000000 in
theorem rl_lock1a {w : World} {M : Mp} {bk : Nat} {so : Option Addr} {cap : Nat} {dv : Value} {f : FL} {L : Lp} (h : MsIn w M bk so cap dv f.s (fv f) f.ps) (hL1 : L.a1 = M.a) (hL2 : L.a2 = M.a + 1) (k : Nat) (hk : k < f.s.n) (u x : Int) (hB : RkIn f k u) (hp : f.pc k = 1) (hv : tellS f.ps u 3 (L.cA (f.cl k)) = 0) :
    Calls Tryz.prog 112 #[.pointer (some ⟨M.r, 0, none⟩), .pointer (some ⟨M.pr, 0, none⟩), .int .i64 (k : Int), .int .i64 u] w (RkPost w M bk dv f.s (vk (fv f) k (f.cl k) 3 (f.nd k) (tellS f.ps u 3 (L.cA (f.cl k))) (f.of k) (f.wv k)) (doS f.ps u 3 (L.cA (f.cl k)) 0 (f.nd k)) (Dd.rval ⟨0, true, false, false⟩)) := by
  obtain ⟨Z, hZ⟩ : ∃ Z, Z = (w.alloc (.cells #[.int .i64 0, .int .i64 0, .int .i64 0, .int .i64 0] 105)).alloc (.cells #[.int .i64 0, .int .i64 0, .int .i64 0, .int .i64 0] 105) := ⟨_, rfl⟩
  obtain ⟨hF0, hR, hWZ⟩ := h.start Z hZ
  have hF : Fm w Z M bk dv f.s (vk (fv f) k (f.cl k) 1 (f.nd k) (f.ahd k) (f.of k) (f.wv k)) f.ps w.heap.size (w.heap.size + 1) Dd.no := by
    have e : vk (fv f) k (f.cl k) 1 (f.nd k) (f.ahd k) (f.of k) (f.wv k) = fv f := by have := vk_self (fv f) k; rw [show fv f 1 k = 1 from hp] at this; exact this
    rw [e]; exact hF0
  have i0 : (0 : Int) ≤ (k : Int) := by omega
  have i1 : (k : Int) < f.s.n := by omega
  have hRd := hR.after (w' := Z.drew) ((Wrote.refl Nil Z).drew) fun _ _ => id
  have bz : M.base ≤ Z.drew.heap.size := Nat.le_trans h.hb hWZ.size
  have hA0 := (h.raw.after ((Wrote.refl Nil w).alloc (.cells #[.int .i64 0, .int .i64 0, .int .i64 0, .int .i64 0] 105))).cells hk
  have k2 := hA0.c2
  have k3 := hA0.c3
  have k4 : (w.alloc (.cells #[.int .i64 0, .int .i64 0, .int .i64 0, .int .i64 0] 105)).cell? ⟨M.rw 0, k, none⟩ = some (.int .i64 (f.cl k)) := hA0.r0
  have k5 : (w.alloc (.cells #[.int .i64 0, .int .i64 0, .int .i64 0, .int .i64 0] 105)).cell? ⟨M.rw 1, k, none⟩ = some (.int .i64 1) := by have := hA0.r1; rw [show fv f 1 k = 1 from hp] at this; exact this
  clear hA0
  obtain ⟨hcl, hnd, hah, hof, hwv, hT⟩ := hB
  have ma := h.ha
  have eA : L.cA (f.cl k) = M.a + 1 + (f.cl k) := by unfold Lp.cA; omega
  have hT0 := hT 3 (L.cA (f.cl k))
  have cA := ra_swap hRd u (L.cA (f.cl k)) (f.nd k) hnd.1 hnd.2 h.hD h.hws h.hac bz
  rw [eA] at cA hT0 hv ⊢
  generalize tellS f.ps u 3 (M.a + 1 + f.cl k) = v at *
  have w1 : IntKind.i64.wrap (M.a + 1) = M.a + 1 := by rw [IntKind.wrap_i64]; omega
  have w2 : IntKind.i64.wrap (M.a + 1 + f.cl k) = M.a + 1 + f.cl k := by rw [IntKind.wrap_i64]; omega
  have w3 : IntKind.i64.wrap (v) = v := by rw [IntKind.wrap_i64]; omega
  have w4 : IntKind.u32.wrap (f.nd k) = f.nd k := by show f.nd k % 4294967296 = _; omega
  subst hv
  clear eA hT0
  have nA := hF.raw.cellsK hk
  have nc1 : Z.drew.cell? ⟨M.r, 1, none⟩ = some (.int .i64 M.a) := nA.c1
  have nc4 : Z.drew.cell? ⟨M.r, 4, none⟩ = some (.slice (some ⟨M.rw 2, 0, none⟩) f.s.n M.nc) := nA.c4
  have nc5 : Z.drew.cell? ⟨M.r, 5, none⟩ = some (.slice (some ⟨M.rw 3, 0, none⟩) f.s.n f.s.n) := nA.c5
  have nr2 : Z.drew.cell? ⟨M.rw 2, k, none⟩ = some (.int .i64 (f.nd k)) := nA.r2
  clear nA
  have HE := Lib.hid (And.intro h (And.intro hk hF))
  clear h hF hF0 hR hRd hWZ bz hp hcl hnd hah hof hwv hT ma
  go_enter Tryz.func112, Tryz.ntmps112
  go_upto_region 4 with fail
  rw [← hZ]
  clear hZ k2 k3 k4 k5
  go_wp2
  go_region_held3 (fun w' => w'.cell? ⟨M.r, 1, none⟩ = some (.int .i64 M.a) ∧ w'.cell? ⟨M.r, 4, none⟩ = some (.slice (some ⟨M.rw 2, 0, none⟩) f.s.n M.nc) ∧ w'.cell? ⟨M.r, 5, none⟩ = some (.slice (some ⟨M.rw 3, 0, none⟩) f.s.n f.s.n) ∧ w'.cell? ⟨M.rw 2, k, none⟩ = some (.int .i64 (f.nd k))) (first | with_reducible exact ⟨bc1, bc4, bc5, br2⟩ | with_reducible exact ⟨ac1, ac4, ac5, ar2⟩ | exact ⟨nc1, nc4, nc5, nr2⟩) (first | (go_at_call 118; (with_reducible refine cA.mono ?_); intro e w2 hq; unfold RaPost at hq; obtain ⟨rfl, hRS, hW⟩ := hq; have hA := HE.out.2.2.drew.port hRS hW; have aA := hA.raw.cellsK HE.out.2.1; have ac1 := aA.c1; have ac4 := aA.c4; have ac5 := aA.c5; have ar2 := aA.r2; clear aA; have aB := hA.raw.cellsK HE.out.2.1; have az3 := aB.z3; have as3 := aB.r3; clear aB; have hB3 := hA.s3 0; have bA := hB3.raw.cellsK HE.out.2.1; have bc1 := bA.c1; have bc4 := bA.c4; have bc5 := bA.c5; have br2 := bA.r2; clear bA; obtain ⟨bd0, bd1, bd2, bd3⟩ := hB3.dcell; obtain ⟨by0, by1, by2, by3⟩ := hB3.dfrz; have hD3 := hB3.setD 1 (.int .i64 1) ⟨0, true, false, false⟩ rfl; have dc5 := (hD3.raw.cellsK HE.out.2.1).c5; have dr3 := (hD3.raw.cellsK HE.out.2.1).r3; have eB := hD3.raw.cellsK HE.out.2.1; have ez1 := eB.z1; have es1 := eB.r1; clear eB; have ec3 := (hD3.raw.cellsK HE.out.2.1).c3; have hS := hD3.s1 3; obtain ⟨q0, q1, q2, q3⟩ := hS.dcell; obtain ⟨u0, u1, u2, u3⟩ := hS.rcell; obtain ⟨t0, t1, t2, t3⟩ := hS.rfrz; have HT := Lib.hid hS; clear hS; clear hB3 hD3; clear hA hRS hW))
  go_wp2
  refine bodyPost_ret (v := Dd.rval ⟨0, true, false, false⟩) (results_cell_row rfl _ _ w.heap.size 105 _ (0, 0) _ rfl (set4 HT.out.res rfl _ _ _ _) Tryz.underlying105 rfl i_rid) rfl HT.out.told

set_option maxHeartbeats 4000000 in
theorem rl_lock1b {w : World} {M : Mp} {bk : Nat} {so : Option Addr} {cap : Nat} {dv : Value} {f : FL} {L : Lp} (h : MsIn w M bk so cap dv f.s (fv f) f.ps) (hL1 : L.a1 = M.a) (hL2 : L.a2 = M.a + 1) (k : Nat) (hk : k < f.s.n) (u x : Int) (hB : RkIn f k u) (hp : f.pc k = 1) (hv : tellS f.ps u 3 (L.cA (f.cl k)) ≠ 0) :
    Calls Tryz.prog 112 #[.pointer (some ⟨M.r, 0, none⟩), .pointer (some ⟨M.pr, 0, none⟩), .int .i64 (k : Int), .int .i64 u] w (RkPost w M bk dv f.s (vk (fv f) k (f.cl k) 2 (f.nd k) (tellS f.ps u 3 (L.cA (f.cl k))) (f.of k) (f.wv k)) (doS f.ps u 3 (L.cA (f.cl k)) 0 (f.nd k)) (Dd.rval ⟨0, true, false, false⟩)) := by
  obtain ⟨Z, hZ⟩ : ∃ Z, Z = (w.alloc (.cells #[.int .i64 0, .int .i64 0, .int .i64 0, .int .i64 0] 105)).alloc (.cells #[.int .i64 0, .int .i64 0, .int .i64 0, .int .i64 0] 105) := ⟨_, rfl⟩
  obtain ⟨hF0, hR, hWZ⟩ := h.start Z hZ
  have hF : Fm w Z M bk dv f.s (vk (fv f) k (f.cl k) 1 (f.nd k) (f.ahd k) (f.of k) (f.wv k)) f.ps w.heap.size (w.heap.size + 1) Dd.no := by
    have e : vk (fv f) k (f.cl k) 1 (f.nd k) (f.ahd k) (f.of k) (f.wv k) = fv f := by have := vk_self (fv f) k; rw [show fv f 1 k = 1 from hp] at this; exact this
    rw [e]; exact hF0
  have i0 : (0 : Int) ≤ (k : Int) := by omega
  have i1 : (k : Int) < f.s.n := by omega
  have hRd := hR.after (w' := Z.drew) ((Wrote.refl Nil Z).drew) fun _ _ => id
  have bz : M.base ≤ Z.drew.heap.size := Nat.le_trans h.hb hWZ.size
  have hA0 := (h.raw.after ((Wrote.refl Nil w).alloc (.cells #[.int .i64 0, .int .i64 0, .int .i64 0, .int .i64 0] 105))).cells hk
  have k2 := hA0.c2
  have k3 := hA0.c3
  have k4 : (w.alloc (.cells #[.int .i64 0, .int .i64 0, .int .i64 0, .int .i64 0] 105)).cell? ⟨M.rw 0, k, none⟩ = some (.int .i64 (f.cl k)) := hA0.r0
  have k5 : (w.alloc (.cells #[.int .i64 0, .int .i64 0, .int .i64 0, .int .i64 0] 105)).cell? ⟨M.rw 1, k, none⟩ = some (.int .i64 1) := by have := hA0.r1; rw [show fv f 1 k = 1 from hp] at this; exact this
  clear hA0
  obtain ⟨hcl, hnd, hah, hof, hwv, hT⟩ := hB
  have ma := h.ha
  have eA : L.cA (f.cl k) = M.a + 1 + (f.cl k) := by unfold Lp.cA; omega
  have hT0 := hT 3 (L.cA (f.cl k))
  have cA := ra_swap hRd u (L.cA (f.cl k)) (f.nd k) hnd.1 hnd.2 h.hD h.hws h.hac bz
  rw [eA] at cA hT0 hv ⊢
  generalize tellS f.ps u 3 (M.a + 1 + f.cl k) = v at *
  have w1 : IntKind.i64.wrap (M.a + 1) = M.a + 1 := by rw [IntKind.wrap_i64]; omega
  have w2 : IntKind.i64.wrap (M.a + 1 + f.cl k) = M.a + 1 + f.cl k := by rw [IntKind.wrap_i64]; omega
  have w3 : IntKind.i64.wrap (v) = v := by rw [IntKind.wrap_i64]; omega
  have w4 : IntKind.u32.wrap (f.nd k) = f.nd k := by show f.nd k % 4294967296 = _; omega
  have b1 : (v == 0) = false := beq_false_of_ne hv
  clear hv
  clear eA hT0
  have nA := hF.raw.cellsK hk
  have nc1 : Z.drew.cell? ⟨M.r, 1, none⟩ = some (.int .i64 M.a) := nA.c1
  have nc4 : Z.drew.cell? ⟨M.r, 4, none⟩ = some (.slice (some ⟨M.rw 2, 0, none⟩) f.s.n M.nc) := nA.c4
  have nc5 : Z.drew.cell? ⟨M.r, 5, none⟩ = some (.slice (some ⟨M.rw 3, 0, none⟩) f.s.n f.s.n) := nA.c5
  have nr2 : Z.drew.cell? ⟨M.rw 2, k, none⟩ = some (.int .i64 (f.nd k)) := nA.r2
  clear nA
  have HE := Lib.hid (And.intro h (And.intro hk hF))
  clear h hF hF0 hR hRd hWZ bz hp hcl hnd hah hof hwv hT ma
  go_enter Tryz.func112, Tryz.ntmps112
  go_upto_region 4 with fail
  rw [← hZ]
  clear hZ k2 k3 k4 k5
  go_wp2
  go_region_held3 (fun w' => w'.cell? ⟨M.r, 1, none⟩ = some (.int .i64 M.a) ∧ w'.cell? ⟨M.r, 4, none⟩ = some (.slice (some ⟨M.rw 2, 0, none⟩) f.s.n M.nc) ∧ w'.cell? ⟨M.r, 5, none⟩ = some (.slice (some ⟨M.rw 3, 0, none⟩) f.s.n f.s.n) ∧ w'.cell? ⟨M.rw 2, k, none⟩ = some (.int .i64 (f.nd k))) (first | with_reducible exact ⟨bc1, bc4, bc5, br2⟩ | with_reducible exact ⟨ac1, ac4, ac5, ar2⟩ | exact ⟨nc1, nc4, nc5, nr2⟩) (first | (go_at_call 118; (with_reducible refine cA.mono ?_); intro e w2 hq; unfold RaPost at hq; obtain ⟨rfl, hRS, hW⟩ := hq; have hA := HE.out.2.2.drew.port hRS hW; have aA := hA.raw.cellsK HE.out.2.1; have ac1 := aA.c1; have ac4 := aA.c4; have ac5 := aA.c5; have ar2 := aA.r2; clear aA; have aB := hA.raw.cellsK HE.out.2.1; have az3 := aB.z3; have as3 := aB.r3; clear aB; have hB3 := hA.s3 v; have bA := hB3.raw.cellsK HE.out.2.1; have bc1 := bA.c1; have bc4 := bA.c4; have bc5 := bA.c5; have br2 := bA.r2; clear bA; obtain ⟨bd0, bd1, bd2, bd3⟩ := hB3.dcell; obtain ⟨by0, by1, by2, by3⟩ := hB3.dfrz; have hD3 := hB3.setD 1 (.int .i64 1) ⟨0, true, false, false⟩ rfl; have dc5 := (hD3.raw.cellsK HE.out.2.1).c5; have dr3 := (hD3.raw.cellsK HE.out.2.1).r3; have eB := hD3.raw.cellsK HE.out.2.1; have ez1 := eB.z1; have es1 := eB.r1; clear eB; have ec3 := (hD3.raw.cellsK HE.out.2.1).c3; have hS := hD3.s1 2; obtain ⟨q0, q1, q2, q3⟩ := hS.dcell; obtain ⟨u0, u1, u2, u3⟩ := hS.rcell; obtain ⟨t0, t1, t2, t3⟩ := hS.rfrz; have HT := Lib.hid hS; clear hS; clear hB3 hD3; clear hA hRS hW))
  go_wp2
  refine bodyPost_ret (v := Dd.rval ⟨0, true, false, false⟩) (results_cell_row rfl _ _ w.heap.size 105 _ (0, 0) _ rfl (set4 HT.out.res rfl _ _ _ _) Tryz.underlying105 rfl i_rid) rfl HT.out.told

set_option maxHeartbeats 4000000 in
theorem rl_lock2a {w : World} {M : Mp} {bk : Nat} {so : Option Addr} {cap : Nat} {dv : Value} {f : FL} {L : Lp} (h : MsIn w M bk so cap dv f.s (fv f) f.ps) (hL1 : L.a1 = M.a) (hL2 : L.a2 = M.a + 1) (k : Nat) (hk : k < f.s.n) (u x : Int) (hB : RkIn f k u) (hp : f.pc k = 2) (h1 : wCl (tellS f.ps u 1 (L.nA (f.ahd k))) ≠ f.cl k) :
    Calls Tryz.prog 112 #[.pointer (some ⟨M.r, 0, none⟩), .pointer (some ⟨M.pr, 0, none⟩), .int .i64 (k : Int), .int .i64 u] w (RkPost w M bk dv f.s (vk (fv f) k (f.cl k) 3 (f.nd k) (f.ahd k) (f.of k) (f.wv k)) (doS f.ps u 1 (L.nA (f.ahd k)) 0 0) (Dd.rval Dd.no)) := by
  obtain ⟨Z, hZ⟩ : ∃ Z, Z = (w.alloc (.cells #[.int .i64 0, .int .i64 0, .int .i64 0, .int .i64 0] 105)).alloc (.cells #[.int .i64 0, .int .i64 0, .int .i64 0, .int .i64 0] 105) := ⟨_, rfl⟩
  obtain ⟨hF0, hR, hWZ⟩ := h.start Z hZ
  have hF : Fm w Z M bk dv f.s (vk (fv f) k (f.cl k) 2 (f.nd k) (f.ahd k) (f.of k) (f.wv k)) f.ps w.heap.size (w.heap.size + 1) Dd.no := by
    have e : vk (fv f) k (f.cl k) 2 (f.nd k) (f.ahd k) (f.of k) (f.wv k) = fv f := by have := vk_self (fv f) k; rw [show fv f 1 k = 2 from hp] at this; exact this
    rw [e]; exact hF0
  have i0 : (0 : Int) ≤ (k : Int) := by omega
  have i1 : (k : Int) < f.s.n := by omega
  have hRd := hR.after (w' := Z.drew) ((Wrote.refl Nil Z).drew) fun _ _ => id
  have bz : M.base ≤ Z.drew.heap.size := Nat.le_trans h.hb hWZ.size
  have hA0 := (h.raw.after ((Wrote.refl Nil w).alloc (.cells #[.int .i64 0, .int .i64 0, .int .i64 0, .int .i64 0] 105))).cells hk
  have k2 := hA0.c2
  have k3 := hA0.c3
  have k4 : (w.alloc (.cells #[.int .i64 0, .int .i64 0, .int .i64 0, .int .i64 0] 105)).cell? ⟨M.rw 0, k, none⟩ = some (.int .i64 (f.cl k)) := hA0.r0
  have k5 : (w.alloc (.cells #[.int .i64 0, .int .i64 0, .int .i64 0, .int .i64 0] 105)).cell? ⟨M.rw 1, k, none⟩ = some (.int .i64 2) := by have := hA0.r1; rw [show fv f 1 k = 2 from hp] at this; exact this
  clear hA0
  obtain ⟨hcl, hnd, hah, hof, hwv, hT⟩ := hB
  have ma := h.ha
  have hT0 := hT 1 (L.nA (f.ahd k))
  have cA := ra_load hRd u (L.nA (f.ahd k)) h.hD h.hws h.hac bz
  generalize tellS f.ps u 1 (L.nA (f.ahd k)) = v at *
  have cQ := rp_parts v hT0
  have eA : L.nA (f.ahd k) = M.a + 8 + (f.ahd k) := by unfold Lp.nA; omega
  rw [eA] at cA ⊢
  have b1 : (wCl v == f.cl k) = false := beq_false_of_ne h1
  clear h1
  have w1 : IntKind.i64.wrap (M.a + 8) = M.a + 8 := by rw [IntKind.wrap_i64]; omega
  have w2 : IntKind.i64.wrap (M.a + 8 + f.ahd k) = M.a + 8 + f.ahd k := by rw [IntKind.wrap_i64]; omega
  clear eA hT0
  generalize wCl v = vc at *
  generalize wWt v = vw at *
  generalize wSp v = vs at *
  have nA := hF.raw.cellsK hk
  have nc1 : Z.drew.cell? ⟨M.r, 1, none⟩ = some (.int .i64 M.a) := nA.c1
  have nc5 : Z.drew.cell? ⟨M.r, 5, none⟩ = some (.slice (some ⟨M.rw 3, 0, none⟩) f.s.n f.s.n) := nA.c5
  have nr3 : Z.drew.cell? ⟨M.rw 3, k, none⟩ = some (.int .i64 (f.ahd k)) := nA.r3
  clear nA
  have HE := Lib.hid (And.intro h (And.intro hk hF))
  clear h hF hF0 hR hRd hWZ bz hp hcl hnd hah hof hwv hT ma
  go_enter Tryz.func112, Tryz.ntmps112
  go_upto_region 4 with fail
  rw [← hZ]
  clear hZ k2 k3 k4 k5
  go_wp2
  go_region_held3 (fun w' => w'.cell? ⟨M.r, 1, none⟩ = some (.int .i64 M.a) ∧ w'.cell? ⟨M.r, 5, none⟩ = some (.slice (some ⟨M.rw 3, 0, none⟩) f.s.n f.s.n) ∧ w'.cell? ⟨M.rw 3, k, none⟩ = some (.int .i64 (f.ahd k))) (first | with_reducible exact ⟨ac1, ac5, ar3⟩ | exact ⟨nc1, nc5, nr3⟩) (first | (go_at_call 114; (with_reducible refine (cQ _).mono ?_); rintro e w' ⟨rfl, rfl⟩) | (go_at_call 113; (with_reducible refine cA.mono ?_); intro e w2 hq; unfold RaPost at hq; obtain ⟨rfl, hRS, hW⟩ := hq; have hA := HE.out.2.2.drew.port hRS hW; have aA := hA.raw.cellsK HE.out.2.1; have ac1 := aA.c1; have ac5 := aA.c5; have ar3 := aA.r3; clear aA; have eB := hA.raw.cellsK HE.out.2.1; have ez1 := eB.z1; have es1 := eB.r1; clear eB; have ec3 := (hA.raw.cellsK HE.out.2.1).c3; have hS := hA.s1 3; obtain ⟨q0, q1, q2, q3⟩ := hS.dcell; obtain ⟨u0, u1, u2, u3⟩ := hS.rcell; obtain ⟨t0, t1, t2, t3⟩ := hS.rfrz; have HT := Lib.hid hS; clear hS; clear hA hRS hW))
  go_wp2
  refine bodyPost_ret (v := Dd.rval Dd.no) (results_cell_row rfl _ _ w.heap.size 105 _ (0, 0) _ rfl (set4 HT.out.res rfl _ _ _ _) Tryz.underlying105 rfl i_rid) rfl HT.out.told

set_option maxHeartbeats 4000000 in
theorem rl_lock2b {w : World} {M : Mp} {bk : Nat} {so : Option Addr} {cap : Nat} {dv : Value} {f : FL} {L : Lp} (h : MsIn w M bk so cap dv f.s (fv f) f.ps) (hL1 : L.a1 = M.a) (hL2 : L.a2 = M.a + 1) (k : Nat) (hk : k < f.s.n) (u x : Int) (hB : RkIn f k u) (hp : f.pc k = 2) (h1 : wCl (tellS f.ps u 1 (L.nA (f.ahd k))) = f.cl k) (h2 : wSp (tellS f.ps u 1 (L.nA (f.ahd k))) ≠ 0) :
    Calls Tryz.prog 112 #[.pointer (some ⟨M.r, 0, none⟩), .pointer (some ⟨M.pr, 0, none⟩), .int .i64 (k : Int), .int .i64 u] w (RkPost w M bk dv f.s (vk (fv f) k (f.cl k) 3 (f.nd k) (f.ahd k) (f.of k) (f.wv k)) (doS f.ps u 1 (L.nA (f.ahd k)) 0 0) (Dd.rval Dd.no)) := by
  obtain ⟨Z, hZ⟩ : ∃ Z, Z = (w.alloc (.cells #[.int .i64 0, .int .i64 0, .int .i64 0, .int .i64 0] 105)).alloc (.cells #[.int .i64 0, .int .i64 0, .int .i64 0, .int .i64 0] 105) := ⟨_, rfl⟩
  obtain ⟨hF0, hR, hWZ⟩ := h.start Z hZ
  have hF : Fm w Z M bk dv f.s (vk (fv f) k (f.cl k) 2 (f.nd k) (f.ahd k) (f.of k) (f.wv k)) f.ps w.heap.size (w.heap.size + 1) Dd.no := by
    have e : vk (fv f) k (f.cl k) 2 (f.nd k) (f.ahd k) (f.of k) (f.wv k) = fv f := by have := vk_self (fv f) k; rw [show fv f 1 k = 2 from hp] at this; exact this
    rw [e]; exact hF0
  have i0 : (0 : Int) ≤ (k : Int) := by omega
  have i1 : (k : Int) < f.s.n := by omega
  have hRd := hR.after (w' := Z.drew) ((Wrote.refl Nil Z).drew) fun _ _ => id
  have bz : M.base ≤ Z.drew.heap.size := Nat.le_trans h.hb hWZ.size
  have hA0 := (h.raw.after ((Wrote.refl Nil w).alloc (.cells #[.int .i64 0, .int .i64 0, .int .i64 0, .int .i64 0] 105))).cells hk
  have k2 := hA0.c2
  have k3 := hA0.c3
  have k4 : (w.alloc (.cells #[.int .i64 0, .int .i64 0, .int .i64 0, .int .i64 0] 105)).cell? ⟨M.rw 0, k, none⟩ = some (.int .i64 (f.cl k)) := hA0.r0
  have k5 : (w.alloc (.cells #[.int .i64 0, .int .i64 0, .int .i64 0, .int .i64 0] 105)).cell? ⟨M.rw 1, k, none⟩ = some (.int .i64 2) := by have := hA0.r1; rw [show fv f 1 k = 2 from hp] at this; exact this
  clear hA0
  obtain ⟨hcl, hnd, hah, hof, hwv, hT⟩ := hB
  have ma := h.ha
  have hT0 := hT 1 (L.nA (f.ahd k))
  have cA := ra_load hRd u (L.nA (f.ahd k)) h.hD h.hws h.hac bz
  generalize tellS f.ps u 1 (L.nA (f.ahd k)) = v at *
  have cQ := rp_parts v hT0
  have eA : L.nA (f.ahd k) = M.a + 8 + (f.ahd k) := by unfold Lp.nA; omega
  rw [eA] at cA ⊢
  have b1 : (wCl v == f.cl k) = true := by rw [h1]; simp
  have b2 : (wSp v == 0) = false := beq_false_of_ne h2
  clear h1 h2
  have w1 : IntKind.i64.wrap (M.a + 8) = M.a + 8 := by rw [IntKind.wrap_i64]; omega
  have w2 : IntKind.i64.wrap (M.a + 8 + f.ahd k) = M.a + 8 + f.ahd k := by rw [IntKind.wrap_i64]; omega
  clear eA hT0
  generalize wCl v = vc at *
  generalize wWt v = vw at *
  generalize wSp v = vs at *
  have nA := hF.raw.cellsK hk
  have nc1 : Z.drew.cell? ⟨M.r, 1, none⟩ = some (.int .i64 M.a) := nA.c1
  have nc5 : Z.drew.cell? ⟨M.r, 5, none⟩ = some (.slice (some ⟨M.rw 3, 0, none⟩) f.s.n f.s.n) := nA.c5
  have nr3 : Z.drew.cell? ⟨M.rw 3, k, none⟩ = some (.int .i64 (f.ahd k)) := nA.r3
  clear nA
  have HE := Lib.hid (And.intro h (And.intro hk hF))
  clear h hF hF0 hR hRd hWZ bz hp hcl hnd hah hof hwv hT ma
  go_enter Tryz.func112, Tryz.ntmps112
  go_upto_region 4 with fail
  rw [← hZ]
  clear hZ k2 k3 k4 k5
  go_wp2
  go_region_held3 (fun w' => w'.cell? ⟨M.r, 1, none⟩ = some (.int .i64 M.a) ∧ w'.cell? ⟨M.r, 5, none⟩ = some (.slice (some ⟨M.rw 3, 0, none⟩) f.s.n f.s.n) ∧ w'.cell? ⟨M.rw 3, k, none⟩ = some (.int .i64 (f.ahd k))) (first | with_reducible exact ⟨ac1, ac5, ar3⟩ | exact ⟨nc1, nc5, nr3⟩) (first | (go_at_call 114; (with_reducible refine (cQ _).mono ?_); rintro e w' ⟨rfl, rfl⟩) | (go_at_call 113; (with_reducible refine cA.mono ?_); intro e w2 hq; unfold RaPost at hq; obtain ⟨rfl, hRS, hW⟩ := hq; have hA := HE.out.2.2.drew.port hRS hW; have aA := hA.raw.cellsK HE.out.2.1; have ac1 := aA.c1; have ac5 := aA.c5; have ar3 := aA.r3; clear aA; have eB := hA.raw.cellsK HE.out.2.1; have ez1 := eB.z1; have es1 := eB.r1; clear eB; have ec3 := (hA.raw.cellsK HE.out.2.1).c3; have hS := hA.s1 3; obtain ⟨q0, q1, q2, q3⟩ := hS.dcell; obtain ⟨u0, u1, u2, u3⟩ := hS.rcell; obtain ⟨t0, t1, t2, t3⟩ := hS.rfrz; have HT := Lib.hid hS; clear hS; clear hA hRS hW))
  go_wp2
  refine bodyPost_ret (v := Dd.rval Dd.no) (results_cell_row rfl _ _ w.heap.size 105 _ (0, 0) _ rfl (set4 HT.out.res rfl _ _ _ _) Tryz.underlying105 rfl i_rid) rfl HT.out.told

set_option maxHeartbeats 4000000 in
theorem rl_lock2c {w : World} {M : Mp} {bk : Nat} {so : Option Addr} {cap : Nat} {dv : Value} {f : FL} {L : Lp} (h : MsIn w M bk so cap dv f.s (fv f) f.ps) (hL1 : L.a1 = M.a) (hL2 : L.a2 = M.a + 1) (k : Nat) (hk : k < f.s.n) (u x : Int) (hB : RkIn f k u) (hp : f.pc k = 2) (h1 : wCl (tellS f.ps u 1 (L.nA (f.ahd k))) = f.cl k) (h2 : wSp (tellS f.ps u 1 (L.nA (f.ahd k))) = 0) (h3 : wWt (tellS f.ps u 1 (L.nA (f.ahd k))) ≠ 0) :
    Calls Tryz.prog 112 #[.pointer (some ⟨M.r, 0, none⟩), .pointer (some ⟨M.pr, 0, none⟩), .int .i64 (k : Int), .int .i64 u] w (RkPost w M bk dv f.s (vk (fv f) k (f.cl k) 2 (f.nd k) (f.ahd k) (f.of k) (f.wv k)) (doS f.ps u 1 (L.nA (f.ahd k)) 0 0) (Dd.rval Dd.no)) := by
  obtain ⟨Z, hZ⟩ : ∃ Z, Z = (w.alloc (.cells #[.int .i64 0, .int .i64 0, .int .i64 0, .int .i64 0] 105)).alloc (.cells #[.int .i64 0, .int .i64 0, .int .i64 0, .int .i64 0] 105) := ⟨_, rfl⟩
  obtain ⟨hF0, hR, hWZ⟩ := h.start Z hZ
  have hF : Fm w Z M bk dv f.s (vk (fv f) k (f.cl k) 2 (f.nd k) (f.ahd k) (f.of k) (f.wv k)) f.ps w.heap.size (w.heap.size + 1) Dd.no := by
    have e : vk (fv f) k (f.cl k) 2 (f.nd k) (f.ahd k) (f.of k) (f.wv k) = fv f := by have := vk_self (fv f) k; rw [show fv f 1 k = 2 from hp] at this; exact this
    rw [e]; exact hF0
  have i0 : (0 : Int) ≤ (k : Int) := by omega
  have i1 : (k : Int) < f.s.n := by omega
  have hRd := hR.after (w' := Z.drew) ((Wrote.refl Nil Z).drew) fun _ _ => id
  have bz : M.base ≤ Z.drew.heap.size := Nat.le_trans h.hb hWZ.size
  have hA0 := (h.raw.after ((Wrote.refl Nil w).alloc (.cells #[.int .i64 0, .int .i64 0, .int .i64 0, .int .i64 0] 105))).cells hk
  have k2 := hA0.c2
  have k3 := hA0.c3
  have k4 : (w.alloc (.cells #[.int .i64 0, .int .i64 0, .int .i64 0, .int .i64 0] 105)).cell? ⟨M.rw 0, k, none⟩ = some (.int .i64 (f.cl k)) := hA0.r0
  have k5 : (w.alloc (.cells #[.int .i64 0, .int .i64 0, .int .i64 0, .int .i64 0] 105)).cell? ⟨M.rw 1, k, none⟩ = some (.int .i64 2) := by have := hA0.r1; rw [show fv f 1 k = 2 from hp] at this; exact this
  clear hA0
  obtain ⟨hcl, hnd, hah, hof, hwv, hT⟩ := hB
  have ma := h.ha
  have hT0 := hT 1 (L.nA (f.ahd k))
  have cA := ra_load hRd u (L.nA (f.ahd k)) h.hD h.hws h.hac bz
  generalize tellS f.ps u 1 (L.nA (f.ahd k)) = v at *
  have cQ := rp_parts v hT0
  have eA : L.nA (f.ahd k) = M.a + 8 + (f.ahd k) := by unfold Lp.nA; omega
  rw [eA] at cA ⊢
  have b1 : (wCl v == f.cl k) = true := by rw [h1]; simp
  have b2 : (wSp v == 0) = true := by rw [h2]; rfl
  have b3 : (wWt v == 0) = false := beq_false_of_ne h3
  clear h1 h2 h3
  have w1 : IntKind.i64.wrap (M.a + 8) = M.a + 8 := by rw [IntKind.wrap_i64]; omega
  have w2 : IntKind.i64.wrap (M.a + 8 + f.ahd k) = M.a + 8 + f.ahd k := by rw [IntKind.wrap_i64]; omega
  clear eA hT0
  generalize wCl v = vc at *
  generalize wWt v = vw at *
  generalize wSp v = vs at *
  have nA := hF.raw.cellsK hk
  have nc1 : Z.drew.cell? ⟨M.r, 1, none⟩ = some (.int .i64 M.a) := nA.c1
  have nc5 : Z.drew.cell? ⟨M.r, 5, none⟩ = some (.slice (some ⟨M.rw 3, 0, none⟩) f.s.n f.s.n) := nA.c5
  have nr3 : Z.drew.cell? ⟨M.rw 3, k, none⟩ = some (.int .i64 (f.ahd k)) := nA.r3
  clear nA
  have HE := Lib.hid (And.intro h (And.intro hk hF))
  clear h hF hF0 hR hRd hWZ bz hp hcl hnd hah hof hwv hT ma
  go_enter Tryz.func112, Tryz.ntmps112
  go_upto_region 4 with fail
  rw [← hZ]
  clear hZ k2 k3 k4 k5
  go_wp2
  go_region_held3 (fun w' => w'.cell? ⟨M.r, 1, none⟩ = some (.int .i64 M.a) ∧ w'.cell? ⟨M.r, 5, none⟩ = some (.slice (some ⟨M.rw 3, 0, none⟩) f.s.n f.s.n) ∧ w'.cell? ⟨M.rw 3, k, none⟩ = some (.int .i64 (f.ahd k))) (first | with_reducible exact ⟨ac1, ac5, ar3⟩ | exact ⟨nc1, nc5, nr3⟩) (first | (go_at_call 114; (with_reducible refine (cQ _).mono ?_); rintro e w' ⟨rfl, rfl⟩) | (go_at_call 113; (with_reducible refine cA.mono ?_); intro e w2 hq; unfold RaPost at hq; obtain ⟨rfl, hRS, hW⟩ := hq; have hA := HE.out.2.2.drew.port hRS hW; have aA := hA.raw.cellsK HE.out.2.1; have ac1 := aA.c1; have ac5 := aA.c5; have ar3 := aA.r3; clear aA; have eB := hA.raw.cellsK HE.out.2.1; have ez1 := eB.z1; have es1 := eB.r1; clear eB; have ec3 := (hA.raw.cellsK HE.out.2.1).c3; have hS := hA.s1 2; obtain ⟨q0, q1, q2, q3⟩ := hS.dcell; obtain ⟨u0, u1, u2, u3⟩ := hS.rcell; obtain ⟨t0, t1, t2, t3⟩ := hS.rfrz; have HT := Lib.hid hS; clear hS; clear hA hRS hW))
  go_wp2
  refine bodyPost_ret (v := Dd.rval Dd.no) (results_cell_row rfl _ _ w.heap.size 105 _ (0, 0) _ rfl (set4 HT.out.res rfl _ _ _ _) Tryz.underlying105 rfl i_rid) rfl HT.out.told

set_option maxHeartbeats 4000000 in
theorem rl_lock2d {w : World} {M : Mp} {bk : Nat} {so : Option Addr} {cap : Nat} {dv : Value} {f : FL} {L : Lp} (h : MsIn w M bk so cap dv f.s (fv f) f.ps) (hL1 : L.a1 = M.a) (hL2 : L.a2 = M.a + 1) (k : Nat) (hk : k < f.s.n) (u x : Int) (hB : RkIn f k u) (hp : f.pc k = 2) (h1 : wCl (tellS f.ps u 1 (L.nA (f.ahd k))) = f.cl k) (h2 : wSp (tellS f.ps u 1 (L.nA (f.ahd k))) = 0) (h3 : wWt (tellS f.ps u 1 (L.nA (f.ahd k))) = 0) :
    Calls Tryz.prog 112 #[.pointer (some ⟨M.r, 0, none⟩), .pointer (some ⟨M.pr, 0, none⟩), .int .i64 (k : Int), .int .i64 u] w (RkPost w M bk dv f.s (vk (fv f) k (f.cl k) 0 (f.nd k) (f.ahd k) (f.of k) (f.wv k)) (doS f.ps u 1 (L.nA (f.ahd k)) 0 0) (Dd.rval ⟨1, false, false, false⟩)) := by
  obtain ⟨Z, hZ⟩ : ∃ Z, Z = (w.alloc (.cells #[.int .i64 0, .int .i64 0, .int .i64 0, .int .i64 0] 105)).alloc (.cells #[.int .i64 0, .int .i64 0, .int .i64 0, .int .i64 0] 105) := ⟨_, rfl⟩
  obtain ⟨hF0, hR, hWZ⟩ := h.start Z hZ
  have hF : Fm w Z M bk dv f.s (vk (fv f) k (f.cl k) 2 (f.nd k) (f.ahd k) (f.of k) (f.wv k)) f.ps w.heap.size (w.heap.size + 1) Dd.no := by
    have e : vk (fv f) k (f.cl k) 2 (f.nd k) (f.ahd k) (f.of k) (f.wv k) = fv f := by have := vk_self (fv f) k; rw [show fv f 1 k = 2 from hp] at this; exact this
    rw [e]; exact hF0
  have i0 : (0 : Int) ≤ (k : Int) := by omega
  have i1 : (k : Int) < f.s.n := by omega
  have hRd := hR.after (w' := Z.drew) ((Wrote.refl Nil Z).drew) fun _ _ => id
  have bz : M.base ≤ Z.drew.heap.size := Nat.le_trans h.hb hWZ.size
  have hA0 := (h.raw.after ((Wrote.refl Nil w).alloc (.cells #[.int .i64 0, .int .i64 0, .int .i64 0, .int .i64 0] 105))).cells hk
  have k2 := hA0.c2
  have k3 := hA0.c3
  have k4 : (w.alloc (.cells #[.int .i64 0, .int .i64 0, .int .i64 0, .int .i64 0] 105)).cell? ⟨M.rw 0, k, none⟩ = some (.int .i64 (f.cl k)) := hA0.r0
  have k5 : (w.alloc (.cells #[.int .i64 0, .int .i64 0, .int .i64 0, .int .i64 0] 105)).cell? ⟨M.rw 1, k, none⟩ = some (.int .i64 2) := by have := hA0.r1; rw [show fv f 1 k = 2 from hp] at this; exact this
  clear hA0
  obtain ⟨hcl, hnd, hah, hof, hwv, hT⟩ := hB
  have ma := h.ha
  have hT0 := hT 1 (L.nA (f.ahd k))
  have cA := ra_load hRd u (L.nA (f.ahd k)) h.hD h.hws h.hac bz
  generalize tellS f.ps u 1 (L.nA (f.ahd k)) = v at *
  have cQ := rp_parts v hT0
  have eA : L.nA (f.ahd k) = M.a + 8 + (f.ahd k) := by unfold Lp.nA; omega
  rw [eA] at cA ⊢
  have b1 : (wCl v == f.cl k) = true := by rw [h1]; simp
  have b2 : (wSp v == 0) = true := by rw [h2]; rfl
  have b3 : (wWt v == 0) = true := by rw [h3]; rfl
  clear h1 h2 h3
  have w1 : IntKind.i64.wrap (M.a + 8) = M.a + 8 := by rw [IntKind.wrap_i64]; omega
  have w2 : IntKind.i64.wrap (M.a + 8 + f.ahd k) = M.a + 8 + f.ahd k := by rw [IntKind.wrap_i64]; omega
  clear eA hT0
  generalize wCl v = vc at *
  generalize wWt v = vw at *
  generalize wSp v = vs at *
  have nA := hF.raw.cellsK hk
  have nc1 : Z.drew.cell? ⟨M.r, 1, none⟩ = some (.int .i64 M.a) := nA.c1
  have nc5 : Z.drew.cell? ⟨M.r, 5, none⟩ = some (.slice (some ⟨M.rw 3, 0, none⟩) f.s.n f.s.n) := nA.c5
  have nr3 : Z.drew.cell? ⟨M.rw 3, k, none⟩ = some (.int .i64 (f.ahd k)) := nA.r3
  clear nA
  have HE := Lib.hid (And.intro h (And.intro hk hF))
  clear h hF hF0 hR hRd hWZ bz hp hcl hnd hah hof hwv hT ma
  go_enter Tryz.func112, Tryz.ntmps112
  go_upto_region 4 with fail
  rw [← hZ]
  clear hZ k2 k3 k4 k5
  go_wp2
  go_region_held3 (fun w' => w'.cell? ⟨M.r, 1, none⟩ = some (.int .i64 M.a) ∧ w'.cell? ⟨M.r, 5, none⟩ = some (.slice (some ⟨M.rw 3, 0, none⟩) f.s.n f.s.n) ∧ w'.cell? ⟨M.rw 3, k, none⟩ = some (.int .i64 (f.ahd k))) (first | with_reducible exact ⟨ac1, ac5, ar3⟩ | exact ⟨nc1, nc5, nr3⟩) (first | (go_at_call 114; (with_reducible refine (cQ _).mono ?_); rintro e w' ⟨rfl, rfl⟩) | (go_at_call 113; (with_reducible refine cA.mono ?_); intro e w2 hq; unfold RaPost at hq; obtain ⟨rfl, hRS, hW⟩ := hq; have hA := HE.out.2.2.drew.port hRS hW; have aA := hA.raw.cellsK HE.out.2.1; have ac1 := aA.c1; have ac5 := aA.c5; have ar3 := aA.r3; clear aA; obtain ⟨bd0, bd1, bd2, bd3⟩ := hA.dcell; obtain ⟨by0, by1, by2, by3⟩ := hA.dfrz; have hD3 := hA.setD 0 (.int .i64 1) ⟨1, false, false, false⟩ rfl; have eB := hD3.raw.cellsK HE.out.2.1; have ez1 := eB.z1; have es1 := eB.r1; clear eB; have ec3 := (hD3.raw.cellsK HE.out.2.1).c3; have hS := hD3.s1 0; obtain ⟨q0, q1, q2, q3⟩ := hS.dcell; obtain ⟨u0, u1, u2, u3⟩ := hS.rcell; obtain ⟨t0, t1, t2, t3⟩ := hS.rfrz; have HT := Lib.hid hS; clear hS; clear hD3; clear hA hRS hW))
  go_wp2
  refine bodyPost_ret (v := Dd.rval ⟨1, false, false, false⟩) (results_cell_row rfl _ _ w.heap.size 105 _ (0, 0) _ rfl (set4 HT.out.res rfl _ _ _ _) Tryz.underlying105 rfl i_rid) rfl HT.out.told

set_option maxHeartbeats 4000000 in
theorem rl_lock3 {w : World} {M : Mp} {bk : Nat} {so : Option Addr} {cap : Nat} {dv : Value} {f : FL} {L : Lp} (h : MsIn w M bk so cap dv f.s (fv f) f.ps) (hL1 : L.a1 = M.a) (hL2 : L.a2 = M.a + 1) (k : Nat) (hk : k < f.s.n) (u x : Int) (hB : RkIn f k u) (hp : f.pc k = 3) :
    Calls Tryz.prog 112 #[.pointer (some ⟨M.r, 0, none⟩), .pointer (some ⟨M.pr, 0, none⟩), .int .i64 (k : Int), .int .i64 u] w (RkPost w M bk dv f.s (vk (fv f) k (f.cl k) 4 (f.nd k) (f.ahd k) (tellS f.ps u 1 (L.cA (f.cl k))) (f.wv k)) (doS f.ps u 1 (L.cA (f.cl k)) 0 0) (Dd.rval Dd.no)) := by
  obtain ⟨Z, hZ⟩ : ∃ Z, Z = (w.alloc (.cells #[.int .i64 0, .int .i64 0, .int .i64 0, .int .i64 0] 105)).alloc (.cells #[.int .i64 0, .int .i64 0, .int .i64 0, .int .i64 0] 105) := ⟨_, rfl⟩
  obtain ⟨hF0, hR, hWZ⟩ := h.start Z hZ
  have hF : Fm w Z M bk dv f.s (vk (fv f) k (f.cl k) 3 (f.nd k) (f.ahd k) (f.of k) (f.wv k)) f.ps w.heap.size (w.heap.size + 1) Dd.no := by
    have e : vk (fv f) k (f.cl k) 3 (f.nd k) (f.ahd k) (f.of k) (f.wv k) = fv f := by have := vk_self (fv f) k; rw [show fv f 1 k = 3 from hp] at this; exact this
    rw [e]; exact hF0
  have i0 : (0 : Int) ≤ (k : Int) := by omega
  have i1 : (k : Int) < f.s.n := by omega
  have hRd := hR.after (w' := Z.drew) ((Wrote.refl Nil Z).drew) fun _ _ => id
  have bz : M.base ≤ Z.drew.heap.size := Nat.le_trans h.hb hWZ.size
  have hA0 := (h.raw.after ((Wrote.refl Nil w).alloc (.cells #[.int .i64 0, .int .i64 0, .int .i64 0, .int .i64 0] 105))).cells hk
  have k2 := hA0.c2
  have k3 := hA0.c3
  have k4 : (w.alloc (.cells #[.int .i64 0, .int .i64 0, .int .i64 0, .int .i64 0] 105)).cell? ⟨M.rw 0, k, none⟩ = some (.int .i64 (f.cl k)) := hA0.r0
  have k5 : (w.alloc (.cells #[.int .i64 0, .int .i64 0, .int .i64 0, .int .i64 0] 105)).cell? ⟨M.rw 1, k, none⟩ = some (.int .i64 3) := by have := hA0.r1; rw [show fv f 1 k = 3 from hp] at this; exact this
  clear hA0
  obtain ⟨hcl, hnd, hah, hof, hwv, hT⟩ := hB
  have ma := h.ha
  have eA : L.cA (f.cl k) = M.a + 1 + (f.cl k) := by unfold Lp.cA; omega
  have hT0 := hT 1 (L.cA (f.cl k))
  have cA := ra_load hRd u (L.cA (f.cl k)) h.hD h.hws h.hac bz
  rw [eA] at cA hT0 ⊢
  generalize tellS f.ps u 1 (M.a + 1 + f.cl k) = v at *
  have w1 : IntKind.i64.wrap (M.a + 1) = M.a + 1 := by rw [IntKind.wrap_i64]; omega
  have w2 : IntKind.i64.wrap (M.a + 1 + f.cl k) = M.a + 1 + f.cl k := by rw [IntKind.wrap_i64]; omega
  have w3 : IntKind.i64.wrap (v) = v := by rw [IntKind.wrap_i64]; omega
  clear eA hT0
  have nA := hF.raw.cellsK hk
  have nc1 : Z.drew.cell? ⟨M.r, 1, none⟩ = some (.int .i64 M.a) := nA.c1
  have nc6 : Z.drew.cell? ⟨M.r, 6, none⟩ = some (.slice (some ⟨M.rw 4, 0, none⟩) f.s.n f.s.n) := nA.c6
  clear nA
  have HE := Lib.hid (And.intro h (And.intro hk hF))
  clear h hF hF0 hR hRd hWZ bz hp hcl hnd hah hof hwv hT ma
  go_enter Tryz.func112, Tryz.ntmps112
  go_upto_region 4 with fail
  rw [← hZ]
  clear hZ k2 k3 k4 k5
  go_wp2
  go_region_held3 (fun w' => w'.cell? ⟨M.r, 1, none⟩ = some (.int .i64 M.a) ∧ w'.cell? ⟨M.r, 6, none⟩ = some (.slice (some ⟨M.rw 4, 0, none⟩) f.s.n f.s.n)) (first | with_reducible exact ⟨bc1, bc6⟩ | with_reducible exact ⟨ac1, ac6⟩ | exact ⟨nc1, nc6⟩) (first | (go_at_call 113; (with_reducible refine cA.mono ?_); intro e w2 hq; unfold RaPost at hq; obtain ⟨rfl, hRS, hW⟩ := hq; have hA := HE.out.2.2.drew.port hRS hW; have aA := hA.raw.cellsK HE.out.2.1; have ac1 := aA.c1; have ac6 := aA.c6; clear aA; have aB := hA.raw.cellsK HE.out.2.1; have az4 := aB.z4; have as4 := aB.r4; clear aB; have hB3 := hA.s4 v; have bA := hB3.raw.cellsK HE.out.2.1; have bc1 := bA.c1; have bc6 := bA.c6; clear bA; have eB := hB3.raw.cellsK HE.out.2.1; have ez1 := eB.z1; have es1 := eB.r1; clear eB; have ec3 := (hB3.raw.cellsK HE.out.2.1).c3; have hS := hB3.s1 4; obtain ⟨q0, q1, q2, q3⟩ := hS.dcell; obtain ⟨u0, u1, u2, u3⟩ := hS.rcell; obtain ⟨t0, t1, t2, t3⟩ := hS.rfrz; have HT := Lib.hid hS; clear hS; clear hB3; clear hA hRS hW))
  go_wp2
  refine bodyPost_ret (v := Dd.rval Dd.no) (results_cell_row rfl _ _ w.heap.size 105 _ (0, 0) _ rfl (set4 HT.out.res rfl _ _ _ _) Tryz.underlying105 rfl i_rid) rfl HT.out.told

set_option maxHeartbeats 4000000 in
theorem rl_lock4 {w : World} {M : Mp} {bk : Nat} {so : Option Addr} {cap : Nat} {dv : Value} {f : FL} {L : Lp} (h : MsIn w M bk so cap dv f.s (fv f) f.ps) (hL1 : L.a1 = M.a) (hL2 : L.a2 = M.a + 1) (k : Nat) (hk : k < f.s.n) (u x : Int) (hB : RkIn f k u) (hp : f.pc k = 4) :
    Calls Tryz.prog 112 #[.pointer (some ⟨M.r, 0, none⟩), .pointer (some ⟨M.pr, 0, none⟩), .int .i64 (k : Int), .int .i64 u] w (RkPost w M bk dv f.s (vk (fv f) k (f.cl k) 5 (f.nd k) (tellS f.ps u 3 L.a1) (f.of k) (f.wv k)) (doS f.ps u 3 L.a1 0 (f.of k)) (Dd.rval ⟨0, false, true, false⟩)) := by
  obtain ⟨Z, hZ⟩ : ∃ Z, Z = (w.alloc (.cells #[.int .i64 0, .int .i64 0, .int .i64 0, .int .i64 0] 105)).alloc (.cells #[.int .i64 0, .int .i64 0, .int .i64 0, .int .i64 0] 105) := ⟨_, rfl⟩
  obtain ⟨hF0, hR, hWZ⟩ := h.start Z hZ
  have hF : Fm w Z M bk dv f.s (vk (fv f) k (f.cl k) 4 (f.nd k) (f.ahd k) (f.of k) (f.wv k)) f.ps w.heap.size (w.heap.size + 1) Dd.no := by
    have e : vk (fv f) k (f.cl k) 4 (f.nd k) (f.ahd k) (f.of k) (f.wv k) = fv f := by have := vk_self (fv f) k; rw [show fv f 1 k = 4 from hp] at this; exact this
    rw [e]; exact hF0
  have i0 : (0 : Int) ≤ (k : Int) := by omega
  have i1 : (k : Int) < f.s.n := by omega
  have hRd := hR.after (w' := Z.drew) ((Wrote.refl Nil Z).drew) fun _ _ => id
  have bz : M.base ≤ Z.drew.heap.size := Nat.le_trans h.hb hWZ.size
  have hA0 := (h.raw.after ((Wrote.refl Nil w).alloc (.cells #[.int .i64 0, .int .i64 0, .int .i64 0, .int .i64 0] 105))).cells hk
  have k2 := hA0.c2
  have k3 := hA0.c3
  have k4 : (w.alloc (.cells #[.int .i64 0, .int .i64 0, .int .i64 0, .int .i64 0] 105)).cell? ⟨M.rw 0, k, none⟩ = some (.int .i64 (f.cl k)) := hA0.r0
  have k5 : (w.alloc (.cells #[.int .i64 0, .int .i64 0, .int .i64 0, .int .i64 0] 105)).cell? ⟨M.rw 1, k, none⟩ = some (.int .i64 4) := by have := hA0.r1; rw [show fv f 1 k = 4 from hp] at this; exact this
  clear hA0
  obtain ⟨hcl, hnd, hah, hof, hwv, hT⟩ := hB
  have ma := h.ha
  have hT0 := hT 3 L.a1
  have cA := ra_swap hRd u L.a1 (f.of k) hof.1 hof.2 h.hD h.hws h.hac bz
  rw [hL1] at cA hT0 ⊢
  generalize tellS f.ps u 3 M.a = v at *
  have w3 : IntKind.i64.wrap (v) = v := by rw [IntKind.wrap_i64]; omega
  have w4 : IntKind.u32.wrap (f.of k) = f.of k := by show f.of k % 4294967296 = _; omega
  clear hT0
  have nA := hF.raw.cellsK hk
  have nc1 : Z.drew.cell? ⟨M.r, 1, none⟩ = some (.int .i64 M.a) := nA.c1
  have nc5 : Z.drew.cell? ⟨M.r, 5, none⟩ = some (.slice (some ⟨M.rw 3, 0, none⟩) f.s.n f.s.n) := nA.c5
  have nc6 : Z.drew.cell? ⟨M.r, 6, none⟩ = some (.slice (some ⟨M.rw 4, 0, none⟩) f.s.n f.s.n) := nA.c6
  have nr4 : Z.drew.cell? ⟨M.rw 4, k, none⟩ = some (.int .i64 (f.of k)) := nA.r4
  clear nA
  have HE := Lib.hid (And.intro h (And.intro hk hF))
  clear h hF hF0 hR hRd hWZ bz hp hcl hnd hah hof hwv hT ma
  go_enter Tryz.func112, Tryz.ntmps112
  go_upto_region 4 with fail
  rw [← hZ]
  clear hZ k2 k3 k4 k5
  go_wp2
  go_region_held3 (fun w' => w'.cell? ⟨M.r, 1, none⟩ = some (.int .i64 M.a) ∧ w'.cell? ⟨M.r, 5, none⟩ = some (.slice (some ⟨M.rw 3, 0, none⟩) f.s.n f.s.n) ∧ w'.cell? ⟨M.r, 6, none⟩ = some (.slice (some ⟨M.rw 4, 0, none⟩) f.s.n f.s.n) ∧ w'.cell? ⟨M.rw 4, k, none⟩ = some (.int .i64 (f.of k))) (first | with_reducible exact ⟨bc1, bc5, bc6, br4⟩ | with_reducible exact ⟨ac1, ac5, ac6, ar4⟩ | exact ⟨nc1, nc5, nc6, nr4⟩) (first | (go_at_call 118; (with_reducible refine cA.mono ?_); intro e w2 hq; unfold RaPost at hq; obtain ⟨rfl, hRS, hW⟩ := hq; have hA := HE.out.2.2.drew.port hRS hW; have aA := hA.raw.cellsK HE.out.2.1; have ac1 := aA.c1; have ac5 := aA.c5; have ac6 := aA.c6; have ar4 := aA.r4; clear aA; have aB := hA.raw.cellsK HE.out.2.1; have az3 := aB.z3; have as3 := aB.r3; clear aB; have hB3 := hA.s3 v; have bA := hB3.raw.cellsK HE.out.2.1; have bc1 := bA.c1; have bc5 := bA.c5; have bc6 := bA.c6; have br4 := bA.r4; clear bA; obtain ⟨bd0, bd1, bd2, bd3⟩ := hB3.dcell; obtain ⟨by0, by1, by2, by3⟩ := hB3.dfrz; have hD3 := hB3.setD 2 (.int .i64 1) ⟨0, false, true, false⟩ rfl; have eB := hD3.raw.cellsK HE.out.2.1; have ez1 := eB.z1; have es1 := eB.r1; clear eB; have ec3 := (hD3.raw.cellsK HE.out.2.1).c3; have hS := hD3.s1 5; obtain ⟨q0, q1, q2, q3⟩ := hS.dcell; obtain ⟨u0, u1, u2, u3⟩ := hS.rcell; obtain ⟨t0, t1, t2, t3⟩ := hS.rfrz; have HT := Lib.hid hS; clear hS; clear hB3 hD3; clear hA hRS hW))
  go_wp2
  refine bodyPost_ret (v := Dd.rval ⟨0, false, true, false⟩) (results_cell_row rfl _ _ w.heap.size 105 _ (0, 0) _ rfl (set4 HT.out.res rfl _ _ _ _) Tryz.underlying105 rfl i_rid) rfl HT.out.told

set_option maxHeartbeats 4000000 in
theorem rl_lock5 {w : World} {M : Mp} {bk : Nat} {so : Option Addr} {cap : Nat} {dv : Value} {f : FL} {L : Lp} (h : MsIn w M bk so cap dv f.s (fv f) f.ps) (hL1 : L.a1 = M.a) (hL2 : L.a2 = M.a + 1) (k : Nat) (hk : k < f.s.n) (u x : Int) (hB : RkIn f k u) (hp : f.pc k = 5) :
    Calls Tryz.prog 112 #[.pointer (some ⟨M.r, 0, none⟩), .pointer (some ⟨M.pr, 0, none⟩), .int .i64 (k : Int), .int .i64 u] w (RkPost w M bk dv f.s (vk (fv f) k (f.cl k) 6 (f.nd k) (f.ahd k) (f.of k) (tellS f.ps u 1 (L.nA (f.of k)))) (doS f.ps u 1 (L.nA (f.of k)) 0 0) (Dd.rval Dd.no)) := by
  obtain ⟨Z, hZ⟩ : ∃ Z, Z = (w.alloc (.cells #[.int .i64 0, .int .i64 0, .int .i64 0, .int .i64 0] 105)).alloc (.cells #[.int .i64 0, .int .i64 0, .int .i64 0, .int .i64 0] 105) := ⟨_, rfl⟩
  obtain ⟨hF0, hR, hWZ⟩ := h.start Z hZ
  have hF : Fm w Z M bk dv f.s (vk (fv f) k (f.cl k) 5 (f.nd k) (f.ahd k) (f.of k) (f.wv k)) f.ps w.heap.size (w.heap.size + 1) Dd.no := by
    have e : vk (fv f) k (f.cl k) 5 (f.nd k) (f.ahd k) (f.of k) (f.wv k) = fv f := by have := vk_self (fv f) k; rw [show fv f 1 k = 5 from hp] at this; exact this
    rw [e]; exact hF0
  have i0 : (0 : Int) ≤ (k : Int) := by omega
  have i1 : (k : Int) < f.s.n := by omega
  have hRd := hR.after (w' := Z.drew) ((Wrote.refl Nil Z).drew) fun _ _ => id
  have bz : M.base ≤ Z.drew.heap.size := Nat.le_trans h.hb hWZ.size
  have hA0 := (h.raw.after ((Wrote.refl Nil w).alloc (.cells #[.int .i64 0, .int .i64 0, .int .i64 0, .int .i64 0] 105))).cells hk
  have k2 := hA0.c2
  have k3 := hA0.c3
  have k4 : (w.alloc (.cells #[.int .i64 0, .int .i64 0, .int .i64 0, .int .i64 0] 105)).cell? ⟨M.rw 0, k, none⟩ = some (.int .i64 (f.cl k)) := hA0.r0
  have k5 : (w.alloc (.cells #[.int .i64 0, .int .i64 0, .int .i64 0, .int .i64 0] 105)).cell? ⟨M.rw 1, k, none⟩ = some (.int .i64 5) := by have := hA0.r1; rw [show fv f 1 k = 5 from hp] at this; exact this
  clear hA0
  obtain ⟨hcl, hnd, hah, hof, hwv, hT⟩ := hB
  have ma := h.ha
  have eA : L.nA (f.of k) = M.a + 8 + (f.of k) := by unfold Lp.nA; omega
  have hT0 := hT 1 (L.nA (f.of k))
  have cA := ra_load hRd u (L.nA (f.of k)) h.hD h.hws h.hac bz
  rw [eA] at cA hT0 ⊢
  generalize tellS f.ps u 1 (M.a + 8 + f.of k) = v at *
  have w1 : IntKind.i64.wrap (M.a + 8) = M.a + 8 := by rw [IntKind.wrap_i64]; omega
  have w2 : IntKind.i64.wrap (M.a + 8 + f.of k) = M.a + 8 + f.of k := by rw [IntKind.wrap_i64]; omega
  clear eA hT0
  have nA := hF.raw.cellsK hk
  have nc1 : Z.drew.cell? ⟨M.r, 1, none⟩ = some (.int .i64 M.a) := nA.c1
  have nc6 : Z.drew.cell? ⟨M.r, 6, none⟩ = some (.slice (some ⟨M.rw 4, 0, none⟩) f.s.n f.s.n) := nA.c6
  have nc7 : Z.drew.cell? ⟨M.r, 7, none⟩ = some (.slice (some ⟨M.rw 5, 0, none⟩) f.s.n f.s.n) := nA.c7
  have nr4 : Z.drew.cell? ⟨M.rw 4, k, none⟩ = some (.int .i64 (f.of k)) := nA.r4
  clear nA
  have HE := Lib.hid (And.intro h (And.intro hk hF))
  clear h hF hF0 hR hRd hWZ bz hp hcl hnd hah hof hwv hT ma
  go_enter Tryz.func112, Tryz.ntmps112
  go_upto_region 4 with fail
  rw [← hZ]
  clear hZ k2 k3 k4 k5
  go_wp2
  go_region_held3 (fun w' => w'.cell? ⟨M.r, 1, none⟩ = some (.int .i64 M.a) ∧ w'.cell? ⟨M.r, 6, none⟩ = some (.slice (some ⟨M.rw 4, 0, none⟩) f.s.n f.s.n) ∧ w'.cell? ⟨M.r, 7, none⟩ = some (.slice (some ⟨M.rw 5, 0, none⟩) f.s.n f.s.n) ∧ w'.cell? ⟨M.rw 4, k, none⟩ = some (.int .i64 (f.of k))) (first | with_reducible exact ⟨bc1, bc6, bc7, br4⟩ | with_reducible exact ⟨ac1, ac6, ac7, ar4⟩ | exact ⟨nc1, nc6, nc7, nr4⟩) (first | (go_at_call 113; (with_reducible refine cA.mono ?_); intro e w2 hq; unfold RaPost at hq; obtain ⟨rfl, hRS, hW⟩ := hq; have hA := HE.out.2.2.drew.port hRS hW; have aA := hA.raw.cellsK HE.out.2.1; have ac1 := aA.c1; have ac6 := aA.c6; have ac7 := aA.c7; have ar4 := aA.r4; clear aA; have aB := hA.raw.cellsK HE.out.2.1; have az5 := aB.z5; have as5 := aB.r5; clear aB; have hB3 := hA.s5 v; have bA := hB3.raw.cellsK HE.out.2.1; have bc1 := bA.c1; have bc6 := bA.c6; have bc7 := bA.c7; have br4 := bA.r4; clear bA; have eB := hB3.raw.cellsK HE.out.2.1; have ez1 := eB.z1; have es1 := eB.r1; clear eB; have ec3 := (hB3.raw.cellsK HE.out.2.1).c3; have hS := hB3.s1 6; obtain ⟨q0, q1, q2, q3⟩ := hS.dcell; obtain ⟨u0, u1, u2, u3⟩ := hS.rcell; obtain ⟨t0, t1, t2, t3⟩ := hS.rfrz; have HT := Lib.hid hS; clear hS; clear hB3; clear hA hRS hW))
  go_wp2
  refine bodyPost_ret (v := Dd.rval Dd.no) (results_cell_row rfl _ _ w.heap.size 105 _ (0, 0) _ rfl (set4 HT.out.res rfl _ _ _ _) Tryz.underlying105 rfl i_rid) rfl HT.out.told

set_option maxHeartbeats 4000000 in
theorem rl_lock6a {w : World} {M : Mp} {bk : Nat} {so : Option Addr} {cap : Nat} {dv : Value} {f : FL} {L : Lp} (h : MsIn w M bk so cap dv f.s (fv f) f.ps) (hL1 : L.a1 = M.a) (hL2 : L.a2 = M.a + 1) (k : Nat) (hk : k < f.s.n) (u x : Int) (hB : RkIn f k u) (hp : f.pc k = 6) (hc : casT f.ps u (L.nA (f.of k)) (f.wv k) = true) :
    Calls Tryz.prog 112 #[.pointer (some ⟨M.r, 0, none⟩), .pointer (some ⟨M.pr, 0, none⟩), .int .i64 (k : Int), .int .i64 u] w (RkPost w M bk dv f.s (vk (fv f) k (f.cl k) 7 (f.nd k) (f.ahd k) (f.of k) (f.wv k)) (doS f.ps u 4 (L.nA (f.of k)) (f.wv k) (wd (wCl (f.wv k)) (wWt (f.wv k)) 1)) (Dd.rval Dd.no)) := by
  obtain ⟨Z, hZ⟩ : ∃ Z, Z = (w.alloc (.cells #[.int .i64 0, .int .i64 0, .int .i64 0, .int .i64 0] 105)).alloc (.cells #[.int .i64 0, .int .i64 0, .int .i64 0, .int .i64 0] 105) := ⟨_, rfl⟩
  obtain ⟨hF0, hR, hWZ⟩ := h.start Z hZ
  have hF : Fm w Z M bk dv f.s (vk (fv f) k (f.cl k) 6 (f.nd k) (f.ahd k) (f.of k) (f.wv k)) f.ps w.heap.size (w.heap.size + 1) Dd.no := by
    have e : vk (fv f) k (f.cl k) 6 (f.nd k) (f.ahd k) (f.of k) (f.wv k) = fv f := by have := vk_self (fv f) k; rw [show fv f 1 k = 6 from hp] at this; exact this
    rw [e]; exact hF0
  have i0 : (0 : Int) ≤ (k : Int) := by omega
  have i1 : (k : Int) < f.s.n := by omega
  have hRd := hR.after (w' := Z.drew) ((Wrote.refl Nil Z).drew) fun _ _ => id
  have bz : M.base ≤ Z.drew.heap.size := Nat.le_trans h.hb hWZ.size
  have hA0 := (h.raw.after ((Wrote.refl Nil w).alloc (.cells #[.int .i64 0, .int .i64 0, .int .i64 0, .int .i64 0] 105))).cells hk
  have k2 := hA0.c2
  have k3 := hA0.c3
  have k4 : (w.alloc (.cells #[.int .i64 0, .int .i64 0, .int .i64 0, .int .i64 0] 105)).cell? ⟨M.rw 0, k, none⟩ = some (.int .i64 (f.cl k)) := hA0.r0
  have k5 : (w.alloc (.cells #[.int .i64 0, .int .i64 0, .int .i64 0, .int .i64 0] 105)).cell? ⟨M.rw 1, k, none⟩ = some (.int .i64 6) := by have := hA0.r1; rw [show fv f 1 k = 6 from hp] at this; exact this
  clear hA0
  obtain ⟨hcl, hnd, hah, hof, hwv, hT⟩ := hB
  have ma := h.ha
  have eA : L.nA (f.of k) = M.a + 8 + (f.of k) := by unfold Lp.nA; omega
  have cQ := rp_parts (f.wv k) hwv
  have cP := rp_word (wCl (f.wv k)) (wWt (f.wv k)) 1 (by unfold wCl; omega) (by unfold wWt; omega) (by decide)
  have wv2 := wd_s hwv
  have cA := ra_cas hRd u (L.nA (f.of k)) (f.wv k) (wd (wCl (f.wv k)) (wWt (f.wv k)) 1) wv2.1 wv2.2 h.hD h.hws h.hac bz
  rw [hc] at cA
  rw [eA] at cA ⊢
  have w1 : IntKind.i64.wrap (M.a + 8) = M.a + 8 := by rw [IntKind.wrap_i64]; omega
  have w2 : IntKind.i64.wrap (M.a + 8 + f.of k) = M.a + 8 + f.of k := by rw [IntKind.wrap_i64]; omega
  clear eA wv2 hc
  have N7 := (hF.raw.cellsK hk).c7
  have N5 := (hF.raw.cellsK hk).r5
  generalize wCl (f.wv k) = vc at *
  generalize wWt (f.wv k) = vw at *
  generalize wSp (f.wv k) = vs at *
  have nA := hF.raw.cellsK hk
  have nc1 : Z.drew.cell? ⟨M.r, 1, none⟩ = some (.int .i64 M.a) := nA.c1
  have nc6 : Z.drew.cell? ⟨M.r, 6, none⟩ = some (.slice (some ⟨M.rw 4, 0, none⟩) f.s.n f.s.n) := nA.c6
  have nc7 : Z.drew.cell? ⟨M.r, 7, none⟩ = some (.slice (some ⟨M.rw 5, 0, none⟩) f.s.n f.s.n) := nA.c7
  have nr4 : Z.drew.cell? ⟨M.rw 4, k, none⟩ = some (.int .i64 (f.of k)) := nA.r4
  have nr5 : Z.drew.cell? ⟨M.rw 5, k, none⟩ = some (.int .u32 (f.wv k)) := nA.r5
  clear nA
  have HE := Lib.hid (And.intro h (And.intro hk hF))
  clear h hF hF0 hR hRd hWZ bz hp hcl hnd hah hof hwv hT ma
  go_enter Tryz.func112, Tryz.ntmps112
  go_upto_region 4 with fail
  rw [← hZ]
  clear hZ k2 k3 k4 k5
  go_wp2_with (go_at_call 114; (with_reducible refine (cQ _).mono ?_); rintro e w' ⟨rfl, rfl⟩)
  go_region_held3 (fun w' => w'.cell? ⟨M.r, 1, none⟩ = some (.int .i64 M.a) ∧ w'.cell? ⟨M.r, 6, none⟩ = some (.slice (some ⟨M.rw 4, 0, none⟩) f.s.n f.s.n) ∧ w'.cell? ⟨M.r, 7, none⟩ = some (.slice (some ⟨M.rw 5, 0, none⟩) f.s.n f.s.n) ∧ w'.cell? ⟨M.rw 4, k, none⟩ = some (.int .i64 (f.of k)) ∧ w'.cell? ⟨M.rw 5, k, none⟩ = some (.int .u32 (f.wv k))) (first | with_reducible exact ⟨ac1, ac6, ac7, ar4, ar5⟩ | exact ⟨nc1, nc6, nc7, nr4, nr5⟩) (first | (go_at_call 26; (with_reducible refine (cP _).mono ?_); rintro e w' ⟨rfl, rfl⟩) | (go_at_call 115; (with_reducible refine cA.mono ?_); intro e w2 hq; unfold RaPost at hq; obtain ⟨rfl, hRS, hW⟩ := hq; have hA := HE.out.2.2.drew.port hRS hW; have aA := hA.raw.cellsK HE.out.2.1; have ac1 := aA.c1; have ac6 := aA.c6; have ac7 := aA.c7; have ar4 := aA.r4; have ar5 := aA.r5; clear aA; have eB := hA.raw.cellsK HE.out.2.1; have ez1 := eB.z1; have es1 := eB.r1; clear eB; have ec3 := (hA.raw.cellsK HE.out.2.1).c3; have hS := hA.s1 7; obtain ⟨q0, q1, q2, q3⟩ := hS.dcell; obtain ⟨u0, u1, u2, u3⟩ := hS.rcell; obtain ⟨t0, t1, t2, t3⟩ := hS.rfrz; have HT := Lib.hid hS; clear hS; clear hA hRS hW))
  go_wp2
  refine bodyPost_ret (v := Dd.rval Dd.no) (results_cell_row rfl _ _ w.heap.size 105 _ (0, 0) _ rfl (set4 HT.out.res rfl _ _ _ _) Tryz.underlying105 rfl i_rid) rfl HT.out.told

set_option maxHeartbeats 4000000 in
theorem rl_lock6b {w : World} {M : Mp} {bk : Nat} {so : Option Addr} {cap : Nat} {dv : Value} {f : FL} {L : Lp} (h : MsIn w M bk so cap dv f.s (fv f) f.ps) (hL1 : L.a1 = M.a) (hL2 : L.a2 = M.a + 1) (k : Nat) (hk : k < f.s.n) (u x : Int) (hB : RkIn f k u) (hp : f.pc k = 6) (hc : casT f.ps u (L.nA (f.of k)) (f.wv k) = false) :
    Calls Tryz.prog 112 #[.pointer (some ⟨M.r, 0, none⟩), .pointer (some ⟨M.pr, 0, none⟩), .int .i64 (k : Int), .int .i64 u] w (RkPost w M bk dv f.s (vk (fv f) k (f.cl k) 5 (f.nd k) (f.ahd k) (f.of k) (f.wv k)) (doS f.ps u 4 (L.nA (f.of k)) (f.wv k) (wd (wCl (f.wv k)) (wWt (f.wv k)) 1)) (Dd.rval Dd.no)) := by
  obtain ⟨Z, hZ⟩ : ∃ Z, Z = (w.alloc (.cells #[.int .i64 0, .int .i64 0, .int .i64 0, .int .i64 0] 105)).alloc (.cells #[.int .i64 0, .int .i64 0, .int .i64 0, .int .i64 0] 105) := ⟨_, rfl⟩
  obtain ⟨hF0, hR, hWZ⟩ := h.start Z hZ
  have hF : Fm w Z M bk dv f.s (vk (fv f) k (f.cl k) 6 (f.nd k) (f.ahd k) (f.of k) (f.wv k)) f.ps w.heap.size (w.heap.size + 1) Dd.no := by
    have e : vk (fv f) k (f.cl k) 6 (f.nd k) (f.ahd k) (f.of k) (f.wv k) = fv f := by have := vk_self (fv f) k; rw [show fv f 1 k = 6 from hp] at this; exact this
    rw [e]; exact hF0
  have i0 : (0 : Int) ≤ (k : Int) := by omega
  have i1 : (k : Int) < f.s.n := by omega
  have hRd := hR.after (w' := Z.drew) ((Wrote.refl Nil Z).drew) fun _ _ => id
  have bz : M.base ≤ Z.drew.heap.size := Nat.le_trans h.hb hWZ.size
  have hA0 := (h.raw.after ((Wrote.refl Nil w).alloc (.cells #[.int .i64 0, .int .i64 0, .int .i64 0, .int .i64 0] 105))).cells hk
  have k2 := hA0.c2
  have k3 := hA0.c3
  have k4 : (w.alloc (.cells #[.int .i64 0, .int .i64 0, .int .i64 0, .int .i64 0] 105)).cell? ⟨M.rw 0, k, none⟩ = some (.int .i64 (f.cl k)) := hA0.r0
  have k5 : (w.alloc (.cells #[.int .i64 0, .int .i64 0, .int .i64 0, .int .i64 0] 105)).cell? ⟨M.rw 1, k, none⟩ = some (.int .i64 6) := by have := hA0.r1; rw [show fv f 1 k = 6 from hp] at this; exact this
  clear hA0
  obtain ⟨hcl, hnd, hah, hof, hwv, hT⟩ := hB
  have ma := h.ha
  have eA : L.nA (f.of k) = M.a + 8 + (f.of k) := by unfold Lp.nA; omega
  have cQ := rp_parts (f.wv k) hwv
  have cP := rp_word (wCl (f.wv k)) (wWt (f.wv k)) 1 (by unfold wCl; omega) (by unfold wWt; omega) (by decide)
  have wv2 := wd_s hwv
  have cA := ra_cas hRd u (L.nA (f.of k)) (f.wv k) (wd (wCl (f.wv k)) (wWt (f.wv k)) 1) wv2.1 wv2.2 h.hD h.hws h.hac bz
  rw [hc] at cA
  rw [eA] at cA ⊢
  have w1 : IntKind.i64.wrap (M.a + 8) = M.a + 8 := by rw [IntKind.wrap_i64]; omega
  have w2 : IntKind.i64.wrap (M.a + 8 + f.of k) = M.a + 8 + f.of k := by rw [IntKind.wrap_i64]; omega
  clear eA wv2 hc
  have N7 := (hF.raw.cellsK hk).c7
  have N5 := (hF.raw.cellsK hk).r5
  generalize wCl (f.wv k) = vc at *
  generalize wWt (f.wv k) = vw at *
  generalize wSp (f.wv k) = vs at *
  have nA := hF.raw.cellsK hk
  have nc1 : Z.drew.cell? ⟨M.r, 1, none⟩ = some (.int .i64 M.a) := nA.c1
  have nc6 : Z.drew.cell? ⟨M.r, 6, none⟩ = some (.slice (some ⟨M.rw 4, 0, none⟩) f.s.n f.s.n) := nA.c6
  have nc7 : Z.drew.cell? ⟨M.r, 7, none⟩ = some (.slice (some ⟨M.rw 5, 0, none⟩) f.s.n f.s.n) := nA.c7
  have nr4 : Z.drew.cell? ⟨M.rw 4, k, none⟩ = some (.int .i64 (f.of k)) := nA.r4
  have nr5 : Z.drew.cell? ⟨M.rw 5, k, none⟩ = some (.int .u32 (f.wv k)) := nA.r5
  clear nA
  have HE := Lib.hid (And.intro h (And.intro hk hF))
  clear h hF hF0 hR hRd hWZ bz hp hcl hnd hah hof hwv hT ma
  go_enter Tryz.func112, Tryz.ntmps112
  go_upto_region 4 with fail
  rw [← hZ]
  clear hZ k2 k3 k4 k5
  go_wp2_with (go_at_call 114; (with_reducible refine (cQ _).mono ?_); rintro e w' ⟨rfl, rfl⟩)
  go_region_held3 (fun w' => w'.cell? ⟨M.r, 1, none⟩ = some (.int .i64 M.a) ∧ w'.cell? ⟨M.r, 6, none⟩ = some (.slice (some ⟨M.rw 4, 0, none⟩) f.s.n f.s.n) ∧ w'.cell? ⟨M.r, 7, none⟩ = some (.slice (some ⟨M.rw 5, 0, none⟩) f.s.n f.s.n) ∧ w'.cell? ⟨M.rw 4, k, none⟩ = some (.int .i64 (f.of k)) ∧ w'.cell? ⟨M.rw 5, k, none⟩ = some (.int .u32 (f.wv k))) (first | with_reducible exact ⟨ac1, ac6, ac7, ar4, ar5⟩ | exact ⟨nc1, nc6, nc7, nr4, nr5⟩) (first | (go_at_call 26; (with_reducible refine (cP _).mono ?_); rintro e w' ⟨rfl, rfl⟩) | (go_at_call 115; (with_reducible refine cA.mono ?_); intro e w2 hq; unfold RaPost at hq; obtain ⟨rfl, hRS, hW⟩ := hq; have hA := HE.out.2.2.drew.port hRS hW; have aA := hA.raw.cellsK HE.out.2.1; have ac1 := aA.c1; have ac6 := aA.c6; have ac7 := aA.c7; have ar4 := aA.r4; have ar5 := aA.r5; clear aA; have eB := hA.raw.cellsK HE.out.2.1; have ez1 := eB.z1; have es1 := eB.r1; clear eB; have ec3 := (hA.raw.cellsK HE.out.2.1).c3; have hS := hA.s1 5; obtain ⟨q0, q1, q2, q3⟩ := hS.dcell; obtain ⟨u0, u1, u2, u3⟩ := hS.rcell; obtain ⟨t0, t1, t2, t3⟩ := hS.rfrz; have HT := Lib.hid hS; clear hS; clear hA hRS hW))
  go_wp2
  refine bodyPost_ret (v := Dd.rval Dd.no) (results_cell_row rfl _ _ w.heap.size 105 _ (0, 0) _ rfl (set4 HT.out.res rfl _ _ _ _) Tryz.underlying105 rfl i_rid) rfl HT.out.told

set_option maxHeartbeats 4000000 in
theorem rl_lock7a {w : World} {M : Mp} {bk : Nat} {so : Option Addr} {cap : Nat} {dv : Value} {f : FL} {L : Lp} (h : MsIn w M bk so cap dv f.s (fv f) f.ps) (hL1 : L.a1 = M.a) (hL2 : L.a2 = M.a + 1) (k : Nat) (hk : k < f.s.n) (u x : Int) (hB : RkIn f k u) (hp : f.pc k = 7) (h3 : wWt (tellS f.ps u 1 (L.nA (f.ahd k))) = 0) :
    Calls Tryz.prog 112 #[.pointer (some ⟨M.r, 0, none⟩), .pointer (some ⟨M.pr, 0, none⟩), .int .i64 (k : Int), .int .i64 u] w (RkPost w M bk dv f.s (vk (fv f) k (f.cl k) 0 (f.nd k) (f.ahd k) (f.of k) (f.wv k)) (doS f.ps u 1 (L.nA (f.ahd k)) 0 0) (Dd.rval ⟨1, false, false, true⟩)) := by
  obtain ⟨Z, hZ⟩ : ∃ Z, Z = (w.alloc (.cells #[.int .i64 0, .int .i64 0, .int .i64 0, .int .i64 0] 105)).alloc (.cells #[.int .i64 0, .int .i64 0, .int .i64 0, .int .i64 0] 105) := ⟨_, rfl⟩
  obtain ⟨hF0, hR, hWZ⟩ := h.start Z hZ
  have hF : Fm w Z M bk dv f.s (vk (fv f) k (f.cl k) 7 (f.nd k) (f.ahd k) (f.of k) (f.wv k)) f.ps w.heap.size (w.heap.size + 1) Dd.no := by
    have e : vk (fv f) k (f.cl k) 7 (f.nd k) (f.ahd k) (f.of k) (f.wv k) = fv f := by have := vk_self (fv f) k; rw [show fv f 1 k = 7 from hp] at this; exact this
    rw [e]; exact hF0
  have i0 : (0 : Int) ≤ (k : Int) := by omega
  have i1 : (k : Int) < f.s.n := by omega
  have hRd := hR.after (w' := Z.drew) ((Wrote.refl Nil Z).drew) fun _ _ => id
  have bz : M.base ≤ Z.drew.heap.size := Nat.le_trans h.hb hWZ.size
  have hA0 := (h.raw.after ((Wrote.refl Nil w).alloc (.cells #[.int .i64 0, .int .i64 0, .int .i64 0, .int .i64 0] 105))).cells hk
  have k2 := hA0.c2
  have k3 := hA0.c3
  have k4 : (w.alloc (.cells #[.int .i64 0, .int .i64 0, .int .i64 0, .int .i64 0] 105)).cell? ⟨M.rw 0, k, none⟩ = some (.int .i64 (f.cl k)) := hA0.r0
  have k5 : (w.alloc (.cells #[.int .i64 0, .int .i64 0, .int .i64 0, .int .i64 0] 105)).cell? ⟨M.rw 1, k, none⟩ = some (.int .i64 7) := by have := hA0.r1; rw [show fv f 1 k = 7 from hp] at this; exact this
  clear hA0
  obtain ⟨hcl, hnd, hah, hof, hwv, hT⟩ := hB
  have ma := h.ha
  have hT0 := hT 1 (L.nA (f.ahd k))
  have cA := ra_load hRd u (L.nA (f.ahd k)) h.hD h.hws h.hac bz
  generalize tellS f.ps u 1 (L.nA (f.ahd k)) = v at *
  have cQ := rp_parts v hT0
  have eA : L.nA (f.ahd k) = M.a + 8 + (f.ahd k) := by unfold Lp.nA; omega
  rw [eA] at cA ⊢
  have b3 : (wWt v == 0) = true := by rw [h3]; rfl
  have w1 : IntKind.i64.wrap (M.a + 8) = M.a + 8 := by rw [IntKind.wrap_i64]; omega
  have w2 : IntKind.i64.wrap (M.a + 8 + f.ahd k) = M.a + 8 + f.ahd k := by rw [IntKind.wrap_i64]; omega
  clear eA hT0 h3
  generalize wCl v = vc at *
  generalize wWt v = vw at *
  generalize wSp v = vs at *
  have nA := hF.raw.cellsK hk
  have nc1 : Z.drew.cell? ⟨M.r, 1, none⟩ = some (.int .i64 M.a) := nA.c1
  have nc5 : Z.drew.cell? ⟨M.r, 5, none⟩ = some (.slice (some ⟨M.rw 3, 0, none⟩) f.s.n f.s.n) := nA.c5
  have nr3 : Z.drew.cell? ⟨M.rw 3, k, none⟩ = some (.int .i64 (f.ahd k)) := nA.r3
  clear nA
  have HE := Lib.hid (And.intro h (And.intro hk hF))
  clear h hF hF0 hR hRd hWZ bz hp hcl hnd hah hof hwv hT ma
  go_enter Tryz.func112, Tryz.ntmps112
  go_upto_region 4 with fail
  rw [← hZ]
  clear hZ k2 k3 k4 k5
  go_wp2
  go_region_held3 (fun w' => w'.cell? ⟨M.r, 1, none⟩ = some (.int .i64 M.a) ∧ w'.cell? ⟨M.r, 5, none⟩ = some (.slice (some ⟨M.rw 3, 0, none⟩) f.s.n f.s.n) ∧ w'.cell? ⟨M.rw 3, k, none⟩ = some (.int .i64 (f.ahd k))) (first | with_reducible exact ⟨ac1, ac5, ar3⟩ | exact ⟨nc1, nc5, nr3⟩) (first | (go_at_call 114; (with_reducible refine (cQ _).mono ?_); rintro e w' ⟨rfl, rfl⟩) | (go_at_call 113; (with_reducible refine cA.mono ?_); intro e w2 hq; unfold RaPost at hq; obtain ⟨rfl, hRS, hW⟩ := hq; have hA := HE.out.2.2.drew.port hRS hW; have aA := hA.raw.cellsK HE.out.2.1; have ac1 := aA.c1; have ac5 := aA.c5; have ar3 := aA.r3; clear aA; obtain ⟨bd0, bd1, bd2, bd3⟩ := hA.dcell; obtain ⟨by0, by1, by2, by3⟩ := hA.dfrz; have hD2 := hA.setD 0 (.int .i64 1) ⟨1, false, false, false⟩ rfl; obtain ⟨ed0, ed1, ed2, ed3⟩ := hD2.dcell; obtain ⟨ey0, ey1, ey2, ey3⟩ := hD2.dfrz; have hD3 := hD2.setD 3 (.int .i64 1) ⟨1, false, false, true⟩ rfl; have eB := hD3.raw.cellsK HE.out.2.1; have ez1 := eB.z1; have es1 := eB.r1; clear eB; have ec3 := (hD3.raw.cellsK HE.out.2.1).c3; have hS := hD3.s1 0; obtain ⟨q0, q1, q2, q3⟩ := hS.dcell; obtain ⟨u0, u1, u2, u3⟩ := hS.rcell; obtain ⟨t0, t1, t2, t3⟩ := hS.rfrz; have HT := Lib.hid hS; clear hS; clear hD2 hD3; clear hA hRS hW))
  go_wp2
  refine bodyPost_ret (v := Dd.rval ⟨1, false, false, true⟩) (results_cell_row rfl _ _ w.heap.size 105 _ (0, 0) _ rfl (set4 HT.out.res rfl _ _ _ _) Tryz.underlying105 rfl i_rid) rfl HT.out.told

set_option maxHeartbeats 4000000 in
theorem rl_lock7b {w : World} {M : Mp} {bk : Nat} {so : Option Addr} {cap : Nat} {dv : Value} {f : FL} {L : Lp} (h : MsIn w M bk so cap dv f.s (fv f) f.ps) (hL1 : L.a1 = M.a) (hL2 : L.a2 = M.a + 1) (k : Nat) (hk : k < f.s.n) (u x : Int) (hB : RkIn f k u) (hp : f.pc k = 7) (h3 : wWt (tellS f.ps u 1 (L.nA (f.ahd k))) ≠ 0) :
    Calls Tryz.prog 112 #[.pointer (some ⟨M.r, 0, none⟩), .pointer (some ⟨M.pr, 0, none⟩), .int .i64 (k : Int), .int .i64 u] w (RkPost w M bk dv f.s (vk (fv f) k (f.cl k) 7 (f.nd k) (f.ahd k) (f.of k) (f.wv k)) (doS f.ps u 1 (L.nA (f.ahd k)) 0 0) (Dd.rval Dd.no)) := by
  obtain ⟨Z, hZ⟩ : ∃ Z, Z = (w.alloc (.cells #[.int .i64 0, .int .i64 0, .int .i64 0, .int .i64 0] 105)).alloc (.cells #[.int .i64 0, .int .i64 0, .int .i64 0, .int .i64 0] 105) := ⟨_, rfl⟩
  obtain ⟨hF0, hR, hWZ⟩ := h.start Z hZ
  have hF : Fm w Z M bk dv f.s (vk (fv f) k (f.cl k) 7 (f.nd k) (f.ahd k) (f.of k) (f.wv k)) f.ps w.heap.size (w.heap.size + 1) Dd.no := by
    have e : vk (fv f) k (f.cl k) 7 (f.nd k) (f.ahd k) (f.of k) (f.wv k) = fv f := by have := vk_self (fv f) k; rw [show fv f 1 k = 7 from hp] at this; exact this
    rw [e]; exact hF0
  have i0 : (0 : Int) ≤ (k : Int) := by omega
  have i1 : (k : Int) < f.s.n := by omega
  have hRd := hR.after (w' := Z.drew) ((Wrote.refl Nil Z).drew) fun _ _ => id
  have bz : M.base ≤ Z.drew.heap.size := Nat.le_trans h.hb hWZ.size
  have hA0 := (h.raw.after ((Wrote.refl Nil w).alloc (.cells #[.int .i64 0, .int .i64 0, .int .i64 0, .int .i64 0] 105))).cells hk
  have k2 := hA0.c2
  have k3 := hA0.c3
  have k4 : (w.alloc (.cells #[.int .i64 0, .int .i64 0, .int .i64 0, .int .i64 0] 105)).cell? ⟨M.rw 0, k, none⟩ = some (.int .i64 (f.cl k)) := hA0.r0
  have k5 : (w.alloc (.cells #[.int .i64 0, .int .i64 0, .int .i64 0, .int .i64 0] 105)).cell? ⟨M.rw 1, k, none⟩ = some (.int .i64 7) := by have := hA0.r1; rw [show fv f 1 k = 7 from hp] at this; exact this
  clear hA0
  obtain ⟨hcl, hnd, hah, hof, hwv, hT⟩ := hB
  have ma := h.ha
  have hT0 := hT 1 (L.nA (f.ahd k))
  have cA := ra_load hRd u (L.nA (f.ahd k)) h.hD h.hws h.hac bz
  generalize tellS f.ps u 1 (L.nA (f.ahd k)) = v at *
  have cQ := rp_parts v hT0
  have eA : L.nA (f.ahd k) = M.a + 8 + (f.ahd k) := by unfold Lp.nA; omega
  rw [eA] at cA ⊢
  have b3 : (wWt v == 0) = false := beq_false_of_ne h3
  have w1 : IntKind.i64.wrap (M.a + 8) = M.a + 8 := by rw [IntKind.wrap_i64]; omega
  have w2 : IntKind.i64.wrap (M.a + 8 + f.ahd k) = M.a + 8 + f.ahd k := by rw [IntKind.wrap_i64]; omega
  clear eA hT0 h3
  generalize wCl v = vc at *
  generalize wWt v = vw at *
  generalize wSp v = vs at *
  have nA := hF.raw.cellsK hk
  have nc1 : Z.drew.cell? ⟨M.r, 1, none⟩ = some (.int .i64 M.a) := nA.c1
  have nc5 : Z.drew.cell? ⟨M.r, 5, none⟩ = some (.slice (some ⟨M.rw 3, 0, none⟩) f.s.n f.s.n) := nA.c5
  have nr3 : Z.drew.cell? ⟨M.rw 3, k, none⟩ = some (.int .i64 (f.ahd k)) := nA.r3
  clear nA
  have HE := Lib.hid (And.intro h (And.intro hk hF))
  clear h hF hF0 hR hRd hWZ bz hp hcl hnd hah hof hwv hT ma
  go_enter Tryz.func112, Tryz.ntmps112
  go_upto_region 4 with fail
  rw [← hZ]
  clear hZ k2 k3 k4 k5
  go_wp2
  go_region_held3 (fun w' => w'.cell? ⟨M.r, 1, none⟩ = some (.int .i64 M.a) ∧ w'.cell? ⟨M.r, 5, none⟩ = some (.slice (some ⟨M.rw 3, 0, none⟩) f.s.n f.s.n) ∧ w'.cell? ⟨M.rw 3, k, none⟩ = some (.int .i64 (f.ahd k))) (first | with_reducible exact ⟨ac1, ac5, ar3⟩ | exact ⟨nc1, nc5, nr3⟩) (first | (go_at_call 114; (with_reducible refine (cQ _).mono ?_); rintro e w' ⟨rfl, rfl⟩) | (go_at_call 113; (with_reducible refine cA.mono ?_); intro e w2 hq; unfold RaPost at hq; obtain ⟨rfl, hRS, hW⟩ := hq; have hA := HE.out.2.2.drew.port hRS hW; have aA := hA.raw.cellsK HE.out.2.1; have ac1 := aA.c1; have ac5 := aA.c5; have ar3 := aA.r3; clear aA; have eB := hA.raw.cellsK HE.out.2.1; have ez1 := eB.z1; have es1 := eB.r1; clear eB; have ec3 := (hA.raw.cellsK HE.out.2.1).c3; have hS := hA.s1 7; obtain ⟨q0, q1, q2, q3⟩ := hS.dcell; obtain ⟨u0, u1, u2, u3⟩ := hS.rcell; obtain ⟨t0, t1, t2, t3⟩ := hS.rfrz; have HT := Lib.hid hS; clear hS; clear hA hRS hW))
  go_wp2
  refine bodyPost_ret (v := Dd.rval Dd.no) (results_cell_row rfl _ _ w.heap.size 105 _ (0, 0) _ rfl (set4 HT.out.res rfl _ _ _ _) Tryz.underlying105 rfl i_rid) rfl HT.out.told

/-- all of them -/
theorem rl_lock {w : World} {M : Mp} {bk : Nat} {so : Option Addr} {cap : Nat} {dv : Value} {f : FL} {L : Lp} (h : MsIn w M bk so cap dv f.s (fv f) f.ps) (hL1 : L.a1 = M.a) (hL2 : L.a2 = M.a + 1) (k : Nat) (hk : k < f.s.n) (u x : Int) (hB : RkIn f k u) (hp : 0 ≤ f.pc k ∧ f.pc k ≤ 7) :
    Calls Tryz.prog 112 #[.pointer (some ⟨M.r, 0, none⟩), .pointer (some ⟨M.pr, 0, none⟩), .int .i64 (k : Int), .int .i64 u] w (RkPost w M bk dv f.s (fv (f.acq L k u)) (f.acq L k u).ps (f.acqD L k u).rval) := by
  have key : ∀ (g : FL) (x2 : Ab) (ps : PSta), g = ({ f with ps := ps } : FL).put k x2 → fv g = vk (fv f) k x2.cl x2.pc x2.nd x2.ahd x2.of x2.wv ∧ g.ps = ps := fun g x2 ps e => by rw [e]; exact ⟨fv_put f f.s k x2 ps, rfl⟩
  have : f.pc k = 0 ∨ f.pc k = 1 ∨ f.pc k = 2 ∨ f.pc k = 3 ∨ f.pc k = 4 ∨ f.pc k = 5 ∨ f.pc k = 6 ∨ f.pc k = 7 := by omega
  rcases this with hd | hd | hd | hd | hd | hd | hd | hd
  · have e1 : f.acq L k u = ({ f with ps := doS f.ps u 2 (L.nA (f.nd k)) 0 (wd (f.cl k) 1 0) } : FL).put k ⟨f.cl k, 1, f.nd k, f.ahd k, f.of k, f.wv k⟩ := by unfold FL.acq FL.put; rw [if_pos hd]; simp only [upd_id f.cl k rfl, upd_id f.nd k rfl, upd_id f.ahd k rfl, upd_id f.of k rfl, upd_id f.wv k rfl]
    have e2 : f.acqD L k u = Dd.no := by unfold FL.acqD; rw [if_pos hd]
    obtain ⟨e3, e4⟩ := key _ _ _ e1
    rw [e3, e4, e2]
    exact rl_lock0 h hL1 hL2 k hk u x hB hd
  · by_cases hv : tellS f.ps u 3 (L.cA (f.cl k)) = 0
    · have e1 : f.acq L k u = ({ f with ps := doS f.ps u 3 (L.cA (f.cl k)) 0 (f.nd k) } : FL).put k ⟨f.cl k, 3, f.nd k, tellS f.ps u 3 (L.cA (f.cl k)), f.of k, f.wv k⟩ := by unfold FL.acq FL.put; rw [if_neg (by omega), if_pos hd, if_pos hv]; simp only [upd_id f.cl k rfl, upd_id f.nd k rfl, upd_id f.of k rfl, upd_id f.wv k rfl]
      have e2 : f.acqD L k u = ⟨0, true, false, false⟩ := by unfold FL.acqD; rw [if_neg (by omega), if_pos hd]
      obtain ⟨e3, e4⟩ := key _ _ _ e1
      rw [e3, e4, e2]
      exact rl_lock1a h hL1 hL2 k hk u x hB hd hv
    · have e1 : f.acq L k u = ({ f with ps := doS f.ps u 3 (L.cA (f.cl k)) 0 (f.nd k) } : FL).put k ⟨f.cl k, 2, f.nd k, tellS f.ps u 3 (L.cA (f.cl k)), f.of k, f.wv k⟩ := by unfold FL.acq FL.put; rw [if_neg (by omega), if_pos hd, if_neg hv]; simp only [upd_id f.cl k rfl, upd_id f.nd k rfl, upd_id f.of k rfl, upd_id f.wv k rfl]
      have e2 : f.acqD L k u = ⟨0, true, false, false⟩ := by unfold FL.acqD; rw [if_neg (by omega), if_pos hd]
      obtain ⟨e3, e4⟩ := key _ _ _ e1
      rw [e3, e4, e2]
      exact rl_lock1b h hL1 hL2 k hk u x hB hd hv
  · by_cases h1 : wCl (tellS f.ps u 1 (L.nA (f.ahd k))) = f.cl k
    · by_cases h2 : wSp (tellS f.ps u 1 (L.nA (f.ahd k))) = 0
      · by_cases h3 : wWt (tellS f.ps u 1 (L.nA (f.ahd k))) = 0
        · have e1 : f.acq L k u = ({ f with ps := doS f.ps u 1 (L.nA (f.ahd k)) 0 0 } : FL).put k ⟨f.cl k, 0, f.nd k, f.ahd k, f.of k, f.wv k⟩ := by unfold FL.acq FL.put; rw [if_neg (by omega), if_neg (by omega), if_pos hd, if_pos ⟨h1, h2⟩, if_pos h3]; simp only [upd_id f.cl k rfl, upd_id f.nd k rfl, upd_id f.ahd k rfl, upd_id f.of k rfl, upd_id f.wv k rfl]
          have e2 : f.acqD L k u = ⟨1, false, false, false⟩ := by unfold FL.acqD; rw [if_neg (by omega), if_neg (by omega), if_pos hd, if_pos ⟨⟨h1, h2⟩, h3⟩]
          obtain ⟨e3, e4⟩ := key _ _ _ e1
          rw [e3, e4, e2]
          exact rl_lock2d h hL1 hL2 k hk u x hB hd h1 h2 h3
        · have e1 : f.acq L k u = ({ f with ps := doS f.ps u 1 (L.nA (f.ahd k)) 0 0 } : FL).put k ⟨f.cl k, 2, f.nd k, f.ahd k, f.of k, f.wv k⟩ := by unfold FL.acq FL.put; rw [if_neg (by omega), if_neg (by omega), if_pos hd, if_pos ⟨h1, h2⟩, if_neg h3]; simp only [upd_id f.cl k rfl, upd_id f.nd k rfl, upd_id f.ahd k rfl, upd_id f.of k rfl, upd_id f.wv k rfl]
          have e2 : f.acqD L k u = Dd.no := by unfold FL.acqD; rw [if_neg (by omega), if_neg (by omega), if_pos hd, if_neg (fun q => h3 q.2)]
          obtain ⟨e3, e4⟩ := key _ _ _ e1
          rw [e3, e4, e2]
          exact rl_lock2c h hL1 hL2 k hk u x hB hd h1 h2 h3
      · have e1 : f.acq L k u = ({ f with ps := doS f.ps u 1 (L.nA (f.ahd k)) 0 0 } : FL).put k ⟨f.cl k, 3, f.nd k, f.ahd k, f.of k, f.wv k⟩ := by unfold FL.acq FL.put; rw [if_neg (by omega), if_neg (by omega), if_pos hd, if_neg (fun q => h2 q.2)]; simp only [upd_id f.cl k rfl, upd_id f.nd k rfl, upd_id f.ahd k rfl, upd_id f.of k rfl, upd_id f.wv k rfl]
        have e2 : f.acqD L k u = Dd.no := by unfold FL.acqD; rw [if_neg (by omega), if_neg (by omega), if_pos hd, if_neg (fun q => h2 q.1.2)]
        obtain ⟨e3, e4⟩ := key _ _ _ e1
        rw [e3, e4, e2]
        exact rl_lock2b h hL1 hL2 k hk u x hB hd h1 h2
    · have e1 : f.acq L k u = ({ f with ps := doS f.ps u 1 (L.nA (f.ahd k)) 0 0 } : FL).put k ⟨f.cl k, 3, f.nd k, f.ahd k, f.of k, f.wv k⟩ := by unfold FL.acq FL.put; rw [if_neg (by omega), if_neg (by omega), if_pos hd, if_neg (fun q => h1 q.1)]; simp only [upd_id f.cl k rfl, upd_id f.nd k rfl, upd_id f.ahd k rfl, upd_id f.of k rfl, upd_id f.wv k rfl]
      have e2 : f.acqD L k u = Dd.no := by unfold FL.acqD; rw [if_neg (by omega), if_neg (by omega), if_pos hd, if_neg (fun q => h1 q.1.1)]
      obtain ⟨e3, e4⟩ := key _ _ _ e1
      rw [e3, e4, e2]
      exact rl_lock2a h hL1 hL2 k hk u x hB hd h1
  · have e1 : f.acq L k u = ({ f with ps := doS f.ps u 1 (L.cA (f.cl k)) 0 0 } : FL).put k ⟨f.cl k, 4, f.nd k, f.ahd k, tellS f.ps u 1 (L.cA (f.cl k)), f.wv k⟩ := by unfold FL.acq FL.put; rw [if_neg (by omega), if_neg (by omega), if_neg (by omega), if_pos hd]; simp only [upd_id f.cl k rfl, upd_id f.nd k rfl, upd_id f.ahd k rfl, upd_id f.wv k rfl]
    have e2 : f.acqD L k u = Dd.no := by unfold FL.acqD; rw [if_neg (by omega), if_neg (by omega), if_neg (by omega), if_pos hd]
    obtain ⟨e3, e4⟩ := key _ _ _ e1
    rw [e3, e4, e2]
    exact rl_lock3 h hL1 hL2 k hk u x hB hd
  · have e1 : f.acq L k u = ({ f with ps := doS f.ps u 3 L.a1 0 (f.of k) } : FL).put k ⟨f.cl k, 5, f.nd k, tellS f.ps u 3 L.a1, f.of k, f.wv k⟩ := by unfold FL.acq FL.put; rw [if_neg (by omega), if_neg (by omega), if_neg (by omega), if_neg (by omega), if_pos hd]; simp only [upd_id f.cl k rfl, upd_id f.nd k rfl, upd_id f.of k rfl, upd_id f.wv k rfl]
    have e2 : f.acqD L k u = ⟨0, false, true, false⟩ := by unfold FL.acqD; rw [if_neg (by omega), if_neg (by omega), if_neg (by omega), if_neg (by omega), if_pos hd]
    obtain ⟨e3, e4⟩ := key _ _ _ e1
    rw [e3, e4, e2]
    exact rl_lock4 h hL1 hL2 k hk u x hB hd
  · have e1 : f.acq L k u = ({ f with ps := doS f.ps u 1 (L.nA (f.of k)) 0 0 } : FL).put k ⟨f.cl k, 6, f.nd k, f.ahd k, f.of k, tellS f.ps u 1 (L.nA (f.of k))⟩ := by unfold FL.acq FL.put; rw [if_neg (by omega), if_neg (by omega), if_neg (by omega), if_neg (by omega), if_neg (by omega), if_pos hd]; simp only [upd_id f.cl k rfl, upd_id f.nd k rfl, upd_id f.ahd k rfl, upd_id f.of k rfl]
    have e2 : f.acqD L k u = Dd.no := by unfold FL.acqD; rw [if_neg (by omega), if_neg (by omega), if_neg (by omega), if_neg (by omega), if_neg (by omega), if_pos hd]
    obtain ⟨e3, e4⟩ := key _ _ _ e1
    rw [e3, e4, e2]
    exact rl_lock5 h hL1 hL2 k hk u x hB hd
  · cases hc : casT f.ps u (L.nA (f.of k)) (f.wv k)
    · have e1 : f.acq L k u = ({ f with ps := doS f.ps u 4 (L.nA (f.of k)) (f.wv k) (wd (wCl (f.wv k)) (wWt (f.wv k)) 1) } : FL).put k ⟨f.cl k, 5, f.nd k, f.ahd k, f.of k, f.wv k⟩ := by unfold FL.acq FL.put; rw [if_neg (by omega), if_neg (by omega), if_neg (by omega), if_neg (by omega), if_neg (by omega), if_neg (by omega), if_pos hd, hc, if_neg (by decide)]; simp only [upd_id f.cl k rfl, upd_id f.nd k rfl, upd_id f.ahd k rfl, upd_id f.of k rfl, upd_id f.wv k rfl]
      have e2 : f.acqD L k u = Dd.no := by unfold FL.acqD; rw [if_neg (by omega), if_neg (by omega), if_neg (by omega), if_neg (by omega), if_neg (by omega), if_neg (by omega), if_pos hd]
      obtain ⟨e3, e4⟩ := key _ _ _ e1
      rw [e3, e4, e2]
      exact rl_lock6b h hL1 hL2 k hk u x hB hd hc
    · have e1 : f.acq L k u = ({ f with ps := doS f.ps u 4 (L.nA (f.of k)) (f.wv k) (wd (wCl (f.wv k)) (wWt (f.wv k)) 1) } : FL).put k ⟨f.cl k, 7, f.nd k, f.ahd k, f.of k, f.wv k⟩ := by unfold FL.acq FL.put; rw [if_neg (by omega), if_neg (by omega), if_neg (by omega), if_neg (by omega), if_neg (by omega), if_neg (by omega), if_pos hd, hc, if_pos rfl]; simp only [upd_id f.cl k rfl, upd_id f.nd k rfl, upd_id f.ahd k rfl, upd_id f.of k rfl, upd_id f.wv k rfl]
      have e2 : f.acqD L k u = Dd.no := by unfold FL.acqD; rw [if_neg (by omega), if_neg (by omega), if_neg (by omega), if_neg (by omega), if_neg (by omega), if_neg (by omega), if_pos hd]
      obtain ⟨e3, e4⟩ := key _ _ _ e1
      rw [e3, e4, e2]
      exact rl_lock6a h hL1 hL2 k hk u x hB hd hc
  · by_cases h3 : wWt (tellS f.ps u 1 (L.nA (f.ahd k))) = 0
    · have e1 : f.acq L k u = ({ f with ps := doS f.ps u 1 (L.nA (f.ahd k)) 0 0 } : FL).put k ⟨f.cl k, 0, f.nd k, f.ahd k, f.of k, f.wv k⟩ := by unfold FL.acq FL.put; rw [if_neg (by omega), if_neg (by omega), if_neg (by omega), if_neg (by omega), if_neg (by omega), if_neg (by omega), if_neg (by omega), if_pos h3]; simp only [upd_id f.cl k rfl, upd_id f.nd k rfl, upd_id f.ahd k rfl, upd_id f.of k rfl, upd_id f.wv k rfl]
      have e2 : f.acqD L k u = ⟨1, false, false, true⟩ := by unfold FL.acqD; rw [if_neg (by omega), if_neg (by omega), if_neg (by omega), if_neg (by omega), if_neg (by omega), if_neg (by omega), if_neg (by omega), if_pos h3]
      obtain ⟨e3, e4⟩ := key _ _ _ e1
      rw [e3, e4, e2]
      exact rl_lock7a h hL1 hL2 k hk u x hB hd h3
    · have e1 : f.acq L k u = ({ f with ps := doS f.ps u 1 (L.nA (f.ahd k)) 0 0 } : FL).put k ⟨f.cl k, 7, f.nd k, f.ahd k, f.of k, f.wv k⟩ := by unfold FL.acq FL.put; rw [if_neg (by omega), if_neg (by omega), if_neg (by omega), if_neg (by omega), if_neg (by omega), if_neg (by omega), if_neg (by omega), if_neg h3]; simp only [upd_id f.cl k rfl, upd_id f.nd k rfl, upd_id f.ahd k rfl, upd_id f.of k rfl, upd_id f.wv k rfl]
      have e2 : f.acqD L k u = Dd.no := by unfold FL.acqD; rw [if_neg (by omega), if_neg (by omega), if_neg (by omega), if_neg (by omega), if_neg (by omega), if_neg (by omega), if_neg (by omega), if_neg h3]
      obtain ⟨e3, e4⟩ := key _ _ _ e1
      rw [e3, e4, e2]
      exact rl_lock7b h hL1 hL2 k hk u x hB hd h3
end Go.Proofs.YteacdcdjdbobnaaGreat
