/- A step of the reference's hierarchical lock: what it tells, and what it leaves: the same as a step of the plain thing. -/
import Derived.Test.YteacdcdjdbobnaaGreatHierRl
import Derived.Test.YteacdcdjdbobnaaGreatHierOrd
import Derived.WalkLawsBesides
import Derived.Outline
import Derived.Deep.QuietTactic
import Derived.Deep.RegionHeld3
import Derived.BigQuiet
import Derived.BigFrame
import Derived.Handy
import Derived.OpenShut
import Derived.Lib.Walk
import Derived.WalkKit
import Derived.Lib.Hide
namespace Go.Proofs.YteacdcdjdbobnaaGreat
open Go.RowKit Go.BigFrame
set_option linter.unusedVariables false
set_option maxRecDepth 100000

set_option maxHeartbeats 8000000 in
theorem ml_lock {w : World} {M : Mp} {bk : Nat} {so : Option Addr} {cap : Nat} {dv : Value} {f : FL} {L : Lp} (h : MsIn w M bk so cap dv f.s (fv f) f.ps) (hL1 : L.a1 = M.a) (hL2 : L.a2 = M.a + 1) (k : Nat) (hk : k < f.s.n) (u x : Int) (hB : RkIn f k u) (hp : 0 ≤ f.pc k ∧ f.pc k ≤ 7) (hs : f.s.st k = 1) :
    Calls Tryz.prog 111 #[.pointer (some ⟨M.r, 0, none⟩), .pointer (some ⟨M.pr, 0, none⟩), .int .i64 (k : Int), .int .i64 u, .int .i64 x] w (RkPost w M bk dv (f.s.fin k (f.acqD L k u).ev) (fv (f.acq L k u)) (f.acq L k u).ps (f.acqD L k u).rval) := by
  obtain ⟨Z, hZ⟩ : ∃ Z, Z = (w.alloc (.cells #[.int .i64 0, .int .i64 0, .int .i64 0, .int .i64 0] 105)).alloc (.cells #[.int .i64 0, .int .i64 0, .int .i64 0, .int .i64 0] 105) := ⟨_, rfl⟩
  obtain ⟨hF0, hR, hWZ⟩ := h.start Z hZ
  have i0 : (0 : Int) ≤ (k : Int) := by omega
  have i1 : (k : Int) < f.s.n := by omega
  have i2 : ¬ (k : Int) < 0 := by omega
  have i3 : ¬ (f.s.n : Int) ≤ (k : Int) := by omega
  have iN : decide (f.s.n ≤ k) = false := decide_eq_false (by omega)
  have n1 := h.n1
  have n2 := h.n2
  have b3 := (h.raw.after ((Wrote.refl Nil w).alloc (.cells #[.int .i64 0, .int .i64 0, .int .i64 0, .int .i64 0] 105))).cell3
  obtain ⟨g, cg, hgv, hg⟩ := SrAt.stV hF0.raw.seat (show 0 < f.s.n by omega)
  have c0 := hF0.raw.cell0
  have cs : Z.cell? ⟨M.sr, 0, none⟩ = some (.slice (some ⟨g, 0, none⟩) f.s.n cg) := (SrAt.cell0 hF0.raw.seat).trans (by rw [hgv])
  have ct := (hg k _ (stL_at f.s hk)).1
  rw [hs] at ct
  have hI : MsIn Z M bk so cap dv f.s (fv f) f.ps := h.after hWZ
  have cL := rl_lock hI hL1 hL2 k hk u x hB hp
  obtain ⟨V0, hV0⟩ : ∃ V0, V0 = fv (f.acq L k u) := ⟨_, rfl⟩
  obtain ⟨P0, hP0⟩ : ∃ P0, P0 = (f.acq L k u).ps := ⟨_, rfl⟩
  obtain ⟨d, hd⟩ : ∃ d, d = f.acqD L k u := ⟨_, rfl⟩
  rw [← hV0, ← hP0, ← hd] at cL ⊢
  have y0 := blk_frozen hF0.did 0
  have y1 := blk_frozen hF0.did 1
  have y2 := blk_frozen hF0.did 2
  have y3 := blk_frozen hF0.did 3
  obtain ⟨p0, p1, p2, p3⟩ := hF0.dcell
  have HE := Lib.hid (And.intro hF0 hk)
  have HZ := Lib.hid hZ
  clear h hF0 hR hWZ hB hp hs hI hZ hgv hg hV0 hP0 hd
  go_enter Tryz.func111, Tryz.ntmps111
  go_upto_region 4 with fail
  rw [← HZ.out]
  clear b3
  go_upto_region 17 with (first | (go_at_call 112; (with_reducible refine cL.mono ?_); intro e w2 hq; unfold RkPost at hq; obtain ⟨rfl, hP⟩ := hq; dsimp only [Dd.rval]; have hM := HE.out.1.keep (s' := f.s) (Y := w2) ⟨hP.raw, hP.ref, HE.out.1.fp.wr.trans hP.wr (fun _ _ e => e), HE.out.1.fp.old, HE.out.1.fp.bs, HE.out.1.fp.bw⟩ hP.wr (fun _ e => e); obtain ⟨p0, p1, p2, p3⟩ := hM.dcell; obtain ⟨y0, y1, y2, y3⟩ := hM.dfrz; have HM := Lib.hid (hM.setAll d); clear hM hP))
  obtain ⟨V, hV⟩ : ∃ V, V = ((((w2.setCell ⟨w.heap.size + 1, 0, none⟩ (.int .i64 d.ev)).setCell ⟨w.heap.size + 1, 1, none⟩ (.int .i64 (b2i d.enq))).setCell ⟨w.heap.size + 1, 2, none⟩ (.int .i64 (b2i d.arr))).setCell ⟨w.heap.size + 1, 3, none⟩ (.int .i64 (b2i d.lead))) := ⟨_, rfl⟩
  rw [← hV]
  have gV := HM.out
  rw [← hV] at gV
  clear hV HM c0 cs ct p0 p1 p2 p3 y0 y1 y2 y3
  have n0 : V.drew.cell? ⟨M.r, 0, none⟩ = some (.pointer (some ⟨M.sr, 0, none⟩)) := gV.raw.cell0
  have e0 : V.drew.cell? ⟨w.heap.size + 1, 0, none⟩ = some (.int .i64 d.ev) := gV.dcell.1
  have cE := rs_end gV.drew.raw.seat n1 n2 (k : Int) d.ev
  have HX := Lib.hid gV
  clear gV
  go_region_held3 (fun w' => w'.cell? ⟨M.r, 0, none⟩ = some (.pointer (some ⟨M.sr, 0, none⟩)) ∧ w'.cell? ⟨w.heap.size + 1, 0, none⟩ = some (.int .i64 d.ev)) (first | exact ⟨n0, e0⟩ | exact ⟨d0, q0⟩) (first | (go_at_call 116; (with_reducible refine cE.mono ?_); intro e w4 hq; have hF4 := HX.out.drew.ends (s' := f.s.fin (k : Int) d.ev) (SS.fin_n _ _ _) hq; unfold RsPost at hq; obtain ⟨rfl, _, _⟩ := hq; obtain ⟨q0, q1, q2, q3⟩ := hF4.dcell; obtain ⟨v0, v1, v2, v3⟩ := hF4.rcell; obtain ⟨x0, x1, x2, x3⟩ := hF4.rfrz; have d0 := hF4.raw.cell0; have HT := Lib.hid hF4; clear hF4))
  go_wp2
  refine bodyPost_ret (v := Dd.rval d) (results_cell_row rfl _ _ w.heap.size 105 _ (0, 0) _ rfl (set4 HT.out.res rfl _ _ _ _) Tryz.underlying105 rfl i_rid) rfl HT.out.told
set_option maxHeartbeats 8000000 in
theorem ml_unl0 {w : World} {M : Mp} {bk : Nat} {so : Option Addr} {cap : Nat} {dv : Value} {f : FL} {L : Lp} (h : MsIn w M bk so cap dv f.s (fv f) f.ps) (hL1 : L.a1 = M.a) (hL2 : L.a2 = M.a + 1) (k : Nat) (hk : k < f.s.n) (u x : Int) (hB : RkIn f k u) (hp : f.pc k = 0) (hs : f.s.st k = 3) :
    Calls Tryz.prog 111 #[.pointer (some ⟨M.r, 0, none⟩), .pointer (some ⟨M.pr, 0, none⟩), .int .i64 (k : Int), .int .i64 u, .int .i64 x] w (RkPost w M bk dv f.s (vk (fv f) k (f.cl k) 1 (f.nd k) (f.ahd k) (f.of k) (tellS f.ps u 1 (L.nA (f.nd k)))) (doS f.ps u 1 (L.nA (f.nd k)) 0 0) Dd.no.rval) := by
  obtain ⟨Z, hZ⟩ : ∃ Z, Z = (w.alloc (.cells #[.int .i64 0, .int .i64 0, .int .i64 0, .int .i64 0] 105)).alloc (.cells #[.int .i64 0, .int .i64 0, .int .i64 0, .int .i64 0] 105) := ⟨_, rfl⟩
  obtain ⟨hF0, hR, hWZ⟩ := h.start Z hZ
  have i0 : (0 : Int) ≤ (k : Int) := by omega
  have i1 : (k : Int) < f.s.n := by omega
  have i2 : ¬ (k : Int) < 0 := by omega
  have i3 : ¬ (f.s.n : Int) ≤ (k : Int) := by omega
  have iN : decide (f.s.n ≤ k) = false := decide_eq_false (by omega)
  have n1 := h.n1
  have n2 := h.n2
  have b3 := (h.raw.after ((Wrote.refl Nil w).alloc (.cells #[.int .i64 0, .int .i64 0, .int .i64 0, .int .i64 0] 105))).cell3
  obtain ⟨g, cg, hgv, hg⟩ := SrAt.stV hF0.raw.seat (show 0 < f.s.n by omega)
  have c0 := hF0.raw.cell0
  have cs : Z.cell? ⟨M.sr, 0, none⟩ = some (.slice (some ⟨g, 0, none⟩) f.s.n cg) := (SrAt.cell0 hF0.raw.seat).trans (by rw [hgv])
  have ct := (hg k _ (stL_at f.s hk)).1
  rw [hs] at ct
  have hF : Fm w Z M bk dv f.s (vk (fv f) k (f.cl k) 0 (f.nd k) (f.ahd k) (f.of k) (f.wv k)) f.ps w.heap.size (w.heap.size + 1) Dd.no := by
    have e : vk (fv f) k (f.cl k) 0 (f.nd k) (f.ahd k) (f.of k) (f.wv k) = fv f := by have := vk_self (fv f) k; rw [show fv f 1 k = 0 from hp] at this; exact this
    rw [e]; exact hF0
  have hRd := hR.after (w' := Z.drew) ((Wrote.refl Nil Z).drew) fun _ _ => id
  have bz : M.base ≤ Z.drew.heap.size := Nat.le_trans h.hb hWZ.size
  obtain ⟨hcl, hnd, hah, hof, hwv, hT⟩ := hB
  have ma := h.ha
  have eA : L.nA (f.nd k) = M.a + 8 + (f.nd k) := by unfold Lp.nA; omega
  have hT0 := hT 1 (L.nA (f.nd k))
  have cA := ra_load hRd u (L.nA (f.nd k)) h.hD h.hws h.hac bz
  rw [eA] at cA hT0 ⊢
  generalize tellS f.ps u 1 (M.a + 8 + f.nd k) = v at *
  have w1 : IntKind.i64.wrap (M.a + 8) = M.a + 8 := by rw [IntKind.wrap_i64]; omega
  have w2 : IntKind.i64.wrap (M.a + 8 + f.nd k) = M.a + 8 + f.nd k := by rw [IntKind.wrap_i64]; omega
  have m3 := (hF.raw.cellsK hk).c3
  have m1 := (hF.raw.cellsK hk).r1
  have nA := hF.raw.cellsK hk
  have nc1 : Z.drew.cell? ⟨M.r, 1, none⟩ = some (.int .i64 M.a) := nA.c1
  have nc4 : Z.drew.cell? ⟨M.r, 4, none⟩ = some (.slice (some ⟨M.rw 2, 0, none⟩) f.s.n M.nc) := nA.c4
  have nc7 : Z.drew.cell? ⟨M.r, 7, none⟩ = some (.slice (some ⟨M.rw 5, 0, none⟩) f.s.n f.s.n) := nA.c7
  have nr2 : Z.drew.cell? ⟨M.rw 2, k, none⟩ = some (.int .i64 (f.nd k)) := nA.r2
  clear nA
  have HE := Lib.hid (And.intro h (And.intro hk hF))
  have HZ := Lib.hid hZ
  clear h hF hF0 hR hRd hWZ bz hp hs hZ hgv hg hcl hnd hah hof hwv hT ma eA hT0
  go_enter Tryz.func111, Tryz.ntmps111
  go_upto_region 4 with fail
  rw [← HZ.out]
  clear b3
  go_upto_region 9 with fail
  clear c0 cs ct m3 m1
  go_region_held3 (fun w' => w'.cell? ⟨M.r, 1, none⟩ = some (.int .i64 M.a) ∧ w'.cell? ⟨M.r, 4, none⟩ = some (.slice (some ⟨M.rw 2, 0, none⟩) f.s.n M.nc) ∧ w'.cell? ⟨M.r, 7, none⟩ = some (.slice (some ⟨M.rw 5, 0, none⟩) f.s.n f.s.n) ∧ w'.cell? ⟨M.rw 2, k, none⟩ = some (.int .i64 (f.nd k))) (first | with_reducible exact ⟨bc1, bc4, bc7, br2⟩ | with_reducible exact ⟨ac1, ac4, ac7, ar2⟩ | exact ⟨nc1, nc4, nc7, nr2⟩) (first | (go_at_call 113; (with_reducible refine cA.mono ?_); intro e w2 hq; unfold RaPost at hq; obtain ⟨rfl, hRS, hW⟩ := hq; have hA := HE.out.2.2.drew.port hRS hW; have aA := hA.raw.cellsK HE.out.2.1; have ac1 := aA.c1; have ac4 := aA.c4; have ac7 := aA.c7; have ar2 := aA.r2; clear aA; have aB := hA.raw.cellsK HE.out.2.1; have az5 := aB.z5; have as5 := aB.r5; clear aB; have hB3 := hA.s5 v; have bA := hB3.raw.cellsK HE.out.2.1; have bc1 := bA.c1; have bc4 := bA.c4; have bc7 := bA.c7; have br2 := bA.r2; clear bA; have eB := hB3.raw.cellsK HE.out.2.1; have ez1 := eB.z1; have es1 := eB.r1; clear eB; have ec3 := (hB3.raw.cellsK HE.out.2.1).c3; have hS := hB3.s1 1; obtain ⟨q0, q1, q2, q3⟩ := hS.dcell; obtain ⟨u0, u1, u2, u3⟩ := hS.rcell; obtain ⟨t0, t1, t2, t3⟩ := hS.rfrz; have HT := Lib.hid hS; clear hS; clear hB3; clear hA hRS hW))
  go_wp2
  refine bodyPost_ret (v := Dd.rval Dd.no) (results_cell_row rfl _ _ w.heap.size 105 _ (0, 0) _ rfl (set4 HT.out.res rfl _ _ _ _) Tryz.underlying105 rfl i_rid) rfl HT.out.told
set_option maxHeartbeats 8000000 in
theorem ml_unl1b {w : World} {M : Mp} {bk : Nat} {so : Option Addr} {cap : Nat} {dv : Value} {f : FL} {L : Lp} (h : MsIn w M bk so cap dv f.s (fv f) f.ps) (hL1 : L.a1 = M.a) (hL2 : L.a2 = M.a + 1) (k : Nat) (hk : k < f.s.n) (u x : Int) (hB : RkIn f k u) (hp : f.pc k = 1) (hs : f.s.st k = 3) (hc : casT f.ps u (L.nA (f.nd k)) (f.wv k) = false) :
    Calls Tryz.prog 111 #[.pointer (some ⟨M.r, 0, none⟩), .pointer (some ⟨M.pr, 0, none⟩), .int .i64 (k : Int), .int .i64 u, .int .i64 x] w (RkPost w M bk dv (f.s.fin k 0) (vk (fv f) k (f.cl k) 0 (f.nd k) (f.ahd k) (f.of k) (f.wv k)) (doS f.ps u 4 (L.nA (f.nd k)) (f.wv k) (wd (wCl (f.wv k)) 0 (wSp (f.wv k)))) (Dd.rval Dd.no)) := by
  obtain ⟨Z, hZ⟩ : ∃ Z, Z = (w.alloc (.cells #[.int .i64 0, .int .i64 0, .int .i64 0, .int .i64 0] 105)).alloc (.cells #[.int .i64 0, .int .i64 0, .int .i64 0, .int .i64 0] 105) := ⟨_, rfl⟩
  obtain ⟨hF0, hR, hWZ⟩ := h.start Z hZ
  have i0 : (0 : Int) ≤ (k : Int) := by omega
  have i1 : (k : Int) < f.s.n := by omega
  have i2 : ¬ (k : Int) < 0 := by omega
  have i3 : ¬ (f.s.n : Int) ≤ (k : Int) := by omega
  have iN : decide (f.s.n ≤ k) = false := decide_eq_false (by omega)
  have n1 := h.n1
  have n2 := h.n2
  have b3 := (h.raw.after ((Wrote.refl Nil w).alloc (.cells #[.int .i64 0, .int .i64 0, .int .i64 0, .int .i64 0] 105))).cell3
  obtain ⟨g, cg, hgv, hg⟩ := SrAt.stV hF0.raw.seat (show 0 < f.s.n by omega)
  have c0 := hF0.raw.cell0
  have cs : Z.cell? ⟨M.sr, 0, none⟩ = some (.slice (some ⟨g, 0, none⟩) f.s.n cg) := (SrAt.cell0 hF0.raw.seat).trans (by rw [hgv])
  have ct := (hg k _ (stL_at f.s hk)).1
  rw [hs] at ct
  obtain ⟨hcl, hnd, hah, hof, hwv, hT⟩ := hB
  have ma := h.ha
  have hF : Fm w Z M bk dv f.s (vk (fv f) k (f.cl k) 1 (f.nd k) (f.ahd k) (f.of k) (f.wv k)) f.ps w.heap.size (w.heap.size + 1) Dd.no := by
    have e : vk (fv f) k (f.cl k) 1 (f.nd k) (f.ahd k) (f.of k) (f.wv k) = fv f := by have := vk_self (fv f) k; rw [show fv f 1 k = 1 from hp] at this; exact this
    rw [e]; exact hF0
  have eA : L.nA (f.nd k) = M.a + 8 + (f.nd k) := by unfold Lp.nA; omega
  have cQ := rp_parts (f.wv k) hwv
  have cP := rp_word (wCl (f.wv k)) 0 (wSp (f.wv k)) (by unfold wCl; omega) (by decide) (by unfold wSp; omega)
  have wv2 := wd_f hwv
  obtain ⟨B0, hB0⟩ : ∃ B0, B0 = Z.setCell ⟨M.rw 1, k, none⟩ (.int .i64 0) := ⟨_, rfl⟩
  have gB : Fm w B0 M bk dv f.s (vk (fv f) k (f.cl k) 0 (f.nd k) (f.ahd k) (f.of k) (f.wv k)) f.ps w.heap.size (w.heap.size + 1) Dd.no := by rw [hB0]; exact hF.s1 0
  have kB : Wrote (One (M.rw 1)) Z B0 := by rw [hB0]; exact (Wrote.refl _ Z).setCell _ _ fun _ => rfl
  have hRd := (hR.after kB (fun b hb e => by have := h.raw.low.2.1 1 (by decide); unfold One at e; omega)).after (w' := B0.drew) ((Wrote.refl Nil B0).drew) fun _ _ => id
  have bz : M.base ≤ B0.drew.heap.size := Nat.le_trans h.hb (Nat.le_trans hWZ.size kB.size)
  have cA := ra_cas hRd u (L.nA (f.nd k)) (f.wv k) (wd (wCl (f.wv k)) 0 (wSp (f.wv k))) wv2.1 wv2.2 h.hD h.hws h.hac bz
  rw [hc] at cA
  rw [eA] at cA ⊢
  have w1 : IntKind.i64.wrap (M.a + 8) = M.a + 8 := by rw [IntKind.wrap_i64]; omega
  have w2 : IntKind.i64.wrap (M.a + 8 + f.nd k) = M.a + 8 + f.nd k := by rw [IntKind.wrap_i64]; omega
  have m3 := (hF.raw.cellsK hk).c3
  have m1 := (hF.raw.cellsK hk).r1
  have m7 := (hF.raw.cellsK hk).c7
  have m5 := (hF.raw.cellsK hk).r5
  have mz := (hF.raw.cellsK hk).z1
  generalize wCl (f.wv k) = vc at *
  generalize wWt (f.wv k) = vw at *
  generalize wSp (f.wv k) = vs at *
  have nA := gB.raw.cellsK hk
  have nc1 : B0.drew.cell? ⟨M.r, 1, none⟩ = some (.int .i64 M.a) := nA.c1
  have nc4 : B0.drew.cell? ⟨M.r, 4, none⟩ = some (.slice (some ⟨M.rw 2, 0, none⟩) f.s.n M.nc) := nA.c4
  have nc7 : B0.drew.cell? ⟨M.r, 7, none⟩ = some (.slice (some ⟨M.rw 5, 0, none⟩) f.s.n f.s.n) := nA.c7
  have nr2 : B0.drew.cell? ⟨M.rw 2, k, none⟩ = some (.int .i64 (f.nd k)) := nA.r2
  have nr5 : B0.drew.cell? ⟨M.rw 5, k, none⟩ = some (.int .u32 (f.wv k)) := nA.r5
  clear nA
  have HE := Lib.hid (And.intro h (And.intro hk gB))
  have HZ := Lib.hid hZ
  clear h hF hF0 hR hRd hWZ bz hp hs hZ hgv hg hcl hnd hah hof hwv hT ma eA wv2 kB gB hc
  go_enter Tryz.func111, Tryz.ntmps111
  go_upto_region 4 with fail
  rw [← HZ.out]
  clear b3
  go_upto_region 14 with (go_at_call 114; (with_reducible refine (cQ _).mono ?_); rintro e w' ⟨rfl, rfl⟩)
  rw [← hB0]
  clear c0 cs ct m3 m1 m7 m5 mz hB0
  go_region_held3 (fun w' => w'.cell? ⟨M.r, 1, none⟩ = some (.int .i64 M.a) ∧ w'.cell? ⟨M.r, 4, none⟩ = some (.slice (some ⟨M.rw 2, 0, none⟩) f.s.n M.nc) ∧ w'.cell? ⟨M.r, 7, none⟩ = some (.slice (some ⟨M.rw 5, 0, none⟩) f.s.n f.s.n) ∧ w'.cell? ⟨M.rw 2, k, none⟩ = some (.int .i64 (f.nd k)) ∧ w'.cell? ⟨M.rw 5, k, none⟩ = some (.int .u32 (f.wv k))) (first | with_reducible exact ⟨ac1, ac4, ac7, ar2, ar5⟩ | exact ⟨nc1, nc4, nc7, nr2, nr5⟩) (first | (go_at_call 26; (with_reducible refine (cP _).mono ?_); rintro e w' ⟨rfl, rfl⟩) | (go_at_call 115; (with_reducible refine cA.mono ?_); intro e w2 hq; unfold RaPost at hq; obtain ⟨rfl, hRS, hW⟩ := hq; have hA := HE.out.2.2.drew.port hRS hW; have aA := hA.raw.cellsK HE.out.2.1; have ac1 := aA.c1; have ac4 := aA.c4; have ac7 := aA.c7; have ar2 := aA.r2; have ar5 := aA.r5; clear aA; have HA := Lib.hid hA; clear hA hRS hW))
  go_upto_region 17 with fail
  have gV := HA.out
  have n0 : w2.drew.cell? ⟨M.r, 0, none⟩ = some (.pointer (some ⟨M.sr, 0, none⟩)) := gV.raw.cell0
  have e0 : w2.drew.cell? ⟨w.heap.size + 1, 0, none⟩ = some (.int .i64 0) := gV.dcell.1
  have cE := rs_end gV.drew.raw.seat n1 n2 (k : Int) 0
  have HX := Lib.hid gV
  clear gV
  go_region_held3 (fun w' => w'.cell? ⟨M.r, 0, none⟩ = some (.pointer (some ⟨M.sr, 0, none⟩)) ∧ w'.cell? ⟨w.heap.size + 1, 0, none⟩ = some (.int .i64 0)) (first | exact ⟨n0, e0⟩ | exact ⟨d0, q0⟩) (first | (go_at_call 116; (with_reducible refine cE.mono ?_); intro e w4 hq; have hF4 := HX.out.drew.ends (s' := f.s.fin (k : Int) 0) (SS.fin_n _ _ _) hq; unfold RsPost at hq; obtain ⟨rfl, _, _⟩ := hq; obtain ⟨q0, q1, q2, q3⟩ := hF4.dcell; obtain ⟨v0, v1, v2, v3⟩ := hF4.rcell; obtain ⟨x0, x1, x2, x3⟩ := hF4.rfrz; have d0 := hF4.raw.cell0; have HT := Lib.hid hF4; clear hF4))
  go_wp2
  refine bodyPost_ret (v := Dd.rval Dd.no) (results_cell_row rfl _ _ w.heap.size 105 _ (0, 0) _ rfl (set4 HT.out.res rfl _ _ _ _) Tryz.underlying105 rfl i_rid) rfl HT.out.told
set_option maxHeartbeats 8000000 in
theorem ml_unl1a {w : World} {M : Mp} {bk : Nat} {so : Option Addr} {cap : Nat} {dv : Value} {f : FL} {L : Lp} (h : MsIn w M bk so cap dv f.s (fv f) f.ps) (hL1 : L.a1 = M.a) (hL2 : L.a2 = M.a + 1) (k : Nat) (hk : k < f.s.n) (u x : Int) (hB : RkIn f k u) (hp : f.pc k = 1) (hs : f.s.st k = 3) (hc : casT f.ps u (L.nA (f.nd k)) (f.wv k) = true) :
    Calls Tryz.prog 111 #[.pointer (some ⟨M.r, 0, none⟩), .pointer (some ⟨M.pr, 0, none⟩), .int .i64 (k : Int), .int .i64 u, .int .i64 x] w (RkPost w M bk dv (f.s.fin k 3) (vk (fv f) k (f.cl k) 0 (f.ahd k) (f.ahd k) (f.of k) (f.wv k)) (doS f.ps u 4 (L.nA (f.nd k)) (f.wv k) (wd (wCl (f.wv k)) 0 (wSp (f.wv k)))) (Dd.rval ⟨3, false, false, false⟩)) := by
  obtain ⟨Z, hZ⟩ : ∃ Z, Z = (w.alloc (.cells #[.int .i64 0, .int .i64 0, .int .i64 0, .int .i64 0] 105)).alloc (.cells #[.int .i64 0, .int .i64 0, .int .i64 0, .int .i64 0] 105) := ⟨_, rfl⟩
  obtain ⟨hF0, hR, hWZ⟩ := h.start Z hZ
  have i0 : (0 : Int) ≤ (k : Int) := by omega
  have i1 : (k : Int) < f.s.n := by omega
  have i2 : ¬ (k : Int) < 0 := by omega
  have i3 : ¬ (f.s.n : Int) ≤ (k : Int) := by omega
  have iN : decide (f.s.n ≤ k) = false := decide_eq_false (by omega)
  have n1 := h.n1
  have n2 := h.n2
  have b3 := (h.raw.after ((Wrote.refl Nil w).alloc (.cells #[.int .i64 0, .int .i64 0, .int .i64 0, .int .i64 0] 105))).cell3
  obtain ⟨g, cg, hgv, hg⟩ := SrAt.stV hF0.raw.seat (show 0 < f.s.n by omega)
  have c0 := hF0.raw.cell0
  have cs : Z.cell? ⟨M.sr, 0, none⟩ = some (.slice (some ⟨g, 0, none⟩) f.s.n cg) := (SrAt.cell0 hF0.raw.seat).trans (by rw [hgv])
  have ct := (hg k _ (stL_at f.s hk)).1
  rw [hs] at ct
  obtain ⟨hcl, hnd, hah, hof, hwv, hT⟩ := hB
  have ma := h.ha
  have hF : Fm w Z M bk dv f.s (vk (fv f) k (f.cl k) 1 (f.nd k) (f.ahd k) (f.of k) (f.wv k)) f.ps w.heap.size (w.heap.size + 1) Dd.no := by
    have e : vk (fv f) k (f.cl k) 1 (f.nd k) (f.ahd k) (f.of k) (f.wv k) = fv f := by have := vk_self (fv f) k; rw [show fv f 1 k = 1 from hp] at this; exact this
    rw [e]; exact hF0
  have eA : L.nA (f.nd k) = M.a + 8 + (f.nd k) := by unfold Lp.nA; omega
  have cQ := rp_parts (f.wv k) hwv
  have cP := rp_word (wCl (f.wv k)) 0 (wSp (f.wv k)) (by unfold wCl; omega) (by decide) (by unfold wSp; omega)
  have wv2 := wd_f hwv
  obtain ⟨B0, hB0⟩ : ∃ B0, B0 = Z.setCell ⟨M.rw 1, k, none⟩ (.int .i64 0) := ⟨_, rfl⟩
  have gB : Fm w B0 M bk dv f.s (vk (fv f) k (f.cl k) 0 (f.nd k) (f.ahd k) (f.of k) (f.wv k)) f.ps w.heap.size (w.heap.size + 1) Dd.no := by rw [hB0]; exact hF.s1 0
  have kB : Wrote (One (M.rw 1)) Z B0 := by rw [hB0]; exact (Wrote.refl _ Z).setCell _ _ fun _ => rfl
  have hRd := (hR.after kB (fun b hb e => by have := h.raw.low.2.1 1 (by decide); unfold One at e; omega)).after (w' := B0.drew) ((Wrote.refl Nil B0).drew) fun _ _ => id
  have bz : M.base ≤ B0.drew.heap.size := Nat.le_trans h.hb (Nat.le_trans hWZ.size kB.size)
  have cA := ra_cas hRd u (L.nA (f.nd k)) (f.wv k) (wd (wCl (f.wv k)) 0 (wSp (f.wv k))) wv2.1 wv2.2 h.hD h.hws h.hac bz
  rw [hc] at cA
  rw [eA] at cA ⊢
  have w1 : IntKind.i64.wrap (M.a + 8) = M.a + 8 := by rw [IntKind.wrap_i64]; omega
  have w2 : IntKind.i64.wrap (M.a + 8 + f.nd k) = M.a + 8 + f.nd k := by rw [IntKind.wrap_i64]; omega
  have m3 := (hF.raw.cellsK hk).c3
  have m1 := (hF.raw.cellsK hk).r1
  have m7 := (hF.raw.cellsK hk).c7
  have m5 := (hF.raw.cellsK hk).r5
  have mz := (hF.raw.cellsK hk).z1
  generalize wCl (f.wv k) = vc at *
  generalize wWt (f.wv k) = vw at *
  generalize wSp (f.wv k) = vs at *
  have nA := gB.raw.cellsK hk
  have nc1 : B0.drew.cell? ⟨M.r, 1, none⟩ = some (.int .i64 M.a) := nA.c1
  have nc4 : B0.drew.cell? ⟨M.r, 4, none⟩ = some (.slice (some ⟨M.rw 2, 0, none⟩) f.s.n M.nc) := nA.c4
  have nc7 : B0.drew.cell? ⟨M.r, 7, none⟩ = some (.slice (some ⟨M.rw 5, 0, none⟩) f.s.n f.s.n) := nA.c7
  have nr2 : B0.drew.cell? ⟨M.rw 2, k, none⟩ = some (.int .i64 (f.nd k)) := nA.r2
  have nr5 : B0.drew.cell? ⟨M.rw 5, k, none⟩ = some (.int .u32 (f.wv k)) := nA.r5
  clear nA
  have HE := Lib.hid (And.intro h (And.intro hk gB))
  have HZ := Lib.hid hZ
  clear h hF hF0 hR hRd hWZ bz hp hs hZ hgv hg hcl hnd hah hof hwv hT ma eA wv2 kB gB hc
  go_enter Tryz.func111, Tryz.ntmps111
  go_upto_region 4 with fail
  rw [← HZ.out]
  clear b3
  go_upto_region 14 with (go_at_call 114; (with_reducible refine (cQ _).mono ?_); rintro e w' ⟨rfl, rfl⟩)
  rw [← hB0]
  clear c0 cs ct m3 m1 m7 m5 mz hB0
  go_region_held3 (fun w' => w'.cell? ⟨M.r, 1, none⟩ = some (.int .i64 M.a) ∧ w'.cell? ⟨M.r, 4, none⟩ = some (.slice (some ⟨M.rw 2, 0, none⟩) f.s.n M.nc) ∧ w'.cell? ⟨M.r, 7, none⟩ = some (.slice (some ⟨M.rw 5, 0, none⟩) f.s.n f.s.n) ∧ w'.cell? ⟨M.rw 2, k, none⟩ = some (.int .i64 (f.nd k)) ∧ w'.cell? ⟨M.rw 5, k, none⟩ = some (.int .u32 (f.wv k))) (first | with_reducible exact ⟨ac1, ac4, ac7, ar2, ar5⟩ | exact ⟨nc1, nc4, nc7, nr2, nr5⟩) (first | (go_at_call 26; (with_reducible refine (cP _).mono ?_); rintro e w' ⟨rfl, rfl⟩) | (go_at_call 115; (with_reducible refine cA.mono ?_); intro e w2 hq; unfold RaPost at hq; obtain ⟨rfl, hRS, hW⟩ := hq; have hA := HE.out.2.2.drew.port hRS hW; have aA := hA.raw.cellsK HE.out.2.1; have ac1 := aA.c1; have ac4 := aA.c4; have ac7 := aA.c7; have ar2 := aA.r2; have ar5 := aA.r5; clear aA; obtain ⟨bd0, bd1, bd2, bd3⟩ := hA.dcell; obtain ⟨by0, by1, by2, by3⟩ := hA.dfrz; have HA := Lib.hid (hA.setD 0 (.int .i64 3) ⟨3, false, false, false⟩ rfl); clear hA hRS hW))
  go_upto_region 16 with fail
  obtain ⟨V1, hV1⟩ : ∃ V1, V1 = w2.setCell ⟨w.heap.size + 1, 0, none⟩ (.int .i64 3) := ⟨_, rfl⟩
  rw [← hV1]
  have gW := HA.out
  rw [← hV1] at gW
  clear hV1 HA bd0 bd1 bd2 bd3 by0 by1 by2 by3
  have k4 : V1.drew.cell? ⟨M.r, 4, none⟩ = some (.slice (some ⟨M.rw 2, 0, none⟩) f.s.n M.nc) := (gW.raw.cellsK HE.out.2.1).c4
  have k5 : V1.drew.cell? ⟨M.r, 5, none⟩ = some (.slice (some ⟨M.rw 3, 0, none⟩) f.s.n f.s.n) := (gW.raw.cellsK HE.out.2.1).c5
  have k3 : V1.drew.cell? ⟨M.rw 3, k, none⟩ = some (.int .i64 (f.ahd k)) := (gW.raw.cellsK HE.out.2.1).r3
  have kr2 : V1.drew.cell? ⟨M.rw 2, k, none⟩ = some (.int .i64 (f.nd k)) := (gW.raw.cellsK HE.out.2.1).r2
  have kz2 : V1.drew.frozen? ⟨M.rw 2, k, none⟩ = false := (gW.raw.cellsK HE.out.2.1).z2
  have jr2 : V1.cell? ⟨M.rw 2, k, none⟩ = some (.int .i64 (f.nd k)) := (gW.raw.cellsK HE.out.2.1).r2
  have jz2 : V1.frozen? ⟨M.rw 2, k, none⟩ = false := (gW.raw.cellsK HE.out.2.1).z2
  have gN := (gW.s2 (f.ahd k)).drew
  have j4 := (gN.raw.cellsK HE.out.2.1).c4
  have j5 := (gN.raw.cellsK HE.out.2.1).c5
  have j3 := (gN.raw.cellsK HE.out.2.1).r3
  have HN := Lib.hid gN
  clear gW gN
  go_region_held3 (fun w' => w'.cell? ⟨M.r, 4, none⟩ = some (.slice (some ⟨M.rw 2, 0, none⟩) f.s.n M.nc) ∧ w'.cell? ⟨M.r, 5, none⟩ = some (.slice (some ⟨M.rw 3, 0, none⟩) f.s.n f.s.n) ∧ w'.cell? ⟨M.rw 3, k, none⟩ = some (.int .i64 (f.ahd k))) (first | with_reducible exact ⟨j4, j5, j3⟩ | exact ⟨k4, k5, k3⟩) (fail)
  obtain ⟨U, hU⟩ : ∃ U, U = (V1.setCell ⟨M.rw 2, k, none⟩ (.int .i64 (f.ahd k))).drew := ⟨_, rfl⟩
  rw [← hU]
  have gV := HN.out
  rw [← hU] at gV
  clear HN hU k4 k5 k3 kr2 kz2 jr2 jz2 j4 j5 j3
  go_upto_region 17 with fail
  have n0 : U.drew.cell? ⟨M.r, 0, none⟩ = some (.pointer (some ⟨M.sr, 0, none⟩)) := gV.raw.cell0
  have e0 : U.drew.cell? ⟨w.heap.size + 1, 0, none⟩ = some (.int .i64 3) := gV.dcell.1
  have cE := rs_end gV.drew.raw.seat n1 n2 (k : Int) 3
  have HX := Lib.hid gV
  clear gV
  go_region_held3 (fun w' => w'.cell? ⟨M.r, 0, none⟩ = some (.pointer (some ⟨M.sr, 0, none⟩)) ∧ w'.cell? ⟨w.heap.size + 1, 0, none⟩ = some (.int .i64 3)) (first | exact ⟨n0, e0⟩ | exact ⟨d0, q0⟩) (first | (go_at_call 116; (with_reducible refine cE.mono ?_); intro e w4 hq; have hF4 := HX.out.drew.ends (s' := f.s.fin (k : Int) 3) (SS.fin_n _ _ _) hq; unfold RsPost at hq; obtain ⟨rfl, _, _⟩ := hq; obtain ⟨q0, q1, q2, q3⟩ := hF4.dcell; obtain ⟨v0, v1, v2, v3⟩ := hF4.rcell; obtain ⟨x0, x1, x2, x3⟩ := hF4.rfrz; have d0 := hF4.raw.cell0; have HT := Lib.hid hF4; clear hF4))
  go_wp2
  refine bodyPost_ret (v := Dd.rval ⟨3, false, false, false⟩) (results_cell_row rfl _ _ w.heap.size 105 _ (0, 0) _ rfl (set4 HT.out.res rfl _ _ _ _) Tryz.underlying105 rfl i_rid) rfl HT.out.told
/-- to unlock -/
theorem ml_unlock {w : World} {M : Mp} {bk : Nat} {so : Option Addr} {cap : Nat} {dv : Value} {f : FL} {L : Lp} (h : MsIn w M bk so cap dv f.s (fv f) f.ps) (hL1 : L.a1 = M.a) (hL2 : L.a2 = M.a + 1) (k : Nat) (hk : k < f.s.n) (u x : Int) (hB : RkIn f k u) (hp : 0 ≤ f.pc k ∧ f.pc k ≤ 1) (hs : f.s.st k = 3) :
    Calls Tryz.prog 111 #[.pointer (some ⟨M.r, 0, none⟩), .pointer (some ⟨M.pr, 0, none⟩), .int .i64 (k : Int), .int .i64 u, .int .i64 x] w (RkPost w M bk dv (f.s.fin k (f.relD L k u).ev) (fv (f.rel L k u)) (f.rel L k u).ps (f.relD L k u).rval) := by
  have key : ∀ (g : FL) (x2 : Ab) (ps : PSta), g = ({ f with ps := ps } : FL).put k x2 → fv g = vk (fv f) k x2.cl x2.pc x2.nd x2.ahd x2.of x2.wv ∧ g.ps = ps := fun g x2 ps e => by rw [e]; exact ⟨fv_put f f.s k x2 ps, rfl⟩
  have : f.pc k = 0 ∨ f.pc k = 1 := by omega
  rcases this with hd | hd
  · have e1 : f.rel L k u = ({ f with ps := doS f.ps u 1 (L.nA (f.nd k)) 0 0 } : FL).put k ⟨f.cl k, 1, f.nd k, f.ahd k, f.of k, tellS f.ps u 1 (L.nA (f.nd k))⟩ := by unfold FL.rel FL.put; rw [if_pos hd]; simp only [upd_id f.cl k rfl, upd_id f.nd k rfl, upd_id f.ahd k rfl, upd_id f.of k rfl]
    have e2 : f.relD L k u = Dd.no := by unfold FL.relD; rw [if_pos hd]
    obtain ⟨e3, e4⟩ := key _ _ _ e1
    rw [e3, e4, e2, fin_no]
    exact ml_unl0 h hL1 hL2 k hk u x hB hd hs
  · cases hc : casT f.ps u (L.nA (f.nd k)) (f.wv k)
    · have e1 : f.rel L k u = ({ f with ps := doS f.ps u 4 (L.nA (f.nd k)) (f.wv k) (wd (wCl (f.wv k)) 0 (wSp (f.wv k))) } : FL).put k ⟨f.cl k, 0, f.nd k, f.ahd k, f.of k, f.wv k⟩ := by unfold FL.rel FL.put; rw [if_neg (by omega), hc, if_neg (by decide)]; simp only [upd_id f.cl k rfl, upd_id f.nd k rfl, upd_id f.ahd k rfl, upd_id f.of k rfl, upd_id f.wv k rfl]
      have e2 : f.relD L k u = Dd.no := by unfold FL.relD; rw [if_neg (by omega), hc, if_neg (by decide)]
      obtain ⟨e3, e4⟩ := key _ _ _ e1
      rw [e3, e4, e2]
      exact ml_unl1b h hL1 hL2 k hk u x hB hd hs hc
    · have e1 : f.rel L k u = ({ f with ps := doS f.ps u 4 (L.nA (f.nd k)) (f.wv k) (wd (wCl (f.wv k)) 0 (wSp (f.wv k))) } : FL).put k ⟨f.cl k, 0, f.ahd k, f.ahd k, f.of k, f.wv k⟩ := by unfold FL.rel FL.put; rw [if_neg (by omega), hc, if_pos rfl]; simp only [upd_id f.cl k rfl, upd_id f.ahd k rfl, upd_id f.of k rfl, upd_id f.wv k rfl]
      have e2 : f.relD L k u = ⟨3, false, false, false⟩ := by unfold FL.relD; rw [if_neg (by omega), hc, if_pos rfl]
      obtain ⟨e3, e4⟩ := key _ _ _ e1
      rw [e3, e4, e2]
      exact ml_unl1a h hL1 hL2 k hk u x hB hd hs hc
end Go.Proofs.YteacdcdjdbobnaaGreat
