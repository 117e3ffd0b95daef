/- A step of a call of the reference's abortable lock: which node it takes, its swap. -/
import Derived.Test.YtdhpmcafekpfhaaGreatAbortRdo
import Derived.WalkLawsBesides
import Derived.Outline
import Derived.Deep.QuietTactic
import Derived.Deep.RegionHeld3
import Derived.BigQuiet
import Derived.BigFrame
import Derived.Handy
import Derived.OpenShut
import Derived.Lib.Walk
import Derived.WalkKit
import Derived.Lib.Hide
namespace Go.Proofs.YtdhpmcafekpfhaaGreat
open Go.RowKit Go.BigFrame
set_option linter.unusedVariables false
set_option maxRecDepth 100000

theorem ref_own {X Y : World} {M : Mp} {s : SS} {ea : Nat} {v : Nat → Nat → Int} {bk : Nat} {so : Option Addr} {cap : Nat} {dv : Value} {ps : PSta} (hR : RefAt X M.base M.pr bk so cap dv ps) (h : MlRaw X M s ea v) {i : Nat} (hi : i < 4) (k : Wrote (One (M.rw i)) X Y) : RefAt Y M.base M.pr bk so cap dv ps :=
  hR.after k fun b hb e => by have := h.low.2.1 i hi; cases e; omega

set_option maxHeartbeats 4000000 in
theorem rl_lock1A {w : World} {M : Mp} {bk : Nat} {so : Option Addr} {cap : Nat} {dv : Value} {f : FL} {L : Lp} (h : MsIn w M bk so cap dv f.s f.ea (fv f) f.ps) (hL1 : L.a1 = M.a) (hL2 : L.a2 = M.a + 1) (k : Nat) (hk : k < f.s.n) (u x : Int) (hp : f.pc k = 1) (hn : 0 ≤ f.nd k ∧ f.nd k < 4294967296) (ho : 0 ≤ f.oth k ∧ f.oth k < 4294967296) (ht : 0 ≤ f.tr k ∧ f.tr k ≤ 8) (hT : ∀ K a, 0 ≤ tellS f.ps u K a ∧ tellS f.ps u K a < 4294967296) (hv : tellS f.ps u 1 (L.oA (f.id k)) = 0) :
    Calls Tryz.prog 117 #[.pointer (some ⟨M.r, 0, none⟩), .pointer (some ⟨M.pr, 0, none⟩), .int .i64 (k : Int), .int .i64 u, .int .i64 x] w (RkPost w M bk dv f.s f.ea (vk (fv f) k 2 (f.id k) (f.oth k) (f.tr k + 1)) (doS f.ps u 1 (L.oA (f.id k)) 0 0) (Dd.rval Dd.no)) := by
  obtain ⟨Z, hZ⟩ : ∃ Z, Z = (w.alloc (.cells #[.int .i64 0, .int .i64 0, .int .i64 0, .int .i64 0] 109)).alloc (.cells #[.int .i64 0, .int .i64 0, .int .i64 0, .int .i64 0] 109) := ⟨_, rfl⟩
  obtain ⟨hF0, hR, hWZ⟩ := h.start Z hZ
  have hF : Fm w Z M bk dv f.s f.ea (vk (fv f) k 1 (f.nd k) (f.oth k) (f.tr k)) f.ps w.heap.size (w.heap.size + 1) Dd.no := by
    have e : vk (fv f) k 1 (f.nd k) (f.oth k) (f.tr k) = fv f := by rw [← hp]; exact vk_self (fv f) k
    rw [e]; exact hF0
  have i0 : (0 : Int) ≤ (k : Int) := by omega
  have i1 : (k : Int) < f.s.n := by omega
  have bz : M.base ≤ Z.heap.size := Nat.le_trans h.hb hWZ.size
  have e8 := h.he
  have n64 := h.n2
  have hkn : (k : Int) * f.ea ≤ 512 := by
    have h1 : k * f.ea ≤ 64 * 8 := Nat.mul_le_mul (by omega) e8.2
    omega
  have hk0 : 0 ≤ (k : Int) * f.ea := Int.mul_nonneg (by omega) (by omega)
  have hidv : f.id k = (k : Int) * f.ea + f.tr k + 1 := rfl
  have hid : 0 ≤ f.id k ∧ f.id k < 4294967296 := by rw [hidv]; omega
  obtain ⟨i, hi⟩ : ∃ i, i = f.id k := ⟨_, rfl⟩
  rw [← hi] at hid hidv hv ⊢
  have w1 : IntKind.i64.wrap ((k : Int) * f.ea) = (k : Int) * f.ea := by rw [IntKind.wrap_i64]; omega
  have w2 : IntKind.i64.wrap ((k : Int) * f.ea + f.tr k) = (k : Int) * f.ea + f.tr k := by rw [IntKind.wrap_i64]; omega
  have w3 : IntKind.i64.wrap ((k : Int) * f.ea + f.tr k + 1) = i := by rw [hidv, IntKind.wrap_i64]; omega
  have w4 : IntKind.i64.wrap (f.tr k + 1) = f.tr k + 1 := by rw [IntKind.wrap_i64]; omega
  obtain ⟨Y, hY⟩ : ∃ Y, Y = Z.drew := ⟨_, rfl⟩
  have hFd : Fm w Y M bk dv f.s f.ea (vk (fv f) k 1 (f.nd k) (f.oth k) (f.tr k)) f.ps w.heap.size (w.heap.size + 1) Dd.no := by rw [hY]; exact hF.drew
  have hRd : RefAt Y M.base M.pr bk so cap dv f.ps := by rw [hY]; exact hR.after ((Wrote.refl Nil Z).drew) fun _ _ => id
  have hF1 := hFd.s1 i
  have hF2 := hF1.s3 (f.tr k + 1)
  have hR1 : RefAt _ M.base M.pr bk so cap dv f.ps := ref_own hRd hFd.raw (i := 1) (by decide) ((Wrote.refl _ Y).setCell ⟨M.rw 1, k, none⟩ (.int .i64 i) fun _ => rfl)
  have hR2 : RefAt _ M.base M.pr bk so cap dv f.ps := ref_own hR1 hF1.raw (i := 3) (by decide) ((Wrote.refl _ _).setCell ⟨M.rw 3, k, none⟩ (.int .i64 (f.tr k + 1)) fun _ => rfl)
  obtain ⟨X1, hX1⟩ : ∃ X1, X1 = Y.setCell ⟨M.rw 1, k, none⟩ (.int .i64 i) := ⟨_, rfl⟩
  rw [← hX1] at hF1 hF2 hR1 hR2
  obtain ⟨X2, hX2⟩ : ∃ X2, X2 = X1.setCell ⟨M.rw 3, k, none⟩ (.int .i64 (f.tr k + 1)) := ⟨_, rfl⟩
  rw [← hX2] at hF2 hR2
  have bz2 : M.base ≤ X2.heap.size := Nat.le_trans hF2.fp.bw hF2.fp.wr.size
  have cG := rl_wordO hF2.raw h.ha hL2 i hid
  have cA := ra_load hR2 u (L.oA i) h.hD h.hws h.hac bz2
  rw [hv] at cA
  obtain ⟨c0, c1, c2, c3, c4, c5, c6, r0, r1, r2, r3, z0, z1, z2, z3⟩ := hF.raw.cellsK hk
  obtain ⟨p0, p1, p2, p3⟩ := hF.dcell
  obtain ⟨y0, y1, y2, y3⟩ := hF.dfrz
  obtain ⟨v0, v1, v2, v3⟩ := hF.rcell
  obtain ⟨x0, x1, x2, x3⟩ := hF.rfrz
  have C2 : Z.drew.cell? ⟨M.r, 2, none⟩ = some (.int .i64 (f.ea : Nat)) := c2
  have C6 : Z.drew.cell? ⟨M.r, 6, none⟩ = some (.slice (some ⟨M.rw 3, 0, none⟩) f.s.n f.s.n) := c6
  have R3 : Z.drew.cell? ⟨M.rw 3, k, none⟩ = some (.int .i64 (f.tr k)) := r3
  have HE := Lib.hid (And.intro hFd hY)
  have HK := Lib.hid hk
  have H1 := Lib.hid hF1
  have H2 := Lib.hid hF2
  have HX1 := Lib.hid hX1
  have HX2 := Lib.hid hX2
  clear h hF hF0 hR hWZ bz hp hn ho ht hT hFd hRd hY hF1 hF2 hR1 hR2 hX1 hX2 bz2 hid hidv hi hkn hk0 e8 n64 hv
  go_enter Tryz.func117, Tryz.ntmps117
  go_upto_region 2 with fail
  rw [← hZ]
  clear hZ
  go_wp2
  go_region_held3 (fun w' => w'.cell? ⟨M.r, 2, none⟩ = some (.int .i64 (f.ea : Nat)) ∧ w'.cell? ⟨M.r, 6, none⟩ = some (.slice (some ⟨M.rw 3, 0, none⟩) f.s.n f.s.n) ∧ w'.cell? ⟨M.rw 3, k, none⟩ = some (.int .i64 (f.tr k))) (exact ⟨C2, C6, R3⟩) (fail)
  clear c0 c1 c2 c3 c4 c5 c6 r0 r1 r2 r3 z0 z1 z2 z3 p0 p1 p2 p3 y0 y1 y2 y3 v0 v1 v2 v3 x0 x1 x2 x3 C2 C6 R3 w1 w2 w3
  rw [← HE.out.2]
  obtain ⟨c0, c1, c2, c3, c4, c5, c6, r0, r1, r2, r3, z0, z1, z2, z3⟩ := HE.out.1.raw.cellsK HK.out
  obtain ⟨p0, p1, p2, p3⟩ := HE.out.1.dcell
  obtain ⟨y0, y1, y2, y3⟩ := HE.out.1.dfrz
  obtain ⟨v0, v1, v2, v3⟩ := HE.out.1.rcell
  obtain ⟨x0, x1, x2, x3⟩ := HE.out.1.rfrz
  go_upto_region 7 with fail
  rw [← HX1.out]
  clear c0 c1 c2 c3 c4 c5 c6 r0 r1 r2 r3 z0 z1 z2 z3 p0 p1 p2 p3 y0 y1 y2 y3 v0 v1 v2 v3 x0 x1 x2 x3
  obtain ⟨c0, c1, c2, c3, c4, c5, c6, r0, r1, r2, r3, z0, z1, z2, z3⟩ := H1.out.raw.cellsK HK.out
  obtain ⟨p0, p1, p2, p3⟩ := H1.out.dcell
  obtain ⟨y0, y1, y2, y3⟩ := H1.out.dfrz
  obtain ⟨v0, v1, v2, v3⟩ := H1.out.rcell
  obtain ⟨x0, x1, x2, x3⟩ := H1.out.rfrz
  go_upto_region 8 with fail
  rw [← HX2.out]
  clear c0 c1 c2 c3 c4 c5 c6 r0 r1 r2 r3 z0 z1 z2 z3 p0 p1 p2 p3 y0 y1 y2 y3 v0 v1 v2 v3 x0 x1 x2 x3
  go_wp2_with (first | (go_at_call 116; (with_reducible refine cG.mono ?_); rintro e w' ⟨rfl, rfl⟩) | (go_at_call 120; (with_reducible refine cA.mono ?_); intro e w2 hq; unfold RaPost at hq; obtain ⟨rfl, hRS, hW⟩ := hq; have hA := H2.out.port hRS hW; obtain ⟨c0, c1, c2, c3, c4, c5, c6, r0, r1, r2, r3, z0, z1, z2, z3⟩ := hA.raw.cellsK HK.out; obtain ⟨p0, p1, p2, p3⟩ := hA.dcell; obtain ⟨y0, y1, y2, y3⟩ := hA.dfrz; obtain ⟨v0, v1, v2, v3⟩ := hA.rcell; obtain ⟨x0, x1, x2, x3⟩ := hA.rfrz; have hS := hA.s0 2; obtain ⟨q0, q1, q2, q3⟩ := hS.dcell; obtain ⟨u0, u1, u2, u3⟩ := hS.rcell; obtain ⟨t0, t1, t2, t3⟩ := hS.rfrz; have HT := Lib.hid hS; clear hS; clear hA hRS hW))
  refine bodyPost_ret (v := Dd.rval Dd.no) (results_cell_row rfl _ _ w.heap.size 109 _ (0, 0) _ rfl (set4 HT.out.res rfl _ _ _ _) Tryz.underlying109 rfl i_rid) rfl HT.out.told

set_option maxHeartbeats 4000000 in
theorem rl_lock1B {w : World} {M : Mp} {bk : Nat} {so : Option Addr} {cap : Nat} {dv : Value} {f : FL} {L : Lp} (h : MsIn w M bk so cap dv f.s f.ea (fv f) f.ps) (hL1 : L.a1 = M.a) (hL2 : L.a2 = M.a + 1) (k : Nat) (hk : k < f.s.n) (u x : Int) (hp : f.pc k = 1) (hn : 0 ≤ f.nd k ∧ f.nd k < 4294967296) (ho : 0 ≤ f.oth k ∧ f.oth k < 4294967296) (ht : 0 ≤ f.tr k ∧ f.tr k ≤ 8) (hT : ∀ K a, 0 ≤ tellS f.ps u K a ∧ tellS f.ps u K a < 4294967296) (hv : tellS f.ps u 1 (L.oA (f.id k)) ≠ 0) (he : f.tr k + 1 = f.ea) :
    Calls Tryz.prog 117 #[.pointer (some ⟨M.r, 0, none⟩), .pointer (some ⟨M.pr, 0, none⟩), .int .i64 (k : Int), .int .i64 u, .int .i64 x] w (RkPost w M bk dv f.s f.ea (vk (fv f) k 1 (f.id k) (f.oth k) (f.tr k + 1)) (doS f.ps u 1 (L.oA (f.id k)) 0 0) (Dd.rval ⟨6, false, false, false⟩)) := by
  obtain ⟨Z, hZ⟩ : ∃ Z, Z = (w.alloc (.cells #[.int .i64 0, .int .i64 0, .int .i64 0, .int .i64 0] 109)).alloc (.cells #[.int .i64 0, .int .i64 0, .int .i64 0, .int .i64 0] 109) := ⟨_, rfl⟩
  obtain ⟨hF0, hR, hWZ⟩ := h.start Z hZ
  have hF : Fm w Z M bk dv f.s f.ea (vk (fv f) k 1 (f.nd k) (f.oth k) (f.tr k)) f.ps w.heap.size (w.heap.size + 1) Dd.no := by
    have e : vk (fv f) k 1 (f.nd k) (f.oth k) (f.tr k) = fv f := by rw [← hp]; exact vk_self (fv f) k
    rw [e]; exact hF0
  have i0 : (0 : Int) ≤ (k : Int) := by omega
  have i1 : (k : Int) < f.s.n := by omega
  have bz : M.base ≤ Z.heap.size := Nat.le_trans h.hb hWZ.size
  have e8 := h.he
  have n64 := h.n2
  have hkn : (k : Int) * f.ea ≤ 512 := by
    have h1 : k * f.ea ≤ 64 * 8 := Nat.mul_le_mul (by omega) e8.2
    omega
  have hk0 : 0 ≤ (k : Int) * f.ea := Int.mul_nonneg (by omega) (by omega)
  have hidv : f.id k = (k : Int) * f.ea + f.tr k + 1 := rfl
  have hid : 0 ≤ f.id k ∧ f.id k < 4294967296 := by rw [hidv]; omega
  obtain ⟨i, hi⟩ : ∃ i, i = f.id k := ⟨_, rfl⟩
  rw [← hi] at hid hidv hv ⊢
  have w1 : IntKind.i64.wrap ((k : Int) * f.ea) = (k : Int) * f.ea := by rw [IntKind.wrap_i64]; omega
  have w2 : IntKind.i64.wrap ((k : Int) * f.ea + f.tr k) = (k : Int) * f.ea + f.tr k := by rw [IntKind.wrap_i64]; omega
  have w3 : IntKind.i64.wrap ((k : Int) * f.ea + f.tr k + 1) = i := by rw [hidv, IntKind.wrap_i64]; omega
  have w4 : IntKind.i64.wrap (f.tr k + 1) = f.tr k + 1 := by rw [IntKind.wrap_i64]; omega
  obtain ⟨Y, hY⟩ : ∃ Y, Y = Z.drew := ⟨_, rfl⟩
  have hFd : Fm w Y M bk dv f.s f.ea (vk (fv f) k 1 (f.nd k) (f.oth k) (f.tr k)) f.ps w.heap.size (w.heap.size + 1) Dd.no := by rw [hY]; exact hF.drew
  have hRd : RefAt Y M.base M.pr bk so cap dv f.ps := by rw [hY]; exact hR.after ((Wrote.refl Nil Z).drew) fun _ _ => id
  have hF1 := hFd.s1 i
  have hF2 := hF1.s3 (f.tr k + 1)
  have hR1 : RefAt _ M.base M.pr bk so cap dv f.ps := ref_own hRd hFd.raw (i := 1) (by decide) ((Wrote.refl _ Y).setCell ⟨M.rw 1, k, none⟩ (.int .i64 i) fun _ => rfl)
  have hR2 : RefAt _ M.base M.pr bk so cap dv f.ps := ref_own hR1 hF1.raw (i := 3) (by decide) ((Wrote.refl _ _).setCell ⟨M.rw 3, k, none⟩ (.int .i64 (f.tr k + 1)) fun _ => rfl)
  obtain ⟨X1, hX1⟩ : ∃ X1, X1 = Y.setCell ⟨M.rw 1, k, none⟩ (.int .i64 i) := ⟨_, rfl⟩
  rw [← hX1] at hF1 hF2 hR1 hR2
  obtain ⟨X2, hX2⟩ : ∃ X2, X2 = X1.setCell ⟨M.rw 3, k, none⟩ (.int .i64 (f.tr k + 1)) := ⟨_, rfl⟩
  rw [← hX2] at hF2 hR2
  have bz2 : M.base ≤ X2.heap.size := Nat.le_trans hF2.fp.bw hF2.fp.wr.size
  have cG := rl_wordO hF2.raw h.ha hL2 i hid
  have cA := ra_load hR2 u (L.oA i) h.hD h.hws h.hac bz2
  generalize tellS f.ps u 1 (L.oA i) = tv at *
  have b1 : (tv != 0) = true := by simpa [bne, BEq.beq] using hv
  have b2 : (f.tr k + 1 == (f.ea : Int)) = true := by rw [he]; exact beq_self_eq_true _
  obtain ⟨c0, c1, c2, c3, c4, c5, c6, r0, r1, r2, r3, z0, z1, z2, z3⟩ := hF.raw.cellsK hk
  obtain ⟨p0, p1, p2, p3⟩ := hF.dcell
  obtain ⟨y0, y1, y2, y3⟩ := hF.dfrz
  obtain ⟨v0, v1, v2, v3⟩ := hF.rcell
  obtain ⟨x0, x1, x2, x3⟩ := hF.rfrz
  have C2 : Z.drew.cell? ⟨M.r, 2, none⟩ = some (.int .i64 (f.ea : Nat)) := c2
  have C6 : Z.drew.cell? ⟨M.r, 6, none⟩ = some (.slice (some ⟨M.rw 3, 0, none⟩) f.s.n f.s.n) := c6
  have R3 : Z.drew.cell? ⟨M.rw 3, k, none⟩ = some (.int .i64 (f.tr k)) := r3
  have HE := Lib.hid (And.intro hFd hY)
  have HK := Lib.hid hk
  have H1 := Lib.hid hF1
  have H2 := Lib.hid hF2
  have HX1 := Lib.hid hX1
  have HX2 := Lib.hid hX2
  clear h hF hF0 hR hWZ bz hp hn ho ht hT hFd hRd hY hF1 hF2 hR1 hR2 hX1 hX2 bz2 hid hidv hi hkn hk0 e8 n64 hv he
  go_enter Tryz.func117, Tryz.ntmps117
  go_upto_region 2 with fail
  rw [← hZ]
  clear hZ
  go_wp2
  go_region_held3 (fun w' => w'.cell? ⟨M.r, 2, none⟩ = some (.int .i64 (f.ea : Nat)) ∧ w'.cell? ⟨M.r, 6, none⟩ = some (.slice (some ⟨M.rw 3, 0, none⟩) f.s.n f.s.n) ∧ w'.cell? ⟨M.rw 3, k, none⟩ = some (.int .i64 (f.tr k))) (exact ⟨C2, C6, R3⟩) (fail)
  clear c0 c1 c2 c3 c4 c5 c6 r0 r1 r2 r3 z0 z1 z2 z3 p0 p1 p2 p3 y0 y1 y2 y3 v0 v1 v2 v3 x0 x1 x2 x3 C2 C6 R3 w1 w2 w3
  rw [← HE.out.2]
  obtain ⟨c0, c1, c2, c3, c4, c5, c6, r0, r1, r2, r3, z0, z1, z2, z3⟩ := HE.out.1.raw.cellsK HK.out
  obtain ⟨p0, p1, p2, p3⟩ := HE.out.1.dcell
  obtain ⟨y0, y1, y2, y3⟩ := HE.out.1.dfrz
  obtain ⟨v0, v1, v2, v3⟩ := HE.out.1.rcell
  obtain ⟨x0, x1, x2, x3⟩ := HE.out.1.rfrz
  go_upto_region 7 with fail
  rw [← HX1.out]
  clear c0 c1 c2 c3 c4 c5 c6 r0 r1 r2 r3 z0 z1 z2 z3 p0 p1 p2 p3 y0 y1 y2 y3 v0 v1 v2 v3 x0 x1 x2 x3
  obtain ⟨c0, c1, c2, c3, c4, c5, c6, r0, r1, r2, r3, z0, z1, z2, z3⟩ := H1.out.raw.cellsK HK.out
  obtain ⟨p0, p1, p2, p3⟩ := H1.out.dcell
  obtain ⟨y0, y1, y2, y3⟩ := H1.out.dfrz
  obtain ⟨v0, v1, v2, v3⟩ := H1.out.rcell
  obtain ⟨x0, x1, x2, x3⟩ := H1.out.rfrz
  go_upto_region 8 with fail
  rw [← HX2.out]
  clear c0 c1 c2 c3 c4 c5 c6 r0 r1 r2 r3 z0 z1 z2 z3 p0 p1 p2 p3 y0 y1 y2 y3 v0 v1 v2 v3 x0 x1 x2 x3
  go_upto_region 9 with (first | (go_at_call 116; (with_reducible refine cG.mono ?_); rintro e w' ⟨rfl, rfl⟩) | (go_at_call 120; (with_reducible refine cA.mono ?_); intro e w2 hq; unfold RaPost at hq; obtain ⟨rfl, hRS, hW⟩ := hq; have hA := H2.out.port hRS hW; have HAA := Lib.hid hA; clear hA hRS hW))
  obtain ⟨V, hV⟩ : ∃ V, V = w2.drew := ⟨_, rfl⟩
  have hAd := HAA.out.drew
  have c6' := hAd.raw.cell6
  have c2' := hAd.raw.cell2
  have r3' := (hAd.raw.cellsK HK.out).r3
  rw [← hV] at hAd
  obtain ⟨c0, c1, c2, c3, c4, c5, c6, r0, r1, r2, r3, z0, z1, z2, z3⟩ := hAd.raw.cellsK HK.out
  obtain ⟨p0, p1, p2, p3⟩ := hAd.dcell
  obtain ⟨y0, y1, y2, y3⟩ := hAd.dfrz
  obtain ⟨v0, v1, v2, v3⟩ := hAd.rcell
  obtain ⟨x0, x1, x2, x3⟩ := hAd.rfrz
  have hS := hAd.setD 0 (.int .i64 6) ⟨6, false, false, false⟩ rfl
  obtain ⟨q0, q1, q2, q3⟩ := hS.dcell
  obtain ⟨u0, u1, u2, u3⟩ := hS.rcell
  obtain ⟨t0, t1, t2, t3⟩ := hS.rfrz
  have HT := Lib.hid hS
  clear hS hAd
  go_region_held3 (fun w' => w'.cell? ⟨M.r, 6, none⟩ = some (.slice (some ⟨M.rw 3, 0, none⟩) f.s.n f.s.n) ∧ w'.cell? ⟨M.rw 3, k, none⟩ = some (.int .i64 (f.tr k + 1)) ∧ w'.cell? ⟨M.r, 2, none⟩ = some (.int .i64 (f.ea : Nat))) (exact ⟨c6', r3', c2'⟩) (fail)
  rw [← hV]
  clear hV c6' r3' c2'
  go_wp2
  refine bodyPost_ret (v := Dd.rval ⟨6, false, false, false⟩) (results_cell_row rfl _ _ w.heap.size 109 _ (0, 0) _ rfl (set4 HT.out.res rfl _ _ _ _) Tryz.underlying109 rfl i_rid) rfl HT.out.told

set_option maxHeartbeats 4000000 in
theorem rl_lock1C {w : World} {M : Mp} {bk : Nat} {so : Option Addr} {cap : Nat} {dv : Value} {f : FL} {L : Lp} (h : MsIn w M bk so cap dv f.s f.ea (fv f) f.ps) (hL1 : L.a1 = M.a) (hL2 : L.a2 = M.a + 1) (k : Nat) (hk : k < f.s.n) (u x : Int) (hp : f.pc k = 1) (hn : 0 ≤ f.nd k ∧ f.nd k < 4294967296) (ho : 0 ≤ f.oth k ∧ f.oth k < 4294967296) (ht : 0 ≤ f.tr k ∧ f.tr k ≤ 8) (hT : ∀ K a, 0 ≤ tellS f.ps u K a ∧ tellS f.ps u K a < 4294967296) (hv : tellS f.ps u 1 (L.oA (f.id k)) ≠ 0) (he : f.tr k + 1 ≠ f.ea) :
    Calls Tryz.prog 117 #[.pointer (some ⟨M.r, 0, none⟩), .pointer (some ⟨M.pr, 0, none⟩), .int .i64 (k : Int), .int .i64 u, .int .i64 x] w (RkPost w M bk dv f.s f.ea (vk (fv f) k 1 (f.id k) (f.oth k) (f.tr k + 1)) (doS f.ps u 1 (L.oA (f.id k)) 0 0) (Dd.rval Dd.no)) := by
  obtain ⟨Z, hZ⟩ : ∃ Z, Z = (w.alloc (.cells #[.int .i64 0, .int .i64 0, .int .i64 0, .int .i64 0] 109)).alloc (.cells #[.int .i64 0, .int .i64 0, .int .i64 0, .int .i64 0] 109) := ⟨_, rfl⟩
  obtain ⟨hF0, hR, hWZ⟩ := h.start Z hZ
  have hF : Fm w Z M bk dv f.s f.ea (vk (fv f) k 1 (f.nd k) (f.oth k) (f.tr k)) f.ps w.heap.size (w.heap.size + 1) Dd.no := by
    have e : vk (fv f) k 1 (f.nd k) (f.oth k) (f.tr k) = fv f := by rw [← hp]; exact vk_self (fv f) k
    rw [e]; exact hF0
  have i0 : (0 : Int) ≤ (k : Int) := by omega
  have i1 : (k : Int) < f.s.n := by omega
  have bz : M.base ≤ Z.heap.size := Nat.le_trans h.hb hWZ.size
  have e8 := h.he
  have n64 := h.n2
  have hkn : (k : Int) * f.ea ≤ 512 := by
    have h1 : k * f.ea ≤ 64 * 8 := Nat.mul_le_mul (by omega) e8.2
    omega
  have hk0 : 0 ≤ (k : Int) * f.ea := Int.mul_nonneg (by omega) (by omega)
  have hidv : f.id k = (k : Int) * f.ea + f.tr k + 1 := rfl
  have hid : 0 ≤ f.id k ∧ f.id k < 4294967296 := by rw [hidv]; omega
  obtain ⟨i, hi⟩ : ∃ i, i = f.id k := ⟨_, rfl⟩
  rw [← hi] at hid hidv hv ⊢
  have w1 : IntKind.i64.wrap ((k : Int) * f.ea) = (k : Int) * f.ea := by rw [IntKind.wrap_i64]; omega
  have w2 : IntKind.i64.wrap ((k : Int) * f.ea + f.tr k) = (k : Int) * f.ea + f.tr k := by rw [IntKind.wrap_i64]; omega
  have w3 : IntKind.i64.wrap ((k : Int) * f.ea + f.tr k + 1) = i := by rw [hidv, IntKind.wrap_i64]; omega
  have w4 : IntKind.i64.wrap (f.tr k + 1) = f.tr k + 1 := by rw [IntKind.wrap_i64]; omega
  obtain ⟨Y, hY⟩ : ∃ Y, Y = Z.drew := ⟨_, rfl⟩
  have hFd : Fm w Y M bk dv f.s f.ea (vk (fv f) k 1 (f.nd k) (f.oth k) (f.tr k)) f.ps w.heap.size (w.heap.size + 1) Dd.no := by rw [hY]; exact hF.drew
  have hRd : RefAt Y M.base M.pr bk so cap dv f.ps := by rw [hY]; exact hR.after ((Wrote.refl Nil Z).drew) fun _ _ => id
  have hF1 := hFd.s1 i
  have hF2 := hF1.s3 (f.tr k + 1)
  have hR1 : RefAt _ M.base M.pr bk so cap dv f.ps := ref_own hRd hFd.raw (i := 1) (by decide) ((Wrote.refl _ Y).setCell ⟨M.rw 1, k, none⟩ (.int .i64 i) fun _ => rfl)
  have hR2 : RefAt _ M.base M.pr bk so cap dv f.ps := ref_own hR1 hF1.raw (i := 3) (by decide) ((Wrote.refl _ _).setCell ⟨M.rw 3, k, none⟩ (.int .i64 (f.tr k + 1)) fun _ => rfl)
  obtain ⟨X1, hX1⟩ : ∃ X1, X1 = Y.setCell ⟨M.rw 1, k, none⟩ (.int .i64 i) := ⟨_, rfl⟩
  rw [← hX1] at hF1 hF2 hR1 hR2
  obtain ⟨X2, hX2⟩ : ∃ X2, X2 = X1.setCell ⟨M.rw 3, k, none⟩ (.int .i64 (f.tr k + 1)) := ⟨_, rfl⟩
  rw [← hX2] at hF2 hR2
  have bz2 : M.base ≤ X2.heap.size := Nat.le_trans hF2.fp.bw hF2.fp.wr.size
  have cG := rl_wordO hF2.raw h.ha hL2 i hid
  have cA := ra_load hR2 u (L.oA i) h.hD h.hws h.hac bz2
  generalize tellS f.ps u 1 (L.oA i) = tv at *
  have b1 : (tv != 0) = true := by simpa [bne, BEq.beq] using hv
  have b2 : (f.tr k + 1 == (f.ea : Int)) = false := beq_false_of_ne he
  obtain ⟨c0, c1, c2, c3, c4, c5, c6, r0, r1, r2, r3, z0, z1, z2, z3⟩ := hF.raw.cellsK hk
  obtain ⟨p0, p1, p2, p3⟩ := hF.dcell
  obtain ⟨y0, y1, y2, y3⟩ := hF.dfrz
  obtain ⟨v0, v1, v2, v3⟩ := hF.rcell
  obtain ⟨x0, x1, x2, x3⟩ := hF.rfrz
  have C2 : Z.drew.cell? ⟨M.r, 2, none⟩ = some (.int .i64 (f.ea : Nat)) := c2
  have C6 : Z.drew.cell? ⟨M.r, 6, none⟩ = some (.slice (some ⟨M.rw 3, 0, none⟩) f.s.n f.s.n) := c6
  have R3 : Z.drew.cell? ⟨M.rw 3, k, none⟩ = some (.int .i64 (f.tr k)) := r3
  have HE := Lib.hid (And.intro hFd hY)
  have HK := Lib.hid hk
  have H1 := Lib.hid hF1
  have H2 := Lib.hid hF2
  have HX1 := Lib.hid hX1
  have HX2 := Lib.hid hX2
  clear h hF hF0 hR hWZ bz hp hn ho ht hT hFd hRd hY hF1 hF2 hR1 hR2 hX1 hX2 bz2 hid hidv hi hkn hk0 e8 n64 hv he
  go_enter Tryz.func117, Tryz.ntmps117
  go_upto_region 2 with fail
  rw [← hZ]
  clear hZ
  go_wp2
  go_region_held3 (fun w' => w'.cell? ⟨M.r, 2, none⟩ = some (.int .i64 (f.ea : Nat)) ∧ w'.cell? ⟨M.r, 6, none⟩ = some (.slice (some ⟨M.rw 3, 0, none⟩) f.s.n f.s.n) ∧ w'.cell? ⟨M.rw 3, k, none⟩ = some (.int .i64 (f.tr k))) (exact ⟨C2, C6, R3⟩) (fail)
  clear c0 c1 c2 c3 c4 c5 c6 r0 r1 r2 r3 z0 z1 z2 z3 p0 p1 p2 p3 y0 y1 y2 y3 v0 v1 v2 v3 x0 x1 x2 x3 C2 C6 R3 w1 w2 w3
  rw [← HE.out.2]
  obtain ⟨c0, c1, c2, c3, c4, c5, c6, r0, r1, r2, r3, z0, z1, z2, z3⟩ := HE.out.1.raw.cellsK HK.out
  obtain ⟨p0, p1, p2, p3⟩ := HE.out.1.dcell
  obtain ⟨y0, y1, y2, y3⟩ := HE.out.1.dfrz
  obtain ⟨v0, v1, v2, v3⟩ := HE.out.1.rcell
  obtain ⟨x0, x1, x2, x3⟩ := HE.out.1.rfrz
  go_upto_region 7 with fail
  rw [← HX1.out]
  clear c0 c1 c2 c3 c4 c5 c6 r0 r1 r2 r3 z0 z1 z2 z3 p0 p1 p2 p3 y0 y1 y2 y3 v0 v1 v2 v3 x0 x1 x2 x3
  obtain ⟨c0, c1, c2, c3, c4, c5, c6, r0, r1, r2, r3, z0, z1, z2, z3⟩ := H1.out.raw.cellsK HK.out
  obtain ⟨p0, p1, p2, p3⟩ := H1.out.dcell
  obtain ⟨y0, y1, y2, y3⟩ := H1.out.dfrz
  obtain ⟨v0, v1, v2, v3⟩ := H1.out.rcell
  obtain ⟨x0, x1, x2, x3⟩ := H1.out.rfrz
  go_upto_region 8 with fail
  rw [← HX2.out]
  clear c0 c1 c2 c3 c4 c5 c6 r0 r1 r2 r3 z0 z1 z2 z3 p0 p1 p2 p3 y0 y1 y2 y3 v0 v1 v2 v3 x0 x1 x2 x3
  go_upto_region 9 with (first | (go_at_call 116; (with_reducible refine cG.mono ?_); rintro e w' ⟨rfl, rfl⟩) | (go_at_call 120; (with_reducible refine cA.mono ?_); intro e w2 hq; unfold RaPost at hq; obtain ⟨rfl, hRS, hW⟩ := hq; have hA := H2.out.port hRS hW; have HAA := Lib.hid hA; clear hA hRS hW))
  obtain ⟨V, hV⟩ : ∃ V, V = w2.drew := ⟨_, rfl⟩
  have hAd := HAA.out.drew
  have c6' := hAd.raw.cell6
  have c2' := hAd.raw.cell2
  have r3' := (hAd.raw.cellsK HK.out).r3
  rw [← hV] at hAd
  obtain ⟨c0, c1, c2, c3, c4, c5, c6, r0, r1, r2, r3, z0, z1, z2, z3⟩ := hAd.raw.cellsK HK.out
  obtain ⟨p0, p1, p2, p3⟩ := hAd.dcell
  obtain ⟨y0, y1, y2, y3⟩ := hAd.dfrz
  obtain ⟨v0, v1, v2, v3⟩ := hAd.rcell
  obtain ⟨x0, x1, x2, x3⟩ := hAd.rfrz
  have HT := Lib.hid hAd
  clear hAd
  go_region_held3 (fun w' => w'.cell? ⟨M.r, 6, none⟩ = some (.slice (some ⟨M.rw 3, 0, none⟩) f.s.n f.s.n) ∧ w'.cell? ⟨M.rw 3, k, none⟩ = some (.int .i64 (f.tr k + 1)) ∧ w'.cell? ⟨M.r, 2, none⟩ = some (.int .i64 (f.ea : Nat))) (exact ⟨c6', r3', c2'⟩) (fail)
  rw [← hV]
  clear hV c6' r3' c2'
  go_wp2
  refine bodyPost_ret (v := Dd.rval Dd.no) (results_cell_row rfl _ _ w.heap.size 109 _ (0, 0) _ rfl (set4 HT.out.res rfl _ _ _ _) Tryz.underlying109 rfl i_rid) rfl HT.out.told

set_option maxHeartbeats 4000000 in
theorem rl_lock5A {w : World} {M : Mp} {bk : Nat} {so : Option Addr} {cap : Nat} {dv : Value} {f : FL} {L : Lp} (h : MsIn w M bk so cap dv f.s f.ea (fv f) f.ps) (hL1 : L.a1 = M.a) (hL2 : L.a2 = M.a + 1) (k : Nat) (hk : k < f.s.n) (u x : Int) (hp : f.pc k = 5) (hn : 0 ≤ f.nd k ∧ f.nd k < 4294967296) (ho : 0 ≤ f.oth k ∧ f.oth k < 4294967296) (ht : 0 ≤ f.tr k ∧ f.tr k ≤ 8) (hT : ∀ K a, 0 ≤ tellS f.ps u K a ∧ tellS f.ps u K a < 4294967296) (hv : tellS f.ps u 3 L.a1 = 0) :
    Calls Tryz.prog 117 #[.pointer (some ⟨M.r, 0, none⟩), .pointer (some ⟨M.pr, 0, none⟩), .int .i64 (k : Int), .int .i64 u, .int .i64 x] w (RkPost w M bk dv f.s f.ea (vk (fv f) k 6 (f.nd k) (tellS f.ps u 3 L.a1) (f.tr k)) (doS f.ps u 3 L.a1 0 (f.nd k)) (Dd.rval ⟨1, true, false, false⟩)) := by
  obtain ⟨Z, hZ⟩ : ∃ Z, Z = (w.alloc (.cells #[.int .i64 0, .int .i64 0, .int .i64 0, .int .i64 0] 109)).alloc (.cells #[.int .i64 0, .int .i64 0, .int .i64 0, .int .i64 0] 109) := ⟨_, rfl⟩
  obtain ⟨hF0, hR, hWZ⟩ := h.start Z hZ
  have hF : Fm w Z M bk dv f.s f.ea (vk (fv f) k 5 (f.nd k) (f.oth k) (f.tr k)) f.ps w.heap.size (w.heap.size + 1) Dd.no := by
    have e : vk (fv f) k 5 (f.nd k) (f.oth k) (f.tr k) = fv f := by rw [← hp]; exact vk_self (fv f) k
    rw [e]; exact hF0
  have i0 : (0 : Int) ≤ (k : Int) := by omega
  have i1 : (k : Int) < f.s.n := by omega
  have bz : M.base ≤ Z.heap.size := Nat.le_trans h.hb hWZ.size
  have wn : IntKind.u32.wrap (f.nd k) = f.nd k := by rw [IntKind.wrap_u32]; omega
  have hv0 := hT 3 L.a1
  have hRd : RefAt Z.drew M.base M.pr bk so cap dv f.ps := hR.after ((Wrote.refl Nil Z).drew) fun _ _ => id
  have cA := ra_swap hRd u L.a1 (f.nd k) hn.1 hn.2 h.hD h.hws h.hac (show M.base ≤ Z.drew.heap.size from bz)
  rw [hL1] at cA hv hv0 ⊢
  generalize tellS f.ps u 3 M.a = v at *
  have wv : IntKind.i64.wrap v = v := by rw [IntKind.wrap_i64]; omega
  subst hv
  obtain ⟨c0, c1, c2, c3, c4, c5, c6, r0, r1, r2, r3, z0, z1, z2, z3⟩ := hF.raw.cellsK hk
  obtain ⟨p0, p1, p2, p3⟩ := hF.dcell
  obtain ⟨y0, y1, y2, y3⟩ := hF.dfrz
  obtain ⟨v0, v1, v2, v3⟩ := hF.rcell
  obtain ⟨x0, x1, x2, x3⟩ := hF.rfrz
  have C1 : Z.drew.cell? ⟨M.r, 1, none⟩ = some (.int .i64 M.a) := c1
  have C5 : Z.drew.cell? ⟨M.r, 5, none⟩ = some (.slice (some ⟨M.rw 2, 0, none⟩) f.s.n f.s.n) := c5
  have HE := Lib.hid (And.intro h (And.intro hk hF))
  have HK := Lib.hid hk
  clear h hF hF0 hR hRd hWZ bz hp hn ho ht hT hv0
  go_enter Tryz.func117, Tryz.ntmps117
  go_upto_region 2 with fail
  rw [← hZ]
  clear hZ
  go_wp2
  go_region_held3 (fun w' => w'.cell? ⟨M.r, 1, none⟩ = some (.int .i64 M.a) ∧ w'.cell? ⟨M.r, 5, none⟩ = some (.slice (some ⟨M.rw 2, 0, none⟩) f.s.n f.s.n)) (first | with_reducible exact ⟨d1, d5⟩ | with_reducible exact ⟨e1, e5⟩ | exact ⟨C1, C5⟩) (first | (go_at_call 122; (with_reducible refine cA.mono ?_); intro e w2 hq; unfold RaPost at hq; obtain ⟨rfl, hRS, hW⟩ := hq; have hA := HE.out.2.2.drew.port hRS hW; have d1 := hA.raw.cell1; have d5 := hA.raw.cell5; have hCC := hA.raw.cellsK HK.out; have D2 := hCC.r2; have F2 := hCC.z2; have hB := hA.s2 0; have e1 := hB.raw.cell1; have e5 := hB.raw.cell5; have HB := Lib.hid hB; clear hA hB hRS hW hCC))
  clear c0 c1 c2 c3 c4 c5 c6 r0 r1 r2 r3 z0 z1 z2 z3 p0 p1 p2 p3 y0 y1 y2 y3 v0 v1 v2 v3 x0 x1 x2 x3 C1 C5
  obtain ⟨X1, hX1⟩ : ∃ X1, X1 = w2.setCell ⟨M.rw 2, k, none⟩ (.int .i64 0) := ⟨_, rfl⟩
  have g1 := HB.out
  rw [← hX1] at g1
  rw [← hX1]
  clear HB hX1 d1 d5 e1 e5 D2 F2
  obtain ⟨c0, c1, c2, c3, c4, c5, c6, r0, r1, r2, r3, z0, z1, z2, z3⟩ := g1.raw.cellsK HK.out
  obtain ⟨p0, p1, p2, p3⟩ := g1.dcell
  obtain ⟨y0, y1, y2, y3⟩ := g1.dfrz
  obtain ⟨v0, v1, v2, v3⟩ := g1.rcell
  obtain ⟨x0, x1, x2, x3⟩ := g1.rfrz
  have G1 := Lib.hid g1
  clear g1
  go_upto_region 21 with fail
  obtain ⟨X2, hX2⟩ : ∃ X2, X2 = X1.setCell ⟨w.heap.size + 1, 1, none⟩ (.int .i64 1) := ⟨_, rfl⟩
  rw [← hX2]
  have gX2 := G1.out.setD 1 (.int .i64 1) ⟨0, true, false, false⟩ rfl
  rw [← hX2] at gX2
  clear hX2 c0 c1 c2 c3 c4 c5 c6 r0 r1 r2 r3 z0 z1 z2 z3 p0 p1 p2 p3 y0 y1 y2 y3 v0 v1 v2 v3 x0 x1 x2 x3
  obtain ⟨c0, c1, c2, c3, c4, c5, c6, r0, r1, r2, r3, z0, z1, z2, z3⟩ := gX2.raw.cellsK HK.out
  obtain ⟨p0, p1, p2, p3⟩ := gX2.dcell
  obtain ⟨y0, y1, y2, y3⟩ := gX2.dfrz
  obtain ⟨v0, v1, v2, v3⟩ := gX2.rcell
  obtain ⟨x0, x1, x2, x3⟩ := gX2.rfrz
  have G2 := Lib.hid gX2
  clear gX2
  have gS := G2.out.setD 0 (.int .i64 1) ⟨1, true, false, false⟩ rfl
  obtain ⟨C0, C1, C2, C3, C4, C5, C6, R0, R1, R2, R3, Z0, Z1, Z2, Z3⟩ := gS.raw.cellsK HK.out
  obtain ⟨P0, P1, P2, P3⟩ := gS.dcell
  obtain ⟨Y0, Y1, Y2, Y3⟩ := gS.dfrz
  obtain ⟨V0, V1, V2, V3⟩ := gS.rcell
  obtain ⟨E0, E1, E2, E3⟩ := gS.rfrz
  have hS := gS.s0 6
  obtain ⟨q0, q1, q2, q3⟩ := hS.dcell
  obtain ⟨u0, u1, u2, u3⟩ := hS.rcell
  obtain ⟨t0, t1, t2, t3⟩ := hS.rfrz
  have HT := Lib.hid hS
  clear hS gS
  go_wp2
  refine bodyPost_ret (v := Dd.rval ⟨1, true, false, false⟩) (results_cell_row rfl _ _ w.heap.size 109 _ (0, 0) _ rfl (set4 HT.out.res rfl _ _ _ _) Tryz.underlying109 rfl i_rid) rfl HT.out.told

set_option maxHeartbeats 4000000 in
theorem rl_lock5B {w : World} {M : Mp} {bk : Nat} {so : Option Addr} {cap : Nat} {dv : Value} {f : FL} {L : Lp} (h : MsIn w M bk so cap dv f.s f.ea (fv f) f.ps) (hL1 : L.a1 = M.a) (hL2 : L.a2 = M.a + 1) (k : Nat) (hk : k < f.s.n) (u x : Int) (hp : f.pc k = 5) (hn : 0 ≤ f.nd k ∧ f.nd k < 4294967296) (ho : 0 ≤ f.oth k ∧ f.oth k < 4294967296) (ht : 0 ≤ f.tr k ∧ f.tr k ≤ 8) (hT : ∀ K a, 0 ≤ tellS f.ps u K a ∧ tellS f.ps u K a < 4294967296) (hv : tellS f.ps u 3 L.a1 ≠ 0) :
    Calls Tryz.prog 117 #[.pointer (some ⟨M.r, 0, none⟩), .pointer (some ⟨M.pr, 0, none⟩), .int .i64 (k : Int), .int .i64 u, .int .i64 x] w (RkPost w M bk dv f.s f.ea (vk (fv f) k 6 (f.nd k) (tellS f.ps u 3 L.a1) (f.tr k)) (doS f.ps u 3 L.a1 0 (f.nd k)) (Dd.rval ⟨0, true, false, false⟩)) := by
  obtain ⟨Z, hZ⟩ : ∃ Z, Z = (w.alloc (.cells #[.int .i64 0, .int .i64 0, .int .i64 0, .int .i64 0] 109)).alloc (.cells #[.int .i64 0, .int .i64 0, .int .i64 0, .int .i64 0] 109) := ⟨_, rfl⟩
  obtain ⟨hF0, hR, hWZ⟩ := h.start Z hZ
  have hF : Fm w Z M bk dv f.s f.ea (vk (fv f) k 5 (f.nd k) (f.oth k) (f.tr k)) f.ps w.heap.size (w.heap.size + 1) Dd.no := by
    have e : vk (fv f) k 5 (f.nd k) (f.oth k) (f.tr k) = fv f := by rw [← hp]; exact vk_self (fv f) k
    rw [e]; exact hF0
  have i0 : (0 : Int) ≤ (k : Int) := by omega
  have i1 : (k : Int) < f.s.n := by omega
  have bz : M.base ≤ Z.heap.size := Nat.le_trans h.hb hWZ.size
  have wn : IntKind.u32.wrap (f.nd k) = f.nd k := by rw [IntKind.wrap_u32]; omega
  have hv0 := hT 3 L.a1
  have hRd : RefAt Z.drew M.base M.pr bk so cap dv f.ps := hR.after ((Wrote.refl Nil Z).drew) fun _ _ => id
  have cA := ra_swap hRd u L.a1 (f.nd k) hn.1 hn.2 h.hD h.hws h.hac (show M.base ≤ Z.drew.heap.size from bz)
  rw [hL1] at cA hv hv0 ⊢
  generalize tellS f.ps u 3 M.a = v at *
  have wv : IntKind.i64.wrap v = v := by rw [IntKind.wrap_i64]; omega
  have b1 : (v == 0) = false := beq_false_of_ne hv
  obtain ⟨c0, c1, c2, c3, c4, c5, c6, r0, r1, r2, r3, z0, z1, z2, z3⟩ := hF.raw.cellsK hk
  obtain ⟨p0, p1, p2, p3⟩ := hF.dcell
  obtain ⟨y0, y1, y2, y3⟩ := hF.dfrz
  obtain ⟨v0, v1, v2, v3⟩ := hF.rcell
  obtain ⟨x0, x1, x2, x3⟩ := hF.rfrz
  have C1 : Z.drew.cell? ⟨M.r, 1, none⟩ = some (.int .i64 M.a) := c1
  have C5 : Z.drew.cell? ⟨M.r, 5, none⟩ = some (.slice (some ⟨M.rw 2, 0, none⟩) f.s.n f.s.n) := c5
  have HE := Lib.hid (And.intro h (And.intro hk hF))
  have HK := Lib.hid hk
  clear h hF hF0 hR hRd hWZ bz hp hn ho ht hT hv0 hv
  go_enter Tryz.func117, Tryz.ntmps117
  go_upto_region 2 with fail
  rw [← hZ]
  clear hZ
  go_wp2
  go_region_held3 (fun w' => w'.cell? ⟨M.r, 1, none⟩ = some (.int .i64 M.a) ∧ w'.cell? ⟨M.r, 5, none⟩ = some (.slice (some ⟨M.rw 2, 0, none⟩) f.s.n f.s.n)) (first | with_reducible exact ⟨d1, d5⟩ | with_reducible exact ⟨e1, e5⟩ | exact ⟨C1, C5⟩) (first | (go_at_call 122; (with_reducible refine cA.mono ?_); intro e w2 hq; unfold RaPost at hq; obtain ⟨rfl, hRS, hW⟩ := hq; have hA := HE.out.2.2.drew.port hRS hW; have d1 := hA.raw.cell1; have d5 := hA.raw.cell5; have hCC := hA.raw.cellsK HK.out; have D2 := hCC.r2; have F2 := hCC.z2; have hB := hA.s2 v; have e1 := hB.raw.cell1; have e5 := hB.raw.cell5; have HB := Lib.hid hB; clear hA hB hRS hW hCC))
  clear c0 c1 c2 c3 c4 c5 c6 r0 r1 r2 r3 z0 z1 z2 z3 p0 p1 p2 p3 y0 y1 y2 y3 v0 v1 v2 v3 x0 x1 x2 x3 C1 C5
  obtain ⟨X1, hX1⟩ : ∃ X1, X1 = w2.setCell ⟨M.rw 2, k, none⟩ (.int .i64 v) := ⟨_, rfl⟩
  have g1 := HB.out
  rw [← hX1] at g1
  rw [← hX1]
  clear HB hX1 d1 d5 e1 e5 D2 F2
  obtain ⟨c0, c1, c2, c3, c4, c5, c6, r0, r1, r2, r3, z0, z1, z2, z3⟩ := g1.raw.cellsK HK.out
  obtain ⟨p0, p1, p2, p3⟩ := g1.dcell
  obtain ⟨y0, y1, y2, y3⟩ := g1.dfrz
  obtain ⟨v0, v1, v2, v3⟩ := g1.rcell
  obtain ⟨x0, x1, x2, x3⟩ := g1.rfrz
  have G1 := Lib.hid g1
  clear g1
  go_upto_region 21 with fail
  obtain ⟨X2, hX2⟩ : ∃ X2, X2 = X1.setCell ⟨w.heap.size + 1, 1, none⟩ (.int .i64 1) := ⟨_, rfl⟩
  rw [← hX2]
  have gX2 := G1.out.setD 1 (.int .i64 1) ⟨0, true, false, false⟩ rfl
  rw [← hX2] at gX2
  clear hX2 c0 c1 c2 c3 c4 c5 c6 r0 r1 r2 r3 z0 z1 z2 z3 p0 p1 p2 p3 y0 y1 y2 y3 v0 v1 v2 v3 x0 x1 x2 x3
  obtain ⟨c0, c1, c2, c3, c4, c5, c6, r0, r1, r2, r3, z0, z1, z2, z3⟩ := gX2.raw.cellsK HK.out
  obtain ⟨p0, p1, p2, p3⟩ := gX2.dcell
  obtain ⟨y0, y1, y2, y3⟩ := gX2.dfrz
  obtain ⟨v0, v1, v2, v3⟩ := gX2.rcell
  obtain ⟨x0, x1, x2, x3⟩ := gX2.rfrz
  have G2 := Lib.hid gX2
  clear gX2
  have hS := G2.out.s0 6
  obtain ⟨q0, q1, q2, q3⟩ := hS.dcell
  obtain ⟨u0, u1, u2, u3⟩ := hS.rcell
  obtain ⟨t0, t1, t2, t3⟩ := hS.rfrz
  have HT := Lib.hid hS
  clear hS
  go_wp2
  refine bodyPost_ret (v := Dd.rval ⟨0, true, false, false⟩) (results_cell_row rfl _ _ w.heap.size 109 _ (0, 0) _ rfl (set4 HT.out.res rfl _ _ _ _) Tryz.underlying109 rfl i_rid) rfl HT.out.told
end Go.Proofs.YtdhpmcafekpfhaaGreat
