/- A step of a call of the reference's abortable lock: its stores, what it looks at, how it gives up. -/
import Derived.Test.YtdhpmcafekpfhaaGreatAbortRdo
import Derived.WalkLawsBesides
import Derived.Outline
import Derived.Deep.QuietTactic
import Derived.Deep.RegionHeld3
import Derived.BigQuiet
import Derived.BigFrame
import Derived.Handy
import Derived.OpenShut
import Derived.Lib.Walk
import Derived.WalkKit
import Derived.Lib.Hide
namespace Go.Proofs.YtdhpmcafekpfhaaGreat
open Go.RowKit Go.BigFrame
set_option linter.unusedVariables false
set_option maxRecDepth 100000

set_option maxHeartbeats 4000000 in
theorem rl_lock2 {w : World} {M : Mp} {bk : Nat} {so : Option Addr} {cap : Nat} {dv : Value} {f : FL} {L : Lp} (h : MsIn w M bk so cap dv f.s f.ea (fv f) f.ps) (hL1 : L.a1 = M.a) (hL2 : L.a2 = M.a + 1) (k : Nat) (hk : k < f.s.n) (u x : Int) (hp : f.pc k = 2) (hn : 0 ≤ f.nd k ∧ f.nd k < 4294967296) (ho : 0 ≤ f.oth k ∧ f.oth k < 4294967296) (ht : 0 ≤ f.tr k ∧ f.tr k ≤ 8) (hT : ∀ K a, 0 ≤ tellS f.ps u K a ∧ tellS f.ps u K a < 4294967296) :
    Calls Tryz.prog 117 #[.pointer (some ⟨M.r, 0, none⟩), .pointer (some ⟨M.pr, 0, none⟩), .int .i64 (k : Int), .int .i64 u, .int .i64 x] w (RkPost w M bk dv f.s f.ea (vk (fv f) k 3 (f.nd k) (f.oth k) (f.tr k)) (doS f.ps u 2 (L.oA (f.nd k)) 0 1) (Dd.rval Dd.no)) := by
  obtain ⟨Z, hZ⟩ : ∃ Z, Z = (w.alloc (.cells #[.int .i64 0, .int .i64 0, .int .i64 0, .int .i64 0] 109)).alloc (.cells #[.int .i64 0, .int .i64 0, .int .i64 0, .int .i64 0] 109) := ⟨_, rfl⟩
  obtain ⟨hF0, hR, hWZ⟩ := h.start Z hZ
  have hF : Fm w Z M bk dv f.s f.ea (vk (fv f) k 2 (f.nd k) (f.oth k) (f.tr k)) f.ps w.heap.size (w.heap.size + 1) Dd.no := by
    have e : vk (fv f) k 2 (f.nd k) (f.oth k) (f.tr k) = fv f := by rw [← hp]; exact vk_self (fv f) k
    rw [e]; exact hF0
  have i0 : (0 : Int) ≤ (k : Int) := by omega
  have i1 : (k : Int) < f.s.n := by omega
  have bz : M.base ≤ Z.heap.size := Nat.le_trans h.hb hWZ.size
  have cG := rl_wordO hF.raw h.ha hL2 (f.nd k) hn
  have cA := ra_store hR u (L.oA (f.nd k)) 1 (by decide) (by decide) h.hD h.hws h.hac bz
  obtain ⟨c0, c1, c2, c3, c4, c5, c6, r0, r1, r2, r3, z0, z1, z2, z3⟩ := hF.raw.cellsK hk
  obtain ⟨p0, p1, p2, p3⟩ := hF.dcell
  obtain ⟨y0, y1, y2, y3⟩ := hF.dfrz
  obtain ⟨v0, v1, v2, v3⟩ := hF.rcell
  obtain ⟨x0, x1, x2, x3⟩ := hF.rfrz
  have HE := Lib.hid (And.intro h (And.intro hk hF))
  clear h hF hF0 hR hWZ bz hp hn ho ht hT
  go_enter Tryz.func117, Tryz.ntmps117
  go_upto_region 2 with fail
  rw [← hZ]
  clear hZ
  go_wp2_with (first | (go_at_call 116; (with_reducible refine cG.mono ?_); rintro e w' ⟨rfl, rfl⟩) | (go_at_call 121; (with_reducible refine cA.mono ?_); intro e w2 hq; unfold RaPost at hq; obtain ⟨rfl, hRS, hW⟩ := hq; have hA := HE.out.2.2.port hRS hW; obtain ⟨c0, c1, c2, c3, c4, c5, c6, r0, r1, r2, r3, z0, z1, z2, z3⟩ := hA.raw.cellsK HE.out.2.1; obtain ⟨p0, p1, p2, p3⟩ := hA.dcell; obtain ⟨y0, y1, y2, y3⟩ := hA.dfrz; obtain ⟨v0, v1, v2, v3⟩ := hA.rcell; obtain ⟨x0, x1, x2, x3⟩ := hA.rfrz; have hS := hA.s0 3; obtain ⟨q0, q1, q2, q3⟩ := hS.dcell; obtain ⟨u0, u1, u2, u3⟩ := hS.rcell; obtain ⟨t0, t1, t2, t3⟩ := hS.rfrz; have HT := Lib.hid hS; clear hS; clear hA hRS hW))
  refine bodyPost_ret (v := Dd.rval Dd.no) (results_cell_row rfl _ _ w.heap.size 109 _ (0, 0) _ rfl (set4 HT.out.res rfl _ _ _ _) Tryz.underlying109 rfl i_rid) rfl HT.out.told

set_option maxHeartbeats 4000000 in
theorem rl_lock3 {w : World} {M : Mp} {bk : Nat} {so : Option Addr} {cap : Nat} {dv : Value} {f : FL} {L : Lp} (h : MsIn w M bk so cap dv f.s f.ea (fv f) f.ps) (hL1 : L.a1 = M.a) (hL2 : L.a2 = M.a + 1) (k : Nat) (hk : k < f.s.n) (u x : Int) (hp : f.pc k = 3) (hn : 0 ≤ f.nd k ∧ f.nd k < 4294967296) (ho : 0 ≤ f.oth k ∧ f.oth k < 4294967296) (ht : 0 ≤ f.tr k ∧ f.tr k ≤ 8) (hT : ∀ K a, 0 ≤ tellS f.ps u K a ∧ tellS f.ps u K a < 4294967296) :
    Calls Tryz.prog 117 #[.pointer (some ⟨M.r, 0, none⟩), .pointer (some ⟨M.pr, 0, none⟩), .int .i64 (k : Int), .int .i64 u, .int .i64 x] w (RkPost w M bk dv f.s f.ea (vk (fv f) k 4 (f.nd k) (f.oth k) (f.tr k)) (doS f.ps u 2 (L.sA (f.nd k)) 0 0) (Dd.rval Dd.no)) := by
  obtain ⟨Z, hZ⟩ : ∃ Z, Z = (w.alloc (.cells #[.int .i64 0, .int .i64 0, .int .i64 0, .int .i64 0] 109)).alloc (.cells #[.int .i64 0, .int .i64 0, .int .i64 0, .int .i64 0] 109) := ⟨_, rfl⟩
  obtain ⟨hF0, hR, hWZ⟩ := h.start Z hZ
  have hF : Fm w Z M bk dv f.s f.ea (vk (fv f) k 3 (f.nd k) (f.oth k) (f.tr k)) f.ps w.heap.size (w.heap.size + 1) Dd.no := by
    have e : vk (fv f) k 3 (f.nd k) (f.oth k) (f.tr k) = fv f := by rw [← hp]; exact vk_self (fv f) k
    rw [e]; exact hF0
  have i0 : (0 : Int) ≤ (k : Int) := by omega
  have i1 : (k : Int) < f.s.n := by omega
  have bz : M.base ≤ Z.heap.size := Nat.le_trans h.hb hWZ.size
  have cG := rl_wordS hF.raw h.ha hL2 (f.nd k) hn
  have cA := ra_store hR u (L.sA (f.nd k)) 0 (by decide) (by decide) h.hD h.hws h.hac bz
  obtain ⟨c0, c1, c2, c3, c4, c5, c6, r0, r1, r2, r3, z0, z1, z2, z3⟩ := hF.raw.cellsK hk
  obtain ⟨p0, p1, p2, p3⟩ := hF.dcell
  obtain ⟨y0, y1, y2, y3⟩ := hF.dfrz
  obtain ⟨v0, v1, v2, v3⟩ := hF.rcell
  obtain ⟨x0, x1, x2, x3⟩ := hF.rfrz
  have HE := Lib.hid (And.intro h (And.intro hk hF))
  clear h hF hF0 hR hWZ bz hp hn ho ht hT
  go_enter Tryz.func117, Tryz.ntmps117
  go_upto_region 2 with fail
  rw [← hZ]
  clear hZ
  go_wp2_with (first | (go_at_call 116; (with_reducible refine cG.mono ?_); rintro e w' ⟨rfl, rfl⟩) | (go_at_call 121; (with_reducible refine cA.mono ?_); intro e w2 hq; unfold RaPost at hq; obtain ⟨rfl, hRS, hW⟩ := hq; have hA := HE.out.2.2.port hRS hW; obtain ⟨c0, c1, c2, c3, c4, c5, c6, r0, r1, r2, r3, z0, z1, z2, z3⟩ := hA.raw.cellsK HE.out.2.1; obtain ⟨p0, p1, p2, p3⟩ := hA.dcell; obtain ⟨y0, y1, y2, y3⟩ := hA.dfrz; obtain ⟨v0, v1, v2, v3⟩ := hA.rcell; obtain ⟨x0, x1, x2, x3⟩ := hA.rfrz; have hS := hA.s0 4; obtain ⟨q0, q1, q2, q3⟩ := hS.dcell; obtain ⟨u0, u1, u2, u3⟩ := hS.rcell; obtain ⟨t0, t1, t2, t3⟩ := hS.rfrz; have HT := Lib.hid hS; clear hS; clear hA hRS hW))
  refine bodyPost_ret (v := Dd.rval Dd.no) (results_cell_row rfl _ _ w.heap.size 109 _ (0, 0) _ rfl (set4 HT.out.res rfl _ _ _ _) Tryz.underlying109 rfl i_rid) rfl HT.out.told

set_option maxHeartbeats 4000000 in
theorem rl_lock4 {w : World} {M : Mp} {bk : Nat} {so : Option Addr} {cap : Nat} {dv : Value} {f : FL} {L : Lp} (h : MsIn w M bk so cap dv f.s f.ea (fv f) f.ps) (hL1 : L.a1 = M.a) (hL2 : L.a2 = M.a + 1) (k : Nat) (hk : k < f.s.n) (u x : Int) (hp : f.pc k = 4) (hn : 0 ≤ f.nd k ∧ f.nd k < 4294967296) (ho : 0 ≤ f.oth k ∧ f.oth k < 4294967296) (ht : 0 ≤ f.tr k ∧ f.tr k ≤ 8) (hT : ∀ K a, 0 ≤ tellS f.ps u K a ∧ tellS f.ps u K a < 4294967296) :
    Calls Tryz.prog 117 #[.pointer (some ⟨M.r, 0, none⟩), .pointer (some ⟨M.pr, 0, none⟩), .int .i64 (k : Int), .int .i64 u, .int .i64 x] w (RkPost w M bk dv f.s f.ea (vk (fv f) k 5 (f.nd k) (f.oth k) (f.tr k)) (doS f.ps u 2 (L.nA (f.nd k)) 0 0) (Dd.rval Dd.no)) := by
  obtain ⟨Z, hZ⟩ : ∃ Z, Z = (w.alloc (.cells #[.int .i64 0, .int .i64 0, .int .i64 0, .int .i64 0] 109)).alloc (.cells #[.int .i64 0, .int .i64 0, .int .i64 0, .int .i64 0] 109) := ⟨_, rfl⟩
  obtain ⟨hF0, hR, hWZ⟩ := h.start Z hZ
  have hF : Fm w Z M bk dv f.s f.ea (vk (fv f) k 4 (f.nd k) (f.oth k) (f.tr k)) f.ps w.heap.size (w.heap.size + 1) Dd.no := by
    have e : vk (fv f) k 4 (f.nd k) (f.oth k) (f.tr k) = fv f := by rw [← hp]; exact vk_self (fv f) k
    rw [e]; exact hF0
  have i0 : (0 : Int) ≤ (k : Int) := by omega
  have i1 : (k : Int) < f.s.n := by omega
  have bz : M.base ≤ Z.heap.size := Nat.le_trans h.hb hWZ.size
  have cG := rl_wordN hF.raw h.ha hL2 (f.nd k) hn
  have cA := ra_store hR u (L.nA (f.nd k)) 0 (by decide) (by decide) h.hD h.hws h.hac bz
  obtain ⟨c0, c1, c2, c3, c4, c5, c6, r0, r1, r2, r3, z0, z1, z2, z3⟩ := hF.raw.cellsK hk
  obtain ⟨p0, p1, p2, p3⟩ := hF.dcell
  obtain ⟨y0, y1, y2, y3⟩ := hF.dfrz
  obtain ⟨v0, v1, v2, v3⟩ := hF.rcell
  obtain ⟨x0, x1, x2, x3⟩ := hF.rfrz
  have HE := Lib.hid (And.intro h (And.intro hk hF))
  clear h hF hF0 hR hWZ bz hp hn ho ht hT
  go_enter Tryz.func117, Tryz.ntmps117
  go_upto_region 2 with fail
  rw [← hZ]
  clear hZ
  go_wp2_with (first | (go_at_call 116; (with_reducible refine cG.mono ?_); rintro e w' ⟨rfl, rfl⟩) | (go_at_call 121; (with_reducible refine cA.mono ?_); intro e w2 hq; unfold RaPost at hq; obtain ⟨rfl, hRS, hW⟩ := hq; have hA := HE.out.2.2.port hRS hW; obtain ⟨c0, c1, c2, c3, c4, c5, c6, r0, r1, r2, r3, z0, z1, z2, z3⟩ := hA.raw.cellsK HE.out.2.1; obtain ⟨p0, p1, p2, p3⟩ := hA.dcell; obtain ⟨y0, y1, y2, y3⟩ := hA.dfrz; obtain ⟨v0, v1, v2, v3⟩ := hA.rcell; obtain ⟨x0, x1, x2, x3⟩ := hA.rfrz; have hS := hA.s0 5; obtain ⟨q0, q1, q2, q3⟩ := hS.dcell; obtain ⟨u0, u1, u2, u3⟩ := hS.rcell; obtain ⟨t0, t1, t2, t3⟩ := hS.rfrz; have HT := Lib.hid hS; clear hS; clear hA hRS hW))
  refine bodyPost_ret (v := Dd.rval Dd.no) (results_cell_row rfl _ _ w.heap.size 109 _ (0, 0) _ rfl (set4 HT.out.res rfl _ _ _ _) Tryz.underlying109 rfl i_rid) rfl HT.out.told

set_option maxHeartbeats 4000000 in
theorem rl_lock6 {w : World} {M : Mp} {bk : Nat} {so : Option Addr} {cap : Nat} {dv : Value} {f : FL} {L : Lp} (h : MsIn w M bk so cap dv f.s f.ea (fv f) f.ps) (hL1 : L.a1 = M.a) (hL2 : L.a2 = M.a + 1) (k : Nat) (hk : k < f.s.n) (u x : Int) (hp : f.pc k = 6) (hn : 0 ≤ f.nd k ∧ f.nd k < 4294967296) (ho : 0 ≤ f.oth k ∧ f.oth k < 4294967296) (ht : 0 ≤ f.tr k ∧ f.tr k ≤ 8) (hT : ∀ K a, 0 ≤ tellS f.ps u K a ∧ tellS f.ps u K a < 4294967296) :
    Calls Tryz.prog 117 #[.pointer (some ⟨M.r, 0, none⟩), .pointer (some ⟨M.pr, 0, none⟩), .int .i64 (k : Int), .int .i64 u, .int .i64 x] w (RkPost w M bk dv f.s f.ea (vk (fv f) k 7 (f.nd k) (f.oth k) (f.tr k)) (doS f.ps u 2 (L.nA (f.oth k)) 0 (f.nd k)) (Dd.rval Dd.no)) := by
  obtain ⟨Z, hZ⟩ : ∃ Z, Z = (w.alloc (.cells #[.int .i64 0, .int .i64 0, .int .i64 0, .int .i64 0] 109)).alloc (.cells #[.int .i64 0, .int .i64 0, .int .i64 0, .int .i64 0] 109) := ⟨_, rfl⟩
  obtain ⟨hF0, hR, hWZ⟩ := h.start Z hZ
  have hF : Fm w Z M bk dv f.s f.ea (vk (fv f) k 6 (f.nd k) (f.oth k) (f.tr k)) f.ps w.heap.size (w.heap.size + 1) Dd.no := by
    have e : vk (fv f) k 6 (f.nd k) (f.oth k) (f.tr k) = fv f := by rw [← hp]; exact vk_self (fv f) k
    rw [e]; exact hF0
  have i0 : (0 : Int) ≤ (k : Int) := by omega
  have i1 : (k : Int) < f.s.n := by omega
  have bz : M.base ≤ Z.heap.size := Nat.le_trans h.hb hWZ.size
  have cG := rl_wordN hF.raw h.ha hL2 (f.oth k) ho
  have cA := ra_store hR u (L.nA (f.oth k)) (f.nd k) hn.1 hn.2 h.hD h.hws h.hac bz
  have wn : IntKind.u32.wrap (f.nd k) = f.nd k := by rw [IntKind.wrap_u32]; omega
  obtain ⟨c0, c1, c2, c3, c4, c5, c6, r0, r1, r2, r3, z0, z1, z2, z3⟩ := hF.raw.cellsK hk
  obtain ⟨p0, p1, p2, p3⟩ := hF.dcell
  obtain ⟨y0, y1, y2, y3⟩ := hF.dfrz
  obtain ⟨v0, v1, v2, v3⟩ := hF.rcell
  obtain ⟨x0, x1, x2, x3⟩ := hF.rfrz
  have HE := Lib.hid (And.intro h (And.intro hk hF))
  clear h hF hF0 hR hWZ bz hp hn ho ht hT
  go_enter Tryz.func117, Tryz.ntmps117
  go_upto_region 2 with fail
  rw [← hZ]
  clear hZ
  go_wp2_with (first | (go_at_call 116; (with_reducible refine cG.mono ?_); rintro e w' ⟨rfl, rfl⟩) | (go_at_call 121; (with_reducible refine cA.mono ?_); intro e w2 hq; unfold RaPost at hq; obtain ⟨rfl, hRS, hW⟩ := hq; have hA := HE.out.2.2.port hRS hW; obtain ⟨c0, c1, c2, c3, c4, c5, c6, r0, r1, r2, r3, z0, z1, z2, z3⟩ := hA.raw.cellsK HE.out.2.1; obtain ⟨p0, p1, p2, p3⟩ := hA.dcell; obtain ⟨y0, y1, y2, y3⟩ := hA.dfrz; obtain ⟨v0, v1, v2, v3⟩ := hA.rcell; obtain ⟨x0, x1, x2, x3⟩ := hA.rfrz; have hS := hA.s0 7; obtain ⟨q0, q1, q2, q3⟩ := hS.dcell; obtain ⟨u0, u1, u2, u3⟩ := hS.rcell; obtain ⟨t0, t1, t2, t3⟩ := hS.rfrz; have HT := Lib.hid hS; clear hS; clear hA hRS hW))
  refine bodyPost_ret (v := Dd.rval Dd.no) (results_cell_row rfl _ _ w.heap.size 109 _ (0, 0) _ rfl (set4 HT.out.res rfl _ _ _ _) Tryz.underlying109 rfl i_rid) rfl HT.out.told

set_option maxHeartbeats 4000000 in
theorem rl_lock7A {w : World} {M : Mp} {bk : Nat} {so : Option Addr} {cap : Nat} {dv : Value} {f : FL} {L : Lp} (h : MsIn w M bk so cap dv f.s f.ea (fv f) f.ps) (hL1 : L.a1 = M.a) (hL2 : L.a2 = M.a + 1) (k : Nat) (hk : k < f.s.n) (u x : Int) (hp : f.pc k = 7) (hn : 0 ≤ f.nd k ∧ f.nd k < 4294967296) (ho : 0 ≤ f.oth k ∧ f.oth k < 4294967296) (ht : 0 ≤ f.tr k ∧ f.tr k ≤ 8) (hT : ∀ K a, 0 ≤ tellS f.ps u K a ∧ tellS f.ps u K a < 4294967296) (hv : tellS f.ps u 1 (L.sA (f.nd k)) ≠ 0) :
    Calls Tryz.prog 117 #[.pointer (some ⟨M.r, 0, none⟩), .pointer (some ⟨M.pr, 0, none⟩), .int .i64 (k : Int), .int .i64 u, .int .i64 x] w (RkPost w M bk dv f.s f.ea (vk (fv f) k 7 (f.nd k) (f.oth k) (f.tr k)) (doS f.ps u 1 (L.sA (f.nd k)) 0 0) (Dd.rval ⟨1, false, false, false⟩)) := by
  obtain ⟨Z, hZ⟩ : ∃ Z, Z = (w.alloc (.cells #[.int .i64 0, .int .i64 0, .int .i64 0, .int .i64 0] 109)).alloc (.cells #[.int .i64 0, .int .i64 0, .int .i64 0, .int .i64 0] 109) := ⟨_, rfl⟩
  obtain ⟨hF0, hR, hWZ⟩ := h.start Z hZ
  have hF : Fm w Z M bk dv f.s f.ea (vk (fv f) k 7 (f.nd k) (f.oth k) (f.tr k)) f.ps w.heap.size (w.heap.size + 1) Dd.no := by
    have e : vk (fv f) k 7 (f.nd k) (f.oth k) (f.tr k) = fv f := by rw [← hp]; exact vk_self (fv f) k
    rw [e]; exact hF0
  have i0 : (0 : Int) ≤ (k : Int) := by omega
  have i1 : (k : Int) < f.s.n := by omega
  have bz : M.base ≤ Z.heap.size := Nat.le_trans h.hb hWZ.size
  have cG := rl_wordS hF.raw h.ha hL2 (f.nd k) hn
  have cA := ra_load hR u (L.sA (f.nd k)) h.hD h.hws h.hac bz
  generalize tellS f.ps u 1 (L.sA (f.nd k)) = tv at *
  have b1 : (tv != 0) = true := by simpa [bne, BEq.beq] using hv
  clear hv
  obtain ⟨c0, c1, c2, c3, c4, c5, c6, r0, r1, r2, r3, z0, z1, z2, z3⟩ := hF.raw.cellsK hk
  obtain ⟨p0, p1, p2, p3⟩ := hF.dcell
  obtain ⟨y0, y1, y2, y3⟩ := hF.dfrz
  obtain ⟨v0, v1, v2, v3⟩ := hF.rcell
  obtain ⟨x0, x1, x2, x3⟩ := hF.rfrz
  have HE := Lib.hid (And.intro h (And.intro hk hF))
  clear h hF hF0 hR hWZ bz hp hn ho ht hT
  go_enter Tryz.func117, Tryz.ntmps117
  go_upto_region 2 with fail
  rw [← hZ]
  clear hZ
  go_wp2_with (first | (go_at_call 116; (with_reducible refine cG.mono ?_); rintro e w' ⟨rfl, rfl⟩) | (go_at_call 120; (with_reducible refine cA.mono ?_); intro e w2 hq; unfold RaPost at hq; obtain ⟨rfl, hRS, hW⟩ := hq; have hA := HE.out.2.2.port hRS hW; obtain ⟨c0, c1, c2, c3, c4, c5, c6, r0, r1, r2, r3, z0, z1, z2, z3⟩ := hA.raw.cellsK HE.out.2.1; obtain ⟨p0, p1, p2, p3⟩ := hA.dcell; obtain ⟨y0, y1, y2, y3⟩ := hA.dfrz; obtain ⟨v0, v1, v2, v3⟩ := hA.rcell; obtain ⟨x0, x1, x2, x3⟩ := hA.rfrz; have hS := hA.setD 0 (.int .i64 1) ⟨1, false, false, false⟩ rfl; obtain ⟨q0, q1, q2, q3⟩ := hS.dcell; obtain ⟨u0, u1, u2, u3⟩ := hS.rcell; obtain ⟨t0, t1, t2, t3⟩ := hS.rfrz; have HT := Lib.hid hS; clear hS; clear hA hRS hW))
  refine bodyPost_ret (v := Dd.rval ⟨1, false, false, false⟩) (results_cell_row rfl _ _ w.heap.size 109 _ (0, 0) _ rfl (set4 HT.out.res rfl _ _ _ _) Tryz.underlying109 rfl i_rid) rfl HT.out.told

set_option maxHeartbeats 4000000 in
theorem rl_lock7B {w : World} {M : Mp} {bk : Nat} {so : Option Addr} {cap : Nat} {dv : Value} {f : FL} {L : Lp} (h : MsIn w M bk so cap dv f.s f.ea (fv f) f.ps) (hL1 : L.a1 = M.a) (hL2 : L.a2 = M.a + 1) (k : Nat) (hk : k < f.s.n) (u x : Int) (hp : f.pc k = 7) (hn : 0 ≤ f.nd k ∧ f.nd k < 4294967296) (ho : 0 ≤ f.oth k ∧ f.oth k < 4294967296) (ht : 0 ≤ f.tr k ∧ f.tr k ≤ 8) (hT : ∀ K a, 0 ≤ tellS f.ps u K a ∧ tellS f.ps u K a < 4294967296) (hs : f.s.st k = 1) (hv : tellS f.ps u 1 (L.sA (f.nd k)) = 0) (hq : f.due k x) :
    Calls Tryz.prog 117 #[.pointer (some ⟨M.r, 0, none⟩), .pointer (some ⟨M.pr, 0, none⟩), .int .i64 (k : Int), .int .i64 u, .int .i64 x] w (RkPost w M bk dv f.s f.ea (vk (fv f) k 8 (f.nd k) (f.oth k) (f.tr k)) (doS f.ps u 1 (L.sA (f.nd k)) 0 0) (Dd.rval Dd.no)) := by
  obtain ⟨Z, hZ⟩ : ∃ Z, Z = (w.alloc (.cells #[.int .i64 0, .int .i64 0, .int .i64 0, .int .i64 0] 109)).alloc (.cells #[.int .i64 0, .int .i64 0, .int .i64 0, .int .i64 0] 109) := ⟨_, rfl⟩
  obtain ⟨hF0, hR, hWZ⟩ := h.start Z hZ
  have hF : Fm w Z M bk dv f.s f.ea (vk (fv f) k 7 (f.nd k) (f.oth k) (f.tr k)) f.ps w.heap.size (w.heap.size + 1) Dd.no := by
    have e : vk (fv f) k 7 (f.nd k) (f.oth k) (f.tr k) = fv f := by rw [← hp]; exact vk_self (fv f) k
    rw [e]; exact hF0
  have i0 : (0 : Int) ≤ (k : Int) := by omega
  have i1 : (k : Int) < f.s.n := by omega
  have bz : M.base ≤ Z.heap.size := Nat.le_trans h.hb hWZ.size
  have cG := rl_wordS hF.raw h.ha hL2 (f.nd k) hn
  have cA := ra_load hR u (L.sA (f.nd k)) h.hD h.hws h.hac bz
  rw [hv] at cA
  have HG : RowKit.Hid (∀ (X : World), RsAt X M.sr M.hv M.dv f.s → ∃ g cap, X.cell? ⟨M.sr, 1, none⟩ = some (.slice (some ⟨g, 0, none⟩) f.s.n cap) ∧ X.cell? ⟨g, k, none⟩ = some (.int .i64 (f.s.dl k))) := Lib.hid (fun X hS => by
    obtain ⟨g, cap, e, hg⟩ := SrAt.dlV hS (show 0 < f.s.n by omega)
    refine ⟨g, cap, (SrAt.cell1 hS).trans (by rw [e]), ?_⟩
    have := (hg k _ (dlL_at f.s hk)).1
    unfold SS.dlS at this
    rw [if_pos hs] at this
    exact this)
  have b1 : ¬ f.s.dl k < 0 := by have := hq.1; omega
  have b2 : ¬ x < f.s.dl k := by have := hq.2; omega
  clear hq
  generalize f.s.dl k = dl at *
  clear hv hs
  obtain ⟨c0, c1, c2, c3, c4, c5, c6, r0, r1, r2, r3, z0, z1, z2, z3⟩ := hF.raw.cellsK hk
  obtain ⟨p0, p1, p2, p3⟩ := hF.dcell
  obtain ⟨y0, y1, y2, y3⟩ := hF.dfrz
  obtain ⟨v0, v1, v2, v3⟩ := hF.rcell
  obtain ⟨x0, x1, x2, x3⟩ := hF.rfrz
  have HE := Lib.hid (And.intro h (And.intro hk hF))
  clear h hF hF0 hR hWZ bz hp hn ho ht hT
  go_enter Tryz.func117, Tryz.ntmps117
  go_upto_region 2 with fail
  rw [← hZ]
  clear hZ
  go_wp2_with (first | (go_at_call 116; (with_reducible refine cG.mono ?_); rintro e w' ⟨rfl, rfl⟩) | (go_at_call 120; (with_reducible refine cA.mono ?_); intro e w2 hq; unfold RaPost at hq; obtain ⟨rfl, hRS, hW⟩ := hq; have hA := HE.out.2.2.port hRS hW; obtain ⟨c0, c1, c2, c3, c4, c5, c6, r0, r1, r2, r3, z0, z1, z2, z3⟩ := hA.raw.cellsK HE.out.2.1; obtain ⟨p0, p1, p2, p3⟩ := hA.dcell; obtain ⟨y0, y1, y2, y3⟩ := hA.dfrz; obtain ⟨v0, v1, v2, v3⟩ := hA.rcell; obtain ⟨x0, x1, x2, x3⟩ := hA.rfrz; have hS := hA.s0 8; obtain ⟨q0, q1, q2, q3⟩ := hS.dcell; obtain ⟨u0, u1, u2, u3⟩ := hS.rcell; obtain ⟨t0, t1, t2, t3⟩ := hS.rfrz; obtain ⟨g, cp, g1, g2⟩ := HG.out _ hA.raw.seat; have HT := Lib.hid hS; clear hS; clear hA hRS hW))
  refine bodyPost_ret (v := Dd.rval Dd.no) (results_cell_row rfl _ _ w.heap.size 109 _ (0, 0) _ rfl (set4 HT.out.res rfl _ _ _ _) Tryz.underlying109 rfl i_rid) rfl HT.out.told

set_option maxHeartbeats 4000000 in
theorem rl_lock7C {w : World} {M : Mp} {bk : Nat} {so : Option Addr} {cap : Nat} {dv : Value} {f : FL} {L : Lp} (h : MsIn w M bk so cap dv f.s f.ea (fv f) f.ps) (hL1 : L.a1 = M.a) (hL2 : L.a2 = M.a + 1) (k : Nat) (hk : k < f.s.n) (u x : Int) (hp : f.pc k = 7) (hn : 0 ≤ f.nd k ∧ f.nd k < 4294967296) (ho : 0 ≤ f.oth k ∧ f.oth k < 4294967296) (ht : 0 ≤ f.tr k ∧ f.tr k ≤ 8) (hT : ∀ K a, 0 ≤ tellS f.ps u K a ∧ tellS f.ps u K a < 4294967296) (hs : f.s.st k = 1) (hv : tellS f.ps u 1 (L.sA (f.nd k)) = 0) (hq : f.s.dl k < 0) :
    Calls Tryz.prog 117 #[.pointer (some ⟨M.r, 0, none⟩), .pointer (some ⟨M.pr, 0, none⟩), .int .i64 (k : Int), .int .i64 u, .int .i64 x] w (RkPost w M bk dv f.s f.ea (vk (fv f) k 7 (f.nd k) (f.oth k) (f.tr k)) (doS f.ps u 1 (L.sA (f.nd k)) 0 0) (Dd.rval Dd.no)) := by
  obtain ⟨Z, hZ⟩ : ∃ Z, Z = (w.alloc (.cells #[.int .i64 0, .int .i64 0, .int .i64 0, .int .i64 0] 109)).alloc (.cells #[.int .i64 0, .int .i64 0, .int .i64 0, .int .i64 0] 109) := ⟨_, rfl⟩
  obtain ⟨hF0, hR, hWZ⟩ := h.start Z hZ
  have hF : Fm w Z M bk dv f.s f.ea (vk (fv f) k 7 (f.nd k) (f.oth k) (f.tr k)) f.ps w.heap.size (w.heap.size + 1) Dd.no := by
    have e : vk (fv f) k 7 (f.nd k) (f.oth k) (f.tr k) = fv f := by rw [← hp]; exact vk_self (fv f) k
    rw [e]; exact hF0
  have i0 : (0 : Int) ≤ (k : Int) := by omega
  have i1 : (k : Int) < f.s.n := by omega
  have bz : M.base ≤ Z.heap.size := Nat.le_trans h.hb hWZ.size
  have cG := rl_wordS hF.raw h.ha hL2 (f.nd k) hn
  have cA := ra_load hR u (L.sA (f.nd k)) h.hD h.hws h.hac bz
  rw [hv] at cA
  have HG : RowKit.Hid (∀ (X : World), RsAt X M.sr M.hv M.dv f.s → ∃ g cap, X.cell? ⟨M.sr, 1, none⟩ = some (.slice (some ⟨g, 0, none⟩) f.s.n cap) ∧ X.cell? ⟨g, k, none⟩ = some (.int .i64 (f.s.dl k))) := Lib.hid (fun X hS => by
    obtain ⟨g, cap, e, hg⟩ := SrAt.dlV hS (show 0 < f.s.n by omega)
    refine ⟨g, cap, (SrAt.cell1 hS).trans (by rw [e]), ?_⟩
    have := (hg k _ (dlL_at f.s hk)).1
    unfold SS.dlS at this
    rw [if_pos hs] at this
    exact this)
  generalize f.s.dl k = dl at *
  clear hv hs
  obtain ⟨c0, c1, c2, c3, c4, c5, c6, r0, r1, r2, r3, z0, z1, z2, z3⟩ := hF.raw.cellsK hk
  obtain ⟨p0, p1, p2, p3⟩ := hF.dcell
  obtain ⟨y0, y1, y2, y3⟩ := hF.dfrz
  obtain ⟨v0, v1, v2, v3⟩ := hF.rcell
  obtain ⟨x0, x1, x2, x3⟩ := hF.rfrz
  have HE := Lib.hid (And.intro h (And.intro hk hF))
  clear h hF hF0 hR hWZ bz hp hn ho ht hT
  go_enter Tryz.func117, Tryz.ntmps117
  go_upto_region 2 with fail
  rw [← hZ]
  clear hZ
  go_wp2_with (first | (go_at_call 116; (with_reducible refine cG.mono ?_); rintro e w' ⟨rfl, rfl⟩) | (go_at_call 120; (with_reducible refine cA.mono ?_); intro e w2 hq; unfold RaPost at hq; obtain ⟨rfl, hRS, hW⟩ := hq; have hA := HE.out.2.2.port hRS hW; obtain ⟨c0, c1, c2, c3, c4, c5, c6, r0, r1, r2, r3, z0, z1, z2, z3⟩ := hA.raw.cellsK HE.out.2.1; obtain ⟨p0, p1, p2, p3⟩ := hA.dcell; obtain ⟨y0, y1, y2, y3⟩ := hA.dfrz; obtain ⟨v0, v1, v2, v3⟩ := hA.rcell; obtain ⟨x0, x1, x2, x3⟩ := hA.rfrz; obtain ⟨g, cp, g1, g2⟩ := HG.out _ hA.raw.seat; have HT := Lib.hid hA; clear hA hRS hW))
  refine bodyPost_ret (v := Dd.rval Dd.no) (results_cell_row rfl _ _ w.heap.size 109 _ (0, 0) _ rfl (set4 HT.out.res rfl _ _ _ _) Tryz.underlying109 rfl i_rid) rfl HT.out.told

set_option maxHeartbeats 4000000 in
theorem rl_lock7D {w : World} {M : Mp} {bk : Nat} {so : Option Addr} {cap : Nat} {dv : Value} {f : FL} {L : Lp} (h : MsIn w M bk so cap dv f.s f.ea (fv f) f.ps) (hL1 : L.a1 = M.a) (hL2 : L.a2 = M.a + 1) (k : Nat) (hk : k < f.s.n) (u x : Int) (hp : f.pc k = 7) (hn : 0 ≤ f.nd k ∧ f.nd k < 4294967296) (ho : 0 ≤ f.oth k ∧ f.oth k < 4294967296) (ht : 0 ≤ f.tr k ∧ f.tr k ≤ 8) (hT : ∀ K a, 0 ≤ tellS f.ps u K a ∧ tellS f.ps u K a < 4294967296) (hs : f.s.st k = 1) (hv : tellS f.ps u 1 (L.sA (f.nd k)) = 0) (hq : ¬ f.s.dl k < 0) (hq2 : x < f.s.dl k) :
    Calls Tryz.prog 117 #[.pointer (some ⟨M.r, 0, none⟩), .pointer (some ⟨M.pr, 0, none⟩), .int .i64 (k : Int), .int .i64 u, .int .i64 x] w (RkPost w M bk dv f.s f.ea (vk (fv f) k 7 (f.nd k) (f.oth k) (f.tr k)) (doS f.ps u 1 (L.sA (f.nd k)) 0 0) (Dd.rval Dd.no)) := by
  obtain ⟨Z, hZ⟩ : ∃ Z, Z = (w.alloc (.cells #[.int .i64 0, .int .i64 0, .int .i64 0, .int .i64 0] 109)).alloc (.cells #[.int .i64 0, .int .i64 0, .int .i64 0, .int .i64 0] 109) := ⟨_, rfl⟩
  obtain ⟨hF0, hR, hWZ⟩ := h.start Z hZ
  have hF : Fm w Z M bk dv f.s f.ea (vk (fv f) k 7 (f.nd k) (f.oth k) (f.tr k)) f.ps w.heap.size (w.heap.size + 1) Dd.no := by
    have e : vk (fv f) k 7 (f.nd k) (f.oth k) (f.tr k) = fv f := by rw [← hp]; exact vk_self (fv f) k
    rw [e]; exact hF0
  have i0 : (0 : Int) ≤ (k : Int) := by omega
  have i1 : (k : Int) < f.s.n := by omega
  have bz : M.base ≤ Z.heap.size := Nat.le_trans h.hb hWZ.size
  have cG := rl_wordS hF.raw h.ha hL2 (f.nd k) hn
  have cA := ra_load hR u (L.sA (f.nd k)) h.hD h.hws h.hac bz
  rw [hv] at cA
  have HG : RowKit.Hid (∀ (X : World), RsAt X M.sr M.hv M.dv f.s → ∃ g cap, X.cell? ⟨M.sr, 1, none⟩ = some (.slice (some ⟨g, 0, none⟩) f.s.n cap) ∧ X.cell? ⟨g, k, none⟩ = some (.int .i64 (f.s.dl k))) := Lib.hid (fun X hS => by
    obtain ⟨g, cap, e, hg⟩ := SrAt.dlV hS (show 0 < f.s.n by omega)
    refine ⟨g, cap, (SrAt.cell1 hS).trans (by rw [e]), ?_⟩
    have := (hg k _ (dlL_at f.s hk)).1
    unfold SS.dlS at this
    rw [if_pos hs] at this
    exact this)
  generalize f.s.dl k = dl at *
  clear hv hs
  obtain ⟨c0, c1, c2, c3, c4, c5, c6, r0, r1, r2, r3, z0, z1, z2, z3⟩ := hF.raw.cellsK hk
  obtain ⟨p0, p1, p2, p3⟩ := hF.dcell
  obtain ⟨y0, y1, y2, y3⟩ := hF.dfrz
  obtain ⟨v0, v1, v2, v3⟩ := hF.rcell
  obtain ⟨x0, x1, x2, x3⟩ := hF.rfrz
  have HE := Lib.hid (And.intro h (And.intro hk hF))
  clear h hF hF0 hR hWZ bz hp hn ho ht hT
  go_enter Tryz.func117, Tryz.ntmps117
  go_upto_region 2 with fail
  rw [← hZ]
  clear hZ
  go_wp2_with (first | (go_at_call 116; (with_reducible refine cG.mono ?_); rintro e w' ⟨rfl, rfl⟩) | (go_at_call 120; (with_reducible refine cA.mono ?_); intro e w2 hq; unfold RaPost at hq; obtain ⟨rfl, hRS, hW⟩ := hq; have hA := HE.out.2.2.port hRS hW; obtain ⟨c0, c1, c2, c3, c4, c5, c6, r0, r1, r2, r3, z0, z1, z2, z3⟩ := hA.raw.cellsK HE.out.2.1; obtain ⟨p0, p1, p2, p3⟩ := hA.dcell; obtain ⟨y0, y1, y2, y3⟩ := hA.dfrz; obtain ⟨v0, v1, v2, v3⟩ := hA.rcell; obtain ⟨x0, x1, x2, x3⟩ := hA.rfrz; obtain ⟨g, cp, g1, g2⟩ := HG.out _ hA.raw.seat; have HT := Lib.hid hA; clear hA hRS hW))
  refine bodyPost_ret (v := Dd.rval Dd.no) (results_cell_row rfl _ _ w.heap.size 109 _ (0, 0) _ rfl (set4 HT.out.res rfl _ _ _ _) Tryz.underlying109 rfl i_rid) rfl HT.out.told

set_option maxHeartbeats 4000000 in
theorem rl_lock8A {w : World} {M : Mp} {bk : Nat} {so : Option Addr} {cap : Nat} {dv : Value} {f : FL} {L : Lp} (h : MsIn w M bk so cap dv f.s f.ea (fv f) f.ps) (hL1 : L.a1 = M.a) (hL2 : L.a2 = M.a + 1) (k : Nat) (hk : k < f.s.n) (u x : Int) (hp : f.pc k = 8) (hn : 0 ≤ f.nd k ∧ f.nd k < 4294967296) (ho : 0 ≤ f.oth k ∧ f.oth k < 4294967296) (ht : 0 ≤ f.tr k ∧ f.tr k ≤ 8) (hT : ∀ K a, 0 ≤ tellS f.ps u K a ∧ tellS f.ps u K a < 4294967296) (hv : casT f.ps u (L.sA (f.nd k)) 0 = true) :
    Calls Tryz.prog 117 #[.pointer (some ⟨M.r, 0, none⟩), .pointer (some ⟨M.pr, 0, none⟩), .int .i64 (k : Int), .int .i64 u, .int .i64 x] w (RkPost w M bk dv f.s f.ea (vk (fv f) k 9 (f.nd k) (f.oth k) (f.tr k)) (doS f.ps u 4 (L.sA (f.nd k)) 0 2) (Dd.rval ⟨2, false, false, false⟩)) := by
  obtain ⟨Z, hZ⟩ : ∃ Z, Z = (w.alloc (.cells #[.int .i64 0, .int .i64 0, .int .i64 0, .int .i64 0] 109)).alloc (.cells #[.int .i64 0, .int .i64 0, .int .i64 0, .int .i64 0] 109) := ⟨_, rfl⟩
  obtain ⟨hF0, hR, hWZ⟩ := h.start Z hZ
  have hF : Fm w Z M bk dv f.s f.ea (vk (fv f) k 8 (f.nd k) (f.oth k) (f.tr k)) f.ps w.heap.size (w.heap.size + 1) Dd.no := by
    have e : vk (fv f) k 8 (f.nd k) (f.oth k) (f.tr k) = fv f := by rw [← hp]; exact vk_self (fv f) k
    rw [e]; exact hF0
  have i0 : (0 : Int) ≤ (k : Int) := by omega
  have i1 : (k : Int) < f.s.n := by omega
  have bz : M.base ≤ Z.heap.size := Nat.le_trans h.hb hWZ.size
  have hF1 := hF.setD 0 (.int .i64 1) ⟨1, false, false, false⟩ rfl
  obtain ⟨Y, hY⟩ : ∃ Y, Y = Z.setCell ⟨w.heap.size + 1, 0, none⟩ (.int .i64 1) := ⟨_, rfl⟩
  rw [← hY] at hF1
  have hR1 : RefAt Y M.base M.pr bk so cap dv f.ps := by rw [hY]; exact ref_off_at hR ((Wrote.refl _ Z).setCell _ _ fun _ => rfl) hF.did
  have bz1 : M.base ≤ Y.heap.size := Nat.le_trans hF1.fp.bw hF1.fp.wr.size
  have cG := rl_wordS hF1.raw h.ha hL2 (f.nd k) hn
  have cA := ra_cas hR1 u (L.sA (f.nd k)) 0 2 (by decide) (by decide) h.hD h.hws h.hac bz1
  rw [hv] at cA
  obtain ⟨c0, c1, c2, c3, c4, c5, c6, r0, r1, r2, r3, z0, z1, z2, z3⟩ := hF.raw.cellsK hk
  obtain ⟨p0, p1, p2, p3⟩ := hF.dcell
  obtain ⟨y0, y1, y2, y3⟩ := hF.dfrz
  obtain ⟨v0, v1, v2, v3⟩ := hF.rcell
  obtain ⟨x0, x1, x2, x3⟩ := hF.rfrz
  have HE := Lib.hid (And.intro h (And.intro hk hF1))
  have HY := Lib.hid hY
  clear h hF hF0 hR hWZ bz hp hn ho ht hT hF1 hR1 bz1 hv hY
  go_enter Tryz.func117, Tryz.ntmps117
  go_upto_region 2 with fail
  rw [← hZ]
  clear hZ
  go_upto_region 33 with fail
  rw [← HY.out]
  clear c0 c1 c2 c3 c4 c5 c6 r0 r1 r2 r3 z0 z1 z2 z3 p0 p1 p2 p3 y0 y1 y2 y3 v0 v1 v2 v3 x0 x1 x2 x3
  go_wp2_with (first | (go_at_call 116; (with_reducible refine cG.mono ?_); rintro e w' ⟨rfl, rfl⟩) | (go_at_call 123; (with_reducible refine cA.mono ?_); intro e w2 hq; unfold RaPost at hq; obtain ⟨rfl, hRS, hW⟩ := hq; have hA := HE.out.2.2.port hRS hW; obtain ⟨c0, c1, c2, c3, c4, c5, c6, r0, r1, r2, r3, z0, z1, z2, z3⟩ := hA.raw.cellsK HE.out.2.1; obtain ⟨p0, p1, p2, p3⟩ := hA.dcell; obtain ⟨y0, y1, y2, y3⟩ := hA.dfrz; obtain ⟨v0, v1, v2, v3⟩ := hA.rcell; obtain ⟨x0, x1, x2, x3⟩ := hA.rfrz; have hB := hA.setD 0 (.int .i64 2) ⟨2, false, false, false⟩ rfl; clear c0 c1 c2 c3 c4 c5 c6 r0 r1 r2 r3 z0 z1 z2 z3 p0 p1 p2 p3 y0 y1 y2 y3 v0 v1 v2 v3 x0 x1 x2 x3; obtain ⟨p0, p1, p2, p3⟩ := hA.dcell; obtain ⟨y0, y1, y2, y3⟩ := hA.dfrz; obtain ⟨c0, c1, c2, c3, c4, c5, c6, r0, r1, r2, r3, z0, z1, z2, z3⟩ := hB.raw.cellsK HE.out.2.1; obtain ⟨m0, m1, m2, m3⟩ := hB.dcell; obtain ⟨n0, n1, n2, n3⟩ := hB.dfrz; obtain ⟨v0, v1, v2, v3⟩ := hB.rcell; obtain ⟨x0, x1, x2, x3⟩ := hB.rfrz; have hS := hB.s0 9; obtain ⟨q0, q1, q2, q3⟩ := hS.dcell; obtain ⟨u0, u1, u2, u3⟩ := hS.rcell; obtain ⟨t0, t1, t2, t3⟩ := hS.rfrz; have HT := Lib.hid hS; clear hS hB; clear hA hRS hW))
  refine bodyPost_ret (v := Dd.rval ⟨2, false, false, false⟩) (results_cell_row rfl _ _ w.heap.size 109 _ (0, 0) _ rfl (set4 HT.out.res rfl _ _ _ _) Tryz.underlying109 rfl i_rid) rfl HT.out.told

set_option maxHeartbeats 4000000 in
theorem rl_lock8B {w : World} {M : Mp} {bk : Nat} {so : Option Addr} {cap : Nat} {dv : Value} {f : FL} {L : Lp} (h : MsIn w M bk so cap dv f.s f.ea (fv f) f.ps) (hL1 : L.a1 = M.a) (hL2 : L.a2 = M.a + 1) (k : Nat) (hk : k < f.s.n) (u x : Int) (hp : f.pc k = 8) (hn : 0 ≤ f.nd k ∧ f.nd k < 4294967296) (ho : 0 ≤ f.oth k ∧ f.oth k < 4294967296) (ht : 0 ≤ f.tr k ∧ f.tr k ≤ 8) (hT : ∀ K a, 0 ≤ tellS f.ps u K a ∧ tellS f.ps u K a < 4294967296) (hv : casT f.ps u (L.sA (f.nd k)) 0 = false) :
    Calls Tryz.prog 117 #[.pointer (some ⟨M.r, 0, none⟩), .pointer (some ⟨M.pr, 0, none⟩), .int .i64 (k : Int), .int .i64 u, .int .i64 x] w (RkPost w M bk dv f.s f.ea (vk (fv f) k 9 (f.nd k) (f.oth k) (f.tr k)) (doS f.ps u 4 (L.sA (f.nd k)) 0 2) (Dd.rval ⟨1, false, false, false⟩)) := by
  obtain ⟨Z, hZ⟩ : ∃ Z, Z = (w.alloc (.cells #[.int .i64 0, .int .i64 0, .int .i64 0, .int .i64 0] 109)).alloc (.cells #[.int .i64 0, .int .i64 0, .int .i64 0, .int .i64 0] 109) := ⟨_, rfl⟩
  obtain ⟨hF0, hR, hWZ⟩ := h.start Z hZ
  have hF : Fm w Z M bk dv f.s f.ea (vk (fv f) k 8 (f.nd k) (f.oth k) (f.tr k)) f.ps w.heap.size (w.heap.size + 1) Dd.no := by
    have e : vk (fv f) k 8 (f.nd k) (f.oth k) (f.tr k) = fv f := by rw [← hp]; exact vk_self (fv f) k
    rw [e]; exact hF0
  have i0 : (0 : Int) ≤ (k : Int) := by omega
  have i1 : (k : Int) < f.s.n := by omega
  have bz : M.base ≤ Z.heap.size := Nat.le_trans h.hb hWZ.size
  have hF1 := hF.setD 0 (.int .i64 1) ⟨1, false, false, false⟩ rfl
  obtain ⟨Y, hY⟩ : ∃ Y, Y = Z.setCell ⟨w.heap.size + 1, 0, none⟩ (.int .i64 1) := ⟨_, rfl⟩
  rw [← hY] at hF1
  have hR1 : RefAt Y M.base M.pr bk so cap dv f.ps := by rw [hY]; exact ref_off_at hR ((Wrote.refl _ Z).setCell _ _ fun _ => rfl) hF.did
  have bz1 : M.base ≤ Y.heap.size := Nat.le_trans hF1.fp.bw hF1.fp.wr.size
  have cG := rl_wordS hF1.raw h.ha hL2 (f.nd k) hn
  have cA := ra_cas hR1 u (L.sA (f.nd k)) 0 2 (by decide) (by decide) h.hD h.hws h.hac bz1
  rw [hv] at cA
  obtain ⟨c0, c1, c2, c3, c4, c5, c6, r0, r1, r2, r3, z0, z1, z2, z3⟩ := hF.raw.cellsK hk
  obtain ⟨p0, p1, p2, p3⟩ := hF.dcell
  obtain ⟨y0, y1, y2, y3⟩ := hF.dfrz
  obtain ⟨v0, v1, v2, v3⟩ := hF.rcell
  obtain ⟨x0, x1, x2, x3⟩ := hF.rfrz
  have HE := Lib.hid (And.intro h (And.intro hk hF1))
  have HY := Lib.hid hY
  clear h hF hF0 hR hWZ bz hp hn ho ht hT hF1 hR1 bz1 hv hY
  go_enter Tryz.func117, Tryz.ntmps117
  go_upto_region 2 with fail
  rw [← hZ]
  clear hZ
  go_upto_region 33 with fail
  rw [← HY.out]
  clear c0 c1 c2 c3 c4 c5 c6 r0 r1 r2 r3 z0 z1 z2 z3 p0 p1 p2 p3 y0 y1 y2 y3 v0 v1 v2 v3 x0 x1 x2 x3
  go_wp2_with (first | (go_at_call 116; (with_reducible refine cG.mono ?_); rintro e w' ⟨rfl, rfl⟩) | (go_at_call 123; (with_reducible refine cA.mono ?_); intro e w2 hq; unfold RaPost at hq; obtain ⟨rfl, hRS, hW⟩ := hq; have hA := HE.out.2.2.port hRS hW; obtain ⟨c0, c1, c2, c3, c4, c5, c6, r0, r1, r2, r3, z0, z1, z2, z3⟩ := hA.raw.cellsK HE.out.2.1; obtain ⟨p0, p1, p2, p3⟩ := hA.dcell; obtain ⟨y0, y1, y2, y3⟩ := hA.dfrz; obtain ⟨v0, v1, v2, v3⟩ := hA.rcell; obtain ⟨x0, x1, x2, x3⟩ := hA.rfrz; have hS := hA.s0 9; obtain ⟨q0, q1, q2, q3⟩ := hS.dcell; obtain ⟨u0, u1, u2, u3⟩ := hS.rcell; obtain ⟨t0, t1, t2, t3⟩ := hS.rfrz; have HT := Lib.hid hS; clear hS; clear hA hRS hW))
  refine bodyPost_ret (v := Dd.rval ⟨1, false, false, false⟩) (results_cell_row rfl _ _ w.heap.size 109 _ (0, 0) _ rfl (set4 HT.out.res rfl _ _ _ _) Tryz.underlying109 rfl i_rid) rfl HT.out.told
end Go.Proofs.YtdhpmcafekpfhaaGreat
