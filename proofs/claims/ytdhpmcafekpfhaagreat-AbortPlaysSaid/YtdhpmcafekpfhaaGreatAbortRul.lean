/- A step of a call of the reference's abortable lock: its call to unlock. -/
import Derived.Test.YtdhpmcafekpfhaaGreatAbortRlB
import Derived.WalkLawsBesides
import Derived.Outline
import Derived.Deep.QuietTactic
import Derived.Deep.RegionHeld3
import Derived.BigQuiet
import Derived.BigFrame
import Derived.Handy
import Derived.OpenShut
import Derived.Lib.Walk
import Derived.WalkKit
import Derived.Lib.Hide
namespace Go.Proofs.YtdhpmcafekpfhaaGreat
open Go.RowKit Go.BigFrame
set_option linter.unusedVariables false
set_option maxRecDepth 100000

set_option maxHeartbeats 4000000 in
theorem rl_unlock1A {w : World} {M : Mp} {bk : Nat} {so : Option Addr} {cap : Nat} {dv : Value} {f : FL} {L : Lp} (h : MsIn w M bk so cap dv f.s f.ea (fv f) f.ps) (hL1 : L.a1 = M.a) (hL2 : L.a2 = M.a + 1) (k : Nat) (hk : k < f.s.n) (u : Int) (hp : f.pc k = 1) (hn : 0 ≤ f.nd k ∧ f.nd k < 4294967296) (ho : 0 ≤ f.oth k ∧ f.oth k < 4294967296) (ht : 0 ≤ f.tr k ∧ f.tr k ≤ 8) (hT : ∀ K a, 0 ≤ tellS f.ps u K a ∧ tellS f.ps u K a < 4294967296) (hv : tellS f.ps u 1 (L.nA (f.nd k)) = 0) :
    Calls Tryz.prog 118 #[.pointer (some ⟨M.r, 0, none⟩), .pointer (some ⟨M.pr, 0, none⟩), .int .i64 (k : Int), .int .i64 u] w (RkPost w M bk dv f.s f.ea (vk (fv f) k 2 (f.nd k) (tellS f.ps u 1 (L.nA (f.nd k))) (f.tr k)) (doS f.ps u 1 (L.nA (f.nd k)) 0 0) (.int .i64 0)) := by
  have hF : Fp w w M bk dv f.s f.ea (vk (fv f) k 1 (f.nd k) (f.oth k) (f.tr k)) f.ps := by
    have e : vk (fv f) k 1 (f.nd k) (f.oth k) (f.tr k) = fv f := by rw [← hp]; exact vk_self (fv f) k
    rw [e]; exact h.fp
  have i0 : (0 : Int) ≤ (k : Int) := by omega
  have i1 : (k : Int) < f.s.n := by omega
  have hv0 := hT 1 (L.nA (f.nd k))
  have hRd : RefAt w.drew M.base M.pr bk so cap dv f.ps := h.ref.after ((Wrote.refl Nil w).drew) fun _ _ => id
  have cG := rl_wordN hF.drew.raw h.ha hL2 (f.nd k) hn
  have cA := ra_load hRd u (L.nA (f.nd k)) h.hD h.hws h.hac (show M.base ≤ w.drew.heap.size from h.hb)
  generalize tellS f.ps u 1 (L.nA (f.nd k)) = v at *
  have wv : IntKind.i64.wrap v = v := by rw [IntKind.wrap_i64]; omega
  subst hv
  obtain ⟨c0, c1, c2, c3, c4, c5, c6, r0, r1, r2, r3, z0, z1, z2, z3⟩ := hF.raw.cellsK hk
  have C5 : w.drew.cell? ⟨M.r, 5, none⟩ = some (.slice (some ⟨M.rw 2, 0, none⟩) f.s.n f.s.n) := c5
  have HE := Lib.hid hF
  have HK := Lib.hid hk
  clear h hF hRd hp hn ho ht hT hv0
  go_enter Tryz.func118, Tryz.ntmps118
  go_wp2
  go_region_held3 (fun w' => w'.cell? ⟨M.r, 5, none⟩ = some (.slice (some ⟨M.rw 2, 0, none⟩) f.s.n f.s.n)) (first | with_reducible exact d5 | with_reducible exact e5 | exact C5) (first | (go_at_call 116; (with_reducible refine cG.mono ?_); rintro e w' ⟨rfl, rfl⟩) | (go_at_call 120; (with_reducible refine cA.mono ?_); intro e w2 hq; unfold RaPost at hq; obtain ⟨rfl, hRS, hW⟩ := hq; have hA := HE.out.drew.port hRS hW; have d5 := hA.raw.cell5; have hCC := hA.raw.cellsK HK.out; have D2 := hCC.r2; have F2 := hCC.z2; have hB := hA.s2 0; have e5 := hB.raw.cell5; have HB := Lib.hid hB; clear hA hB hRS hW hCC))
  clear c0 c1 c2 c3 c4 c5 c6 r0 r1 r2 r3 z0 z1 z2 z3 C5
  obtain ⟨X1, hX1⟩ : ∃ X1, X1 = w2.setCell ⟨M.rw 2, k, none⟩ (.int .i64 0) := ⟨_, rfl⟩
  have g1 := HB.out
  rw [← hX1] at g1
  rw [← hX1]
  clear HB hX1 d5 e5 D2 F2
  obtain ⟨c0, c1, c2, c3, c4, c5, c6, r0, r1, r2, r3, z0, z1, z2, z3⟩ := g1.raw.cellsK HK.out
  have G1 := Lib.hid g1
  clear g1
  go_upto_region 6 with fail
  obtain ⟨X2, hX2⟩ : ∃ X2, X2 = X1.setCell ⟨M.rw 0, k, none⟩ (.int .i64 2) := ⟨_, rfl⟩
  rw [← hX2]
  have gX2 := G1.out.s0 2
  rw [← hX2] at gX2
  clear hX2 c0 c1 c2 c3 c4 c5 c6 r0 r1 r2 r3 z0 z1 z2 z3
  obtain ⟨c0, c1, c2, c3, c4, c5, c6, r0, r1, r2, r3, z0, z1, z2, z3⟩ := gX2.raw.cellsK HK.out
  have G2 := Lib.hid gX2
  clear gX2
  have HT := G2
  go_wp2
  go_ret
  exact ⟨rfl, HT.out⟩

set_option maxHeartbeats 4000000 in
theorem rl_unlock1B {w : World} {M : Mp} {bk : Nat} {so : Option Addr} {cap : Nat} {dv : Value} {f : FL} {L : Lp} (h : MsIn w M bk so cap dv f.s f.ea (fv f) f.ps) (hL1 : L.a1 = M.a) (hL2 : L.a2 = M.a + 1) (k : Nat) (hk : k < f.s.n) (u : Int) (hp : f.pc k = 1) (hn : 0 ≤ f.nd k ∧ f.nd k < 4294967296) (ho : 0 ≤ f.oth k ∧ f.oth k < 4294967296) (ht : 0 ≤ f.tr k ∧ f.tr k ≤ 8) (hT : ∀ K a, 0 ≤ tellS f.ps u K a ∧ tellS f.ps u K a < 4294967296) (hv : tellS f.ps u 1 (L.nA (f.nd k)) ≠ 0) :
    Calls Tryz.prog 118 #[.pointer (some ⟨M.r, 0, none⟩), .pointer (some ⟨M.pr, 0, none⟩), .int .i64 (k : Int), .int .i64 u] w (RkPost w M bk dv f.s f.ea (vk (fv f) k 4 (f.nd k) (tellS f.ps u 1 (L.nA (f.nd k))) (f.tr k)) (doS f.ps u 1 (L.nA (f.nd k)) 0 0) (.int .i64 0)) := by
  have hF : Fp w w M bk dv f.s f.ea (vk (fv f) k 1 (f.nd k) (f.oth k) (f.tr k)) f.ps := by
    have e : vk (fv f) k 1 (f.nd k) (f.oth k) (f.tr k) = fv f := by rw [← hp]; exact vk_self (fv f) k
    rw [e]; exact h.fp
  have i0 : (0 : Int) ≤ (k : Int) := by omega
  have i1 : (k : Int) < f.s.n := by omega
  have hv0 := hT 1 (L.nA (f.nd k))
  have hRd : RefAt w.drew M.base M.pr bk so cap dv f.ps := h.ref.after ((Wrote.refl Nil w).drew) fun _ _ => id
  have cG := rl_wordN hF.drew.raw h.ha hL2 (f.nd k) hn
  have cA := ra_load hRd u (L.nA (f.nd k)) h.hD h.hws h.hac (show M.base ≤ w.drew.heap.size from h.hb)
  generalize tellS f.ps u 1 (L.nA (f.nd k)) = v at *
  have wv : IntKind.i64.wrap v = v := by rw [IntKind.wrap_i64]; omega
  have b1 : (v != 0) = true := by simpa [bne, BEq.beq] using hv
  obtain ⟨c0, c1, c2, c3, c4, c5, c6, r0, r1, r2, r3, z0, z1, z2, z3⟩ := hF.raw.cellsK hk
  have C5 : w.drew.cell? ⟨M.r, 5, none⟩ = some (.slice (some ⟨M.rw 2, 0, none⟩) f.s.n f.s.n) := c5
  have HE := Lib.hid hF
  have HK := Lib.hid hk
  clear h hF hRd hp hn ho ht hT hv0 hv
  go_enter Tryz.func118, Tryz.ntmps118
  go_wp2
  go_region_held3 (fun w' => w'.cell? ⟨M.r, 5, none⟩ = some (.slice (some ⟨M.rw 2, 0, none⟩) f.s.n f.s.n)) (first | with_reducible exact d5 | with_reducible exact e5 | exact C5) (first | (go_at_call 116; (with_reducible refine cG.mono ?_); rintro e w' ⟨rfl, rfl⟩) | (go_at_call 120; (with_reducible refine cA.mono ?_); intro e w2 hq; unfold RaPost at hq; obtain ⟨rfl, hRS, hW⟩ := hq; have hA := HE.out.drew.port hRS hW; have d5 := hA.raw.cell5; have hCC := hA.raw.cellsK HK.out; have D2 := hCC.r2; have F2 := hCC.z2; have hB := hA.s2 v; have e5 := hB.raw.cell5; have HB := Lib.hid hB; clear hA hB hRS hW hCC))
  clear c0 c1 c2 c3 c4 c5 c6 r0 r1 r2 r3 z0 z1 z2 z3 C5
  obtain ⟨X1, hX1⟩ : ∃ X1, X1 = w2.setCell ⟨M.rw 2, k, none⟩ (.int .i64 v) := ⟨_, rfl⟩
  have g1 := HB.out
  rw [← hX1] at g1
  rw [← hX1]
  clear HB hX1 d5 e5 D2 F2
  obtain ⟨c0, c1, c2, c3, c4, c5, c6, r0, r1, r2, r3, z0, z1, z2, z3⟩ := g1.raw.cellsK HK.out
  have G1 := Lib.hid g1
  clear g1
  go_upto_region 6 with fail
  obtain ⟨X2, hX2⟩ : ∃ X2, X2 = X1.setCell ⟨M.rw 0, k, none⟩ (.int .i64 2) := ⟨_, rfl⟩
  rw [← hX2]
  have gX2 := G1.out.s0 2
  rw [← hX2] at gX2
  clear hX2 c0 c1 c2 c3 c4 c5 c6 r0 r1 r2 r3 z0 z1 z2 z3
  obtain ⟨c0, c1, c2, c3, c4, c5, c6, r0, r1, r2, r3, z0, z1, z2, z3⟩ := gX2.raw.cellsK HK.out
  have G2 := Lib.hid gX2
  clear gX2
  have HT := Lib.hid (G2.out.s0 4)
  go_wp2
  go_ret
  exact ⟨rfl, HT.out⟩

set_option maxHeartbeats 4000000 in
theorem rl_unlock3A {w : World} {M : Mp} {bk : Nat} {so : Option Addr} {cap : Nat} {dv : Value} {f : FL} {L : Lp} (h : MsIn w M bk so cap dv f.s f.ea (fv f) f.ps) (hL1 : L.a1 = M.a) (hL2 : L.a2 = M.a + 1) (k : Nat) (hk : k < f.s.n) (u : Int) (hp : f.pc k = 3) (hn : 0 ≤ f.nd k ∧ f.nd k < 4294967296) (ho : 0 ≤ f.oth k ∧ f.oth k < 4294967296) (ht : 0 ≤ f.tr k ∧ f.tr k ≤ 8) (hT : ∀ K a, 0 ≤ tellS f.ps u K a ∧ tellS f.ps u K a < 4294967296) (hv : tellS f.ps u 1 (L.nA (f.nd k)) = 0) :
    Calls Tryz.prog 118 #[.pointer (some ⟨M.r, 0, none⟩), .pointer (some ⟨M.pr, 0, none⟩), .int .i64 (k : Int), .int .i64 u] w (RkPost w M bk dv f.s f.ea (vk (fv f) k 3 (f.nd k) (tellS f.ps u 1 (L.nA (f.nd k))) (f.tr k)) (doS f.ps u 1 (L.nA (f.nd k)) 0 0) (.int .i64 0)) := by
  have hF : Fp w w M bk dv f.s f.ea (vk (fv f) k 3 (f.nd k) (f.oth k) (f.tr k)) f.ps := by
    have e : vk (fv f) k 3 (f.nd k) (f.oth k) (f.tr k) = fv f := by rw [← hp]; exact vk_self (fv f) k
    rw [e]; exact h.fp
  have i0 : (0 : Int) ≤ (k : Int) := by omega
  have i1 : (k : Int) < f.s.n := by omega
  have hv0 := hT 1 (L.nA (f.nd k))
  have hRd : RefAt w.drew M.base M.pr bk so cap dv f.ps := h.ref.after ((Wrote.refl Nil w).drew) fun _ _ => id
  have cG := rl_wordN hF.drew.raw h.ha hL2 (f.nd k) hn
  have cA := ra_load hRd u (L.nA (f.nd k)) h.hD h.hws h.hac (show M.base ≤ w.drew.heap.size from h.hb)
  generalize tellS f.ps u 1 (L.nA (f.nd k)) = v at *
  have wv : IntKind.i64.wrap v = v := by rw [IntKind.wrap_i64]; omega
  subst hv
  obtain ⟨c0, c1, c2, c3, c4, c5, c6, r0, r1, r2, r3, z0, z1, z2, z3⟩ := hF.raw.cellsK hk
  have C5 : w.drew.cell? ⟨M.r, 5, none⟩ = some (.slice (some ⟨M.rw 2, 0, none⟩) f.s.n f.s.n) := c5
  have HE := Lib.hid hF
  have HK := Lib.hid hk
  clear h hF hRd hp hn ho ht hT hv0
  go_enter Tryz.func118, Tryz.ntmps118
  go_wp2
  go_region_held3 (fun w' => w'.cell? ⟨M.r, 5, none⟩ = some (.slice (some ⟨M.rw 2, 0, none⟩) f.s.n f.s.n)) (first | with_reducible exact d5 | with_reducible exact e5 | exact C5) (first | (go_at_call 116; (with_reducible refine cG.mono ?_); rintro e w' ⟨rfl, rfl⟩) | (go_at_call 120; (with_reducible refine cA.mono ?_); intro e w2 hq; unfold RaPost at hq; obtain ⟨rfl, hRS, hW⟩ := hq; have hA := HE.out.drew.port hRS hW; have d5 := hA.raw.cell5; have hCC := hA.raw.cellsK HK.out; have D2 := hCC.r2; have F2 := hCC.z2; have hB := hA.s2 0; have e5 := hB.raw.cell5; have HB := Lib.hid hB; clear hA hB hRS hW hCC))
  clear c0 c1 c2 c3 c4 c5 c6 r0 r1 r2 r3 z0 z1 z2 z3 C5
  obtain ⟨X1, hX1⟩ : ∃ X1, X1 = w2.setCell ⟨M.rw 2, k, none⟩ (.int .i64 0) := ⟨_, rfl⟩
  have g1 := HB.out
  rw [← hX1] at g1
  rw [← hX1]
  clear HB hX1 d5 e5 D2 F2
  obtain ⟨c0, c1, c2, c3, c4, c5, c6, r0, r1, r2, r3, z0, z1, z2, z3⟩ := g1.raw.cellsK HK.out
  have G1 := Lib.hid g1
  clear g1
  have HT := G1
  go_wp2
  go_ret
  exact ⟨rfl, HT.out⟩

set_option maxHeartbeats 4000000 in
theorem rl_unlock3B {w : World} {M : Mp} {bk : Nat} {so : Option Addr} {cap : Nat} {dv : Value} {f : FL} {L : Lp} (h : MsIn w M bk so cap dv f.s f.ea (fv f) f.ps) (hL1 : L.a1 = M.a) (hL2 : L.a2 = M.a + 1) (k : Nat) (hk : k < f.s.n) (u : Int) (hp : f.pc k = 3) (hn : 0 ≤ f.nd k ∧ f.nd k < 4294967296) (ho : 0 ≤ f.oth k ∧ f.oth k < 4294967296) (ht : 0 ≤ f.tr k ∧ f.tr k ≤ 8) (hT : ∀ K a, 0 ≤ tellS f.ps u K a ∧ tellS f.ps u K a < 4294967296) (hv : tellS f.ps u 1 (L.nA (f.nd k)) ≠ 0) :
    Calls Tryz.prog 118 #[.pointer (some ⟨M.r, 0, none⟩), .pointer (some ⟨M.pr, 0, none⟩), .int .i64 (k : Int), .int .i64 u] w (RkPost w M bk dv f.s f.ea (vk (fv f) k 4 (f.nd k) (tellS f.ps u 1 (L.nA (f.nd k))) (f.tr k)) (doS f.ps u 1 (L.nA (f.nd k)) 0 0) (.int .i64 0)) := by
  have hF : Fp w w M bk dv f.s f.ea (vk (fv f) k 3 (f.nd k) (f.oth k) (f.tr k)) f.ps := by
    have e : vk (fv f) k 3 (f.nd k) (f.oth k) (f.tr k) = fv f := by rw [← hp]; exact vk_self (fv f) k
    rw [e]; exact h.fp
  have i0 : (0 : Int) ≤ (k : Int) := by omega
  have i1 : (k : Int) < f.s.n := by omega
  have hv0 := hT 1 (L.nA (f.nd k))
  have hRd : RefAt w.drew M.base M.pr bk so cap dv f.ps := h.ref.after ((Wrote.refl Nil w).drew) fun _ _ => id
  have cG := rl_wordN hF.drew.raw h.ha hL2 (f.nd k) hn
  have cA := ra_load hRd u (L.nA (f.nd k)) h.hD h.hws h.hac (show M.base ≤ w.drew.heap.size from h.hb)
  generalize tellS f.ps u 1 (L.nA (f.nd k)) = v at *
  have wv : IntKind.i64.wrap v = v := by rw [IntKind.wrap_i64]; omega
  have b1 : (v != 0) = true := by simpa [bne, BEq.beq] using hv
  obtain ⟨c0, c1, c2, c3, c4, c5, c6, r0, r1, r2, r3, z0, z1, z2, z3⟩ := hF.raw.cellsK hk
  have C5 : w.drew.cell? ⟨M.r, 5, none⟩ = some (.slice (some ⟨M.rw 2, 0, none⟩) f.s.n f.s.n) := c5
  have HE := Lib.hid hF
  have HK := Lib.hid hk
  clear h hF hRd hp hn ho ht hT hv0 hv
  go_enter Tryz.func118, Tryz.ntmps118
  go_wp2
  go_region_held3 (fun w' => w'.cell? ⟨M.r, 5, none⟩ = some (.slice (some ⟨M.rw 2, 0, none⟩) f.s.n f.s.n)) (first | with_reducible exact d5 | with_reducible exact e5 | exact C5) (first | (go_at_call 116; (with_reducible refine cG.mono ?_); rintro e w' ⟨rfl, rfl⟩) | (go_at_call 120; (with_reducible refine cA.mono ?_); intro e w2 hq; unfold RaPost at hq; obtain ⟨rfl, hRS, hW⟩ := hq; have hA := HE.out.drew.port hRS hW; have d5 := hA.raw.cell5; have hCC := hA.raw.cellsK HK.out; have D2 := hCC.r2; have F2 := hCC.z2; have hB := hA.s2 v; have e5 := hB.raw.cell5; have HB := Lib.hid hB; clear hA hB hRS hW hCC))
  clear c0 c1 c2 c3 c4 c5 c6 r0 r1 r2 r3 z0 z1 z2 z3 C5
  obtain ⟨X1, hX1⟩ : ∃ X1, X1 = w2.setCell ⟨M.rw 2, k, none⟩ (.int .i64 v) := ⟨_, rfl⟩
  have g1 := HB.out
  rw [← hX1] at g1
  rw [← hX1]
  clear HB hX1 d5 e5 D2 F2
  obtain ⟨c0, c1, c2, c3, c4, c5, c6, r0, r1, r2, r3, z0, z1, z2, z3⟩ := g1.raw.cellsK HK.out
  have G1 := Lib.hid g1
  clear g1
  have HT := Lib.hid (G1.out.s0 4)
  go_wp2
  go_ret
  exact ⟨rfl, HT.out⟩

set_option maxHeartbeats 4000000 in
theorem rl_unlock2A {w : World} {M : Mp} {bk : Nat} {so : Option Addr} {cap : Nat} {dv : Value} {f : FL} {L : Lp} (h : MsIn w M bk so cap dv f.s f.ea (fv f) f.ps) (hL1 : L.a1 = M.a) (hL2 : L.a2 = M.a + 1) (k : Nat) (hk : k < f.s.n) (u : Int) (hp : f.pc k = 2) (hn : 0 ≤ f.nd k ∧ f.nd k < 4294967296) (ho : 0 ≤ f.oth k ∧ f.oth k < 4294967296) (ht : 0 ≤ f.tr k ∧ f.tr k ≤ 8) (hT : ∀ K a, 0 ≤ tellS f.ps u K a ∧ tellS f.ps u K a < 4294967296) (hv : casT f.ps u L.a1 (f.nd k) = true) :
    Calls Tryz.prog 118 #[.pointer (some ⟨M.r, 0, none⟩), .pointer (some ⟨M.pr, 0, none⟩), .int .i64 (k : Int), .int .i64 u] w (RkPost w M bk dv f.s f.ea (vk (fv f) k 6 (f.nd k) (f.oth k) (f.tr k)) (doS f.ps u 4 L.a1 (f.nd k) 0) (.int .i64 0)) := by
  have hF : Fp w w M bk dv f.s f.ea (vk (fv f) k 2 (f.nd k) (f.oth k) (f.tr k)) f.ps := by
    have e : vk (fv f) k 2 (f.nd k) (f.oth k) (f.tr k) = fv f := by rw [← hp]; exact vk_self (fv f) k
    rw [e]; exact h.fp
  have i0 : (0 : Int) ≤ (k : Int) := by omega
  have i1 : (k : Int) < f.s.n := by omega
  have hF1 := hF.s0 3
  have hR1 : RefAt _ M.base M.pr bk so cap dv f.ps := ref_own h.ref hF.raw (i := 0) (by decide) ((Wrote.refl _ w).setCell ⟨M.rw 0, k, none⟩ (.int .i64 3) fun _ => rfl)
  obtain ⟨X1, hX1⟩ : ∃ X1, X1 = w.setCell ⟨M.rw 0, k, none⟩ (.int .i64 3) := ⟨_, rfl⟩
  rw [← hX1] at hF1 hR1
  have bz1 : M.base ≤ X1.heap.size := Nat.le_trans hF1.bw hF1.wr.size
  have wn : IntKind.u32.wrap (f.nd k) = f.nd k := by rw [IntKind.wrap_u32]; omega
  have cA := ra_cas hR1 u L.a1 (f.nd k) 0 (by decide) (by decide) h.hD h.hws h.hac bz1
  rw [hv, hL1] at cA
  rw [hL1]
  obtain ⟨c0, c1, c2, c3, c4, c5, c6, r0, r1, r2, r3, z0, z1, z2, z3⟩ := hF.raw.cellsK hk
  have HE := Lib.hid hF1
  have HK := Lib.hid hk
  have HX1 := Lib.hid hX1
  clear h hF hF1 hR1 hX1 bz1 hp hn ho ht hT hv
  go_enter Tryz.func118, Tryz.ntmps118
  go_upto_region 10 with fail
  rw [← HX1.out]
  clear c0 c1 c2 c3 c4 c5 c6 r0 r1 r2 r3 z0 z1 z2 z3
  obtain ⟨c0, c1, c2, c3, c4, c5, c6, r0, r1, r2, r3, z0, z1, z2, z3⟩ := HE.out.raw.cellsK HK.out
  go_wp2_with (first | (go_at_call 123; (with_reducible refine cA.mono ?_); intro e w2 hq; unfold RaPost at hq; obtain ⟨rfl, hRS, hW⟩ := hq; have hA := HE.out.port hRS hW; obtain ⟨c0, c1, c2, c3, c4, c5, c6, r0, r1, r2, r3, z0, z1, z2, z3⟩ := hA.raw.cellsK HK.out; have HT := Lib.hid (hA.s0 6); clear hA hRS hW))
  go_ret
  exact ⟨rfl, HT.out⟩

set_option maxHeartbeats 4000000 in
theorem rl_unlock2B {w : World} {M : Mp} {bk : Nat} {so : Option Addr} {cap : Nat} {dv : Value} {f : FL} {L : Lp} (h : MsIn w M bk so cap dv f.s f.ea (fv f) f.ps) (hL1 : L.a1 = M.a) (hL2 : L.a2 = M.a + 1) (k : Nat) (hk : k < f.s.n) (u : Int) (hp : f.pc k = 2) (hn : 0 ≤ f.nd k ∧ f.nd k < 4294967296) (ho : 0 ≤ f.oth k ∧ f.oth k < 4294967296) (ht : 0 ≤ f.tr k ∧ f.tr k ≤ 8) (hT : ∀ K a, 0 ≤ tellS f.ps u K a ∧ tellS f.ps u K a < 4294967296) (hv : casT f.ps u L.a1 (f.nd k) = false) :
    Calls Tryz.prog 118 #[.pointer (some ⟨M.r, 0, none⟩), .pointer (some ⟨M.pr, 0, none⟩), .int .i64 (k : Int), .int .i64 u] w (RkPost w M bk dv f.s f.ea (vk (fv f) k 3 (f.nd k) (f.oth k) (f.tr k)) (doS f.ps u 4 L.a1 (f.nd k) 0) (.int .i64 0)) := by
  have hF : Fp w w M bk dv f.s f.ea (vk (fv f) k 2 (f.nd k) (f.oth k) (f.tr k)) f.ps := by
    have e : vk (fv f) k 2 (f.nd k) (f.oth k) (f.tr k) = fv f := by rw [← hp]; exact vk_self (fv f) k
    rw [e]; exact h.fp
  have i0 : (0 : Int) ≤ (k : Int) := by omega
  have i1 : (k : Int) < f.s.n := by omega
  have hF1 := hF.s0 3
  have hR1 : RefAt _ M.base M.pr bk so cap dv f.ps := ref_own h.ref hF.raw (i := 0) (by decide) ((Wrote.refl _ w).setCell ⟨M.rw 0, k, none⟩ (.int .i64 3) fun _ => rfl)
  obtain ⟨X1, hX1⟩ : ∃ X1, X1 = w.setCell ⟨M.rw 0, k, none⟩ (.int .i64 3) := ⟨_, rfl⟩
  rw [← hX1] at hF1 hR1
  have bz1 : M.base ≤ X1.heap.size := Nat.le_trans hF1.bw hF1.wr.size
  have wn : IntKind.u32.wrap (f.nd k) = f.nd k := by rw [IntKind.wrap_u32]; omega
  have cA := ra_cas hR1 u L.a1 (f.nd k) 0 (by decide) (by decide) h.hD h.hws h.hac bz1
  rw [hv, hL1] at cA
  rw [hL1]
  obtain ⟨c0, c1, c2, c3, c4, c5, c6, r0, r1, r2, r3, z0, z1, z2, z3⟩ := hF.raw.cellsK hk
  have HE := Lib.hid hF1
  have HK := Lib.hid hk
  have HX1 := Lib.hid hX1
  clear h hF hF1 hR1 hX1 bz1 hp hn ho ht hT hv
  go_enter Tryz.func118, Tryz.ntmps118
  go_upto_region 10 with fail
  rw [← HX1.out]
  clear c0 c1 c2 c3 c4 c5 c6 r0 r1 r2 r3 z0 z1 z2 z3
  obtain ⟨c0, c1, c2, c3, c4, c5, c6, r0, r1, r2, r3, z0, z1, z2, z3⟩ := HE.out.raw.cellsK HK.out
  go_wp2_with (first | (go_at_call 123; (with_reducible refine cA.mono ?_); intro e w2 hq; unfold RaPost at hq; obtain ⟨rfl, hRS, hW⟩ := hq; have hA := HE.out.port hRS hW; have HT := Lib.hid hA; clear hA hRS hW))
  go_ret
  exact ⟨rfl, HT.out⟩

set_option maxHeartbeats 4000000 in
theorem rl_unlock4A {w : World} {M : Mp} {bk : Nat} {so : Option Addr} {cap : Nat} {dv : Value} {f : FL} {L : Lp} (h : MsIn w M bk so cap dv f.s f.ea (fv f) f.ps) (hL1 : L.a1 = M.a) (hL2 : L.a2 = M.a + 1) (k : Nat) (hk : k < f.s.n) (u : Int) (hp : f.pc k = 4) (hn : 0 ≤ f.nd k ∧ f.nd k < 4294967296) (ho : 0 ≤ f.oth k ∧ f.oth k < 4294967296) (ht : 0 ≤ f.tr k ∧ f.tr k ≤ 8) (hT : ∀ K a, 0 ≤ tellS f.ps u K a ∧ tellS f.ps u K a < 4294967296) (hv : casT f.ps u (L.sA (f.oth k)) 0 = true) :
    Calls Tryz.prog 118 #[.pointer (some ⟨M.r, 0, none⟩), .pointer (some ⟨M.pr, 0, none⟩), .int .i64 (k : Int), .int .i64 u] w (RkPost w M bk dv f.s f.ea (vk (fv f) k 6 (f.nd k) (f.oth k) (f.tr k)) (doS f.ps u 4 (L.sA (f.oth k)) 0 1) (.int .i64 0)) := by
  have hF : Fp w w M bk dv f.s f.ea (vk (fv f) k 4 (f.nd k) (f.oth k) (f.tr k)) f.ps := by
    have e : vk (fv f) k 4 (f.nd k) (f.oth k) (f.tr k) = fv f := by rw [← hp]; exact vk_self (fv f) k
    rw [e]; exact h.fp
  have i0 : (0 : Int) ≤ (k : Int) := by omega
  have i1 : (k : Int) < f.s.n := by omega
  have hF1 := hF.s0 5
  have hR1 : RefAt _ M.base M.pr bk so cap dv f.ps := ref_own h.ref hF.raw (i := 0) (by decide) ((Wrote.refl _ w).setCell ⟨M.rw 0, k, none⟩ (.int .i64 5) fun _ => rfl)
  obtain ⟨X1, hX1⟩ : ∃ X1, X1 = w.setCell ⟨M.rw 0, k, none⟩ (.int .i64 5) := ⟨_, rfl⟩
  rw [← hX1] at hF1 hR1
  have bz1 : M.base ≤ X1.heap.size := Nat.le_trans hF1.bw hF1.wr.size
  have cG := rl_wordS hF1.raw h.ha hL2 (f.oth k) ho
  have cA := ra_cas hR1 u (L.sA (f.oth k)) 0 1 (by decide) (by decide) h.hD h.hws h.hac bz1
  rw [hv] at cA
  obtain ⟨c0, c1, c2, c3, c4, c5, c6, r0, r1, r2, r3, z0, z1, z2, z3⟩ := hF.raw.cellsK hk
  have HE := Lib.hid hF1
  have HK := Lib.hid hk
  have HX1 := Lib.hid hX1
  clear h hF hF1 hR1 hX1 bz1 hp hn ho ht hT hv
  go_enter Tryz.func118, Tryz.ntmps118
  go_upto_region 18 with fail
  rw [← HX1.out]
  clear c0 c1 c2 c3 c4 c5 c6 r0 r1 r2 r3 z0 z1 z2 z3
  obtain ⟨c0, c1, c2, c3, c4, c5, c6, r0, r1, r2, r3, z0, z1, z2, z3⟩ := HE.out.raw.cellsK HK.out
  go_wp2_with (first | (go_at_call 116; (with_reducible refine cG.mono ?_); rintro e w' ⟨rfl, rfl⟩) | (go_at_call 123; (with_reducible refine cA.mono ?_); intro e w2 hq; unfold RaPost at hq; obtain ⟨rfl, hRS, hW⟩ := hq; have hA := HE.out.port hRS hW; obtain ⟨c0, c1, c2, c3, c4, c5, c6, r0, r1, r2, r3, z0, z1, z2, z3⟩ := hA.raw.cellsK HK.out; have HT := Lib.hid (hA.s0 6); clear hA hRS hW))
  go_ret
  exact ⟨rfl, HT.out⟩

set_option maxHeartbeats 4000000 in
theorem rl_unlock4B {w : World} {M : Mp} {bk : Nat} {so : Option Addr} {cap : Nat} {dv : Value} {f : FL} {L : Lp} (h : MsIn w M bk so cap dv f.s f.ea (fv f) f.ps) (hL1 : L.a1 = M.a) (hL2 : L.a2 = M.a + 1) (k : Nat) (hk : k < f.s.n) (u : Int) (hp : f.pc k = 4) (hn : 0 ≤ f.nd k ∧ f.nd k < 4294967296) (ho : 0 ≤ f.oth k ∧ f.oth k < 4294967296) (ht : 0 ≤ f.tr k ∧ f.tr k ≤ 8) (hT : ∀ K a, 0 ≤ tellS f.ps u K a ∧ tellS f.ps u K a < 4294967296) (hv : casT f.ps u (L.sA (f.oth k)) 0 = false) :
    Calls Tryz.prog 118 #[.pointer (some ⟨M.r, 0, none⟩), .pointer (some ⟨M.pr, 0, none⟩), .int .i64 (k : Int), .int .i64 u] w (RkPost w M bk dv f.s f.ea (vk (fv f) k 5 (f.nd k) (f.oth k) (f.tr k)) (doS f.ps u 4 (L.sA (f.oth k)) 0 1) (.int .i64 0)) := by
  have hF : Fp w w M bk dv f.s f.ea (vk (fv f) k 4 (f.nd k) (f.oth k) (f.tr k)) f.ps := by
    have e : vk (fv f) k 4 (f.nd k) (f.oth k) (f.tr k) = fv f := by rw [← hp]; exact vk_self (fv f) k
    rw [e]; exact h.fp
  have i0 : (0 : Int) ≤ (k : Int) := by omega
  have i1 : (k : Int) < f.s.n := by omega
  have hF1 := hF.s0 5
  have hR1 : RefAt _ M.base M.pr bk so cap dv f.ps := ref_own h.ref hF.raw (i := 0) (by decide) ((Wrote.refl _ w).setCell ⟨M.rw 0, k, none⟩ (.int .i64 5) fun _ => rfl)
  obtain ⟨X1, hX1⟩ : ∃ X1, X1 = w.setCell ⟨M.rw 0, k, none⟩ (.int .i64 5) := ⟨_, rfl⟩
  rw [← hX1] at hF1 hR1
  have bz1 : M.base ≤ X1.heap.size := Nat.le_trans hF1.bw hF1.wr.size
  have cG := rl_wordS hF1.raw h.ha hL2 (f.oth k) ho
  have cA := ra_cas hR1 u (L.sA (f.oth k)) 0 1 (by decide) (by decide) h.hD h.hws h.hac bz1
  rw [hv] at cA
  obtain ⟨c0, c1, c2, c3, c4, c5, c6, r0, r1, r2, r3, z0, z1, z2, z3⟩ := hF.raw.cellsK hk
  have HE := Lib.hid hF1
  have HK := Lib.hid hk
  have HX1 := Lib.hid hX1
  clear h hF hF1 hR1 hX1 bz1 hp hn ho ht hT hv
  go_enter Tryz.func118, Tryz.ntmps118
  go_upto_region 18 with fail
  rw [← HX1.out]
  clear c0 c1 c2 c3 c4 c5 c6 r0 r1 r2 r3 z0 z1 z2 z3
  obtain ⟨c0, c1, c2, c3, c4, c5, c6, r0, r1, r2, r3, z0, z1, z2, z3⟩ := HE.out.raw.cellsK HK.out
  go_wp2_with (first | (go_at_call 116; (with_reducible refine cG.mono ?_); rintro e w' ⟨rfl, rfl⟩) | (go_at_call 123; (with_reducible refine cA.mono ?_); intro e w2 hq; unfold RaPost at hq; obtain ⟨rfl, hRS, hW⟩ := hq; have hA := HE.out.port hRS hW; have HT := Lib.hid hA; clear hA hRS hW))
  go_ret
  exact ⟨rfl, HT.out⟩

set_option maxHeartbeats 4000000 in
theorem rl_unlock5 {w : World} {M : Mp} {bk : Nat} {so : Option Addr} {cap : Nat} {dv : Value} {f : FL} {L : Lp} (h : MsIn w M bk so cap dv f.s f.ea (fv f) f.ps) (hL1 : L.a1 = M.a) (hL2 : L.a2 = M.a + 1) (k : Nat) (hk : k < f.s.n) (u : Int) (hp : f.pc k = 5) (hn : 0 ≤ f.nd k ∧ f.nd k < 4294967296) (ho : 0 ≤ f.oth k ∧ f.oth k < 4294967296) (ht : 0 ≤ f.tr k ∧ f.tr k ≤ 8) (hT : ∀ K a, 0 ≤ tellS f.ps u K a ∧ tellS f.ps u K a < 4294967296) :
    Calls Tryz.prog 118 #[.pointer (some ⟨M.r, 0, none⟩), .pointer (some ⟨M.pr, 0, none⟩), .int .i64 (k : Int), .int .i64 u] w (RkPost w M bk dv f.s f.ea (vk (fv f) k 1 (f.oth k) (f.oth k) (f.tr k)) (doS f.ps u 2 (L.oA (f.nd k)) 0 0) (.int .i64 0)) := by
  have hF : Fp w w M bk dv f.s f.ea (vk (fv f) k 5 (f.nd k) (f.oth k) (f.tr k)) f.ps := by
    have e : vk (fv f) k 5 (f.nd k) (f.oth k) (f.tr k) = fv f := by rw [← hp]; exact vk_self (fv f) k
    rw [e]; exact h.fp
  have i0 : (0 : Int) ≤ (k : Int) := by omega
  have i1 : (k : Int) < f.s.n := by omega
  have cG := rl_wordO hF.raw h.ha hL2 (f.nd k) hn
  have cA := ra_store h.ref u (L.oA (f.nd k)) 0 (by decide) (by decide) h.hD h.hws h.hac h.hb
  obtain ⟨c0, c1, c2, c3, c4, c5, c6, r0, r1, r2, r3, z0, z1, z2, z3⟩ := hF.raw.cellsK hk
  have HE := Lib.hid hF
  have HK := Lib.hid hk
  clear h hF hp hn ho ht hT
  go_enter Tryz.func118, Tryz.ntmps118
  go_upto_region 22 with (first | (go_at_call 116; (with_reducible refine cG.mono ?_); rintro e w' ⟨rfl, rfl⟩) | (go_at_call 121; (with_reducible refine cA.mono ?_); intro e w2 hq; unfold RaPost at hq; obtain ⟨rfl, hRS, hW⟩ := hq; have hA := HE.out.port hRS hW; have HA2 := Lib.hid hA; clear hA hRS hW))
  clear c0 c1 c2 c3 c4 c5 c6 r0 r1 r2 r3 z0 z1 z2 z3
  have gA := HA2.out.drew
  obtain ⟨c0, c1, c2, c3, c4, c5, c6, r0, r1, r2, r3, z0, z1, z2, z3⟩ := gA.raw.cellsK HK.out
  have gB0 := HA2.out.s1 (f.oth k)
  have gB := gB0.drew
  have e3 := gB.raw.cell3
  have e4 := gB.raw.cell4
  have e5 := gB.raw.cell5
  have eC := gB.raw.cellsK HK.out
  have E2 := eC.r2
  have E0 := eC.r0
  have F0 := eC.z0
  have gC := (gB0.s0 1).drew
  have h3 := gC.raw.cell3
  have h4 := gC.raw.cell4
  have h5 := gC.raw.cell5
  have H2 := (gC.raw.cellsK HK.out).r2
  have HT := Lib.hid gC
  clear gA gB gB0 gC eC
  go_region_held3 (fun w' => w'.cell? ⟨M.r, 3, none⟩ = some (.slice (some ⟨M.rw 0, 0, none⟩) f.s.n M.cp) ∧ w'.cell? ⟨M.r, 4, none⟩ = some (.slice (some ⟨M.rw 1, 0, none⟩) f.s.n f.s.n) ∧ w'.cell? ⟨M.r, 5, none⟩ = some (.slice (some ⟨M.rw 2, 0, none⟩) f.s.n f.s.n) ∧ w'.cell? ⟨M.rw 2, k, none⟩ = some (.int .i64 (f.oth k))) (first | with_reducible exact ⟨e3, e4, e5, E2⟩ | with_reducible exact ⟨h3, h4, h5, H2⟩ | exact ⟨c3, c4, c5, r2⟩) (fail)
  go_wp2
  go_ret
  exact ⟨rfl, HT.out⟩

set_option maxHeartbeats 4000000 in
theorem rl_unlock6 {w : World} {M : Mp} {bk : Nat} {so : Option Addr} {cap : Nat} {dv : Value} {f : FL} {L : Lp} (h : MsIn w M bk so cap dv f.s f.ea (fv f) f.ps) (hL1 : L.a1 = M.a) (hL2 : L.a2 = M.a + 1) (k : Nat) (hk : k < f.s.n) (u : Int) (hp : f.pc k = 6) (hn : 0 ≤ f.nd k ∧ f.nd k < 4294967296) (ho : 0 ≤ f.oth k ∧ f.oth k < 4294967296) (ht : 0 ≤ f.tr k ∧ f.tr k ≤ 8) (hT : ∀ K a, 0 ≤ tellS f.ps u K a ∧ tellS f.ps u K a < 4294967296) :
    Calls Tryz.prog 118 #[.pointer (some ⟨M.r, 0, none⟩), .pointer (some ⟨M.pr, 0, none⟩), .int .i64 (k : Int), .int .i64 u] w (RkPost w M bk dv f.s f.ea (vk (fv f) k 6 (f.nd k) (f.oth k) (f.tr k)) (doS f.ps u 2 (L.oA (f.nd k)) 0 0) (.int .i64 3)) := by
  have hF : Fp w w M bk dv f.s f.ea (vk (fv f) k 6 (f.nd k) (f.oth k) (f.tr k)) f.ps := by
    have e : vk (fv f) k 6 (f.nd k) (f.oth k) (f.tr k) = fv f := by rw [← hp]; exact vk_self (fv f) k
    rw [e]; exact h.fp
  have i0 : (0 : Int) ≤ (k : Int) := by omega
  have i1 : (k : Int) < f.s.n := by omega
  have cG := rl_wordO hF.raw h.ha hL2 (f.nd k) hn
  have cA := ra_store h.ref u (L.oA (f.nd k)) 0 (by decide) (by decide) h.hD h.hws h.hac h.hb
  obtain ⟨c0, c1, c2, c3, c4, c5, c6, r0, r1, r2, r3, z0, z1, z2, z3⟩ := hF.raw.cellsK hk
  have HE := Lib.hid hF
  have HK := Lib.hid hk
  clear h hF hp hn ho ht hT
  go_enter Tryz.func118, Tryz.ntmps118
  go_wp2_with (first | (go_at_call 116; (with_reducible refine cG.mono ?_); rintro e w' ⟨rfl, rfl⟩) | (go_at_call 121; (with_reducible refine cA.mono ?_); intro e w2 hq; unfold RaPost at hq; obtain ⟨rfl, hRS, hW⟩ := hq; have hA := HE.out.port hRS hW; have HT := Lib.hid hA; clear hA hRS hW))
  go_ret
  exact ⟨rfl, HT.out⟩
end Go.Proofs.YtdhpmcafekpfhaaGreat
