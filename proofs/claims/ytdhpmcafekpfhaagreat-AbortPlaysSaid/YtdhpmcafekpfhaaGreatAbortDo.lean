/- The contracts of an abortable lock's steps: what each tells, and what it leaves. -/
import Derived.Test.YtdhpmcafekpfhaaGreatAbort
import Derived.WalkLawsBesides
import Derived.Outline
import Derived.Deep.QuietTactic
import Derived.Deep.RegionHeld3
import Derived.BigQuiet
import Derived.BigFrame
import Derived.Handy
import Derived.OpenShut
import Derived.Lib.Walk
import Derived.WalkKit
import Derived.Lib.Hide
namespace Go.Proofs.YtdhpmcafekpfhaaGreat
open Go.RowKit Go.BigFrame
set_option linter.unusedVariables false
set_option maxRecDepth 100000

theorem fl_use {w : World} {L : Lp} {pv : Value} {s : SS} {σ : Nat → Int} {ea : Nat} {pc nd oth tr : Nat → Int} (h : FlRaw w L pv s σ ea pc nd oth tr) (a : Addr) :
    Calls Tryz.prog 20 #[.pointer (some ⟨L.lb, 0, none⟩), .pointer (some a)] w fun e w' => e = .returned (.tuple #[]) ∧ w' = w.setCell ⟨L.lb, 1, none⟩ (.pointer (some a)) := by
  have c1 := h.cell1
  have f1 := h.frozen 1
  clear h
  go_enter Tryz.func20, Tryz.ntmps20
  go_wp2
  go_end0
  exact ⟨rfl, rfl⟩

/-! ### addresses -/
theorem wraps {a x : Int} (h0 : 0 ≤ a) (h1 : a ≤ 2000000) (h2 : 0 ≤ x) (h3 : x < 4294967296) : IntKind.i64.wrap x = x ∧ IntKind.i64.wrap (3 * x) = 3 * x ∧ IntKind.i64.wrap (a + 3 * x) = a + 3 * x ∧ IntKind.i64.wrap (a + 3 * x - 1) = a + 3 * x - 1 ∧ IntKind.i64.wrap (a + 3 * x - 2) = a + 3 * x - 2 := by
  rw [IntKind.wrap_i64, IntKind.wrap_i64, IntKind.wrap_i64, IntKind.wrap_i64, IntKind.wrap_i64]; omega

theorem fl_state {w : World} {L : Lp} {f : FL} {σ : Nat → Int} (h : LkM w L f σ) (x : Int) (hx : 0 ≤ x ∧ x < 4294967296) :
    Calls Tryz.prog 52 #[.pointer (some ⟨L.lb, 0, none⟩), .int .u32 x] w fun e w' => e = .returned (.int .i64 (L.sA x)) ∧ w = w' := by
  have c3 := h.raw.cell3
  obtain ⟨a0, a1, a2⟩ := h.raw.adr
  obtain ⟨w1, w2, w3, w4, w5⟩ := wraps a0 a1 hx.1 hx.2
  have e : L.sA x = L.a1 + 3 * x - 2 := by unfold Lp.sA; omega
  rw [e]
  clear h e w4
  go_enter Tryz.func52, Tryz.ntmps52
  go_wp2
  go_ret
  exact ⟨rfl, rfl⟩
theorem fl_next {w : World} {L : Lp} {f : FL} {σ : Nat → Int} (h : LkM w L f σ) (x : Int) (hx : 0 ≤ x ∧ x < 4294967296) :
    Calls Tryz.prog 53 #[.pointer (some ⟨L.lb, 0, none⟩), .int .u32 x] w fun e w' => e = .returned (.int .i64 (L.nA x)) ∧ w = w' := by
  have c3 := h.raw.cell3
  obtain ⟨a0, a1, a2⟩ := h.raw.adr
  obtain ⟨w1, w2, w3, w4, w5⟩ := wraps a0 a1 hx.1 hx.2
  have e : L.nA x = L.a1 + 3 * x - 1 := by unfold Lp.nA; omega
  rw [e]
  clear h e w5
  go_enter Tryz.func53, Tryz.ntmps53
  go_wp2
  go_ret
  exact ⟨rfl, rfl⟩
theorem fl_out {w : World} {L : Lp} {f : FL} {σ : Nat → Int} (h : LkM w L f σ) (x : Int) (hx : 0 ≤ x ∧ x < 4294967296) :
    Calls Tryz.prog 34 #[.pointer (some ⟨L.lb, 0, none⟩), .int .u32 x] w fun e w' => e = .returned (.int .i64 (L.oA x)) ∧ w = w' := by
  have c3 := h.raw.cell3
  obtain ⟨a0, a1, a2⟩ := h.raw.adr
  obtain ⟨w1, w2, w3, w4, w5⟩ := wraps a0 a1 hx.1 hx.2
  have e : L.oA x = L.a1 + 3 * x := by unfold Lp.oA; omega
  rw [e]
  clear h e w4 w5
  go_enter Tryz.func34, Tryz.ntmps34
  go_wp2
  go_ret
  exact ⟨rfl, rfl⟩

/-! ### what a place has behind a step -/
theorem PlI.next {pc pc' nd oth tr : Int} {ea : Nat} {p : Pc} (h : PlI 1 pc nd oth tr ea p) (h1 : 2 ≤ pc) (h2 : 2 ≤ pc' ∧ pc' ≤ 8) (h6 : 6 ≤ pc' → 6 ≤ pc) : PlI 1 pc' nd oth tr ea { p with st := pc' - 1 } :=
  ⟨rfl, by omega, h.nr, h.orr, fun q => absurd rfl q, h.tr1, fun _ q => by omega, fun _ => h.n0 (by omega), fun q => by omega, fun _ q => h.o1 rfl (h6 q), fun q => by omega, fun q => absurd rfl q, fun q => by omega, h.pn, h.po⟩
theorem PlI.nextU {pc pc' nd oth tr : Int} {ea : Nat} {p : Pc} (h : PlI 3 pc nd oth tr ea p) (h2 : 2 ≤ pc' ∧ pc' ≤ 6) (h6 : pc' = 4 ∨ pc' = 5 → pc = 4 ∨ pc = 5) : PlI 3 pc' nd oth tr ea { p with st := pc' - 1 } :=
  ⟨rfl, by omega, h.nr, h.orr, h.tr0, h.tr1, fun _ q => by omega, fun _ => h.n1 (.inr rfl), fun _ => h.n1 (.inr rfl), fun q => by omega, fun _ q => h.o3 rfl (h6 q), fun _ q => absurd rfl q, fun _ => by omega, h.pn, h.po⟩
theorem PlI.idleP {y z : Int} {ea : Nat} (hy : 0 ≤ y ∧ y < 4294967296) (hz : 0 ≤ z ∧ z < 4294967296) (he : 1 ≤ ea) : PlI 0 1 y z 0 ea ⟨0, 0, 0, 0⟩ :=
  ⟨rfl, by omega, hy, hz, fun _ => rfl, by omega, fun _ _ => ⟨by omega, rfl⟩, fun q => absurd rfl q, fun q => by omega, fun q => by omega, fun q => by omega, fun _ _ => rfl, fun q => by omega, (by show (0 : Int) ≤ 0 ∧ (0 : Int) < 4294967296; decide), (by show (0 : Int) ≤ 0 ∧ (0 : Int) < 4294967296; decide)⟩
theorem PlI.hasP {y z : Int} {ea : Nat} (hy : 0 ≤ y ∧ y < 4294967296) (hz : 0 ≤ z ∧ z < 4294967296) (he : 1 ≤ ea) : PlI 2 1 y z 0 ea ⟨0, 0, y, 0⟩ :=
  ⟨rfl, by omega, hy, hz, fun _ => rfl, by omega, fun _ _ => ⟨by omega, rfl⟩, fun q => absurd rfl q, fun _ => rfl, fun q => by omega, fun q => by omega, fun _ _ => rfl, fun q => by omega, hy, (by show (0 : Int) ≤ 0 ∧ (0 : Int) < 4294967296; decide)⟩
theorem PlI.linkP {y z r : Int} {ea : Nat} (hy : 0 ≤ y ∧ y < 4294967296) (hz : 0 ≤ z ∧ z < 4294967296) (hr : 0 ≤ r ∧ r ≤ ea) : PlI 1 6 y z r ea ⟨5, 0, y, z⟩ :=
  ⟨rfl, by omega, hy, hz, fun q => absurd rfl q, hr, fun _ q => by omega, fun _ => rfl, fun _ => rfl, fun _ _ => rfl, fun _ _ => rfl, fun q => absurd rfl q, fun q => by omega, hy, hz⟩
theorem PlI.handP {y z : Int} {ea : Nat} (hy : 0 ≤ y ∧ y < 4294967296) (hz : 0 ≤ z ∧ z < 4294967296) : PlI 3 4 y z 0 ea ⟨3, 0, y, z⟩ :=
  ⟨rfl, by omega, hy, hz, fun _ => rfl, by omega, fun _ q => by omega, fun _ => rfl, fun _ => rfl, fun _ _ => rfl, fun _ _ => rfl, fun _ q => absurd rfl q, fun _ => by omega, hy, hz⟩
theorem PlI.takeP {y z r : Int} {ea : Nat} (hy : 0 ≤ y ∧ y < 4294967296) (hz : 0 ≤ z ∧ z < 4294967296) (hr : 0 ≤ r ∧ r ≤ ea) : PlI 1 2 y z r ea ⟨1, 0, y, 0⟩ :=
  ⟨rfl, by omega, hy, hz, fun q => absurd rfl q, hr, fun _ q => by omega, fun _ => rfl, fun _ => rfl, fun _ q => by omega, fun q => by omega, fun q => absurd rfl q, fun q => by omega, hy, (by show (0 : Int) ≤ 0 ∧ (0 : Int) < 4294967296; decide)⟩
theorem PlI.seekP {y z : Int} {ea : Nat} (hy : 0 ≤ y ∧ y < 4294967296) (hz : 0 ≤ z ∧ z < 4294967296) (he : 1 ≤ ea) : PlI 3 1 y z 0 ea ⟨0, 0, y, 0⟩ :=
  ⟨rfl, by omega, hy, hz, fun _ => rfl, by omega, fun _ _ => ⟨by omega, rfl⟩, fun q => absurd rfl q, fun _ => rfl, fun q => by omega, fun q => by omega, fun _ q => absurd rfl q, fun _ => by omega, hy, (by show (0 : Int) ≤ 0 ∧ (0 : Int) < 4294967296; decide)⟩
theorem PlI.tryP {y z r : Int} {ea : Nat} {p : Pc} (h : PlI 1 1 y z r ea p) {y' : Int} (hy : 0 ≤ y' ∧ y' < 4294967296) (hr : r + 1 < ea) : PlI 1 1 y' z (r + 1) ea { p with tr := r + 1 } :=
  ⟨h.st, by omega, hy, h.orr, fun q => absurd rfl q, (by have := h.tr1; omega), fun _ _ => ⟨hr, rfl⟩, fun q => absurd rfl q, fun q => by omega, fun _ q => by omega, fun q => by omega, fun q => absurd rfl q, fun q => by omega, h.pn, h.po⟩

/-- every node was looked at: its call is refused next -/
theorem PlI.fullP {y z r c : Int} {ea : Nat} {p : Pc} (h : PlI 1 1 y z r ea p) {y' : Int} (hy : 0 ≤ y' ∧ y' < 4294967296) : PlI 9 1 y' z 0 ea { p with tr := c } :=
  ⟨h.st, by omega, hy, h.orr, fun _ => rfl, by omega, fun q => absurd rfl q, fun q => absurd rfl q, fun q => by omega, fun q => by omega, fun q => by omega, fun _ _ => rfl, fun q => by omega, h.pn, h.po⟩

/-- what a context does behind an event -/
theorem finS_facts : finS 1 0 = 1 ∧ finS 1 1 = 2 ∧ finS 1 2 = 0 ∧ finS 1 6 = 0 ∧ finS 3 0 = 3 ∧ finS 3 3 = 0 := by decide
/-! ### a call's end, what behind a swap, what behind a load of its next -/
set_option maxHeartbeats 1000000 in
theorem fl_ends {w : World} {L : Lp} {f : FL} {σ : Nat → Int} (h : LkM w L f σ) (k : Nat) (hk : k < f.s.n) (y : Int) (hy : 0 ≤ y ∧ y < 4294967296) (ev : Int) :
    Calls Tryz.prog 62 #[.pointer (some ⟨L.tb, k * 4, none⟩), .int .i64 ev] w (LmPost w L { f with pc := upd f.pc k 1, nd := upd f.nd k y, oth := upd f.oth k (f.oth k), tr := upd f.tr k 0 } (upd σ k 0) (Dd.val ⟨ev, false, false, false⟩)) := by
  have hF := Fr.start h
  obtain ⟨p, hp, t0, t1, t2, t3⟩ := hF.lk.raw.place4 hk
  have z0 := hF.lk.raw.tkz (k * 4)
  have z1 := hF.lk.raw.tkz (k * 4 + 1)
  have z2 := hF.lk.raw.tkz (k * 4 + 2)
  have z3 := hF.lk.raw.tkz (k * 4 + 3)
  have hT := hF.lk.turns (hF.lk.raw.set4' k 0 1 y (f.oth k) 0 0 0 0 0 (PlI.idleP hy hp.orr h.raw.each.1))
  have hA := Fr.call h hF hT.1 (lf_t hT.2)
  obtain ⟨v0, v1, v2, v3⟩ := hA.cell
  obtain ⟨x0, x1, x2, x3⟩ := hA.frz
  have HE := Lib.hid (And.intro h hA)
  clear h hF hT hA hp
  go_enter Tryz.func62, Tryz.ntmps62
  go_wp2
  refine bodyPost_ret (v := Dd.val ⟨ev, false, false, false⟩) (results_cell_row rfl _ _ w.heap.size 52 _ (0, 0) _ rfl (set4 HE.out.2.res rfl _ _ _ _) Tryz.underlying52 rfl i_did) rfl (HE.out.2.told HE.out.1 ⟨ev, false, false, false⟩)
set_option maxHeartbeats 1000000 in
theorem fl_has {w : World} {L : Lp} {f : FL} {σ : Nat → Int} (h : LkM w L f σ) (k : Nat) (hk : k < f.s.n) (hpc : f.pc k ≠ 1) (z : Int) (hz : 0 ≤ z ∧ z < 4294967296) :
    Calls Tryz.prog 74 #[.pointer (some ⟨L.tb, k * 4, none⟩)] w (LmPost w L { f with pc := upd f.pc k 1, nd := upd f.nd k (f.nd k), oth := upd f.oth k z, tr := upd f.tr k 0 } (upd σ k 2) (Dd.val ⟨1, false, false, false⟩)) := by
  have hF := Fr.start h
  obtain ⟨p, hp, t0, t1, t2, t3⟩ := hF.lk.raw.place4 hk
  rw [hp.n0 hpc] at t2
  have z0 := hF.lk.raw.tkz (k * 4)
  have z1 := hF.lk.raw.tkz (k * 4 + 1)
  have z2 := hF.lk.raw.tkz (k * 4 + 2)
  have z3 := hF.lk.raw.tkz (k * 4 + 3)
  have hT := hF.lk.turns (hF.lk.raw.set4' k 2 1 (f.nd k) z 0 0 0 (f.nd k) 0 (PlI.hasP hp.nr hz h.raw.each.1))
  have hA := Fr.call h hF hT.1 (lf_t hT.2)
  obtain ⟨v0, v1, v2, v3⟩ := hA.cell
  obtain ⟨x0, x1, x2, x3⟩ := hA.frz
  have HE := Lib.hid (And.intro h hA)
  clear h hF hT hA hp hpc
  go_enter Tryz.func74, Tryz.ntmps74
  go_wp2
  refine bodyPost_ret (v := Dd.val ⟨1, false, false, false⟩) (results_cell_row rfl _ _ w.heap.size 52 _ (0, 0) _ rfl (set4 HE.out.2.res rfl _ _ _ _) Tryz.underlying52 rfl i_did) rfl (HE.out.2.told HE.out.1 ⟨1, false, false, false⟩)
set_option maxHeartbeats 1000000 in
theorem fl_ent0 {w : World} {L : Lp} {f : FL} {σ : Nat → Int} (h : LkM w L f σ) (k : Nat) (hk : k < f.s.n) (hpc : f.pc k ≠ 1) :
    Calls Tryz.prog 54 #[.pointer (some ⟨L.tb, k * 4, none⟩), .int .u32 0] w (LmPost w L { f with pc := upd f.pc k 1, nd := upd f.nd k (f.nd k), oth := upd f.oth k 0, tr := upd f.tr k 0 } (upd σ k 2) (Dd.val ⟨1, true, false, false⟩)) := by
  have hF := Fr.start h
  obtain ⟨Z, hZ⟩ : ∃ Z, Z = w.alloc (.cells #[.int .i64 0, .bool false, .bool false, .bool false] 52) := ⟨_, rfl⟩
  rw [← hZ] at hF
  have cH := fl_has hF.lk k hk hpc 0 (by decide)
  have HE := Lib.hid (And.intro h hF)
  clear h hF hpc
  go_enter Tryz.func54, Tryz.ntmps54
  go_wp2_with (first
    | (go_at_call 74; rw [← hZ]; (with_reducible refine cH.mono ?_); intro e w2 hq; unfold LmPost at hq; obtain ⟨rfl, hB, hW⟩ := hq; have hB3 := Fr.call HE.out.1 HE.out.2 hB hW; obtain ⟨v0, v1, v2, v3⟩ := hB3.cell; obtain ⟨x0, x1, x2, x3⟩ := hB3.frz; have HT := Lib.hid hB3; clear hB hB3 hW))
  refine bodyPost_ret (v := Dd.val ⟨1, true, false, false⟩) (results_cell_row rfl _ _ w.heap.size 52 _ (0, 0) _ rfl (set4 HT.out.res rfl _ _ _ _) Tryz.underlying52 rfl i_did) rfl (HT.out.told HE.out.1 ⟨1, true, false, false⟩)
set_option maxHeartbeats 1000000 in
theorem fl_ent1 {w : World} {L : Lp} {f : FL} {σ : Nat → Int} (h : LkM w L f σ) (k : Nat) (hk : k < f.s.n) (hpc : f.pc k ≠ 1) (a : Int) (ha : 0 ≤ a ∧ a < 4294967296) (hz : a ≠ 0) :
    Calls Tryz.prog 54 #[.pointer (some ⟨L.tb, k * 4, none⟩), .int .u32 a] w (LmPost w L { f with pc := upd f.pc k 6, nd := upd f.nd k (f.nd k), oth := upd f.oth k a, tr := upd f.tr k (f.tr k) } (upd σ k 1) (Dd.val ⟨0, true, false, false⟩)) := by
  have hF := Fr.start h
  obtain ⟨p, hp, t0, t1, t2, t3⟩ := hF.lk.raw.place4 hk
  rw [hp.n0 hpc] at t2
  have z0 := hF.lk.raw.tkz (k * 4)
  have z1 := hF.lk.raw.tkz (k * 4 + 1)
  have z2 := hF.lk.raw.tkz (k * 4 + 2)
  have z3 := hF.lk.raw.tkz (k * 4 + 3)
  have hT := hF.lk.turns (hF.lk.raw.set4' k 1 6 (f.nd k) a (f.tr k) 5 0 (f.nd k) a (PlI.linkP hp.nr ha hp.tr1))
  have hA := Fr.call h hF hT.1 (lf_t hT.2)
  obtain ⟨v0, v1, v2, v3⟩ := hA.cell
  obtain ⟨x0, x1, x2, x3⟩ := hA.frz
  have HE := Lib.hid (And.intro h hA)
  have b1 : (a == 0) = false := beq_false_of_ne hz
  clear h hF hT hA hp hpc hz
  go_enter Tryz.func54, Tryz.ntmps54
  go_wp2
  refine bodyPost_ret (v := Dd.val ⟨0, true, false, false⟩) (results_cell_row rfl _ _ w.heap.size 52 _ (0, 0) _ rfl (set4 HE.out.2.res rfl _ _ _ _) Tryz.underlying52 rfl i_did) rfl (HE.out.2.told HE.out.1 ⟨0, true, false, false⟩)
theorem fl_enters {w : World} {L : Lp} {f : FL} {σ : Nat → Int} (h : LkM w L f σ) (k : Nat) (hk : k < f.s.n) (hpc : f.pc k ≠ 1) (a : Int) (ha : 0 ≤ a ∧ a < 4294967296) :
    Calls Tryz.prog 54 #[.pointer (some ⟨L.tb, k * 4, none⟩), .int .u32 a] w (LmPost w L { f with pc := upd f.pc k (if a = 0 then 1 else 6), nd := upd f.nd k (f.nd k), oth := upd f.oth k a, tr := upd f.tr k (if a = 0 then 0 else f.tr k) } (upd σ k (if a = 0 then 2 else 1)) (Dd.val ⟨if a = 0 then 1 else 0, true, false, false⟩)) := by
  by_cases hz : a = 0
  · subst hz; exact fl_ent0 h k hk hpc
  · rw [if_neg hz, if_neg hz, if_neg hz, if_neg hz]; exact fl_ent1 h k hk hpc a ha hz
/-- behind finds -/
def FiPost (w : World) (L : Lp) (f : FL) (σ : Nat → Int) (e : Ending) (w' : World) : Prop := e = .returned (.tuple #[]) ∧ LkM w' L f σ ∧ Wrote (LF L) w w'
set_option maxHeartbeats 1000000 in
theorem fl_fin0 {w : World} {L : Lp} {f : FL} {σ : Nat → Int} (h : LkM w L f σ) (k : Nat) (hk : k < f.s.n) (hs : σ k = 3) (a : Int) (ha : 0 ≤ a ∧ a < 4294967296) (hz : a ≠ 0) :
    Calls Tryz.prog 59 #[.pointer (some ⟨L.tb, k * 4, none⟩), .int .u32 a] w (FiPost w L { f with pc := upd f.pc k 4, nd := upd f.nd k (f.nd k), oth := upd f.oth k a, tr := upd f.tr k (f.tr k) } (upd σ k 3)) := by
  obtain ⟨p, hp, t0, t1, t2, t3⟩ := h.raw.place4 hk
  rw [hs] at hp
  rw [hp.n1 (.inr rfl)] at t2
  have z0 := h.raw.tkz (k * 4)
  have z1 := h.raw.tkz (k * 4 + 1)
  have z2 := h.raw.tkz (k * 4 + 2)
  have z3 := h.raw.tkz (k * 4 + 3)
  have hr := hp.tr0 (by decide)
  have hT := h.turns (h.raw.set4' k 3 4 (f.nd k) a (f.tr k) 3 0 (f.nd k) a (by rw [hr]; exact PlI.handP hp.nr ha))
  have HE := Lib.hid hT
  have b1 : (a != 0) = true := by simpa [bne, BEq.beq] using hz
  clear h hT hz hp hs hr
  go_enter Tryz.func59, Tryz.ntmps59
  go_wp2
  go_end0
  exact ⟨rfl, HE.out.1, lf_t HE.out.2⟩
set_option maxHeartbeats 1000000 in
theorem fl_fin1 {w : World} {L : Lp} {f : FL} {σ : Nat → Int} (h : LkM w L f σ) (k : Nat) (hk : k < f.s.n) (hs : σ k = 3) (hpc : f.pc k = 1) :
    Calls Tryz.prog 59 #[.pointer (some ⟨L.tb, k * 4, none⟩), .int .u32 0] w (FiPost w L { f with pc := upd f.pc k 2, nd := upd f.nd k (f.nd k), oth := upd f.oth k 0, tr := upd f.tr k (f.tr k) } (upd σ k 3)) := by
  obtain ⟨p, hp, t0, t1, t2, t3⟩ := h.raw.place4 hk
  rw [hpc] at t0
  have z0 := h.raw.tkz (k * 4)
  have hT := h.turns (h.raw.set1 k 3 2 (f.nd k) 0 (f.tr k) (fun p hp => by rw [hs] at hp; have := hp.nextU (pc' := 2) (by decide) (by omega); exact ⟨this.st, this.pr, this.nr, by omega, this.tr0, this.tr1, this.tr2, this.n0, this.n1, fun q => by omega, fun _ q => by omega, this.idle, this.rel, this.pn, this.po⟩) 1 rfl)
  have HE := Lib.hid hT
  clear h hT hp hs hpc
  go_enter Tryz.func59, Tryz.ntmps59
  go_wp2
  go_end0
  exact ⟨rfl, HE.out.1, lf_t HE.out.2⟩
set_option maxHeartbeats 1000000 in
theorem fl_fin2 {w : World} {L : Lp} {f : FL} {σ : Nat → Int} (h : LkM w L f σ) (k : Nat) (hk : k < f.s.n) (hs : σ k = 3) (hpc : f.pc k = 3) :
    Calls Tryz.prog 59 #[.pointer (some ⟨L.tb, k * 4, none⟩), .int .u32 0] w (FiPost w L { f with pc := upd f.pc k 3, nd := upd f.nd k (f.nd k), oth := upd f.oth k 0, tr := upd f.tr k (f.tr k) } (upd σ k 3)) := by
  obtain ⟨p, hp, t0, t1, t2, t3⟩ := h.raw.place4 hk
  rw [hpc] at t0
  have hT := h.turn0 (h.raw.set0 k 3 3 (f.nd k) 0 (f.tr k) (fun p hp => by rw [hs, hpc] at hp; exact ⟨hp.st, hp.pr, hp.nr, by omega, hp.tr0, hp.tr1, hp.tr2, hp.n0, hp.n1, fun q => by omega, fun _ q => by omega, hp.idle, hp.rel, hp.pn, hp.po⟩))
  have HE := Lib.hid hT
  clear h hT hp hs hpc
  go_enter Tryz.func59, Tryz.ntmps59
  go_wp2
  go_end0
  exact ⟨rfl, HE.out, Wrote.refl _ _⟩
theorem fl_finds {w : World} {L : Lp} {f : FL} {σ : Nat → Int} (h : LkM w L f σ) (k : Nat) (hk : k < f.s.n) (hs : σ k = 3) (x : Int) (hp : (f.pc k = 1 ∧ x = 2) ∨ (f.pc k = 3 ∧ x = 3)) (a : Int) (ha : 0 ≤ a ∧ a < 4294967296) :
    Calls Tryz.prog 59 #[.pointer (some ⟨L.tb, k * 4, none⟩), .int .u32 a] w (FiPost w L { f with pc := upd f.pc k (if a = 0 then x else 4), nd := upd f.nd k (f.nd k), oth := upd f.oth k a, tr := upd f.tr k (f.tr k) } (upd σ k 3)) := by
  by_cases hz : a = 0
  · subst hz
    rw [if_pos rfl]
    rcases hp with ⟨hp, rfl⟩ | ⟨hp, rfl⟩
    · exact fl_fin1 h k hk hs hp
    · exact fl_fin2 h k hk hs hp
  · rw [if_neg hz]; exact fl_fin0 h k hk hs a ha hz
end Go.Proofs.YtdhpmcafekpfhaaGreat
