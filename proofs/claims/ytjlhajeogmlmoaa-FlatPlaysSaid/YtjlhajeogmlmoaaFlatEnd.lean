/- The contract of a ticket lock's Step. -/
import Derived.Test.YtjlhajeogmlmoaaFlatStep
import Derived.WalkLawsBesides
import Derived.Outline
import Derived.Deep.QuietTactic
import Derived.Deep.RegionHeld3
import Derived.BigQuiet
import Derived.BigFrame
import Derived.Handy
import Derived.OpenShut
import Derived.Lib.Walk
import Derived.WalkKit
import Derived.Lib.Hide
namespace Go.Proofs.Ytjlhajeogmlmoaa
open Go.RowKit Go.BigFrame
set_option linter.unusedVariables false
set_option maxRecDepth 100000


theorem FL.mid_n (f : FL) (L : Lp) (t u : Int) : (f.mid L t u).s.n = f.s.n := by rw [f.mid_s]
/-- what a step told, laid in a variable -/
structure Fd (w : World) (B : Nat) (X : World) (L : Lp) (f : FL) (C : Nat) (d : Dd) : Prop where
  fr : Fr w B X L f
  did : X.heap[C]? = some (.cells (didC d) 60 (0, 0))
  far : w.heap.size ≤ C
theorem Fr.lay {w Y : World} {B : Nat} {L : Lp} {f : FL} (h : Fr w B Y L f) (d : Dd) :
    Fd w B (Y.alloc (.cells #[.int .i64 d.ev, .bool d.enq, .bool d.arr, .bool d.lead] 60)) L f Y.heap.size d :=
  ⟨h.after ((Wrote.refl _ Y).alloc _), Go.Deep.blk_alloc_new Y _, h.wr.size⟩
theorem Fd.cell {w X : World} {B C : Nat} {L : Lp} {f : FL} {d : Dd} (h : Fd w B X L f C d) : X.cell? ⟨C, 0, none⟩ = some (.int .i64 d.ev) ∧ X.cell? ⟨C, 1, none⟩ = some (.bool d.enq) ∧ X.cell? ⟨C, 2, none⟩ = some (.bool d.arr) ∧ X.cell? ⟨C, 3, none⟩ = some (.bool d.lead) := by
  rw [blk_cell h.did, blk_cell h.did, blk_cell h.did, blk_cell h.did]; exact ⟨rfl, rfl, rfl, rfl⟩
theorem Fd.drew {w X : World} {B C : Nat} {L : Lp} {f : FL} {d : Dd} (h : Fd w B X L f C d) : Fd w B X.drew L f C d := ⟨h.fr.drew, h.did, h.far⟩
theorem Fd.ends {w X Y : World} {B C : Nat} {L : Lp} {f g : FL} {d : Dd} (h0 : LkAt w L f) (h : Fd w B X L g C d) {s' : SS} (hS : SeatAt Y L.p L.b s') (hn : s'.n = g.s.n) (k : Wrote (One L.b) X Y) : Fd w B Y L { g with s := s' } C d :=
  ⟨Fr.call h0 h.fr (h.fr.lk.seats hS hn k) (lf_b k), (k.block C (blk_lt h.did) (fun e => by have := h0.lf_lt (.inl e); have := h.far; omega)).trans h.did, h.far⟩

set_option maxHeartbeats 4000000 in
theorem fl_step {w : World} {L : Lp} {f : FL} (h : LkAt w L f) (t u x : Int) (hD : f.ps.D.length < 4611686018427387904) :
    Calls Try.prog 21 #[.pointer (some ⟨L.lb, 0, none⟩), .int .i64 t, .int .i64 u, .int .i64 x] w (LkPost w L (f.step L t u) (f.did L t u).val) := by
  have hF := Fr.start h
  have cM := fl_mid hF.lk t u hD
  have hs : (f.mid L t u).s = f.s := f.mid_s L t u
  unfold FL.step
  generalize f.mid L t u = g at *
  generalize f.did L t u = d at *
  have HE := Lib.hid (And.intro h (And.intro hF hs))
  clear h hF hs
  go_enter Try.func21, Try.ntmps21
  go_wp2_with (first
    | (go_at_call 34; with_reducible refine cM.mono ?_; intro e w2 hq; unfold LkPost at hq; obtain ⟨rfl, hA, hW⟩ := hq; dsimp only [Dd.val]; have hA3 := Fr.call HE.out.1 HE.out.2.1 hA hW; have hX := hA3.lay d; clear hA hA3 hW))
  obtain ⟨X, hXe⟩ : ∃ X, X = w2.alloc (.cells #[.int .i64 d.ev, .bool d.enq, .bool d.arr, .bool d.lead] 60) := ⟨_, rfl⟩
  obtain ⟨C, hC⟩ : ∃ C, C = w2.heap.size := ⟨_, rfl⟩
  rw [← hXe, ← hC] at hX
  rw [← hXe, ← hC]
  clear hXe hC
  have c0 := hX.fr.lk.raw.cell0
  have y0 := hX.cell.1
  have cE := se_end hX.drew.fr.lk.raw.seat t d.ev
  have HX := Lib.hid hX
  clear hX
  go_region_held3 (fun w' => w'.cell? ⟨L.lb, 0, none⟩ = some (.pointer (some ⟨L.p, 0, none⟩)) ∧ w'.cell? ⟨C, 0, none⟩ = some (.int .i64 d.ev)) (first | exact ⟨c0, y0⟩ | exact ⟨c0', e0⟩) (first | (go_at_call 35; (with_reducible refine cE.mono ?_); intro e w3 hq; unfold SeatPost at hq; obtain ⟨rfl, hS, hW⟩ := hq; have hY := HX.out.drew.ends HE.out.1 hS (SS.fin_n _ _ _) hW; have c0' := hY.fr.lk.raw.cell0; obtain ⟨e0, e1, e2, e3⟩ := hY.cell; obtain ⟨v0, v1, v2, v3⟩ := hY.fr.cell; obtain ⟨x0, x1, x2, x3⟩ := hY.fr.frz; have HT := Lib.hid hY; clear hY hS hW))
  go_wp2
  rw [← HE.out.2.2]
  refine bodyPost_ret (v := Dd.val d) (results_cell_row rfl _ _ w.heap.size 60 _ (0, 0) _ rfl (set4 HT.out.fr.res rfl _ _ _ _) Try.underlying60 rfl i_did) rfl (HT.out.fr.told HE.out.1 d)
end Go.Proofs.Ytjlhajeogmlmoaa
