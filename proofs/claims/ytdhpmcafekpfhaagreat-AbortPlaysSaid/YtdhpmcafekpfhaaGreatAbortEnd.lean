/- The contract of an abortable lock's Step. -/
import Derived.Test.YtdhpmcafekpfhaaGreatAbortStep
import Derived.WalkLawsBesides
import Derived.Outline
import Derived.Deep.QuietTactic
import Derived.Deep.RegionHeld3
import Derived.BigQuiet
import Derived.BigFrame
import Derived.Handy
import Derived.OpenShut
import Derived.Lib.Walk
import Derived.WalkKit
import Derived.Lib.Hide
namespace Go.Proofs.YtdhpmcafekpfhaaGreat
open Go.RowKit Go.BigFrame
set_option linter.unusedVariables false
set_option maxRecDepth 100000

set_option maxHeartbeats 4000000 in
theorem fl_step {w : World} {L : Lp} {f : FL} (h : LkAt w L f) (t u x : Int) (hD : f.ps.D.length < 4611686018427387904) :
    Calls Tryz.prog 14 #[.pointer (some ⟨L.lb, 0, none⟩), .int .i64 t, .int .i64 u, .int .i64 x] w (LkPost w L (f.step L t u x) (f.did L t u x).val) := by
  obtain ⟨V, hV⟩ : ∃ V, V = (w.alloc (.cells #[.pointer (some ⟨L.lb, 0, none⟩)] 26)).alloc (.cells #[.int .i64 x] 3) := ⟨_, rfl⟩
  have hWV : Wrote Nil w V := by rw [hV]; exact ((Wrote.refl _ w).alloc _).alloc _
  have sV : V.heap.size = w.heap.size + 1 + 1 := by rw [hV, Go.Deep.nblk_alloc, Go.Deep.nblk_alloc]
  have hF := Fr.start (h.after hWV)
  obtain ⟨Z, hZ⟩ : ∃ Z, Z = V.alloc (.cells #[.int .i64 0, .bool false, .bool false, .bool false] 52) := ⟨_, rfl⟩
  rw [← hZ] at hF
  have hWZ : Wrote Nil V Z := by rw [hZ]; exact (Wrote.refl _ _).alloc _
  have e1 : (w.alloc (.cells #[.pointer (some ⟨L.lb, 0, none⟩)] 26)).heap.size = w.heap.size + 1 := Go.Deep.nblk_alloc _ _
  have bP : V.heap[w.heap.size]? = some (.cells #[.pointer (some ⟨L.lb, 0, none⟩)] 26 (0, 0)) := by rw [hV, Go.Deep.blk_alloc_lt _ _ _ (by rw [e1]; omega), Go.Deep.blk_alloc_new]
  have bN : V.heap[w.heap.size + 1]? = some (.cells #[.int .i64 x] 3 (0, 0)) := by rw [hV, ← e1, Go.Deep.blk_alloc_new]
  have q0 : Z.cell? ⟨w.heap.size, 0, none⟩ = some (.pointer (some ⟨L.lb, 0, none⟩)) := hWZ.cell ((blk_cell bP 0).trans rfl) id
  have q1 : Z.cell? ⟨w.heap.size + 1, 0, none⟩ = some (.int .i64 x) := hWZ.cell ((blk_cell bN 0).trans rfl) id
  have cM := hs_step hF.drew.lk t u x hD (P := w.heap.size) (N := w.heap.size + 1) q0 q1
  have c0 : Z.drew.cell? ⟨L.lb, 0, none⟩ = some (.pointer (some ⟨L.p, 0, none⟩)) := hF.lk.raw.cell0
  have Q0 : Z.drew.cell? ⟨w.heap.size, 0, none⟩ = some (.pointer (some ⟨L.lb, 0, none⟩)) := q0
  have QP : RowKit.Hid (∀ (X Y : World), Wrote (LF L) V Y → Y.cell? ⟨w.heap.size, 0, none⟩ = some (.pointer (some ⟨L.lb, 0, none⟩))) := Lib.hid (fun _ Y k => k.cell ((blk_cell bP 0).trans rfl) fun e => absurd (h.lf_lt e) (Nat.lt_irrefl _))
  rw [sV] at hF
  generalize f.step L t u x = g at *
  generalize f.did L t u x = d at *
  have HE := Lib.hid (And.intro h (And.intro hF (And.intro hWV (And.intro bP (And.intro sV hWZ)))))
  clear h hF e1 bP bN hWV q0 q1 sV hWZ
  go_enter Tryz.func14, Tryz.ntmps14
  go_wp2
  rw [← hV, ← hZ]
  clear hV hZ
  go_region_held3 (fun w' => w'.cell? ⟨L.lb, 0, none⟩ = some (.pointer (some ⟨L.p, 0, none⟩)) ∧ w'.cell? ⟨w.heap.size, 0, none⟩ = some (.pointer (some ⟨L.lb, 0, none⟩))) (first | with_reducible exact ⟨d0, D0⟩ | with_reducible exact ⟨r0, R0⟩ | exact ⟨c0, Q0⟩) (first
    | (go_at_call 30; (with_reducible refine cM.mono ?_); intro e w2 hq; unfold LmPost at hq; obtain ⟨rfl, hA, hW⟩ := hq; dsimp only [Dd.val]; have hA3 := Fr.call (HE.out.1.after HE.out.2.2.1) HE.out.2.1.drew hA hW; obtain ⟨v0, v1, v2, v3⟩ := hA3.cell; obtain ⟨x0, x1, x2, x3⟩ := hA3.frz; have hC := (hA3.told (HE.out.1.after HE.out.2.2.1) d).2.1; have d0 := hA3.lk.raw.cell0; have r0 := hC.raw.cell0; have D0 := QP.out w2 _ hA3.wr; have R0 := QP.out w2 _ (hA3.told (HE.out.1.after HE.out.2.2.1) d).2.2; have HT := Lib.hid hA3; clear hA hA3 hW hC))
  go_wp2
  refine bodyPost_ret (v := Dd.val d) (results_cell_row rfl _ _ (w.heap.size + 1 + 1) 52 _ (0, 0) _ rfl (set4 HT.out.res rfl _ _ _ _) Tryz.underlying52 rfl i_did) rfl ?_
  obtain ⟨e1, e2, e3⟩ := HT.out.told (HE.out.1.after HE.out.2.2.1) d
  exact ⟨e1, e2, (lf_nil HE.out.2.2.1).trans e3 fun _ _ e => e⟩
end Go.Proofs.YtdhpmcafekpfhaaGreat
