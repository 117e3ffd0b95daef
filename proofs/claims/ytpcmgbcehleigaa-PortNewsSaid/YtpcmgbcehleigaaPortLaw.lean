/- The contract of the document's example beside the laws on package port. -/
import Derived.Test.YtpcmgbcehleigaaPortNew
namespace Go.Proofs.Ytpcmgbcehleigaa
open Go.RowKit
set_option linter.unusedVariables false

def aw1 : PSta := { ws := [5], D := [(1, 0, true)], ac := [0, 1], wc := [0, 1], mc := [0, 1] }
theorem aw_new : newS 2 [5] = { ws := [5], D := [], ac := [0, 0], wc := [0, 0], mc := [0, 0] } := rfl
theorem aw_cas : doS { ws := [5], D := [], ac := [0, 0], wc := [0, 0], mc := [0, 0] } 1 4 0 4 6 = aw1 := rfl
theorem aw_cas' : (okT { ws := [5], D := [], ac := [0, 0], wc := [0, 0], mc := [0, 0] } 1 0 && casB [5] 0 4) = false := rfl
theorem aw_wr : cntI aw1.wc 1 = 1 := rfl
theorem aw_ms : cntI aw1.mc 1 = 1 := rfl
theorem aw_ld : tellS aw1 0 1 0 = 5 := rfl

set_option maxRecDepth 100000 in
set_option maxHeartbeats 2000000 in
theorem awake_any (w : World) :
    Calls Try.prog 7 #[] w fun e w' => e = .returned (.bool true) ∧ Wrote Nil w w' := by
  have r1 : RowAt .i64 ((w.alloc (.cells #[.int .i64 0] 3)).alloc (.cells #[.int .u32 5] 32)) (some ⟨w.heap.size, 0, none⟩) 1 [0] := (row_one rfl).after ((Wrote.refl Nil _).alloc _)
  have r2 : RowAt .u32 ((w.alloc (.cells #[.int .i64 0] 3)).alloc (.cells #[.int .u32 5] 32)) (some ⟨w.heap.size + 1, 0, none⟩) 1 [5] := row_one (by rw [Go.Deep.nblk_alloc])
  have cN : Calls Try.prog 8 #[.int .i64 2, .slice (some ⟨w.heap.size, 0, none⟩) 1 1, .slice (some ⟨w.heap.size + 1, 0, none⟩) 1 1] ((w.alloc (.cells #[.int .i64 0] 3)).alloc (.cells #[.int .u32 5] 32)) (NewPortPost w [0] (newS 2 [5])) := pnew_good (w0 := w) (c1 := 1) (c2 := 1) (n := 2) (((Wrote.refl Nil w).alloc _).alloc _) r1 r2 (by intro j; rcases j with _ | j <;> simp) (by decide) (by decide) (by decide) (by decide)
  rw [aw_new] at cN
  clear r1 r2
  go_enter Try.func7, Try.ntmps7
  go_wp2_with (first
    | (go_at_call 8; with_reducible refine cN.mono ?_; intro e w1 h1; unfold NewPortPost at h1; obtain ⟨q, rfl, hP1, k0, k3, hW1⟩ := h1)
    | (go_at_call 14; have c := pcas_any hP1 1 0 4 6 (by decide) (by decide) (by decide); rw [aw_cas, aw_cas'] at c; with_reducible refine c.mono ?_; intro e w2 h2; unfold AccPost at h2; obtain ⟨rfl, hP2, hW2⟩ := h2)
    | (go_at_call 23; have c := pwrites_any hP2 1; rw [aw_wr] at c; with_reducible refine c.mono ?_; rintro e w3 ⟨rfl, rfl⟩)
    | (go_at_call 24; have c := pmisses_any hP2 1; rw [aw_ms] at c; with_reducible refine c.mono ?_; rintro e w3 ⟨rfl, rfl⟩)
    | (go_at_call 11; have c := pload_any hP2 0 0 (by decide); rw [aw_ld] at c; with_reducible refine c.mono ?_; intro e w4 h4; unfold AccPost at h4; obtain ⟨rfl, hP4, hW4⟩ := h4))
  go_ret
  have hn : ∀ k, k < w.heap.size → Rng q.k0 q.k3 k → Nil k := fun k hk h => absurd h.1 (by omega)
  exact ⟨rfl, (hW1.trans hW2 hn).trans hW4 hn⟩
end Go.Proofs.Ytpcmgbcehleigaa
