/- When nobody is under way: no node is out. -/
import Derived.Test.YtdhpmcafekpfhaaAbortLaw
import Derived.Test.YtdhpmcafekpfhaaAbortTurn
namespace Go.Proofs.Ytdhpmcafekpfhaa
open Go.RowKit
set_option linter.unusedVariables false
set_option maxRecDepth 100000

theorem rowI_rng {n e : Nat} {t : Int} {x : Nat} (h : x ∈ (newPl n e).rowI t) : 1 ≤ x ∧ x ≤ n * e := by
  unfold PS.rowI at h
  split at h
  · rename_i ht
    have hT : t.toNat < n := by have : (newPl n e).T = n := rfl; omega
    rw [new_row hT, List.mem_map] at h
    obtain ⟨j, hj, rfl⟩ := h
    rw [List.mem_range] at hj
    have h1 := Nat.mul_le_mul_right e (show t.toNat + 1 ≤ n by omega)
    rw [Nat.succ_mul] at h1
    omega
  · simp at h
theorem isOut_of {f : FL} {L : Lp} (h2 : L.a2 = 1) {x : Nat} (h1 : 1 ≤ x) : f.isOut L x = decide (wO f.ps x ≠ 0) := by
  obtain ⟨i, rfl⟩ : ∃ i, x = i + 1 := ⟨x - 1, by omega⟩
  unfold FL.isOut
  rw [OrdJ.oAt h2, Int.toNat_natCast]
  rfl
theorem outs_zero {f : FL} {g : Option Nat} {Q : List Nat} {L : Lp} (ho : OrdJ f g Q) (h2 : L.a2 = 1) (hs : ∀ k, k < f.s.n → f.s.st k = 0) (t : Int) : f.outs L t = 0 := by
  unfold FL.outs
  rw [List.length_eq_zero_iff, List.filter_eq_nil_iff]
  intro x hx
  obtain ⟨r1, r2⟩ := rowI_rng hx
  rw [isOut_of h2 r1, (all_back ho hs).2 x r1 r2]
  simp
theorem cO_new (n ea t : Nat) (m : Nat) : cO (newF n ea t).ps m = 0 := by
  unfold cO
  rw [sumN_same (w := fun _ => 0) (fun k _ => by
    have : wO (newF n ea t).ps (k + 1) = 0 := zerosA_at (n * ea) _
    rw [this]; rfl), sumN_const]
  omega
end Go.Proofs.Ytdhpmcafekpfhaa
