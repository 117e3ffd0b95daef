/- What Node answers. -/
import Derived.Test.YteacdcdjdbobnaaGreatHierLaw
namespace Go.Proofs.YteacdcdjdbobnaaGreat
open Go.RowKit Go.BigFrame
set_option linter.unusedVariables false
set_option maxRecDepth 100000

/-- what Node answers -/
def FL.nodeI (f : FL) (t : Int) : Int := if 0 ≤ t ∧ t < f.s.n then f.nd t.toNat else -1
theorem nd_raw {w : World} {L : Lp} {pv : Value} {s : SS} {σ : Nat → Int} {A : Nat → Ab} (h : FlRaw w L pv s σ A) (t : Int) :
    Calls Tryz.prog 13 #[.pointer (some ⟨L.lb, 0, none⟩), .int .i64 t] w fun e w' => e = .returned (.int .i64 (if 0 ≤ t ∧ t < s.n then (A t.toNat).nd else -1)) ∧ w = w' := by
  have c3 := h.cell3
  have hn := h.seat.n2
  by_cases h0 : t < 0
  · rw [if_neg (by omega)]
    clear h
    go_enter Tryz.func13, Tryz.ntmps13
    go_wp2
    go_ret
    exact ⟨rfl, rfl⟩
  · obtain ⟨k, rfl⟩ := Int.eq_ofNat_of_zero_le (show 0 ≤ t by omega)
    by_cases h1 : k < s.n
    · rw [if_pos (by omega), Int.toNat_natCast]
      obtain ⟨p, hp, _, t1, _⟩ := h.place6 h1
      have b := hp.nd.2
      generalize (A k).nd = y at *
      have w2 : IntKind.i64.wrap y = y := by rw [IntKind.wrap_i64]; omega
      generalize s.n = n at *
      have hkI : (k : Int) < n := by omega
      clear h hp b
      go_enter Tryz.func13, Tryz.ntmps13
      go_wp2
      go_ret
      exact ⟨rfl, rfl⟩
    · rw [if_neg (by omega)]
      generalize s.n = n at *
      have hkI : (n : Int) ≤ k := by omega
      clear h
      go_enter Tryz.func13, Tryz.ntmps13
      go_wp2
      go_ret
      exact ⟨rfl, rfl⟩
theorem ls_node {w0 w : World} {L : Lp} {f : FL} (h : LkS w0 w L f) (t : Int) : Calls Tryz.prog 13 #[.pointer (some ⟨L.lb, 0, none⟩), .int .i64 t] w fun e w' => e = .returned (.int .i64 (f.nodeI t)) ∧ w = w' := nd_raw h.lk.raw t
end Go.Proofs.YteacdcdjdbobnaaGreat
