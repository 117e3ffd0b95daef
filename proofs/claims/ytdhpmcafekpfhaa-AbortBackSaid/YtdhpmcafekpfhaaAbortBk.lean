/- All come to their ends: what is so between the rounds. -/
import Derived.Test.YtdhpmcafekpfhaaAbortZero
import Derived.Test.YtdhpmcafekpfhaaLockOrd
namespace Go.Proofs.Ytdhpmcafekpfhaa
open Go.RowKit
set_option linter.unusedVariables false
set_option maxRecDepth 100000

theorem step_n (f : FL) (L : Lp) (t u x : Int) : (f.step L t u x).s.n = f.s.n := f.s.fin_n _ _
/-- between two calls -/
def BkSt (w0 wr : World) (L : Lp) (n k : Nat) : Prop := ∃ (f : FL) (g : Option Nat) (Q : List Nat), LkS w0 wr L f ∧ OrdJ f g Q ∧ f.s.n = n ∧ f.ps.D.length ≤ k
/-- between two rounds -/
def BkRd (w0 wr : World) (L : Lp) (n r : Nat) : Prop := ∃ (f : FL) (g : Option Nat) (Q : List Nat), LkS w0 wr L f ∧ OrdJ f g Q ∧ f.s.n = n ∧ f.ps.D.length ≤ 150 + 64 * r ∧ todo f zeroL + r ≤ 700
/-- amid a round, behind j's turns, c of them Idle -/
def BkTn (w0 wr : World) (L : Lp) (n r : Nat) (nw : Int) (j c : Nat) : Prop := ∃ (f : FL) (g : Option Nat) (Q : List Nat), LkS w0 wr L f ∧ OrdJ f g Q ∧ f.s.n = n ∧ f.ps.D.length ≤ 150 + 64 * r + j ∧ c ≤ j ∧ (c = j ↔ ∀ k, k < j → f.s.st k = 0) ∧
  (todo f zeroL + 1 + r ≤ 700 ∨ (todo f zeroL + r ≤ 700 ∧ ∀ k, k < j → f.s.st k = 0 ∨ HaltT f nw k))
theorem BkRd.turn {w0 wr : World} {L : Lp} {n r : Nat} {nw : Int} (h : BkRd w0 wr L n r) : BkTn w0 wr L n r nw 0 0 := by
  obtain ⟨f, g, Q, h1, h2, h3, h4, h5⟩ := h
  exact ⟨f, g, Q, h1, h2, h3, by omega, Nat.le_refl _, ⟨fun _ k hk => by omega, fun _ => rfl⟩, .inr ⟨h5, fun k hk => by omega⟩⟩
theorem bk_next {w0 wy : World} {L : Lp} {n r j : Nat} {nw : Int} {f f' : FL} {g' : Option Nat} {Q' : List Nat} (ho : OrdJ f' g' Q') (hn' : f'.s.n = f.s.n) (hD' : f'.ps.D.length ≤ f.ps.D.length + 1) (hs : ∀ k, k ≠ j → f'.s.st k = f.s.st k)
    (hq : todo f' zeroL + 1 ≤ todo f zeroL ∨ (todo f' zeroL = todo f zeroL ∧ (f'.s.st j = 0 ∨ HaltT f' nw j) ∧ ∀ k, (f.s.st k = 0 ∨ HaltT f nw k) → (f'.s.st k = 0 ∨ HaltT f' nw k)))
    (hn : f.s.n = n) (hD : f.ps.D.length ≤ 150 + 64 * r + j) (hw : todo f zeroL + 1 + r ≤ 700 ∨ (todo f zeroL + r ≤ 700 ∧ ∀ k, k < j → f.s.st k = 0 ∨ HaltT f nw k)) {c : Nat} (hc : c ≤ j + 1 ∧ (c = j + 1 ↔ ∀ k, k < j + 1 → f'.s.st k = 0)) (hL : LkS w0 wy L f') : BkTn w0 wy L n r nw (j + 1) c := by
  refine ⟨f', g', Q', hL, ho, hn'.trans hn, by omega, hc.1, hc.2, ?_⟩
  rcases hq with q | ⟨q, q1, q2⟩
  · exact .inl (by rcases hw with a | ⟨a, _⟩ <;> omega)
  · rcases hw with a | ⟨a, b⟩
    · exact .inl (by omega)
    · refine .inr ⟨by omega, fun k hk => ?_⟩
      by_cases e : k = j
      · subst e; exact q1
      · exact q2 k (b k (by omega))
/-- how many are Idle, behind one more -/
theorem cnt_next {f f' : FL} {j c : Nat} (hs : ∀ k, k ≠ j → f'.s.st k = f.s.st k) (hc : c ≤ j) (hcj : c = j ↔ ∀ k, k < j → f.s.st k = 0) :
    (f'.s.st j = 0 → c + 1 ≤ j + 1 ∧ (c + 1 = j + 1 ↔ ∀ k, k < j + 1 → f'.s.st k = 0)) ∧ (f'.s.st j ≠ 0 → c ≤ j + 1 ∧ (c = j + 1 ↔ ∀ k, k < j + 1 → f'.s.st k = 0)) := by
  refine ⟨fun h0 => ⟨by omega, fun q k hk => ?_, fun q => ?_⟩, fun h0 => ⟨by omega, fun q => by omega, fun q => absurd (q j (Nat.lt_succ_self j)) h0⟩⟩
  · by_cases e : k = j
    · subst e; exact h0
    · rw [hs k e]; exact hcj.1 (by omega) k (by omega)
  · have := hcj.2 fun k hk => by rw [← hs k (by omega)]; exact q k (by omega)
    omega
end Go.Proofs.Ytdhpmcafekpfhaa
