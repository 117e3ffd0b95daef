/- A row of numbers that a law keeps beside a lock of locks. -/
import Derived.Test.YtkmikkjjnbikdaaGreatCohortLaw
import Derived.Test.YtkmikkjjnbikdaaGreatCohortRow
import Derived.Test.YtkmikkjjnbikdaaGreatRow8
namespace Go.Proofs.YtkmikkjjnbikdaaGreat
open Go.RowKit Go.BigFrame
set_option linter.unusedVariables false
set_option maxRecDepth 100000

theorem right_B {G K B : Int} (h : rightB G K B = true) : 1 ≤ B ∧ B ≤ 1000 := by
  unfold rightB at h
  simp only [Bool.and_eq_true, decide_eq_true_eq] at h
  exact ⟨h.1.2, h.2⟩
theorem ls_old {w0 w1 w : World} {L : Lp} {f : FL} (k : Wrote Nil w0 w1) (h : LkS w1 w L f) : LkS w0 w L f := ⟨h.lk, Nat.le_trans k.size h.low, k.nil h.wr⟩
structure RdC (w0 w : World) (L : Lp) (f : FL) (R : List Nat) (qv : Value) : Prop where
  ls : LkS w0 w L f
  q : RowQ w qv (R.map natV)
  low : ∀ k, qv.ownBlock = some k → L.q.k3 ≤ k
namespace RdC
variable {w0 w w' : World} {L : Lp} {f f' : FL} {R : List Nat} {qv : Value}
theorem after (h : RdC w0 w L f R qv) (k : Wrote Nil w w') : RdC w0 w' L f R qv := ⟨h.ls.after k, h.q.wrote k fun _ _ => id, h.low⟩
theorem call (h : RdC w0 w L f R qv) (hl : LkS w0 w' L f') (k : Wrote (Low L) w w') : RdC w0 w' L f' R qv := ⟨hl, h.q.wrote k fun j hj e => by have := h.low j hj; unfold Low at e; omega, h.low⟩
theorem empty (h : LkS w0 w L f) : RdC w0 w L f [] (.slice none 0 0) := ⟨h, RowQ.nil w, fun k hk => by cases hk⟩
theorem push (h : RdC w0 w L f R qv) {k : Nat} {v' : Value} (hp : PushQ w w' qv v' (R.map natV) (natV k)) : RdC w0 w' L f (R ++ [k]) v' := by
  obtain ⟨h1, h2, h3⟩ := hp
  refine ⟨h.ls.apart h2 fun b hb => h.low b hb, by rw [List.map_append]; exact h1, fun j hj => ?_⟩
  rcases h3 with e | e
  · exact h.low j (e ▸ hj)
  · exact Nat.le_trans h.ls.lk.lk.top (e j hj)
theorem cut {k g off n cap : Nat} {ao : Option Addr} (h : RdC w0 w L f (k :: R) (.slice (some ⟨g, off, none⟩) n cap)) (ha : ao = some ⟨g, off, none⟩ ∧ cap = 1 ∨ ao = some ⟨g, off + 1, none⟩) : RdC w0 w L f R (.slice ao (n - 1) (cap - 1)) := by
  refine ⟨h.ls, h.q.cut ha, fun j hj => ?_⟩
  have hg := h.low g rfl
  rcases ha with ⟨rfl, _⟩ | rfl
  · have e : g = j := by simpa [Value.ownBlock] using hj
    omega
  · have e : g = j := by simpa [Value.ownBlock] using hj
    omega
end RdC
/-- the calls that came, as they lie in the memory that was there -/
def OpsAt (w0 : World) (so : Option Addr) (n : Nat) (z : Nat → Nat → Int) : Prop := n = 0 ∨ ∃ b o, so = some ⟨b, o, none⟩ ∧ ∀ i, i < n → ∀ j, j < 4 → w0.cell? ⟨b, o + (i * 4 + j), none⟩ = some (.int .i64 (z i j))
end Go.Proofs.YtkmikkjjnbikdaaGreat
