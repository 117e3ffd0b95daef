/- A law's row of eight deadlines beside a lock. -/
import Derived.Test.YtdhpmcafekpfhaaAbortLaw
import Derived.Test.YtdhpmcafekpfhaaAbortLate
import Derived.Test.YtdhpmcafekpfhaaLockOrd
namespace Go.Proofs.Ytdhpmcafekpfhaa
open Go.RowKit Go.BigFrame
set_option linter.unusedVariables false
set_option maxRecDepth 100000

def dlV (x : Int) : Value := .int .i64 x
def dl8 (g : Nat → Int) : Array Value := ((List.range 8).map fun k => dlV (g k)).toArray
theorem dl8_at (g : Nat → Int) {k : Nat} (hk : k < 8) : (dl8 g)[k]? = some (dlV (g k)) := by
  unfold dl8
  rw [List.getElem?_toArray, List.getElem?_map, List.getElem?_range hk]
  rfl
theorem dl8_set (g : Nat → Int) (k : Nat) (v : Int) : (dl8 g).setIfInBounds k (dlV v) = dl8 (upd g k v) := by
  unfold dl8
  rw [List.setIfInBounds_toArray]
  congr 1
  apply List.ext_getElem?
  intro m
  rw [List.getElem?_set, List.getElem?_map, List.getElem?_map]
  by_cases hm : m < 8
  · rw [List.getElem?_range hm]
    by_cases e : k = m
    · subst e
      rw [if_pos rfl, if_pos (by simpa using hm)]
      show _ = some (dlV (upd g k v k))
      rw [upd_same]
    · rw [if_neg e]
      show some (dlV (g m)) = some (dlV (upd g k v m))
      rw [upd_other _ _ (fun x => e x.symm)]
  · have e0 : (List.range 8)[m]? = none := List.getElem?_eq_none (by simp; omega)
    rw [e0]
    by_cases e : k = m
    · subst e; rw [if_pos rfl, if_neg (by simpa using hm)]; rfl
    · rw [if_neg e]; rfl
/-- a lock, the deadlines that were asked for in block A, a call's copy in block B -/
structure LtS (w0 w : World) (L : Lp) (f : FL) (A : Nat) (g : Nat → Int) : Prop where
  ls : LkS w0 w L f
  arr : w.heap[A]? = some (.cells (dl8 g) 30 (0, 0))
  far : L.q.k3 ≤ A
namespace LtS
variable {w0 w w' : World} {L : Lp} {f f' : FL} {A : Nat} {g : Nat → Int}
theorem after (h : LtS w0 w L f A g) (k : Wrote Nil w w') : LtS w0 w' L f A g := ⟨h.ls.after k, (k.block _ (blk_lt h.arr) id).trans h.arr, h.far⟩
theorem call (h : LtS w0 w L f A g) (hl : LkS w0 w' L f') (k : Wrote (Low L) w w') : LtS w0 w' L f' A g :=
  ⟨hl, (k.block _ (blk_lt h.arr) fun e => by have := h.far; unfold Low at e; omega).trans h.arr, h.far⟩
theorem set (h : LtS w0 w L f A g) (k : Nat) (v : Int) : LtS w0 (w.setCell ⟨A, k, none⟩ (.int .i64 v)) L f A (upd g k v) := by
  have hW : Wrote (One A) w (w.setCell ⟨A, k, none⟩ (.int .i64 v)) := (Wrote.refl _ w).setCell _ _ fun _ => rfl
  refine ⟨h.ls.apart hW fun b e => by cases e; exact h.far, ?_, h.far⟩
  rw [blk_setCell h.arr, ← dl8_set]
  rfl
theorem cell (h : LtS w0 w L f A g) {k : Nat} (hk : k < 8) : w.cell? ⟨A, k, none⟩ = some (.int .i64 (g k)) := by rw [blk_cell h.arr, dl8_at g hk]; rfl
theorem frz (h : LtS w0 w L f A g) (k : Nat) : w.frozen? ⟨A, k, none⟩ = false := blk_frozen h.arr k
end LtS
/-- between two calls -/
def LtSt (w0 wr : World) (L : Lp) (A k : Nat) (nw : Int) : Prop := ∃ (f : FL) (W : List Nat) (g : Nat → Int), LtS w0 wr L f A g ∧ OrdI f W ∧ LtI f nw g ∧ f.ps.D.length ≤ k
theorem lockE_0 {s : SS} {t d : Int} (h : lockE s t d = 0) : 0 ≤ t ∧ t < s.n := by
  unfold lockE at h
  split at h
  · rename_i q; exact q.1
  · exact absurd h (by decide)
theorem lockE_12 {s : SS} {t d : Int} (h : lockE s t d ≠ 0) : lockE s t d = 1 ∨ lockE s t d = 2 := by
  unfold lockE at h ⊢
  repeat' split at h
  all_goals first | exact absurd rfl h | (rw [if_pos (by assumption), if_neg (by assumption)]; exact .inr rfl) | (rw [if_neg (by assumption)]; exact .inl rfl)
theorem lt_new (n ea : Nat) : LtI (newF n ea n) 0 (fun _ => 0) := ⟨fun t _ q => absurd (show (0 : Int) = 1 from q) (by decide), fun t => ⟨by show (1 : Int) ≤ 1; decide, by show (1 : Int) ≤ 8; decide⟩, fun t _ q => absurd (show (1 : Int) = 8 from q) (by decide)⟩
end Go.Proofs.Ytdhpmcafekpfhaa
