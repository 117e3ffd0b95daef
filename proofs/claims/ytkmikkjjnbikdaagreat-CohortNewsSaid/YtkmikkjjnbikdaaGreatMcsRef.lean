/- The reference's MCS lock in the heap: its seats, rows of steps and of those ahead or behind; its port's accesses by their names. -/
import Derived.Test.YtkmikkjjnbikdaaGreatHomed
import Derived.Test.YtkmikkjjnbikdaaGreatSeatTwo
import Derived.Test.YtkmikkjjnbikdaaGreatPortSame
import Derived.BigRegion
namespace Go.Proofs.YtkmikkjjnbikdaaGreat.Kf
open Go.RowKit
set_option linter.unusedVariables false
set_option maxRecDepth 100000

section
variable {w : World} {base r bk : Nat} {so : Option Addr} {cap : Nat} {dv : Value} {s : PSta}
end

def rowA (n : Nat) (g : Nat → Value) : Array Value := ((List.range n).map g).toArray
theorem made_row (x : Value) (n : Nat) : madeCells #[x] (n * 1) = rowA n (fun _ => x) := by
  apply Array.ext'
  apply List.ext_getElem?
  intro m
  unfold madeCells rowA
  rw [Nat.mul_one]
  by_cases hm : m < n
  · rw [Array.toList_map, List.getElem?_map, Array.toList_range, List.getElem?_range hm, List.getElem?_map, List.getElem?_range hm]
    simp [Nat.mod_one]
  · rw [List.getElem?_eq_none (by simp; omega), List.getElem?_eq_none (by simp; omega)]
def pcV (p : Nat → Bool) (k : Nat) : Value := .int .i64 (b2i (p k))
def miV (m : Nat → Int) (k : Nat) : Value := .int .u32 (m k)
/-- where it lies: its struct, its seats, its rows; its word's address; its port's block; where its port's memory begins -/
structure Mp where
  r : Nat
  sr : Nat
  hv : Value
  dv : Value
  pc : Nat
  mn : Nat
  a : Int
  pr : Nat
  base : Nat
structure MlRaw (w : World) (M : Mp) (s : SS) (p : Nat → Bool) (mi : Nat → Int) : Prop where
  obj : w.heap[M.r]? = some (.cells #[.pointer (some ⟨M.sr, 0, none⟩), .int .i64 M.a, .slice (some ⟨M.pc, 0, none⟩) s.n s.n, .slice (some ⟨M.mn, 0, none⟩) s.n s.n] 159 (0, 0))
  seat : RsAt w M.sr M.hv M.dv s
  pcs : w.heap[M.pc]? = some (.cells (rowA s.n (pcV p)) 3 (0, 0))
  min : w.heap[M.mn]? = some (.cells (rowA s.n (miV mi)) 62 (0, 0))
  ne : M.r ≠ M.pc ∧ M.r ≠ M.mn ∧ M.pc ≠ M.mn
  off : ∀ k, SF M.sr M.hv M.dv k → k ≠ M.r ∧ k ≠ M.pc ∧ k ≠ M.mn
  low : M.r < M.base ∧ M.pc < M.base ∧ M.mn < M.base ∧ ∀ k, SF M.sr M.hv M.dv k → k < M.base
/-- the blocks that a call of it may turn -/
def MF (M : Mp) (k : Nat) : Prop := k = M.pc ∨ k = M.mn ∨ SF M.sr M.hv M.dv k
namespace MlRaw
variable {w w' : World} {M : Mp} {s s' : SS} {p : Nat → Bool} {mi : Nat → Int}
theorem wrote {S : Nat → Prop} (h : MlRaw w M s p mi) (k : Wrote S w w') (h1 : ¬ S M.r) (h2 : ¬ S M.pc) (h3 : ¬ S M.mn) (h4 : ∀ j, SF M.sr M.hv M.dv j → ¬ S j) : MlRaw w' M s p mi :=
  ⟨(k.block _ (blk_lt h.obj) h1).trans h.obj, h.seat.wrote k h4, (k.block _ (blk_lt h.pcs) h2).trans h.pcs, (k.block _ (blk_lt h.min) h3).trans h.min, h.ne, h.off, h.low⟩
theorem after (h : MlRaw w M s p mi) (k : Wrote Nil w w') : MlRaw w' M s p mi := h.wrote k id id id fun _ _ => id
theorem lt (h : MlRaw w M s p mi) {k : Nat} (hk : MF M k) : k < w.heap.size := by
  rcases hk with rfl | rfl | hk
  · exact blk_lt h.pcs
  · exact blk_lt h.min
  · exact SrAt.lt h.seat hk
end MlRaw
/-- the reference's lock is as a lock is: its steps say who has drawn, its numbers are theirs -/
structure MlAt (w : World) (M : Mp) (f : FL) : Prop where
  raw : ∃ mi, MlRaw w M f.s f.dr mi ∧ (∀ k, 0 ≤ mi k ∧ mi k < 4294967296) ∧ ∀ k, k < f.s.n → f.dr k = true → mi k = f.num k
theorem MlAt.after {w w' : World} {M : Mp} {f : FL} (h : MlAt w M f) (k : Wrote Nil w w') : MlAt w' M f := by
  obtain ⟨mi, h1, h2, h3⟩ := h.raw
  exact ⟨mi, h1.after k, h2, h3⟩

theorem mf_sf {M : Mp} {k : Nat} (h : SF M.sr M.hv M.dv k) : MF M k := .inr (.inr h)
theorem MlAt.apart {w w' : World} {M : Mp} {f : FL} {S : Nat → Prop} (h : MlAt w M f) (k : Wrote S w w') (h1 : ¬ S M.r) (h2 : ∀ j, MF M j → ¬ S j) : MlAt w' M f := by
  obtain ⟨mi, a, b, c⟩ := h.raw
  exact ⟨mi, a.wrote k h1 (h2 _ (.inl rfl)) (h2 _ (.inr (.inl rfl))) fun j hj => h2 j (mf_sf hj), b, c⟩
namespace Fm
variable {w X Y : World} {M : Mp} {bk : Nat} {dv : Value} {s s' : SS} {p : Nat → Bool} {mi : Nat → Int} {ps ps' : PSta} {R C : Nat} {d : Dd}
end Fm
end Go.Proofs.YtkmikkjjnbikdaaGreat.Kf
namespace Go.Proofs.YtkmikkjjnbikdaaGreat.Kc
open Go.RowKit
set_option linter.unusedVariables false
set_option maxRecDepth 100000

section
variable {w : World} {base r bk : Nat} {so : Option Addr} {cap : Nat} {dv : Value} {s : PSta}
end

def rowA (n : Nat) (g : Nat → Value) : Array Value := ((List.range n).map g).toArray
theorem made_row (x : Value) (n : Nat) : madeCells #[x] (n * 1) = rowA n (fun _ => x) := by
  apply Array.ext'
  apply List.ext_getElem?
  intro m
  unfold madeCells rowA
  rw [Nat.mul_one]
  by_cases hm : m < n
  · rw [Array.toList_map, List.getElem?_map, Array.toList_range, List.getElem?_range hm, List.getElem?_map, List.getElem?_range hm]
    simp [Nat.mod_one]
  · rw [List.getElem?_eq_none (by simp; omega), List.getElem?_eq_none (by simp; omega)]
def inV (m : Nat → Int) (k : Nat) : Value := .int .i64 (m k)
/-- where it lies: its struct, its seats, its rows (and how much room the nodes' has); its word's address; its port's block; where its port's memory begins -/
structure Mp where
  r : Nat
  sr : Nat
  hv : Value
  dv : Value
  pc : Nat
  nd : Nat
  nc : Nat
  ah : Nat
  a : Int
  pr : Nat
  base : Nat
structure MlRaw (w : World) (M : Mp) (s : SS) (p nd ah : Nat → Int) : Prop where
  obj : w.heap[M.r]? = some (.cells #[.pointer (some ⟨M.sr, 0, none⟩), .int .i64 M.a, .slice (some ⟨M.pc, 0, none⟩) s.n s.n, .slice (some ⟨M.nd, 0, none⟩) s.n M.nc, .slice (some ⟨M.ah, 0, none⟩) s.n s.n] 161 (0, 0))
  seat : RsAt w M.sr M.hv M.dv s
  pcs : w.heap[M.pc]? = some (.cells (rowA s.n (inV p)) 3 (0, 0))
  nds : ∃ A : Array Value, w.heap[M.nd]? = some (.cells A 3 (0, 0)) ∧ ∀ k, k < s.n → A[k]? = some (inV nd k)
  ahs : w.heap[M.ah]? = some (.cells (rowA s.n (inV ah)) 3 (0, 0))
  ne : M.r ≠ M.pc ∧ M.r ≠ M.nd ∧ M.r ≠ M.ah ∧ M.pc ≠ M.nd ∧ M.pc ≠ M.ah ∧ M.nd ≠ M.ah
  off : ∀ k, SF M.sr M.hv M.dv k → k ≠ M.r ∧ k ≠ M.pc ∧ k ≠ M.nd ∧ k ≠ M.ah
  low : M.r < M.base ∧ M.pc < M.base ∧ M.nd < M.base ∧ M.ah < M.base ∧ ∀ k, SF M.sr M.hv M.dv k → k < M.base
/-- the blocks that a call of it may turn -/
def MF (M : Mp) (k : Nat) : Prop := k = M.pc ∨ k = M.nd ∨ k = M.ah ∨ SF M.sr M.hv M.dv k
theorem mf_sf {M : Mp} {k : Nat} (h : SF M.sr M.hv M.dv k) : MF M k := .inr (.inr (.inr h))
namespace MlRaw
variable {w w' : World} {M : Mp} {s s' : SS} {p nd ah : Nat → Int}
theorem wrote {S : Nat → Prop} (h : MlRaw w M s p nd ah) (k : Wrote S w w') (h1 : ¬ S M.r) (h2 : ∀ j, MF M j → ¬ S j) : MlRaw w' M s p nd ah := by
  obtain ⟨A, hA, hn⟩ := h.nds
  exact ⟨(k.block _ (blk_lt h.obj) h1).trans h.obj, h.seat.wrote k fun j hj => h2 j (mf_sf hj), (k.block _ (blk_lt h.pcs) (h2 _ (.inl rfl))).trans h.pcs, ⟨A, (k.block _ (blk_lt hA) (h2 _ (.inr (.inl rfl)))).trans hA, hn⟩, (k.block _ (blk_lt h.ahs) (h2 _ (.inr (.inr (.inl rfl))))).trans h.ahs, h.ne, h.off, h.low⟩
theorem after (h : MlRaw w M s p nd ah) (k : Wrote Nil w w') : MlRaw w' M s p nd ah := h.wrote k id fun _ _ => id
theorem lt (h : MlRaw w M s p nd ah) {k : Nat} (hk : MF M k) : k < w.heap.size := by
  rcases hk with rfl | rfl | rfl | hk
  · exact blk_lt h.pcs
  · obtain ⟨A, hA, hq⟩ := h.nds; exact blk_lt hA
  · exact blk_lt h.ahs
  · exact SrAt.lt h.seat hk
end MlRaw
/-- the reference's lock is as a lock is: its steps and nodes are its, and the nodes ahead of those who have one -/
structure MlAt (w : World) (M : Mp) (f : FL) : Prop where
  raw : ∃ ah, MlRaw w M f.s f.pc f.node ah ∧ ∀ k, k < f.s.n → f.pc k = 2 → ah k = f.ahd k
theorem MlAt.after {w w' : World} {M : Mp} {f : FL} (h : MlAt w M f) (k : Wrote Nil w w') : MlAt w' M f := by
  obtain ⟨ah, h1, h2⟩ := h.raw
  exact ⟨ah, h1.after k, h2⟩
theorem MlAt.apart {w w' : World} {M : Mp} {f : FL} {S : Nat → Prop} (h : MlAt w M f) (k : Wrote S w w') (h1 : ¬ S M.r) (h2 : ∀ j, MF M j → ¬ S j) : MlAt w' M f := by
  obtain ⟨ah, a, b⟩ := h.raw
  exact ⟨ah, a.wrote k h1 h2, b⟩
namespace Fm
variable {w X Y : World} {M : Mp} {bk : Nat} {dv : Value} {s s' : SS} {p nd ah : Nat → Int} {ps ps' : PSta} {R C : Nat} {d : Dd}
end Fm
end Go.Proofs.YtkmikkjjnbikdaaGreat.Kc
namespace Go.Proofs.YtkmikkjjnbikdaaGreat.Km
open Go.RowKit
set_option linter.unusedVariables false
set_option maxRecDepth 100000

section
variable {w : World} {base r bk : Nat} {so : Option Addr} {cap : Nat} {dv : Value} {s : PSta}
end

def rowA (n : Nat) (g : Nat → Value) : Array Value := ((List.range n).map g).toArray
theorem made_row (x : Value) (n : Nat) : madeCells #[x] (n * 1) = rowA n (fun _ => x) := by
  apply Array.ext'
  apply List.ext_getElem?
  intro m
  unfold madeCells rowA
  rw [Nat.mul_one]
  by_cases hm : m < n
  · rw [Array.toList_map, List.getElem?_map, Array.toList_range, List.getElem?_range hm, List.getElem?_map, List.getElem?_range hm]
    simp [Nat.mod_one]
  · rw [List.getElem?_eq_none (by simp; omega), List.getElem?_eq_none (by simp; omega)]
def inV (m : Nat → Int) (k : Nat) : Value := .int .i64 (m k)
/-- where it lies: its struct, its seats, its rows; its words' address; its port's block; where its port's memory begins -/
structure Mp where
  r : Nat
  sr : Nat
  hv : Value
  dv : Value
  pc : Nat
  ot : Nat
  a : Int
  pr : Nat
  base : Nat
structure MlRaw (w : World) (M : Mp) (s : SS) (p o : Nat → Int) : Prop where
  obj : w.heap[M.r]? = some (.cells #[.pointer (some ⟨M.sr, 0, none⟩), .int .i64 M.a, .slice (some ⟨M.pc, 0, none⟩) s.n s.n, .slice (some ⟨M.ot, 0, none⟩) s.n s.n] 163 (0, 0))
  seat : RsAt w M.sr M.hv M.dv s
  pcs : w.heap[M.pc]? = some (.cells (rowA s.n (inV p)) 3 (0, 0))
  ots : w.heap[M.ot]? = some (.cells (rowA s.n (inV o)) 3 (0, 0))
  ne : M.r ≠ M.pc ∧ M.r ≠ M.ot ∧ M.pc ≠ M.ot
  off : ∀ k, SF M.sr M.hv M.dv k → k ≠ M.r ∧ k ≠ M.pc ∧ k ≠ M.ot
  low : M.r < M.base ∧ M.pc < M.base ∧ M.ot < M.base ∧ ∀ k, SF M.sr M.hv M.dv k → k < M.base
/-- the blocks that a call of it may turn -/
def MF (M : Mp) (k : Nat) : Prop := k = M.pc ∨ k = M.ot ∨ SF M.sr M.hv M.dv k
theorem mf_sf {M : Mp} {k : Nat} (h : SF M.sr M.hv M.dv k) : MF M k := .inr (.inr h)
namespace MlRaw
variable {w w' : World} {M : Mp} {s s' : SS} {p o : Nat → Int}
theorem wrote {S : Nat → Prop} (h : MlRaw w M s p o) (k : Wrote S w w') (h1 : ¬ S M.r) (h2 : ∀ j, MF M j → ¬ S j) : MlRaw w' M s p o :=
  ⟨(k.block _ (blk_lt h.obj) h1).trans h.obj, h.seat.wrote k fun j hj => h2 j (mf_sf hj), (k.block _ (blk_lt h.pcs) (h2 _ (.inl rfl))).trans h.pcs, (k.block _ (blk_lt h.ots) (h2 _ (.inr (.inl rfl)))).trans h.ots, h.ne, h.off, h.low⟩
theorem after (h : MlRaw w M s p o) (k : Wrote Nil w w') : MlRaw w' M s p o := h.wrote k id fun _ _ => id
theorem lt (h : MlRaw w M s p o) {k : Nat} (hk : MF M k) : k < w.heap.size := by
  rcases hk with rfl | rfl | hk
  · exact blk_lt h.pcs
  · exact blk_lt h.ots
  · exact SrAt.lt h.seat hk
end MlRaw

namespace Fm
variable {w X Y : World} {M : Mp} {bk : Nat} {dv : Value} {s s' : SS} {p o : Nat → Int} {ps ps' : PSta} {R C : Nat} {d : Dd}
end Fm
end Go.Proofs.YtkmikkjjnbikdaaGreat.Km
