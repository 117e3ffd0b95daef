/- What the contexts of a lock do: seats as a plain thing (of each context what it does, and the cell of its deadline), how they lie in the heap, what stores do to them; no walk. -/
import Derived.Test.YteokghghpmppnaaGreatDoorRecs
namespace Go.Proofs.YteokghghpmppnaaGreatDoor
open Go.RowKit
set_option linter.unusedVariables false
set_option maxRecDepth 100000

/-! ### plain -/
/-- seats: n contexts; of each what it does, and the cell of its deadline -/
structure SS where
  n : Nat
  timed : Bool
  probed : Bool
  st : Nat → Int
  dl : Nat → Int

/-- what a context does; Idle where there is none -/
def SS.stI (s : SS) (t : Int) : Int := if 0 ≤ t ∧ t < s.n then s.st t.toNat else 0
/-- the deadline of the call that is under way; -1: none -/
def SS.dlI (s : SS) (t : Int) : Int := if 0 ≤ t ∧ t < s.n then (if s.st t.toNat = 1 then s.dl t.toNat else -1) else -1
def SS.set (s : SS) (t : Nat) (x d : Int) : SS := { s with st := upd s.st t x, dl := upd s.dl t d }

def lockE (s : SS) (t d : Int) : Int := if (0 ≤ t ∧ t < s.n) ∧ (d = -1 ∨ (0 ≤ d ∧ s.timed = true)) then (if s.st t.toNat = 0 then 0 else 2) else 1
def SS.lock (s : SS) (t d : Int) : SS := if lockE s t d = 0 then s.set t.toNat 1 d else s
def turnE (s : SS) (t : Int) : Int := if 0 ≤ t ∧ t < s.n then (if s.st t.toNat = 0 then 3 else if s.st t.toNat = 2 then 0 else 2) else 1
def SS.turn (s : SS) (t x : Int) : SS := if turnE s t = 0 then s.set t.toNat x (s.dl t.toNat) else s
def probeE (s : SS) (t : Int) : Int := if s.probed = true then turnE s t else 1
def SS.probe (s : SS) (t : Int) : SS := if s.probed = true then s.turn t 4 else s
/-- what a context does behind an event, if that fits -/
def behindI (x ev : Int) : Option Int := if x = 1 ∧ ev = 1 then some 2 else if x = 1 ∧ (ev = 2 ∨ ev = 6) then some 0 else if x = 3 ∧ ev = 3 then some 0 else if x = 4 ∧ (ev = 4 ∨ ev = 5) then some 2 else none
def endO (s : SS) (t ev : Int) : Option Int := if 0 ≤ t ∧ t < s.n then behindI (s.st t.toNat) ev else none
def endB (s : SS) (t ev : Int) : Bool := (endO s t ev).isSome
def SS.fin (s : SS) (t ev : Int) : SS := match endO s t ev with
  | some y => s.set t.toNat y 0
  | none => s
def newSeat (n : Nat) (timed probed : Bool) : SS := ⟨n, timed, probed, fun _ => 0, fun _ => 0⟩

theorem SS.lock_n (s : SS) (t d : Int) : (s.lock t d).n = s.n := by unfold SS.lock; split <;> rfl
theorem SS.turn_n (s : SS) (t x : Int) : (s.turn t x).n = s.n := by unfold SS.turn; split <;> rfl
theorem SS.probe_n (s : SS) (t : Int) : (s.probe t).n = s.n := by unfold SS.probe; split; exact s.turn_n t 4; rfl
theorem SS.fin_n (s : SS) (t ev : Int) : (s.fin t ev).n = s.n := by unfold SS.fin; split <;> rfl

/-! ### in the heap -/
/-- the two cells of a context -/
def ctxC (s : SS) (t : Nat) : List Value := [.int .i64 (s.st t), .int .i64 (s.dl t)]
theorem ctxC_len (s : SS) : ∀ x, (ctxC s x).length = 2 := fun _ => rfl
def ctxs (s : SS) : List Value := (List.range s.n).flatMap (ctxC s)
theorem ctxs_len (s : SS) : (ctxs s).length = s.n * 2 := by unfold ctxs; rw [flat_len (ctxC_len s), List.length_range]
theorem ctxs_at (s : SS) {k : Nat} (hk : k < s.n) {j : Nat} (hj : j < 2) : (ctxs s)[k * 2 + j]? = (ctxC s k)[j]? := flat_at' (ctxC_len s) _ (by rw [List.getElem?_range hk]) hj

/-- seats in the heap: their struct's block p, their contexts' b -/
structure SeatAt (w : World) (p b : Nat) (s : SS) : Prop where
  obj : w.heap[p]? = some (.cells #[.slice (some ⟨b, 0, none⟩) s.n s.n, .bool s.timed, .bool s.probed] 154 (0, 0))
  ctx : w.heap[b]? = some (.cells (ctxs s).toArray 196 (0, 0))
  ne : p ≠ b
  n1 : 1 ≤ s.n
  n2 : s.n ≤ 64

namespace SeatAt
variable {w w' : World} {p b : Nat} {s : SS}
theorem wrote {S : Nat → Prop} (h : SeatAt w p b s) (k : Wrote S w w') (hp : ¬ S p) (hb : ¬ S b) : SeatAt w' p b s :=
  ⟨(k.block p (blk_lt h.obj) hp).trans h.obj, (k.block b (blk_lt h.ctx) hb).trans h.ctx, h.ne, h.n1, h.n2⟩
theorem after (h : SeatAt w p b s) (k : Wrote Nil w w') : SeatAt w' p b s := h.wrote k id id
theorem cell0 (h : SeatAt w p b s) : w.cell? ⟨p, 0, none⟩ = some (.slice (some ⟨b, 0, none⟩) s.n s.n) := by rw [blk_cell h.obj]; rfl
theorem cell1 (h : SeatAt w p b s) : w.cell? ⟨p, 1, none⟩ = some (.bool s.timed) := by rw [blk_cell h.obj]; rfl
theorem cell2 (h : SeatAt w p b s) : w.cell? ⟨p, 2, none⟩ = some (.bool s.probed) := by rw [blk_cell h.obj]; rfl
theorem st (h : SeatAt w p b s) {k : Nat} (hk : k < s.n) : w.cell? ⟨b, k * 2, none⟩ = some (.int .i64 (s.st k)) := by
  rw [blk_cell h.ctx, List.getElem?_toArray]
  exact ctxs_at s hk (j := 0) (by decide)
theorem dl (h : SeatAt w p b s) {k : Nat} (hk : k < s.n) : w.cell? ⟨b, k * 2 + 1, none⟩ = some (.int .i64 (s.dl k)) := by
  rw [blk_cell h.ctx, List.getElem?_toArray]
  exact ctxs_at s hk (j := 1) (by decide)
theorem frozen (h : SeatAt w p b s) (k : Nat) : w.frozen? ⟨b, k, none⟩ = false := blk_frozen h.ctx k

theorem set0 (h : SeatAt w p b s) {k : Nat} (hk : k < s.n) (x : Int) :
    SeatAt (w.setCell ⟨b, k * 2, none⟩ (.int .i64 x)) p b (s.set k x (s.dl k)) ∧ Wrote (One b) w (w.setCell ⟨b, k * 2, none⟩ (.int .i64 x)) := by
  have hW : Wrote (One b) w (w.setCell ⟨b, k * 2, none⟩ (.int .i64 x)) := (Wrote.refl _ w).setCell _ _ fun _ => rfl
  refine ⟨⟨(hW.block p (blk_lt h.obj) h.ne).trans h.obj, ?_, h.ne, h.n1, h.n2⟩, hW⟩
  rw [blk_setCell h.ctx, List.setIfInBounds_toArray]
  congr 3
  refine flat_set (ctxC_len s) (ctxC_len _) _ k 0 (by decide) _ fun i t ht l hl => ?_
  obtain ⟨_, rfl⟩ : i < s.n ∧ t = i := by
    have hi : i < s.n := by have := (List.getElem?_eq_some_iff.1 ht).1; simpa using this
    rw [List.getElem?_range hi] at ht
    exact ⟨hi, by simpa using ht.symm⟩
  have : l = 0 ∨ l = 1 := by omega
  rcases this with rfl | rfl
  · by_cases e : t = k
    · subst e; simp [ctxC, SS.set, upd_same]
    · simp [ctxC, SS.set, upd_other _ _ e, e]
  · by_cases e : t = k
    · subst e; simp [ctxC, SS.set, upd_same]
    · simp [ctxC, SS.set, upd_other _ _ e, e]
theorem set1 (h : SeatAt w p b s) {k : Nat} (hk : k < s.n) (d : Int) :
    SeatAt (w.setCell ⟨b, k * 2 + 1, none⟩ (.int .i64 d)) p b (s.set k (s.st k) d) ∧ Wrote (One b) w (w.setCell ⟨b, k * 2 + 1, none⟩ (.int .i64 d)) := by
  have hW : Wrote (One b) w (w.setCell ⟨b, k * 2 + 1, none⟩ (.int .i64 d)) := (Wrote.refl _ w).setCell _ _ fun _ => rfl
  refine ⟨⟨(hW.block p (blk_lt h.obj) h.ne).trans h.obj, ?_, h.ne, h.n1, h.n2⟩, hW⟩
  rw [blk_setCell h.ctx, List.setIfInBounds_toArray]
  congr 3
  refine flat_set (ctxC_len s) (ctxC_len _) _ k 1 (by decide) _ fun i t ht l hl => ?_
  obtain ⟨_, rfl⟩ : i < s.n ∧ t = i := by
    have hi : i < s.n := by have := (List.getElem?_eq_some_iff.1 ht).1; simpa using this
    rw [List.getElem?_range hi] at ht
    exact ⟨hi, by simpa using ht.symm⟩
  have : l = 0 ∨ l = 1 := by omega
  rcases this with rfl | rfl
  · by_cases e : t = k
    · subst e; simp [ctxC, SS.set, upd_same]
    · simp [ctxC, SS.set, upd_other _ _ e, e]
  · by_cases e : t = k
    · subst e; simp [ctxC, SS.set, upd_same]
    · simp [ctxC, SS.set, upd_other _ _ e, e]
/-- both cells of a context -/
theorem set2 (h : SeatAt w p b s) {k : Nat} (hk : k < s.n) (x d : Int) :
    SeatAt ((w.setCell ⟨b, k * 2, none⟩ (.int .i64 x)).setCell ⟨b, k * 2 + 1, none⟩ (.int .i64 d)) p b (s.set k x d) ∧ Wrote (One b) w ((w.setCell ⟨b, k * 2, none⟩ (.int .i64 x)).setCell ⟨b, k * 2 + 1, none⟩ (.int .i64 d)) := by
  obtain ⟨h1, hW1⟩ := h.set0 hk x
  obtain ⟨h2, hW2⟩ := h1.set1 (k := k) hk d
  refine ⟨?_, hW1.trans hW2 fun _ _ x => x⟩
  have e : (s.set k x (s.dl k)).set k ((s.set k x (s.dl k)).st k) d = s.set k x d := by
    unfold SS.set
    simp only [SS.mk.injEq, true_and]
    constructor
    · funext j; unfold upd; split <;> simp_all
    · funext j; unfold upd; split <;> simp_all
  rw [e] at h2
  exact h2
end SeatAt

/-- behind a call that may turn the contexts -/
def SeatPost (w : World) (p b : Nat) (s : SS) (r : Value) (e : Ending) (w' : World) : Prop := e = .returned r ∧ SeatAt w' p b s ∧ Wrote (One b) w w'
end Go.Proofs.YteokghghpmppnaaGreatDoor
