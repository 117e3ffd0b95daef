/- The contract of seat.New: new seats are all Idle; numbers that may not be are refused. -/
import Derived.Test.YteokghghpmppnaaGreatDoorSeatDo
import Derived.BigRegion
namespace Go.Proofs.YteokghghpmppnaaGreatDoor
open Go.RowKit
set_option linter.unusedVariables false
set_option maxRecDepth 100000

theorem sinfo_ctx : (Tryz.prog.info? 196).map (fun i => (i.zero, i.size, i.bytes)) = some (some (.agg #[.int .i64 0, .int .i64 0]), 2, 16) := by kernel_rfl

def NewSeatPost (w : World) (n : Nat) (timed probed : Bool) (e : Ending) (w' : World) : Prop :=
  ∃ p b, e = .returned (.tuple #[.pointer (some ⟨p, 0, none⟩), .int .i64 0]) ∧ SeatAt w' p b (newSeat n timed probed) ∧ w.heap.size ≤ p ∧ w.heap.size ≤ b ∧ Wrote Nil w w'

theorem se_new_no (n : Int) (timed probed : Bool) (h : n < 1 ∨ 64 < n) (w : World) :
    Calls Tryz.prog 43 #[.int .i64 n, .bool timed, .bool probed] w fun e w' => e = .returned (.tuple #[.pointer none, .int .i64 1]) ∧ w = w' := by
  by_cases h1 : n < 1
  · go_enter Tryz.func43, Tryz.ntmps43
    go_wp2
    go_ret2
    exact ⟨rfl, rfl⟩
  have h2 : 64 < n := by omega
  go_enter Tryz.func43, Tryz.ntmps43
  go_wp2
  go_ret2
  exact ⟨rfl, rfl⟩

theorem made_ctx (n : Nat) (timed probed : Bool) : madeCells (Value.agg #[.int .i64 0, .int .i64 0]).cells (n * 2) = (ctxs (newSeat n timed probed)).toArray := by
  apply Array.ext'
  show (madeCells (#[.int .i64 0, .int .i64 0] : Array Value) (n * 2)).toList = ctxs (newSeat n timed probed)
  apply List.ext_getElem?
  intro m
  by_cases hm : m < n * 2
  · have ha : m / 2 < n := by omega
    have e : m = m / 2 * 2 + m % 2 := by omega
    have h2 := ctxs_at (newSeat n timed probed) (k := m / 2) ha (j := m % 2) (Nat.mod_lt _ (by decide))
    rw [← e] at h2
    rw [h2]
    unfold madeCells
    rw [Array.toList_map, List.getElem?_map, Array.toList_range, List.getElem?_range hm]
    have : m % 2 = 0 ∨ m % 2 = 1 := by omega
    rcases this with h | h <;> simp [h, ctxC, newSeat]
  · rw [List.getElem?_eq_none (by simp [madeCells]; omega), List.getElem?_eq_none (by rw [ctxs_len]; show n * 2 ≤ m; omega)]

theorem se_new (n : Nat) (timed probed : Bool) (h1 : 1 ≤ n) (h2 : n ≤ 64) (w : World) :
    Calls Tryz.prog 43 #[.int .i64 (n : Int), .bool timed, .bool probed] w (NewSeatPost w n timed probed) := by
  obtain ⟨i0, hi, hz0, hz1, hz2⟩ := info_parts sinfo_ctx
  have hmk : ∀ w : World, (Instr.makeSlice 152 (.int .i64 (n : Int)) (.int .i64 (n : Int))).run Tryz.prog w = .ok (.slice (some ⟨w.heap.size, 0, none⟩) n n) (w.alloc (.cells (ctxs (newSeat n timed probed)).toArray 196)) := by
    intro w
    have h := Go.run_make (P := Tryz.prog) w 152 196 i0 _ Tryz.underlying152 hi hz0 .i64 .i64 n n (by omega) (by omega) (by rw [hz2]; omega) (by omega)
    rw [hz1] at h
    simp only [Int.toNat_natCast] at h
    rw [made_ctx n timed probed] at h
    exact h
  have k1 : ¬ (n : Int) < 1 := by omega
  have k2 : ¬ (64 : Int) < n := by omega
  generalize hA : (ctxs (newSeat n timed probed)).toArray = A at hmk
  have HA := Lib.hid hA
  clear hA
  go_enter Tryz.func43, Tryz.ntmps43
  go_wp2
  go_ret2
  obtain rfl := HA.out
  have hs : (w.alloc (.cells (ctxs (newSeat n timed probed)).toArray 196)).heap.size = w.heap.size + 1 := Go.Deep.nblk_alloc _ _
  have hb := Go.Deep.blk_alloc_new (w.alloc (.cells (ctxs (newSeat n timed probed)).toArray 196)) (.cells #[.slice (some ⟨w.heap.size, 0, none⟩) n n, .bool timed, .bool probed] 154)
  rw [hs] at hb
  refine ⟨w.heap.size + 1, w.heap.size, rfl, ⟨hb, ?_, by omega, h1, h2⟩, by omega, Nat.le_refl _, ((Wrote.refl Nil w).alloc _).alloc _⟩
  rw [Go.Deep.blk_alloc_lt _ _ _ (by rw [hs]; omega), Go.Deep.blk_alloc_new]

/-! ### the document's example -/
/-- seats that were made behind a world -/
structure SeatSince (w wr : World) (p b : Nat) (s : SS) : Prop where
  at_ : SeatAt wr p b s
  p : w.heap.size ≤ p
  b : w.heap.size ≤ b
  wrote : Wrote Nil w wr
theorem SeatSince.step {w wr w' : World} {p b : Nat} {s s' : SS} {r : Value} {e : Ending} (h : SeatSince w wr p b s) (k : SeatPost wr p b s' r e w') : SeatSince w w' p b s' :=
  ⟨k.2.1, h.p, h.b, h.wrote.one k.2.2 h.b⟩
theorem SeatSince.keep {w wr w' : World} {p b : Nat} {s : SS} (h : SeatSince w wr p b s) (k : Wrote Nil wr w') : SeatSince w w' p b s :=
  ⟨h.at_.after k, h.p, h.b, h.wrote.nil k⟩
def SincePost (w : World) (p b : Nat) (s : SS) (r : Value) (e : Ending) (w' : World) : Prop := e = .returned r ∧ SeatSince w w' p b s
section
variable {w wr : World} {p b : Nat} {s : SS}
theorem si_lock (h : SeatSince w wr p b s) (t d : Int) : Calls Tryz.prog 99 #[.pointer (some ⟨p, 0, none⟩), .int .i64 t, .int .i64 d] wr (SincePost w p b (s.lock t d) (.int .i64 (lockE s t d))) :=
  (se_lock h.at_ t d).mono fun e w' k => ⟨k.1, h.step k⟩
theorem si_unlock (h : SeatSince w wr p b s) (t : Int) : Calls Tryz.prog 103 #[.pointer (some ⟨p, 0, none⟩), .int .i64 t] wr (SincePost w p b (s.turn t 3) (.int .i64 (turnE s t))) :=
  (se_unlock h.at_ t).mono fun e w' k => ⟨k.1, h.step k⟩
theorem si_probe (h : SeatSince w wr p b s) (t : Int) : Calls Tryz.prog 100 #[.pointer (some ⟨p, 0, none⟩), .int .i64 t] wr (SincePost w p b (s.probe t) (.int .i64 (probeE s t))) :=
  (se_probe h.at_ t).mono fun e w' k => ⟨k.1, h.step k⟩
theorem si_end (h : SeatSince w wr p b s) (t ev : Int) : Calls Tryz.prog 112 #[.pointer (some ⟨p, 0, none⟩), .int .i64 t, .int .i64 ev] wr (SincePost w p b (s.fin t ev) (.bool (endB s t ev))) :=
  (se_end h.at_ t ev).mono fun e w' k => ⟨k.1, h.step k⟩
def SinceNew (w : World) (n : Nat) (timed probed : Bool) (e : Ending) (w' : World) : Prop := ∃ p b, e = .returned (.tuple #[.pointer (some ⟨p, 0, none⟩), .int .i64 0]) ∧ SeatSince w w' p b (newSeat n timed probed)
theorem si_new (n : Nat) (timed probed : Bool) (h1 : 1 ≤ n) (h2 : n ≤ 64) (w : World) : Calls Tryz.prog 43 #[.int .i64 (n : Int), .bool timed, .bool probed] w (SinceNew w n timed probed) :=
  (se_new n timed probed h1 h2 w).mono fun e w' ⟨p, b, he, hS, h1, h2, hW⟩ => ⟨p, b, he, hS, h1, h2, hW⟩
end
end Go.Proofs.YteokghghpmppnaaGreatDoor
