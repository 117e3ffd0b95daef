/- The contract of seat.New: new seats are all Idle; numbers that may not be are refused. -/
import Derived.Test.YtkmikkjjnbikdaaGreatRecs
import Derived.Test.YtkmikkjjnbikdaaGreatRows
import Derived.WalkLawsBesides
import Derived.Outline
import Derived.Deep.QuietTactic
import Derived.Handy
import Derived.OpenShut
import Derived.Lib.Walk
import Derived.WalkKit
import Derived.Lib.Hide
import Derived.BigRegion
namespace Go.Proofs.YtkmikkjjnbikdaaGreat
open Go.RowKit
set_option linter.unusedVariables false
set_option maxRecDepth 100000

/-! ### plain -/
/-- seats: n contexts; of each what it does, and the cell of its deadline -/
structure SS where
  n : Nat
  timed : Bool
  probed : Bool
  st : Nat → Int
  dl : Nat → Int

/-- what a context does; Idle where there is none -/
def SS.stI (s : SS) (t : Int) : Int := if 0 ≤ t ∧ t < s.n then s.st t.toNat else 0
/-- the deadline of the call that is under way; -1: none -/
def SS.dlI (s : SS) (t : Int) : Int := if 0 ≤ t ∧ t < s.n then (if s.st t.toNat = 1 then s.dl t.toNat else -1) else -1
def SS.set (s : SS) (t : Nat) (x d : Int) : SS := { s with st := upd s.st t x, dl := upd s.dl t d }

def lockE (s : SS) (t d : Int) : Int := if (0 ≤ t ∧ t < s.n) ∧ (d = -1 ∨ (0 ≤ d ∧ s.timed = true)) then (if s.st t.toNat = 0 then 0 else 2) else 1
def SS.lock (s : SS) (t d : Int) : SS := if lockE s t d = 0 then s.set t.toNat 1 d else s
def turnE (s : SS) (t : Int) : Int := if 0 ≤ t ∧ t < s.n then (if s.st t.toNat = 0 then 3 else if s.st t.toNat = 2 then 0 else 2) else 1
def SS.turn (s : SS) (t x : Int) : SS := if turnE s t = 0 then s.set t.toNat x (s.dl t.toNat) else s
def probeE (s : SS) (t : Int) : Int := if s.probed = true then turnE s t else 1
def SS.probe (s : SS) (t : Int) : SS := if s.probed = true then s.turn t 4 else s
/-- what a context does behind an event, if that fits -/
def behindI (x ev : Int) : Option Int := if x = 1 ∧ ev = 1 then some 2 else if x = 1 ∧ (ev = 2 ∨ ev = 6) then some 0 else if x = 3 ∧ ev = 3 then some 0 else if x = 4 ∧ (ev = 4 ∨ ev = 5) then some 2 else none
def endO (s : SS) (t ev : Int) : Option Int := if 0 ≤ t ∧ t < s.n then behindI (s.st t.toNat) ev else none
def endB (s : SS) (t ev : Int) : Bool := (endO s t ev).isSome
def SS.fin (s : SS) (t ev : Int) : SS := match endO s t ev with
  | some y => s.set t.toNat y 0
  | none => s
def newSeat (n : Nat) (timed probed : Bool) : SS := ⟨n, timed, probed, fun _ => 0, fun _ => 0⟩

theorem SS.lock_n (s : SS) (t d : Int) : (s.lock t d).n = s.n := by unfold SS.lock; split <;> rfl
theorem SS.turn_n (s : SS) (t x : Int) : (s.turn t x).n = s.n := by unfold SS.turn; split <;> rfl
theorem SS.probe_n (s : SS) (t : Int) : (s.probe t).n = s.n := by unfold SS.probe; split; exact s.turn_n t 4; rfl
theorem SS.fin_n (s : SS) (t ev : Int) : (s.fin t ev).n = s.n := by unfold SS.fin; split <;> rfl

/-! ### in the heap -/
/-- the two cells of a context -/
def ctxC (s : SS) (t : Nat) : List Value := [.int .i64 (s.st t), .int .i64 (s.dl t)]
theorem ctxC_len (s : SS) : ∀ x, (ctxC s x).length = 2 := fun _ => rfl
def ctxs (s : SS) : List Value := (List.range s.n).flatMap (ctxC s)
theorem ctxs_len (s : SS) : (ctxs s).length = s.n * 2 := by unfold ctxs; rw [flat_len (ctxC_len s), List.length_range]
theorem ctxs_at (s : SS) {k : Nat} (hk : k < s.n) {j : Nat} (hj : j < 2) : (ctxs s)[k * 2 + j]? = (ctxC s k)[j]? := flat_at' (ctxC_len s) _ (by rw [List.getElem?_range hk]) hj

/-- seats in the heap: their struct's block p, their contexts' b -/
structure SeatAt (w : World) (p b : Nat) (s : SS) : Prop where
  obj : w.heap[p]? = some (.cells #[.slice (some ⟨b, 0, none⟩) s.n s.n, .bool s.timed, .bool s.probed] 123 (0, 0))
  ctx : w.heap[b]? = some (.cells (ctxs s).toArray 109 (0, 0))
  ne : p ≠ b
  n1 : 1 ≤ s.n
  n2 : s.n ≤ 64

namespace SeatAt
variable {w w' : World} {p b : Nat} {s : SS}
theorem wrote {S : Nat → Prop} (h : SeatAt w p b s) (k : Wrote S w w') (hp : ¬ S p) (hb : ¬ S b) : SeatAt w' p b s :=
  ⟨(k.block p (blk_lt h.obj) hp).trans h.obj, (k.block b (blk_lt h.ctx) hb).trans h.ctx, h.ne, h.n1, h.n2⟩
theorem after (h : SeatAt w p b s) (k : Wrote Nil w w') : SeatAt w' p b s := h.wrote k id id
theorem cell0 (h : SeatAt w p b s) : w.cell? ⟨p, 0, none⟩ = some (.slice (some ⟨b, 0, none⟩) s.n s.n) := by rw [blk_cell h.obj]; rfl
theorem cell1 (h : SeatAt w p b s) : w.cell? ⟨p, 1, none⟩ = some (.bool s.timed) := by rw [blk_cell h.obj]; rfl
theorem cell2 (h : SeatAt w p b s) : w.cell? ⟨p, 2, none⟩ = some (.bool s.probed) := by rw [blk_cell h.obj]; rfl
theorem st (h : SeatAt w p b s) {k : Nat} (hk : k < s.n) : w.cell? ⟨b, k * 2, none⟩ = some (.int .i64 (s.st k)) := by
  rw [blk_cell h.ctx, List.getElem?_toArray]
  exact ctxs_at s hk (j := 0) (by decide)
theorem dl (h : SeatAt w p b s) {k : Nat} (hk : k < s.n) : w.cell? ⟨b, k * 2 + 1, none⟩ = some (.int .i64 (s.dl k)) := by
  rw [blk_cell h.ctx, List.getElem?_toArray]
  exact ctxs_at s hk (j := 1) (by decide)
theorem frozen (h : SeatAt w p b s) (k : Nat) : w.frozen? ⟨b, k, none⟩ = false := blk_frozen h.ctx k

theorem set0 (h : SeatAt w p b s) {k : Nat} (hk : k < s.n) (x : Int) :
    SeatAt (w.setCell ⟨b, k * 2, none⟩ (.int .i64 x)) p b (s.set k x (s.dl k)) ∧ Wrote (One b) w (w.setCell ⟨b, k * 2, none⟩ (.int .i64 x)) := by
  have hW : Wrote (One b) w (w.setCell ⟨b, k * 2, none⟩ (.int .i64 x)) := (Wrote.refl _ w).setCell _ _ fun _ => rfl
  refine ⟨⟨(hW.block p (blk_lt h.obj) h.ne).trans h.obj, ?_, h.ne, h.n1, h.n2⟩, hW⟩
  rw [blk_setCell h.ctx, List.setIfInBounds_toArray]
  congr 3
  refine flat_set (ctxC_len s) (ctxC_len _) _ k 0 (by decide) _ fun i t ht l hl => ?_
  obtain ⟨_, rfl⟩ : i < s.n ∧ t = i := by
    have hi : i < s.n := by have := (List.getElem?_eq_some_iff.1 ht).1; simpa using this
    rw [List.getElem?_range hi] at ht
    exact ⟨hi, by simpa using ht.symm⟩
  have : l = 0 ∨ l = 1 := by omega
  rcases this with rfl | rfl
  · by_cases e : t = k
    · subst e; simp [ctxC, SS.set, upd_same]
    · simp [ctxC, SS.set, upd_other _ _ e, e]
  · by_cases e : t = k
    · subst e; simp [ctxC, SS.set, upd_same]
    · simp [ctxC, SS.set, upd_other _ _ e, e]
theorem set1 (h : SeatAt w p b s) {k : Nat} (hk : k < s.n) (d : Int) :
    SeatAt (w.setCell ⟨b, k * 2 + 1, none⟩ (.int .i64 d)) p b (s.set k (s.st k) d) ∧ Wrote (One b) w (w.setCell ⟨b, k * 2 + 1, none⟩ (.int .i64 d)) := by
  have hW : Wrote (One b) w (w.setCell ⟨b, k * 2 + 1, none⟩ (.int .i64 d)) := (Wrote.refl _ w).setCell _ _ fun _ => rfl
  refine ⟨⟨(hW.block p (blk_lt h.obj) h.ne).trans h.obj, ?_, h.ne, h.n1, h.n2⟩, hW⟩
  rw [blk_setCell h.ctx, List.setIfInBounds_toArray]
  congr 3
  refine flat_set (ctxC_len s) (ctxC_len _) _ k 1 (by decide) _ fun i t ht l hl => ?_
  obtain ⟨_, rfl⟩ : i < s.n ∧ t = i := by
    have hi : i < s.n := by have := (List.getElem?_eq_some_iff.1 ht).1; simpa using this
    rw [List.getElem?_range hi] at ht
    exact ⟨hi, by simpa using ht.symm⟩
  have : l = 0 ∨ l = 1 := by omega
  rcases this with rfl | rfl
  · by_cases e : t = k
    · subst e; simp [ctxC, SS.set, upd_same]
    · simp [ctxC, SS.set, upd_other _ _ e, e]
  · by_cases e : t = k
    · subst e; simp [ctxC, SS.set, upd_same]
    · simp [ctxC, SS.set, upd_other _ _ e, e]
/-- both cells of a context -/
theorem set2 (h : SeatAt w p b s) {k : Nat} (hk : k < s.n) (x d : Int) :
    SeatAt ((w.setCell ⟨b, k * 2, none⟩ (.int .i64 x)).setCell ⟨b, k * 2 + 1, none⟩ (.int .i64 d)) p b (s.set k x d) ∧ Wrote (One b) w ((w.setCell ⟨b, k * 2, none⟩ (.int .i64 x)).setCell ⟨b, k * 2 + 1, none⟩ (.int .i64 d)) := by
  obtain ⟨h1, hW1⟩ := h.set0 hk x
  obtain ⟨h2, hW2⟩ := h1.set1 (k := k) hk d
  refine ⟨?_, hW1.trans hW2 fun _ _ x => x⟩
  have e : (s.set k x (s.dl k)).set k ((s.set k x (s.dl k)).st k) d = s.set k x d := by
    unfold SS.set
    simp only [SS.mk.injEq, true_and]
    constructor
    · funext j; unfold upd; split <;> simp_all
    · funext j; unfold upd; split <;> simp_all
  rw [e] at h2
  exact h2
end SeatAt

/-- behind a call that may turn the contexts -/
def SeatPost (w : World) (p b : Nat) (s : SS) (r : Value) (e : Ending) (w' : World) : Prop := e = .returned r ∧ SeatAt w' p b s ∧ Wrote (One b) w w'
end Go.Proofs.YtkmikkjjnbikdaaGreat
namespace Go.Proofs.YtkmikkjjnbikdaaGreat
open Go.RowKit
set_option linter.unusedVariables false
set_option maxRecDepth 100000

theorem se_ctx {w : World} {p b : Nat} {s : SS} (h : SeatAt w p b s) (k : Nat) (hk : k < s.n) :
    Calls Tryz.prog 39 #[.pointer (some ⟨p, 0, none⟩), .int .i64 (k : Int)] w fun e w' => e = .returned (.pointer (some ⟨b, k * 2, none⟩)) ∧ w = w' := by
  have c0 := h.cell0
  have h1 : ¬ ((k : Int) < 0) := by omega
  have h2 : ¬ ((s.n : Int) ≤ (k : Int)) := by omega
  have hn := h.n2
  clear h
  generalize s.n = n at *
  go_enter Tryz.func39, Tryz.ntmps39
  go_wp2
  go_ret
  exact ⟨rfl, rfl⟩
theorem se_ctx_no {w : World} {p b : Nat} {s : SS} (h : SeatAt w p b s) (t : Int) (ht : ¬ (0 ≤ t ∧ t < s.n)) :
    Calls Tryz.prog 39 #[.pointer (some ⟨p, 0, none⟩), .int .i64 t] w fun e w' => e = .returned (.pointer none) ∧ w = w' := by
  have c0 := h.cell0
  have hn := h.n2
  clear h
  generalize s.n = n at *
  by_cases h1 : t < 0
  · go_enter Tryz.func39, Tryz.ntmps39
    go_wp2
    go_ret
    exact ⟨rfl, rfl⟩
  · have h2 : ((n : Int) ≤ t) := by omega
    clear ht
    go_enter Tryz.func39, Tryz.ntmps39
    go_wp2
    go_ret
    exact ⟨rfl, rfl⟩

def takesB (s : SS) (d : Int) : Bool := decide (d = -1 ∨ (0 ≤ d ∧ s.timed = true))
theorem se_takes {w : World} {p b : Nat} {s : SS} (h : SeatAt w p b s) (d : Int) :
    Calls Tryz.prog 40 #[.pointer (some ⟨p, 0, none⟩), .int .i64 d] w fun e w' => e = .returned (.bool (takesB s d)) ∧ w = w' := by
  have c1 := h.cell1
  clear h
  unfold takesB
  generalize s.timed = b at *
  by_cases h1 : d = -1
  · subst h1
    go_enter Tryz.func40, Tryz.ntmps40
    go_wp2
    go_ret
    exact ⟨by simp, rfl⟩
  · have h1b : (d == (-1 : Int)) = false := beq_false_of_ne h1
    by_cases h2 : 0 ≤ d
    · go_enter Tryz.func40, Tryz.ntmps40
      go_wp2
      go_ret
      exact ⟨by simp [h1, h2], rfl⟩
    · go_enter Tryz.func40, Tryz.ntmps40
      go_wp2
      go_ret
      exact ⟨by simp only []; simp; omega, rfl⟩

theorem se_len {w : World} {p b : Nat} {s : SS} (h : SeatAt w p b s) :
    Calls Tryz.prog 27 #[.pointer (some ⟨p, 0, none⟩)] w fun e w' => e = .returned (.int .i64 (s.n : Nat)) ∧ w = w' := by
  have c0 := h.cell0
  clear h
  go_enter Tryz.func27, Tryz.ntmps27
  go_wp2
  go_ret
  exact ⟨rfl, rfl⟩

theorem se_state {w : World} {p b : Nat} {s : SS} (h : SeatAt w p b s) (t : Int) :
    Calls Tryz.prog 21 #[.pointer (some ⟨p, 0, none⟩), .int .i64 t] w fun e w' => e = .returned (.int .i64 (s.stI t)) ∧ w = w' := by
  by_cases ht : 0 ≤ t ∧ t < s.n
  · rw [show s.stI t = s.st t.toNat from if_pos ht]
    obtain ⟨k, rfl⟩ := Int.eq_ofNat_of_zero_le ht.1
    have hk : k < s.n := by omega
    have c := se_ctx h k hk
    have c1 := h.st hk
    rw [Int.toNat_natCast]
    generalize s.st k = x at *
    clear h
    go_enter Tryz.func21, Tryz.ntmps21
    go_wp2_with (go_at_call 39; with_reducible refine c.mono ?_; rintro e w' ⟨rfl, rfl⟩)
    go_ret
    exact ⟨rfl, rfl⟩
  · rw [show s.stI t = 0 from if_neg ht]
    have c := se_ctx_no h t ht
    clear h
    go_enter Tryz.func21, Tryz.ntmps21
    go_wp2_with (go_at_call 39; with_reducible refine c.mono ?_; rintro e w' ⟨rfl, rfl⟩)
    go_ret
    exact ⟨rfl, rfl⟩

/-! ### Lock -/
theorem se_lock {w : World} {p b : Nat} {s : SS} (h : SeatAt w p b s) (t d : Int) :
    Calls Tryz.prog 18 #[.pointer (some ⟨p, 0, none⟩), .int .i64 t, .int .i64 d] w (SeatPost w p b (s.lock t d) (.int .i64 (lockE s t d))) := by
  have cT := se_takes h d
  by_cases ht : 0 ≤ t ∧ t < s.n
  · obtain ⟨k, rfl⟩ := Int.eq_ofNat_of_zero_le ht.1
    have hk : k < s.n := by omega
    have c := se_ctx h k hk
    have c1 := h.st hk
    have f0 := h.frozen (k * 2)
    have f1 := h.frozen (k * 2 + 1)
    have c3 := h.dl hk
    obtain ⟨hS, hW⟩ := h.set2 hk 1 d
    by_cases hT : takesB s d = true
    · rw [hT] at cT
      have hT' : d = -1 ∨ (0 ≤ d ∧ s.timed = true) := by simpa [takesB] using hT
      by_cases hx : s.st k = 0
      · have e0 : lockE s (k : Int) d = 0 := by unfold lockE; rw [if_pos ⟨ht, hT'⟩, Int.toNat_natCast, if_pos hx]
        have e1 : s.lock (k : Int) d = s.set k 1 d := by unfold SS.lock; rw [if_pos e0, Int.toNat_natCast]
        rw [e0, e1]
        rw [hx] at c1
        have HE := Lib.hid (And.intro hS hW)
        clear h hS hW hT hT' e0 e1
        go_enter Tryz.func18, Tryz.ntmps18
        go_wp2_with (first
          | (go_at_call 39; with_reducible refine c.mono ?_; rintro e w' ⟨rfl, rfl⟩)
          | (go_at_call 40; with_reducible refine cT.mono ?_; rintro e w' ⟨rfl, rfl⟩))
        go_ret
        exact ⟨rfl, HE.out.1, HE.out.2⟩
      · have e0 : lockE s (k : Int) d = 2 := by unfold lockE; rw [if_pos ⟨ht, hT'⟩, Int.toNat_natCast, if_neg hx]
        have e1 : s.lock (k : Int) d = s := by unfold SS.lock; rw [if_neg (by rw [e0]; decide)]
        rw [e0, e1]
        have HE := Lib.hid h
        generalize s.st k = x at *
        clear h hS hW hT hT' e0 e1
        go_enter Tryz.func18, Tryz.ntmps18
        go_wp2_with (first
          | (go_at_call 39; with_reducible refine c.mono ?_; rintro e w' ⟨rfl, rfl⟩)
          | (go_at_call 40; with_reducible refine cT.mono ?_; rintro e w' ⟨rfl, rfl⟩))
        go_ret
        exact ⟨rfl, HE.out, Wrote.refl _ _⟩
    · have hT2 : takesB s d = false := by simpa using hT
      rw [hT2] at cT
      have hT' : ¬ (d = -1 ∨ (0 ≤ d ∧ s.timed = true)) := by simpa [takesB] using hT
      have e0 : lockE s (k : Int) d = 1 := by unfold lockE; rw [if_neg (fun x => hT' x.2)]
      have e1 : s.lock (k : Int) d = s := by unfold SS.lock; rw [if_neg (by rw [e0]; decide)]
      rw [e0, e1]
      have HE := Lib.hid h
      clear h hS hW hT hT' hT2 e0 e1
      go_enter Tryz.func18, Tryz.ntmps18
      go_wp2_with (first
        | (go_at_call 39; with_reducible refine c.mono ?_; rintro e w' ⟨rfl, rfl⟩)
        | (go_at_call 40; with_reducible refine cT.mono ?_; rintro e w' ⟨rfl, rfl⟩))
      go_ret
      exact ⟨rfl, HE.out, Wrote.refl _ _⟩
  · have c := se_ctx_no h t ht
    have e0 : lockE s t d = 1 := by unfold lockE; rw [if_neg (fun x => ht x.1)]
    have e1 : s.lock t d = s := by unfold SS.lock; rw [if_neg (by rw [e0]; decide)]
    rw [e0, e1]
    have HE := Lib.hid h
    clear h e0 e1
    go_enter Tryz.func18, Tryz.ntmps18
    go_wp2_with (first
      | (go_at_call 39; with_reducible refine c.mono ?_; rintro e w' ⟨rfl, rfl⟩))
    go_ret
    exact ⟨rfl, HE.out, Wrote.refl _ _⟩

/-! ### Unlock, Probe -/
theorem se_leave_no (w : World) (x : Int) : Calls Tryz.prog 41 #[.pointer none, .int .i64 x] w fun e w' => e = .returned (.int .i64 1) ∧ w = w' := by
  go_enter Tryz.func41, Tryz.ntmps41
  go_wp2
  go_ret
  exact ⟨rfl, rfl⟩
theorem se_leave {w : World} {p b : Nat} {s : SS} (h : SeatAt w p b s) (k : Nat) (hk : k < s.n) (x : Int) :
    Calls Tryz.prog 41 #[.pointer (some ⟨b, k * 2, none⟩), .int .i64 x] w (SeatPost w p b (s.turn (k : Int) x) (.int .i64 (turnE s (k : Int)))) := by
  have ht : 0 ≤ (k : Int) ∧ (k : Int) < s.n := by omega
  have eE : turnE s (k : Int) = if s.st k = 0 then 3 else if s.st k = 2 then 0 else 2 := by unfold turnE; rw [if_pos ht, Int.toNat_natCast]
  have eS : s.turn (k : Int) x = if turnE s (k : Int) = 0 then s.set k x (s.dl k) else s := by unfold SS.turn; rw [Int.toNat_natCast]
  rw [eS]
  have c1 := h.st hk
  have f0 := h.frozen (k * 2)
  obtain ⟨hS, hW⟩ := h.set0 hk x
  by_cases h0 : s.st k = 0
  · rw [if_pos h0] at eE
    rw [eE, if_neg (by decide)]
    rw [h0] at c1
    have HE := Lib.hid h
    clear h hS hW eE eS ht
    go_enter Tryz.func41, Tryz.ntmps41
    go_wp2
    go_ret
    exact ⟨rfl, HE.out, Wrote.refl _ _⟩
  · rw [if_neg h0] at eE
    by_cases h2 : s.st k = 2
    · rw [if_pos h2] at eE
      rw [eE, if_pos rfl]
      rw [h2] at c1
      have HE := Lib.hid (And.intro hS hW)
      clear h hS hW eE eS h0 ht
      go_enter Tryz.func41, Tryz.ntmps41
      go_wp2
      go_ret
      exact ⟨rfl, HE.out.1, HE.out.2⟩
    · rw [if_neg h2] at eE
      rw [eE, if_neg (by decide)]
      have HE := Lib.hid h
      generalize s.st k = y at *
      clear h hS hW eE eS ht
      go_enter Tryz.func41, Tryz.ntmps41
      go_wp2
      go_ret
      exact ⟨rfl, HE.out, Wrote.refl _ _⟩

theorem se_unlock {w : World} {p b : Nat} {s : SS} (h : SeatAt w p b s) (t : Int) :
    Calls Tryz.prog 19 #[.pointer (some ⟨p, 0, none⟩), .int .i64 t] w (SeatPost w p b (s.turn t 3) (.int .i64 (turnE s t))) := by
  by_cases ht : 0 ≤ t ∧ t < s.n
  · obtain ⟨k, rfl⟩ := Int.eq_ofNat_of_zero_le ht.1
    have hk : k < s.n := by omega
    have c := se_ctx h k hk
    have c2 := se_leave h k hk 3
    clear h
    go_enter Tryz.func19, Tryz.ntmps19
    go_wp2_with (first
      | (go_at_call 39; with_reducible refine c.mono ?_; rintro e w' ⟨rfl, rfl⟩)
      | (go_at_call 41; (with_reducible refine c2.mono ?_); rintro e w' ⟨rfl, hF⟩))
    go_ret
    exact ⟨rfl, hF⟩
  · have e0 : turnE s t = 1 := by unfold turnE; rw [if_neg ht]
    have e1 : s.turn t 3 = s := by unfold SS.turn; rw [if_neg (by rw [e0]; decide)]
    rw [e0, e1]
    have c := se_ctx_no h t ht
    have c2 := se_leave_no w 3
    have HE := Lib.hid h
    clear h e0 e1
    go_enter Tryz.func19, Tryz.ntmps19
    go_wp2_with (first
      | (go_at_call 39; with_reducible refine c.mono ?_; rintro e w' ⟨rfl, rfl⟩)
      | (go_at_call 41; with_reducible refine c2.mono ?_; rintro e w' ⟨rfl, rfl⟩))
    go_ret
    exact ⟨rfl, HE.out, Wrote.refl _ _⟩

theorem se_probe {w : World} {p b : Nat} {s : SS} (h : SeatAt w p b s) (t : Int) :
    Calls Tryz.prog 123 #[.pointer (some ⟨p, 0, none⟩), .int .i64 t] w (SeatPost w p b (s.probe t) (.int .i64 (probeE s t))) := by
  have c1 := h.cell2
  cases hp : s.probed
  · rw [show probeE s t = 1 from by unfold probeE; rw [hp]; rfl, show s.probe t = s from by unfold SS.probe; rw [hp]; rfl]
    rw [hp] at c1
    have HE := Lib.hid h
    clear h hp
    go_enter Tryz.func123, Tryz.ntmps123
    go_wp2
    go_ret
    exact ⟨rfl, HE.out, Wrote.refl _ _⟩
  · rw [show probeE s t = turnE s t from by unfold probeE; rw [hp]; rfl, show s.probe t = s.turn t 4 from by unfold SS.probe; rw [hp]; rfl]
    rw [hp] at c1
    clear hp
    by_cases ht : 0 ≤ t ∧ t < s.n
    · obtain ⟨k, rfl⟩ := Int.eq_ofNat_of_zero_le ht.1
      have hk : k < s.n := by omega
      have c := se_ctx h k hk
      have c2 := se_leave h k hk 4
      clear h
      go_enter Tryz.func123, Tryz.ntmps123
      go_wp2_with (first
        | (go_at_call 39; with_reducible refine c.mono ?_; rintro e w' ⟨rfl, rfl⟩)
        | (go_at_call 41; (with_reducible refine c2.mono ?_); rintro e w' ⟨rfl, hF⟩))
      go_ret
      exact ⟨rfl, hF⟩
    · have e0 : turnE s t = 1 := by unfold turnE; rw [if_neg ht]
      have e1 : s.turn t 4 = s := by unfold SS.turn; rw [if_neg (by rw [e0]; decide)]
      rw [e0, e1]
      have c := se_ctx_no h t ht
      have c2 := se_leave_no w 4
      have HE := Lib.hid h
      clear h e0 e1
      go_enter Tryz.func123, Tryz.ntmps123
      go_wp2_with (first
        | (go_at_call 39; with_reducible refine c.mono ?_; rintro e w' ⟨rfl, rfl⟩)
        | (go_at_call 41; with_reducible refine c2.mono ?_; rintro e w' ⟨rfl, rfl⟩))
      go_ret
      exact ⟨rfl, HE.out, Wrote.refl _ _⟩

/-! ### End -/
theorem se_behind (w : World) (x ev : Int) :
    Calls Tryz.prog 74 #[.int .i64 x, .int .i64 ev] w fun e w' => e = .returned (.tuple #[.int .i64 ((behindI x ev).getD 0), .bool (behindI x ev).isSome]) ∧ w = w' := by
  by_cases k1 : x = 1
  · subst k1
    by_cases q1 : ev = 1
    · subst q1
      go_enter Tryz.func74, Tryz.ntmps74
      go_wp2
      go_ret2
      exact ⟨rfl, rfl⟩
    · by_cases q2 : ev = 2
      · subst q2
        go_enter Tryz.func74, Tryz.ntmps74
        go_wp2
        go_ret2
        exact ⟨rfl, rfl⟩
      · by_cases q3 : ev = 6
        · subst q3
          go_enter Tryz.func74, Tryz.ntmps74
          go_wp2
          go_ret2
          exact ⟨rfl, rfl⟩
        · have e : behindI 1 ev = none := by simp [behindI, q1, q2, q3]
          rw [e]
          have p1 : (ev == 1) = false := beq_false_of_ne q1
          have p2 : (ev == 2) = false := beq_false_of_ne q2
          have p3 : (ev == 6) = false := beq_false_of_ne q3
          clear q1 q2 q3 e
          go_enter Tryz.func74, Tryz.ntmps74
          go_wp2
          go_ret2
          exact ⟨rfl, rfl⟩
  · by_cases k3 : x = 3
    · subst k3
      by_cases q1 : ev = 3
      · subst q1
        go_enter Tryz.func74, Tryz.ntmps74
        go_wp2
        go_ret2
        exact ⟨rfl, rfl⟩
      · have e : behindI 3 ev = none := by simp [behindI, q1]
        rw [e]
        have p1 : (ev == 3) = false := beq_false_of_ne q1
        clear q1 e k1
        go_enter Tryz.func74, Tryz.ntmps74
        go_wp2
        go_ret2
        exact ⟨rfl, rfl⟩
    · by_cases k4 : x = 4
      · subst k4
        by_cases q1 : ev = 4
        · subst q1
          go_enter Tryz.func74, Tryz.ntmps74
          go_wp2
          go_ret2
          exact ⟨rfl, rfl⟩
        · by_cases q2 : ev = 5
          · subst q2
            go_enter Tryz.func74, Tryz.ntmps74
            go_wp2
            go_ret2
            exact ⟨rfl, rfl⟩
          · have e : behindI 4 ev = none := by simp [behindI, q1, q2]
            rw [e]
            have p1 : (ev == 4) = false := beq_false_of_ne q1
            have p2 : (ev == 5) = false := beq_false_of_ne q2
            clear q1 q2 e
            go_enter Tryz.func74, Tryz.ntmps74
            go_wp2
            go_ret2
            exact ⟨rfl, rfl⟩
      · have e : behindI x ev = none := by simp [behindI, k1, k3, k4]
        rw [e]
        have p1 : (x == 1) = false := beq_false_of_ne k1
        have p2 : (x == 3) = false := beq_false_of_ne k3
        have p3 : (x == 4) = false := beq_false_of_ne k4
        clear k1 k3 k4 e
        go_enter Tryz.func74, Tryz.ntmps74
        go_wp2
        go_ret2
        exact ⟨rfl, rfl⟩
theorem se_end {w : World} {p b : Nat} {s : SS} (h : SeatAt w p b s) (t ev : Int) :
    Calls Tryz.prog 62 #[.pointer (some ⟨p, 0, none⟩), .int .i64 t, .int .i64 ev] w (SeatPost w p b (s.fin t ev) (.bool (endB s t ev))) := by
  by_cases ht : 0 ≤ t ∧ t < s.n
  · have eO : endO s t ev = behindI (s.st t.toNat) ev := if_pos ht
    obtain ⟨k, rfl⟩ := Int.eq_ofNat_of_zero_le ht.1
    rw [Int.toNat_natCast] at eO
    have hk : k < s.n := by omega
    have c := se_ctx h k hk
    have c1 := h.st hk
    have c2 := se_behind w (s.st k) ev
    have f0 := h.frozen (k * 2)
    have f1 := h.frozen (k * 2 + 1)
    have c3 := h.dl hk
    cases hO : behindI (s.st k) ev with
    | none =>
      rw [hO] at c2 eO
      rw [show endB s (k : Int) ev = false from by unfold endB; rw [eO]; rfl, show s.fin (k : Int) ev = s from by unfold SS.fin; rw [eO]]
      have HE := Lib.hid h
      generalize s.st k = x at *
      simp only [Option.getD_none, Option.isSome_none] at c2
      clear h eO hO
      go_enter Tryz.func62, Tryz.ntmps62
      go_wp2_with (first
        | (go_at_call 39; with_reducible refine c.mono ?_; rintro e w' ⟨rfl, rfl⟩)
        | (go_at_call 74; with_reducible refine c2.mono ?_; rintro e w' ⟨rfl, rfl⟩))
      go_ret
      exact ⟨rfl, HE.out, Wrote.refl _ _⟩
    | some y =>
      rw [hO] at c2 eO
      rw [show endB s (k : Int) ev = true from by unfold endB; rw [eO]; rfl, show s.fin (k : Int) ev = s.set k y 0 from by unfold SS.fin; rw [eO, Int.toNat_natCast]]
      have HE := Lib.hid (h.set2 hk y 0)
      generalize s.st k = x at *
      simp only [Option.getD_some, Option.isSome_some] at c2
      clear h eO hO
      go_enter Tryz.func62, Tryz.ntmps62
      go_wp2_with (first
        | (go_at_call 39; with_reducible refine c.mono ?_; rintro e w' ⟨rfl, rfl⟩)
        | (go_at_call 74; with_reducible refine c2.mono ?_; rintro e w' ⟨rfl, rfl⟩))
      go_ret
      exact ⟨rfl, HE.out.1, HE.out.2⟩
  · have eO : endO s t ev = none := if_neg ht
    rw [show endB s t ev = false from by unfold endB; rw [eO]; rfl, show s.fin t ev = s from by unfold SS.fin; rw [eO]]
    have c := se_ctx_no h t ht
    have HE := Lib.hid h
    clear h eO
    go_enter Tryz.func62, Tryz.ntmps62
    go_wp2_with (go_at_call 39; with_reducible refine c.mono ?_; rintro e w' ⟨rfl, rfl⟩)
    go_ret
    exact ⟨rfl, HE.out, Wrote.refl _ _⟩
end Go.Proofs.YtkmikkjjnbikdaaGreat
namespace Go.Proofs.YtkmikkjjnbikdaaGreat
open Go.RowKit
set_option linter.unusedVariables false
set_option maxRecDepth 100000

theorem sinfo_ctx : (Tryz.prog.info? 109).map (fun i => (i.zero, i.size, i.bytes)) = some (some (.agg #[.int .i64 0, .int .i64 0]), 2, 16) := by kernel_rfl

def NewSeatPost (w : World) (n : Nat) (timed probed : Bool) (e : Ending) (w' : World) : Prop :=
  ∃ p b, e = .returned (.tuple #[.pointer (some ⟨p, 0, none⟩), .int .i64 0]) ∧ SeatAt w' p b (newSeat n timed probed) ∧ w.heap.size ≤ p ∧ w.heap.size ≤ b ∧ Wrote Nil w w'

theorem se_new_no (n : Int) (timed probed : Bool) (h : n < 1 ∨ 64 < n) (w : World) :
    Calls Tryz.prog 65 #[.int .i64 n, .bool timed, .bool probed] w fun e w' => e = .returned (.tuple #[.pointer none, .int .i64 1]) ∧ w = w' := by
  by_cases h1 : n < 1
  · go_enter Tryz.func65, Tryz.ntmps65
    go_wp2
    go_ret2
    exact ⟨rfl, rfl⟩
  have h2 : 64 < n := by omega
  go_enter Tryz.func65, Tryz.ntmps65
  go_wp2
  go_ret2
  exact ⟨rfl, rfl⟩

theorem made_ctx (n : Nat) (timed probed : Bool) : madeCells (Value.agg #[.int .i64 0, .int .i64 0]).cells (n * 2) = (ctxs (newSeat n timed probed)).toArray := by
  apply Array.ext'
  show (madeCells (#[.int .i64 0, .int .i64 0] : Array Value) (n * 2)).toList = ctxs (newSeat n timed probed)
  apply List.ext_getElem?
  intro m
  by_cases hm : m < n * 2
  · have ha : m / 2 < n := by omega
    have e : m = m / 2 * 2 + m % 2 := by omega
    have h2 := ctxs_at (newSeat n timed probed) (k := m / 2) ha (j := m % 2) (Nat.mod_lt _ (by decide))
    rw [← e] at h2
    rw [h2]
    unfold madeCells
    rw [Array.toList_map, List.getElem?_map, Array.toList_range, List.getElem?_range hm]
    have : m % 2 = 0 ∨ m % 2 = 1 := by omega
    rcases this with h | h <;> simp [h, ctxC, newSeat]
  · rw [List.getElem?_eq_none (by simp [madeCells]; omega), List.getElem?_eq_none (by rw [ctxs_len]; show n * 2 ≤ m; omega)]

theorem se_new (n : Nat) (timed probed : Bool) (h1 : 1 ≤ n) (h2 : n ≤ 64) (w : World) :
    Calls Tryz.prog 65 #[.int .i64 (n : Int), .bool timed, .bool probed] w (NewSeatPost w n timed probed) := by
  obtain ⟨i0, hi, hz0, hz1, hz2⟩ := info_parts sinfo_ctx
  have hmk : ∀ w : World, (Instr.makeSlice 121 (.int .i64 (n : Int)) (.int .i64 (n : Int))).run Tryz.prog w = .ok (.slice (some ⟨w.heap.size, 0, none⟩) n n) (w.alloc (.cells (ctxs (newSeat n timed probed)).toArray 109)) := by
    intro w
    have h := Go.run_make (P := Tryz.prog) w 121 109 i0 _ Tryz.underlying121 hi hz0 .i64 .i64 n n (by omega) (by omega) (by rw [hz2]; omega) (by omega)
    rw [hz1] at h
    simp only [Int.toNat_natCast] at h
    rw [made_ctx n timed probed] at h
    exact h
  have k1 : ¬ (n : Int) < 1 := by omega
  have k2 : ¬ (64 : Int) < n := by omega
  generalize hA : (ctxs (newSeat n timed probed)).toArray = A at hmk
  have HA := Lib.hid hA
  clear hA
  go_enter Tryz.func65, Tryz.ntmps65
  go_wp2
  go_ret2
  obtain rfl := HA.out
  have hs : (w.alloc (.cells (ctxs (newSeat n timed probed)).toArray 109)).heap.size = w.heap.size + 1 := Go.Deep.nblk_alloc _ _
  have hb := Go.Deep.blk_alloc_new (w.alloc (.cells (ctxs (newSeat n timed probed)).toArray 109)) (.cells #[.slice (some ⟨w.heap.size, 0, none⟩) n n, .bool timed, .bool probed] 123)
  rw [hs] at hb
  refine ⟨w.heap.size + 1, w.heap.size, rfl, ⟨hb, ?_, by omega, h1, h2⟩, by omega, Nat.le_refl _, ((Wrote.refl Nil w).alloc _).alloc _⟩
  rw [Go.Deep.blk_alloc_lt _ _ _ (by rw [hs]; omega), Go.Deep.blk_alloc_new]

/-! ### the document's example -/
/-- seats that were made behind a world -/
structure SeatSince (w wr : World) (p b : Nat) (s : SS) : Prop where
  at_ : SeatAt wr p b s
  p : w.heap.size ≤ p
  b : w.heap.size ≤ b
  wrote : Wrote Nil w wr
theorem SeatSince.step {w wr w' : World} {p b : Nat} {s s' : SS} {r : Value} {e : Ending} (h : SeatSince w wr p b s) (k : SeatPost wr p b s' r e w') : SeatSince w w' p b s' :=
  ⟨k.2.1, h.p, h.b, h.wrote.one k.2.2 h.b⟩
theorem SeatSince.keep {w wr w' : World} {p b : Nat} {s : SS} (h : SeatSince w wr p b s) (k : Wrote Nil wr w') : SeatSince w w' p b s :=
  ⟨h.at_.after k, h.p, h.b, h.wrote.nil k⟩
def SincePost (w : World) (p b : Nat) (s : SS) (r : Value) (e : Ending) (w' : World) : Prop := e = .returned r ∧ SeatSince w w' p b s
section
variable {w wr : World} {p b : Nat} {s : SS}
theorem si_lock (h : SeatSince w wr p b s) (t d : Int) : Calls Tryz.prog 18 #[.pointer (some ⟨p, 0, none⟩), .int .i64 t, .int .i64 d] wr (SincePost w p b (s.lock t d) (.int .i64 (lockE s t d))) :=
  (se_lock h.at_ t d).mono fun e w' k => ⟨k.1, h.step k⟩
theorem si_unlock (h : SeatSince w wr p b s) (t : Int) : Calls Tryz.prog 19 #[.pointer (some ⟨p, 0, none⟩), .int .i64 t] wr (SincePost w p b (s.turn t 3) (.int .i64 (turnE s t))) :=
  (se_unlock h.at_ t).mono fun e w' k => ⟨k.1, h.step k⟩
theorem si_probe (h : SeatSince w wr p b s) (t : Int) : Calls Tryz.prog 123 #[.pointer (some ⟨p, 0, none⟩), .int .i64 t] wr (SincePost w p b (s.probe t) (.int .i64 (probeE s t))) :=
  (se_probe h.at_ t).mono fun e w' k => ⟨k.1, h.step k⟩
theorem si_end (h : SeatSince w wr p b s) (t ev : Int) : Calls Tryz.prog 62 #[.pointer (some ⟨p, 0, none⟩), .int .i64 t, .int .i64 ev] wr (SincePost w p b (s.fin t ev) (.bool (endB s t ev))) :=
  (se_end h.at_ t ev).mono fun e w' k => ⟨k.1, h.step k⟩
def SinceNew (w : World) (n : Nat) (timed probed : Bool) (e : Ending) (w' : World) : Prop := ∃ p b, e = .returned (.tuple #[.pointer (some ⟨p, 0, none⟩), .int .i64 0]) ∧ SeatSince w w' p b (newSeat n timed probed)
theorem si_new (n : Nat) (timed probed : Bool) (h1 : 1 ≤ n) (h2 : n ≤ 64) (w : World) : Calls Tryz.prog 65 #[.int .i64 (n : Int), .bool timed, .bool probed] w (SinceNew w n timed probed) :=
  (se_new n timed probed h1 h2 w).mono fun e w' ⟨p, b, he, hS, h1, h2, hW⟩ => ⟨p, b, he, hS, h1, h2, hW⟩
end
end Go.Proofs.YtkmikkjjnbikdaaGreat
