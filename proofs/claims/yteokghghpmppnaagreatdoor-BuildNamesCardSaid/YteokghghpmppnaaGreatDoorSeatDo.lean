/- The contracts of package seat's functions, but New. -/
import Derived.Test.YteokghghpmppnaaGreatDoorSeat
import Derived.Test.YteokghghpmppnaaGreatDoorRows
import Derived.WalkLawsBesides
import Derived.Outline
import Derived.Deep.QuietTactic
import Derived.Handy
import Derived.OpenShut
import Derived.Lib.Walk
import Derived.WalkKit
import Derived.Lib.Hide
namespace Go.Proofs.YteokghghpmppnaaGreatDoor
open Go.RowKit
set_option linter.unusedVariables false
set_option maxRecDepth 100000

theorem se_ctx {w : World} {p b : Nat} {s : SS} (h : SeatAt w p b s) (k : Nat) (hk : k < s.n) :
    Calls Tryz.prog 105 #[.pointer (some ⟨p, 0, none⟩), .int .i64 (k : Int)] w fun e w' => e = .returned (.pointer (some ⟨b, k * 2, none⟩)) ∧ w = w' := by
  have c0 := h.cell0
  have h1 : ¬ ((k : Int) < 0) := by omega
  have h2 : ¬ ((s.n : Int) ≤ (k : Int)) := by omega
  have hn := h.n2
  clear h
  generalize s.n = n at *
  go_enter Tryz.func105, Tryz.ntmps105
  go_wp2
  go_ret
  exact ⟨rfl, rfl⟩
theorem se_ctx_no {w : World} {p b : Nat} {s : SS} (h : SeatAt w p b s) (t : Int) (ht : ¬ (0 ≤ t ∧ t < s.n)) :
    Calls Tryz.prog 105 #[.pointer (some ⟨p, 0, none⟩), .int .i64 t] w fun e w' => e = .returned (.pointer none) ∧ w = w' := by
  have c0 := h.cell0
  have hn := h.n2
  clear h
  generalize s.n = n at *
  by_cases h1 : t < 0
  · go_enter Tryz.func105, Tryz.ntmps105
    go_wp2
    go_ret
    exact ⟨rfl, rfl⟩
  · have h2 : ((n : Int) ≤ t) := by omega
    clear ht
    go_enter Tryz.func105, Tryz.ntmps105
    go_wp2
    go_ret
    exact ⟨rfl, rfl⟩

def takesB (s : SS) (d : Int) : Bool := decide (d = -1 ∨ (0 ≤ d ∧ s.timed = true))
theorem se_takes {w : World} {p b : Nat} {s : SS} (h : SeatAt w p b s) (d : Int) :
    Calls Tryz.prog 106 #[.pointer (some ⟨p, 0, none⟩), .int .i64 d] w fun e w' => e = .returned (.bool (takesB s d)) ∧ w = w' := by
  have c1 := h.cell1
  clear h
  unfold takesB
  generalize s.timed = b at *
  by_cases h1 : d = -1
  · subst h1
    go_enter Tryz.func106, Tryz.ntmps106
    go_wp2
    go_ret
    exact ⟨by simp, rfl⟩
  · have h1b : (d == (-1 : Int)) = false := beq_false_of_ne h1
    by_cases h2 : 0 ≤ d
    · go_enter Tryz.func106, Tryz.ntmps106
      go_wp2
      go_ret
      exact ⟨by simp [h1, h2], rfl⟩
    · go_enter Tryz.func106, Tryz.ntmps106
      go_wp2
      go_ret
      exact ⟨by simp only []; simp; omega, rfl⟩

theorem se_state {w : World} {p b : Nat} {s : SS} (h : SeatAt w p b s) (t : Int) :
    Calls Tryz.prog 101 #[.pointer (some ⟨p, 0, none⟩), .int .i64 t] w fun e w' => e = .returned (.int .i64 (s.stI t)) ∧ w = w' := by
  by_cases ht : 0 ≤ t ∧ t < s.n
  · rw [show s.stI t = s.st t.toNat from if_pos ht]
    obtain ⟨k, rfl⟩ := Int.eq_ofNat_of_zero_le ht.1
    have hk : k < s.n := by omega
    have c := se_ctx h k hk
    have c1 := h.st hk
    rw [Int.toNat_natCast]
    generalize s.st k = x at *
    clear h
    go_enter Tryz.func101, Tryz.ntmps101
    go_wp2_with (go_at_call 105; with_reducible refine c.mono ?_; rintro e w' ⟨rfl, rfl⟩)
    go_ret
    exact ⟨rfl, rfl⟩
  · rw [show s.stI t = 0 from if_neg ht]
    have c := se_ctx_no h t ht
    clear h
    go_enter Tryz.func101, Tryz.ntmps101
    go_wp2_with (go_at_call 105; with_reducible refine c.mono ?_; rintro e w' ⟨rfl, rfl⟩)
    go_ret
    exact ⟨rfl, rfl⟩

theorem se_deadline {w : World} {p b : Nat} {s : SS} (h : SeatAt w p b s) (t : Int) :
    Calls Tryz.prog 163 #[.pointer (some ⟨p, 0, none⟩), .int .i64 t] w fun e w' => e = .returned (.int .i64 (s.dlI t)) ∧ w = w' := by
  by_cases ht : 0 ≤ t ∧ t < s.n
  · rw [show s.dlI t = if s.st t.toNat = 1 then s.dl t.toNat else -1 from if_pos ht]
    obtain ⟨k, rfl⟩ := Int.eq_ofNat_of_zero_le ht.1
    have hk : k < s.n := by omega
    have c := se_ctx h k hk
    have c1 := h.st hk
    have c2 := h.dl hk
    rw [Int.toNat_natCast]
    generalize s.st k = x at *
    generalize s.dl k = y at *
    clear h
    by_cases hx : x = 1
    · subst hx
      rw [if_pos rfl]
      go_enter Tryz.func163, Tryz.ntmps163
      go_wp2_with (go_at_call 105; with_reducible refine c.mono ?_; rintro e w' ⟨rfl, rfl⟩)
      go_ret
      exact ⟨rfl, rfl⟩
    · rw [if_neg hx]
      go_enter Tryz.func163, Tryz.ntmps163
      go_wp2_with (go_at_call 105; with_reducible refine c.mono ?_; rintro e w' ⟨rfl, rfl⟩)
      go_ret
      exact ⟨rfl, rfl⟩
  · rw [show s.dlI t = -1 from if_neg ht]
    have c := se_ctx_no h t ht
    clear h
    go_enter Tryz.func163, Tryz.ntmps163
    go_wp2_with (go_at_call 105; with_reducible refine c.mono ?_; rintro e w' ⟨rfl, rfl⟩)
    go_ret
    exact ⟨rfl, rfl⟩

/-! ### Lock -/
theorem se_lock {w : World} {p b : Nat} {s : SS} (h : SeatAt w p b s) (t d : Int) :
    Calls Tryz.prog 99 #[.pointer (some ⟨p, 0, none⟩), .int .i64 t, .int .i64 d] w (SeatPost w p b (s.lock t d) (.int .i64 (lockE s t d))) := by
  have cT := se_takes h d
  by_cases ht : 0 ≤ t ∧ t < s.n
  · obtain ⟨k, rfl⟩ := Int.eq_ofNat_of_zero_le ht.1
    have hk : k < s.n := by omega
    have c := se_ctx h k hk
    have c1 := h.st hk
    have f0 := h.frozen (k * 2)
    have f1 := h.frozen (k * 2 + 1)
    have c3 := h.dl hk
    obtain ⟨hS, hW⟩ := h.set2 hk 1 d
    by_cases hT : takesB s d = true
    · rw [hT] at cT
      have hT' : d = -1 ∨ (0 ≤ d ∧ s.timed = true) := by simpa [takesB] using hT
      by_cases hx : s.st k = 0
      · have e0 : lockE s (k : Int) d = 0 := by unfold lockE; rw [if_pos ⟨ht, hT'⟩, Int.toNat_natCast, if_pos hx]
        have e1 : s.lock (k : Int) d = s.set k 1 d := by unfold SS.lock; rw [if_pos e0, Int.toNat_natCast]
        rw [e0, e1]
        rw [hx] at c1
        have HE := Lib.hid (And.intro hS hW)
        clear h hS hW hT hT' e0 e1
        go_enter Tryz.func99, Tryz.ntmps99
        go_wp2_with (first
          | (go_at_call 105; with_reducible refine c.mono ?_; rintro e w' ⟨rfl, rfl⟩)
          | (go_at_call 106; with_reducible refine cT.mono ?_; rintro e w' ⟨rfl, rfl⟩))
        go_ret
        exact ⟨rfl, HE.out.1, HE.out.2⟩
      · have e0 : lockE s (k : Int) d = 2 := by unfold lockE; rw [if_pos ⟨ht, hT'⟩, Int.toNat_natCast, if_neg hx]
        have e1 : s.lock (k : Int) d = s := by unfold SS.lock; rw [if_neg (by rw [e0]; decide)]
        rw [e0, e1]
        have HE := Lib.hid h
        generalize s.st k = x at *
        clear h hS hW hT hT' e0 e1
        go_enter Tryz.func99, Tryz.ntmps99
        go_wp2_with (first
          | (go_at_call 105; with_reducible refine c.mono ?_; rintro e w' ⟨rfl, rfl⟩)
          | (go_at_call 106; with_reducible refine cT.mono ?_; rintro e w' ⟨rfl, rfl⟩))
        go_ret
        exact ⟨rfl, HE.out, Wrote.refl _ _⟩
    · have hT2 : takesB s d = false := by simpa using hT
      rw [hT2] at cT
      have hT' : ¬ (d = -1 ∨ (0 ≤ d ∧ s.timed = true)) := by simpa [takesB] using hT
      have e0 : lockE s (k : Int) d = 1 := by unfold lockE; rw [if_neg (fun x => hT' x.2)]
      have e1 : s.lock (k : Int) d = s := by unfold SS.lock; rw [if_neg (by rw [e0]; decide)]
      rw [e0, e1]
      have HE := Lib.hid h
      clear h hS hW hT hT' hT2 e0 e1
      go_enter Tryz.func99, Tryz.ntmps99
      go_wp2_with (first
        | (go_at_call 105; with_reducible refine c.mono ?_; rintro e w' ⟨rfl, rfl⟩)
        | (go_at_call 106; with_reducible refine cT.mono ?_; rintro e w' ⟨rfl, rfl⟩))
      go_ret
      exact ⟨rfl, HE.out, Wrote.refl _ _⟩
  · have c := se_ctx_no h t ht
    have e0 : lockE s t d = 1 := by unfold lockE; rw [if_neg (fun x => ht x.1)]
    have e1 : s.lock t d = s := by unfold SS.lock; rw [if_neg (by rw [e0]; decide)]
    rw [e0, e1]
    have HE := Lib.hid h
    clear h e0 e1
    go_enter Tryz.func99, Tryz.ntmps99
    go_wp2_with (first
      | (go_at_call 105; with_reducible refine c.mono ?_; rintro e w' ⟨rfl, rfl⟩))
    go_ret
    exact ⟨rfl, HE.out, Wrote.refl _ _⟩

/-! ### Unlock, Probe -/
theorem se_leave_no (w : World) (x : Int) : Calls Tryz.prog 107 #[.pointer none, .int .i64 x] w fun e w' => e = .returned (.int .i64 1) ∧ w = w' := by
  go_enter Tryz.func107, Tryz.ntmps107
  go_wp2
  go_ret
  exact ⟨rfl, rfl⟩
theorem se_leave {w : World} {p b : Nat} {s : SS} (h : SeatAt w p b s) (k : Nat) (hk : k < s.n) (x : Int) :
    Calls Tryz.prog 107 #[.pointer (some ⟨b, k * 2, none⟩), .int .i64 x] w (SeatPost w p b (s.turn (k : Int) x) (.int .i64 (turnE s (k : Int)))) := by
  have ht : 0 ≤ (k : Int) ∧ (k : Int) < s.n := by omega
  have eE : turnE s (k : Int) = if s.st k = 0 then 3 else if s.st k = 2 then 0 else 2 := by unfold turnE; rw [if_pos ht, Int.toNat_natCast]
  have eS : s.turn (k : Int) x = if turnE s (k : Int) = 0 then s.set k x (s.dl k) else s := by unfold SS.turn; rw [Int.toNat_natCast]
  rw [eS]
  have c1 := h.st hk
  have f0 := h.frozen (k * 2)
  obtain ⟨hS, hW⟩ := h.set0 hk x
  by_cases h0 : s.st k = 0
  · rw [if_pos h0] at eE
    rw [eE, if_neg (by decide)]
    rw [h0] at c1
    have HE := Lib.hid h
    clear h hS hW eE eS ht
    go_enter Tryz.func107, Tryz.ntmps107
    go_wp2
    go_ret
    exact ⟨rfl, HE.out, Wrote.refl _ _⟩
  · rw [if_neg h0] at eE
    by_cases h2 : s.st k = 2
    · rw [if_pos h2] at eE
      rw [eE, if_pos rfl]
      rw [h2] at c1
      have HE := Lib.hid (And.intro hS hW)
      clear h hS hW eE eS h0 ht
      go_enter Tryz.func107, Tryz.ntmps107
      go_wp2
      go_ret
      exact ⟨rfl, HE.out.1, HE.out.2⟩
    · rw [if_neg h2] at eE
      rw [eE, if_neg (by decide)]
      have HE := Lib.hid h
      generalize s.st k = y at *
      clear h hS hW eE eS ht
      go_enter Tryz.func107, Tryz.ntmps107
      go_wp2
      go_ret
      exact ⟨rfl, HE.out, Wrote.refl _ _⟩

theorem se_unlock {w : World} {p b : Nat} {s : SS} (h : SeatAt w p b s) (t : Int) :
    Calls Tryz.prog 103 #[.pointer (some ⟨p, 0, none⟩), .int .i64 t] w (SeatPost w p b (s.turn t 3) (.int .i64 (turnE s t))) := by
  by_cases ht : 0 ≤ t ∧ t < s.n
  · obtain ⟨k, rfl⟩ := Int.eq_ofNat_of_zero_le ht.1
    have hk : k < s.n := by omega
    have c := se_ctx h k hk
    have c2 := se_leave h k hk 3
    clear h
    go_enter Tryz.func103, Tryz.ntmps103
    go_wp2_with (first
      | (go_at_call 105; with_reducible refine c.mono ?_; rintro e w' ⟨rfl, rfl⟩)
      | (go_at_call 107; (with_reducible refine c2.mono ?_); rintro e w' ⟨rfl, hF⟩))
    go_ret
    exact ⟨rfl, hF⟩
  · have e0 : turnE s t = 1 := by unfold turnE; rw [if_neg ht]
    have e1 : s.turn t 3 = s := by unfold SS.turn; rw [if_neg (by rw [e0]; decide)]
    rw [e0, e1]
    have c := se_ctx_no h t ht
    have c2 := se_leave_no w 3
    have HE := Lib.hid h
    clear h e0 e1
    go_enter Tryz.func103, Tryz.ntmps103
    go_wp2_with (first
      | (go_at_call 105; with_reducible refine c.mono ?_; rintro e w' ⟨rfl, rfl⟩)
      | (go_at_call 107; with_reducible refine c2.mono ?_; rintro e w' ⟨rfl, rfl⟩))
    go_ret
    exact ⟨rfl, HE.out, Wrote.refl _ _⟩

theorem se_probe {w : World} {p b : Nat} {s : SS} (h : SeatAt w p b s) (t : Int) :
    Calls Tryz.prog 100 #[.pointer (some ⟨p, 0, none⟩), .int .i64 t] w (SeatPost w p b (s.probe t) (.int .i64 (probeE s t))) := by
  have c1 := h.cell2
  cases hp : s.probed
  · rw [show probeE s t = 1 from by unfold probeE; rw [hp]; rfl, show s.probe t = s from by unfold SS.probe; rw [hp]; rfl]
    rw [hp] at c1
    have HE := Lib.hid h
    clear h hp
    go_enter Tryz.func100, Tryz.ntmps100
    go_wp2
    go_ret
    exact ⟨rfl, HE.out, Wrote.refl _ _⟩
  · rw [show probeE s t = turnE s t from by unfold probeE; rw [hp]; rfl, show s.probe t = s.turn t 4 from by unfold SS.probe; rw [hp]; rfl]
    rw [hp] at c1
    clear hp
    by_cases ht : 0 ≤ t ∧ t < s.n
    · obtain ⟨k, rfl⟩ := Int.eq_ofNat_of_zero_le ht.1
      have hk : k < s.n := by omega
      have c := se_ctx h k hk
      have c2 := se_leave h k hk 4
      clear h
      go_enter Tryz.func100, Tryz.ntmps100
      go_wp2_with (first
        | (go_at_call 105; with_reducible refine c.mono ?_; rintro e w' ⟨rfl, rfl⟩)
        | (go_at_call 107; (with_reducible refine c2.mono ?_); rintro e w' ⟨rfl, hF⟩))
      go_ret
      exact ⟨rfl, hF⟩
    · have e0 : turnE s t = 1 := by unfold turnE; rw [if_neg ht]
      have e1 : s.turn t 4 = s := by unfold SS.turn; rw [if_neg (by rw [e0]; decide)]
      rw [e0, e1]
      have c := se_ctx_no h t ht
      have c2 := se_leave_no w 4
      have HE := Lib.hid h
      clear h e0 e1
      go_enter Tryz.func100, Tryz.ntmps100
      go_wp2_with (first
        | (go_at_call 105; with_reducible refine c.mono ?_; rintro e w' ⟨rfl, rfl⟩)
        | (go_at_call 107; with_reducible refine c2.mono ?_; rintro e w' ⟨rfl, rfl⟩))
      go_ret
      exact ⟨rfl, HE.out, Wrote.refl _ _⟩

/-! ### End -/
theorem se_behind (w : World) (x ev : Int) :
    Calls Tryz.prog 114 #[.int .i64 x, .int .i64 ev] w fun e w' => e = .returned (.tuple #[.int .i64 ((behindI x ev).getD 0), .bool (behindI x ev).isSome]) ∧ w = w' := by
  by_cases k1 : x = 1
  · subst k1
    by_cases q1 : ev = 1
    · subst q1
      go_enter Tryz.func114, Tryz.ntmps114
      go_wp2
      go_ret2
      exact ⟨rfl, rfl⟩
    · by_cases q2 : ev = 2
      · subst q2
        go_enter Tryz.func114, Tryz.ntmps114
        go_wp2
        go_ret2
        exact ⟨rfl, rfl⟩
      · by_cases q3 : ev = 6
        · subst q3
          go_enter Tryz.func114, Tryz.ntmps114
          go_wp2
          go_ret2
          exact ⟨rfl, rfl⟩
        · have e : behindI 1 ev = none := by simp [behindI, q1, q2, q3]
          rw [e]
          have p1 : (ev == 1) = false := beq_false_of_ne q1
          have p2 : (ev == 2) = false := beq_false_of_ne q2
          have p3 : (ev == 6) = false := beq_false_of_ne q3
          clear q1 q2 q3 e
          go_enter Tryz.func114, Tryz.ntmps114
          go_wp2
          go_ret2
          exact ⟨rfl, rfl⟩
  · by_cases k3 : x = 3
    · subst k3
      by_cases q1 : ev = 3
      · subst q1
        go_enter Tryz.func114, Tryz.ntmps114
        go_wp2
        go_ret2
        exact ⟨rfl, rfl⟩
      · have e : behindI 3 ev = none := by simp [behindI, q1]
        rw [e]
        have p1 : (ev == 3) = false := beq_false_of_ne q1
        clear q1 e k1
        go_enter Tryz.func114, Tryz.ntmps114
        go_wp2
        go_ret2
        exact ⟨rfl, rfl⟩
    · by_cases k4 : x = 4
      · subst k4
        by_cases q1 : ev = 4
        · subst q1
          go_enter Tryz.func114, Tryz.ntmps114
          go_wp2
          go_ret2
          exact ⟨rfl, rfl⟩
        · by_cases q2 : ev = 5
          · subst q2
            go_enter Tryz.func114, Tryz.ntmps114
            go_wp2
            go_ret2
            exact ⟨rfl, rfl⟩
          · have e : behindI 4 ev = none := by simp [behindI, q1, q2]
            rw [e]
            have p1 : (ev == 4) = false := beq_false_of_ne q1
            have p2 : (ev == 5) = false := beq_false_of_ne q2
            clear q1 q2 e
            go_enter Tryz.func114, Tryz.ntmps114
            go_wp2
            go_ret2
            exact ⟨rfl, rfl⟩
      · have e : behindI x ev = none := by simp [behindI, k1, k3, k4]
        rw [e]
        have p1 : (x == 1) = false := beq_false_of_ne k1
        have p2 : (x == 3) = false := beq_false_of_ne k3
        have p3 : (x == 4) = false := beq_false_of_ne k4
        clear k1 k3 k4 e
        go_enter Tryz.func114, Tryz.ntmps114
        go_wp2
        go_ret2
        exact ⟨rfl, rfl⟩
theorem se_end {w : World} {p b : Nat} {s : SS} (h : SeatAt w p b s) (t ev : Int) :
    Calls Tryz.prog 112 #[.pointer (some ⟨p, 0, none⟩), .int .i64 t, .int .i64 ev] w (SeatPost w p b (s.fin t ev) (.bool (endB s t ev))) := by
  by_cases ht : 0 ≤ t ∧ t < s.n
  · have eO : endO s t ev = behindI (s.st t.toNat) ev := if_pos ht
    obtain ⟨k, rfl⟩ := Int.eq_ofNat_of_zero_le ht.1
    rw [Int.toNat_natCast] at eO
    have hk : k < s.n := by omega
    have c := se_ctx h k hk
    have c1 := h.st hk
    have c2 := se_behind w (s.st k) ev
    have f0 := h.frozen (k * 2)
    have f1 := h.frozen (k * 2 + 1)
    have c3 := h.dl hk
    cases hO : behindI (s.st k) ev with
    | none =>
      rw [hO] at c2 eO
      rw [show endB s (k : Int) ev = false from by unfold endB; rw [eO]; rfl, show s.fin (k : Int) ev = s from by unfold SS.fin; rw [eO]]
      have HE := Lib.hid h
      generalize s.st k = x at *
      simp only [Option.getD_none, Option.isSome_none] at c2
      clear h eO hO
      go_enter Tryz.func112, Tryz.ntmps112
      go_wp2_with (first
        | (go_at_call 105; with_reducible refine c.mono ?_; rintro e w' ⟨rfl, rfl⟩)
        | (go_at_call 114; with_reducible refine c2.mono ?_; rintro e w' ⟨rfl, rfl⟩))
      go_ret
      exact ⟨rfl, HE.out, Wrote.refl _ _⟩
    | some y =>
      rw [hO] at c2 eO
      rw [show endB s (k : Int) ev = true from by unfold endB; rw [eO]; rfl, show s.fin (k : Int) ev = s.set k y 0 from by unfold SS.fin; rw [eO, Int.toNat_natCast]]
      have HE := Lib.hid (h.set2 hk y 0)
      generalize s.st k = x at *
      simp only [Option.getD_some, Option.isSome_some] at c2
      clear h eO hO
      go_enter Tryz.func112, Tryz.ntmps112
      go_wp2_with (first
        | (go_at_call 105; with_reducible refine c.mono ?_; rintro e w' ⟨rfl, rfl⟩)
        | (go_at_call 114; with_reducible refine c2.mono ?_; rintro e w' ⟨rfl, rfl⟩))
      go_ret
      exact ⟨rfl, HE.out.1, HE.out.2⟩
  · have eO : endO s t ev = none := if_neg ht
    rw [show endB s t ev = false from by unfold endB; rw [eO]; rfl, show s.fin t ev = s from by unfold SS.fin; rw [eO]]
    have c := se_ctx_no h t ht
    have HE := Lib.hid h
    clear h eO
    go_enter Tryz.func112, Tryz.ntmps112
    go_wp2_with (go_at_call 105; with_reducible refine c.mono ?_; rintro e w' ⟨rfl, rfl⟩)
    go_ret
    exact ⟨rfl, HE.out, Wrote.refl _ _⟩
end Go.Proofs.YteokghghpmppnaaGreatDoor
