/- The contract of the law's May. -/
import Derived.Test.YtkmikkjjnbikdaaGreatCohortLaw
import Derived.Test.YtkmikkjjnbikdaaGreatCohRight
namespace Go.Proofs.YtkmikkjjnbikdaaGreat
open Go.RowKit Go.BigFrame
set_option linter.unusedVariables false
set_option maxRecDepth 100000

def PlN (w0 : World) (p : Nat) (t : Int) (hs vs : List Int) (w : World) : Prop := ∃ q : Pl, q.p = p ∧ PlanAt w q t hs vs ∧ (∀ k, q.F k → w0.heap.size ≤ k) ∧ Wrote Nil w0 w
def PnPost (w0 : World) (p : Nat) (t : Int) (hs vs : List Int) (v : Value) (e : Ending) (w' : World) : Prop := e = .returned v ∧ PlN w0 p t hs vs w'
section
variable {w0 w : World} {p : Nat} {t : Int} {hs vs : List Int}
theorem PlN.after {w' : World} (h : PlN w0 p t hs vs w) (k : Wrote Nil w w') : PlN w0 p t hs vs w' := by
  obtain ⟨q, hq, hP, hn, hW⟩ := h
  exact ⟨q, hq, hP.after k, hn, hW.nil k⟩
theorem PlN.old (h : PlN w0 p t hs vs w) : Wrote Nil w0 w := by obtain ⟨q, hq, hP, hn, hW⟩ := h; exact hW
theorem pn_row (h : PlN w0 p t hs vs w) (n home v : Int) (hL : hs.length ≤ 900000) :
    Calls Tryz.prog 23 #[.pointer (some ⟨p, 0, none⟩), .int .i64 n, .int .i64 home, .int .u32 v] w (PnPost w0 p t (hs ++ List.replicate (rowN n) home) (vs ++ List.replicate (rowN n) v) (.int .i64 (hs.length : Nat))) := by
  obtain ⟨q, rfl, hP, hn, hW⟩ := h
  refine (plrow_any hP n home v hL).mono ?_
  intro e w' hq
  unfold PlanPost at hq
  obtain ⟨rfl, q', hq', hP', hW', hC⟩ := hq
  exact ⟨rfl, q', hq', hP', fun k hk => by
    rcases hC k hk with e | e
    · exact hn k e
    · exact Nat.le_trans hW.size e, hW.trans hW' fun b hb e => by have := hn b e; unfold Nil; omega⟩
theorem pn_len (h : PlN w0 p t hs vs w) : Calls Tryz.prog 26 #[.pointer (some ⟨p, 0, none⟩)] w fun e w' => e = .returned (.int .i64 (hs.length : Nat)) ∧ w = w' := by
  obtain ⟨q, rfl, hP, hn, hW⟩ := h
  exact (pllen_any hP).mono fun _ _ h => ⟨h.1, h.2.symm⟩
def PnLock (w0 : World) (p : Nat) (t : Int) (hs vs : List Int) (n : Nat) (zs : List Int) (G K B : Int) (base : Nat) (e : Ending) (w' : World) : Prop :=
  ∃ L : Lp, e = .returned (.tuple #[.pointer (some ⟨L.lb, 0, none⟩), .int .i64 0]) ∧ PlN w0 p t hs vs w' ∧ (∀ ps, FlRaw w' L (.pointer none) (.pointer none) (fun _ => .pointer none) (newCo (hNo zs) n G K B base ps) (fun _ => callsV)) ∧ w0.heap.size ≤ L.lo
theorem pn_new (h : PlN w0 p t hs vs w) {b o n cap : Nat} {zs : List Int} {G K B : Int} (hr : RowAt .i64 w0 (some ⟨b, o, none⟩) n zs) (hb : b < w0.heap.size) (ho : homesOK zs = true) (n1 : 1 ≤ n) (n2 : n ≤ 64) (hL : hs.length ≤ 700000) (hc : rightB G K B = true) :
    Calls Tryz.prog 24 #[.pointer (some ⟨p, 0, none⟩), .slice (some ⟨b, o, none⟩) n cap, .int .i64 G, .int .i64 K, .int .i64 B] w (PnLock w0 p t (hs ++ gH G ++ lH K (fun c => cntH (hNo zs) c n) 8) (vs ++ List.replicate (8 + inZ G 8 + lZ K (fun c => cntH (hNo zs) c n) 8) 0) n zs G K B hs.length) := by
  obtain ⟨q, rfl, hP, hn, hW⟩ := h
  have s0 := hW.size
  refine (fn_new hP (hr.after hW) ho (hNo_of hr.len ho) n1 n2 hL (fun e => by have := hn b e; omega) (Nat.lt_of_lt_of_le hb s0) hc).mono ?_
  intro e w' hq
  unfold NewCoPost at hq
  obtain ⟨L, q', rfl, hR, hl, _, hqq, hP2, hW2, hC2⟩ := hq
  have hn2 : ∀ k, q'.F k → w0.heap.size ≤ k := fun k hk => by
    rcases hC2 k hk with e | e
    · exact hn k e
    · omega
  have hW3 : Wrote Nil w0 w' := hW.trans hW2 fun b hb e => by have := hn b e; unfold Nil; omega
  exact ⟨L, rfl, ⟨q', hqq, hP2, hn2, hW3⟩, hR, by omega⟩
end
end Go.Proofs.YtkmikkjjnbikdaaGreat
namespace Go.Proofs.YtkmikkjjnbikdaaGreat
open Go.RowKit Go.BigFrame
set_option linter.unusedVariables false
set_option maxRecDepth 100000
set_option maxHeartbeats 4000000

theorem right_of {G K B : Int} {a b c d : Bool} (ha : decide (G ∈ [(1 : Int), 4]) = a) (hb : decide (K ∈ [(1 : Int), 3, 4]) = b) (hc : decide (1 ≤ B) = c) (hd : decide (B ≤ 1000) = d) : rightB G K B = (a && b && c && d) := by unfold rightB; rw [ha, hb, hc, hd]
theorem fl_may (G K B : Int) (w : World) : Calls Tryz.prog 9 #[.agg #[.int .i64 G, .int .i64 K, .int .i64 B]] w fun e w' => e = .returned (.bool (rightB G K B)) ∧ Wrote Nil w w' := by
  obtain ⟨X, hX⟩ : ∃ X, X = w.alloc (.cells #[.int .i64 G, .int .i64 K, .int .i64 B] 24) := ⟨_, rfl⟩
  have hW : Wrote Nil w X := by rw [hX]; exact (Wrote.refl _ w).alloc _
  have HW := Lib.hid hW
  rw [hX] at HW
  clear hW hX X
  obtain ⟨r, hr⟩ : ∃ r, r = rightB G K B := ⟨_, rfl⟩
  rw [← hr]
  by_cases g1 : G = 1
  · subst g1
    by_cases k1 : K = 1
    · subst k1
      rw [right_of (a := true) (b := true) (by decide) (by decide) rfl rfl] at hr
      by_cases b1 : 1 ≤ B
      · rw [decide_eq_true b1] at hr
        have HR := Lib.hid hr
        clear hr
        go_enter Tryz.func9, Tryz.ntmps9
        go_wp2
        go_ret
        exact ⟨by rw [HR.out]; rfl, HW.out⟩
      · rw [decide_eq_false b1] at hr
        have HR := Lib.hid hr
        clear hr
        go_enter Tryz.func9, Tryz.ntmps9
        go_wp2
        go_ret
        exact ⟨by rw [HR.out]; rfl, HW.out⟩
    by_cases k3 : K = 3
    · subst k3
      rw [right_of (a := true) (b := true) (by decide) (by decide) rfl rfl] at hr
      by_cases b1 : 1 ≤ B
      · rw [decide_eq_true b1] at hr
        have HR := Lib.hid hr
        clear hr
        go_enter Tryz.func9, Tryz.ntmps9
        go_wp2
        go_ret
        exact ⟨by rw [HR.out]; rfl, HW.out⟩
      · rw [decide_eq_false b1] at hr
        have HR := Lib.hid hr
        clear hr
        go_enter Tryz.func9, Tryz.ntmps9
        go_wp2
        go_ret
        exact ⟨by rw [HR.out]; rfl, HW.out⟩
    by_cases k4 : K = 4
    · subst k4
      rw [right_of (a := true) (b := true) (by decide) (by decide) rfl rfl] at hr
      by_cases b1 : 1 ≤ B
      · rw [decide_eq_true b1] at hr
        have HR := Lib.hid hr
        clear hr
        go_enter Tryz.func9, Tryz.ntmps9
        go_wp2
        go_ret
        exact ⟨by rw [HR.out]; rfl, HW.out⟩
      · rw [decide_eq_false b1] at hr
        have HR := Lib.hid hr
        clear hr
        go_enter Tryz.func9, Tryz.ntmps9
        go_wp2
        go_ret
        exact ⟨by rw [HR.out]; rfl, HW.out⟩
    rw [right_of (a := true) (b := false) (by decide) (decide_eq_false (by simp [k1, k3, k4])) rfl rfl] at hr
    have q3 : (K == 1) = false := beq_false_of_ne k1
    have q4 : (K == 3) = false := beq_false_of_ne k3
    have q5 : (K == 4) = false := beq_false_of_ne k4
    have HR := Lib.hid hr
    clear hr k1 k3 k4
    go_enter Tryz.func9, Tryz.ntmps9
    go_wp2
    go_ret
    exact ⟨by rw [HR.out]; rfl, HW.out⟩
  by_cases g4 : G = 4
  · subst g4
    by_cases k1 : K = 1
    · subst k1
      rw [right_of (a := true) (b := true) (by decide) (by decide) rfl rfl] at hr
      by_cases b1 : 1 ≤ B
      · rw [decide_eq_true b1] at hr
        have HR := Lib.hid hr
        clear hr
        go_enter Tryz.func9, Tryz.ntmps9
        go_wp2
        go_ret
        exact ⟨by rw [HR.out]; rfl, HW.out⟩
      · rw [decide_eq_false b1] at hr
        have HR := Lib.hid hr
        clear hr
        go_enter Tryz.func9, Tryz.ntmps9
        go_wp2
        go_ret
        exact ⟨by rw [HR.out]; rfl, HW.out⟩
    by_cases k3 : K = 3
    · subst k3
      rw [right_of (a := true) (b := true) (by decide) (by decide) rfl rfl] at hr
      by_cases b1 : 1 ≤ B
      · rw [decide_eq_true b1] at hr
        have HR := Lib.hid hr
        clear hr
        go_enter Tryz.func9, Tryz.ntmps9
        go_wp2
        go_ret
        exact ⟨by rw [HR.out]; rfl, HW.out⟩
      · rw [decide_eq_false b1] at hr
        have HR := Lib.hid hr
        clear hr
        go_enter Tryz.func9, Tryz.ntmps9
        go_wp2
        go_ret
        exact ⟨by rw [HR.out]; rfl, HW.out⟩
    by_cases k4 : K = 4
    · subst k4
      rw [right_of (a := true) (b := true) (by decide) (by decide) rfl rfl] at hr
      by_cases b1 : 1 ≤ B
      · rw [decide_eq_true b1] at hr
        have HR := Lib.hid hr
        clear hr
        go_enter Tryz.func9, Tryz.ntmps9
        go_wp2
        go_ret
        exact ⟨by rw [HR.out]; rfl, HW.out⟩
      · rw [decide_eq_false b1] at hr
        have HR := Lib.hid hr
        clear hr
        go_enter Tryz.func9, Tryz.ntmps9
        go_wp2
        go_ret
        exact ⟨by rw [HR.out]; rfl, HW.out⟩
    rw [right_of (a := true) (b := false) (by decide) (decide_eq_false (by simp [k1, k3, k4])) rfl rfl] at hr
    have q3 : (K == 1) = false := beq_false_of_ne k1
    have q4 : (K == 3) = false := beq_false_of_ne k3
    have q5 : (K == 4) = false := beq_false_of_ne k4
    have HR := Lib.hid hr
    clear hr k1 k3 k4
    go_enter Tryz.func9, Tryz.ntmps9
    go_wp2
    go_ret
    exact ⟨by rw [HR.out]; rfl, HW.out⟩
  rw [right_of (a := false) (decide_eq_false (by simp [g1, g4])) rfl rfl rfl] at hr
  have q1 : (G == 1) = false := beq_false_of_ne g1
  have q2 : (G == 4) = false := beq_false_of_ne g4
  have HR := Lib.hid hr
  clear hr g1 g4
  go_enter Tryz.func9, Tryz.ntmps9
  go_wp2
  go_ret
  exact ⟨by rw [HR.out]; rfl, HW.out⟩
end Go.Proofs.YtkmikkjjnbikdaaGreat
