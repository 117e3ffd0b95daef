/- The contract of homed.Seats: the seats of contexts with homes, or none, if a home may not be; and of slices.Contains: is a number in a row? -/
import Derived.Test.YteokghghpmppnaaGreatDoorSeatNew
import Derived.Test.YteokghghpmppnaaGreatDoorMemNew
import Derived.BigRegion
namespace Go.Proofs.YteokghghpmppnaaGreatDoor
open Go.RowKit
set_option linter.unusedVariables false
set_option maxRecDepth 100000

theorem hm_outside (x : Int) (w : World) : Calls Tryz.prog 41 #[.int .i64 x] w fun e w' => e = .returned (.bool (!okH x)) ∧ w = w' := by
  by_cases h0 : x < 0
  · have e : okH x = false := decide_eq_false (by omega)
    rw [e]
    clear e
    go_enter Tryz.func41, Tryz.ntmps41
    go_wp2
    go_ret
    exact ⟨rfl, rfl⟩
  · by_cases h8 : 8 ≤ x
    · have e : okH x = false := decide_eq_false (by omega)
      rw [e]
      clear e
      go_enter Tryz.func41, Tryz.ntmps41
      go_wp2
      go_ret
      exact ⟨rfl, rfl⟩
    · have e : okH x = true := decide_eq_true (by omega)
      rw [e]
      clear e
      go_enter Tryz.func41, Tryz.ntmps41
      go_wp2
      go_ret
      exact ⟨rfl, rfl⟩
def IxPost (b : Bool) (w : World) (e : Ending) (w' : World) : Prop := (∃ r : Int, e = .returned (.int .i64 r) ∧ decide (0 ≤ r) = b) ∧ w = w'
theorem hm_index {w : World} {sa : Option Addr} {n cap : Nat} {hs : List Int} (h : RowAt .i64 w sa n hs) (hL : n ≤ 1000000) :
    Calls Tryz.prog 53 #[.slice sa n cap, .func (.func 41) #[] #[]] w (IxPost (!homesOK hs) w) := by
  have hlen := h.len
  have hat := h.at
  clear h
  go_enter Tryz.func53, Tryz.ntmps53
  go_wp2
  go_loop [5, 8] (fun _ i => ∃ k : Nat, k ≤ n ∧ i = .int .i64 k ∧ Hid ((hs.take k).all okH = true)) (fun _ i => n - (intOf i).toNat)
  case atStart => exact ⟨0, Nat.zero_le _, rfl, Lib.hid (by simp)⟩
  case round =>
    obtain ⟨k, hk, rfl, hok⟩ := hrel
    by_cases hlt : k < n
    · rcases hat with h0 | ⟨b, o, rfl, hc⟩
      · omega
      have c0 := hc k hlt
      have cx := hm_outside (hs.getD k 0) w
      cases hx : okH (hs.getD k 0)
      · have hb : Hid (homesOK hs = false) := Lib.hid (ok_bad (by omega) hx)
        rw [hx] at cx
        clear hok hx
        generalize hs.getD k 0 = x at c0 cx
        clear hc
        go_wp2_with fail
        refine cx.mono ?_
        rintro e w' ⟨rfl, rfl⟩
        clear cx
        go_wp2
        go_ret
        refine ⟨⟨_, rfl, ?_⟩, rfl⟩
        rw [hb.out]
        exact decide_eq_true (by omega)
      · have hb : Hid ((hs.take (k + 1)).all okH = true) := Lib.hid (ok_step (by omega) hok.out hx)
        rw [hx] at cx
        clear hok hx
        generalize hs.getD k 0 = x at c0 cx
        clear hc
        go_wp2_with fail
        refine cx.mono ?_
        rintro e w' ⟨rfl, rfl⟩
        clear cx
        go_wp2
        go_round
        case rel => exact ⟨k + 1, by omega, by go_num, hb⟩
        case measure => simp [intOf]; omega
    · have hb : Hid (homesOK hs = true) := Lib.hid (by have h := hok.out; rw [List.take_of_length_le (by omega)] at h; exact h)
      obtain rfl : k = n := by omega
      clear hat hok
      go_wp2
      go_ret
      refine ⟨⟨_, rfl, ?_⟩, rfl⟩
      rw [hb.out]
      rfl
theorem hm_contains {w : World} {sa : Option Addr} {n cap : Nat} {hs : List Int} (h : RowAt .i64 w sa n hs) (hL : n ≤ 1000000) :
    Calls Tryz.prog 42 #[.slice sa n cap, .func (.func 41) #[] #[]] w fun e w' => e = .returned (.bool (!homesOK hs)) ∧ w = w' := by
  have c := hm_index (cap := cap) h hL
  clear h
  generalize (!homesOK hs) = b at *
  go_enter Tryz.func42, Tryz.ntmps42
  go_wp2_with (go_at_call 53; with_reducible refine c.mono ?_; intro e w' hq; unfold IxPost at hq; obtain ⟨⟨r, rfl, hr⟩, rfl⟩ := hq; have HR := Lib.hid hr; clear hr)
  go_ret
  exact ⟨by rw [← HR.out]; rfl, rfl⟩

/-! ### the seats -/
theorem hm_seats {w : World} {sa : Option Addr} {n cap : Nat} {hs : List Int} (h : RowAt .i64 w sa n hs) (ho : homesOK hs = true) (timed probed : Bool) (n1 : 1 ≤ n) (n2 : n ≤ 64) :
    Calls Tryz.prog 24 #[.slice sa n cap, .bool timed, .bool probed] w (NewSeatPost w n timed probed) := by
  have c := hm_contains (cap := cap) h (by omega)
  have cS := se_new n timed probed n1 n2 w
  rw [ho] at c
  clear h ho
  go_enter Tryz.func24, Tryz.ntmps24
  go_wp2_with (first
    | (go_at_call 42; (with_reducible refine c.mono ?_); rintro e w' ⟨rfl, rfl⟩)
    | (go_at_call 43; (with_reducible refine cS.mono ?_); intro e wq hq; unfold NewSeatPost at hq; obtain ⟨p, sb, rfl, hS, hp, hsb, hW⟩ := hq; have HS := Lib.hid (And.intro hS (And.intro hp (And.intro hsb hW))); clear hS hp hsb hW))
  go_ret2
  exact ⟨p, sb, rfl, HS.out.1, HS.out.2.1, HS.out.2.2.1, HS.out.2.2.2⟩
theorem hm_none {w : World} {sa : Option Addr} {n cap : Nat} {hs : List Int} (h : RowAt .i64 w sa n hs) (timed probed : Bool) (hL : n ≤ 1000000) (hn : homesOK hs = false ∨ n < 1 ∨ 64 < n) :
    Calls Tryz.prog 24 #[.slice sa n cap, .bool timed, .bool probed] w fun e w' => e = .returned (.tuple #[.pointer none, .int .i64 1]) ∧ w = w' := by
  have c := hm_contains (cap := cap) h hL
  cases ho : homesOK hs
  · rw [ho] at c
    clear h ho hn
    go_enter Tryz.func24, Tryz.ntmps24
    go_wp2_with (first
      | (go_at_call 42; (with_reducible refine c.mono ?_); rintro e w' ⟨rfl, rfl⟩))
    go_ret2
    exact ⟨rfl, rfl⟩
  · have cS := se_new_no (n : Int) timed probed (by rw [ho] at hn; simp at hn; omega) w
    rw [ho] at c
    clear h ho hn
    go_enter Tryz.func24, Tryz.ntmps24
    go_wp2_with (first
      | (go_at_call 42; (with_reducible refine c.mono ?_); rintro e w' ⟨rfl, rfl⟩)
      | (go_at_call 43; (with_reducible refine cS.mono ?_); rintro e w' ⟨rfl, rfl⟩))
    go_ret2
    exact ⟨rfl, rfl⟩
end Go.Proofs.YteokghghpmppnaaGreatDoor
