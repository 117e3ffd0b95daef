/- The contract of the document's example beside the laws on package plan. -/
import Derived.Test.YtagobcecieplfaaPlanPort
import Derived.Test.YtagobcecieplfaaPlanRef
namespace Go.Proofs.Ytagobcecieplfaa
open Go.RowKit
set_option linter.unusedVariables false

/-- a plan that was made behind a world: what there is now, told from that world on -/
def NewSt (w0 : World) (p : Nat) (t : Int) (hs vs : List Int) (w : World) : Prop :=
  ∃ q : Pl, q.p = p ∧ PlanAt w q t hs vs ∧ (∀ k, q.F k → w0.heap.size ≤ k) ∧ Wrote Nil w0 w
def NewPlanPost (w0 : World) (t : Int) (e : Ending) (w' : World) : Prop :=
  ∃ p, e = .returned (.pointer (some ⟨p, 0, none⟩)) ∧ NewSt w0 p t [] [] w'
theorem new_st (t : Int) (w : World) : Calls Try.prog 6 #[.int .i64 t] w (NewPlanPost w t) := by
  refine (plnew_any t w).mono ?_
  rintro e w' ⟨q, rfl, hP, hF, hW⟩
  exact ⟨q.p, rfl, q, rfl, hP, hF, hW⟩
theorem NewSt.step {w0 w w' : World} {p : Nat} {t : Int} {hs' vs' : List Int} {r : Value} {e : Ending} {q : Pl} (hF : ∀ k, q.F k → w0.heap.size ≤ k) (hW : Wrote Nil w0 w) (hp : q.p = p) (h : PlanPost w q t hs' vs' r e w') : e = .returned r ∧ NewSt w0 p t hs' vs' w' := by
  obtain ⟨he, q', hp', hP, hW', hC⟩ := h
  refine ⟨he, q', hp'.trans hp, hP, fun k hk => ?_, hW.trans hW' fun b hb x => absurd (hF b x) (by omega)⟩
  rcases hC k hk with x | x
  · exact hF k x
  · have := hW.size
    omega
theorem word_st {w0 w : World} {p : Nat} {t : Int} {hs vs : List Int} (h : NewSt w0 p t hs vs w) (home v : Int) (hL : hs.length ≤ 1000000) :
    Calls Try.prog 8 #[.pointer (some ⟨p, 0, none⟩), .int .i64 home, .int .u32 v] w fun e w' => e = .returned (.int .i64 (hs.length : Nat)) ∧ NewSt w0 p t (hs ++ [home]) (vs ++ [v]) w' := by
  obtain ⟨q, hp, hP, hF, hW⟩ := h
  have c := plword_any hP home v hL
  rw [hp] at c
  exact c.mono fun e w' h' => NewSt.step hF hW hp h'
theorem row_st {w0 w : World} {p : Nat} {t : Int} {hs vs : List Int} (h : NewSt w0 p t hs vs w) (n home v : Int) (hL : hs.length ≤ 900000) :
    Calls Try.prog 9 #[.pointer (some ⟨p, 0, none⟩), .int .i64 n, .int .i64 home, .int .u32 v] w fun e w' => e = .returned (.int .i64 (hs.length : Nat)) ∧ NewSt w0 p t (hs ++ List.replicate (rowN n) home) (vs ++ List.replicate (rowN n) v) w' := by
  obtain ⟨q, hp, hP, hF, hW⟩ := h
  have c := plrow_any hP n home v hL
  rw [hp] at c
  exact c.mono fun e w' h' => NewSt.step hF hW hp h'

set_option maxRecDepth 100000 in
set_option maxHeartbeats 1000000 in
theorem awake_any (w : World) :
    Calls Try.prog 5 #[] w fun e w' => e = .returned (.bool true) ∧ Wrote Nil w w' := by
  go_enter Try.func5, Try.ntmps5
  go_wp2_with (first
    | (go_at_call 6; with_reducible refine (new_st 1 _).mono ?_; intro e w1 h1; unfold NewPlanPost at h1; obtain ⟨p, rfl, hP⟩ := h1)
    | (go_at_call 8; have c : Calls Try.prog 8 #[.pointer (some ⟨p, 0, none⟩), .int .i64 0, .int .u32 1] w1 fun e w' => e = .returned (.int .i64 0) ∧ NewSt w p 1 [0] [1] w' := word_st hP 0 1 (by decide); with_reducible refine c.mono ?_; rintro e w2 ⟨rfl, hP2⟩)
    | (go_at_call 9; have c : Calls Try.prog 9 #[.pointer (some ⟨p, 0, none⟩), .int .i64 3, .int .i64 0, .int .u32 2] w2 fun e w' => e = .returned (.int .i64 1) ∧ NewSt w p 1 [0, 0, 0, 0] [1, 2, 2, 2] w' := row_st hP2 3 0 2 (by decide); with_reducible refine c.mono ?_; rintro e w3 ⟨rfl, hP3⟩)
    | (go_at_call 8; have c : Calls Try.prog 8 #[.pointer (some ⟨p, 0, none⟩), .int .i64 0, .int .u32 3] w3 fun e w' => e = .returned (.int .i64 4) ∧ NewSt w p 1 [0, 0, 0, 0, 0] [1, 2, 2, 2, 3] w' := word_st hP3 0 3 (by decide); with_reducible refine c.mono ?_; rintro e w4 ⟨rfl, hP4⟩))
  go_ret
  obtain ⟨_, _, _, _, hW⟩ := hP4
  exact ⟨rfl, hW⟩
end Go.Proofs.Ytagobcecieplfaa
