/- The contract of (*plan.Plan).Port: what port.New tells of the plan's threads, homes and values. -/
import Derived.Test.YteokghghpmppnaaGreatDoorPlan
import Derived.BigRegion
namespace Go.Proofs.YteokghghpmppnaaGreatDoor
open Go.RowKit
set_option linter.unusedVariables false
set_option maxRecDepth 100000

theorem pnew_big {w : World} {sa sb : Option Addr} {m c1 c2 : Nat} (t : Int) (h1 : 1 ≤ t) (h2 : t ≤ 64) (hm : 4096 < m) (hm2 : m ≤ 9223372036854775807) :
    Calls Tryz.prog 23 #[.int .i64 t, .slice sa m c1, .slice sb m c2] w fun e w' => e = .returned (.tuple #[.pointer none, .int .i64 5]) ∧ w' = w := by
  have cM := new_big (w := w) (sa := sa) (c := c1) hm hm2
  go_enter Tryz.func23, Tryz.ntmps23
  go_wp2_with (go_at_call 38; with_reducible refine cM.mono ?_; rintro e w1 ⟨rfl, rfl⟩)
  go_ret2
  exact ⟨rfl, rfl⟩

set_option maxHeartbeats 1000000 in
theorem port_any {w : World} {q : Pl} {t : Int} {hs vs : List Int} (h : PlanAt w q t hs vs) (Q : Value → Int → World → Prop)
    (hc : Calls Tryz.prog 23 #[.int .i64 t, q.hv, q.vv] w.drew fun e w' => ∃ p z, e = .returned (.tuple #[p, .int .i64 z]) ∧ Q p z w') :
    Calls Tryz.prog 14 #[.pointer (some ⟨q.p, 0, none⟩)] w fun e w' => ∃ p z, e = .returned (.tuple #[p, .int .i64 z]) ∧ Q p z w' := by
  have c0 := h.cell0
  have c2 := h.cell2
  have c3 := h.cell3
  obtain ⟨so, cp, hso⟩ := own_form h.rows.homes
  obtain ⟨sv, cv, hsv⟩ := own_form h.rows.values
  rw [hso] at c2 hc
  rw [hsv] at c3 hc
  generalize min hs.length 4097 = n at c2 c3 hc
  clear h hso hsv
  go_enter Tryz.func14, Tryz.ntmps14
  go_wp2
  go_region_with (go_at_call 23; with_reducible refine hc.mono ?_; rintro e w1 ⟨pv, z, rfl, hQ⟩)
  all_goals
    go_wp2
    go_ret2
    exact ⟨_, _, rfl, hQ⟩

/-- the two rows, as port.New takes them -/
theorem plan_rows {w : World} {q : Pl} {t : Int} {hs vs : List Int} (h : PlanAt w q t hs vs) :
    ∃ so cp sv cv, q.hv = .slice so (min hs.length 4097) cp ∧ q.vv = .slice sv (min hs.length 4097) cv ∧ RowAt .i64 w so (min hs.length 4097) (hs.take 4097) ∧ RowAt .u32 w sv (min hs.length 4097) (vs.take 4097) := by
  obtain ⟨so, cp, h1, _, _, h2, _⟩ := own_rowAt h.rows.homes
  obtain ⟨sv, cv, h3, _, _, h4, _⟩ := own_rowAt h.rows.values
  exact ⟨so, cp, sv, cv, h1, h3, h2, h4⟩

theorem plport_good {w : World} {q : Pl} {n : Nat} {hs vs : List Int} (h : PlanAt w q n hs vs) (wf : ∀ j, 0 ≤ vs.getD j 0 ∧ vs.getD j 0 < 4294967296) (n1 : 1 ≤ n) (n2 : n ≤ 64) (hm : hs.length ≤ 4096) (ho : homesOK hs = true) :
    Calls Tryz.prog 14 #[.pointer (some ⟨q.p, 0, none⟩)] w (NewPortPost w hs (newS n vs)) := by
  obtain ⟨so, cp, sv, cv, e1, e2, r1, r2⟩ := plan_rows h
  have hl := h.len
  rw [List.take_of_length_le (by omega), Nat.min_eq_left (by omega)] at r1 r2
  rw [Nat.min_eq_left (by omega)] at e1 e2
  have hW : Wrote Nil w w.drew := (Wrote.refl _ _).drew
  refine (port_any h (fun p z w' => NewPortPost w hs (newS n vs) (.returned (.tuple #[p, .int .i64 z])) w') ?_).mono ?_
  · rw [e1, e2]
    refine (pnew_good (c1 := cp) (c2 := cv) hW (r1.after hW) (r2.after hW) wf n1 n2 hm ho).mono ?_
    rintro e w' ⟨k, rfl, h1, h2, h3, h4⟩
    exact ⟨_, _, rfl, k, rfl, h1, h2, h3, h4⟩
  · rintro e w' ⟨p, z, rfl, hQ⟩
    exact hQ

def PortFail (w : World) (z : Int) (e : Ending) (w' : World) : Prop := e = .returned (.tuple #[.pointer none, .int .i64 z]) ∧ Wrote Nil w w'
theorem port_fail {w : World} {q : Pl} {t z : Int} {hs vs : List Int} (h : PlanAt w q t hs vs)
    (hc : Calls Tryz.prog 23 #[.int .i64 t, q.hv, q.vv] w.drew fun e w' => e = .returned (.tuple #[.pointer none, .int .i64 z]) ∧ Wrote Nil w w') :
    Calls Tryz.prog 14 #[.pointer (some ⟨q.p, 0, none⟩)] w (PortFail w z) := by
  refine (port_any h (fun p z' w' => p = .pointer none ∧ z' = z ∧ Wrote Nil w w') (hc.mono ?_)).mono ?_
  · rintro e w' ⟨rfl, hW⟩
    exact ⟨_, _, rfl, rfl, rfl, hW⟩
  · rintro e w' ⟨p, z', rfl, rfl, rfl, hW⟩
    exact ⟨rfl, hW⟩
theorem plport_bad {w : World} {q : Pl} {t : Int} {hs vs : List Int} (h : PlanAt w q t hs vs) (ht : t < 1 ∨ (¬ t < 1 ∧ 64 < t)) :
    Calls Tryz.prog 14 #[.pointer (some ⟨q.p, 0, none⟩)] w (PortFail w 1) := by
  obtain ⟨so, cp, sv, cv, e1, e2, r1, r2⟩ := plan_rows h
  refine port_fail h ?_
  rw [e1, e2]
  refine (pnew_bad t (by rcases ht with x | x; exact .inl x; exact .inr (.inl x)) (by omega) (by omega)).mono ?_
  rintro e w' ⟨rfl, rfl⟩
  exact ⟨rfl, (Wrote.refl _ _).drew⟩
theorem plport_big {w : World} {q : Pl} {t : Int} {hs vs : List Int} (h : PlanAt w q t hs vs) (h1 : 1 ≤ t) (h2 : t ≤ 64) (hm : 4096 < hs.length) :
    Calls Tryz.prog 14 #[.pointer (some ⟨q.p, 0, none⟩)] w (PortFail w 5) := by
  obtain ⟨so, cp, sv, cv, e1, e2, r1, r2⟩ := plan_rows h
  refine port_fail h ?_
  rw [e1, e2]
  refine (pnew_big t h1 h2 (by omega) (by omega)).mono ?_
  rintro e w' ⟨rfl, rfl⟩
  exact ⟨rfl, (Wrote.refl _ _).drew⟩
theorem plport_homes {w : World} {q : Pl} {t : Int} {hs vs : List Int} (h : PlanAt w q t hs vs) (h1 : 1 ≤ t) (h2 : t ≤ 64) (hm : hs.length ≤ 4096) (ho : homesOK hs = false) :
    Calls Tryz.prog 14 #[.pointer (some ⟨q.p, 0, none⟩)] w (PortFail w 1) := by
  obtain ⟨so, cp, sv, cv, e1, e2, r1, r2⟩ := plan_rows h
  rw [List.take_of_length_le (by omega), Nat.min_eq_left (by omega)] at r1
  rw [Nat.min_eq_left (by omega)] at e1 e2
  have hW : Wrote Nil w w.drew := (Wrote.refl _ _).drew
  refine port_fail h ?_
  rw [e1, e2]
  refine (pnew_homes t (r1.after hW) h1 h2 hm ho).mono ?_
  rintro e w' ⟨rfl, hW'⟩
  exact ⟨rfl, hW.nil hW'⟩
end Go.Proofs.YteokghghpmppnaaGreatDoor
