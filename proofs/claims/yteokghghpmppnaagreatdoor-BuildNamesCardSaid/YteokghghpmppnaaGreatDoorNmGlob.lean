/- The kinds' words as the program's own variable holds them; the door's own heap. -/
import Derived.Test.YteokghghpmppnaaGreatDoorRows
import Derived.Test.YteokghghpmppnaaGreatDoorBuAw
import Derived.ProofKit
import Derived.LaidMore
import Derived.OpenShut
import Derived.Stop.Joined
import Derived.Stop.LaidErr
import Derived.Lib.LaidTab
namespace Go.Proofs.YteokghghpmppnaaGreatDoor
open Go.ChangeShapes Go.WideShapes Go.ChangeAt Go.WideMaps Go.WideElems Go.RowKit
set_option linter.unusedVariables false
set_option maxRecDepth 100000

theorem own : ownKnob Tryz.prog.godebug = none := by kernel_rfl
theorem laidOut : laidOutB Tryz.prog = true := by kernel_rfl
theorem gNames : Tryz.prog.globalNamed "weighlock/build.names" = some 0 := by kernel_rfl
theorem tNames : (Tryz.prog.globals[(0 : Nat)]?).map (·.type) = some 22 := by kernel_rfl
def strB (l : List UInt8) : ByteArray := ⟨l.toArray⟩
def nmLs : List (List UInt8) := [[], [116, 105, 99, 107, 101, 116], [115, 108, 111, 116, 115], [99, 108, 104], [109, 99, 115], [97, 98, 111, 114, 116], [104, 105, 101, 114], [99, 111, 104, 111, 114, 116]]
def nmB (k : Nat) : ByteArray := strB (nmLs.getD k [])
theorem names_datum {H : Type} : (Rows.laid_weighlock_build_names : DataW H) = .agg (nmLs.map fun l => .lit (.string l)) := rfl
def Glob (W : World) : Prop := ∀ k : Nat, k < 8 → W.cell? ⟨0, k, none⟩ = some (.string (nmB k))
theorem glob_of {W : World} {rest : List (String × DataW Unit)} (h : laidMet Tryz.prog (("weighlock/build.names", Rows.laid_weighlock_build_names) :: rest) W) : Glob W := by
  obtain ⟨ps, ⟨g0, t0, cs0, f0, p0, q0, hg0, ht0, hv0, hd0, _, _⟩, _, _⟩ := h
  obtain rfl := Option.some.inj (gNames.symm.trans hg0)
  obtain rfl := Option.some.inj (tNames.symm.trans ht0)
  obtain ⟨xs, m1, hf1, hx1, hlen, hn3, hel⟩ := DataW.trod_array Tryz.underlying22 hd0
  rw [names_datum] at hx1
  simp only [Prod.mk.injEq, DataW.agg.injEq] at hx1
  have c1 : Tryz.prog.cellsOf 9 = 1 := by kernel_rfl
  intro k hk
  obtain ⟨r, hr, hrw⟩ : ∃ r, nmLs[k]? = some r ∧ r = nmLs.getD k [] := ⟨nmLs.getD k [], by rw [List.getD_eq_getElem?_getD, List.getElem?_eq_getElem (show k < nmLs.length from hk)]; rfl, rfl⟩
  have hk2 := hel k hk
  have h1 : (xs.map (·.1))[k]? = some (DataW.lit (.string r)) := by rw [← hx1.1, List.getElem?_map, hr]; rfl
  rw [List.getElem?_map] at h1
  obtain ⟨y, hy, hy1⟩ := Option.map_eq_some_iff.1 h1
  rw [hy] at hk2
  obtain ⟨b, hb, hyb, _⟩ := DataW.trod_string Tryz.underlying9 hk2
  rw [c1, Nat.mul_one] at hb
  have hb1 : cs0.toList[k]? = some (.string b) := by
    have := congrArg (·[0]?) hb
    simpa [List.getElem?_take, List.getElem?_drop] using this
  have hbr : b = nmB k := by
    rw [hyb] at hy1
    simp only [DataW.lit.injEq, Lit.string.injEq] at hy1
    unfold nmB
    rw [← hrw, ← hy1]
    rfl
  have := World.var?_cell hg0 hv0 k
  rw [this, ← Array.getElem?_toList, hb1, hbr]
def laidF : List (String × DataW Unit) := [("weighlock/build.names", Rows.laid_weighlock_build_names)]
theorem globF {W : World} (h : laidMetH Tryz.prog laidF W) : Glob W := by
  rw [MakeChecks.laidMetH_plain _ _ _ (by kernel_rfl)] at h
  exact glob_of h
theorem doorF (os : Os) (args : Array Value) : laidMetH Tryz.prog laidF ((World.doorLaid Tryz.prog 400 os).forCall (fun _ _ => 0) ⟨#[], args, []⟩).memory :=
  laidMetH_of_parts3 (fuel := 8) (laidMet_of_run' 8 (by kernel_rfl) (by kernel_rfl)) (by kernel_rfl) (by kernel_rfl)
end Go.Proofs.YteokghghpmppnaaGreatDoor
