/- The methods of a lock as they are reached through an interface: its own, and those of the seats that it embeds; no walk. -/
import Derived.Test.YteokghghpmppnaaGreatDoorRows
import Derived.Test.YteokghghpmppnaaGreatDoorHeap
import Derived.WalkLawsBesides
import Derived.Lib.Walk
import Derived.WalkKit
import Derived.Lib.Hide
namespace Go.Proofs.YteokghghpmppnaaGreatDoor
open Go.RowKit
set_option linter.unusedVariables false
set_option maxRecDepth 100000

theorem via_info : ∃ j, Tryz.prog.info? 81 = some j ∧ j.size = 1 := by
  have h : (Tryz.prog.info? 81).map (·.size) = some 1 := by kernel_rfl
  exact Option.map_eq_some_iff.1 h
/-- a method of the embedded seats: it is theirs, and their pointer is read -/
theorem via_seats {name : String} {f : FuncId} (hm : ((Tryz.prog.info? 77).bind (fun i => i.methods.find? (·.name == name))).map (fun m => (m.path, m.func)) = some (#[⟨116, 0, true⟩], some (f, true)))
    (D lb : Nat) (p : Addr) (w : World) (h : w.cell? ⟨lb, 0, none⟩ = some (.pointer (some p))) : (method (D + 1) 77 (.pointer (some ⟨lb, 0, none⟩)) name).run Tryz.prog w = .ok (f, .pointer (some p)) w := by
  obtain ⟨m, hm, he⟩ := Option.map_eq_some_iff.1 hm
  obtain ⟨i, hi, hf⟩ := Option.bind_eq_some_iff.1 hm
  simp only [Prod.mk.injEq] at he
  obtain ⟨j, hj, hs⟩ := via_info
  unfold method
  simp [typeInfo, hi, hf, he.1, he.2, follow, underlying, Tryz.underlying116, Tryz.underlying81, Place.get, asAddr, fieldPlace, Result.andThen, receiverAt, loadVar, isAgg, sizeOf, hj, hs, h, Addr.add]
theorem via_lock (lb : Nat) (p : Addr) (w : World) (h : w.cell? ⟨lb, 0, none⟩ = some (.pointer (some p))) : (method 334 77 (.pointer (some ⟨lb, 0, none⟩)) "Lock").run Tryz.prog w = .ok (99, .pointer (some p)) w := via_seats (name := "Lock") (by kernel_rfl) 333 lb p w h
theorem via_unlock (lb : Nat) (p : Addr) (w : World) (h : w.cell? ⟨lb, 0, none⟩ = some (.pointer (some p))) : (method 334 77 (.pointer (some ⟨lb, 0, none⟩)) "Unlock").run Tryz.prog w = .ok (103, .pointer (some p)) w := via_seats (name := "Unlock") (by kernel_rfl) 333 lb p w h
theorem via_probe (lb : Nat) (p : Addr) (w : World) (h : w.cell? ⟨lb, 0, none⟩ = some (.pointer (some p))) : (method 334 77 (.pointer (some ⟨lb, 0, none⟩)) "Probe").run Tryz.prog w = .ok (100, .pointer (some p)) w := via_seats (name := "Probe") (by kernel_rfl) 333 lb p w h
theorem via_state (lb : Nat) (p : Addr) (w : World) (h : w.cell? ⟨lb, 0, none⟩ = some (.pointer (some p))) : (method 334 77 (.pointer (some ⟨lb, 0, none⟩)) "State").run Tryz.prog w = .ok (101, .pointer (some p)) w := via_seats (name := "State") (by kernel_rfl) 333 lb p w h
/-- its own -/
theorem via_use (a : Addr) (w : World) : (method 334 77 (.pointer (some a)) "Use").run Tryz.prog w = .ok (181, .pointer (some a)) w := by kernel_rfl
theorem via_step (a : Addr) (w : World) : (method 334 77 (.pointer (some a)) "Step").run Tryz.prog w = .ok (180, .pointer (some a)) w := by kernel_rfl
end Go.Proofs.YteokghghpmppnaaGreatDoor
