/- The methods of the three kinds of inner locks as they are reached through an interface; no walk. -/
import Derived.Test.YteokghghpmppnaaGreatDoorLockVia
namespace Go.Proofs.YteokghghpmppnaaGreatDoor.Kf
open Go.RowKit
set_option linter.unusedVariables false
set_option maxRecDepth 100000

theorem via_info : ∃ j, Tryz.prog.info? 81 = some j ∧ j.size = 1 := by
  have h : (Tryz.prog.info? 81).map (·.size) = some 1 := by kernel_rfl
  exact Option.map_eq_some_iff.1 h
/-- a method of the embedded seats: it is theirs, and their pointer is read -/
theorem via_seats {name : String} {f : FuncId} (hm : ((Tryz.prog.info? 59).bind (fun i => i.methods.find? (·.name == name))).map (fun m => (m.path, m.func)) = some (#[⟨87, 0, true⟩], some (f, true)))
    (D lb : Nat) (p : Addr) (w : World) (h : w.cell? ⟨lb, 0, none⟩ = some (.pointer (some p))) : (method (D + 1) 59 (.pointer (some ⟨lb, 0, none⟩)) name).run Tryz.prog w = .ok (f, .pointer (some p)) w := by
  obtain ⟨m, hm, he⟩ := Option.map_eq_some_iff.1 hm
  obtain ⟨i, hi, hf⟩ := Option.bind_eq_some_iff.1 hm
  simp only [Prod.mk.injEq] at he
  obtain ⟨j, hj, hs⟩ := via_info
  unfold method
  simp [typeInfo, hi, hf, he.1, he.2, follow, underlying, Tryz.underlying87, Tryz.underlying81, Place.get, asAddr, fieldPlace, Result.andThen, receiverAt, loadVar, isAgg, sizeOf, hj, hs, h, Addr.add]
theorem via_lock (lb : Nat) (p : Addr) (w : World) (h : w.cell? ⟨lb, 0, none⟩ = some (.pointer (some p))) : (method 334 59 (.pointer (some ⟨lb, 0, none⟩)) "Lock").run Tryz.prog w = .ok (99, .pointer (some p)) w := via_seats (name := "Lock") (by kernel_rfl) 333 lb p w h
theorem via_unlock (lb : Nat) (p : Addr) (w : World) (h : w.cell? ⟨lb, 0, none⟩ = some (.pointer (some p))) : (method 334 59 (.pointer (some ⟨lb, 0, none⟩)) "Unlock").run Tryz.prog w = .ok (103, .pointer (some p)) w := via_seats (name := "Unlock") (by kernel_rfl) 333 lb p w h
theorem via_probe (lb : Nat) (p : Addr) (w : World) (h : w.cell? ⟨lb, 0, none⟩ = some (.pointer (some p))) : (method 334 59 (.pointer (some ⟨lb, 0, none⟩)) "Probe").run Tryz.prog w = .ok (100, .pointer (some p)) w := via_seats (name := "Probe") (by kernel_rfl) 333 lb p w h
theorem via_state (lb : Nat) (p : Addr) (w : World) (h : w.cell? ⟨lb, 0, none⟩ = some (.pointer (some p))) : (method 334 59 (.pointer (some ⟨lb, 0, none⟩)) "State").run Tryz.prog w = .ok (101, .pointer (some p)) w := via_seats (name := "State") (by kernel_rfl) 333 lb p w h
/-- its own -/
theorem via_use (a : Addr) (w : World) : (method 334 59 (.pointer (some a)) "Use").run Tryz.prog w = .ok (104, .pointer (some a)) w := by kernel_rfl
theorem via_step (a : Addr) (w : World) : (method 334 59 (.pointer (some a)) "Step").run Tryz.prog w = .ok (102, .pointer (some a)) w := by kernel_rfl
theorem nil_lock (a : Addr) (w : World) : (nilAhead 334 59 (.pointer (some a)) "Lock").run Tryz.prog w = .ok (some false) w := by kernel_rfl
theorem nil_unlock (a : Addr) (w : World) : (nilAhead 334 59 (.pointer (some a)) "Unlock").run Tryz.prog w = .ok (some false) w := by kernel_rfl
theorem nil_probe (a : Addr) (w : World) : (nilAhead 334 59 (.pointer (some a)) "Probe").run Tryz.prog w = .ok (some false) w := by kernel_rfl
theorem nil_step (a : Addr) (w : World) : (nilAhead 334 59 (.pointer (some a)) "Step").run Tryz.prog w = .ok (some false) w := by kernel_rfl
theorem nil_use (a : Addr) (w : World) : (nilAhead 334 59 (.pointer (some a)) "Use").run Tryz.prog w = .ok (some false) w := by kernel_rfl
end Go.Proofs.YteokghghpmppnaaGreatDoor.Kf
namespace Go.Proofs.YteokghghpmppnaaGreatDoor.Kc
open Go.RowKit
set_option linter.unusedVariables false
set_option maxRecDepth 100000

theorem via_info : ∃ j, Tryz.prog.info? 81 = some j ∧ j.size = 1 := by
  have h : (Tryz.prog.info? 81).map (·.size) = some 1 := by kernel_rfl
  exact Option.map_eq_some_iff.1 h
/-- a method of the embedded seats: it is theirs, and their pointer is read -/
theorem via_seats {name : String} {f : FuncId} (hm : ((Tryz.prog.info? 65).bind (fun i => i.methods.find? (·.name == name))).map (fun m => (m.path, m.func)) = some (#[⟨96, 0, true⟩], some (f, true)))
    (D lb : Nat) (p : Addr) (w : World) (h : w.cell? ⟨lb, 0, none⟩ = some (.pointer (some p))) : (method (D + 1) 65 (.pointer (some ⟨lb, 0, none⟩)) name).run Tryz.prog w = .ok (f, .pointer (some p)) w := by
  obtain ⟨m, hm, he⟩ := Option.map_eq_some_iff.1 hm
  obtain ⟨i, hi, hf⟩ := Option.bind_eq_some_iff.1 hm
  simp only [Prod.mk.injEq] at he
  obtain ⟨j, hj, hs⟩ := via_info
  unfold method
  simp [typeInfo, hi, hf, he.1, he.2, follow, underlying, Tryz.underlying96, Tryz.underlying81, Place.get, asAddr, fieldPlace, Result.andThen, receiverAt, loadVar, isAgg, sizeOf, hj, hs, h, Addr.add]
theorem via_lock (lb : Nat) (p : Addr) (w : World) (h : w.cell? ⟨lb, 0, none⟩ = some (.pointer (some p))) : (method 334 65 (.pointer (some ⟨lb, 0, none⟩)) "Lock").run Tryz.prog w = .ok (99, .pointer (some p)) w := via_seats (name := "Lock") (by kernel_rfl) 333 lb p w h
theorem via_unlock (lb : Nat) (p : Addr) (w : World) (h : w.cell? ⟨lb, 0, none⟩ = some (.pointer (some p))) : (method 334 65 (.pointer (some ⟨lb, 0, none⟩)) "Unlock").run Tryz.prog w = .ok (103, .pointer (some p)) w := via_seats (name := "Unlock") (by kernel_rfl) 333 lb p w h
theorem via_probe (lb : Nat) (p : Addr) (w : World) (h : w.cell? ⟨lb, 0, none⟩ = some (.pointer (some p))) : (method 334 65 (.pointer (some ⟨lb, 0, none⟩)) "Probe").run Tryz.prog w = .ok (100, .pointer (some p)) w := via_seats (name := "Probe") (by kernel_rfl) 333 lb p w h
theorem via_state (lb : Nat) (p : Addr) (w : World) (h : w.cell? ⟨lb, 0, none⟩ = some (.pointer (some p))) : (method 334 65 (.pointer (some ⟨lb, 0, none⟩)) "State").run Tryz.prog w = .ok (101, .pointer (some p)) w := via_seats (name := "State") (by kernel_rfl) 333 lb p w h
/-- its own -/
theorem via_use (a : Addr) (w : World) : (method 334 65 (.pointer (some a)) "Use").run Tryz.prog w = .ok (123, .pointer (some a)) w := by kernel_rfl
theorem via_step (a : Addr) (w : World) : (method 334 65 (.pointer (some a)) "Step").run Tryz.prog w = .ok (122, .pointer (some a)) w := by kernel_rfl
theorem nil_lock (a : Addr) (w : World) : (nilAhead 334 65 (.pointer (some a)) "Lock").run Tryz.prog w = .ok (some false) w := by kernel_rfl
theorem nil_unlock (a : Addr) (w : World) : (nilAhead 334 65 (.pointer (some a)) "Unlock").run Tryz.prog w = .ok (some false) w := by kernel_rfl
theorem nil_probe (a : Addr) (w : World) : (nilAhead 334 65 (.pointer (some a)) "Probe").run Tryz.prog w = .ok (some false) w := by kernel_rfl
theorem nil_step (a : Addr) (w : World) : (nilAhead 334 65 (.pointer (some a)) "Step").run Tryz.prog w = .ok (some false) w := by kernel_rfl
theorem nil_use (a : Addr) (w : World) : (nilAhead 334 65 (.pointer (some a)) "Use").run Tryz.prog w = .ok (some false) w := by kernel_rfl
end Go.Proofs.YteokghghpmppnaaGreatDoor.Kc
namespace Go.Proofs.YteokghghpmppnaaGreatDoor.Km
open Go.RowKit
set_option linter.unusedVariables false
set_option maxRecDepth 100000

theorem via_info : ∃ j, Tryz.prog.info? 81 = some j ∧ j.size = 1 := by
  have h : (Tryz.prog.info? 81).map (·.size) = some 1 := by kernel_rfl
  exact Option.map_eq_some_iff.1 h
/-- a method of the embedded seats: it is theirs, and their pointer is read -/
theorem via_seats {name : String} {f : FuncId} (hm : ((Tryz.prog.info? 68).bind (fun i => i.methods.find? (·.name == name))).map (fun m => (m.path, m.func)) = some (#[⟨100, 0, true⟩], some (f, true)))
    (D lb : Nat) (p : Addr) (w : World) (h : w.cell? ⟨lb, 0, none⟩ = some (.pointer (some p))) : (method (D + 1) 68 (.pointer (some ⟨lb, 0, none⟩)) name).run Tryz.prog w = .ok (f, .pointer (some p)) w := by
  obtain ⟨m, hm, he⟩ := Option.map_eq_some_iff.1 hm
  obtain ⟨i, hi, hf⟩ := Option.bind_eq_some_iff.1 hm
  simp only [Prod.mk.injEq] at he
  obtain ⟨j, hj, hs⟩ := via_info
  unfold method
  simp [typeInfo, hi, hf, he.1, he.2, follow, underlying, Tryz.underlying100, Tryz.underlying81, Place.get, asAddr, fieldPlace, Result.andThen, receiverAt, loadVar, isAgg, sizeOf, hj, hs, h, Addr.add]
theorem via_lock (lb : Nat) (p : Addr) (w : World) (h : w.cell? ⟨lb, 0, none⟩ = some (.pointer (some p))) : (method 334 68 (.pointer (some ⟨lb, 0, none⟩)) "Lock").run Tryz.prog w = .ok (99, .pointer (some p)) w := via_seats (name := "Lock") (by kernel_rfl) 333 lb p w h
theorem via_unlock (lb : Nat) (p : Addr) (w : World) (h : w.cell? ⟨lb, 0, none⟩ = some (.pointer (some p))) : (method 334 68 (.pointer (some ⟨lb, 0, none⟩)) "Unlock").run Tryz.prog w = .ok (103, .pointer (some p)) w := via_seats (name := "Unlock") (by kernel_rfl) 333 lb p w h
theorem via_probe (lb : Nat) (p : Addr) (w : World) (h : w.cell? ⟨lb, 0, none⟩ = some (.pointer (some p))) : (method 334 68 (.pointer (some ⟨lb, 0, none⟩)) "Probe").run Tryz.prog w = .ok (100, .pointer (some p)) w := via_seats (name := "Probe") (by kernel_rfl) 333 lb p w h
theorem via_state (lb : Nat) (p : Addr) (w : World) (h : w.cell? ⟨lb, 0, none⟩ = some (.pointer (some p))) : (method 334 68 (.pointer (some ⟨lb, 0, none⟩)) "State").run Tryz.prog w = .ok (101, .pointer (some p)) w := via_seats (name := "State") (by kernel_rfl) 333 lb p w h
/-- its own -/
theorem via_use (a : Addr) (w : World) : (method 334 68 (.pointer (some a)) "Use").run Tryz.prog w = .ok (133, .pointer (some a)) w := by kernel_rfl
theorem via_step (a : Addr) (w : World) : (method 334 68 (.pointer (some a)) "Step").run Tryz.prog w = .ok (132, .pointer (some a)) w := by kernel_rfl
theorem nil_lock (a : Addr) (w : World) : (nilAhead 334 68 (.pointer (some a)) "Lock").run Tryz.prog w = .ok (some false) w := by kernel_rfl
theorem nil_unlock (a : Addr) (w : World) : (nilAhead 334 68 (.pointer (some a)) "Unlock").run Tryz.prog w = .ok (some false) w := by kernel_rfl
theorem nil_probe (a : Addr) (w : World) : (nilAhead 334 68 (.pointer (some a)) "Probe").run Tryz.prog w = .ok (some false) w := by kernel_rfl
theorem nil_step (a : Addr) (w : World) : (nilAhead 334 68 (.pointer (some a)) "Step").run Tryz.prog w = .ok (some false) w := by kernel_rfl
theorem nil_use (a : Addr) (w : World) : (nilAhead 334 68 (.pointer (some a)) "Use").run Tryz.prog w = .ok (some false) w := by kernel_rfl
end Go.Proofs.YteokghghpmppnaaGreatDoor.Km
