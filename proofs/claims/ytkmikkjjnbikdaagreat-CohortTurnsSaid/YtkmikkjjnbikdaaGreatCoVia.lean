/- The methods of the three kinds of inner locks as they are reached through an interface; no walk. -/
import Derived.Test.YtkmikkjjnbikdaaGreatRows
import Derived.Test.YtkmikkjjnbikdaaGreatRecs
import Derived.WalkLawsBesides
import Derived.Lib.Walk
import Derived.WalkKit
import Derived.Lib.Hide
namespace Go.Proofs.YtkmikkjjnbikdaaGreat
open Go.RowKit
set_option linter.unusedVariables false
set_option maxRecDepth 100000

theorem via_info : ∃ j, Tryz.prog.info? 61 = some j ∧ j.size = 1 := by
  have h : (Tryz.prog.info? 61).map (·.size) = some 1 := by kernel_rfl
  exact Option.map_eq_some_iff.1 h
/-- a method of the embedded seats: it is theirs, and their pointer is read -/
theorem via_seats {name : String} {f : FuncId} (hm : ((Tryz.prog.info? 29).bind (fun i => i.methods.find? (·.name == name))).map (fun m => (m.path, m.func)) = some (#[⟨68, 0, true⟩], some (f, true)))
    (D lb : Nat) (p : Addr) (w : World) (h : w.cell? ⟨lb, 0, none⟩ = some (.pointer (some p))) : (method (D + 1) 29 (.pointer (some ⟨lb, 0, none⟩)) name).run Tryz.prog w = .ok (f, .pointer (some p)) w := by
  obtain ⟨m, hm, he⟩ := Option.map_eq_some_iff.1 hm
  obtain ⟨i, hi, hf⟩ := Option.bind_eq_some_iff.1 hm
  simp only [Prod.mk.injEq] at he
  obtain ⟨j, hj, hs⟩ := via_info
  unfold method
  simp [typeInfo, hi, hf, he.1, he.2, follow, underlying, Tryz.underlying68, Tryz.underlying61, Place.get, asAddr, fieldPlace, Result.andThen, receiverAt, loadVar, isAgg, sizeOf, hj, hs, h, Addr.add]
theorem via_lock (lb : Nat) (p : Addr) (w : World) (h : w.cell? ⟨lb, 0, none⟩ = some (.pointer (some p))) : (method 349 29 (.pointer (some ⟨lb, 0, none⟩)) "Lock").run Tryz.prog w = .ok (18, .pointer (some p)) w := via_seats (name := "Lock") (by kernel_rfl) 348 lb p w h
theorem via_unlock (lb : Nat) (p : Addr) (w : World) (h : w.cell? ⟨lb, 0, none⟩ = some (.pointer (some p))) : (method 349 29 (.pointer (some ⟨lb, 0, none⟩)) "Unlock").run Tryz.prog w = .ok (19, .pointer (some p)) w := via_seats (name := "Unlock") (by kernel_rfl) 348 lb p w h
theorem via_probe (lb : Nat) (p : Addr) (w : World) (h : w.cell? ⟨lb, 0, none⟩ = some (.pointer (some p))) : (method 349 29 (.pointer (some ⟨lb, 0, none⟩)) "Probe").run Tryz.prog w = .ok (123, .pointer (some p)) w := via_seats (name := "Probe") (by kernel_rfl) 348 lb p w h
theorem via_state (lb : Nat) (p : Addr) (w : World) (h : w.cell? ⟨lb, 0, none⟩ = some (.pointer (some p))) : (method 349 29 (.pointer (some ⟨lb, 0, none⟩)) "State").run Tryz.prog w = .ok (21, .pointer (some p)) w := via_seats (name := "State") (by kernel_rfl) 348 lb p w h
theorem via_len (lb : Nat) (p : Addr) (w : World) (h : w.cell? ⟨lb, 0, none⟩ = some (.pointer (some p))) : (method 349 29 (.pointer (some ⟨lb, 0, none⟩)) "Len").run Tryz.prog w = .ok (27, .pointer (some p)) w := via_seats (name := "Len") (by kernel_rfl) 348 lb p w h
/-- its own -/
theorem via_use (a : Addr) (w : World) : (method 349 29 (.pointer (some a)) "Use").run Tryz.prog w = .ok (31, .pointer (some a)) w := by kernel_rfl
theorem via_step (a : Addr) (w : World) : (method 349 29 (.pointer (some a)) "Step").run Tryz.prog w = .ok (20, .pointer (some a)) w := by kernel_rfl
theorem via_rstep (a : Addr) (w : World) : (method 349 33 (.pointer (some a)) "Step").run Tryz.prog w = .ok (125, .pointer (some a)) w := by kernel_rfl
theorem via_rseats (a : Addr) (w : World) : (method 349 33 (.pointer (some a)) "Seats").run Tryz.prog w = .ok (124, .pointer (some a)) w := by kernel_rfl
end Go.Proofs.YtkmikkjjnbikdaaGreat
namespace Go.Proofs.YtkmikkjjnbikdaaGreat.Kf
open Go.RowKit
set_option linter.unusedVariables false
set_option maxRecDepth 100000

theorem via_info : ∃ j, Tryz.prog.info? 61 = some j ∧ j.size = 1 := by
  have h : (Tryz.prog.info? 61).map (·.size) = some 1 := by kernel_rfl
  exact Option.map_eq_some_iff.1 h
/-- a method of the embedded seats: it is theirs, and their pointer is read -/
theorem via_seats {name : String} {f : FuncId} (hm : ((Tryz.prog.info? 168).bind (fun i => i.methods.find? (·.name == name))).map (fun m => (m.path, m.func)) = some (#[⟨184, 0, true⟩], some (f, true)))
    (D lb : Nat) (p : Addr) (w : World) (h : w.cell? ⟨lb, 0, none⟩ = some (.pointer (some p))) : (method (D + 1) 168 (.pointer (some ⟨lb, 0, none⟩)) name).run Tryz.prog w = .ok (f, .pointer (some p)) w := by
  obtain ⟨m, hm, he⟩ := Option.map_eq_some_iff.1 hm
  obtain ⟨i, hi, hf⟩ := Option.bind_eq_some_iff.1 hm
  simp only [Prod.mk.injEq] at he
  obtain ⟨j, hj, hs⟩ := via_info
  unfold method
  simp [typeInfo, hi, hf, he.1, he.2, follow, underlying, Tryz.underlying184, Tryz.underlying61, Place.get, asAddr, fieldPlace, Result.andThen, receiverAt, loadVar, isAgg, sizeOf, hj, hs, h, Addr.add]
theorem via_lock (lb : Nat) (p : Addr) (w : World) (h : w.cell? ⟨lb, 0, none⟩ = some (.pointer (some p))) : (method 349 168 (.pointer (some ⟨lb, 0, none⟩)) "Lock").run Tryz.prog w = .ok (18, .pointer (some p)) w := via_seats (name := "Lock") (by kernel_rfl) 348 lb p w h
theorem via_unlock (lb : Nat) (p : Addr) (w : World) (h : w.cell? ⟨lb, 0, none⟩ = some (.pointer (some p))) : (method 349 168 (.pointer (some ⟨lb, 0, none⟩)) "Unlock").run Tryz.prog w = .ok (19, .pointer (some p)) w := via_seats (name := "Unlock") (by kernel_rfl) 348 lb p w h
theorem via_probe (lb : Nat) (p : Addr) (w : World) (h : w.cell? ⟨lb, 0, none⟩ = some (.pointer (some p))) : (method 349 168 (.pointer (some ⟨lb, 0, none⟩)) "Probe").run Tryz.prog w = .ok (123, .pointer (some p)) w := via_seats (name := "Probe") (by kernel_rfl) 348 lb p w h
theorem via_state (lb : Nat) (p : Addr) (w : World) (h : w.cell? ⟨lb, 0, none⟩ = some (.pointer (some p))) : (method 349 168 (.pointer (some ⟨lb, 0, none⟩)) "State").run Tryz.prog w = .ok (21, .pointer (some p)) w := via_seats (name := "State") (by kernel_rfl) 348 lb p w h
theorem via_len (lb : Nat) (p : Addr) (w : World) (h : w.cell? ⟨lb, 0, none⟩ = some (.pointer (some p))) : (method 349 168 (.pointer (some ⟨lb, 0, none⟩)) "Len").run Tryz.prog w = .ok (27, .pointer (some p)) w := via_seats (name := "Len") (by kernel_rfl) 348 lb p w h
/-- its own -/
theorem via_use (a : Addr) (w : World) : (method 349 168 (.pointer (some a)) "Use").run Tryz.prog w = .ok (148, .pointer (some a)) w := by kernel_rfl
theorem via_step (a : Addr) (w : World) : (method 349 168 (.pointer (some a)) "Step").run Tryz.prog w = .ok (147, .pointer (some a)) w := by kernel_rfl
theorem nil_lock (a : Addr) (w : World) : (nilAhead 349 168 (.pointer (some a)) "Lock").run Tryz.prog w = .ok (some false) w := by kernel_rfl
theorem nil_unlock (a : Addr) (w : World) : (nilAhead 349 168 (.pointer (some a)) "Unlock").run Tryz.prog w = .ok (some false) w := by kernel_rfl
theorem nil_probe (a : Addr) (w : World) : (nilAhead 349 168 (.pointer (some a)) "Probe").run Tryz.prog w = .ok (some false) w := by kernel_rfl
theorem nil_step (a : Addr) (w : World) : (nilAhead 349 168 (.pointer (some a)) "Step").run Tryz.prog w = .ok (some false) w := by kernel_rfl
theorem nil_use (a : Addr) (w : World) : (nilAhead 349 168 (.pointer (some a)) "Use").run Tryz.prog w = .ok (some false) w := by kernel_rfl
end Go.Proofs.YtkmikkjjnbikdaaGreat.Kf
namespace Go.Proofs.YtkmikkjjnbikdaaGreat.Kc
open Go.RowKit
set_option linter.unusedVariables false
set_option maxRecDepth 100000

theorem via_info : ∃ j, Tryz.prog.info? 61 = some j ∧ j.size = 1 := by
  have h : (Tryz.prog.info? 61).map (·.size) = some 1 := by kernel_rfl
  exact Option.map_eq_some_iff.1 h
/-- a method of the embedded seats: it is theirs, and their pointer is read -/
theorem via_seats {name : String} {f : FuncId} (hm : ((Tryz.prog.info? 171).bind (fun i => i.methods.find? (·.name == name))).map (fun m => (m.path, m.func)) = some (#[⟨187, 0, true⟩], some (f, true)))
    (D lb : Nat) (p : Addr) (w : World) (h : w.cell? ⟨lb, 0, none⟩ = some (.pointer (some p))) : (method (D + 1) 171 (.pointer (some ⟨lb, 0, none⟩)) name).run Tryz.prog w = .ok (f, .pointer (some p)) w := by
  obtain ⟨m, hm, he⟩ := Option.map_eq_some_iff.1 hm
  obtain ⟨i, hi, hf⟩ := Option.bind_eq_some_iff.1 hm
  simp only [Prod.mk.injEq] at he
  obtain ⟨j, hj, hs⟩ := via_info
  unfold method
  simp [typeInfo, hi, hf, he.1, he.2, follow, underlying, Tryz.underlying187, Tryz.underlying61, Place.get, asAddr, fieldPlace, Result.andThen, receiverAt, loadVar, isAgg, sizeOf, hj, hs, h, Addr.add]
theorem via_lock (lb : Nat) (p : Addr) (w : World) (h : w.cell? ⟨lb, 0, none⟩ = some (.pointer (some p))) : (method 349 171 (.pointer (some ⟨lb, 0, none⟩)) "Lock").run Tryz.prog w = .ok (18, .pointer (some p)) w := via_seats (name := "Lock") (by kernel_rfl) 348 lb p w h
theorem via_unlock (lb : Nat) (p : Addr) (w : World) (h : w.cell? ⟨lb, 0, none⟩ = some (.pointer (some p))) : (method 349 171 (.pointer (some ⟨lb, 0, none⟩)) "Unlock").run Tryz.prog w = .ok (19, .pointer (some p)) w := via_seats (name := "Unlock") (by kernel_rfl) 348 lb p w h
theorem via_probe (lb : Nat) (p : Addr) (w : World) (h : w.cell? ⟨lb, 0, none⟩ = some (.pointer (some p))) : (method 349 171 (.pointer (some ⟨lb, 0, none⟩)) "Probe").run Tryz.prog w = .ok (123, .pointer (some p)) w := via_seats (name := "Probe") (by kernel_rfl) 348 lb p w h
theorem via_state (lb : Nat) (p : Addr) (w : World) (h : w.cell? ⟨lb, 0, none⟩ = some (.pointer (some p))) : (method 349 171 (.pointer (some ⟨lb, 0, none⟩)) "State").run Tryz.prog w = .ok (21, .pointer (some p)) w := via_seats (name := "State") (by kernel_rfl) 348 lb p w h
theorem via_len (lb : Nat) (p : Addr) (w : World) (h : w.cell? ⟨lb, 0, none⟩ = some (.pointer (some p))) : (method 349 171 (.pointer (some ⟨lb, 0, none⟩)) "Len").run Tryz.prog w = .ok (27, .pointer (some p)) w := via_seats (name := "Len") (by kernel_rfl) 348 lb p w h
/-- its own -/
theorem via_use (a : Addr) (w : World) : (method 349 171 (.pointer (some a)) "Use").run Tryz.prog w = .ok (157, .pointer (some a)) w := by kernel_rfl
theorem via_step (a : Addr) (w : World) : (method 349 171 (.pointer (some a)) "Step").run Tryz.prog w = .ok (156, .pointer (some a)) w := by kernel_rfl
theorem nil_lock (a : Addr) (w : World) : (nilAhead 349 171 (.pointer (some a)) "Lock").run Tryz.prog w = .ok (some false) w := by kernel_rfl
theorem nil_unlock (a : Addr) (w : World) : (nilAhead 349 171 (.pointer (some a)) "Unlock").run Tryz.prog w = .ok (some false) w := by kernel_rfl
theorem nil_probe (a : Addr) (w : World) : (nilAhead 349 171 (.pointer (some a)) "Probe").run Tryz.prog w = .ok (some false) w := by kernel_rfl
theorem nil_step (a : Addr) (w : World) : (nilAhead 349 171 (.pointer (some a)) "Step").run Tryz.prog w = .ok (some false) w := by kernel_rfl
theorem nil_use (a : Addr) (w : World) : (nilAhead 349 171 (.pointer (some a)) "Use").run Tryz.prog w = .ok (some false) w := by kernel_rfl
end Go.Proofs.YtkmikkjjnbikdaaGreat.Kc
namespace Go.Proofs.YtkmikkjjnbikdaaGreat.Km
open Go.RowKit
set_option linter.unusedVariables false
set_option maxRecDepth 100000

theorem via_info : ∃ j, Tryz.prog.info? 61 = some j ∧ j.size = 1 := by
  have h : (Tryz.prog.info? 61).map (·.size) = some 1 := by kernel_rfl
  exact Option.map_eq_some_iff.1 h
/-- a method of the embedded seats: it is theirs, and their pointer is read -/
theorem via_seats {name : String} {f : FuncId} (hm : ((Tryz.prog.info? 174).bind (fun i => i.methods.find? (·.name == name))).map (fun m => (m.path, m.func)) = some (#[⟨191, 0, true⟩], some (f, true)))
    (D lb : Nat) (p : Addr) (w : World) (h : w.cell? ⟨lb, 0, none⟩ = some (.pointer (some p))) : (method (D + 1) 174 (.pointer (some ⟨lb, 0, none⟩)) name).run Tryz.prog w = .ok (f, .pointer (some p)) w := by
  obtain ⟨m, hm, he⟩ := Option.map_eq_some_iff.1 hm
  obtain ⟨i, hi, hf⟩ := Option.bind_eq_some_iff.1 hm
  simp only [Prod.mk.injEq] at he
  obtain ⟨j, hj, hs⟩ := via_info
  unfold method
  simp [typeInfo, hi, hf, he.1, he.2, follow, underlying, Tryz.underlying191, Tryz.underlying61, Place.get, asAddr, fieldPlace, Result.andThen, receiverAt, loadVar, isAgg, sizeOf, hj, hs, h, Addr.add]
theorem via_lock (lb : Nat) (p : Addr) (w : World) (h : w.cell? ⟨lb, 0, none⟩ = some (.pointer (some p))) : (method 349 174 (.pointer (some ⟨lb, 0, none⟩)) "Lock").run Tryz.prog w = .ok (18, .pointer (some p)) w := via_seats (name := "Lock") (by kernel_rfl) 348 lb p w h
theorem via_unlock (lb : Nat) (p : Addr) (w : World) (h : w.cell? ⟨lb, 0, none⟩ = some (.pointer (some p))) : (method 349 174 (.pointer (some ⟨lb, 0, none⟩)) "Unlock").run Tryz.prog w = .ok (19, .pointer (some p)) w := via_seats (name := "Unlock") (by kernel_rfl) 348 lb p w h
theorem via_probe (lb : Nat) (p : Addr) (w : World) (h : w.cell? ⟨lb, 0, none⟩ = some (.pointer (some p))) : (method 349 174 (.pointer (some ⟨lb, 0, none⟩)) "Probe").run Tryz.prog w = .ok (123, .pointer (some p)) w := via_seats (name := "Probe") (by kernel_rfl) 348 lb p w h
theorem via_state (lb : Nat) (p : Addr) (w : World) (h : w.cell? ⟨lb, 0, none⟩ = some (.pointer (some p))) : (method 349 174 (.pointer (some ⟨lb, 0, none⟩)) "State").run Tryz.prog w = .ok (21, .pointer (some p)) w := via_seats (name := "State") (by kernel_rfl) 348 lb p w h
theorem via_len (lb : Nat) (p : Addr) (w : World) (h : w.cell? ⟨lb, 0, none⟩ = some (.pointer (some p))) : (method 349 174 (.pointer (some ⟨lb, 0, none⟩)) "Len").run Tryz.prog w = .ok (27, .pointer (some p)) w := via_seats (name := "Len") (by kernel_rfl) 348 lb p w h
/-- its own -/
theorem via_use (a : Addr) (w : World) : (method 349 174 (.pointer (some a)) "Use").run Tryz.prog w = .ok (167, .pointer (some a)) w := by kernel_rfl
theorem via_step (a : Addr) (w : World) : (method 349 174 (.pointer (some a)) "Step").run Tryz.prog w = .ok (166, .pointer (some a)) w := by kernel_rfl
theorem nil_lock (a : Addr) (w : World) : (nilAhead 349 174 (.pointer (some a)) "Lock").run Tryz.prog w = .ok (some false) w := by kernel_rfl
theorem nil_unlock (a : Addr) (w : World) : (nilAhead 349 174 (.pointer (some a)) "Unlock").run Tryz.prog w = .ok (some false) w := by kernel_rfl
theorem nil_probe (a : Addr) (w : World) : (nilAhead 349 174 (.pointer (some a)) "Probe").run Tryz.prog w = .ok (some false) w := by kernel_rfl
theorem nil_step (a : Addr) (w : World) : (nilAhead 349 174 (.pointer (some a)) "Step").run Tryz.prog w = .ok (some false) w := by kernel_rfl
theorem nil_use (a : Addr) (w : World) : (nilAhead 349 174 (.pointer (some a)) "Use").run Tryz.prog w = .ok (some false) w := by kernel_rfl
end Go.Proofs.YtkmikkjjnbikdaaGreat.Km
