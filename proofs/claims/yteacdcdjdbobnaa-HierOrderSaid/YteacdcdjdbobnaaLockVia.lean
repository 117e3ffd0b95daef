/- The methods of a lock as they are reached through an interface: its own, and those of the seats that it embeds; no walk. -/
import Derived.Test.YteacdcdjdbobnaaRows
import Derived.Test.YteacdcdjdbobnaaHeap
import Derived.WalkLawsBesides
import Derived.Lib.Walk
import Derived.WalkKit
import Derived.Lib.Hide
namespace Go.Proofs.Yteacdcdjdbobnaa
open Go.RowKit
set_option linter.unusedVariables false
set_option maxRecDepth 100000

theorem via_info : ∃ j, Try.prog.info? 35 = some j ∧ j.size = 1 := by
  have h : (Try.prog.info? 35).map (·.size) = some 1 := by kernel_rfl
  exact Option.map_eq_some_iff.1 h
/-- a method of the embedded seats: it is theirs, and their pointer is read -/
theorem via_seats {name : String} {f : FuncId} (hm : ((Try.prog.info? 26).bind (fun i => i.methods.find? (·.name == name))).map (fun m => (m.path, m.func)) = some (#[⟨38, 0, true⟩], some (f, true)))
    (D lb : Nat) (p : Addr) (w : World) (h : w.cell? ⟨lb, 0, none⟩ = some (.pointer (some p))) : (method (D + 1) 26 (.pointer (some ⟨lb, 0, none⟩)) name).run Try.prog w = .ok (f, .pointer (some p)) w := by
  obtain ⟨m, hm, he⟩ := Option.map_eq_some_iff.1 hm
  obtain ⟨i, hi, hf⟩ := Option.bind_eq_some_iff.1 hm
  simp only [Prod.mk.injEq] at he
  obtain ⟨j, hj, hs⟩ := via_info
  unfold method
  simp [typeInfo, hi, hf, he.1, he.2, follow, underlying, Try.underlying38, Try.underlying35, Place.get, asAddr, fieldPlace, Result.andThen, receiverAt, loadVar, isAgg, sizeOf, hj, hs, h, Addr.add]
theorem via_lock (lb : Nat) (p : Addr) (w : World) (h : w.cell? ⟨lb, 0, none⟩ = some (.pointer (some p))) : (method 250 26 (.pointer (some ⟨lb, 0, none⟩)) "Lock").run Try.prog w = .ok (10, .pointer (some p)) w := via_seats (name := "Lock") (by kernel_rfl) 249 lb p w h
theorem via_unlock (lb : Nat) (p : Addr) (w : World) (h : w.cell? ⟨lb, 0, none⟩ = some (.pointer (some p))) : (method 250 26 (.pointer (some ⟨lb, 0, none⟩)) "Unlock").run Try.prog w = .ok (11, .pointer (some p)) w := via_seats (name := "Unlock") (by kernel_rfl) 249 lb p w h
theorem via_state (lb : Nat) (p : Addr) (w : World) (h : w.cell? ⟨lb, 0, none⟩ = some (.pointer (some p))) : (method 250 26 (.pointer (some ⟨lb, 0, none⟩)) "State").run Try.prog w = .ok (14, .pointer (some p)) w := via_seats (name := "State") (by kernel_rfl) 249 lb p w h
theorem via_len (lb : Nat) (p : Addr) (w : World) (h : w.cell? ⟨lb, 0, none⟩ = some (.pointer (some p))) : (method 250 26 (.pointer (some ⟨lb, 0, none⟩)) "Len").run Try.prog w = .ok (20, .pointer (some p)) w := via_seats (name := "Len") (by kernel_rfl) 249 lb p w h
/-- its own -/
theorem via_use (a : Addr) (w : World) : (method 250 26 (.pointer (some a)) "Use").run Try.prog w = .ok (23, .pointer (some a)) w := by kernel_rfl
theorem via_step (a : Addr) (w : World) : (method 250 26 (.pointer (some a)) "Step").run Try.prog w = .ok (12, .pointer (some a)) w := by kernel_rfl
end Go.Proofs.Yteacdcdjdbobnaa
