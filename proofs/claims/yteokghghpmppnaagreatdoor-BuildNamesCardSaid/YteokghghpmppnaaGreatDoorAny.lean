/- A lock of any kind as one thing, in the heap: where it lies, what its calls leave; no walk. -/
import Derived.Test.YteokghghpmppnaaGreatDoorLockSc
import Derived.Test.YteokghghpmppnaaGreatDoorCoVia
namespace Go.Proofs.YteokghghpmppnaaGreatDoor
open Go.RowKit Go.BigFrame
set_option linter.unusedVariables false
set_option maxRecDepth 100000

inductive Any
  | cl (L : Kc.Lp) (f : Kc.FL)
namespace Any
def ty : Any → Nat
  | cl _ _ => 65
def useF : Any → Nat
  | cl _ _ => 123
def stepF : Any → Nat
  | cl _ _ => 122
def lb : Any → Nat
  | cl L _ => L.lb
def p : Any → Nat
  | cl L _ => L.p
def b : Any → Nat
  | cl L _ => L.b
def q : Any → Place
  | cl L _ => L.q
def hs : Any → List Int
  | cl L _ => L.hs
def s : Any → SS
  | cl _ f => f.s
def ps : Any → PSta
  | cl _ f => f.ps
/-- the interface's value -/
def val (a : Any) : Value := .iface a.ty (.pointer (some ⟨a.lb, 0, none⟩))
def At (w0 w : World) : Any → Prop
  | cl L f => Kc.LkS w0 w L f
def lock (t d : Int) : Any → Any
  | cl L f => cl L (f.lock t d)
def turn (t x : Int) : Any → Any
  | cl L f => cl L (f.turn t x)
def step (t x : Int) : Any → Any
  | cl L f => cl L (f.step L t t)
def did (t x : Int) : Any → Dd
  | cl L f => f.did L t t
/-- below its port's end -/
def Low (a : Any) (k : Nat) : Prop := k < a.q.k3
/-- behind a call: what it tells, what the lock is, what may have turned -/
def Post (w0 w : World) (a : Any) (v : Value) (e : Ending) (w' : World) : Prop := e = .returned v ∧ a.At w0 w' ∧ Wrote a.Low w w'
section
variable {w0 w w' : World} {a : Any}
theorem At.after (h : a.At w0 w) (k : Wrote Nil w w') : a.At w0 w' := by
  cases a with
  | cl L f => exact Kc.LkS.after h k
theorem At.apart {S : Nat → Prop} (h : a.At w0 w) (k : Wrote S w w') (hS : ∀ b, S b → a.q.k3 ≤ b) : a.At w0 w' := by
  cases a with
  | cl L f => exact Kc.LkS.apart h k hS
theorem At.wr (h : a.At w0 w) : Wrote Nil w0 w := by
  cases a with
  | cl L f => exact Kc.LkS.wr h
theorem At.cell0 (h : a.At w0 w) : w.cell? ⟨a.lb, 0, none⟩ = some (.pointer (some ⟨a.p, 0, none⟩)) := by
  cases a with
  | cl L f => exact Kc.LkS.cell0 h
theorem At.port (h : a.At w0 w) : PortAt w a.q a.hs a.ps := by
  cases a with
  | cl L f => exact h.lk.port
theorem At.seat (h : a.At w0 w) : SeatAt w a.p a.b a.s := by
  cases a with
  | cl L f => exact h.lk.raw.seat
theorem At.top (h : a.At w0 w) : a.q.k3 ≤ w.heap.size := by
  cases a with
  | cl L f => exact h.lk.top
theorem At.low (h : a.At w0 w) : (w0.heap.size ≤ a.lb ∧ a.lb < a.q.k3) ∧ (w0.heap.size ≤ a.p ∧ a.p < a.q.k3) ∧ (w0.heap.size ≤ a.b ∧ a.b < a.q.k3) ∧ w0.heap.size ≤ a.q.k0 := by
  have hp := h.port.place.le
  cases a with
  | cl L f => (have h1 := Kc.LkS.low h; have h2 := h.lk.far; dsimp only [lb, p, b, q] at *; omega)
theorem any_lock (h : a.At w0 w) (t d : Int) : Calls Tryz.prog 99 #[.pointer (some ⟨a.p, 0, none⟩), .int .i64 t, .int .i64 d] w (Post w0 w (a.lock t d) (.int .i64 (lockE a.s t d))) := by
  cases a with
  | cl L f => exact Kc.ls_lock h t d
theorem any_unlock (h : a.At w0 w) (t : Int) : Calls Tryz.prog 103 #[.pointer (some ⟨a.p, 0, none⟩), .int .i64 t] w (Post w0 w (a.turn t 3) (.int .i64 (turnE a.s t))) := by
  cases a with
  | cl L f => exact Kc.ls_unlock h t
theorem any_step (h : a.At w0 w) (t x : Int) (hD : a.ps.D.length < 4611686018427387904) : Calls Tryz.prog a.stepF #[.pointer (some ⟨a.lb, 0, none⟩), .int .i64 t, .int .i64 t, .int .i64 x] w (Post w0 w (a.step t x) (a.did t x).val) := by
  cases a with
  | cl L f => exact Kc.ls_step h t t x hD
theorem any_state (h : a.At w0 w) (t : Int) : Calls Tryz.prog 101 #[.pointer (some ⟨a.p, 0, none⟩), .int .i64 t] w fun e w' => e = .returned (.int .i64 (a.s.stI t)) ∧ w = w' := se_state h.seat t
end
theorem lock_ps (a : Any) (t d : Int) : (a.lock t d).ps = a.ps := by cases a <;> rfl
theorem turn_ps (a : Any) (t x : Int) : (a.turn t x).ps = a.ps := by cases a <;> rfl
theorem ext {a b : Any} (h : a = b) : a.q = b.q := h ▸ rfl
theorem lock_q (a : Any) (t d : Int) : (a.lock t d).q = a.q := by cases a <;> rfl
theorem turn_q (a : Any) (t x : Int) : (a.turn t x).q = a.q := by cases a <;> rfl
theorem step_q (a : Any) (t x : Int) : (a.step t x).q = a.q := by cases a <;> rfl
theorem lock_val (a : Any) (t d : Int) : (a.lock t d).val = a.val := by cases a <;> rfl
theorem turn_val (a : Any) (t x : Int) : (a.turn t x).val = a.val := by cases a <;> rfl
theorem step_val (a : Any) (t x : Int) : (a.step t x).val = a.val := by cases a <;> rfl
end Any

/-! ### the methods as they are reached through an interface -/
namespace Any
variable {w : World} {a : Any}
theorem via_lock (h : w.cell? ⟨a.lb, 0, none⟩ = some (.pointer (some ⟨a.p, 0, none⟩))) : (method 334 a.ty (.pointer (some ⟨a.lb, 0, none⟩)) "Lock").run Tryz.prog w = .ok (99, .pointer (some ⟨a.p, 0, none⟩)) w := by
  cases a with
  | cl L f => exact Kc.via_lock L.lb ⟨L.p, 0, none⟩ w h
theorem via_unlock (h : w.cell? ⟨a.lb, 0, none⟩ = some (.pointer (some ⟨a.p, 0, none⟩))) : (method 334 a.ty (.pointer (some ⟨a.lb, 0, none⟩)) "Unlock").run Tryz.prog w = .ok (103, .pointer (some ⟨a.p, 0, none⟩)) w := by
  cases a with
  | cl L f => exact Kc.via_unlock L.lb ⟨L.p, 0, none⟩ w h
theorem via_state (h : w.cell? ⟨a.lb, 0, none⟩ = some (.pointer (some ⟨a.p, 0, none⟩))) : (method 334 a.ty (.pointer (some ⟨a.lb, 0, none⟩)) "State").run Tryz.prog w = .ok (101, .pointer (some ⟨a.p, 0, none⟩)) w := by
  cases a with
  | cl L f => exact Kc.via_state L.lb ⟨L.p, 0, none⟩ w h
theorem via_step (a : Any) (w : World) : (method 334 a.ty (.pointer (some ⟨a.lb, 0, none⟩)) "Step").run Tryz.prog w = .ok (a.stepF, .pointer (some ⟨a.lb, 0, none⟩)) w := by
  cases a with
  | cl L f => exact Kc.via_step ⟨L.lb, 0, none⟩ w
theorem via_use (a : Any) (w : World) : (method 334 a.ty (.pointer (some ⟨a.lb, 0, none⟩)) "Use").run Tryz.prog w = .ok (a.useF, .pointer (some ⟨a.lb, 0, none⟩)) w := by
  cases a with
  | cl L f => exact Kc.via_use ⟨L.lb, 0, none⟩ w
theorem nil_lock (a : Any) (w : World) : (nilAhead 334 a.ty (.pointer (some ⟨a.lb, 0, none⟩)) "Lock").run Tryz.prog w = .ok (some false) w := by
  cases a with
  | cl L f => show (nilAhead 334 65 (.pointer (some ⟨L.lb, 0, none⟩)) "Lock").run Tryz.prog w = .ok (some false) w; kernel_rfl
theorem nil_unlock (a : Any) (w : World) : (nilAhead 334 a.ty (.pointer (some ⟨a.lb, 0, none⟩)) "Unlock").run Tryz.prog w = .ok (some false) w := by
  cases a with
  | cl L f => show (nilAhead 334 65 (.pointer (some ⟨L.lb, 0, none⟩)) "Unlock").run Tryz.prog w = .ok (some false) w; kernel_rfl
theorem nil_step (a : Any) (w : World) : (nilAhead 334 a.ty (.pointer (some ⟨a.lb, 0, none⟩)) "Step").run Tryz.prog w = .ok (some false) w := by
  cases a with
  | cl L f => show (nilAhead 334 65 (.pointer (some ⟨L.lb, 0, none⟩)) "Step").run Tryz.prog w = .ok (some false) w; kernel_rfl
theorem nil_use (a : Any) (w : World) : (nilAhead 334 a.ty (.pointer (some ⟨a.lb, 0, none⟩)) "Use").run Tryz.prog w = .ok (some false) w := by
  cases a with
  | cl L f => show (nilAhead 334 65 (.pointer (some ⟨L.lb, 0, none⟩)) "Use").run Tryz.prog w = .ok (some false) w; kernel_rfl
theorem nil_state (a : Any) (w : World) : (nilAhead 334 a.ty (.pointer (some ⟨a.lb, 0, none⟩)) "State").run Tryz.prog w = .ok (some false) w := by
  cases a with
  | cl L f => show (nilAhead 334 65 (.pointer (some ⟨L.lb, 0, none⟩)) "State").run Tryz.prog w = .ok (some false) w; kernel_rfl
theorem nil_len (a : Any) (w : World) : (nilAhead 334 a.ty (.pointer (some ⟨a.lb, 0, none⟩)) "Len").run Tryz.prog w = .ok (some false) w := by
  cases a with
  | cl L f => show (nilAhead 334 65 (.pointer (some ⟨L.lb, 0, none⟩)) "Len").run Tryz.prog w = .ok (some false) w; kernel_rfl
theorem stepF_enter (a : Any) (args : Array Value) (w : World) : (callFunc a.stepF args).run Tryz.prog w = .ok (.enter a.stepF args) w := by
  cases a with
  | cl L f => show (callFunc 122 args).run Tryz.prog w = .ok (.enter 122 args) w; kernel_rfl
theorem useF_enter (a : Any) (args : Array Value) (w : World) : (callFunc a.useF args).run Tryz.prog w = .ok (.enter a.useF args) w := by
  cases a with
  | cl L f => show (callFunc 123 args).run Tryz.prog w = .ok (.enter 123 args) w; kernel_rfl
end Any
end Go.Proofs.YteokghghpmppnaaGreatDoor
