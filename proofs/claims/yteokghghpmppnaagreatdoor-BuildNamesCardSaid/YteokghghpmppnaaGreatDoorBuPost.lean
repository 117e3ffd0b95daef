/- What a new lock of any kind is, and its plan's port; no walk. -/
import Derived.Test.YteokghghpmppnaaGreatDoorAny
import Derived.Test.YteokghghpmppnaaGreatDoorBuC
namespace Go.Proofs.YteokghghpmppnaaGreatDoor
open Go.RowKit Go.BigFrame
set_option linter.unusedVariables false
set_option maxRecDepth 100000

namespace Any
/-- its kind -/
def kd : Any → Int
  | cl _ _ => 3
/-- before it is used over its port -/
def Ap (w0 w : World) : Any → Prop
  | cl L f => Kc.LkP w0 w L f
theorem any_use {w0 w : World} {a : Any} (h : a.Ap w0 w) : Calls Tryz.prog a.useF #[.pointer (some ⟨a.lb, 0, none⟩), .pointer (some ⟨a.q.p, 0, none⟩)] w fun e w' => e = .returned (.tuple #[]) ∧ a.At w0 w' ∧ Wrote a.Low w w' := by
  cases a with
  | cl L f => exact Kc.lp_use h
end Any
/-- a new lock of a configuration, behind its port -/
def NewA (n : Nat) (zs : List Int) (v sz pl B G D : Int) : Any → Prop
  | .cl L f => f = Kc.newF n n ∧ L.a1 = 0 ∧ L.a2 = 1 ∧ L.hs = Kc.homesC zs
/-- behind lay: what it tells; its plan's port is a port, and the lock lies over its words -/
def BlPost (w0 : World) (P : Any → Prop) (q : Pl) (e : Ending) (w' : World) : Prop :=
  ∃ (lb ty : Nat), e = .returned (.tuple #[.iface ty (.pointer (some ⟨lb, 0, none⟩)), .int .i64 0]) ∧ Wrote Nil w0 w' ∧
    ∀ W, Wrote Nil w' W → Calls Tryz.prog 14 #[.pointer (some ⟨q.p, 0, none⟩)] W fun e w'' => ∃ a : Any, e = .returned (.tuple #[.pointer (some ⟨a.q.p, 0, none⟩), .int .i64 0]) ∧ a.lb = lb ∧ a.ty = ty ∧ P a ∧ a.Ap w0 w''
section
variable {w0 w1 w2 : World} {q q2 : Pl} {n : Nat} {zs : List Int} {v sz pl B G D : Int}
theorem first_ok (ho : homesOK zs = true) : okH (zs.getD 0 0) = true := Kc.getD_ok ho 0
theorem old_plan (h0 : Wrote Nil w0 w1) (hq : ∀ k, q.F k → w0.heap.size ≤ k) (hW : Wrote q.F w1 w2) : Wrote Nil w0 w2 := h0.trans hW fun k hk e => by have := hq k e; unfold Nil; omega
theorem pt_cl (h0 : Wrote Nil w0 w1) (hq : ∀ k, q.F k → w0.heap.size ≤ k) (hne : q.p < w1.heap.size) (n1 : 1 ≤ n) (n2 : n ≤ 64) (ho : homesOK zs = true) (hn : zs.length = n)  {L : Kc.Lp} (hR : Kc.FlRaw w2 L (.pointer none) (newSeat n false true) (fun _ => 0) (Kc.nodeK n) (fun _ => 0)) (hl : w1.heap.size ≤ L.lb ∧ w1.heap.size ≤ L.p ∧ w1.heap.size ≤ L.b ∧ w1.heap.size ≤ L.tb) (h1 : L.a1 = 0) (h2 : L.a2 = 1) (hqq : q2.p = q.p) (hP : PlanAt w2 q2 n (Kc.homesC zs) (Kc.zerosC n)) (hW : Wrote q.F w1 w2) :
    BlPost w0 (fun a => a.kd = 3 ∧ NewA n zs v sz pl B G D a) q (.returned (.tuple #[.iface 65 (.pointer (some ⟨L.lb, 0, none⟩)), .int .i64 0])) w2 :=
  ⟨L.lb, _, rfl, old_plan h0 hq hW, fun W k => (Kc.fl_port (w0 := w0) h0 hq n1 n2 ho hn (hR.after k) hl h1 h2 hqq (hP.after k) (hW.trans k fun _ _ e => e.elim)).mono fun e w9 ⟨L9, he, ⟨a1, a2, hK⟩, hlb, hhs⟩ => ⟨.cl L9 _, he, hlb, rfl, ⟨rfl, rfl, a1, a2, hhs⟩, hK⟩⟩
/-- a kind's New: what it tells, and what it is as a lock of any kind -/
def NwPost (w0 : World) (P : Any → Prop) (q : Pl) (ty : Nat) (e : Ending) (w' : World) : Prop := ∃ lb : Nat, e = .returned (.tuple #[.pointer (some ⟨lb, 0, none⟩), .int .i64 0]) ∧ BlPost w0 P q (.returned (.tuple #[.iface ty (.pointer (some ⟨lb, 0, none⟩)), .int .i64 0])) w'
end
end Go.Proofs.YteokghghpmppnaaGreatDoor
