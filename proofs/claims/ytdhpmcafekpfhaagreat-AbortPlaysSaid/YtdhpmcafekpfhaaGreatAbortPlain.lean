/- An abortable lock as a plain thing: its seats, each context's step, its node, the one ahead of it or behind, how many of its nodes it has looked at, the state of its port; what a step does; no heap, no walk. -/
import Derived.Test.YtdhpmcafekpfhaaGreatSeatNew
import Derived.Test.YtdhpmcafekpfhaaGreatPlanPort
import Derived.Test.YtdhpmcafekpfhaaGreatLockVia
namespace Go.Proofs.YtdhpmcafekpfhaaGreat
open Go.RowKit
set_option linter.unusedVariables false
set_option maxRecDepth 100000

/-! ### plain -/
/-- what a step did -/
structure Dd where
  ev : Int
  enq : Bool
  arr : Bool
  lead : Bool
def Dd.no : Dd := ⟨0, false, false, false⟩
def Dd.val (d : Dd) : Value := .agg #[.int .i64 d.ev, .bool d.enq, .bool d.arr, .bool d.lead]
def b2i (b : Bool) : Int := if b then 1 else 0
def Dd.rval (d : Dd) : Value := .agg #[.int .i64 d.ev, .int .i64 (b2i d.enq), .int .i64 (b2i d.arr), .int .i64 (b2i d.lead)]

/-- a lock with its port: its seats, how many nodes each context has, which step of its call each is at (from 1 on), its node, the node ahead or behind, how many nodes it has looked at, the port -/
structure FL where
  s : SS
  ea : Nat
  pc : Nat → Int
  nd : Nat → Int
  oth : Nat → Int
  tr : Nat → Int
  ps : PSta
/-- where a lock lies: its struct, its seats' struct and contexts, its places; its words' addresses (tail's, the first node's state's); its port's place and homes -/
structure Lp where
  lb : Nat
  p : Nat
  b : Nat
  tb : Nat
  a1 : Int
  a2 : Int
  q : Place
  hs : List Int

/-- where a node's state lies, its next, its out -/
def Lp.sA (L : Lp) (i : Int) : Int := L.a2 + 3 * (i - 1)
def Lp.nA (L : Lp) (i : Int) : Int := L.a2 + 3 * (i - 1) + 1
def Lp.oA (L : Lp) (i : Int) : Int := L.a2 + 3 * (i - 1) + 2
def casT (s : PSta) (u a old : Int) : Bool := okT s u a && casB s.ws a old
/-- the node that it looks at next -/
def FL.id (f : FL) (t : Nat) : Int := (t : Int) * f.ea + f.tr t + 1
/-- has it waited long enough at this tick? -/
abbrev FL.due (f : FL) (t : Nat) (x : Int) : Prop := 0 ≤ f.s.dl t ∧ f.s.dl t ≤ x

def FL.acq (f : FL) (L : Lp) (t : Nat) (u x : Int) : FL :=
  if f.pc t = 1 then { f with pc := upd f.pc t (if tellS f.ps u 1 (L.oA (f.id t)) = 0 then 2 else 1), nd := upd f.nd t (f.id t), tr := upd f.tr t (if tellS f.ps u 1 (L.oA (f.id t)) ≠ 0 ∧ f.tr t + 1 = f.ea then 0 else f.tr t + 1), ps := doS f.ps u 1 (L.oA (f.id t)) 0 0 }
  else if f.pc t = 2 then { f with pc := upd f.pc t 3, ps := doS f.ps u 2 (L.oA (f.nd t)) 0 1 }
  else if f.pc t = 3 then { f with pc := upd f.pc t 4, ps := doS f.ps u 2 (L.sA (f.nd t)) 0 0 }
  else if f.pc t = 4 then { f with pc := upd f.pc t 5, ps := doS f.ps u 2 (L.nA (f.nd t)) 0 0 }
  else if f.pc t = 5 then { f with pc := upd f.pc t (if tellS f.ps u 3 L.a1 = 0 then 1 else 6), oth := upd f.oth t (tellS f.ps u 3 L.a1), tr := upd f.tr t (if tellS f.ps u 3 L.a1 = 0 then 0 else f.tr t), ps := doS f.ps u 3 L.a1 0 (f.nd t) }
  else if f.pc t = 6 then { f with pc := upd f.pc t 7, ps := doS f.ps u 2 (L.nA (f.oth t)) 0 (f.nd t) }
  else if f.pc t = 7 then { f with pc := upd f.pc t (if tellS f.ps u 1 (L.sA (f.nd t)) ≠ 0 then 1 else if f.due t x then 8 else 7), tr := upd f.tr t (if tellS f.ps u 1 (L.sA (f.nd t)) ≠ 0 then 0 else f.tr t), ps := doS f.ps u 1 (L.sA (f.nd t)) 0 0 }
  else { f with pc := upd f.pc t 1, tr := upd f.tr t 0, ps := doS f.ps u 4 (L.sA (f.nd t)) 0 2 }
def FL.acqD (f : FL) (L : Lp) (t : Nat) (u x : Int) : Dd :=
  if f.pc t = 1 then (if tellS f.ps u 1 (L.oA (f.id t)) ≠ 0 ∧ f.tr t + 1 = f.ea then ⟨6, false, false, false⟩ else Dd.no)
  else if f.pc t = 2 then Dd.no
  else if f.pc t = 3 then Dd.no
  else if f.pc t = 4 then Dd.no
  else if f.pc t = 5 then ⟨if tellS f.ps u 3 L.a1 = 0 then 1 else 0, true, false, false⟩
  else if f.pc t = 6 then Dd.no
  else if f.pc t = 7 then (if tellS f.ps u 1 (L.sA (f.nd t)) ≠ 0 then ⟨1, false, false, false⟩ else Dd.no)
  else if casT f.ps u (L.sA (f.nd t)) 0 = true then ⟨2, false, false, false⟩ else ⟨1, false, false, false⟩
def FL.rel (f : FL) (L : Lp) (t : Nat) (u : Int) : FL :=
  if f.pc t = 1 then { f with pc := upd f.pc t (if tellS f.ps u 1 (L.nA (f.nd t)) = 0 then 2 else 4), oth := upd f.oth t (tellS f.ps u 1 (L.nA (f.nd t))), ps := doS f.ps u 1 (L.nA (f.nd t)) 0 0 }
  else if f.pc t = 2 then { f with pc := upd f.pc t (if casT f.ps u L.a1 (f.nd t) = true then 6 else 3), ps := doS f.ps u 4 L.a1 (f.nd t) 0 }
  else if f.pc t = 3 then { f with pc := upd f.pc t (if tellS f.ps u 1 (L.nA (f.nd t)) = 0 then 3 else 4), oth := upd f.oth t (tellS f.ps u 1 (L.nA (f.nd t))), ps := doS f.ps u 1 (L.nA (f.nd t)) 0 0 }
  else if f.pc t = 4 then { f with pc := upd f.pc t (if casT f.ps u (L.sA (f.oth t)) 0 = true then 6 else 5), ps := doS f.ps u 4 (L.sA (f.oth t)) 0 1 }
  else if f.pc t = 5 then { f with pc := upd f.pc t 1, nd := upd f.nd t (f.oth t), ps := doS f.ps u 2 (L.oA (f.nd t)) 0 0 }
  else { f with pc := upd f.pc t 1, tr := upd f.tr t 0, ps := doS f.ps u 2 (L.oA (f.nd t)) 0 0 }
def FL.relD (f : FL) (t : Nat) : Dd := if f.pc t = 1 ∨ f.pc t = 2 ∨ f.pc t = 3 ∨ f.pc t = 4 ∨ f.pc t = 5 then Dd.no else ⟨3, false, false, false⟩
/-- behind the access of a step, its event still to come -/
def FL.mid (f : FL) (L : Lp) (t u x : Int) : FL := if 0 ≤ t ∧ t < f.s.n then (if f.s.st t.toNat = 1 then f.acq L t.toNat u x else if f.s.st t.toNat = 3 then f.rel L t.toNat u else f) else f
def FL.did (f : FL) (L : Lp) (t u x : Int) : Dd := if 0 ≤ t ∧ t < f.s.n then (if f.s.st t.toNat = 1 then f.acqD L t.toNat u x else if f.s.st t.toNat = 3 then f.relD t.toNat else Dd.no) else Dd.no
def FL.step (f : FL) (L : Lp) (t u x : Int) : FL := { f.mid L t u x with s := f.s.fin t (f.did L t u x).ev }
def FL.lock (f : FL) (t d : Int) : FL := { f with s := f.s.lock t d }
def FL.turn (f : FL) (t x : Int) : FL := { f with s := f.s.turn t x }
def FL.probe (f : FL) (t : Int) : FL := { f with s := f.s.probe t }

theorem FL.acq_s (f : FL) (L : Lp) (t : Nat) (u x : Int) : (f.acq L t u x).s = f.s := by unfold FL.acq; repeat' split <;> try rfl
theorem FL.rel_s (f : FL) (L : Lp) (t : Nat) (u : Int) : (f.rel L t u).s = f.s := by unfold FL.rel; repeat' split <;> try rfl
theorem FL.mid_s (f : FL) (L : Lp) (t u x : Int) : (f.mid L t u x).s = f.s := by
  unfold FL.mid
  repeat' split
  · exact f.acq_s L _ u x
  · exact f.rel_s L _ u
  all_goals rfl
end Go.Proofs.YtdhpmcafekpfhaaGreat
