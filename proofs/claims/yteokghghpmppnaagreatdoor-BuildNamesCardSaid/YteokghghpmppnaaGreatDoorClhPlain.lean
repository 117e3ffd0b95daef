/- A CLH lock as a plain thing: its seats, each context's step, its node and the one ahead, the state of its port; what a step does; no heap, no walk. -/
import Derived.Test.YteokghghpmppnaaGreatDoorCoDd
import Derived.Test.YteokghghpmppnaaGreatDoorSeatNew
import Derived.Test.YteokghghpmppnaaGreatDoorPlanPort
import Derived.Test.YteokghghpmppnaaGreatDoorLockVia
namespace Go.Proofs.YteokghghpmppnaaGreatDoor.Kc
open Go.RowKit
set_option linter.unusedVariables false
set_option maxRecDepth 100000

/-! ### plain -/

/-- a lock with its port: its seats, each context's next step, its node and the one ahead, the port -/
structure FL where
  s : SS
  pc : Nat → Int
  node : Nat → Int
  ahd : Nat → Int
  ps : PSta
/-- where a lock lies: its struct, its seats' struct and contexts, its places; its words' addresses (tail's, the first flag's); its port's place and homes -/
structure Lp where
  lb : Nat
  p : Nat
  b : Nat
  tb : Nat
  a1 : Int
  a2 : Int
  q : Place
  hs : List Int

def FL.acq (f : FL) (L : Lp) (t : Nat) (u : Int) : FL :=
  if f.pc t = 0 then { f with pc := upd f.pc t 1, ps := doS f.ps u 2 (L.a2 + f.node t) 0 1 }
  else if f.pc t = 1 then { f with pc := upd f.pc t 2, ahd := upd f.ahd t (tellS f.ps u 3 L.a1), ps := doS f.ps u 3 L.a1 0 (f.node t) }
  else { f with ps := doS f.ps u 1 (L.a2 + f.ahd t) 0 0 }
def FL.acqD (f : FL) (L : Lp) (t : Nat) (u : Int) : Dd := if f.pc t = 0 then Dd.no else if f.pc t = 1 then ⟨0, true, false, false⟩ else if tellS f.ps u 1 (L.a2 + f.ahd t) = 0 then ⟨1, false, false, false⟩ else Dd.no
def FL.rel (f : FL) (L : Lp) (t : Nat) (u : Int) : FL := { f with pc := upd f.pc t 0, node := upd f.node t (f.ahd t), ahd := upd f.ahd t 0, ps := doS f.ps u 2 (L.a2 + f.node t) 0 0 }
def FL.ask (f : FL) (L : Lp) (t : Nat) (u : Int) : FL := { f with ps := doS f.ps u 1 L.a1 0 0 }
def FL.askD (f : FL) (L : Lp) (t : Nat) (u : Int) : Dd := if tellS f.ps u 1 L.a1 = f.node t then ⟨4, false, false, false⟩ else ⟨5, false, false, false⟩
/-- behind the access of a step, its event still to come -/
def FL.mid (f : FL) (L : Lp) (t u : Int) : FL := if 0 ≤ t ∧ t < f.s.n then (if f.s.st t.toNat = 1 then f.acq L t.toNat u else if f.s.st t.toNat = 3 then f.rel L t.toNat u else if f.s.st t.toNat = 4 then f.ask L t.toNat u else f) else f
def FL.did (f : FL) (L : Lp) (t u : Int) : Dd := if 0 ≤ t ∧ t < f.s.n then (if f.s.st t.toNat = 1 then f.acqD L t.toNat u else if f.s.st t.toNat = 3 then ⟨3, false, false, false⟩ else if f.s.st t.toNat = 4 then f.askD L t.toNat u else Dd.no) else Dd.no
def FL.step (f : FL) (L : Lp) (t u : Int) : FL := { f.mid L t u with s := f.s.fin t (f.did L t u).ev }
def FL.lock (f : FL) (t d : Int) : FL := { f with s := f.s.lock t d }
def FL.turn (f : FL) (t x : Int) : FL := { f with s := f.s.turn t x }
def FL.probe (f : FL) (t : Int) : FL := { f with s := f.s.probe t }

theorem FL.acq_s (f : FL) (L : Lp) (t : Nat) (u : Int) : (f.acq L t u).s = f.s := by unfold FL.acq; repeat' split <;> try rfl
theorem FL.mid_s (f : FL) (L : Lp) (t u : Int) : (f.mid L t u).s = f.s := by
  unfold FL.mid
  repeat' split
  · exact f.acq_s L _ u
  all_goals rfl
end Go.Proofs.YteokghghpmppnaaGreatDoor.Kc
