/- An MCS lock as a plain thing: its seats, each context's step and the one ahead of it or behind, the state of its port; what a step does; no heap, no walk. -/
import Derived.Test.YtpaihjlohcakjaaSeatNew
import Derived.Test.YtpaihjlohcakjaaPlanPort
import Derived.Test.YtpaihjlohcakjaaLockVia
namespace Go.Proofs.Ytpaihjlohcakjaa
open Go.RowKit
set_option linter.unusedVariables false
set_option maxRecDepth 100000

/-! ### plain -/
/-- what a step did -/
structure Dd where
  ev : Int
  enq : Bool
  arr : Bool
  lead : Bool
def Dd.no : Dd := ⟨0, false, false, false⟩
def Dd.val (d : Dd) : Value := .agg #[.int .i64 d.ev, .bool d.enq, .bool d.arr, .bool d.lead]
def b2i (b : Bool) : Int := if b then 1 else 0
def Dd.rval (d : Dd) : Value := .agg #[.int .i64 d.ev, .int .i64 (b2i d.enq), .int .i64 (b2i d.arr), .int .i64 (b2i d.lead)]

/-- a lock with its port: its seats, how many steps each context's call has done, the number of the one ahead of it or behind, the port -/
structure FL where
  s : SS
  pc : Nat → Int
  oth : Nat → Int
  ps : PSta
/-- where a lock lies: its struct, its seats' struct and contexts, its places; its words' addresses (tail's, the first next's); its port's place and homes -/
structure Lp where
  lb : Nat
  p : Nat
  b : Nat
  tb : Nat
  a1 : Int
  a2 : Int
  q : Place
  hs : List Int

/-- where a context's next lies, and its locked -/
def Lp.nx (L : Lp) (t : Int) : Int := L.a2 + 2 * t
def Lp.lk (L : Lp) (t : Int) : Int := L.a2 + 2 * t + 1
def casT (s : PSta) (u a old : Int) : Bool := okT s u a && casB s.ws a old

def FL.acq (f : FL) (L : Lp) (t : Nat) (u : Int) : FL :=
  if f.pc t = 0 then { f with pc := upd f.pc t 1, ps := doS f.ps u 2 (L.nx t) 0 0 }
  else if f.pc t = 1 then { f with pc := upd f.pc t (if tellS f.ps u 3 L.a1 = 0 then 0 else 2), oth := upd f.oth t (tellS f.ps u 3 L.a1), ps := doS f.ps u 3 L.a1 0 ((t : Int) + 1) }
  else if f.pc t = 2 then { f with pc := upd f.pc t 3, ps := doS f.ps u 2 (L.lk t) 0 1 }
  else if f.pc t = 3 then { f with pc := upd f.pc t 4, ps := doS f.ps u 2 (L.nx (f.oth t - 1)) 0 ((t : Int) + 1) }
  else { f with pc := upd f.pc t (if tellS f.ps u 1 (L.lk t) = 0 then 0 else 4), ps := doS f.ps u 1 (L.lk t) 0 0 }
def FL.acqD (f : FL) (L : Lp) (t : Nat) (u : Int) : Dd :=
  if f.pc t = 0 then Dd.no
  else if f.pc t = 1 then ⟨if tellS f.ps u 3 L.a1 = 0 then 1 else 0, true, false, false⟩
  else if f.pc t = 2 then Dd.no
  else if f.pc t = 3 then Dd.no
  else if tellS f.ps u 1 (L.lk t) = 0 then ⟨1, false, false, false⟩ else Dd.no
def FL.rel (f : FL) (L : Lp) (t : Nat) (u : Int) : FL :=
  if f.pc t = 0 then { f with pc := upd f.pc t (if tellS f.ps u 1 (L.nx t) = 0 then 1 else 3), oth := upd f.oth t (tellS f.ps u 1 (L.nx t)), ps := doS f.ps u 1 (L.nx t) 0 0 }
  else if f.pc t = 1 then { f with pc := upd f.pc t (if casT f.ps u L.a1 ((t : Int) + 1) = true then 0 else 2), ps := doS f.ps u 4 L.a1 ((t : Int) + 1) 0 }
  else if f.pc t = 2 then { f with pc := upd f.pc t (if tellS f.ps u 1 (L.nx t) = 0 then 2 else 3), oth := upd f.oth t (tellS f.ps u 1 (L.nx t)), ps := doS f.ps u 1 (L.nx t) 0 0 }
  else { f with pc := upd f.pc t 0, ps := doS f.ps u 2 (L.lk (f.oth t - 1)) 0 0 }
def FL.relD (f : FL) (L : Lp) (t : Nat) (u : Int) : Dd :=
  if f.pc t = 0 then Dd.no
  else if f.pc t = 1 then (if casT f.ps u L.a1 ((t : Int) + 1) = true then ⟨3, false, false, false⟩ else Dd.no)
  else if f.pc t = 2 then Dd.no
  else ⟨3, false, false, false⟩
def FL.ask (f : FL) (L : Lp) (t : Nat) (u : Int) : FL := { f with ps := doS f.ps u 1 (L.nx t) 0 0 }
def FL.askD (f : FL) (L : Lp) (t : Nat) (u : Int) : Dd := if tellS f.ps u 1 (L.nx t) = 0 then ⟨4, false, false, false⟩ else ⟨5, false, false, false⟩
/-- behind the access of a step, its event still to come -/
def FL.mid (f : FL) (L : Lp) (t u : Int) : FL := if 0 ≤ t ∧ t < f.s.n then (if f.s.st t.toNat = 1 then f.acq L t.toNat u else if f.s.st t.toNat = 3 then f.rel L t.toNat u else if f.s.st t.toNat = 4 then f.ask L t.toNat u else f) else f
def FL.did (f : FL) (L : Lp) (t u : Int) : Dd := if 0 ≤ t ∧ t < f.s.n then (if f.s.st t.toNat = 1 then f.acqD L t.toNat u else if f.s.st t.toNat = 3 then f.relD L t.toNat u else if f.s.st t.toNat = 4 then f.askD L t.toNat u else Dd.no) else Dd.no
def FL.step (f : FL) (L : Lp) (t u : Int) : FL := { f.mid L t u with s := f.s.fin t (f.did L t u).ev }
def FL.lock (f : FL) (t d : Int) : FL := { f with s := f.s.lock t d }
def FL.turn (f : FL) (t x : Int) : FL := { f with s := f.s.turn t x }
def FL.probe (f : FL) (t : Int) : FL := { f with s := f.s.probe t }

theorem FL.acq_s (f : FL) (L : Lp) (t : Nat) (u : Int) : (f.acq L t u).s = f.s := by unfold FL.acq; repeat' split <;> try rfl
theorem FL.rel_s (f : FL) (L : Lp) (t : Nat) (u : Int) : (f.rel L t u).s = f.s := by unfold FL.rel; repeat' split <;> try rfl
theorem FL.mid_s (f : FL) (L : Lp) (t u : Int) : (f.mid L t u).s = f.s := by
  unfold FL.mid
  repeat' split
  · exact f.acq_s L _ u
  · exact f.rel_s L _ u
  all_goals rfl
end Go.Proofs.Ytpaihjlohcakjaa
