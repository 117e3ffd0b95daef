/- A hierarchical CLH lock as a plain thing: its seats, each context's cluster, step, node, the one ahead, its batch's last one and that one's word, the state of its port; what a step does; no heap, no walk. -/
import Derived.Test.YteacdcdjdbobnaaGreatSeatNew
import Derived.Test.YteacdcdjdbobnaaGreatPlanPort
import Derived.Test.YteacdcdjdbobnaaGreatLockVia
namespace Go.Proofs.YteacdcdjdbobnaaGreat
open Go.RowKit
set_option linter.unusedVariables false
set_option maxRecDepth 100000

/-! ### plain -/
/-- what a step did -/
structure Dd where
  ev : Int
  enq : Bool
  arr : Bool
  lead : Bool
def Dd.no : Dd := ⟨0, false, false, false⟩
def Dd.val (d : Dd) : Value := .agg #[.int .i64 d.ev, .bool d.enq, .bool d.arr, .bool d.lead]
def b2i (b : Bool) : Int := if b then 1 else 0
def Dd.rval (d : Dd) : Value := .agg #[.int .i64 d.ev, .int .i64 (b2i d.enq), .int .i64 (b2i d.arr), .int .i64 (b2i d.lead)]

/-- a node's word: its cluster, whether who is behind waits, whether it is spliced -/
def wd (c w s : Int) : Int := c * 4 + w * 2 + s
def wCl (v : Int) : Int := v / 4
def wWt (v : Int) : Int := v / 2 % 2
def wSp (v : Int) : Int := v % 2

/-- a lock with its port: its seats, each context's cluster, how many steps of its call it has done, its node, the one ahead, its batch's last one, the word it read, the port -/
structure FL where
  s : SS
  cl : Nat → Int
  pc : Nat → Int
  nd : Nat → Int
  ahd : Nat → Int
  of : Nat → Int
  wv : Nat → Int
  ps : PSta
/-- where a lock lies: its struct, its seats' struct and contexts, its places; its words' addresses (the tail of all, the first cluster's); its port's place and homes -/
structure Lp where
  lb : Nat
  p : Nat
  b : Nat
  tb : Nat
  a1 : Int
  a2 : Int
  q : Place
  hs : List Int
/-- where a cluster's tail lies, a node's word -/
def Lp.cA (L : Lp) (c : Int) : Int := L.a2 + c
def Lp.nA (L : Lp) (i : Int) : Int := L.a2 + 7 + i
def casT (s : PSta) (u a old : Int) : Bool := okT s u a && casB s.ws a old

def FL.acq (f : FL) (L : Lp) (t : Nat) (u : Int) : FL :=
  if f.pc t = 0 then { f with pc := upd f.pc t 1, ps := doS f.ps u 2 (L.nA (f.nd t)) 0 (wd (f.cl t) 1 0) }
  else if f.pc t = 1 then { f with pc := upd f.pc t (if tellS f.ps u 3 (L.cA (f.cl t)) = 0 then 3 else 2), ahd := upd f.ahd t (tellS f.ps u 3 (L.cA (f.cl t))), ps := doS f.ps u 3 (L.cA (f.cl t)) 0 (f.nd t) }
  else if f.pc t = 2 then { f with pc := upd f.pc t (if wCl (tellS f.ps u 1 (L.nA (f.ahd t))) = f.cl t ∧ wSp (tellS f.ps u 1 (L.nA (f.ahd t))) = 0 then (if wWt (tellS f.ps u 1 (L.nA (f.ahd t))) = 0 then 0 else 2) else 3), ps := doS f.ps u 1 (L.nA (f.ahd t)) 0 0 }
  else if f.pc t = 3 then { f with pc := upd f.pc t 4, of := upd f.of t (tellS f.ps u 1 (L.cA (f.cl t))), ps := doS f.ps u 1 (L.cA (f.cl t)) 0 0 }
  else if f.pc t = 4 then { f with pc := upd f.pc t 5, ahd := upd f.ahd t (tellS f.ps u 3 L.a1), ps := doS f.ps u 3 L.a1 0 (f.of t) }
  else if f.pc t = 5 then { f with pc := upd f.pc t 6, wv := upd f.wv t (tellS f.ps u 1 (L.nA (f.of t))), ps := doS f.ps u 1 (L.nA (f.of t)) 0 0 }
  else if f.pc t = 6 then { f with pc := upd f.pc t (if casT f.ps u (L.nA (f.of t)) (f.wv t) = true then 7 else 5), ps := doS f.ps u 4 (L.nA (f.of t)) (f.wv t) (wd (wCl (f.wv t)) (wWt (f.wv t)) 1) }
  else { f with pc := upd f.pc t (if wWt (tellS f.ps u 1 (L.nA (f.ahd t))) = 0 then 0 else 7), ps := doS f.ps u 1 (L.nA (f.ahd t)) 0 0 }
def FL.acqD (f : FL) (L : Lp) (t : Nat) (u : Int) : Dd :=
  if f.pc t = 0 then Dd.no
  else if f.pc t = 1 then ⟨0, true, false, false⟩
  else if f.pc t = 2 then (if (wCl (tellS f.ps u 1 (L.nA (f.ahd t))) = f.cl t ∧ wSp (tellS f.ps u 1 (L.nA (f.ahd t))) = 0) ∧ wWt (tellS f.ps u 1 (L.nA (f.ahd t))) = 0 then ⟨1, false, false, false⟩ else Dd.no)
  else if f.pc t = 3 then Dd.no
  else if f.pc t = 4 then ⟨0, false, true, false⟩
  else if f.pc t = 5 then Dd.no
  else if f.pc t = 6 then Dd.no
  else if wWt (tellS f.ps u 1 (L.nA (f.ahd t))) = 0 then ⟨1, false, false, true⟩ else Dd.no
def FL.rel (f : FL) (L : Lp) (t : Nat) (u : Int) : FL :=
  if f.pc t = 0 then { f with pc := upd f.pc t 1, wv := upd f.wv t (tellS f.ps u 1 (L.nA (f.nd t))), ps := doS f.ps u 1 (L.nA (f.nd t)) 0 0 }
  else { f with pc := upd f.pc t 0, nd := upd f.nd t (if casT f.ps u (L.nA (f.nd t)) (f.wv t) = true then f.ahd t else f.nd t), ps := doS f.ps u 4 (L.nA (f.nd t)) (f.wv t) (wd (wCl (f.wv t)) 0 (wSp (f.wv t))) }
def FL.relD (f : FL) (L : Lp) (t : Nat) (u : Int) : Dd := if f.pc t = 0 then Dd.no else if casT f.ps u (L.nA (f.nd t)) (f.wv t) = true then ⟨3, false, false, false⟩ else Dd.no
/-- behind the access of a step, its event still to come -/
def FL.mid (f : FL) (L : Lp) (t u : Int) : FL := if 0 ≤ t ∧ t < f.s.n then (if f.s.st t.toNat = 1 then f.acq L t.toNat u else if f.s.st t.toNat = 3 then f.rel L t.toNat u else f) else f
def FL.did (f : FL) (L : Lp) (t u : Int) : Dd := if 0 ≤ t ∧ t < f.s.n then (if f.s.st t.toNat = 1 then f.acqD L t.toNat u else if f.s.st t.toNat = 3 then f.relD L t.toNat u else Dd.no) else Dd.no
def FL.step (f : FL) (L : Lp) (t u : Int) : FL := { f.mid L t u with s := f.s.fin t (f.did L t u).ev }
def FL.lock (f : FL) (t d : Int) : FL := { f with s := f.s.lock t d }
def FL.turn (f : FL) (t x : Int) : FL := { f with s := f.s.turn t x }
def FL.probe (f : FL) (t : Int) : FL := { f with s := f.s.probe t }

theorem FL.acq_s (f : FL) (L : Lp) (t : Nat) (u : Int) : (f.acq L t u).s = f.s := by unfold FL.acq; repeat' split <;> try rfl
theorem FL.rel_s (f : FL) (L : Lp) (t : Nat) (u : Int) : (f.rel L t u).s = f.s := by unfold FL.rel; repeat' split <;> try rfl
theorem FL.mid_s (f : FL) (L : Lp) (t u : Int) : (f.mid L t u).s = f.s := by
  unfold FL.mid
  repeat' split
  · exact f.acq_s L _ u
  · exact f.rel_s L _ u
  all_goals rfl
end Go.Proofs.YteacdcdjdbobnaaGreat
