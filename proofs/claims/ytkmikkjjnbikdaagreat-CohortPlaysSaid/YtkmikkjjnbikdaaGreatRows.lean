/-
  No cell of these rows narrows 'for every input' (looked for: loops, veiled, ifaces, maps, wideKeys, modest, calm, conditions, laid).
  DERIVED. THE GIVEN ROWS OF THIS SEAT. 5 by the template 'for every input the law returns true; each argument reads behind the call as it read before'; 0 by the template 'total and deterministic' (their statements: YtkmikkjjnbikdaaGreatTotals.lean).
  GIVEN WITH THE SEED: the statements are not yours to turn. If you find one false, say at which input.
  Laid BY PROGRAM, IN A SANDBOX (cutbox-rows.mjs): the forced cells as the released guide's own fill.sh prints them over the translation e3ce160db585db13… (all of the seat's roots in one cut). By AI agents, Wed Nov 11 2026. No macro, syntax, notation, axiom, sorry.
-/
import Derived.Test.YtkmikkjjnbikdaaGreatChecked
import GoSem.Claim
import GoSem.ClaimJoined
import GoSem.ClaimMapViews
import Derived.JoinedTies
import Derived.KernelRfl
namespace Go.Proofs.YtkmikkjjnbikdaaGreat
/- THE CELL 'sum', in the pinned program and in every row, IS THE sha256 OF THE DUMP (.gsa) THAT YtkmikkjjnbikdaaGreatProg.lean LOADS. Nothing in Lean hashes anything: it is a label: what it is worth is what the hold of that sum in a sandbox is worth. -/
noncomputable def Tryz.pinned : Pinned := { name := "ytkmikkjjnbikdaagreat", sum := "e3ce160db585db1315c417f1914701dce4811867c7c53d67df5cf8419f5780bc", checked := Tryz.checked }
namespace Rows
def none {H : Type} : Left H := { results := [], args := [] }

/-- 'weighlocklaw16.CohortPlays': WHATEVER THE INPUT: true; the input reads as it did. -/
def cohortPlaysSpec : ChangeSpec := { name := "cohortPlays", fn := fun _ => fun
  | [d1, d2, d3] => { results := [.lit (.bool true)], args := [d1, d2, d3] }
  | _ => none }
def cohortPlaysRow : OpenClaim := { program := "ytkmikkjjnbikdaagreat", sum := "e3ce160db585db1315c417f1914701dce4811867c7c53d67df5cf8419f5780bc", func := "weighlock/weighlocklaw16.CohortPlays", spec := "cohortPlays", inPlace := ["sync/atomic.LoadUint32", "sync/atomic.StoreUint32"], unfollowed := true, recurses := true, apart := false }
def CohortPlaysSaid : Prop := cohortPlaysRow.holds Tryz.pinned (OpenSpec.ofChange cohortPlaysSpec)

/-- ITS FALSE NEIGHBOUR: 'it returns false'. Refute it at one input. -/
def cohortPlaysWrong : ChangeSpec := { name := "cohortPlays", fn := fun _ => fun
  | [d1, d2, d3] => { results := [.lit (.bool false)], args := [d1, d2, d3] }
  | _ => none }
def CohortPlaysWrongFalsely : Prop := cohortPlaysRow.holds Tryz.pinned (OpenSpec.ofChange cohortPlaysWrong)

/-- 'weighlocklaw16.CohortRows': WHATEVER THE INPUT: true; the input reads as it did. -/
def cohortRowsSpec : ChangeSpec := { name := "cohortRows", fn := fun _ => fun
  | [d1, d2, d3] => { results := [.lit (.bool true)], args := [d1, d2, d3] }
  | _ => none }
def cohortRowsRow : OpenClaim := { program := "ytkmikkjjnbikdaagreat", sum := "e3ce160db585db1315c417f1914701dce4811867c7c53d67df5cf8419f5780bc", func := "weighlock/weighlocklaw16.CohortRows", spec := "cohortRows", inPlace := ["sync/atomic.LoadUint32", "sync/atomic.StoreUint32"], unfollowed := true, recurses := true, apart := false }
def CohortRowsSaid : Prop := cohortRowsRow.holds Tryz.pinned (OpenSpec.ofChange cohortRowsSpec)

/-- ITS FALSE NEIGHBOUR: 'it returns false'. Refute it at one input. -/
def cohortRowsWrong : ChangeSpec := { name := "cohortRows", fn := fun _ => fun
  | [d1, d2, d3] => { results := [.lit (.bool false)], args := [d1, d2, d3] }
  | _ => none }
def CohortRowsWrongFalsely : Prop := cohortRowsRow.holds Tryz.pinned (OpenSpec.ofChange cohortRowsWrong)

/-- 'weighlocklaw16.CohortNews': WHATEVER THE INPUT: true; the input reads as it did. -/
def cohortNewsSpec : ChangeSpec := { name := "cohortNews", fn := fun _ => fun
  | [d1, d2, d3] => { results := [.lit (.bool true)], args := [d1, d2, d3] }
  | _ => none }
def cohortNewsRow : OpenClaim := { program := "ytkmikkjjnbikdaagreat", sum := "e3ce160db585db1315c417f1914701dce4811867c7c53d67df5cf8419f5780bc", func := "weighlock/weighlocklaw16.CohortNews", spec := "cohortNews", inPlace := ["sync/atomic.LoadUint32", "sync/atomic.StoreUint32"], unfollowed := true, recurses := true, apart := false }
def CohortNewsSaid : Prop := cohortNewsRow.holds Tryz.pinned (OpenSpec.ofChange cohortNewsSpec)

/-- ITS FALSE NEIGHBOUR: 'it returns false'. Refute it at one input. -/
def cohortNewsWrong : ChangeSpec := { name := "cohortNews", fn := fun _ => fun
  | [d1, d2, d3] => { results := [.lit (.bool false)], args := [d1, d2, d3] }
  | _ => none }
def CohortNewsWrongFalsely : Prop := cohortNewsRow.holds Tryz.pinned (OpenSpec.ofChange cohortNewsWrong)

/-- 'weighlocklaw16.CohortTurns': WHATEVER THE INPUT: true; the input reads as it did. -/
def cohortTurnsSpec : ChangeSpec := { name := "cohortTurns", fn := fun _ => fun
  | [d1, d2, d3] => { results := [.lit (.bool true)], args := [d1, d2, d3] }
  | _ => none }
def cohortTurnsRow : OpenClaim := { program := "ytkmikkjjnbikdaagreat", sum := "e3ce160db585db1315c417f1914701dce4811867c7c53d67df5cf8419f5780bc", func := "weighlock/weighlocklaw16.CohortTurns", spec := "cohortTurns", inPlace := ["sync/atomic.LoadUint32", "sync/atomic.StoreUint32"], unfollowed := true, recurses := true, apart := false }
def CohortTurnsSaid : Prop := cohortTurnsRow.holds Tryz.pinned (OpenSpec.ofChange cohortTurnsSpec)

/-- ITS FALSE NEIGHBOUR: 'it returns false'. Refute it at one input. -/
def cohortTurnsWrong : ChangeSpec := { name := "cohortTurns", fn := fun _ => fun
  | [d1, d2, d3] => { results := [.lit (.bool false)], args := [d1, d2, d3] }
  | _ => none }
def CohortTurnsWrongFalsely : Prop := cohortTurnsRow.holds Tryz.pinned (OpenSpec.ofChange cohortTurnsWrong)

/-- 'weighlocklaw16.CohortLeads': WHATEVER THE INPUT: true; the input reads as it did. -/
def cohortLeadsSpec : ChangeSpec := { name := "cohortLeads", fn := fun _ => fun
  | [d1, d2, d3] => { results := [.lit (.bool true)], args := [d1, d2, d3] }
  | _ => none }
def cohortLeadsRow : OpenClaim := { program := "ytkmikkjjnbikdaagreat", sum := "e3ce160db585db1315c417f1914701dce4811867c7c53d67df5cf8419f5780bc", func := "weighlock/weighlocklaw16.CohortLeads", spec := "cohortLeads", inPlace := ["sync/atomic.LoadUint32", "sync/atomic.StoreUint32"], unfollowed := true, recurses := true, apart := false }
def CohortLeadsSaid : Prop := cohortLeadsRow.holds Tryz.pinned (OpenSpec.ofChange cohortLeadsSpec)

/-- ITS FALSE NEIGHBOUR: 'it returns false'. Refute it at one input. -/
def cohortLeadsWrong : ChangeSpec := { name := "cohortLeads", fn := fun _ => fun
  | [d1, d2, d3] => { results := [.lit (.bool false)], args := [d1, d2, d3] }
  | _ => none }
def CohortLeadsWrongFalsely : Prop := cohortLeadsRow.holds Tryz.pinned (OpenSpec.ofChange cohortLeadsWrong)

/- THE SECOND FORM. 'bulk': how many values and letters a reading holds, each counted each time it is reached (what is shared counts as often as it is met; a slice's spare places count too). A statement '..UptoSaid' is the law's where the arguments, and the package variables that the reading takes, are together of bulk at most 1048576: NARROWER than '..Said'. Prove '..Said' where nothing that the law and all that it calls make is longer than what came in: it says more and counts as full. Else prove '..UptoSaid'. A law counts once. -/
mutual
def uptoBulk {H : Type} : DataW H → Nat
  | .lit (.string bytes) => bytes.length + 1
  | .lit _ => 1
  | .nil => 1
  | .ptr d => uptoBulk d + 1
  | .slice elems spare => uptoBulkAll elems + uptoBulkAll spare + 1
  | .agg parts => uptoBulkAll parts + 1
  | .iface _ d => uptoBulk d + 1
  | .map entries => uptoBulkEntries entries + 1
  | .held _ => 1
def uptoBulkAll {H : Type} : List (DataW H) → Nat
  | [] => 0
  | d :: r => uptoBulk d + uptoBulkAll r
def uptoBulkEntries {H : Type} : List (Lit × DataW H) → Nat
  | [] => 0
  | x :: r => uptoBulkEntry x + uptoBulkEntries r
def uptoBulkEntry {H : Type} : Lit × DataW H → Nat
  | (.string bytes, d) => bytes.length + uptoBulk d + 1
  | (_, d) => uptoBulk d + 1
 end
def uptoSmall : (H : Type) → List (DataW H) → Bool := fun _ ds => decide (uptoBulkAll ds ≤ 1048576)
def OpenSpec.upto (s : _root_.Go.ChangeSpec) : _root_.Go.OpenSpec := { _root_.Go.OpenSpec.ofChange s with cond := some uptoSmall }

/-- 'weighlocklaw16.CohortPlays', WHERE WHAT IT READS IS OF BULK AT MOST 1048576: true; the input reads as it did. -/
def cohortPlaysUptoRow : OpenClaim := { program := "ytkmikkjjnbikdaagreat", sum := "e3ce160db585db1315c417f1914701dce4811867c7c53d67df5cf8419f5780bc", func := "weighlock/weighlocklaw16.CohortPlays", spec := "cohortPlays", inPlace := ["sync/atomic.LoadUint32", "sync/atomic.StoreUint32"], unfollowed := true, recurses := true, apart := false, narrowed := true }
def CohortPlaysUptoSaid : Prop := cohortPlaysUptoRow.holds Tryz.pinned (OpenSpec.upto cohortPlaysSpec)

/-- 'weighlocklaw16.CohortRows', WHERE WHAT IT READS IS OF BULK AT MOST 1048576: true; the input reads as it did. -/
def cohortRowsUptoRow : OpenClaim := { program := "ytkmikkjjnbikdaagreat", sum := "e3ce160db585db1315c417f1914701dce4811867c7c53d67df5cf8419f5780bc", func := "weighlock/weighlocklaw16.CohortRows", spec := "cohortRows", inPlace := ["sync/atomic.LoadUint32", "sync/atomic.StoreUint32"], unfollowed := true, recurses := true, apart := false, narrowed := true }
def CohortRowsUptoSaid : Prop := cohortRowsUptoRow.holds Tryz.pinned (OpenSpec.upto cohortRowsSpec)

/-- 'weighlocklaw16.CohortNews', WHERE WHAT IT READS IS OF BULK AT MOST 1048576: true; the input reads as it did. -/
def cohortNewsUptoRow : OpenClaim := { program := "ytkmikkjjnbikdaagreat", sum := "e3ce160db585db1315c417f1914701dce4811867c7c53d67df5cf8419f5780bc", func := "weighlock/weighlocklaw16.CohortNews", spec := "cohortNews", inPlace := ["sync/atomic.LoadUint32", "sync/atomic.StoreUint32"], unfollowed := true, recurses := true, apart := false, narrowed := true }
def CohortNewsUptoSaid : Prop := cohortNewsUptoRow.holds Tryz.pinned (OpenSpec.upto cohortNewsSpec)

/-- 'weighlocklaw16.CohortTurns', WHERE WHAT IT READS IS OF BULK AT MOST 1048576: true; the input reads as it did. -/
def cohortTurnsUptoRow : OpenClaim := { program := "ytkmikkjjnbikdaagreat", sum := "e3ce160db585db1315c417f1914701dce4811867c7c53d67df5cf8419f5780bc", func := "weighlock/weighlocklaw16.CohortTurns", spec := "cohortTurns", inPlace := ["sync/atomic.LoadUint32", "sync/atomic.StoreUint32"], unfollowed := true, recurses := true, apart := false, narrowed := true }
def CohortTurnsUptoSaid : Prop := cohortTurnsUptoRow.holds Tryz.pinned (OpenSpec.upto cohortTurnsSpec)

/-- 'weighlocklaw16.CohortLeads', WHERE WHAT IT READS IS OF BULK AT MOST 1048576: true; the input reads as it did. -/
def cohortLeadsUptoRow : OpenClaim := { program := "ytkmikkjjnbikdaagreat", sum := "e3ce160db585db1315c417f1914701dce4811867c7c53d67df5cf8419f5780bc", func := "weighlock/weighlocklaw16.CohortLeads", spec := "cohortLeads", inPlace := ["sync/atomic.LoadUint32", "sync/atomic.StoreUint32"], unfollowed := true, recurses := true, apart := false, narrowed := true }
def CohortLeadsUptoSaid : Prop := cohortLeadsUptoRow.holds Tryz.pinned (OpenSpec.upto cohortLeadsSpec)

end Rows
end Go.Proofs.YtkmikkjjnbikdaaGreat
