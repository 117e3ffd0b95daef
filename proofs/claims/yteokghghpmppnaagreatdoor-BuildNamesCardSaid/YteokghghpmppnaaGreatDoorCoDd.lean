/- What a step did, for several kinds of locks in one seat. -/
import Derived.Test.YteokghghpmppnaaGreatDoorSeatNew
import Derived.Test.YteokghghpmppnaaGreatDoorPlanPort
import Derived.Test.YteokghghpmppnaaGreatDoorLockVia
namespace Go.Proofs.YteokghghpmppnaaGreatDoor
open Go.RowKit
/-- what a step did -/
structure Dd where
  ev : Int
  enq : Bool
  arr : Bool
  lead : Bool
def Dd.no : Dd := ⟨0, false, false, false⟩
def Dd.val (d : Dd) : Value := .agg #[.int .i64 d.ev, .bool d.enq, .bool d.arr, .bool d.lead]
def b2i (b : Bool) : Int := if b then 1 else 0
def Dd.rval (d : Dd) : Value := .agg #[.int .i64 d.ev, .int .i64 (b2i d.enq), .int .i64 (b2i d.arr), .int .i64 (b2i d.lead)]
end Go.Proofs.YteokghghpmppnaaGreatDoor
