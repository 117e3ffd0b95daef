/- A call of both: they tell the same. -/
import Derived.Test.YteacdcdjdbobnaaGreatLockTwo
import Derived.Laws.StructEq
import Derived.Deep.Cut
import Derived.Deep.CutBlock
import Derived.Deep.RegionHeld3
import Derived.BigQuiet
import Derived.BigFrame
namespace Go.Proofs.YteacdcdjdbobnaaGreat
open Go.RowKit Go.BigFrame
set_option linter.unusedVariables false
set_option maxRecDepth 100000

def DidPost (w : World) (d : Dd) (e : Ending) (w' : World) : Prop := e = .returned d.rval ∧ Wrote Nil w w'
theorem three_1 (w : World) (A B C : Obj) : (((w.alloc A).alloc B).alloc C).heap[w.heap.size + 1]? = some B := by
  rw [Go.Deep.blk_alloc_lt _ _ _ (by rw [Go.Deep.nblk_alloc, Go.Deep.nblk_alloc]; omega), two_1]
set_option maxHeartbeats 2000000 in
theorem did_any (w : World) (ev : Int) (enq arr lead : Bool) : Calls Tryz.prog 38 #[.agg #[.int .i64 ev, .bool enq, .bool arr, .bool lead]] w (DidPost w ⟨ev, enq, arr, lead⟩) := by
  cases enq <;> cases arr <;> cases lead
  all_goals
    go_enter Tryz.func38, Tryz.ntmps38
    go_wp2
    exact bodyPost_ret (results_cell_row rfl _ _ (w.heap.size + 1) 105 _ (0, 0) _ rfl (three_1 w _ _ _) Tryz.underlying105 rfl i_rid) rfl ⟨rfl, (((Wrote.refl _ w).alloc _).alloc _).alloc _⟩

end Go.Proofs.YteacdcdjdbobnaaGreat
