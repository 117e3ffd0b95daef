import Derived.Test.YtkmikkjjnbikdaaGreatLockTwo
namespace Go.Proofs.YtkmikkjjnbikdaaGreat
set_option maxHeartbeats 8000000
open _root_.Go.Proofs.Tryz Go.Deep
open Go.RowKit Go.BigFrame
set_option linter.unusedVariables false
set_option maxRecDepth 100000
def DidPost (w:World) (d:Dd) (e:Ending) (w':World):Prop:=e= .returned d.rval∧Wr Nil w w'
theorem three_1 (w:World) (A B C:Obj):(((w.alloc A).alloc B).alloc C).heap[w.heap.size+1]? =some B:=by
 rw [blk_alloc_lt _ _ _ (by rw [nblk_alloc,nblk_alloc];omega),two_1]
theorem did_any (w:World) (ev:Int) (enq arr lead:Bool):Calls prog 58 #[.agg #[.int .i64 ev,.bool enq,.bool arr,.bool lead]] w (DidPost w ⟨ev,enq,arr,lead⟩):=by
 cases enq<;>cases arr<;>cases lead
 all_goals
  go_enter func58,ntmps58
  go_wp2
  exact bodyPost_ret (results_cell_row rfl _ _ (w.heap.size+1) 136 _ (0,0) _ rfl (three_1 w _ _ _) underlying136 rfl i_rid) rfl ⟨rfl,(((Wr.refl _ w).alloc _).alloc _).alloc _⟩
end Go.Proofs.YtkmikkjjnbikdaaGreat
