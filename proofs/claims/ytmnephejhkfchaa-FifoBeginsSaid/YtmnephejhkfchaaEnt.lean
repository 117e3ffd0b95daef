/- An entry of a trace; no program is named. -/
import Derived.Test.YtmnephejhkfchaaRecs
namespace Go.Proofs.Ytmnephejhkfchaa
open Go.RowKit Go.BigFrame
set_option linter.unusedVariables false

/-- an entry of a trace -/
structure Ent where
  k : Int
  t : Int
  now : Int
  lead : Bool
def Ent.cells (e : Ent) : List Value := [.int .i64 e.k, .int .i64 e.t, .int .i64 e.now, .bool e.lead]
theorem Ent.clen (e : Ent) : e.cells.length = 4 := rfl
theorem ent_one (e : Ent) : ∀ u ∈ e.cells, u.oneCell' = true := by
  intro u hu
  simp only [Ent.cells, List.mem_cons, List.not_mem_nil, or_false] at hu
  rcases hu with rfl | rfl | rfl | rfl <;> rfl
theorem Ent.ne (e : Ent) : e.cells ≠ [] := by simp [Ent.cells]
/-- a list's next one -/
theorem take_ent {D : List Ent} {k : Nat} {x : Ent} (hx : D[k]? = some x) : D.take (k + 1) = D.take k ++ [x] := by rw [List.take_add_one, hx]; rfl
end Go.Proofs.Ytmnephejhkfchaa
