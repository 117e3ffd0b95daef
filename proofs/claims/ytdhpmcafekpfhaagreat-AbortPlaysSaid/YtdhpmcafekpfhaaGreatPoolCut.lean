/- The contract of the library's cut of one number out of a row. -/
import Derived.Test.YtdhpmcafekpfhaaGreatPoolAsk
import Derived.Lib.SlicesDelete
namespace Go.Proofs.YtdhpmcafekpfhaaGreat
open Go.RowKit
set_option linter.unusedVariables false

theorem blk_setCells {b : Nat} {t : TypeId} : ∀ (vs : List Value) (o : Nat) (w : World) (cs : Array Value), w.heap[b]? = some (.cells cs t (0, 0)) → (w.setCells b o vs).heap[b]? = some (.cells (Go.Lib.lay cs o vs) t (0, 0))
  | [], _, _, _, h => h
  | v :: r, o, w, cs, h => blk_setCells r (o + 1) _ _ (blk_setCell h o v)
theorem wrote_setCells {b : Nat} : ∀ (vs : List Value) (o : Nat) (w : World), Wrote (One b) w (w.setCells b o vs)
  | [], _, w => Wrote.refl _ w
  | v :: r, o, w => ((Wrote.refl (One b) w).setCell ⟨b, o, none⟩ v fun _ => rfl).trans (wrote_setCells r (o + 1) _) fun _ _ x => x

theorem cut_take (cur : Array Value) (l : List Value) (i : Nat) (z : Value) (hl : cur.toList.take l.length = l) (hc : l.length ≤ cur.size) (hi : i < l.length) :
    (Go.Lib.lay (Go.Lib.lay cur i (l.drop (i + 1))) (l.length - 1) [z]).toList.take (l.length - 1) = l.eraseIdx i := by
  have hcur : ∀ j, j < l.length → cur[j]? = l[j]? := fun j hj => by
    rw [← Array.getElem?_toList, ← List.getElem?_take_of_lt hj, hl]
  apply List.ext_getElem?
  intro j
  by_cases hj : j < l.length - 1
  · rw [List.getElem?_take_of_lt hj, Array.getElem?_toList, Go.Lib.lay_get? _ _ _ _ (by rw [Go.Lib.lay_size]; simp; omega), if_neg (by simp; omega), Go.Lib.lay_get? _ _ _ _ (by simp; omega), List.getElem?_eraseIdx]
    simp only [List.length_drop]
    by_cases h : j < i
    · rw [if_neg (by omega), if_pos h, hcur j (by omega)]
    · rw [if_pos (by omega), if_neg h, List.getElem?_drop, show i + 1 + (j - i) = j + 1 by omega]
  · rw [List.getElem?_eq_none (by rw [List.length_take]; omega), List.getElem?_eq_none (by rw [List.length_eraseIdx_of_lt hi]; omega)]

theorem erase_map {α β : Type} (f : α → β) : ∀ (l : List α) (i : Nat), (l.map f).eraseIdx i = (l.eraseIdx i).map f
  | [], _ => rfl
  | _ :: _, 0 => rfl
  | x :: r, i + 1 => by simp only [List.map_cons, List.eraseIdx_cons_succ, erase_map f r i]

def CutPost (w : World) (v : Value) (l : List Nat) (e : Ending) (w' : World) : Prop :=
  ∃ v', e = .returned v' ∧ w'.ownsRow 0 3 1 v' l.length (l.map idv) ∧ v'.ownBlock = v.ownBlock ∧ Wrote (fun k => v.ownBlock = some k) w w'

theorem zv_int : ∀ w, (zeroValue 3).run Tryz.prog w = .ok (.int .i64 0) w := fun _ => by kernel_rfl

end Go.Proofs.YtdhpmcafekpfhaaGreat
