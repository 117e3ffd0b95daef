/- The contracts of package pool's Take, Back and Row. -/
import Derived.Test.YtdhpmcafekpfhaaGreatPoolCut
import Derived.Laws.CopyOwn
namespace Go.Proofs.YtdhpmcafekpfhaaGreat
open Go.RowKit
set_option linter.unusedVariables false

/-! ### what holds of every pool -/
structure PInv (s : PS) : Prop where
  n1 : 1 ≤ s.n
  n2 : s.n ≤ 512
  T2 : s.T ≤ 64
  mem : ∀ t id, t < s.T → id ∈ s.row t → 1 ≤ id ∧ id ≤ s.n ∧ s.own id = (t : Int)
  all : ∀ id, 1 ≤ id → id ≤ s.n → s.own id = -1 ∨ ∃ t, t < s.T ∧ s.own id = (t : Int) ∧ id ∈ s.row t
  nodup : ∀ t, t < s.T → (s.row t).Nodup

theorem nodup_len : ∀ (n : Nat) (l : List Nat), l.Nodup → (∀ x ∈ l, 1 ≤ x ∧ x ≤ n) → l.length ≤ n
  | 0, l, _, h => by
    cases l with
    | nil => simp
    | cons x r => have := h x (by simp); omega
  | n + 1, l, hd, h => by
    have ih := nodup_len n (l.erase (n + 1)) (hd.erase _) fun x hx => by
      rw [hd.mem_erase_iff] at hx
      have := h x hx.2
      omega
    by_cases hm : (n + 1) ∈ l
    · rw [List.length_erase_of_mem hm] at ih
      omega
    · rw [List.erase_of_not_mem hm] at ih
      omega
theorem PInv.len {s : PS} (h : PInv s) {t : Nat} (ht : t < s.T) : (s.row t).length ≤ s.n :=
  nodup_len s.n _ (h.nodup t ht) fun x hx => by have := h.mem t x ht hx; exact ⟨this.1, this.2.1⟩
theorem outI_at {s : PS} {id : Nat} (h1 : 1 ≤ id) (h2 : id ≤ s.n) : outI s id = s.out id := by
  unfold outI
  rw [if_pos ⟨by omega, by omega⟩]
  rfl
theorem ofI_at {s : PS} {id : Nat} (h1 : 1 ≤ id) (h2 : id ≤ s.n) : ofI s id = s.own id := by
  unfold ofI
  rw [if_pos ⟨by omega, by omega⟩]
  rfl

/-! ### the tests by which a row is searched -/
theorem enter_of {f : FuncId} {fn : Func} {c : Code} (hf : Tryz.prog.funcs[f]? = some fn) (hname : (fn.name == "runtime.NumGoroutine") = false) (hb : fn.body = some c) : ∀ args w, (callFunc f args).run Tryz.prog w = .ok (.enter f args) w := by
  intro args w
  have h1 : fn.name ≠ "runtime.NumGoroutine" := by simpa using hname
  simp [callFunc, hf, h1, hb, mark]
/-! ### Take -/
/-- the node that Take takes -/
def PS.pick (s : PS) (t : Int) : Option Nat := if 0 ≤ t ∧ t < s.T then (s.row t.toNat).find? (fun id => !outI s (id : Int)) else none
theorem find_idx {is : Nat → Bool} {l : List Nat} {x : Nat} (h : l.find? is = some x) : ∃ k : Nat, l[k]? = some x ∧ idxI is l = (k : Int) := by
  rw [List.find?_eq_some_iff_append] at h
  obtain ⟨hx, l1, l2, rfl, ha⟩ := h
  have hk : (l1 ++ x :: l2)[l1.length]? = some x := by simp
  refine ⟨l1.length, hk, idx_hit hk hx fun j y hj hy => ?_⟩
  rw [List.getElem?_append_left hj] at hy
  have := ha y (List.mem_of_getElem? hy)
  simpa using this
theorem find_no {is : Nat → Bool} {l : List Nat} (h : l.find? is = none) : idxI is l = -1 := by
  rw [List.find?_eq_none] at h
  exact idx_miss fun j y _ hy => by have := h y (List.mem_of_getElem? hy); simpa using this

def TakeNo (w : World) (e : Ending) (w' : World) : Prop := e = .returned (.tuple #[.int .i64 0, .int .i64 6]) ∧ Wrote Nil w w'
def TakeYes (w : World) (q : Pp) (s : PS) (id : Nat) (e : Ending) (w' : World) : Prop := e = .returned (.tuple #[.int .i64 (id : Int), .int .i64 0]) ∧ PoolAt w' q (s.setOut id true) ∧ Wrote (q.F s.T) w w'

/-! ### Back -/
def backE (s : PS) (id : Int) : Int := if 1 ≤ id ∧ id ≤ s.n then (if outI s id = true then 0 else 6) else 1
def PS.back (s : PS) (id : Int) : PS := if 1 ≤ id ∧ id ≤ s.n ∧ outI s id = true then s.setOut id.toNat false else s
def BackPost (w : World) (q : Pp) (s : PS) (id : Int) (e : Ending) (w' : World) : Prop := e = .returned (.int .i64 (backE s id)) ∧ PoolAt w' q (s.back id) ∧ Wrote (q.F s.T) w w'
/-! ### Row -/
/-- a thread's row; of no thread: none -/
def PS.rowI (s : PS) (t : Int) : List Nat := if 0 ≤ t ∧ t < s.T then s.row t.toNat else []
def RowPost (w : World) (l : List Nat) (e : Ending) (w' : World) : Prop :=
  ∃ so cap, e = .returned (.slice so l.length cap) ∧ w'.ownsRow w.heap.size 3 1 (.slice so l.length cap) l.length (l.map idv) ∧ Wrote Nil w w'

set_option maxHeartbeats 1000000 in
theorem po_row {w : World} {q : Pp} {s : PS} (h : PoolAt w q s) (t : Int) (hL : (s.rowI t).length ≤ 1000000) :
    Calls Tryz.prog 33 #[.pointer (some ⟨q.p, 0, none⟩), .int .i64 t] w (RowPost w (s.rowI t)) := by
  have c := po_isThread h t
  unfold PS.rowI at hL ⊢
  by_cases ht : 0 ≤ t ∧ t < s.T
  · rw [decide_eq_true ht] at c
    rw [if_pos ht] at hL ⊢
    obtain ⟨t, rfl⟩ := Int.eq_ofNat_of_zero_le ht.1
    rw [Int.toNat_natCast] at hL ⊢
    have htT : t < s.T := by omega
    have c1 := h.cell1
    have c3 := h.rowCell htT
    obtain ⟨so, cap, hv, hso⟩ := h.rowV htT
    have hrow := h.row t htT
    rw [hv] at c3 hrow
    obtain ⟨l, hl⟩ : ∃ l, l = s.row t := ⟨_, rfl⟩
    rw [← hl] at hL c3 hrow ⊢
    obtain ⟨n, hn⟩ : ∃ n, n = l.length := ⟨_, rfl⟩
    have hmk := Go.run_make_row' (P := Tryz.prog) 22 3 (.int .i64 0) 8 Tryz.underlying22 pinfo_int rfl .i64 .i64 l.length (by omega) (by omega)
    have hcs := row_cell hrow
    obtain ⟨L, hLm⟩ : ∃ L, L = l.map idv := ⟨_, rfl⟩
    have hLl : L.length = l.length := by rw [hLm]; simp
    have hp : 0 < L.length → ∃ ad, so = some ad ∧ ∀ (j : Nat) (v : Value), L[j]? = some v → (w.alloc (.cells (madeCells #[.int .i64 0] l.length) 3)).cell? (ad.add j) = some v := fun h0 => by
      rcases hcs with e | ⟨g, rfl, hc⟩
      · omega
      · refine ⟨_, rfl, fun j v hv => ?_⟩
        rw [hLm, List.getElem?_map, Option.map_eq_some_iff] at hv
        obtain ⟨x, hx, rfl⟩ := hv
        rw [Go.Addr.add_lit, Nat.zero_add]
        exact ((Wrote.refl Nil w).alloc _).old (hc j x hx)
    have h1 : ∀ v ∈ L, v.oneCell' = true := by
      intro v hv
      rw [hLm] at hv
      obtain ⟨x, _, rfl⟩ := List.mem_map.1 hv
      rfl
    have ht' : (t : Int) < (s.T : Int) := by omega
    have hq1 : q.p < w.heap.size := blk_lt h.obj
    have hq2 : q.rb < w.heap.size := h.rows.lt
    have hM : (madeCells #[Value.int .i64 0] l.length).toList.length = l.length := by simp [madeCells]
    have hg : (w.alloc (.cells (madeCells #[.int .i64 0] l.length) 3)).heap[w.heap.size]? = some (.cells (madeCells #[.int .i64 0] l.length).toList.toArray 3 (0, 0)) := by rw [Array.toArray_toList]; exact Go.Deep.blk_alloc_new _ _
    have hsz1 : (Tryz.prog.info? 3).map (·.size) = some 1 := by obtain ⟨i0, hi0, _, hz1, _⟩ := info_parts pinfo_int; rw [hi0, ← hz1]; rfl
    have hB : Below w.heap.size w (w.alloc (.cells (madeCells #[.int .i64 0] l.length) 3)) := (Below.refl _ _).alloc (Nat.le_refl _) _
    have HP := Lib.hid (And.intro hp (And.intro h1 (And.intro hLl (And.intro hLm (And.intro hM (And.intro hg (And.intro hsz1 hB)))))))
    clear h hrow hcs hp h1 hLl hLm hv hl hn hM hg hsz1 hB
    go_enter Tryz.func33, Tryz.ntmps33
    go_wp2_with (first
      | (go_at_call 64; with_reducible refine c.mono ?_; rintro e w' ⟨rfl, rfl⟩)
      | (with_reducible refine wpList_copy_splice rfl (.tmp 19) (.tmp 26) 22 22 rfl 3 Tryz.underlying22 HP.out.2.2.2.2.2.2.1 (some ⟨w.heap.size, 0, none⟩) so l.length l.length l.length cap rfl rfl w.heap.size 0 (madeCells #[.int .i64 0] l.length).toList 3 HP.out.2.2.2.2.2.1 L (by rw [HP.out.2.2.1]; exact (Nat.min_self _).symm) (fun h0 => ⟨rfl, HP.out.1 h0⟩) (by rw [HP.out.2.2.1, HP.out.2.2.2.2.1]; omega) HP.out.2.1 w.heap.size w HP.out.2.2.2.2.2.2.2 (Nat.le_refl _) ?_; intro w2 hg2 hb2))
    go_ret
    obtain ⟨hp, h1, hLl, hLm, hM, _⟩ := HP.out
    refine ⟨_, _, rfl, ⟨by simp, .inr ⟨w.heap.size, l.length, _, rfl, Nat.le_refl _, hg2.out, Nat.le_refl _, by unfold maxLen; omega, ?_, ?_⟩⟩, Wrote.ofBelow hb2⟩
    · simp only [List.size_toArray]
      rw [length_splice _ _ _ (by rw [hLl, hM]; omega), hM, Nat.mul_one]
    · rw [Nat.mul_one, ← hLm]
      unfold splice
      rw [List.take_zero, List.nil_append, List.drop_of_length_le (by rw [hLl, hM]; omega), List.append_nil, ← hLl]
      exact List.take_length
  · rw [decide_eq_false ht] at c
    rw [if_neg ht] at hL ⊢
    clear h
    go_enter Tryz.func33, Tryz.ntmps33
    go_wp2_with (go_at_call 64; with_reducible refine c.mono ?_; rintro e w' ⟨rfl, rfl⟩)
    go_ret
    exact ⟨none, 0, rfl, World.ownsRow_nil _ _ _ _, Wrote.refl _ _⟩
end Go.Proofs.YtdhpmcafekpfhaaGreat
