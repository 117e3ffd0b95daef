/- The contracts of package pool's Take, Back and Row. -/
import Derived.Test.YtjkheoiebabkhaaPoolCut
import Derived.Laws.CopyOwn
namespace Go.Proofs.Ytjkheoiebabkhaa
open Go.RowKit
set_option linter.unusedVariables false

/-! ### what holds of every pool -/
structure PInv (s : PS) : Prop where
  n1 : 1 ≤ s.n
  n2 : s.n ≤ 512
  T2 : s.T ≤ 64
  mem : ∀ t id, t < s.T → id ∈ s.row t → 1 ≤ id ∧ id ≤ s.n ∧ s.own id = (t : Int)
  all : ∀ id, 1 ≤ id → id ≤ s.n → s.own id = -1 ∨ ∃ t, t < s.T ∧ s.own id = (t : Int) ∧ id ∈ s.row t
  nodup : ∀ t, t < s.T → (s.row t).Nodup

theorem nodup_len : ∀ (n : Nat) (l : List Nat), l.Nodup → (∀ x ∈ l, 1 ≤ x ∧ x ≤ n) → l.length ≤ n
  | 0, l, _, h => by
    cases l with
    | nil => simp
    | cons x r => have := h x (by simp); omega
  | n + 1, l, hd, h => by
    have ih := nodup_len n (l.erase (n + 1)) (hd.erase _) fun x hx => by
      rw [hd.mem_erase_iff] at hx
      have := h x hx.2
      omega
    by_cases hm : (n + 1) ∈ l
    · rw [List.length_erase_of_mem hm] at ih
      omega
    · rw [List.erase_of_not_mem hm] at ih
      omega
theorem PInv.len {s : PS} (h : PInv s) {t : Nat} (ht : t < s.T) : (s.row t).length ≤ s.n :=
  nodup_len s.n _ (h.nodup t ht) fun x hx => by have := h.mem t x ht hx; exact ⟨this.1, this.2.1⟩
theorem outI_at {s : PS} {id : Nat} (h1 : 1 ≤ id) (h2 : id ≤ s.n) : outI s id = s.out id := by
  unfold outI
  rw [if_pos ⟨by omega, by omega⟩]
  rfl
theorem ofI_at {s : PS} {id : Nat} (h1 : 1 ≤ id) (h2 : id ≤ s.n) : ofI s id = s.own id := by
  unfold ofI
  rw [if_pos ⟨by omega, by omega⟩]
  rfl

/-! ### the tests by which a row is searched -/
theorem po_take1 {w : World} {q : Pp} {s : PS} (h : PoolAt w q s) (hn : s.n ≤ 1000000) {B : Nat} (hB : w.cell? ⟨B, 0, none⟩ = some (.pointer (some ⟨q.p, 0, none⟩))) (x : Nat) :
    Calls Try.prog 23 (#[.int .i64 (x : Int)] ++ #[.pointer (some ⟨B, 0, none⟩)]) w fun e w' => e = .returned (.bool (!outI s x)) ∧ w = w' := by
  have c := po_out h hn (x : Int)
  clear h
  show Calls Try.prog 23 #[.int .i64 (x : Int), .pointer (some ⟨B, 0, none⟩)] w _
  go_enter Try.func23, Try.ntmps23
  go_wp2_with (go_at_call 19; with_reducible refine c.mono ?_; rintro e w' ⟨rfl, rfl⟩)
  go_ret
  exact ⟨rfl, rfl⟩

theorem po_give1 {w : World} {B : Nat} {id : Int} (hB : w.cell? ⟨B, 0, none⟩ = some (.int .i64 id)) (x : Nat) :
    Calls Try.prog 26 (#[.int .i64 (x : Int)] ++ #[.pointer (some ⟨B, 0, none⟩)]) w fun e w' => e = .returned (.bool (decide ((x : Int) = id))) ∧ w = w' := by
  show Calls Try.prog 26 #[.int .i64 (x : Int), .pointer (some ⟨B, 0, none⟩)] w _
  go_enter Try.func26, Try.ntmps26
  go_wp2
  go_ret
  exact ⟨rfl, rfl⟩

theorem po_place_no {w : World} {q : Pp} {s : PS} (h : PoolAt w q s) (t : Int) (ht : ¬ (0 ≤ t ∧ t < s.T)) (fv : Value) :
    Calls Try.prog 22 #[.pointer (some ⟨q.p, 0, none⟩), .int .i64 t, fv] w fun e w' => e = .returned (.int .i64 (-1)) ∧ w = w' := by
  have c := po_isThread h t
  rw [decide_eq_false ht] at c
  clear h
  go_enter Try.func22, Try.ntmps22
  go_wp2_with (go_at_call 25; with_reducible refine c.mono ?_; rintro e w' ⟨rfl, rfl⟩)
  go_ret
  exact ⟨rfl, rfl⟩

theorem po_place {w : World} {q : Pp} {s : PS} (h : PoolAt w q s) (t : Nat) (ht : t < s.T) (hL : (s.row t).length ≤ 1000000) (is : Nat → Bool) (g : Nat) (lb : Array Value) (eg : ∀ args w, (callFunc g args).run Try.prog w = .ok (.enter g args) w)
    (hp : ∀ x : Nat, x ∈ s.row t → Calls Try.prog g (#[.int .i64 (x : Int)] ++ lb) w fun e w' => e = .returned (.bool (is x)) ∧ w = w') :
    Calls Try.prog 22 #[.pointer (some ⟨q.p, 0, none⟩), .int .i64 (t : Int), .func (.func g) #[] lb] w fun e w' => e = .returned (.int .i64 (idxI is (s.row t))) ∧ w = w' := by
  have c := po_isThread h (t : Int)
  rw [decide_eq_true (show 0 ≤ (t : Int) ∧ (t : Int) < s.T by omega)] at c
  have c2 := po_index (h.row t ht) hL is g lb eg hp
  have c1 := h.cell1
  have c3 := h.rowCell ht
  obtain ⟨so, cap, hv, _⟩ := h.rowV ht
  rw [hv] at c3 c2
  have ht' : (t : Int) < (s.T : Int) := by omega
  clear h hp hv eg
  go_enter Try.func22, Try.ntmps22
  go_wp2_with (first
    | (go_at_call 25; with_reducible refine c.mono ?_; rintro e w' ⟨rfl, rfl⟩)
    | (go_at_call 28; with_reducible refine c2.mono ?_; rintro e w' ⟨rfl, rfl⟩))
  go_ret
  exact ⟨rfl, rfl⟩

theorem enter_of {f : FuncId} {fn : Func} {c : Code} (hf : Try.prog.funcs[f]? = some fn) (hname : (fn.name == "runtime.NumGoroutine") = false) (hb : fn.body = some c) : ∀ args w, (callFunc f args).run Try.prog w = .ok (.enter f args) w := by
  intro args w
  have h1 : fn.name ≠ "runtime.NumGoroutine" := by simpa using hname
  simp [callFunc, hf, h1, hb, mark]
theorem eg_take1 : ∀ args w, (callFunc 23 args).run Try.prog w = .ok (.enter 23 args) w   := enter_of Try.func23 (by kernel_rfl) rfl
theorem eg_give1 : ∀ args w, (callFunc 26 args).run Try.prog w = .ok (.enter 26 args) w   := enter_of Try.func26 (by kernel_rfl) rfl

/-! ### Take -/
/-- the node that Take takes -/
def PS.pick (s : PS) (t : Int) : Option Nat := if 0 ≤ t ∧ t < s.T then (s.row t.toNat).find? (fun id => !outI s (id : Int)) else none
theorem find_idx {is : Nat → Bool} {l : List Nat} {x : Nat} (h : l.find? is = some x) : ∃ k : Nat, l[k]? = some x ∧ idxI is l = (k : Int) := by
  rw [List.find?_eq_some_iff_append] at h
  obtain ⟨hx, l1, l2, rfl, ha⟩ := h
  have hk : (l1 ++ x :: l2)[l1.length]? = some x := by simp
  refine ⟨l1.length, hk, idx_hit hk hx fun j y hj hy => ?_⟩
  rw [List.getElem?_append_left hj] at hy
  have := ha y (List.mem_of_getElem? hy)
  simpa using this
theorem find_no {is : Nat → Bool} {l : List Nat} (h : l.find? is = none) : idxI is l = -1 := by
  rw [List.find?_eq_none] at h
  exact idx_miss fun j y _ hy => by have := h y (List.mem_of_getElem? hy); simpa using this

def TakeNo (w : World) (e : Ending) (w' : World) : Prop := e = .returned (.tuple #[.int .i64 0, .int .i64 6]) ∧ Wrote Nil w w'
def TakeYes (w : World) (q : Pp) (s : PS) (id : Nat) (e : Ending) (w' : World) : Prop := e = .returned (.tuple #[.int .i64 (id : Int), .int .i64 0]) ∧ PoolAt w' q (s.setOut id true) ∧ Wrote (q.F s.T) w w'

theorem po_take_no {w : World} {q : Pp} {s : PS} (h : PoolAt w q s) (hI : PInv s) (t : Int) (hp : s.pick t = none) :
    Calls Try.prog 10 #[.pointer (some ⟨q.p, 0, none⟩), .int .i64 t] w (TakeNo w) := by
  obtain ⟨X, hX⟩ : ∃ X, X = w.alloc (.cells #[.pointer (some ⟨q.p, 0, none⟩)] 24) := ⟨_, rfl⟩
  have hW : Wrote Nil w X := by rw [hX]; exact (Wrote.refl _ _).alloc _
  have hP := h.after hW
  have b0 : X.cell? ⟨w.heap.size, 0, none⟩ = some (.pointer (some ⟨q.p, 0, none⟩)) := by rw [hX]; simp
  have c : Calls Try.prog 22 #[.pointer (some ⟨q.p, 0, none⟩), .int .i64 t, .func (.func 23) #[] #[.pointer (some ⟨w.heap.size, 0, none⟩)]] X fun e w' => e = .returned (.int .i64 (-1)) ∧ X = w' := by
    by_cases ht : 0 ≤ t ∧ t < s.T
    · unfold PS.pick at hp
      rw [if_pos ht] at hp
      obtain ⟨t, rfl⟩ := Int.eq_ofNat_of_zero_le ht.1
      have htT : t < s.T := by omega
      have hl := hI.len htT
      have hn := hI.n2
      have c := po_place hP t htT (by omega) (fun id => !outI s (id : Int)) 23 #[.pointer (some ⟨w.heap.size, 0, none⟩)] eg_take1 fun x _ => po_take1 hP (by omega) b0 x
      rw [show idxI (fun id => !outI s (id : Int)) (s.row t) = -1 from find_no hp] at c
      exact c
    · exact po_place_no hP t ht _
  have HX := Lib.hid (And.intro hX hW)
  rw [hX] at b0 c
  clear h hW hP hX b0
  go_enter Try.func10, Try.ntmps10
  go_wp2_with (go_at_call 22; with_reducible refine c.mono ?_; rintro e w' ⟨rfl, rfl⟩)
  go_ret2
  exact ⟨rfl, by rw [← HX.out.1]; exact HX.out.2⟩

set_option maxHeartbeats 1000000 in
theorem po_take_yes {w : World} {q : Pp} {s : PS} (h : PoolAt w q s) (hI : PInv s) (t : Int) (id : Nat) (hp : s.pick t = some id) :
    Calls Try.prog 10 #[.pointer (some ⟨q.p, 0, none⟩), .int .i64 t] w (TakeYes w q s id) := by
  unfold PS.pick at hp
  by_cases ht : 0 ≤ t ∧ t < s.T
  · rw [if_pos ht] at hp
    obtain ⟨t, rfl⟩ := Int.eq_ofNat_of_zero_le ht.1
    have htT : t < s.T := by omega
    have hl := hI.len htT
    have hn := hI.n2
    obtain ⟨k, hk, hx⟩ := find_idx hp
    rw [Int.toNat_natCast] at hk hx
    have hid := hI.mem t id htT (List.mem_of_getElem? hk)
    obtain ⟨j, rfl⟩ : ∃ j, id = j + 1 := ⟨id - 1, by omega⟩
    have hj : j < s.n := by omega
    obtain ⟨X, hX⟩ : ∃ X, X = w.alloc (.cells #[.pointer (some ⟨q.p, 0, none⟩)] 24) := ⟨_, rfl⟩
    have hW : Wrote Nil w X := by rw [hX]; exact (Wrote.refl _ _).alloc _
    have hP := h.after hW
    have b0 : X.cell? ⟨w.heap.size, 0, none⟩ = some (.pointer (some ⟨q.p, 0, none⟩)) := by rw [hX]; simp
    have c := po_place hP t htT (by omega) (fun id => !outI s (id : Int)) 23 #[.pointer (some ⟨w.heap.size, 0, none⟩)] eg_take1 fun x _ => po_take1 hP (by omega) b0 x
    rw [hx] at c
    have cn := po_node hP (by omega) j hj
    have c1 := hP.cell1
    have c3 := hP.rowCell htT
    obtain ⟨so, cap, hv, _⟩ := hP.rowV htT
    have hrow := hP.row t htT
    rw [hv] at c3 hrow
    have hkl : k < (s.row t).length := (List.getElem?_eq_some_iff.1 hk).1
    rcases row_cell hrow with h0 | ⟨g, rfl, hc⟩
    · omega
    have c4 := hc k _ hk
    rw [Int.natCast_add, Int.natCast_one] at c4
    have n1 := hP.node1 hj
    have nf := hP.nodeF (by omega) (j * 2 + 1)
    obtain ⟨hP2, hW2⟩ := hP.setOut hj true
    have hE : TakeYes w q s (j + 1) (.returned (.tuple #[.int .i64 (((j + 1 : Nat)) : Int), .int .i64 0])) (X.setCell ⟨q.nb, j * 2 + 1, none⟩ (.bool true)) :=
      ⟨rfl, hP2, (hW.mono fun _ _ x => x.elim).trans hW2 fun _ _ x => x⟩
    rw [Int.natCast_add, Int.natCast_one] at hE
    have HE := Lib.hid hE
    have ht' : (t : Int) < (s.T : Int) := by omega
    have hkl' : (k : Int) < ((s.row t).length : Int) := by omega
    have HX := Lib.hid hX
    have HI := Lib.hid hI
    clear h hP hW hX hP2 hW2 hE hc hrow hv hp hx hk hid hI
    generalize q.nb = nb at *
    go_enter Try.func10, Try.ntmps10
    go_wp2_with fail
    rw [← HX.out]
    go_wp2_with (first
      | (go_at_call 22; with_reducible refine c.mono ?_; rintro e w' ⟨rfl, rfl⟩)
      | (go_at_call 24; with_reducible refine cn.mono ?_; rintro e w' ⟨rfl, rfl⟩))
    go_ret2
    exact HE.out
  · rw [if_neg ht] at hp
    cases hp

/-! ### Back -/
def backE (s : PS) (id : Int) : Int := if 1 ≤ id ∧ id ≤ s.n then (if outI s id = true then 0 else 6) else 1
def PS.back (s : PS) (id : Int) : PS := if 1 ≤ id ∧ id ≤ s.n ∧ outI s id = true then s.setOut id.toNat false else s
def BackPost (w : World) (q : Pp) (s : PS) (id : Int) (e : Ending) (w' : World) : Prop := e = .returned (.int .i64 (backE s id)) ∧ PoolAt w' q (s.back id) ∧ Wrote (q.F s.T) w w'
theorem po_back {w : World} {q : Pp} {s : PS} (h : PoolAt w q s) (hn : s.n ≤ 1000000) (id : Int) :
    Calls Try.prog 12 #[.pointer (some ⟨q.p, 0, none⟩), .int .i64 id] w (BackPost w q s id) := by
  by_cases hi : 1 ≤ id ∧ id ≤ s.n
  · obtain ⟨k, rfl⟩ : ∃ k : Nat, id = (k : Int) + 1 := ⟨(id - 1).toNat, by omega⟩
    have hk : k < s.n := by omega
    have c := po_node h hn k hk
    have n1 := h.node1 hk
    have nf := h.nodeF (by omega) (k * 2 + 1)
    have ho : outI s ((k : Int) + 1) = s.out (k + 1) := if_pos hi
    obtain ⟨h2, w2⟩ := h.setOut hk false
    have H := Lib.hid (And.intro h (And.intro h2 (And.intro w2 (And.intro ho hi))))
    clear h h2 w2 ho hi
    cases hb : s.out (k + 1)
    · rw [hb] at n1
      have HB := Lib.hid hb
      clear hb
      generalize q.nb = b at *
      go_enter Try.func12, Try.ntmps12
      go_wp2_with (go_at_call 24; with_reducible refine c.mono ?_; rintro e w' ⟨rfl, rfl⟩)
      go_ret
      obtain ⟨h, h2, w2, ho, hi⟩ := H.out
      unfold BackPost backE PS.back
      rw [if_pos hi, ho, HB.out, if_neg (by decide), if_neg (by simp)]
      exact ⟨rfl, h, Wrote.refl _ _⟩
    · rw [hb] at n1
      have HB := Lib.hid hb
      clear hb
      generalize q.nb = b at *
      go_enter Try.func12, Try.ntmps12
      go_wp2_with (go_at_call 24; with_reducible refine c.mono ?_; rintro e w' ⟨rfl, rfl⟩)
      go_ret
      obtain ⟨h, h2, w2, ho, hi⟩ := H.out
      unfold BackPost backE PS.back
      rw [if_pos hi, ho, HB.out, if_pos rfl, if_pos ⟨hi.1, hi.2, rfl⟩]
      exact ⟨rfl, by rw [show ((k : Int) + 1).toNat = k + 1 by omega]; exact h2, w2⟩
  · have c := po_node_no h hn id (by omega)
    have H := Lib.hid h
    clear h
    go_enter Try.func12, Try.ntmps12
    go_wp2_with (go_at_call 24; with_reducible refine c.mono ?_; rintro e w' ⟨rfl, rfl⟩)
    go_ret
    unfold BackPost backE PS.back
    rw [if_neg hi, if_neg (fun x => hi ⟨x.1, x.2.1⟩)]
    exact ⟨rfl, H.out, Wrote.refl _ _⟩

/-! ### Row -/
/-- a thread's row; of no thread: none -/
def PS.rowI (s : PS) (t : Int) : List Nat := if 0 ≤ t ∧ t < s.T then s.row t.toNat else []
def RowPost (w : World) (l : List Nat) (e : Ending) (w' : World) : Prop :=
  ∃ so cap, e = .returned (.slice so l.length cap) ∧ w'.ownsRow w.heap.size 3 1 (.slice so l.length cap) l.length (l.map idv) ∧ Wrote Nil w w'

set_option maxHeartbeats 1000000 in
theorem po_row {w : World} {q : Pp} {s : PS} (h : PoolAt w q s) (t : Int) (hL : (s.rowI t).length ≤ 1000000) :
    Calls Try.prog 16 #[.pointer (some ⟨q.p, 0, none⟩), .int .i64 t] w (RowPost w (s.rowI t)) := by
  have c := po_isThread h t
  unfold PS.rowI at hL ⊢
  by_cases ht : 0 ≤ t ∧ t < s.T
  · rw [decide_eq_true ht] at c
    rw [if_pos ht] at hL ⊢
    obtain ⟨t, rfl⟩ := Int.eq_ofNat_of_zero_le ht.1
    rw [Int.toNat_natCast] at hL ⊢
    have htT : t < s.T := by omega
    have c1 := h.cell1
    have c3 := h.rowCell htT
    obtain ⟨so, cap, hv, hso⟩ := h.rowV htT
    have hrow := h.row t htT
    rw [hv] at c3 hrow
    obtain ⟨l, hl⟩ : ∃ l, l = s.row t := ⟨_, rfl⟩
    rw [← hl] at hL c3 hrow ⊢
    obtain ⟨n, hn⟩ : ∃ n, n = l.length := ⟨_, rfl⟩
    have hmk := Go.run_make_row' (P := Try.prog) 44 3 (.int .i64 0) 8 Try.underlying44 pinfo_int rfl .i64 .i64 l.length (by omega) (by omega)
    have hcs := row_cell hrow
    obtain ⟨L, hLm⟩ : ∃ L, L = l.map idv := ⟨_, rfl⟩
    have hLl : L.length = l.length := by rw [hLm]; simp
    have hp : 0 < L.length → ∃ ad, so = some ad ∧ ∀ (j : Nat) (v : Value), L[j]? = some v → (w.alloc (.cells (madeCells #[.int .i64 0] l.length) 3)).cell? (ad.add j) = some v := fun h0 => by
      rcases hcs with e | ⟨g, rfl, hc⟩
      · omega
      · refine ⟨_, rfl, fun j v hv => ?_⟩
        rw [hLm, List.getElem?_map, Option.map_eq_some_iff] at hv
        obtain ⟨x, hx, rfl⟩ := hv
        rw [Go.Addr.add_lit, Nat.zero_add]
        exact ((Wrote.refl Nil w).alloc _).old (hc j x hx)
    have h1 : ∀ v ∈ L, v.oneCell' = true := by
      intro v hv
      rw [hLm] at hv
      obtain ⟨x, _, rfl⟩ := List.mem_map.1 hv
      rfl
    have ht' : (t : Int) < (s.T : Int) := by omega
    have hq1 : q.p < w.heap.size := blk_lt h.obj
    have hq2 : q.rb < w.heap.size := h.rows.lt
    have hM : (madeCells #[Value.int .i64 0] l.length).toList.length = l.length := by simp [madeCells]
    have hg : (w.alloc (.cells (madeCells #[.int .i64 0] l.length) 3)).heap[w.heap.size]? = some (.cells (madeCells #[.int .i64 0] l.length).toList.toArray 3 (0, 0)) := by rw [Array.toArray_toList]; exact Go.Deep.blk_alloc_new _ _
    have hsz1 : (Try.prog.info? 3).map (·.size) = some 1 := by obtain ⟨i0, hi0, _, hz1, _⟩ := info_parts pinfo_int; rw [hi0, ← hz1]; rfl
    have hB : Below w.heap.size w (w.alloc (.cells (madeCells #[.int .i64 0] l.length) 3)) := (Below.refl _ _).alloc (Nat.le_refl _) _
    have HP := Lib.hid (And.intro hp (And.intro h1 (And.intro hLl (And.intro hLm (And.intro hM (And.intro hg (And.intro hsz1 hB)))))))
    clear h hrow hcs hp h1 hLl hLm hv hl hn hM hg hsz1 hB
    go_enter Try.func16, Try.ntmps16
    go_wp2_with (first
      | (go_at_call 25; with_reducible refine c.mono ?_; rintro e w' ⟨rfl, rfl⟩)
      | (with_reducible refine wpList_copy_splice rfl (.tmp 19) (.tmp 26) 44 44 rfl 3 Try.underlying44 HP.out.2.2.2.2.2.2.1 (some ⟨w.heap.size, 0, none⟩) so l.length l.length l.length cap rfl rfl w.heap.size 0 (madeCells #[.int .i64 0] l.length).toList 3 HP.out.2.2.2.2.2.1 L (by rw [HP.out.2.2.1]; exact (Nat.min_self _).symm) (fun h0 => ⟨rfl, HP.out.1 h0⟩) (by rw [HP.out.2.2.1, HP.out.2.2.2.2.1]; omega) HP.out.2.1 w.heap.size w HP.out.2.2.2.2.2.2.2 (Nat.le_refl _) ?_; intro w2 hg2 hb2))
    go_ret
    obtain ⟨hp, h1, hLl, hLm, hM, _⟩ := HP.out
    refine ⟨_, _, rfl, ⟨by simp, .inr ⟨w.heap.size, l.length, _, rfl, Nat.le_refl _, hg2.out, Nat.le_refl _, by unfold maxLen; omega, ?_, ?_⟩⟩, Wrote.ofBelow hb2⟩
    · simp only [List.size_toArray]
      rw [length_splice _ _ _ (by rw [hLl, hM]; omega), hM, Nat.mul_one]
    · rw [Nat.mul_one, ← hLm]
      unfold splice
      rw [List.take_zero, List.nil_append, List.drop_of_length_le (by rw [hLl, hM]; omega), List.append_nil, ← hLl]
      exact List.take_length
  · rw [decide_eq_false ht] at c
    rw [if_neg ht] at hL ⊢
    clear h
    go_enter Try.func16, Try.ntmps16
    go_wp2_with (go_at_call 25; with_reducible refine c.mono ?_; rintro e w' ⟨rfl, rfl⟩)
    go_ret
    exact ⟨none, 0, rfl, World.ownsRow_nil _ _ _ _, Wrote.refl _ _⟩
end Go.Proofs.Ytjkheoiebabkhaa
