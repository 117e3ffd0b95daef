/- The contracts of what package pool's functions ask of a pool: a node's place, its owner, whether it is out, whether there is a thread; the library's search and cut of a row; the two tests by which a row is searched. -/
import Derived.Test.YtdhpmcafekpfhaaGreatPool
import Derived.Test.YtdhpmcafekpfhaaGreatRows
import Derived.WalkLawsBesides
import Derived.Outline
import Derived.Deep.QuietTactic
import Derived.Handy
import Derived.OpenShut
import Derived.Lib.Walk
import Derived.WalkKit
import Derived.Laws.ResultCell
import Derived.Lib.Hide
import Derived.Lib.SliceRun
import Derived.Deep.RegionLaw
import Derived.Deep.LoopGhost
import Derived.BigQuiet
import Derived.BigFrame
namespace Go.Proofs.YtdhpmcafekpfhaaGreat
open Go.RowKit
set_option linter.unusedVariables false

theorem pinfo_int : (Tryz.prog.info? 3).map (fun i => (i.zero, i.size, i.bytes)) = some (some (.int .i64 0), 1, 8) := by kernel_rfl
theorem pinfo_node : (Tryz.prog.info? 139).map (fun i => (i.zero, i.size, i.bytes)) = some (some (.agg #[.int .i64 0, .bool false]), 2, 16) := by kernel_rfl

/-! ### asking -/
theorem po_node_no {w : World} {q : Pp} {s : PS} (h : PoolAt w q s) (hn : s.n ≤ 1000000) (id : Int) (hi : id < 1 ∨ (s.n : Int) < id) :
    Calls Tryz.prog 68 #[.pointer (some ⟨q.p, 0, none⟩), .int .i64 id] w fun e w' => e = .returned (.pointer none) ∧ w = w' := by
  have c0 := h.cell0
  obtain ⟨so, cap, hv, _⟩ := own_slice h.nodes
  rw [hv] at c0
  clear h hv
  rcases hi with hi | hi
  · go_enter Tryz.func68, Tryz.ntmps68
    go_wp2
    go_ret
    exact ⟨rfl, rfl⟩
  · by_cases h1 : id < 1
    · go_enter Tryz.func68, Tryz.ntmps68
      go_wp2
      go_ret
      exact ⟨rfl, rfl⟩
    · go_enter Tryz.func68, Tryz.ntmps68
      go_wp2
      go_ret
      exact ⟨rfl, rfl⟩

theorem po_node {w : World} {q : Pp} {s : PS} (h : PoolAt w q s) (hn : s.n ≤ 1000000) (k : Nat) (hk : k < s.n) :
    Calls Tryz.prog 68 #[.pointer (some ⟨q.p, 0, none⟩), .int .i64 ((k : Int) + 1)] w fun e w' => e = .returned (.pointer (some ⟨q.nb, k * 2, none⟩)) ∧ w = w' := by
  have c0 := h.cell0
  obtain ⟨cap, hv, _⟩ := h.nodeV (by omega)
  rw [hv] at c0
  generalize q.nb = b at c0 ⊢
  clear h hv
  have h1 : ¬ ((k : Int) + 1 < 1) := by omega
  have h2 : ¬ ((s.n : Int) < (k : Int) + 1) := by omega
  go_enter Tryz.func68, Tryz.ntmps68
  go_wp2
  go_ret
  exact ⟨rfl, rfl⟩

theorem po_isThread {w : World} {q : Pp} {s : PS} (h : PoolAt w q s) (t : Int) :
    Calls Tryz.prog 64 #[.pointer (some ⟨q.p, 0, none⟩), .int .i64 t] w fun e w' => e = .returned (.bool (decide (0 ≤ t ∧ t < s.T))) ∧ w = w' := by
  have c1 := h.cell1
  clear h
  by_cases h0 : 0 ≤ t
  · by_cases h1 : t < s.T
    · rw [decide_eq_true (show 0 ≤ t ∧ t < s.T from ⟨h0, h1⟩)]
      go_enter Tryz.func64, Tryz.ntmps64
      go_wp2
      go_ret
      exact ⟨rfl, rfl⟩
    · rw [decide_eq_false (show ¬ (0 ≤ t ∧ t < s.T) from fun x => h1 x.2)]
      go_enter Tryz.func64, Tryz.ntmps64
      go_wp2
      go_ret
      exact ⟨rfl, rfl⟩
  · rw [decide_eq_false (show ¬ (0 ≤ t ∧ t < s.T) from fun x => h0 x.1)]
    go_enter Tryz.func64, Tryz.ntmps64
    go_wp2
    go_ret
    exact ⟨rfl, rfl⟩

theorem po_len {w : World} {q : Pp} {s : PS} (h : PoolAt w q s) :
    Calls Tryz.prog 38 #[.pointer (some ⟨q.p, 0, none⟩)] w fun e w' => e = .returned (.int .i64 (s.n : Nat)) ∧ w = w' := by
  have c0 := h.cell0
  obtain ⟨so, cap, hv, _⟩ := own_slice h.nodes
  rw [hv] at c0
  clear h hv
  go_enter Tryz.func38, Tryz.ntmps38
  go_wp2
  go_ret
  exact ⟨rfl, rfl⟩

/-- whose a node is; -1: nobody's, or there is none -/
def ofI (s : PS) (id : Int) : Int := if 1 ≤ id ∧ id ≤ s.n then s.own id.toNat else -1
/-- is a node out? -/
def outI (s : PS) (id : Int) : Bool := if 1 ≤ id ∧ id ≤ s.n then s.out id.toNat else false

theorem po_of {w : World} {q : Pp} {s : PS} (h : PoolAt w q s) (hn : s.n ≤ 1000000) (id : Int) :
    Calls Tryz.prog 40 #[.pointer (some ⟨q.p, 0, none⟩), .int .i64 id] w fun e w' => e = .returned (.int .i64 (ofI s id)) ∧ w = w' := by
  by_cases hi : 1 ≤ id ∧ id ≤ s.n
  · obtain ⟨k, rfl⟩ : ∃ k : Nat, id = (k : Int) + 1 := ⟨(id - 1).toNat, by omega⟩
    have hk : k < s.n := by omega
    have c := po_node h hn k hk
    have n0 := h.node0 hk
    rw [show ofI s ((k : Int) + 1) = s.own (k + 1) from if_pos hi]
    generalize s.own (k + 1) = x at n0 ⊢
    generalize q.nb = b at c n0
    clear h
    go_enter Tryz.func40, Tryz.ntmps40
    go_wp2_with (go_at_call 68; with_reducible refine c.mono ?_; rintro e w' ⟨rfl, rfl⟩)
    go_ret
    exact ⟨rfl, rfl⟩
  · have c := po_node_no h hn id (by omega)
    rw [show ofI s id = -1 from if_neg hi]
    clear h
    go_enter Tryz.func40, Tryz.ntmps40
    go_wp2_with (go_at_call 68; with_reducible refine c.mono ?_; rintro e w' ⟨rfl, rfl⟩)
    go_ret
    exact ⟨rfl, rfl⟩

/-! ### a row is searched -/
/-- where in a list the first number is of which is tells true; -1: nowhere -/
def idxI (is : Nat → Bool) (l : List Nat) : Int := match l.findIdx? is with
  | some i => i
  | none => -1
/-- none of the first k is -/
def NoneIs (is : Nat → Bool) (l : List Nat) (k : Nat) : Prop := ∀ (j y : Nat), j < k → l[j]? = some y → is y = false
theorem idx_hit {is : Nat → Bool} {l : List Nat} {k x : Nat} (hx : l[k]? = some x) (hp : is x = true) (h : NoneIs is l k) : idxI is l = k := by
  have hk := (List.getElem?_eq_some_iff.1 hx).1
  have e : l.findIdx? is = some k := by
    rw [List.findIdx?_eq_some_iff_getElem]
    refine ⟨hk, ?_, fun j hj => ?_⟩
    · have := (List.getElem?_eq_some_iff.1 hx).2
      rw [this]; exact hp
    · rw [h j _ hj (List.getElem?_eq_getElem (by omega))]; decide
  unfold idxI
  rw [e]
theorem idx_miss {is : Nat → Bool} {l : List Nat} (h : NoneIs is l l.length) : idxI is l = -1 := by
  have e : l.findIdx? is = none := by
    rw [List.findIdx?_eq_none_iff]
    intro x hx
    obtain ⟨j, hj⟩ := List.getElem?_of_mem hx
    exact h j x (List.getElem?_eq_some_iff.1 hj).1 hj
  unfold idxI
  rw [e]

/-- an owned row of numbers, its cells -/
theorem row_cell {w : World} {base : Nat} {e : TypeId} {so : Option Addr} {n cap : Nat} {l : List Nat} (h : w.ownsRow base e 1 (.slice so n cap) n (l.map idv)) : n = 0 ∨ ∃ g, so = some ⟨g, 0, none⟩ ∧ ∀ (k x : Nat), l[k]? = some x → w.cell? ⟨g, k, none⟩ = some (.int .i64 (x : Int)) := by
  rcases Nat.eq_zero_or_pos n with h0 | h0
  · exact .inl h0
  · obtain ⟨g, hg, _, _⟩ := ownsRow_cell h h0
    refine .inr ⟨g, hg, fun k x hx => ?_⟩
    have hl : l.length = n := by have := h.1; simpa using this
    have hk : k < n := by rw [← hl]; exact (List.getElem?_eq_some_iff.1 hx).1
    obtain ⟨g', hg', hc, _⟩ := ownsRow_cell h hk
    rw [hg] at hg'
    obtain rfl : g = g' := by simpa using hg'
    rw [hc, List.getElem?_map, hx]
    rfl

set_option maxHeartbeats 1000000 in
theorem po_index {w : World} {base : Nat} {v : Value} {l : List Nat} (h : w.ownsRow base 3 1 v l.length (l.map idv)) (hL : l.length ≤ 1000000) (is : Nat → Bool) (g : Nat) (lb : Array Value) (eg : ∀ args w, (callFunc g args).run Tryz.prog w = .ok (.enter g args) w)
    (hp : ∀ x : Nat, x ∈ l → Calls Tryz.prog g (#[.int .i64 (x : Int)] ++ lb) w fun e w' => e = .returned (.bool (is x)) ∧ w = w') :
    Calls Tryz.prog 81 #[v, .func (.func g) #[] lb] w fun e w' => e = .returned (.int .i64 (idxI is l)) ∧ w = w' := by
  obtain ⟨so, cap, rfl, _⟩ := own_slice h
  have hcell := row_cell h
  have hp' := Lib.hid hp
  obtain ⟨n, hn⟩ : ∃ n, n = l.length := ⟨_, rfl⟩
  have HN := Lib.hid hn
  rw [← hn] at hcell hL ⊢
  clear h hp hn
  go_enter Tryz.func81, Tryz.ntmps81
  go_wp2
  go_loop [5, 8] (fun _ i => ∃ k : Nat, k ≤ n ∧ i = .int .i64 k ∧ NoneIs is l k) (fun _ i => n - (intOf i).toNat)
  case atStart => exact ⟨0, Nat.zero_le _, rfl, fun j y hj => by omega⟩
  case round =>
    obtain ⟨k, hk, rfl, hf⟩ := hrel
    by_cases hlt : k < n
    · rcases hcell with h0 | ⟨gb, rfl, hcell⟩
      · omega
      have hkl : k < l.length := by rw [← HN.out]; exact hlt
      obtain ⟨x, hx⟩ : ∃ x, l[k]? = some x := ⟨_, List.getElem?_eq_getElem hkl⟩
      have c0 := hcell k x hx
      have cx := hp'.out x (List.mem_of_getElem? hx)
      have HX := Lib.hid hx
      clear hcell hx hkl
      cases hb : is x
      · rw [hb] at cx
        have HB := Lib.hid hb
        clear hb
        go_wp2_with fail
        refine cx.mono ?_
        rintro e w' ⟨rfl, rfl⟩
        clear cx
        go_wp2
        go_round
        case rel =>
          refine ⟨k + 1, by omega, by go_num, fun j y hj hy => ?_⟩
          by_cases e : j = k
          · subst e
            rw [HX.out] at hy
            obtain rfl : x = y := by simpa using hy
            exact HB.out
          · exact hf j y (by omega) hy
        case measure => simp [intOf]; omega
      · rw [hb] at cx
        have HB := Lib.hid hb
        clear hb
        go_wp2_with fail
        refine cx.mono ?_
        rintro e w' ⟨rfl, rfl⟩
        clear cx
        go_wp2
        go_ret
        rw [idx_hit HX.out HB.out hf]
        exact ⟨rfl, rfl⟩
    · obtain rfl : k = n := by omega
      clear hcell
      go_wp2
      go_ret
      rw [idx_miss (by rw [← HN.out]; exact hf)]
      exact ⟨rfl, rfl⟩
end Go.Proofs.YtdhpmcafekpfhaaGreat
