/- A row of numbers that a law keeps: it grows behind, and is cut in front; and a lock beside it. -/
import Derived.Test.YteacdcdjdbobnaaHierNode
import Derived.Test.YteacdcdjdbobnaaGrow
import Derived.ArgAppend
import Derived.Deep.Cut
import Derived.Deep.CutBlock
import Derived.Deep.CutRange
import Derived.Deep.RegionHeld3
import Derived.BigQuiet
import Derived.BigFrame
namespace Go.Proofs.Yteacdcdjdbobnaa
open Go.RowKit Go.BigFrame
set_option linter.unusedVariables false
set_option maxRecDepth 100000

/-- v is a slice of the cells xs, with spare cells up to its capacity, in memory that may be written -/
def RowQ (w : World) (v : Value) (xs : List Value) : Prop :=
  (v = .slice none 0 0 ∧ xs = []) ∨ ∃ g off cap cur, v = .slice (some ⟨g, off, none⟩) xs.length cap ∧ w.heap[g]? = some (.cells cur 3 (0, 0)) ∧ xs.length ≤ cap ∧ off + cap ≤ cur.size ∧ ∀ j u, xs[j]? = some u → cur[off + j]? = some u
namespace RowQ
variable {w w' : World} {v : Value} {xs : List Value}
theorem lt (h : RowQ w v xs) : ∀ k, v.ownBlock = some k → k < w.heap.size := by
  rcases h with ⟨rfl, _⟩ | ⟨g, off, cap, cur, rfl, hg, _⟩
  · intro k hk; cases hk
  · intro k hk
    have e : g = k := by simpa [Value.ownBlock] using hk
    subst e
    exact blk_lt hg
theorem keep (h : RowQ w v xs) (hk : ∀ k, v.ownBlock = some k → w'.heap[k]? = w.heap[k]?) : RowQ w' v xs := by
  rcases h with h | ⟨g, off, cap, cur, rfl, hg, h2, h3, h4⟩
  · exact .inl h
  · exact .inr ⟨g, off, cap, cur, rfl, (hk g rfl).trans hg, h2, h3, h4⟩
theorem wrote {S : Nat → Prop} (h : RowQ w v xs) (k : Wrote S w w') (hS : ∀ j, v.ownBlock = some j → ¬ S j) : RowQ w' v xs := h.keep fun j hj => k.block j (h.lt j hj) (hS j hj)
theorem nil (w : World) : RowQ w (.slice none 0 0) [] := .inl ⟨rfl, rfl⟩
theorem form (h : RowQ w v xs) : ∃ sa cap, v = .slice sa xs.length cap := by
  rcases h with ⟨rfl, rfl⟩ | ⟨g, off, cap, cur, rfl, _⟩
  · exact ⟨none, 0, rfl⟩
  · exact ⟨_, cap, rfl⟩
theorem head {x : Value} (h : RowQ w v (x :: xs)) : ∃ g off cap, v = .slice (some ⟨g, off, none⟩) (xs.length + 1) cap ∧ xs.length + 1 ≤ cap ∧ w.cell? ⟨g, off, none⟩ = some x := by
  rcases h with ⟨_, e⟩ | ⟨g, off, cap, cur, rfl, hg, h2, h3, h4⟩
  · cases e
  · exact ⟨g, off, cap, rfl, h2, (blk_cell hg off).trans (h4 0 x rfl)⟩
/-- without its first -/
theorem cut {x : Value} {g off n cap : Nat} {ao : Option Addr} (h : RowQ w (.slice (some ⟨g, off, none⟩) n cap) (x :: xs)) (ha : ao = some ⟨g, off, none⟩ ∧ cap = 1 ∨ ao = some ⟨g, off + 1, none⟩) : RowQ w (.slice ao (n - 1) (cap - 1)) xs := by
  rcases h with ⟨_, e⟩ | ⟨g', off', cap', cur, e, hg, h2, h3, h4⟩
  · cases e
  · simp only [Value.slice.injEq, Option.some.injEq, Addr.mk.injEq, and_true] at e
    obtain ⟨⟨rfl, rfl⟩, rfl, rfl⟩ := e
    rw [List.length_cons] at h2 ⊢
    rcases ha with ⟨rfl, rfl⟩ | rfl
    · have e0 : xs = [] := List.eq_nil_of_length_eq_zero (by omega)
      subst e0
      exact .inr ⟨g, off, 0, cur, rfl, hg, Nat.le_refl _, by omega, fun j u hj => by simp at hj⟩
    · refine .inr ⟨g, off + 1, cap - 1, cur, rfl, hg, by omega, by omega, fun j u hj => ?_⟩
      have := h4 (j + 1) u (by simpa using hj)
      rw [show off + 1 + j = off + (j + 1) by omega]
      exact this
theorem ofOwn {base n : Nat} (h : w.ownsRow base 3 1 v n xs) : RowQ w v xs := by
  obtain ⟨hl, h⟩ := h
  rw [Nat.mul_one] at hl
  subst hl
  rcases h with ⟨rfl, e⟩ | ⟨g, cap, cur, rfl, _, hg, h2, _, h3, h4⟩
  · exact .inl ⟨rfl, List.eq_nil_of_length_eq_zero e⟩
  · refine .inr ⟨g, 0, cap, cur, rfl, hg, h2, by omega, fun j u hj => ?_⟩
    rw [Nat.mul_one] at h4
    rw [← h4, List.getElem?_take] at hj
    split at hj
    · rw [Nat.zero_add]; simpa using hj
    · cases hj
end RowQ
/-- behind an append: x is the last one -/
def PushQ (w w' : World) (v v' : Value) (xs : List Value) (x : Value) : Prop := RowQ w' v' (xs ++ [x]) ∧ Wrote (fun j => v.ownBlock = some j) w w' ∧ (v'.ownBlock = v.ownBlock ∨ ∀ k, v'.ownBlock = some k → w.heap.size ≤ k)
theorem run_push {w : World} {v : Value} {xs : List Value} (h : RowQ w v xs) (ty : TypeId) (ad : Addr) (x : Value) (hx : w.cell? ad = some x) (h1 : x.oneCell' = true) (hl : xs.length ≤ 1000000) :
    ∃ v' w', (Builtin.append_ #[22, 22] ty #[v, .slice (some ad) 1 1]).run Try.prog w = .ok v' w' ∧ PushQ w w' v v' xs x := by
  obtain ⟨i0, hi, hz0, hz1, hz2⟩ := info_parts info_int
  have hnews : ∀ (j : Nat) (u : Value), [x][j]? = some u → w.cell? (ad.add j) = some u := fun j u hj => by
    match j, hj with
    | 0, hj =>
      have e : x = u := by simpa using hj
      rw [← e]
      simpa [Addr.add] using hx
  have hone : ∀ u ∈ [x], u.oneCell' = true := fun u hu => by rw [List.mem_singleton.1 hu]; exact h1
  rcases h with ⟨rfl, rfl⟩ | ⟨g, off, cap, cur, rfl, hg, h2, h3, h4⟩
  · obtain ⟨v', w', hr, ho, hgr, _⟩ := run_append_own (P := Try.prog) w w.heap.size 22 ty 3 i0 (.int .i64 0) 1 8 Try.underlying22 hi hz0 hz1 hz2 rfl (by decide) (.slice none 0 0) 0 [] (World.ownsRow_nil w _ _ _) ad 1 1 [x] rfl hnews hone (by unfold maxLen; omega) (by omega) (Nat.le_refl _)
    exact ⟨v', w', hr, RowQ.ofOwn ho, (Wrote.refl _ w).grown hgr fun k hk _ => hk, .inr fun k hk => (ho.lt k hk).1⟩
  · by_cases hroom : xs.length + 1 ≤ cap
    · have hb := blk_cell hg (off + xs.length)
      have hlt : off + xs.length < cur.size := by omega
      have hr := run_append_room_cells (P := Try.prog) w 22 ty 3 i0 Try.underlying22 hi g off xs.length cap ad 1 1 [x] (by rw [hz1]; rfl) hnews hone hroom
        (fun j hj => by
          have e : j = 0 := by simpa using hj
          subst e
          rw [hz1, Nat.mul_one, Nat.add_zero, hb, Array.getElem?_eq_getElem hlt]; rfl)
        (fun j hj => blk_frozen hg _)
      rw [hz1, Nat.mul_one] at hr
      have hW : Wrote (fun j => (Value.slice (some ⟨g, off, none⟩) xs.length cap).ownBlock = some j) w (w.setCells g (off + xs.length) [x]) := (Wrote.refl _ w).setCell ⟨g, off + xs.length, none⟩ x fun _ => rfl
      refine ⟨_, _, hr, .inr ⟨g, off, cap, cur.setIfInBounds (off + xs.length) x, by rw [List.length_append, List.length_singleton], blk_setCell hg _ _, by rw [List.length_append, List.length_singleton]; exact hroom, by rw [Array.size_setIfInBounds]; exact h3, fun j u hj => ?_⟩, hW, .inl rfl⟩
      by_cases hjn : j < xs.length
      · rw [List.getElem?_append_left hjn] at hj
        rw [Array.getElem?_setIfInBounds_ne (by omega)]
        exact h4 j u hj
      · have e : j = xs.length := by
          have := (List.getElem?_eq_some_iff.1 hj).1
          rw [List.length_append, List.length_singleton] at this
          omega
        subst e
        rw [List.getElem?_append_right (Nat.le_refl _), Nat.sub_self] at hj
        have e : x = u := by simpa using hj
        subst e
        rw [Array.getElem?_setIfInBounds_self_of_lt hlt]
    · obtain ⟨v', w', hr, ho, hgr⟩ := run_append_arg_grows (P := Try.prog) w 22 ty 3 i0 (.int .i64 0) 1 8 Try.underlying22 hi hz0 hz1 hz2 rfl (by decide) ⟨g, off, none⟩ xs.length cap xs (by rw [Nat.mul_one]) (fun j u hj => by rw [Addr.add_lit, blk_cell hg]; exact h4 j u hj) ad 1 1 [x] rfl hnews (by omega) (by unfold maxLen; omega) (by omega)
      exact ⟨v', w', hr, RowQ.ofOwn ho, (Wrote.refl _ w).grown hgr fun k hk _ => (by cases hk), .inr fun k hk => (ho.lt k hk).1⟩
/-- at the operation -/
theorem wp_push {w : World} {o : Oper} {a : Act} {K : Act → World → Prop} {Q : Exit → Act → World → Prop} (s y : Operand) (ho : o.op = .call { callee := .builtin .append, args := #[s, y], argTypes := #[22, 22] })
    {v : Value} {xs : List Value} (hs : a.eval s = v) (h : RowQ w v xs) (ad : Addr) (x : Value) (hy : a.eval y = .slice (some ad) 1 1) (hx : w.cell? ad = some x) (h1 : x.oneCell' = true) (hl : xs.length ≤ 1000000)
    (hK : ∀ v' w', PushQ w w' v v' xs x → K (a.put o.dst v') w') : o.wp Try.prog a w K Q := by
  obtain ⟨v', w', hr, hp⟩ := run_push h o.type ad x hx h1 hl
  unfold Oper.wp execOp
  simp only [ho, resolve, invoke, builtin, Sem.run_bind, Sem.run_pure, Result.andThen_ok, List.map_toArray, List.map_cons, List.map_nil, hs, hy, hr]
  exact hK v' w' hp
theorem wpList_push {w : World} {ops : Array Oper} {rest : List Oper} {o : Oper} {a : Act} {Q : Exit → Act → World → Prop} (hgd : o.guard = none) (s y : Operand) (ho : o.op = .call { callee := .builtin .append, args := #[s, y], argTypes := #[22, 22] })
    {v : Value} {xs : List Value} (hs : a.eval s = v) (h : RowQ w v xs) (ad : Addr) (x : Value) (hy : a.eval y = .slice (some ad) 1 1) (hx : w.cell? ad = some x) (h1 : x.oneCell' = true) (hl : xs.length ≤ 1000000)
    (hK : ∀ v' w', PushQ w w' v v' xs x → wpList Try.prog ops Q rest (a.put o.dst v') w') : wpList Try.prog ops Q (o :: rest) a w :=
  wpList_plain hgd fun _ hK' => wp_push s y ho hs h ad x hy hx h1 hl fun v' w' hp => hK' _ _ (hK v' w' hp)

theorem step_push {w : World} {ops : Array Oper} {o : Oper} {a : Act} {K : Act → World → Prop} {Q : Exit → Act → World → Prop} {E : Prop} (hgd : o.guard = none) (s y : Operand) (ho : o.op = .call { callee := .builtin .append, args := #[s, y], argTypes := #[22, 22] })
    {v : Value} {xs : List Value} (hs : a.eval s = v) (h : RowQ w v xs) (ad : Addr) (x : Value) (hy : a.eval y = .slice (some ad) 1 1) (hx : w.cell? ad = some x) (h1 : x.oneCell' = true) (hl : xs.length ≤ 1000000)
    (hK : ∀ v' w', PushQ w w' v v' xs x → K (a.put o.dst v') w') : if Region.wanted o (yielded ops a.tmps) = true then Oper.wp Try.prog o a w K Q else E := by
  have hw : Region.wanted o (yielded ops a.tmps) = true := by simp [Region.wanted, hgd]
  rw [if_pos hw]
  exact wp_push s y ho hs h ad x hy hx h1 hl hK

/-! ### a lock beside it -/
def natV (k : Nat) : Value := .int .i64 (k : Int)
structure RdC (w0 w : World) (L : Lp) (f : FL) (R : List Nat) (qv : Value) : Prop where
  ls : LkS w0 w L f
  q : RowQ w qv (R.map natV)
  low : ∀ k, qv.ownBlock = some k → L.q.k3 ≤ k
namespace RdC
variable {w0 w w' : World} {L : Lp} {f f' : FL} {R : List Nat} {qv : Value}
theorem after (h : RdC w0 w L f R qv) (k : Wrote Nil w w') : RdC w0 w' L f R qv := ⟨h.ls.after k, h.q.wrote k fun _ _ => id, h.low⟩
theorem call (h : RdC w0 w L f R qv) (hl : LkS w0 w' L f') (k : Wrote (Low L) w w') : RdC w0 w' L f' R qv := ⟨hl, h.q.wrote k fun j hj e => by have := h.low j hj; unfold Low at e; omega, h.low⟩
theorem empty (h : LkS w0 w L f) : RdC w0 w L f [] (.slice none 0 0) := ⟨h, RowQ.nil w, fun k hk => by cases hk⟩
theorem push (h : RdC w0 w L f R qv) {k : Nat} {v' : Value} (hp : PushQ w w' qv v' (R.map natV) (natV k)) : RdC w0 w' L f (R ++ [k]) v' := by
  obtain ⟨h1, h2, h3⟩ := hp
  refine ⟨h.ls.apart h2 fun b hb => h.low b hb, by rw [List.map_append]; exact h1, fun j hj => ?_⟩
  rcases h3 with e | e
  · exact h.low j (e ▸ hj)
  · exact Nat.le_trans h.ls.lk.top (e j hj)
theorem cut {k g off n cap : Nat} {ao : Option Addr} (h : RdC w0 w L f (k :: R) (.slice (some ⟨g, off, none⟩) n cap)) (ha : ao = some ⟨g, off, none⟩ ∧ cap = 1 ∨ ao = some ⟨g, off + 1, none⟩) : RdC w0 w L f R (.slice ao (n - 1) (cap - 1)) := by
  refine ⟨h.ls, h.q.cut ha, fun j hj => ?_⟩
  have hg := h.low g rfl
  rcases ha with ⟨rfl, _⟩ | rfl
  · have e : g = j := by simpa [Value.ownBlock] using hj
    omega
  · have e : g = j := by simpa [Value.ownBlock] using hj
    omega
end RdC
/-- the calls that came, as they lie in the memory that was there -/
def OpsAt (w0 : World) (so : Option Addr) (n : Nat) (z : Nat → Nat → Int) : Prop := n = 0 ∨ ∃ b o, so = some ⟨b, o, none⟩ ∧ ∀ i, i < n → ∀ j, j < 4 → w0.cell? ⟨b, o + (i * 4 + j), none⟩ = some (.int .i64 (z i j))
end Go.Proofs.Yteacdcdjdbobnaa
