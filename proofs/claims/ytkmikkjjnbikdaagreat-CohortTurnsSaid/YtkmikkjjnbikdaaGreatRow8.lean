/- Rows of numbers that grow behind, and are cut in front; eight of them in an array. -/
import Derived.Test.YtkmikkjjnbikdaaGreatPlanPort
import Derived.Test.YtkmikkjjnbikdaaGreatGrow
import Derived.ArgAppend
import Derived.Deep.Cut
import Derived.Deep.CutBlock
import Derived.Deep.CutRange
import Derived.Deep.RegionHeld3
import Derived.BigQuiet
import Derived.BigFrame
namespace Go.Proofs.YtkmikkjjnbikdaaGreat
open Go.RowKit Go.BigFrame
set_option linter.unusedVariables false
set_option maxRecDepth 100000

/-- v is a slice of the cells xs, with spare cells up to its capacity, in memory that may be written -/
def RowQ (w : World) (v : Value) (xs : List Value) : Prop :=
  (v = .slice none 0 0 ∧ xs = []) ∨ ∃ g off cap cur, v = .slice (some ⟨g, off, none⟩) xs.length cap ∧ w.heap[g]? = some (.cells cur 3 (0, 0)) ∧ xs.length ≤ cap ∧ off + cap ≤ cur.size ∧ ∀ j u, xs[j]? = some u → cur[off + j]? = some u
namespace RowQ
variable {w w' : World} {v : Value} {xs : List Value}
theorem lt (h : RowQ w v xs) : ∀ k, v.ownBlock = some k → k < w.heap.size := by
  rcases h with ⟨rfl, _⟩ | ⟨g, off, cap, cur, rfl, hg, _⟩
  · intro k hk; cases hk
  · intro k hk
    have e : g = k := by simpa [Value.ownBlock] using hk
    subst e
    exact blk_lt hg
theorem keep (h : RowQ w v xs) (hk : ∀ k, v.ownBlock = some k → w'.heap[k]? = w.heap[k]?) : RowQ w' v xs := by
  rcases h with h | ⟨g, off, cap, cur, rfl, hg, h2, h3, h4⟩
  · exact .inl h
  · exact .inr ⟨g, off, cap, cur, rfl, (hk g rfl).trans hg, h2, h3, h4⟩
theorem wrote {S : Nat → Prop} (h : RowQ w v xs) (k : Wrote S w w') (hS : ∀ j, v.ownBlock = some j → ¬ S j) : RowQ w' v xs := h.keep fun j hj => k.block j (h.lt j hj) (hS j hj)
theorem nil (w : World) : RowQ w (.slice none 0 0) [] := .inl ⟨rfl, rfl⟩
theorem form (h : RowQ w v xs) : ∃ sa cap, v = .slice sa xs.length cap := by
  rcases h with ⟨rfl, rfl⟩ | ⟨g, off, cap, cur, rfl, _⟩
  · exact ⟨none, 0, rfl⟩
  · exact ⟨_, cap, rfl⟩
theorem head {x : Value} (h : RowQ w v (x :: xs)) : ∃ g off cap, v = .slice (some ⟨g, off, none⟩) (xs.length + 1) cap ∧ xs.length + 1 ≤ cap ∧ w.cell? ⟨g, off, none⟩ = some x := by
  rcases h with ⟨_, e⟩ | ⟨g, off, cap, cur, rfl, hg, h2, h3, h4⟩
  · cases e
  · exact ⟨g, off, cap, rfl, h2, (blk_cell hg off).trans (h4 0 x rfl)⟩
/-- without its first -/
theorem cut {x : Value} {g off n cap : Nat} {ao : Option Addr} (h : RowQ w (.slice (some ⟨g, off, none⟩) n cap) (x :: xs)) (ha : ao = some ⟨g, off, none⟩ ∧ cap = 1 ∨ ao = some ⟨g, off + 1, none⟩) : RowQ w (.slice ao (n - 1) (cap - 1)) xs := by
  rcases h with ⟨_, e⟩ | ⟨g', off', cap', cur, e, hg, h2, h3, h4⟩
  · cases e
  · simp only [Value.slice.injEq, Option.some.injEq, Addr.mk.injEq, and_true] at e
    obtain ⟨⟨rfl, rfl⟩, rfl, rfl⟩ := e
    rw [List.length_cons] at h2 ⊢
    rcases ha with ⟨rfl, rfl⟩ | rfl
    · have e0 : xs = [] := List.eq_nil_of_length_eq_zero (by omega)
      subst e0
      exact .inr ⟨g, off, 0, cur, rfl, hg, Nat.le_refl _, by omega, fun j u hj => by simp at hj⟩
    · refine .inr ⟨g, off + 1, cap - 1, cur, rfl, hg, by omega, by omega, fun j u hj => ?_⟩
      have := h4 (j + 1) u (by simpa using hj)
      rw [show off + 1 + j = off + (j + 1) by omega]
      exact this
theorem ofOwn {base n : Nat} (h : w.ownsRow base 3 1 v n xs) : RowQ w v xs := by
  obtain ⟨hl, h⟩ := h
  rw [Nat.mul_one] at hl
  subst hl
  rcases h with ⟨rfl, e⟩ | ⟨g, cap, cur, rfl, _, hg, h2, _, h3, h4⟩
  · exact .inl ⟨rfl, List.eq_nil_of_length_eq_zero e⟩
  · refine .inr ⟨g, 0, cap, cur, rfl, hg, h2, by omega, fun j u hj => ?_⟩
    rw [Nat.mul_one] at h4
    rw [← h4, List.getElem?_take] at hj
    split at hj
    · rw [Nat.zero_add]; simpa using hj
    · cases hj
end RowQ
/-- behind an append: x is the last one -/
def PushQ (w w' : World) (v v' : Value) (xs : List Value) (x : Value) : Prop := RowQ w' v' (xs ++ [x]) ∧ Wrote (fun j => v.ownBlock = some j) w w' ∧ (v'.ownBlock = v.ownBlock ∨ ∀ k, v'.ownBlock = some k → w.heap.size ≤ k)
theorem run_push {w : World} {v : Value} {xs : List Value} (h : RowQ w v xs) (ty : TypeId) (ad : Addr) (x : Value) (hx : w.cell? ad = some x) (h1 : x.oneCell' = true) (hl : xs.length ≤ 1000000) :
    ∃ v' w', (Builtin.append_ #[22, 22] ty #[v, .slice (some ad) 1 1]).run Tryz.prog w = .ok v' w' ∧ PushQ w w' v v' xs x := by
  obtain ⟨i0, hi, hz0, hz1, hz2⟩ := info_parts info_int
  have hnews : ∀ (j : Nat) (u : Value), [x][j]? = some u → w.cell? (ad.add j) = some u := fun j u hj => by
    match j, hj with
    | 0, hj =>
      have e : x = u := by simpa using hj
      rw [← e]
      simpa [Addr.add] using hx
  have hone : ∀ u ∈ [x], u.oneCell' = true := fun u hu => by rw [List.mem_singleton.1 hu]; exact h1
  rcases h with ⟨rfl, rfl⟩ | ⟨g, off, cap, cur, rfl, hg, h2, h3, h4⟩
  · obtain ⟨v', w', hr, ho, hgr, _⟩ := run_append_own (P := Tryz.prog) w w.heap.size 22 ty 3 i0 (.int .i64 0) 1 8 Tryz.underlying22 hi hz0 hz1 hz2 rfl (by decide) (.slice none 0 0) 0 [] (World.ownsRow_nil w _ _ _) ad 1 1 [x] rfl hnews hone (by unfold maxLen; omega) (by omega) (Nat.le_refl _)
    exact ⟨v', w', hr, RowQ.ofOwn ho, (Wrote.refl _ w).grown hgr fun k hk _ => hk, .inr fun k hk => (ho.lt k hk).1⟩
  · by_cases hroom : xs.length + 1 ≤ cap
    · have hb := blk_cell hg (off + xs.length)
      have hlt : off + xs.length < cur.size := by omega
      have hr := run_append_room_cells (P := Tryz.prog) w 22 ty 3 i0 Tryz.underlying22 hi g off xs.length cap ad 1 1 [x] (by rw [hz1]; rfl) hnews hone hroom
        (fun j hj => by
          have e : j = 0 := by simpa using hj
          subst e
          rw [hz1, Nat.mul_one, Nat.add_zero, hb, Array.getElem?_eq_getElem hlt]; rfl)
        (fun j hj => blk_frozen hg _)
      rw [hz1, Nat.mul_one] at hr
      have hW : Wrote (fun j => (Value.slice (some ⟨g, off, none⟩) xs.length cap).ownBlock = some j) w (w.setCells g (off + xs.length) [x]) := (Wrote.refl _ w).setCell ⟨g, off + xs.length, none⟩ x fun _ => rfl
      refine ⟨_, _, hr, .inr ⟨g, off, cap, cur.setIfInBounds (off + xs.length) x, by rw [List.length_append, List.length_singleton], blk_setCell hg _ _, by rw [List.length_append, List.length_singleton]; exact hroom, by rw [Array.size_setIfInBounds]; exact h3, fun j u hj => ?_⟩, hW, .inl rfl⟩
      by_cases hjn : j < xs.length
      · rw [List.getElem?_append_left hjn] at hj
        rw [Array.getElem?_setIfInBounds_ne (by omega)]
        exact h4 j u hj
      · have e : j = xs.length := by
          have := (List.getElem?_eq_some_iff.1 hj).1
          rw [List.length_append, List.length_singleton] at this
          omega
        subst e
        rw [List.getElem?_append_right (Nat.le_refl _), Nat.sub_self] at hj
        have e : x = u := by simpa using hj
        subst e
        rw [Array.getElem?_setIfInBounds_self_of_lt hlt]
    · obtain ⟨v', w', hr, ho, hgr⟩ := run_append_arg_grows (P := Tryz.prog) w 22 ty 3 i0 (.int .i64 0) 1 8 Tryz.underlying22 hi hz0 hz1 hz2 rfl (by decide) ⟨g, off, none⟩ xs.length cap xs (by rw [Nat.mul_one]) (fun j u hj => by rw [Addr.add_lit, blk_cell hg]; exact h4 j u hj) ad 1 1 [x] rfl hnews (by omega) (by unfold maxLen; omega) (by omega)
      exact ⟨v', w', hr, RowQ.ofOwn ho, (Wrote.refl _ w).grown hgr fun k hk _ => (by cases hk), .inr fun k hk => (ho.lt k hk).1⟩
/-- at the operation -/
theorem wp_push {w : World} {o : Oper} {a : Act} {K : Act → World → Prop} {Q : Exit → Act → World → Prop} (s y : Operand) (ho : o.op = .call { callee := .builtin .append, args := #[s, y], argTypes := #[22, 22] })
    {v : Value} {xs : List Value} (hs : a.eval s = v) (h : RowQ w v xs) (ad : Addr) (x : Value) (hy : a.eval y = .slice (some ad) 1 1) (hx : w.cell? ad = some x) (h1 : x.oneCell' = true) (hl : xs.length ≤ 1000000)
    (hK : ∀ v' w', PushQ w w' v v' xs x → K (a.put o.dst v') w') : o.wp Tryz.prog a w K Q := by
  obtain ⟨v', w', hr, hp⟩ := run_push h o.type ad x hx h1 hl
  unfold Oper.wp execOp
  simp only [ho, resolve, invoke, builtin, Sem.run_bind, Sem.run_pure, Result.andThen_ok, List.map_toArray, List.map_cons, List.map_nil, hs, hy, hr]
  exact hK v' w' hp
theorem wpList_push {w : World} {ops : Array Oper} {rest : List Oper} {o : Oper} {a : Act} {Q : Exit → Act → World → Prop} (hgd : o.guard = none) (s y : Operand) (ho : o.op = .call { callee := .builtin .append, args := #[s, y], argTypes := #[22, 22] })
    {v : Value} {xs : List Value} (hs : a.eval s = v) (h : RowQ w v xs) (ad : Addr) (x : Value) (hy : a.eval y = .slice (some ad) 1 1) (hx : w.cell? ad = some x) (h1 : x.oneCell' = true) (hl : xs.length ≤ 1000000)
    (hK : ∀ v' w', PushQ w w' v v' xs x → wpList Tryz.prog ops Q rest (a.put o.dst v') w') : wpList Tryz.prog ops Q (o :: rest) a w :=
  wpList_plain hgd fun _ hK' => wp_push s y ho hs h ad x hy hx h1 hl fun v' w' hp => hK' _ _ (hK v' w' hp)

theorem step_push {w : World} {ops : Array Oper} {o : Oper} {a : Act} {K : Act → World → Prop} {Q : Exit → Act → World → Prop} {E : Prop} (hgd : o.guard = none) (s y : Operand) (ho : o.op = .call { callee := .builtin .append, args := #[s, y], argTypes := #[22, 22] })
    {v : Value} {xs : List Value} (hs : a.eval s = v) (h : RowQ w v xs) (ad : Addr) (x : Value) (hy : a.eval y = .slice (some ad) 1 1) (hx : w.cell? ad = some x) (h1 : x.oneCell' = true) (hl : xs.length ≤ 1000000)
    (hK : ∀ v' w', PushQ w w' v v' xs x → K (a.put o.dst v') w') : if Region.wanted o (yielded ops a.tmps) = true then Oper.wp Tryz.prog o a w K Q else E := by
  have hw : Region.wanted o (yielded ops a.tmps) = true := by simp [Region.wanted, hgd]
  rw [if_pos hw]
  exact wp_push s y ho hs h ad x hy hx h1 hl hK

def natV (k : Nat) : Value := .int .i64 (k : Int)
def arr8 (vq : Nat → Value) : Array Value := ((List.range 8).map vq).toArray
theorem arr8_at (vq : Nat → Value) {c : Nat} (hc : c < 8) : (arr8 vq)[c]? = some (vq c) := by
  unfold arr8
  rw [List.getElem?_toArray, List.getElem?_map, List.getElem?_range hc]
  rfl
theorem arr8_set (vq : Nat → Value) (c : Nat) (v : Value) : (arr8 vq).setIfInBounds c v = arr8 (upd vq c v) := by
  unfold arr8
  rw [List.setIfInBounds_toArray]
  congr 1
  apply List.ext_getElem?
  intro j
  rw [List.getElem?_set, List.getElem?_map, List.getElem?_map, List.length_map, List.length_range]
  by_cases hj : j < 8
  · rw [List.getElem?_range hj]
    by_cases e : c = j
    · subst e; simp [upd_same, hj]
    · simp [e, upd_other _ _ (Ne.symm e)]
  · rw [List.getElem?_eq_none (by simp; omega)]
    simp
    omega
/-- eight rows in an array in the block Qb, all of them from the block `base` on, apart from each other -/
structure R8 (w : World) (base Qb : Nat) (vq : Nat → Value) (q : Nat → List Nat) : Prop where
  arr : w.heap[Qb]? = some (.cells (arr8 vq) 56 (0, 0))
  row : ∀ c, c < 8 → RowQ w (vq c) ((q c).map natV)
  lo : base ≤ Qb
  low : ∀ c, c < 8 → ∀ j, (vq c).ownBlock = some j → base ≤ j ∧ j ≠ Qb
  far : ∀ c d, c < 8 → d < 8 → c ≠ d → ∀ j, (vq c).ownBlock = some j → (vq d).ownBlock ≠ some j
namespace R8
variable {w w' : World} {base Qb : Nat} {vq : Nat → Value} {q : Nat → List Nat}
theorem wrote {S : Nat → Prop} (h : R8 w base Qb vq q) (k : Wrote S w w') (hS : ∀ b, base ≤ b → ¬ S b) : R8 w' base Qb vq q :=
  ⟨(k.block _ (blk_lt h.arr) (hS _ h.lo)).trans h.arr, fun c hc => (h.row c hc).wrote k fun j hj => hS j (h.low c hc j hj).1, h.lo, h.low, h.far⟩
theorem after (h : R8 w base Qb vq q) (k : Wrote Nil w w') : R8 w' base Qb vq q := h.wrote k fun _ _ => id
theorem beside (h : R8 w base Qb vq q) {H : Nat} (k : Wrote (One H) w w') (hQ : H ≠ Qb) (hr : ∀ c, c < 8 → (vq c).ownBlock ≠ some H) : R8 w' base Qb vq q :=
  ⟨(k.block _ (blk_lt h.arr) fun e => by unfold One at e; omega).trans h.arr, fun c hc => (h.row c hc).wrote k fun j hj e => by unfold One at e; subst e; exact hr c hc hj, h.lo, h.low, h.far⟩
theorem cell (h : R8 w base Qb vq q) {c : Nat} (hc : c < 8) : w.cell? ⟨Qb, c, none⟩ = some (vq c) := (blk_cell h.arr c).trans (arr8_at vq hc)
theorem frz (h : R8 w base Qb vq q) (c : Nat) : w.frozen? ⟨Qb, c, none⟩ = false := blk_frozen h.arr c
theorem put (h : R8 w base Qb vq q) {c : Nat} (hc : c < 8) {v' : Value} {q' : Nat → List Nat} (hr : RowQ w v' ((q' c).map natV)) (hq : ∀ d, d ≠ c → q' d = q d) (hl : ∀ j, v'.ownBlock = some j → base ≤ j ∧ j ≠ Qb)
    (hf : ∀ d, d < 8 → d ≠ c → ∀ j, v'.ownBlock = some j → (vq d).ownBlock ≠ some j) : R8 (w.setCell ⟨Qb, c, none⟩ v') base Qb (upd vq c v') q' ∧ Wrote (One Qb) w (w.setCell ⟨Qb, c, none⟩ v') := by
  have k : Wrote (One Qb) w (w.setCell ⟨Qb, c, none⟩ v') := (Wrote.refl _ _).setCell _ _ fun _ => rfl
  refine ⟨⟨?_, fun d hd => ?_, h.lo, fun d hd j hj => ?_, fun d e hd he hde j hj => ?_⟩, k⟩
  · rw [blk_setCell h.arr, arr8_set]
  · by_cases e : d = c
    · subst e
      rw [upd_same]
      exact hr.wrote k fun j hj e => by unfold One at e; exact (hl j hj).2 e
    · rw [upd_other _ _ e, hq d e]
      exact (h.row d hd).wrote k fun j hj e => by unfold One at e; exact (h.low d hd j hj).2 e
  · by_cases e : d = c
    · subst e; rw [upd_same] at hj; exact hl j hj
    · rw [upd_other _ _ e] at hj; exact h.low d hd j hj
  · by_cases e1 : d = c
    · subst e1
      rw [upd_same] at hj
      rw [upd_other _ _ (Ne.symm hde)]
      exact hf e he (Ne.symm hde) j hj
    · rw [upd_other _ _ e1] at hj
      by_cases e2 : e = c
      · subst e2
        rw [upd_same]
        intro q2
        exact hf d hd e1 j q2 hj
      · rw [upd_other _ _ e2]
        exact h.far d e hd he hde j hj
/-- a number more, behind -/
theorem push (h : R8 w base Qb vq q) (hb : base ≤ w.heap.size) {c : Nat} (hc : c < 8) {k : Nat} {v' : Value} (hp : PushQ w w' (vq c) v' ((q c).map natV) (natV k)) {q' : Nat → List Nat} (hq : q' c = q c ++ [k]) (hq2 : ∀ d, d ≠ c → q' d = q d) :
    R8 (w'.setCell ⟨Qb, c, none⟩ v') base Qb (upd vq c v') q' ∧ Wrote (fun j => base ≤ j) w (w'.setCell ⟨Qb, c, none⟩ v') := by
  obtain ⟨h1, h2, h3⟩ := hp
  have lsz := blk_lt h.arr
  have harr : w'.heap[Qb]? = some (.cells (arr8 vq) 56 (0, 0)) := (h2.block _ lsz fun e => (h.low c hc Qb e).2 rfl).trans h.arr
  have k2 : Wrote (One Qb) w' (w'.setCell ⟨Qb, c, none⟩ v') := (Wrote.refl _ _).setCell _ _ fun _ => rfl
  have hl : ∀ j, v'.ownBlock = some j → base ≤ j ∧ j ≠ Qb := fun j hj => by
    rcases h3 with e | e
    · exact h.low c hc j (e ▸ hj)
    · have := e j hj
      omega
  have hf : ∀ d, d < 8 → d ≠ c → ∀ j, v'.ownBlock = some j → (vq d).ownBlock ≠ some j := fun d hd hdc j hj => by
    rcases h3 with e | e
    · exact h.far c d hc hd (Ne.symm hdc) j (e ▸ hj)
    · intro q2
      have := (h.row d hd).lt j q2
      have := e j hj
      omega
  refine ⟨⟨?_, fun d hd => ?_, h.lo, fun d hd j hj => ?_, fun d e hd he hde j hj => ?_⟩, ?_⟩
  · rw [blk_setCell harr, arr8_set]
  · by_cases e : d = c
    · subst e
      rw [upd_same, hq, List.map_append]
      exact h1.wrote k2 fun j hj e => by unfold One at e; exact (hl j hj).2 e
    · rw [upd_other _ _ e, hq2 d e]
      exact ((h.row d hd).wrote h2 fun j hj e2 => h.far d c hd hc e j hj e2).wrote k2 fun j hj e => by unfold One at e; exact (h.low d hd j hj).2 e
  · by_cases e : d = c
    · subst e; rw [upd_same] at hj; exact hl j hj
    · rw [upd_other _ _ e] at hj; exact h.low d hd j hj
  · by_cases e1 : d = c
    · subst e1
      rw [upd_same] at hj
      rw [upd_other _ _ (Ne.symm hde)]
      exact hf e he (Ne.symm hde) j hj
    · rw [upd_other _ _ e1] at hj
      by_cases e2 : e = c
      · subst e2
        rw [upd_same]
        intro q2
        exact hf d hd e1 j q2 hj
      · rw [upd_other _ _ e2]
        exact h.far d e hd he hde j hj
  · exact (h2.mono fun j _ e => (h.low c hc j e).1).trans k2 fun j _ e => by unfold One at e; subst e; exact h.lo
/-- without its first -/
theorem cut (h : R8 w base Qb vq q) {c : Nat} (hc : c < 8) {k g off n cap : Nat} {ao : Option Addr} (hv : vq c = .slice (some ⟨g, off, none⟩) n cap) {q' : Nat → List Nat} (hq : q c = k :: q' c) (hq2 : ∀ d, d ≠ c → q' d = q d) (ha : ao = some ⟨g, off, none⟩ ∧ cap = 1 ∨ ao = some ⟨g, off + 1, none⟩) :
    R8 (w.setCell ⟨Qb, c, none⟩ (.slice ao (n - 1) (cap - 1))) base Qb (upd vq c (.slice ao (n - 1) (cap - 1))) q' ∧ Wrote (One Qb) w (w.setCell ⟨Qb, c, none⟩ (.slice ao (n - 1) (cap - 1))) := by
  have hr := h.row c hc
  rw [hv, hq] at hr
  have ho : ∀ j, (Value.slice ao (n - 1) (cap - 1)).ownBlock = some j → (vq c).ownBlock = some j := fun j hj => by
    rw [hv]
    rcases ha with ⟨rfl, _⟩ | rfl
    · exact hj
    · exact hj
  exact h.put hc (hr.cut ha) hq2 (fun j hj => h.low c hc j (ho j hj)) fun d hd hdc j hj => h.far c d hc hd (Ne.symm hdc) j (ho j hj)
theorem start {w X : World} {base Qb : Nat} (h : X.heap[Qb]? = some (.cells (arr8 fun _ => .slice none 0 0) 56 (0, 0))) (hb : base ≤ Qb) : R8 X base Qb (fun _ => .slice none 0 0) (fun _ => []) :=
  ⟨h, fun c hc => RowQ.nil _, hb, fun c hc j hj => (by cases hj), fun c d hc hd e j hj => (by cases hj)⟩
end R8
end Go.Proofs.YtkmikkjjnbikdaaGreat
