/- The contract of a lock of locks' lay: the passes, the lock of all, each node's lock. -/
import Derived.Test.YtkmikkjjnbikdaaGreatCohInner
namespace Go.Proofs.YtkmikkjjnbikdaaGreat
open Go.RowKit Go.BigFrame
set_option linter.unusedVariables false
set_option maxRecDepth 100000
set_option maxHeartbeats 8000000

/-! ### the struct in the making -/
def objC (p : Nat) (bud a1 : Int) (g : Value) (lv : Nat → Value) (tb n : Nat) : Array Value :=
  #[.pointer (some ⟨p, 0, none⟩), .pointer none, .int .u32 bud, .int .i64 a1, g, lv 0, lv 1, lv 2, lv 3, lv 4, lv 5, lv 6, lv 7, .slice (some ⟨tb, 0, none⟩) n n]
theorem objC_setA (p : Nat) (bud a1 x : Int) (g : Value) (lv : Nat → Value) (tb n : Nat) : (objC p bud a1 g lv tb n).setIfInBounds 3 (.int .i64 x) = objC p bud x g lv tb n := rfl
theorem objC_setG (p : Nat) (bud a1 : Int) (g v : Value) (lv : Nat → Value) (tb n : Nat) : (objC p bud a1 g lv tb n).setIfInBounds 4 v = objC p bud a1 v lv tb n := rfl
theorem objC_setL (p : Nat) (bud a1 : Int) (g v : Value) (lv : Nat → Value) (tb n : Nat) {c : Nat} (hc : c < 8) : (objC p bud a1 g lv tb n).setIfInBounds (5 + c) v = objC p bud a1 g (upd lv c v) tb n := by
  have : c = 0 ∨ c = 1 ∨ c = 2 ∨ c = 3 ∨ c = 4 ∨ c = 5 ∨ c = 6 ∨ c = 7 := by omega
  rcases this with rfl | rfl | rfl | rfl | rfl | rfl | rfl | rfl <;> rfl
theorem objC_at (p : Nat) (bud a1 : Int) (g : Value) (lv : Nat → Value) (tb n : Nat) {c : Nat} (hc : c < 8) : (objC p bud a1 g lv tb n)[5 + c]? = some (lv c) := by
  have : c = 0 ∨ c = 1 ∨ c = 2 ∨ c = 3 ∨ c = 4 ∨ c = 5 ∨ c = 6 ∨ c = 7 := by omega
  rcases this with rfl | rfl | rfl | rfl | rfl | rfl | rfl | rfl <;> rfl
/-- where a lock in the making lies -/
structure Mk where
  lb : Nat
  p : Nat
  b : Nat
  tb : Nat
  n : Nat
  bud : Int
def LyF (q : Pl) (M : Mk) (j : Nat) : Prop := q.F j ∨ j = M.lb ∨ j = M.tb
structure LaySt (w : World) (q : Pl) (M : Mk) (W : World) (q' : Pl) (t : Int) (hs vs : List Int) (a1 : Int) (g : Value) (lv : Nat → Value) (cx : List Value) : Prop where
  plan : PlanAt W q' t hs vs
  pq : q'.p = q.p
  came : Came w q.F q'.F
  wr : Wrote (LyF q M) w W
  obj : W.heap[M.lb]? = some (.cells (objC M.p M.bud a1 g lv M.tb M.n) 68 (0, 0))
  seat : SeatAt W M.p M.b (newSeat M.n false false)
  ctx : W.heap[M.tb]? = some (.cells cx.toArray 144 (0, 0))
  lt : M.lb < w.heap.size ∧ M.p < w.heap.size ∧ M.b < w.heap.size ∧ M.tb < w.heap.size
  ne : M.lb ≠ M.b ∧ M.lb ≠ M.tb ∧ M.p ≠ M.tb ∧ M.b ≠ M.tb ∧ M.lb ≠ M.p
namespace LaySt
variable {w W W2 : World} {q q' q2 : Pl} {M : Mk} {t : Int} {hs vs hs2 vs2 : List Int} {a1 : Int} {g : Value} {lv : Nat → Value} {cx : List Value}
theorem off (h : LaySt w q M W q' t hs vs a1 g lv cx) : ¬ q'.F M.lb ∧ ¬ q'.F M.p ∧ ¬ q'.F M.b ∧ ¬ q'.F M.tb := by
  obtain ⟨a, b⟩ := SeatAt.off h.plan h.seat
  exact ⟨h.plan.off h.obj (by decide) (by decide) (by decide), a, b, h.plan.off h.ctx (by decide) (by decide) (by decide)⟩
/-- behind a call that lays words -/
theorem grew (h : LaySt w q M W q' t hs vs a1 g lv cx) (hP : PlanAt W2 q2 t hs2 vs2) (e : q2.p = q'.p) (k : Wrote q'.F W W2) (c : Came W q'.F q2.F) : LaySt w q M W2 q2 t hs2 vs2 a1 g lv cx := by
  obtain ⟨o1, o2, o3, o4⟩ := h.off
  refine ⟨hP, e.trans h.pq, h.came.trans c h.wr.size, h.wr.trans k fun j hj e => ?_, (k.block _ (blk_lt h.obj) o1).trans h.obj, h.seat.wrote k o2 o3, (k.block _ (blk_lt h.ctx) o4).trans h.ctx, h.lt, h.ne⟩
  rcases h.came j e with e | e
  · exact .inl e
  · omega
/-- beside what turns none of its blocks -/
theorem beside {S : Nat → Prop} (h : LaySt w q M W q' t hs vs a1 g lv cx) (k : Wrote S W W2) (hS : ∀ j, S j → w.heap.size ≤ j ∧ ¬ q'.F j) : LaySt w q M W2 q' t hs vs a1 g lv cx := by
  obtain ⟨l1, l2, l3, l4⟩ := h.lt
  have n : ∀ j, j < w.heap.size → ¬ S j := fun j hj e => by have := (hS j e).1; omega
  exact ⟨h.plan.wrote k fun j hj e => (hS j e).2 hj, h.pq, h.came, h.wr.trans k fun j hj e => (n j hj e).elim, (k.block _ (blk_lt h.obj) (n _ l1)).trans h.obj, h.seat.wrote k (n _ l2) (n _ l3), (k.block _ (blk_lt h.ctx) (n _ l4)).trans h.ctx, h.lt, h.ne⟩
theorem after (h : LaySt w q M W q' t hs vs a1 g lv cx) (k : Wrote Nil W W2) : LaySt w q M W2 q' t hs vs a1 g lv cx := h.beside k fun _ e => e.elim
theorem set0 (h : LaySt w q M W q' t hs vs a1 g lv cx) (i : Nat) (v : Value) {a1' : Int} {g' : Value} {lv' : Nat → Value} (e : (objC M.p M.bud a1 g lv M.tb M.n).setIfInBounds i v = objC M.p M.bud a1' g' lv' M.tb M.n) :
    LaySt w q M (W.setCell ⟨M.lb, i, none⟩ v) q' t hs vs a1' g' lv' cx := by
  have k : Wrote (One M.lb) W (W.setCell ⟨M.lb, i, none⟩ v) := (Wrote.refl _ W).setCell _ _ fun _ => rfl
  have o := h.off
  refine ⟨h.plan.wrote k fun j hj e => by unfold One at e; subst e; exact o.1 hj, h.pq, h.came, h.wr.trans k fun j hj e => .inr (.inl e), ?_, h.seat.wrote k (fun e => h.ne.2.2.2.2 e.symm) (fun e => h.ne.1 e.symm), (k.block _ (blk_lt h.ctx) (fun e => h.ne.2.1 e.symm)).trans h.ctx, h.lt, h.ne⟩
  rw [blk_setCell h.obj, e]
theorem ctxs {cx' : List Value} (h : LaySt w q M W q' t hs vs a1 g lv cx) (hc : W2.heap[M.tb]? = some (.cells cx'.toArray 144 (0, 0))) (k : Wrote (One M.tb) W W2) : LaySt w q M W2 q' t hs vs a1 g lv cx' := by
  have o := h.off
  exact ⟨h.plan.wrote k fun j hj e => by unfold One at e; subst e; exact o.2.2.2 hj, h.pq, h.came, h.wr.trans k fun j hj e => .inr (.inr e), (k.block _ (blk_lt h.obj) h.ne.2.1).trans h.obj, h.seat.wrote k h.ne.2.2.1 h.ne.2.2.2.1, hc, h.lt, h.ne⟩
theorem cell (h : LaySt w q M W q' t hs vs a1 g lv cx) (i : Nat) : W.cell? ⟨M.lb, i, none⟩ = (objC M.p M.bud a1 g lv M.tb M.n)[i]? := blk_cell h.obj i
theorem frz (h : LaySt w q M W q' t hs vs a1 g lv cx) (i : Nat) : W.frozen? ⟨M.lb, i, none⟩ = false := blk_frozen h.obj i
end LaySt
/-- a row of numbers of the call's own, no block of the plan's -/
structure OwnR (w : World) (W : World) (q' : Pl) (v : Value) (l : List Nat) : Prop where
  row : RowQ W v (l.map natV)
  off : ∀ j, v.ownBlock = some j → w.heap.size ≤ j ∧ ¬ q'.F j
namespace OwnR
variable {w W W2 : World} {q' q2 : Pl} {v : Value} {l : List Nat}
theorem grew (h : OwnR w W q' v l) (k : Wrote q'.F W W2) (c : Came W q'.F q2.F) : OwnR w W2 q2 v l :=
  ⟨h.row.wrote k fun j hj => (h.off j hj).2, fun j hj => ⟨(h.off j hj).1, fun e => by
    rcases c j e with e | e
    · exact (h.off j hj).2 e
    · have := h.row.lt j hj; omega⟩⟩
theorem beside {S : Nat → Prop} (h : OwnR w W q' v l) (k : Wrote S W W2) (hS : ∀ j, v.ownBlock = some j → ¬ S j) : OwnR w W2 q' v l := ⟨h.row.wrote k hS, h.off⟩
theorem rowAt (h : OwnR w W q' v l) (hl : l ≠ []) : ∃ b o cap, v = .slice (some ⟨b, o, none⟩) l.length cap ∧ RowAt .i64 W (some ⟨b, o, none⟩) l.length (l.map fun (k : Nat) => (k : Int)) ∧ ¬ q'.F b := by
  have hr := h.row
  rcases hr with ⟨_, e⟩ | ⟨g, off, cap, cur, e, hg, h2, h3, h4⟩
  · exact absurd (List.map_eq_nil_iff.1 e) hl
  · rw [List.length_map] at e h2
    refine ⟨g, off, cap, e, ⟨List.length_map _, fun q => (by cases q), fun b hb j hj => ?_⟩, (h.off g (by rw [e]; rfl)).2⟩
    cases hb
    rw [Addr.add_lit, blk_cell hg]
    have : (l.map natV)[j]? = some (.int .i64 ((l.map fun (k : Nat) => (k : Int)).getD j 0)) := by
      rw [List.getElem?_map, List.getD_eq_getElem?_getD, List.getElem?_map, List.getElem?_eq_getElem hj]
      rfl
    exact h4 j _ this
end OwnR
/-- a number more, behind: beside a lock in the making -/
theorem OwnR.push {w W W2 : World} {q q' : Pl} {M : Mk} {t : Int} {hs vs : List Int} {a1 : Int} {g : Value} {lv : Nat → Value} {cx : List Value} {v v' : Value} {l : List Nat} (hL : LaySt w q M W q' t hs vs a1 g lv cx) (h : OwnR w W q' v l) {k : Nat} (hp : PushQ W W2 v v' (l.map natV) (natV k)) :
    LaySt w q M W2 q' t hs vs a1 g lv cx ∧ OwnR w W2 q' v' (l ++ [k]) := by
  obtain ⟨h1, h2, h3⟩ := hp
  refine ⟨hL.beside h2 fun j e => h.off j e, ⟨by rw [List.map_append]; exact h1, fun j hj => ?_⟩⟩
  rcases h3 with e | e
  · exact h.off j (e ▸ hj)
  · have := e j hj
    have := hL.wr.size
    exact ⟨by omega, fun x => by have := hL.plan.lt x; omega⟩

/-! ### the words of the nodes' locks -/
/-- the homes of the words of the first m nodes' locks, how many they are -/
def lH (K : Int) (cnt : Nat → Nat) : Nat → List Int
  | 0 => []
  | m + 1 => lH K cnt m ++ (if 0 < cnt m then inH K (List.replicate (cnt m) (m : Int)) else [])
def lZ (K : Int) (cnt : Nat → Nat) : Nat → Nat
  | 0 => 0
  | m + 1 => lZ K cnt m + (if 0 < cnt m then inZ K (cnt m) else 0)
theorem lH_len (K : Int) (cnt : Nat → Nat) (m : Nat) : (lH K cnt m).length = lZ K cnt m := by
  induction m with
  | zero => rfl
  | succ m ih =>
    unfold lH lZ
    rw [List.length_append, ih]
    split
    · rw [inH_len List.length_replicate]
    · rfl
theorem inZ_le (K : Int) (n : Nat) : inZ K n ≤ 2 * n + 2 := by unfold inZ; split; omega; split <;> omega
theorem lZ_le (K : Int) (cnt : Nat → Nat) (m : Nat) (h : ∀ c, cnt c ≤ 64) : lZ K cnt m ≤ m * 130 := by
  induction m with
  | zero => exact Nat.le_refl _
  | succ m ih =>
    unfold lZ
    have := inZ_le K (cnt m)
    have := h m
    split <;> omega
theorem lZ_mono (K : Int) (cnt : Nat → Nat) {c d : Nat} (h : c < d) (hc : 0 < cnt c) : lZ K cnt c + inZ K (cnt c) ≤ lZ K cnt d := by
  induction h with
  | refl => rw [show lZ K cnt (c + 1) = lZ K cnt c + (if 0 < cnt c then inZ K (cnt c) else 0) from rfl, if_pos hc]; exact Nat.le_refl _
  | step _ ih => refine Nat.le_trans ih ?_; rename_i m _; show _ ≤ lZ K cnt (m + 1); show lZ K cnt m ≤ lZ K cnt m + _; omega
def nodesI (k : Nat) : List Int := (List.range k).map fun (i : Nat) => (i : Int)
theorem nodesI_more (k : Nat) : nodesI (k + 1) = nodesI k ++ [(k : Int)] := by unfold nodesI; rw [List.range_succ, List.map_append]; rfl
end Go.Proofs.YtkmikkjjnbikdaaGreat
