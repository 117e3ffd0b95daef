/- The contract of package pool's Give. -/
import Derived.Test.YtdhpmcafekpfhaaGreatPoolDo
import Derived.StillTailTactics
import Derived.Deep.AppendLies
import Derived.Deep.Cut
import Derived.Deep.RegionHeld3
namespace Go.Proofs.YtdhpmcafekpfhaaGreat
open Go.RowKit
set_option linter.unusedVariables false

/-! ### plain -/
def without (l : List Nat) (id : Nat) : List Nat := l.filter fun x => !decide (x = id)
def PS.give (s : PS) (id : Nat) (to : Int) : PS := { s with own := upd s.own id to, row := fun t => without (s.row t) id ++ if to = (t : Int) then [id] else [] }
theorem without_not {l : List Nat} {id : Nat} (h : id ∉ l) : without l id = l := by
  unfold without
  rw [List.filter_eq_self]
  intro x hx
  have : x ≠ id := fun e => h (e ▸ hx)
  simp [this]
theorem without_erase : ∀ {l : List Nat} {i id : Nat}, l.Nodup → l[i]? = some id → l.eraseIdx i = without l id
  | [], i, id, _, h => by simp at h
  | x :: r, 0, id, hd, h => by
    obtain rfl : x = id := by simpa using h
    have hx : x ∉ r := (List.nodup_cons.1 hd).1
    have e := without_not hx
    unfold without at e ⊢
    rw [List.eraseIdx_cons_zero, List.filter_cons, if_neg (by simp), e]
  | x :: r, i + 1, id, hd, h => by
    have h' : r[i]? = some id := by simpa using h
    have hx : x ≠ id := fun e => (List.nodup_cons.1 hd).1 (e ▸ List.mem_of_getElem? h')
    have e := without_erase (List.nodup_cons.1 hd).2 h'
    unfold without at e ⊢
    rw [List.eraseIdx_cons_succ, List.filter_cons, if_pos (by simp [hx]), e]
theorem idx_mem {l : List Nat} {id : Nat} (h : id ∈ l) : ∃ i : Nat, l[i]? = some id ∧ idxI (fun x : Nat => decide ((x : Int) = (id : Int))) l = (i : Int) := by
  cases hf : l.find? (fun x : Nat => decide ((x : Int) = (id : Int))) with
  | none =>
    rw [List.find?_eq_none] at hf
    exact absurd (hf id h) (by simp)
  | some y =>
    have hy : y = id := by
      have := List.find?_some hf
      simp at this
      omega
    subst hy
    exact find_idx hf

theorem flat_same {α β : Type} {f g : α → List β} : ∀ {l : List α}, (∀ x ∈ l, f x = g x) → l.flatMap f = l.flatMap g
  | [], _ => rfl
  | x :: r, h => by rw [List.flatMap_cons, List.flatMap_cons, h x (by simp), flat_same fun y hy => h y (by simp [hy])]
theorem PoolAt.congr {w : World} {q : Pp} {s s' : PS} (h : PoolAt w q s) (hn : s'.n = s.n) (hT : s'.T = s.T) (ho : ∀ id, 1 ≤ id → id ≤ s.n → s'.own id = s.own id ∧ s'.out id = s.out id) (hr : ∀ t, t < s.T → s'.row t = s.row t) : PoolAt w q s' := by
  refine ⟨by rw [hT]; exact h.obj, ?_, by rw [hT]; exact h.rows, fun t ht => ?_, by rw [hT]; exact h.apart, by rw [hT]; exact h.far, h.low⟩
  · rw [hn]
    have e : (ids s.n).flatMap (nodeC s') = (ids s.n).flatMap (nodeC s) := by
      refine flat_same fun x hx => ?_
      obtain ⟨k, hk⟩ := List.getElem?_of_mem hx
      obtain ⟨hk, rfl⟩ := ids_some hk
      obtain ⟨e1, e2⟩ := ho (k + 1) (by omega) (by omega)
      simp [nodeC, e1, e2]
    rw [e]
    exact h.nodes
  · rw [hT] at ht
    rw [hr t ht]
    exact h.row t ht

/-- what is there while a node is given away: the pool, its row taken out or laid on, and the number that is given -/
structure GMid (w : World) (q : Pp) (s s' : PS) (B : Nat) (id : Nat) (q' : Pp) (wr : World) : Prop where
  p : q'.p = q.p
  nv : q'.nv = q.nv
  rb : q'.rb = q.rb
  pool : PoolAt wr q' s'
  wrote : Wrote (q.F s.T) w wr
  grew : Grew w (q.F s.T) (q'.F s.T)
  box : wr.heap[B]? = some (.cells #[.int .i64 (id : Int)] 3 (0, 0))
  new : w.heap.size ≤ B
  far : ¬ q'.F s.T B
namespace GMid
variable {w wr wr' : World} {q q' : Pp} {s s' : PS} {B id : Nat}
theorem after (h : GMid w q s s' B id q' wr) (k : Wrote Nil wr wr') : GMid w q s s' B id q' wr' :=
  ⟨h.p, h.nv, h.rb, h.pool.after k, h.wrote.trans k (fun _ _ x => x.elim), h.grew, (k.block B (blk_lt h.box) fun x => x).trans h.box, h.new, h.far⟩
theorem congr {s'' : PS} (h : GMid w q s s' B id q' wr) (hn : s''.n = s'.n) (hT : s''.T = s'.T) (ho : ∀ id, 1 ≤ id → id ≤ s'.n → s''.own id = s'.own id ∧ s''.out id = s'.out id) (hr : ∀ t, t < s'.T → s''.row t = s'.row t) : GMid w q s s'' B id q' wr :=
  ⟨h.p, h.nv, h.rb, h.pool.congr hn hT ho hr, h.wrote, h.grew, h.box, h.new, h.far⟩
/-- a row turned -/
theorem setRow (h : GMid w q s s' B id q' wr) (hT : s'.T = s.T) {t : Nat} (ht : t < s.T) {v : Value} {l : List Nat} {w1 : World} (hown : w1.ownsRow 0 3 1 v l.length (l.map idv)) (hW : Wrote (fun k => (q'.rv t).ownBlock = some k) wr w1) (hat : ∀ k, v.ownBlock = some k → (q'.rv t).ownBlock = some k ∨ wr.heap.size ≤ k) :
    GMid w q s (s'.setRow t l) B id (q'.setR t v) (w1.setCell ⟨q.rb, t, none⟩ v) := by
  obtain ⟨a1, a2, a3⟩ := h.pool.setRow (by rw [hT]; exact ht) hown hW hat
  rw [hT] at a2 a3
  rw [h.rb] at a1 a2
  have lB := blk_lt h.box
  refine ⟨h.p, h.nv, h.rb, a1, wrote_grew h.wrote a2 h.grew, h.grew.trans a3 h.wrote.size, ?_, h.new, fun x => ?_⟩
  · rw [a2.block B lB h.far]
    exact h.box
  · rcases a3 B x with y | y
    · exact h.far y
    · omega
/-- the owner turned: the end -/
theorem fin (h : GMid w q s s' B id q' wr) (hT : s'.T = s.T) (hn : s'.n = s.n) {k : Nat} (hk : k < s.n) (to : Int) (s'' : PS) (e : s'.setOwn (k + 1) to = s'') :
    PoolPost w q s'' (.int .i64 0) (.returned (.int .i64 0)) (wr.setCell ⟨q.nb, k * 2, none⟩ (.int .i64 to)) := by
  obtain ⟨a1, a2⟩ := h.pool.setOwn (k := k) (by rw [hn]; exact hk) to
  have hnb : q'.nb = q.nb := by unfold Pp.nb; rw [h.nv]
  rw [hnb] at a1 a2
  rw [e] at a1
  have hT' : s''.T = s.T := by rw [← e]; exact hT
  rw [hT] at a2
  refine ⟨rfl, q', h.p, a1, ?_, ?_⟩
  · rw [hT']
    exact wrote_grew h.wrote a2 h.grew
  · rw [hT']
    exact h.grew
end GMid

theorem gmid_start {w : World} {q : Pp} {s : PS} (h : PoolAt w q s) (id : Nat) : GMid w q s s w.heap.size id q (w.alloc (.cells #[.int .i64 (id : Int)] 3)) :=
  ⟨rfl, rfl, rfl, h.after ((Wrote.refl _ _).alloc _), (Wrote.refl _ _).alloc _, Grew.refl _ _, Go.Deep.blk_alloc_new _ _, Nat.le_refl _, fun x => by have := h.lt x; omega⟩

/-! ### what is no giving -/
/-! ### a giving -/
theorem po_tail {P : Program} {id : Nat} {Q : Exit → Act → World → Prop} {a : Act} {w : World} {l : List Oper} (n : Nat) (hm : P.follows .mixedOrders = true) (hB : Region.lexTailB .any l.toArray n = true)
    (h : wpStill P l.toArray w.drew (fun a' => wpList P l.toArray Q (l.drop n) a' w.drew) (l.take n) a) : (Code.region id l.toArray true).wp P Q a w := wp_region_still_tail n hm hB h

/-- the row that a node leaves -/
def PS.leave (s : PS) (id : Nat) : PS := { s with row := fun t => without (s.row t) id }

theorem give_none (s : PS) (id : Nat) : (s.leave id).setOwn id (-1) = s.give id (-1) := by
  unfold PS.leave PS.setOwn PS.give
  simp only [PS.mk.injEq, true_and]
  funext t
  rw [if_neg (by omega), List.append_nil]
theorem give_some (s : PS) (id t : Nat) : ((s.leave id).setRow t (without (s.row t) id ++ [id])).setOwn id (t : Int) = s.give id (t : Int) := by
  unfold PS.leave PS.setOwn PS.setRow PS.give
  simp only [PS.mk.injEq, true_and]
  funext u
  by_cases e : u = t
  · subst e
    rw [upd_same, if_pos rfl]
  · rw [upd_other _ _ e, if_neg (by omega), List.append_nil]

end Go.Proofs.YtdhpmcafekpfhaaGreat
