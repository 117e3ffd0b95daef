/- What a pool is (of each node whose it is and whether it is out, of each thread its row), how one lies in the heap, and what stores do to it; no walk. -/
import Derived.Test.YtdhpmcafekpfhaaGreatRecs
namespace Go.Proofs.YtdhpmcafekpfhaaGreat
open Go.RowKit
set_option linter.unusedVariables false

/-! ### plain -/
/-- a pool: n nodes, numbered from 1 on; T threads -/
structure PS where
  n : Nat
  T : Nat
  own : Nat → Int
  out : Nat → Bool
  row : Nat → List Nat

def idv (id : Nat) : Value := .int .i64 (id : Int)
/-- the two cells of a node -/
def nodeC (s : PS) (id : Nat) : List Value := [.int .i64 (s.own id), .bool (s.out id)]
/-- the numbers of n nodes -/
def ids (n : Nat) : List Nat := (List.range n).map (· + 1)
theorem ids_len (n : Nat) : (ids n).length = n := by simp [ids]
theorem ids_at {n k : Nat} (h : k < n) : (ids n)[k]? = some (k + 1) := by simp [ids, List.getElem?_range h]
theorem ids_some {n k x : Nat} (h : (ids n)[k]? = some x) : k < n ∧ x = k + 1 := by
  have hk : k < n := by have := (List.getElem?_eq_some_iff.1 h).1; rwa [ids_len] at this
  rw [ids_at hk] at h
  exact ⟨hk, by simpa using h.symm⟩
theorem nodeC_len (s : PS) : ∀ x, (nodeC s x).length = 2 := fun _ => rfl

def PS.setOut (s : PS) (id : Nat) (b : Bool) : PS := { s with out := upd s.out id b }
def PS.setOwn (s : PS) (id : Nat) (t : Int) : PS := { s with own := upd s.own id t }
def PS.setRow (s : PS) (t : Nat) (l : List Nat) : PS := { s with row := upd s.row t l }

/-- what came is new -/
def Grew (w : World) (F F' : Nat → Prop) : Prop := ∀ k, F' k → F k ∨ w.heap.size ≤ k
theorem Grew.refl (w : World) (F : Nat → Prop) : Grew w F F := fun _ h => .inl h
theorem Grew.trans {w w' : World} {F F' F'' : Nat → Prop} (h : Grew w F F') (k : Grew w' F' F'') (hs : w.heap.size ≤ w'.heap.size) : Grew w F F'' := fun b hb => by
  rcases k b hb with x | x
  · exact h b x
  · exact .inr (Nat.le_trans hs x)
theorem wrote_grew {w w1 w2 : World} {F F' : Nat → Prop} (h : Wrote F w w1) (k : Wrote F' w1 w2) (c : Grew w F F') : Wrote F w w2 :=
  h.trans k fun b hb x => (c b x).elim id fun y => absurd hb (by omega)

/-! ### a pool in the heap -/
/-- where a pool lies -/
structure Pp where
  p : Nat
  nv : Value
  rb : Nat
  rv : Nat → Value
/-- the block of its nodes -/
def Pp.nb (q : Pp) : Nat := q.nv.ownBlock.getD 0
def Pp.F (q : Pp) (T : Nat) (k : Nat) : Prop := k = q.p ∨ k = q.rb ∨ q.nv.ownBlock = some k ∨ ∃ t, t < T ∧ (q.rv t).ownBlock = some k
def Pp.setR (q : Pp) (t : Nat) (v : Value) : Pp := { q with rv := upd q.rv t v }

structure PoolAt (w : World) (q : Pp) (s : PS) : Prop where
  obj : w.heap[q.p]? = some (.cells #[q.nv, .slice (some ⟨q.rb, 0, none⟩) s.T s.T] 135 (0, 0))
  nodes : w.ownsRow 0 139 2 q.nv s.n ((ids s.n).flatMap (nodeC s))
  rows : w.rowIs q.rb 22 s.T q.rv
  row : ∀ t, t < s.T → w.ownsRow 0 3 1 (q.rv t) (s.row t).length ((s.row t).map idv)
  apart : ∀ t u, t < s.T → u < s.T → ∀ k, (q.rv t).ownBlock = some k → (q.rv u).ownBlock = some k → t = u
  far : ∀ t, t < s.T → ∀ k, (q.rv t).ownBlock = some k → k ≠ q.p ∧ k ≠ q.rb ∧ q.nv.ownBlock ≠ some k
  low : q.p ≠ q.rb ∧ q.nv.ownBlock ≠ some q.p ∧ q.nv.ownBlock ≠ some q.rb

namespace PoolAt
variable {w w' w1 : World} {q : Pp} {s : PS}
theorem lt (h : PoolAt w q s) {k : Nat} (hk : q.F s.T k) : k < w.heap.size := by
  rcases hk with rfl | rfl | x | ⟨t, ht, x⟩
  · exact blk_lt h.obj
  · exact h.rows.lt
  · exact (h.nodes.lt k x).2
  · exact ((h.row t ht).lt k x).2
theorem wrote {S : Nat → Prop} (h : PoolAt w q s) (k : Wrote S w w') (hS : ∀ b, q.F s.T b → ¬ S b) : PoolAt w' q s :=
  ⟨(k.block q.p (blk_lt h.obj) (hS _ (.inl rfl))).trans h.obj, ownsRow_keep h.nodes fun j hj => k.block j (h.lt (.inr (.inr (.inl hj)))) (hS j (.inr (.inr (.inl hj)))),
    h.rows.of_block (k.block q.rb h.rows.lt (hS _ (.inr (.inl rfl)))), fun t ht => ownsRow_keep (h.row t ht) fun j hj => k.block j (h.lt (.inr (.inr (.inr ⟨t, ht, hj⟩)))) (hS j (.inr (.inr (.inr ⟨t, ht, hj⟩)))), h.apart, h.far, h.low⟩
theorem after (h : PoolAt w q s) (k : Wrote Nil w w') : PoolAt w' q s := h.wrote k fun _ _ => id
theorem cell0 (h : PoolAt w q s) : w.cell? ⟨q.p, 0, none⟩ = some q.nv := by rw [blk_cell h.obj]; rfl
theorem cell1 (h : PoolAt w q s) : w.cell? ⟨q.p, 1, none⟩ = some (.slice (some ⟨q.rb, 0, none⟩) s.T s.T) := by rw [blk_cell h.obj]; rfl
theorem frozen (h : PoolAt w q s) (k : Nat) : w.frozen? ⟨q.p, k, none⟩ = false := blk_frozen h.obj k
/-- where the nodes lie -/
theorem nodeV (h : PoolAt w q s) (hn : 0 < s.n) : ∃ cap, q.nv = .slice (some ⟨q.nb, 0, none⟩) s.n cap ∧ s.n ≤ cap := by
  rcases h.nodes.2 with ⟨_, h0⟩ | ⟨g, cap, cur, hv, _, _, hc, _⟩
  · omega
  · exact ⟨cap, by rw [hv]; simp [Pp.nb, hv, Value.ownBlock], hc⟩
theorem nodeRecs (h : PoolAt w q s) (hn : 0 < s.n) : RecsAt (nodeC s) 2 w (some ⟨q.nb, 0, none⟩) s.n (ids s.n) := by
  obtain ⟨sa, cap, hv, _, hr, _⟩ := own_recs (nodeC_len s) h.nodes (by decide)
  obtain ⟨cap', hv', _⟩ := h.nodeV hn
  rw [hv'] at hv
  simp only [Value.slice.injEq] at hv
  rw [hv.1]
  exact hr
theorem nodeF (h : PoolAt w q s) (hn : 0 < s.n) (k : Nat) : w.frozen? ⟨q.nb, k, none⟩ = false := by
  rcases h.nodes.2 with ⟨_, h0⟩ | ⟨g, cap, cur, hv, _, hg, _⟩
  · omega
  · have : q.nb = g := by simp [Pp.nb, hv, Value.ownBlock]
    rw [this]
    exact blk_frozen hg k
theorem nodeB (h : PoolAt w q s) (hn : 0 < s.n) : q.nv.ownBlock = some q.nb := by
  obtain ⟨cap, hv, _⟩ := h.nodeV hn
  rw [hv]
  rfl
theorem node0 (h : PoolAt w q s) {k : Nat} (hk : k < s.n) : w.cell? ⟨q.nb, k * 2, none⟩ = some (.int .i64 (s.own (k + 1))) := by
  have := (h.nodeRecs (by omega)).cell _ rfl k (k + 1) (ids_at hk) 0 _ rfl
  rw [Go.Addr.add_lit] at this
  simpa using this
theorem node1 (h : PoolAt w q s) {k : Nat} (hk : k < s.n) : w.cell? ⟨q.nb, k * 2 + 1, none⟩ = some (.bool (s.out (k + 1))) := by
  have := (h.nodeRecs (by omega)).cell _ rfl k (k + 1) (ids_at hk) 1 _ rfl
  rw [Go.Addr.add_lit] at this
  simpa using this
theorem rowCell (h : PoolAt w q s) {t : Nat} (ht : t < s.T) : w.cell? ⟨q.rb, t, none⟩ = some (q.rv t) := h.rows.cell ht
/-- a row with an element: where it lies -/
theorem rowV (h : PoolAt w q s) {t : Nat} (ht : t < s.T) : ∃ so cap, q.rv t = .slice so (s.row t).length cap ∧ (so = none → cap = 0) := own_slice (h.row t ht)

/-- a cell of a node turned -/
theorem setNode (h : PoolAt w q s) {k j : Nat} (hk : k < s.n) (hj : j < 2) (v : Value) (s' : PS) (hn : s'.n = s.n) (hT : s'.T = s.T) (hr : s'.row = s.row)
    (hv : ∀ i, i < s.n → ∀ l, l < 2 → (nodeC s' (i + 1))[l]? = if i = k ∧ l = j then some v else (nodeC s (i + 1))[l]?) :
    PoolAt (w.setCell ⟨q.nb, k * 2 + j, none⟩ v) q s' ∧ Wrote (q.F s.T) w (w.setCell ⟨q.nb, k * 2 + j, none⟩ v) := by
  have h0 : 0 < s.n := by omega
  obtain ⟨cap, hnv, hcap⟩ := h.nodeV h0
  have hb := h.nodeB h0
  have hW : Wrote (One q.nb) w (w.setCell ⟨q.nb, k * 2 + j, none⟩ v) := (Wrote.refl _ w).setCell _ _ fun _ => rfl
  refine ⟨⟨?_, ?_, ?_, fun t ht => ?_, ?_, ?_, h.low⟩, hW.mono fun b _ e => by cases e; exact .inr (.inr (.inl hb))⟩
  · rw [hT]
    exact (hW.block q.p (blk_lt h.obj) (fun e => h.low.2.1 (by rw [hb]; exact congrArg some (Eq.symm e)))).trans h.obj
  · have hn0 := h.nodes
    rw [hnv] at hn0 ⊢
    rw [hn]
    refine ownsRow_set hn0 (k * 2 + j) v (by omega) ?_
    refine flat_set (nodeC_len s) (nodeC_len s') _ k j hj v fun i x hx l hl => ?_
    obtain ⟨hi, rfl⟩ := ids_some hx
    exact hv i hi l hl
  · rw [hT]
    exact h.rows.of_block (hW.block q.rb h.rows.lt (fun e => h.low.2.2 (by rw [hb]; exact congrArg some (Eq.symm e))))
  · rw [hT] at ht
    rw [hr]
    exact ownsRow_keep (h.row t ht) fun b hb' => hW.block b ((h.row t ht).lt b hb').2 (fun e => (h.far t ht b hb').2.2 (by rw [hb]; exact congrArg some (Eq.symm e)))
  · rw [hT]; exact h.apart
  · rw [hT]; exact h.far
theorem setOut (h : PoolAt w q s) {k : Nat} (hk : k < s.n) (b : Bool) :
    PoolAt (w.setCell ⟨q.nb, k * 2 + 1, none⟩ (.bool b)) q (s.setOut (k + 1) b) ∧ Wrote (q.F s.T) w (w.setCell ⟨q.nb, k * 2 + 1, none⟩ (.bool b)) := by
  refine h.setNode hk (by decide) _ _ rfl rfl rfl fun i hi l hl => ?_
  have : l = 0 ∨ l = 1 := by omega
  rcases this with rfl | rfl
  · rw [if_neg (by omega)]; rfl
  · by_cases e : i = k
    · subst e
      rw [if_pos ⟨rfl, rfl⟩]
      simp [nodeC, PS.setOut, upd_same]
    · rw [if_neg (by omega)]
      simp [nodeC, PS.setOut, upd_other _ _ (show i + 1 ≠ k + 1 by omega)]
theorem setOwn (h : PoolAt w q s) {k : Nat} (hk : k < s.n) (t : Int) :
    PoolAt (w.setCell ⟨q.nb, k * 2, none⟩ (.int .i64 t)) q (s.setOwn (k + 1) t) ∧ Wrote (q.F s.T) w (w.setCell ⟨q.nb, k * 2, none⟩ (.int .i64 t)) := by
  refine h.setNode (j := 0) hk (by decide) _ _ rfl rfl rfl fun i hi l hl => ?_
  have : l = 0 ∨ l = 1 := by omega
  rcases this with rfl | rfl
  · by_cases e : i = k
    · subst e
      rw [if_pos ⟨rfl, rfl⟩]
      simp [nodeC, PS.setOwn, upd_same]
    · rw [if_neg (by omega)]
      simp [nodeC, PS.setOwn, upd_other _ _ (show i + 1 ≠ k + 1 by omega)]
  · rw [if_neg (by omega)]; rfl

/-- a row turned: its own cells, then its value -/
theorem setRow (h : PoolAt w q s) {t : Nat} (ht : t < s.T) {v : Value} {l : List Nat} (hown : w1.ownsRow 0 3 1 v l.length (l.map idv)) (hW : Wrote (fun k => (q.rv t).ownBlock = some k) w w1) (hat : ∀ k, v.ownBlock = some k → (q.rv t).ownBlock = some k ∨ w.heap.size ≤ k) :
    PoolAt (w1.setCell ⟨q.rb, t, none⟩ v) (q.setR t v) (s.setRow t l) ∧ Wrote (q.F s.T) w (w1.setCell ⟨q.rb, t, none⟩ v) ∧ Grew w (q.F s.T) ((q.setR t v).F s.T) := by
  have lp := blk_lt h.obj
  have lr := h.rows.lt
  have hB : Wrote (One q.rb) w1 (w1.setCell ⟨q.rb, t, none⟩ v) := (Wrote.refl _ w1).setCell _ _ fun _ => rfl
  have hA : Wrote (fun k => k = q.rb ∨ (q.rv t).ownBlock = some k) w (w1.setCell ⟨q.rb, t, none⟩ v) := (hW.mono fun _ _ e => .inr e).trans hB fun b _ e => .inl e
  have hrow1 := h.rows.of_block (hW.block q.rb lr (fun e => (h.far t ht _ e).2.1 rfl))
  have hne : ∀ k, v.ownBlock = some k → k ≠ q.rb ∧ k ≠ q.p ∧ q.nv.ownBlock ≠ some k := fun k hk => by
    rcases hat k hk with x | x
    · have := h.far t ht k x
      exact ⟨this.2.1, this.1, this.2.2⟩
    · exact ⟨by omega, by omega, fun e => by have := (h.nodes.lt k e).2; omega⟩
  refine ⟨⟨?_, ?_, ?_, fun u hu => ?_, fun a b ha hb k h1 h2 => ?_, fun u hu k hk => ?_, h.low⟩, hA.mono fun b _ e => ?_, fun k hk => ?_⟩
  · exact (hA.block q.p lp (fun e => e.elim h.low.1 (fun x => (h.far t ht _ x).1 rfl))).trans h.obj
  · exact ownsRow_keep h.nodes fun b hb => hA.block b (h.nodes.lt b hb).2 (fun e => e.elim (fun x => h.low.2.2 (by rw [← x]; exact hb)) (fun x => (h.far t ht _ x).2.2 hb))
  · exact hrow1.set t v
  · by_cases e : u = t
    · subst e
      simp only [Pp.setR, PS.setRow, upd_same]
      exact ownsRow_keep hown fun b hb => hB.block b (hown.lt b hb).2 (hne b hb).1
    · simp only [Pp.setR, PS.setRow, upd_other _ _ e]
      exact ownsRow_keep (h.row u hu) fun b hb => hA.block b ((h.row u hu).lt b hb).2 (fun x => x.elim (h.far u hu b hb).2.1 (fun y => e (h.apart u t hu ht b hb y)))
  · have key : ∀ c, c < s.T → c ≠ t → (q.rv c).ownBlock = some k → v.ownBlock ≠ some k := fun c hc hct e1 e2 => by
      rcases hat k e2 with x | x
      · exact hct (h.apart c t hc ht k e1 x)
      · have := ((h.row c hc).lt k e1).2; omega
    by_cases ea : a = t
    · by_cases eb : b = t
      · rw [ea, eb]
      · subst ea
        simp only [Pp.setR, upd_same, upd_other _ _ eb] at h1 h2
        exact absurd h1 (key b hb eb h2)
    · by_cases eb : b = t
      · subst eb
        simp only [Pp.setR, upd_same, upd_other _ _ ea] at h1 h2
        exact absurd h2 (key a ha ea h1)
      · simp only [Pp.setR, upd_other _ _ ea, upd_other _ _ eb] at h1 h2
        exact h.apart a b ha hb k h1 h2
  · by_cases e : u = t
    · subst e
      simp only [Pp.setR, upd_same] at hk
      have := hne k hk
      exact ⟨this.2.1, this.1, this.2.2⟩
    · simp only [Pp.setR, upd_other _ _ e] at hk
      exact h.far u hu k hk
  · exact e.elim (fun x => .inr (.inl x)) (fun x => .inr (.inr (.inr ⟨t, ht, x⟩)))
  · rcases hk with x | x | x | ⟨u, hu, x⟩
    · exact .inl (.inl x)
    · exact .inl (.inr (.inl x))
    · exact .inl (.inr (.inr (.inl x)))
    · by_cases e : u = t
      · subst e
        simp only [Pp.setR, upd_same] at x
        rcases hat k x with y | y
        · exact .inl (.inr (.inr (.inr ⟨u, hu, y⟩)))
        · exact .inr y
      · simp only [Pp.setR, upd_other _ _ e] at x
        exact .inl (.inr (.inr (.inr ⟨u, hu, x⟩)))
end PoolAt

/-- behind a call that turns the pool: what there is now, and what may have turned -/
def PoolPost (w : World) (q : Pp) (s : PS) (r : Value) (e : Ending) (w' : World) : Prop :=
  e = .returned r ∧ ∃ q' : Pp, q'.p = q.p ∧ PoolAt w' q' s ∧ Wrote (q.F s.T) w w' ∧ Grew w (q.F s.T) (q'.F s.T)
end Go.Proofs.YtdhpmcafekpfhaaGreat
